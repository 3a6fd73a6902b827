import PyProof.Rows.All
import Wide.All
import OpenK.AllK
import Wide.FinOn
import Lean
import PyProof.EqAt
import PyProof.EqKinds
import PyProof.TupleCall
import PySem.Challenge.RW_rollcode_k12_writes_that_were_torn
import PyProof.StationsW
import PyProof.ExcClass2
import OpenK.KOwn
import PyProof.ExcBaseAll.ValueError
import PyProof.RulesAs
import PyProof.NsDelKeeps
import PyProof.Rows.Catch
import KE.KIsAll
import PyProof.ExcArgsOwn
import PyProof.Rows.CatchOwn
import PyProof.ExcAttrAll.ValueError
import PyProof.AttrMissHeap
import PyProof.Rows.SetFrom
import KE.KDictOf
import PyProof.DictWalks
import PyProof.Rows.DictUnroll
import PyProof.FactsAll.set
import PyProof.CollectWalk
import KE.KDictList
set_option Elab.async false
set_option maxRecDepth 100000
set_option maxHeartbeats 4000000
set_option linter.unusedVariables false
set_option linter.all false
namespace L2
open PySem PySem.Spec PyProof.Rows
abbrev Key := Sum Int Str
def keyIs : Key → Value → Bool
  | .inl k, v => Value.isInt k v
  | .inr x, v => Value.isStrOf x v
def keyH (w : World) : Key → Int
  | .inl k => hashInt k
  | .inr x => hashStr w x
theorem keyIs_shape : ∀ {k : Key} {v : Value}, keyIs k v = true → (∃ i t, k = Sum.inl i ∧ v = Value.int i t) ∨ (∃ x t, k = Sum.inr x ∧ v = Value.str x t)
  | .inl i, v, h => by
    obtain ⟨t, e⟩ := Value.isInt_shape (k := i) (v := v) h
    exact .inl ⟨i, t, rfl, e⟩
  | .inr x, v, h => by
    obtain ⟨t, e⟩ := Value.isStrOf_shape (x := x) (v := v) h
    exact .inr ⟨x, t, rfl, e⟩
theorem keyIs_int (i : Int) (t : Tok) : keyIs (.inl i) (.int i t) = true := by simp [keyIs, Value.isInt]
theorem keyIs_str (x : Str) (t : Tok) : keyIs (.inr x) (.str x t) = true := by simp [keyIs, Value.isStrOf]
theorem key_ll (a b : Int) : decide ((Sum.inl a : Key) = Sum.inl b) = (a == b) := by
  by_cases e : a = b
  · subst e; simp
  · have h : ¬ (Sum.inl a : Key) = Sum.inl b := fun q => e (Sum.inl.inj q)
    rw [decide_eq_false h]
    exact (beq_eq_false_iff_ne.mpr e).symm
theorem key_rr (a b : Str) : decide ((Sum.inr a : Key) = Sum.inr b) = decide (a = b) := by
  by_cases e : a = b
  · subst e; simp
  · have h : ¬ (Sum.inr a : Key) = Sum.inr b := fun q => e (Sum.inr.inj q)
    rw [decide_eq_false h, decide_eq_false e]
theorem key_lr (a : Int) (b : Str) : decide ((Sum.inl a : Key) = Sum.inr b) = false := decide_eq_false (fun q => nomatch q)
theorem key_rl (a : Str) (b : Int) : decide ((Sum.inr a : Key) = Sum.inl b) = false := decide_eq_false (fun q => nomatch q)
def mixKind (prog : Program) (w : World) : PySem.KeyKind prog w Key where
  is := keyIs
  hash := keyH w
  inj := fun v a b ha hb => by
    rcases keyIs_shape ha with ⟨i, t, rfl, rfl⟩ | ⟨x, t, rfl, rfl⟩
    · rcases keyIs_shape hb with ⟨j, u, rfl, e⟩ | ⟨y, u, rfl, e⟩
      · injection e with e1 _; rw [e1]
      · exact nomatch e
    · rcases keyIs_shape hb with ⟨j, u, rfl, e⟩ | ⟨y, u, rfl, e⟩
      · exact nomatch e
      · injection e with e1 _; rw [e1]
  byValue := fun k v h => by
    rcases keyIs_shape h with ⟨i, t, rfl, rfl⟩ | ⟨x, t, rfl, rfl⟩ <;> rfl
  pyHash := fun hv h => by
    rcases keyIs_shape hv with ⟨i, t, rfl, rfl⟩ | ⟨x, t, rfl, rfl⟩
    · exact wpAny_pyHash_int h
    · exact wpAny_pyHash_str h
  eqBool := fun hu hv h => by
    rcases keyIs_shape hu with ⟨i, t, rfl, rfl⟩ | ⟨x, t, rfl, rfl⟩
    · rcases keyIs_shape hv with ⟨j, u, rfl, rfl⟩ | ⟨y, u, rfl, rfl⟩
      · rw [key_ll] at h; exact wpAny_eqBool_int h
      · rw [key_lr] at h; exact SeqAt.EqAt.int_str i t y u _ _ _ _ h
    · rcases keyIs_shape hv with ⟨j, u, rfl, rfl⟩ | ⟨y, u, rfl, rfl⟩
      · rw [key_rl] at h; exact SeqAt.EqAt.str_int x t j u _ _ _ _ h
      · rw [key_rr] at h; exact wpAny_eqBool_str h
  «strs» := fun k x t v h => by
    rcases keyIs_shape h with ⟨i, u, rfl, e⟩ | ⟨y, u, rfl, e⟩
    · exact nomatch e
    · injection e with e1 _
      subst e1
      cases v <;> rfl
theorem mixKind_int (prog : Program) (w : World) (i : Int) (t : Tok) : (mixKind prog w).is (.inl i) (.int i t) = true := keyIs_int i t
theorem mixKind_str (prog : Program) (w : World) (x : Str) (t : Tok) : (mixKind prog w).is (.inr x) (.str x t) = true := keyIs_str x t
end L2
namespace L2
open PySem PySem.Spec PyProof.Rows
inductive V where
  | non | bl (b : Bool) | int (i : Int) | str (x : Str) | byt (b : Array UInt8) | flt (b : UInt64) | ref (a : Addr) | ty (n : String)
  deriving DecidableEq
def RelV : V → Value → Prop
  | .non, u => u = Value.none
  | .bl b, u => u = Value.bool b
  | .int i, u => ∃ t, u = Value.int i t
  | .str x, u => ∃ t, u = Value.str x t
  | .byt b, u => ∃ t, u = Value.bytes b t
  | .flt b, u => ∃ t, u = Value.float b t
  | .ref a, u => u = Value.ref a
  | .ty n, u => u = Value.type n
abbrev Vals : List V → List Value → Prop := Paired RelV
theorem Vals.length {xs : List V} {us : List Value} (r : Vals xs us) : xs.length = us.length := Paired.length r
theorem Vals.get : ∀ {xs : List V} {us : List Value} {i : Nat} {x : V}, Vals xs us → xs[i]? = some x → ∃ u, us[i]? = some u ∧ RelV x u
  | _, _, _, _, .nil, e => by simp at e
  | _, _, 0, _, .cons r _, e => by simp at e; subst e; exact ⟨_, rfl, r⟩
  | _, _, i + 1, x, .cons _ t, e => by
    obtain ⟨u, h1, h2⟩ := Vals.get (i := i) (x := x) t (by simpa using e)
    exact ⟨u, by simpa using h1, h2⟩
theorem Vals.set {x : V} {u : Value} (r : RelV x u) : ∀ {xs : List V} {us : List Value} (i : Nat), Vals xs us → Vals (xs.set i x) (us.set i u)
  | _, _, _, .nil => .nil
  | _, _, 0, .cons _ t => .cons r t
  | _, _, i + 1, .cons q t => .cons q (Vals.set r i t)
theorem Vals.append : ∀ {xs ys : List V} {us ws : List Value}, Vals xs us → Vals ys ws → Vals (xs ++ ys) (us ++ ws)
  | _, _, _, _, .nil, s => s
  | _, _, _, _, .cons r t, s => .cons r (Vals.append t s)
theorem Vals.take : ∀ {xs : List V} {us : List Value} (n : Nat), Vals xs us → Vals (xs.take n) (us.take n)
  | _, _, 0, _ => .nil
  | _, _, _ + 1, .nil => .nil
  | _, _, n + 1, .cons r t => .cons r (Vals.take n t)
theorem Vals.drop : ∀ {xs : List V} {us : List Value} (n : Nat), Vals xs us → Vals (xs.drop n) (us.drop n)
  | _, _, 0, r => r
  | _, _, _ + 1, .nil => .nil
  | _, _, n + 1, .cons _ t => Vals.drop n t
def RelO : Option V → Option Value → Prop
  | some v, some u => RelV v u
  | none, none => True
  | _, _ => False
def KV {κ : Type} : List (κ × V) → List (κ × Value) → Prop := Paired fun (p : κ × V) (q : κ × Value) => p.1 = q.1 ∧ RelV p.2 q.2
def kV : Key → V
  | .inl i => .int i
  | .inr x => .str x
inductive HO where
  /-- a list -/
  | lst (xs : List V)
  /-- a tuple (never changes) -/
  | tup (xs : List V)
  /-- a dict whose keys are ints and texts; one whose keys are tuples of ints and texts (the empty one is both) -/
  | dK (kvs : List (Key × V)) | dT (kvs : List (List Key × V))
  /-- a set of ints: its members, its size -/
  | set (S : Int → Bool) (n : Nat)
  /-- an instance of the class at C, its dict at dx, its attributes -/
  | ins (C dx : Addr) (fs : List (Str × V))
  /-- the dict of the instance at x -/
  | own (x : Addr)
  /-- the dict of an exception -/
  | xd (fs : List (Str × V))
  /-- a bound method, f of x -/
  | met (f x : Addr)
  /-- a range object lo, lo + 1, .. below hi -/
  | rng (lo hi : Int)
  /-- a thing that is known to the object (the script; a dict while a loop walks it): read, never written while it is so -/
  | frz (o : Obj) (u : HO)
  /-- a code object's table -/
  | tbl (ps : Array Value)
  /-- any other thing, by what is true of its one object (a def of one's own: SetO a S n := HO.ext fun h => ..) -/
  | ext (φ : Heap → Prop)
abbrev Hp := Addr → Option HO
def upd (H : Hp) (a : Addr) (o : HO) : Hp := fun b => if b = a then some o else H b
theorem upd_same {H : Hp} {a : Addr} {o : HO} : upd H a o a = some o := by unfold upd; rw [if_pos rfl]
theorem upd_ne {H : Hp} {a b : Addr} {o : HO} (h : b ≠ a) : upd H a o b = H b := by unfold upd; rw [if_neg h]
theorem ne_of {H : Hp} {a b : Addr} {o u : HO} (h : H a = some o) (h' : H b = some u) (d : o ≠ u) : a ≠ b := by
  intro e; subst e; rw [h] at h'; exact d (Option.some.inj h')
theorem ne_of_none {H : Hp} {a b : Addr} {o : HO} (h : H a = some o) (h' : H b = none) : a ≠ b := by
  intro e; subst e; rw [h] at h'; cases h'
section
variable (P : Program) (w : World)
def ObjOk (H : Hp) (h : Heap) (a : Addr) : HO → Prop
  | .lst xs => xs.length ≤ sizeLine ∧ ∃ (its : List Value) (n : Nat), Vals xs its ∧ h.get? a = some { cls := .type "list", data := .seq its.toArray n }
  | .tup xs => xs.length ≤ sizeLine ∧ ∃ its : List Value, Vals xs its ∧ IsTup h a its.toArray
  | .dK kvs => kvs.length ≤ sizeLine ∧ (a == sysModules) = false ∧ ∃ vs, KV kvs vs ∧ h.DictOf (mixKind P w) a vs
  | .dT kvs => kvs.length ≤ sizeLine ∧ (a == sysModules) = false ∧ ∃ xs : List (List Key × Addr × Value),
      Paired (fun (p : List Key × V) (q : List Key × Addr × Value) => p.1 = q.1 ∧ H q.2.1 = some (.tup (p.1.map kV)) ∧ RelV p.2 q.2.2) kvs xs ∧
      ∃ o es ep, h.get? a = some o ∧ o.ExactDict ∧ o.data = .dict es ep ∧ es.toList = xs.map (entryOfKey (tupleKind (mixKind P w))) ∧ (xs.map (·.1)).Nodup
  | .set S n => h.SetOf (intKind P w) a S n
  | .ins C dx fs => H dx = some (.own a) ∧ fs.length ≤ 1000 ∧ dx ≠ a ∧ h.get? a = some (PySem.W.instObj C dx) ∧
      ∃ mA, h.Ns1 dx mA ∧ (∀ f, RelO (fs.lookup f) (mA f)) ∧ PySem.Within mA (fs.map (·.1))
  | .own _ => ∃ o, h.get? a = some o
  | .xd fs => ∃ mA, h.Ns1 a mA ∧ ∀ f, RelO (fs.lookup f) (mA f)
  | .rng lo hi => ∃ t u v, h.get? a = some { cls := .type "range", data := .fields #[.int lo t, .int hi u, .int 1 v] }
  | .frz o u => h.get? a = some o ∧ ObjOk H h a u
  | .tbl ps => h.get? a = some { cls := .none, data := .fields ps }
  | .met f x => h.get? a = some (PySem.W.methodObj (.ref f) (.ref x))
  | .ext φ => φ h ∧ (∃ o, h.get? a = some o) ∧ ∀ h1 h2 : Heap, φ h1 → (∀ o, h1.get? a = some o → h2.get? a = some o) → φ h2
def HOk (H : Hp) (h : Heap) : Prop := ∀ a o, H a = some o → ObjOk P w H h a o
end
section
variable {P : Program} {w : World} {H H' : Hp} {h h' : Heap} {a : Addr} {o : HO}
theorem ObjOk.lt (x : ObjOk P w H h a o) : a < h.objs.size := by
  cases o with
  | lst xs => obtain ⟨_, _, _, _, e⟩ := x; exact Heap.lt_size e
  | tup xs => obtain ⟨_, _, _, p⟩ := x; exact p.lt
  | dK kvs => obtain ⟨_, _, _, _, o, _, _, e, _⟩ := x; exact Heap.lt_size e
  | dT kvs => obtain ⟨_, _, _, _, o, _, _, e, _⟩ := x; exact Heap.lt_size e
  | set S n => obtain ⟨o, _, _, _, e, _⟩ := x; exact Heap.lt_size e
  | ins C dx fs => obtain ⟨_, _, _, e, _⟩ := x; exact Heap.lt_size e
  | own y => obtain ⟨_, e⟩ := x; exact Heap.lt_size e
  | xd fs => obtain ⟨_, ⟨_, _, _, e, _⟩, _⟩ := x; exact Heap.lt_size e
  | rng lo hi => obtain ⟨_, _, _, e⟩ := x; exact Heap.lt_size e
  | frz ob u => obtain ⟨e, _⟩ := x; exact Heap.lt_size e
  | tbl ps => exact Heap.lt_size (show h.get? a = some _ from x)
  | met f y => exact Heap.lt_size (show h.get? a = some _ from x)
  | ext φ => obtain ⟨_, ⟨_, e⟩, _⟩ := x; exact Heap.lt_size e
theorem Paired.mapP {α β : Type} {F G : α → β → Prop} : ∀ {l₁ : List α} {l₂ : List β}, Paired F l₁ l₂ → (∀ a b, F a b → G a b) → Paired G l₁ l₂
  | _, _, .nil, _ => .nil
  | _, _, .cons r t, f => .cons (f _ _ r) (Paired.mapP t f)
theorem ObjOk.stay (x : ObjOk P w H h a o) (k : ∀ b u, (b = a ∨ H b = some (.own a)) → h.get? b = some u → h'.get? b = some u)
    (ho : ∀ b, H b = some (.own a) → H' b = some (.own a)) (ht : ∀ b xs, H b = some (.tup xs) → H' b = some (.tup xs)) : ObjOk P w H' h' a o := by
  induction o with
  | lst xs => obtain ⟨z, its, n, r, e⟩ := x; exact ⟨z, its, n, r, k _ _ (.inl rfl) e⟩
  | tup xs => obtain ⟨z, its, r, ob, e, c⟩ := x; exact ⟨z, its, r, ob, k _ _ (.inl rfl) e, c⟩
  | dK kvs => obtain ⟨z, y, vs, r, ob, es, ep, e, c⟩ := x; exact ⟨z, y, vs, r, ob, es, ep, k _ _ (.inl rfl) e, c⟩
  | dT kvs =>
    obtain ⟨z, y, xs, r, ob, es, ep, e, c⟩ := x
    exact ⟨z, y, xs, Paired.mapP r fun p q z => ⟨z.1, ht _ _ z.2.1, z.2.2⟩, ob, es, ep, k _ _ (.inl rfl) e, c⟩
  | set S n => obtain ⟨ob, es, ep, t, e, c⟩ := x; exact ⟨ob, es, ep, t, k _ _ (.inl rfl) e, c⟩
  | ins C dx fs =>
    obtain ⟨d, z, ne, e, mA, ⟨od, es, ep, e2, c⟩, r⟩ := x
    exact ⟨ho _ d, z, ne, k _ _ (.inl rfl) e, mA, ⟨od, es, ep, k _ _ (.inr d) e2, c⟩, r⟩
  | own y => obtain ⟨ob, e⟩ := x; exact ⟨ob, k _ _ (.inl rfl) e⟩
  | xd fs => obtain ⟨mA, ⟨od, es, ep, e, c⟩, r⟩ := x; exact ⟨mA, ⟨od, es, ep, k _ _ (.inl rfl) e, c⟩, r⟩
  | rng lo hi => obtain ⟨t, u, v, e⟩ := x; exact ⟨t, u, v, k _ _ (.inl rfl) e⟩
  | frz ob u ih => obtain ⟨e, q⟩ := x; exact ⟨k _ _ (.inl rfl) e, ih q⟩
  | tbl ps =>
    have e : h.get? a = some { cls := .none, data := .fields ps } := x
    show h'.get? a = some { cls := .none, data := .fields ps }
    exact k a _ (.inl rfl) e
  | met f y =>
    have e : h.get? a = some (PySem.W.methodObj (.ref f) (.ref y)) := x
    show h'.get? a = some (PySem.W.methodObj (.ref f) (.ref y))
    exact k a _ (.inl rfl) e
  | ext φ => obtain ⟨p, ⟨o, e⟩, st⟩ := x; exact ⟨st _ _ p fun o q => k _ _ (.inl rfl) q, ⟨o, k _ _ (.inl rfl) e⟩, st⟩
theorem HOk.lt (x : HOk P w H h) (e : H a = some o) : a < h.objs.size := (x a o e).lt
theorem HOk.fresh (x : HOk P w H h) (e : h.objs.size ≤ a) : H a = none := by
  cases q : H a with
  | none => rfl
  | some u => exact absurd (Nat.lt_of_lt_of_le (x.lt q) e) (Nat.lt_irrefl _)
theorem HOk.kept (x : HOk P w H h) (k : ∀ b u, h.get? b = some u → h'.get? b = some u) : HOk P w H h' := fun a o e =>
  (x a o e).stay (fun b u _ q => k b u q) (fun _ q => q) fun _ _ q => q
theorem HOk.laid (x : HOk P w H h) (k : ∀ b u, h.get? b = some u → h'.get? b = some u) (hp : h.objs.size ≤ a) (new : ObjOk P w (upd H a o) h' a o) : HOk P w (upd H a o) h' := fun b u e => by
  have hn := x.fresh hp
  by_cases hb : b = a
  · subst hb; rw [upd_same] at e; cases e; exact new
  · rw [upd_ne hb] at e
    exact (x b u e).stay (fun c v _ q => k c v q) (fun c q => by rw [upd_ne (ne_of_none q hn)]; exact q) fun c xs q => by rw [upd_ne (ne_of_none q hn)]; exact q
end
def Rd (H : Hp) (a : Addr) (u : HO) : Prop := H a = some u ∨ ∃ o, H a = some (.frz o u)
theorem Rd.ok {P : Program} {w : World} {H : Hp} {h : Heap} {a : Addr} {u : HO} (r : Rd H a u) (x : HOk P w H h) : ObjOk P w H h a u := by
  rcases r with r | ⟨o, r⟩
  · exact x a u r
  · obtain ⟨_, q⟩ := x a _ r
    exact q
def Mut : Option HO → Prop
  | some (.lst _) => True
  | some (.dK _) => True
  | some (.dT _) => True
  | some (.set _ _) => True
  | some (.ins _ _ _) => True
  | some (.ext _) => True
  | _ => False
section
variable {P : Program} {w : World} {H : Hp} {h h' : Heap} {x e : Addr} {o' : HO}
theorem HOk.write (ok : HOk P w H h) (mu : Mut (H x)) (he : e = x ∨ H e = some (.own x)) (k : ∀ b u, b ≠ e → h.get? b = some u → h'.get? b = some u) (heo : ∃ u, h'.get? e = some u)
    (new : ObjOk P w (upd H x o') h' x o') : HOk P w (upd H x o') h' := fun b u q => by
  have nown : ∀ c y, H c = some (.own y) → c ≠ x := fun c y r z => by subst z; rw [r] at mu; exact mu
  have ntup : ∀ c xs, H c = some (.tup xs) → c ≠ x := fun c xs r z => by subst z; rw [r] at mu; exact mu
  by_cases hb : b = x
  · subst hb; rw [upd_same] at q; cases q; exact new
  · rw [upd_ne hb] at q
    by_cases hbe : b = e
    · have q' : H b = some (.own x) := by
        rcases he with z | z
        · exact absurd (hbe.trans z) hb
        · rw [hbe]; exact z
      rw [q] at q'; cases q'
      obtain ⟨v, hv⟩ := heo
      exact ⟨v, by rw [hbe]; exact hv⟩
    · refine (ok b u q).stay (fun c v hc r => k c v ?_ r) (fun c r => by rw [upd_ne (nown c b r)]; exact r) fun c xs r => by rw [upd_ne (ntup c xs r)]; exact r
      rcases hc with rfl | hc
      · exact hbe
      · rintro rfl
        rcases he with z | z
        · exact nown c b hc z
        · rw [hc] at z; cases z; exact hb rfl
end
structure Un (fs ex : List Addr) (H H' : Hp) (h h' : Heap) : Prop where
  keep : ∀ b o, h.get? b = some o → H b = none → b ∉ fs → b ∉ ex → h'.get? b = some o
  slot : ∀ b o, h.get? b = some o → H b = none → b ∈ fs → b ∉ ex → ∃ sl, h'.get? b = some { o with slots := sl }
  free : ∀ b o, h.get? b = some o → H b = none → b ∉ ex → H' b = none
  there : ∀ b o, h.get? b = some o → b ∉ ex → ∃ o', h'.get? b = some o'
  tups : ∀ b xs, H b = some (.tup xs) → H' b = some (.tup xs)
  frzs : ∀ b o u, H b = some (.frz o u) → H' b = some (.frz o u)
  tbls : ∀ b ps, H b = some (.tbl ps) → ∃ more, H' b = some (.tbl (ps ++ more))
section
variable {fs fs' ex ex' : List Addr} {H H1 H2 : Hp} {h h1 h2 h' : Heap} {a x e : Addr} {o : HO}
theorem Un.any (u : Un fs ex H H1 h h1) {b : Addr} {ob : Obj} (q : h.get? b = some ob) (n : H b = none) (hx : b ∉ ex) : ∃ sl, h1.get? b = some { ob with slots := sl } := by
  by_cases hb : b ∈ fs
  · exact u.slot b ob q n hb hx
  · exact ⟨ob.slots, u.keep b ob q n hb hx⟩
theorem Un.kept (k : ∀ b u, h.get? b = some u → h'.get? b = some u) : Un fs ex H H h h' :=
  ⟨fun b ob q _ _ _ => k b ob q, fun b ob q _ _ _ => ⟨ob.slots, k b ob q⟩, fun _ _ _ n _ => n, fun b ob q _ => ⟨ob, k b ob q⟩, fun _ _ q => q, fun _ _ _ q => q, fun _ ps q => ⟨#[], by rw [q]; simp⟩⟩
theorem Un.refl : Un fs ex H H h h := Un.kept fun _ _ q => q
theorem Un.laid (k : ∀ b u, h.get? b = some u → h'.get? b = some u) (hp : h.objs.size ≤ a) (hn : H a = none) : Un fs ex H (upd H a o) h h' where
  keep := fun b u q _ _ _ => k b u q
  slot := fun b u q _ _ _ => ⟨u.slots, k b u q⟩
  free := fun b u q n _ => by rw [upd_ne (Nat.ne_of_lt (Nat.lt_of_lt_of_le (Heap.lt_size q) hp))]; exact n
  there := fun b u q _ => ⟨u, k b u q⟩
  tups := fun b xs q => by rw [upd_ne (ne_of_none q hn)]; exact q
  frzs := fun b u xs q => by rw [upd_ne (ne_of_none q hn)]; exact q
  tbls := fun b ps q => ⟨#[], by rw [upd_ne (ne_of_none q hn), q]; simp⟩
theorem Un.write (mu : Mut (H x)) (he : e = x ∨ H e = some (.own x)) (k : ∀ b u, b ≠ e → h.get? b = some u → h'.get? b = some u) (heo : ∃ u, h'.get? e = some u) : Un fs ex H (upd H x o) h h' := by
  have hx : ∀ b, H b = none → b ≠ x := fun b n z => by subst z; rw [n] at mu; exact mu
  have hb : ∀ b, H b = none → b ≠ e := fun b n z => by
    subst z
    rcases he with r | r
    · exact hx b n r
    · rw [n] at r; cases r
  have hm : ∀ b u, H b = some u → ¬ Mut (some u) → b ≠ x := fun b u q nm z => by subst z; rw [q] at mu; exact nm mu
  refine ⟨fun b u q n _ _ => k b u (hb b n) q, fun b u q n _ _ => ⟨u.slots, k b u (hb b n) q⟩, fun b u q n _ => by rw [upd_ne (hx b n)]; exact n, fun b u q _ => ?_,
    fun b xs q => by rw [upd_ne (hm b _ q fun z => z)]; exact q, fun b u xs q => by rw [upd_ne (hm b _ q fun z => z)]; exact q, fun b ps q => ⟨#[], by rw [upd_ne (hm b _ q fun z => z), q]; simp⟩⟩
  by_cases hbe : b = e
  · subst hbe; exact heo
  · exact ⟨u, k b u hbe q⟩
end
def trk (h : Heap) (H : Hp) : List Addr := (List.range h.objs.size).filter fun a => (H a).isSome
def hidT (h : Heap) (H : Hp) : Heap := PySem.W.hideAll h (trk h H)
theorem hidT_size (h : Heap) (H : Hp) : (hidT h H).objs.size = h.objs.size := PySem.W.hideAll_size _ _
theorem hidT_get {h : Heap} {H : Hp} {b : Addr} {o : Obj} (e : h.get? b = some o) (n : H b = none) : (hidT h H).get? b = some o :=
  PySem.W.hideAll_get _ e fun hm => by
    have q : (H b).isSome = true := (List.mem_filter.mp hm).2
    rw [n] at q; simp at q
theorem of_hidT {h : Heap} {H : Hp} {b : Addr} {o : Obj} (e : (hidT h H).get? b = some o) : h.get? b = some o ∧ H b = none := by
  have e' : h.get? b = some o := PySem.W.of_hideAll (trk h H) e
  refine ⟨e', ?_⟩
  cases q : H b with
  | none => rfl
  | some x =>
    have hm : b ∈ trk h H := List.mem_filter.mpr ⟨List.mem_range.mpr (Heap.lt_size e'), by simp [q]⟩
    have z : (hidT h H).get? b = none := PySem.W.hideAll_none (trk h H) hm
    rw [z] at e; cases e
end L2
namespace L2
open PySem PySem.Spec PyProof.Rows
structure Mod (K : PySem.W.Frag) (mg : Str → Option Value) (base : Heap) : Prop where
  kin : K.In base
  glob : base.Ns mainGlobals mg
  blt : ∃ mb, base.Ns builtinsNs mb ∧ ∀ x : Str, x ≠ "__name__" → mb x = bootBuiltins x
  nolimit : base.NoLimit
structure Cx where
  prog : Program
  w : World
  K : PySem.W.Frag
  mg : Str → Option Value
  base : Heap
  A : Around
  N : List Str
  s₀ : Shared
  H₀ : Hp
  env : Env
  outer : List Env
  stack : List Env
  ex : List Addr
  fn : Str → Bool
  calm : Bool
  pn : List (Addr × Obj)
  xe : Value → Shared → Prop
def frs (l : List Env) : List Addr := l.filterMap (·.frame)
abbrev Cx.fs (X : Cx) : List Addr := frs X.outer
def Vis (sc : Scope) (x : Str) : Prop := sc.names.lookup x = some .local ∨ sc.names.lookup x = some .cell ∨ sc.names.lookup x = some .free
def Loc (sc : Scope) (x : Str) : Prop := sc.names.lookup x = some .local ∨ sc.names.lookup x = some .cell
def Look (env : Env) (h : Heap) (m : Str → Option Value) (x : Str) (u : Value) : Prop :=
  (env.kindOf x = some .local ∧ m x = some u) ∨ ((env.kindOf x = some .cell ∨ env.kindOf x = some .free) ∧ ∃ c, env.cells.lookup x = some c ∧ h.IsCell c (some u))
structure Cx.Ok (X : Cx) : Prop where
  mod : Mod X.K X.mg X.base
  kind : X.env.scope.kind = .function
  glob : X.env.globals = mainGlobals
  blt : X.env.builtins = builtinsNs
  above : X.s₀.heap.objs.size ≤ X.env.locals
  inj : ∀ x y c, X.env.cells.lookup x = some c → X.env.cells.lookup y = some c → x = y
  has : ∀ x, (X.env.kindOf x = some .cell ∨ X.env.kindOf x = some .free) → ∃ c, X.env.cells.lookup x = some c
  cab : ∀ x c, X.fn x = true → X.env.cells.lookup x = some c → X.s₀.heap.objs.size ≤ c
  hd : X.calm = true → X.A.handled = none
  frames : X.A.frames = some X.stack
  stk : X.stack = X.outer ∨ (X.stack = X.env :: X.outer ∧ X.env.frame = some X.env.locals)
  exf : ∀ b ∈ X.ex, b ≠ X.env.locals ∧ ∀ x c, X.env.cells.lookup x = some c → c ≠ b
  bs : ∀ b o, X.base.get? b = some o → X.s₀.heap.get? b = some o ∧ X.H₀ b = none
  bsz : X.base.objs.size ≤ X.s₀.heap.objs.size
  noex : ∀ b o, X.base.get? b = some o → b ∉ X.ex
  exfs : ∀ b ∈ X.ex, b ∉ X.fs
  funs : X.s₀.heap.FunFrames X.base X.outer
  frf : ∀ b ∈ X.fs, X.H₀ b = none
structure Inv (X : Cx) (pins : List (Addr × Obj)) (σ : List (Option V)) (H : Hp) (s : Shared) : Prop where
  ok : X.Ok
  os : s.os = X.s₀.os
  bare : AllBare s.gens
  base : Un X.fs X.ex X.H₀ H X.s₀.heap s.heap
  loc : ∃ m, s.heap.Ns X.env.locals m ∧ ∀ (i : Nat) (x : Str) (v : V), X.N[i]? = some x → σ[i]? = some (some v) → Vis X.env.scope x → ∃ u, RelV v u ∧ Look X.env s.heap m x u
  cell : ∀ x c, X.env.cells.lookup x = some c → ∃ v, s.heap.IsCell c v
  free : H X.env.locals = none
  freeC : ∀ x c, X.env.cells.lookup x = some c → H c = none
  pin : ∀ p ∈ X.pn ++ pins, s.heap.get? p.1 = some p.2 ∧ H p.1 = none ∧ p.1 ≠ X.env.locals ∧ p.1 ∉ X.fs ∧ ∀ v, p.2.data ≠ .cell v
  hok : HOk X.prog X.w H s.heap
  len : σ.length = X.N.length
section
variable {X : Cx} {pins : List (Addr × Obj)} {σ : List (Option V)} {H H' : Hp} {s : Shared} {h' : Heap}
theorem Cx.Ok.nofr (ok : X.Ok) {b : Addr} {o : Obj} (e : X.base.get? b = some o) : b ∉ X.fs := fun hb => by
  have := (ok.funs.mem hb).1
  rw [e] at this; cases this
theorem Inv.bs (I : Inv X pins σ H s) : ∀ b o, X.base.get? b = some o → s.heap.get? b = some o ∧ H b = none := fun b o e =>
  ⟨I.base.keep b o (I.ok.bs b o e).1 (I.ok.bs b o e).2 (I.ok.nofr e) (I.ok.noex b o e), I.base.free b o (I.ok.bs b o e).1 (I.ok.bs b o e).2 (I.ok.noex b o e)⟩
theorem Inv.bk (I : Inv X pins σ H s) : ∀ b o, X.base.get? b = some o → s.heap.get? b = some o := fun b o e => (I.bs b o e).1
theorem Inv.mod (I : Inv X pins σ H s) : Mod X.K X.mg X.base := I.ok.mod
theorem Inv.kIn (I : Inv X pins σ H s) : X.K.In s.heap := I.ok.mod.kin.keeps I.bk
theorem Inv.lt (I : Inv X pins σ H s) : X.env.locals < s.heap.objs.size := let ⟨_, hn, _⟩ := I.loc; hn.lt
theorem Inv.sz (I : Inv X pins σ H s) : X.s₀.heap.objs.size ≤ s.heap.objs.size := Nat.le_trans I.ok.above (Nat.le_of_lt I.lt)
theorem Inv.nofs (I : Inv X pins σ H s) {a : Addr} (h : s.heap.objs.size ≤ a) : a ∉ X.fs := fun hb => by
  obtain ⟨_, o, ho, _⟩ := I.ok.funs.mem hb
  exact absurd (Nat.lt_of_lt_of_le (Heap.lt_size ho) (Nat.le_trans I.sz h)) (Nat.lt_irrefl _)
theorem Inv.cne (I : Inv X pins σ H s) : ∀ x c, X.env.cells.lookup x = some c → c ≠ X.env.locals := fun x c e z => by
  obtain ⟨v, o, ho, hd⟩ := I.cell x c e
  obtain ⟨m, ⟨o', es, ep, ho', hd', _⟩, _⟩ := I.loc
  rw [z, ho'] at ho; cases ho; rw [hd'] at hd; cases hd
theorem Inv.funs (I : Inv X pins σ H s) : s.heap.FunFrames X.base X.outer := by
  have all : ∀ (l : List Env), (∀ b ∈ frs l, b ∈ X.fs) → X.s₀.heap.FunFrames X.base l → s.heap.FunFrames X.base l := by
    intro l
    induction l with
    | nil => intro _ _; trivial
    | cons env r ih =>
      intro hs hl
      obtain ⟨hk, ⟨L, o, hf, hn, ho, hd⟩, hr⟩ := hl
      have hL : L ∈ X.fs := hs L (by unfold frs; rw [List.filterMap_cons, hf]; exact List.mem_cons_self)
      obtain ⟨sl, e⟩ := I.base.slot L o ho (I.ok.frf L hL) hL fun z => I.ok.exfs L z hL
      exact ⟨hk, ⟨L, _, hf, hn, e, hd⟩, ih (fun b hb => hs b (by unfold frs; rw [List.filterMap_cons, hf]; exact List.mem_cons_of_mem _ hb)) hr⟩
  exact all X.outer (fun _ hb => hb) I.ok.funs
theorem Inv.stack (I : Inv X pins σ H s) : s.heap.FunFrames X.base X.stack := by
  rcases I.ok.stk with e | ⟨e, hf⟩
  · rw [e]; exact I.funs
  · rw [e]
    obtain ⟨m, hn, _⟩ := I.loc
    refine .cons (by rw [I.ok.kind]; decide) hf hn ?_ I.funs
    exact Heap.get?_none_of_le (Nat.le_trans I.ok.bsz I.ok.above)
theorem Inv.stkSub (I : Inv X pins σ H s) : ∀ b ∈ frs X.stack, b ∈ X.env.locals :: X.fs := fun b hb => by
  rcases I.ok.stk with e | ⟨e, hf⟩
  · rw [e] at hb; exact List.mem_cons_of_mem _ hb
  · rw [e] at hb
    unfold frs at hb
    rw [List.filterMap_cons, hf] at hb
    exact hb
theorem Inv.stkFree (I : Inv X pins σ H s) : ∀ b ∈ frs X.stack, H b = none := fun b hb => by
  rcases List.mem_cons.mp (I.stkSub b hb) with e | hb
  · rw [e]; exact I.free
  · obtain ⟨_, o, ho, _⟩ := I.ok.funs.mem hb
    exact I.base.free b o ho (I.ok.frf b hb) fun z => I.ok.exfs b z hb
theorem Inv.step {g' : Array GenState} {t' : Nat} {d' : Drawn} {ch : List Addr} (I : Inv X pins σ H s)
    (hch : ∀ b ∈ ch, (b ∈ X.ex ∨ X.s₀.heap.objs.size ≤ b) ∧ b ≠ X.env.locals ∧ (∀ x c, X.env.cells.lookup x = some c → c ≠ b) ∧ ∀ p ∈ X.pn ++ pins, p.1 ≠ b)
    (keep : ∀ b o, b ≠ X.env.locals → b ∉ X.fs → b ∉ ch → s.heap.get? b = some o → H b = none → h'.get? b = some o)
    (slot : ∀ b o, b ≠ X.env.locals → b ∈ X.fs → b ∉ ch → s.heap.get? b = some o → H b = none → ∃ sl, h'.get? b = some { o with slots := sl }) (free : ∀ b o, b ∉ ch → s.heap.get? b = some o → H b = none → H' b = none)
    (there : ∀ b o, b ∉ ch → s.heap.get? b = some o → ∃ o', h'.get? b = some o')
    (tups : ∀ b xs, H b = some (.tup xs) → H' b = some (.tup xs)) (frzs : ∀ b o u, H b = some (.frz o u) → H' b = some (.frz o u)) (tbls : ∀ b ps, H b = some (.tbl ps) → ∃ more, H' b = some (.tbl (ps ++ more)))
    (ns : ∀ m, s.heap.Ns X.env.locals m → h'.Ns X.env.locals m) (hok : HOk X.prog X.w H' h') (hg : AllBare g') :
    Inv X pins σ H' { s with heap := h', gens := g', drawn := d', toks := t' } := by
  have neL : ∀ b o, X.s₀.heap.get? b = some o → b ≠ X.env.locals := fun b o e => Nat.ne_of_lt (Nat.lt_of_lt_of_le (Heap.lt_size e) I.ok.above)
  have neC : ∀ b o, X.s₀.heap.get? b = some o → b ∉ X.ex → b ∉ ch := fun b o e hx hb => by
    rcases (hch b hb).1 with z | z
    · exact hx z
    · exact absurd (Nat.lt_of_lt_of_le (Heap.lt_size e) z) (Nat.lt_irrefl _)
  have cellK : ∀ x c, X.env.cells.lookup x = some c → ∀ v, s.heap.IsCell c v → h'.IsCell c v := fun x c e v ⟨o, ho, hd⟩ => by
    have nch : c ∉ ch := fun z => (hch c z).2.2.1 x c e rfl
    by_cases hc : c ∈ X.fs
    · obtain ⟨sl, q⟩ := slot c o (I.cne x c e) hc nch ho (I.freeC x c e)
      exact ⟨_, q, hd⟩
    · exact ⟨o, keep c o (I.cne x c e) hc nch ho (I.freeC x c e), hd⟩
  refine ⟨I.ok, I.os, hg, ⟨fun b o e n hb hx => ?_, fun b o e n hb hx => ?_, fun b o e n hx => ?_, fun b o e hx => ?_, fun b xs e => tups b xs (I.base.tups b xs e), fun b o xs e => frzs b o xs (I.base.frzs b o xs e), fun b ps e => ?_⟩, ?_, fun x c e => ?_, ?_, fun x c e => ?_, fun p hp => ?_, hok, I.len⟩
  · exact keep b o (neL b o e) hb (neC b o e hx) (I.base.keep b o e n hb hx) (I.base.free b o e n hx)
  · obtain ⟨sl, e1⟩ := I.base.slot b o e n hb hx
    obtain ⟨sl', e2⟩ := slot b _ (neL b o e) hb (neC b o e hx) e1 (I.base.free b o e n hx)
    exact ⟨sl', e2⟩
  · obtain ⟨o', e1⟩ := I.base.there b o e hx
    exact free b o' (neC b o e hx) e1 (I.base.free b o e n hx)
  · obtain ⟨o', e1⟩ := I.base.there b o e hx
    exact there b o' (neC b o e hx) e1
  · obtain ⟨m1, e1⟩ := I.base.tbls b ps e
    obtain ⟨m2, e2⟩ := tbls b _ e1
    exact ⟨m1 ++ m2, by rw [e2, Array.append_assoc]⟩
  · obtain ⟨m, hn, hl⟩ := I.loc
    refine ⟨m, ns m hn, fun i x v e1 e2 e3 => ?_⟩
    obtain ⟨u, r, l⟩ := hl i x v e1 e2 e3
    refine ⟨u, r, ?_⟩
    rcases l with l | ⟨k, c, e, z⟩
    · exact .inl l
    · exact .inr ⟨k, c, e, cellK x c e _ z⟩
  · obtain ⟨v, z⟩ := I.cell x c e
    exact ⟨v, cellK x c e v z⟩
  · obtain ⟨m, ⟨o, _, _, ho, _⟩, _⟩ := I.loc
    exact free _ o (fun z => (hch _ z).2.1 rfl) ho I.free
  · obtain ⟨v, o, ho, hd⟩ := I.cell x c e
    exact free c o (fun z => (hch c z).2.2.1 x c e rfl) ho (I.freeC x c e)
  · obtain ⟨e, n, ne, nf, d⟩ := I.pin p hp
    have nch : p.1 ∉ ch := fun z => (hch p.1 z).2.2.2 p hp rfl
    exact ⟨keep p.1 p.2 ne nf nch e n, free p.1 p.2 nch e n, ne, nf, d⟩
theorem Inv.un {t' : Nat} (I : Inv X pins σ H s) (u : Un X.fs [] H H' s.heap h') (hok : HOk X.prog X.w H' h') : Inv X pins σ H' { s with heap := h', toks := t' } := by
  obtain ⟨m, ⟨o, es, ep, ho, r⟩, _⟩ := id I.loc
  obtain ⟨sl, hL⟩ := u.any ho I.free (by simp)
  exact I.step (g' := s.gens) (d' := s.drawn) (ch := []) (fun _ z => nomatch z) (fun b o _ hb _ e n => u.keep b o e n hb (by simp)) (fun b o _ hb _ e n => u.slot b o e n hb (by simp)) (fun b o _ e n => u.free b o e n (by simp)) (fun b o _ e => u.there b o e (by simp)) u.tups u.frzs u.tbls (fun m' hm => by
    obtain ⟨o', es', ep', ho', r'⟩ := hm
    rw [ho] at ho'; cases ho'
    exact ⟨_, es', ep', hL, r'⟩) hok I.bare
theorem Inv.call {g' : Array GenState} {t' : Nat} {d' : Drawn} {ch : List Addr} (I : Inv X pins σ H s) (u : Un (frs X.stack) ch H H' s.heap h') (hok : HOk X.prog X.w H' h') (hg : AllBare g')
    (hch : ∀ b ∈ ch, (b ∈ X.ex ∨ X.s₀.heap.objs.size ≤ b) ∧ b ≠ X.env.locals ∧ (∀ x c, X.env.cells.lookup x = some c → c ≠ b) ∧ ∀ p ∈ X.pn ++ pins, p.1 ≠ b) :
    Inv X pins σ H' { s with heap := h', gens := g', drawn := d', toks := t' } := by
  obtain ⟨m, ⟨o, es, ep, ho, r⟩, _⟩ := id I.loc
  obtain ⟨sl, hL⟩ := u.any ho I.free fun z => (hch _ z).2.1 rfl
  exact I.step (ch := ch) hch (fun b o hL hb hc e n => u.keep b o e n (fun z => (List.mem_cons.mp (I.stkSub b z)).elim hL hb) hc) (fun b o _ _ hc e n => u.any e n hc) (fun b o hc e n => u.free b o e n hc) (fun b o hc e => u.there b o e hc) u.tups u.frzs u.tbls (fun m' hm => by
    obtain ⟨o', es', ep', ho', r'⟩ := hm
    rw [ho] at ho'; cases ho'
    exact ⟨_, es', ep', hL, r'⟩) hok hg
theorem Inv.turned {t' : Nat} {it : Addr} (I : Inv X pins σ H s) (k : ∀ b o, b ≠ it → s.heap.get? b = some o → h'.get? b = some o) (hn : H it = none) (hL : it ≠ X.env.locals)
    (h1 : it ∈ X.ex ∨ X.s₀.heap.objs.size ≤ it) (h2 : ∀ x c, X.env.cells.lookup x = some c → c ≠ it) (h3 : ∀ p ∈ X.pn ++ pins, p.1 ≠ it) : Inv X pins σ H { s with heap := h', toks := t' } := by
  have nit : ∀ b u, H b = some u → b ≠ it := fun b u e z => by rw [z, hn] at e; cases e
  refine I.step (g' := s.gens) (d' := s.drawn) (ch := [it]) (fun b hb => ?_) (fun b o _ _ hc e _ => k b o (fun z => hc (by simp [z])) e) (fun b o _ _ hc e _ => ⟨o.slots, k b o (fun z => hc (by simp [z])) e⟩) (fun _ _ _ _ n => n)
    (fun b o hc e => ⟨o, k b o (fun z => hc (by simp [z])) e⟩) (fun _ _ e => e) (fun _ _ _ e => e) (fun b ps e => ⟨#[], by rw [e]; simp⟩) (fun m hm => ?_) (fun b u e => ?_) I.bare
  · have e : b = it := by simpa using hb
    subst e
    exact ⟨h1, hL, h2, h3⟩
  · obtain ⟨o, es, ep, ho, r⟩ := hm
    exact ⟨o, es, ep, k _ o (Ne.symm hL) ho, r⟩
  · refine (I.hok b u e).stay (fun c v hc q => k c v ?_ q) (fun _ q => q) fun _ _ q => q
    rcases hc with z | z
    · rw [z]; exact nit b u e
    · exact nit c _ z
theorem Inv.tok (I : Inv X pins σ H s) (t : Nat) : Inv X pins σ H { s with toks := t } := I.un (h' := s.heap) (t' := t) Un.refl I.hok
theorem Inv.kept {t' : Nat} (I : Inv X pins σ H s) (k : ∀ b u, s.heap.get? b = some u → h'.get? b = some u) : Inv X pins σ H { s with heap := h', toks := t' } := I.un (Un.kept k) (I.hok.kept k)
theorem Inv.laid {a : Addr} {o : HO} {t' : Nat} (I : Inv X pins σ H s) (k : ∀ b u, s.heap.get? b = some u → h'.get? b = some u) (hp : s.heap.objs.size ≤ a) (new : ObjOk X.prog X.w (upd H a o) h' a o) :
    Inv X pins σ (upd H a o) { s with heap := h', toks := t' } := I.un (Un.laid k hp (I.hok.fresh hp)) (I.hok.laid k hp new)
theorem Inv.write {x e : Addr} {o : HO} {t' : Nat} (I : Inv X pins σ H s) (mu : Mut (H x)) (he : e = x ∨ H e = some (.own x)) (k : ∀ b u, b ≠ e → s.heap.get? b = some u → h'.get? b = some u) (heo : ∃ u, h'.get? e = some u)
    (new : ObjOk X.prog X.w (upd H x o) h' x o) : Inv X pins σ (upd H x o) { s with heap := h', toks := t' } := I.un (Un.write mu he k heo) (I.hok.write mu he k heo new)
theorem Inv.pins_of {pins' : List (Addr × Obj)} (I : Inv X pins σ H s) (h : ∀ p ∈ pins', s.heap.get? p.1 = some p.2 ∧ H p.1 = none ∧ p.1 ≠ X.env.locals ∧ p.1 ∉ X.fs ∧ ∀ v, p.2.data ≠ .cell v) : Inv X pins' σ H s :=
  ⟨I.ok, I.os, I.bare, I.base, I.loc, I.cell, I.free, I.freeC, fun p hp => (List.mem_append.mp hp).elim (fun z => I.pin p (List.mem_append_left _ z)) (h p), I.hok, I.len⟩
theorem nodup_ix {N : List Str} (hN : N.Nodup) {i j : Nat} {x : Str} (a : N[i]? = some x) (b : N[j]? = some x) : i = j := by
  obtain ⟨h1, e1⟩ := List.getElem?_eq_some_iff.mp a
  obtain ⟨h2, e2⟩ := List.getElem?_eq_some_iff.mp b
  exact (List.getElem_inj hN).mp (e1.trans e2.symm)
theorem store_ok2 {M : Model} {A : Around} {E : Value → Shared → Prop} {i : Nat} {x : Str} {v : V} {u : Value} {Q : Unit → Shared → Prop} (I : Inv X pins σ H s) (hN : X.N.Nodup) (hi : X.N[i]? = some x) (hx : Loc X.env.scope x) (r : RelV v u)
    (h : ∀ s', Inv X pins (σ.set i (some v)) H s' → (∃ a, Heap.SameBut a s.heap s'.heap ∧ (a = X.env.locals ∨ X.env.cells.lookup x = some a)) → Q () s') (hf : X.fn x = true ∨ X.env.scope.names.lookup x = some .local := by first | exact .inl rfl | exact .inr rfl | assumption) : wpAny M A (storeName X.env x u) Q E s := by
  obtain ⟨m, hn, hl⟩ := id I.loc
  have hcls : (X.env.scope.kind == .class || (X.env.scope.kind == .module && X.env.locals != X.env.globals)) = false := by rw [I.ok.kind]; rfl
  have hiσ : i < σ.length := by rw [I.len]; exact (List.getElem?_eq_some_iff.mp hi).1
  have cne := I.cne
  have tracked : ∀ {a : Addr} {h' : Heap}, (∃ o, s.heap.get? a = some o ∧ H a = none) → Heap.SameBut a s.heap h' → HOk X.prog X.w H h' := fun {a h'} ha hs b ob e => by
    obtain ⟨_, _, hfree⟩ := ha
    refine (I.hok b ob e).stay (fun c w' hc q => (hs.2 c ?_).trans q) (fun _ q => q) fun _ _ q => q
    rintro rfl
    rcases hc with rfl | hc
    · rw [hfree] at e; cases e
    · rw [hfree] at hc; cases hc
  rcases hx with hk | hk
  · refine wpAny_storeName_local hk hn (fun h' hn' hs => ?_) hcls
    obtain ⟨oL, _, _, hoL, _⟩ := id hn
    refine h _ ⟨I.ok, I.os, I.bare, ⟨fun b o e n hb hx => ?_, fun b o e n hb hx => ?_, I.base.free, fun b o e hx => ?_, I.base.tups, I.base.frzs, I.base.tbls⟩, ⟨_, hn', fun j y v' e1 e2 e3 => ?_⟩, fun y c e => ?_, I.free, I.freeC, fun p hp => ?_, tracked ⟨oL, hoL, I.free⟩ hs, by simpa using I.len⟩ ⟨_, hs, .inl rfl⟩
    · exact (hs.2 b (Nat.ne_of_lt (Nat.lt_of_lt_of_le (Heap.lt_size e) I.ok.above))).trans (I.base.keep b o e n hb hx)
    · obtain ⟨sl, e1⟩ := I.base.slot b o e n hb hx
      exact ⟨sl, (hs.2 b (Nat.ne_of_lt (Nat.lt_of_lt_of_le (Heap.lt_size e) I.ok.above))).trans e1⟩
    · obtain ⟨o', e1⟩ := I.base.there b o e hx
      exact ⟨o', (hs.2 b (Nat.ne_of_lt (Nat.lt_of_lt_of_le (Heap.lt_size e) I.ok.above))).trans e1⟩
    · by_cases hj : j = i
      · subst hj
        rw [hi] at e1; cases e1
        rw [List.getElem?_set_self hiσ] at e2
        cases e2
        exact ⟨u, r, .inl ⟨hk, by simp⟩⟩
      · rw [List.getElem?_set_ne (Ne.symm hj)] at e2
        obtain ⟨u', r', q⟩ := hl j y v' e1 e2 e3
        refine ⟨u', r', ?_⟩
        rcases q with ⟨k, e⟩ | ⟨k, c, e, z⟩
        · refine .inl ⟨k, ?_⟩
          have : y ≠ x := fun e => hj (nodup_ix hN e1 (e ▸ hi))
          simp [this, e]
        · exact .inr ⟨k, c, e, z.sameBut hs (cne y c e)⟩
    · obtain ⟨w', z⟩ := I.cell y c e
      exact ⟨w', z.sameBut hs (cne y c e)⟩
    · obtain ⟨e, n, ne, nf, d⟩ := I.pin p hp
      exact ⟨(hs.2 p.1 ne).trans e, n, ne, nf, d⟩
  · have hfn : X.fn x = true := by
      rcases hf with z | z
      · exact z
      · rw [z] at hk; cases hk
    obtain ⟨c, hc⟩ := I.ok.has x (.inl hk)
    obtain ⟨w', z⟩ := I.cell x c hc
    refine wpAny_storeName_cell I.ok.kind hk hc z (fun h' hc' hs => ?_)
    obtain ⟨oc, hoc, hocd⟩ := id z
    refine h { s with heap := h' } ⟨I.ok, I.os, I.bare, ⟨fun b o e n hb hx => ?_, fun b o e n hb hx => ?_, I.base.free, fun b o e hx => ?_, I.base.tups, I.base.frzs, I.base.tbls⟩, ⟨m, hn.sameBut hs (Ne.symm (cne x c hc)), fun j y v' e1 e2 e3 => ?_⟩, fun y c' e => ?_, I.free, I.freeC, fun p hp => ?_, tracked ⟨oc, hoc, I.freeC x c hc⟩ hs, by simpa using I.len⟩ ⟨c, hs, .inr hc⟩
    · exact (hs.2 b (Nat.ne_of_lt (Nat.lt_of_lt_of_le (Heap.lt_size e) (I.ok.cab x c hfn hc)))).trans (I.base.keep b o e n hb hx)
    · obtain ⟨sl, e1⟩ := I.base.slot b o e n hb hx
      exact ⟨sl, (hs.2 b (Nat.ne_of_lt (Nat.lt_of_lt_of_le (Heap.lt_size e) (I.ok.cab x c hfn hc)))).trans e1⟩
    · obtain ⟨o', e1⟩ := I.base.there b o e hx
      exact ⟨o', (hs.2 b (Nat.ne_of_lt (Nat.lt_of_lt_of_le (Heap.lt_size e) (I.ok.cab x c hfn hc)))).trans e1⟩
    · by_cases hj : j = i
      · subst hj
        rw [hi] at e1; cases e1
        rw [List.getElem?_set_self hiσ] at e2
        cases e2
        exact ⟨u, r, .inr ⟨.inl hk, c, hc, hc'⟩⟩
      · rw [List.getElem?_set_ne (Ne.symm hj)] at e2
        obtain ⟨u', r', q⟩ := hl j y v' e1 e2 e3
        refine ⟨u', r', ?_⟩
        rcases q with q | ⟨k, c', e, z'⟩
        · exact .inl q
        · refine .inr ⟨k, c', e, z'.sameBut hs ?_⟩
          rintro rfl
          exact hj (nodup_ix hN e1 (I.ok.inj _ _ _ e hc ▸ hi))
    · by_cases hcc : c' = c
      · subst hcc; exact ⟨_, hc'⟩
      · obtain ⟨w2, z2⟩ := I.cell y c' e
        exact ⟨w2, z2.sameBut hs hcc⟩
    · obtain ⟨e, n, ne, nf, d⟩ := I.pin p hp
      refine ⟨(hs.2 p.1 ?_).trans e, n, ne, nf, d⟩
      intro q
      rw [q, hoc] at e
      have q' : oc = p.2 := Option.some.inj e
      exact d w' (by rw [← q']; exact hocd)
theorem store_ok {M : Model} {A : Around} {E : Value → Shared → Prop} {i : Nat} {x : Str} {v : V} {u : Value} {Q : Unit → Shared → Prop} (I : Inv X pins σ H s) (hN : X.N.Nodup) (hi : X.N[i]? = some x) (hx : Loc X.env.scope x) (r : RelV v u)
    (h : ∀ s', Inv X pins (σ.set i (some v)) H s' → Q () s') (hf : X.fn x = true ∨ X.env.scope.names.lookup x = some .local := by first | exact .inl rfl | exact .inr rfl | assumption) : wpAny M A (storeName X.env x u) Q E s :=
  store_ok2 I hN hi hx r (fun s' I' _ => h s' I') hf
theorem Inv.call' {s' : Shared} {ch : List Addr} (I : Inv X pins σ H s) (ho : s'.os = s.os) (u : Un (frs X.stack) ch H H' s.heap s'.heap) (hok : HOk X.prog X.w H' s'.heap) (hg : AllBare s'.gens)
    (hch : ∀ b ∈ ch, (b ∈ X.ex ∨ X.s₀.heap.objs.size ≤ b) ∧ b ≠ X.env.locals ∧ (∀ x c, X.env.cells.lookup x = some c → c ≠ b) ∧ ∀ p ∈ X.pn ++ pins, p.1 ≠ b) : Inv X pins σ H' s' := by
  obtain ⟨h', g', d', t', o'⟩ := s'
  have e : o' = s.os := ho
  subst e
  exact I.call (g' := g') (t' := t') (d' := d') u hok hg hch
end
abbrev XK := Value → Option Addr → Hp → Prop
abbrev St := List (Option V)
abbrev VK := V → Hp → Prop
abbrev TE := St → Hp → VK → Prop
abbrev TT := St → Hp → (Bool → Hp → Prop) → Prop
abbrev TA := St → Hp → (List V → Hp → Prop) → Prop
structure Ends where
  nx : St → Hp → Prop
  rt : VK
  bk : St → Hp → Prop := fun _ _ => False
  ct : St → Hp → Prop := fun _ _ => False
abbrev TS := Ends → St → Hp → Prop
def EP (X : Cx) (pins : List (Addr × Obj)) (σ : St) (Q : VK) (u : Value) (s' : Shared) : Prop := ∃ v H', Inv X pins σ H' s' ∧ RelV v u ∧ Q v H'
def TP (X : Cx) (pins : List (Addr × Obj)) (σ : St) (Q : Bool → Hp → Prop) (b : Bool) (s' : Shared) : Prop := ∃ H', Inv X pins σ H' s' ∧ Q b H'
def AP (X : Cx) (pins : List (Addr × Obj)) (σ : St) (Q : List V → Hp → Prop) (us : List Value) (s' : Shared) : Prop := ∃ vs H', Inv X pins σ H' s' ∧ Vals vs us ∧ Q vs H'
def SP (X : Cx) (pins : List (Addr × Obj)) (D : Ends) (f : Flow) (s' : Shared) : Prop :=
  match f with
  | .next => ∃ σ' H', Inv X pins σ' H' s' ∧ D.nx σ' H'
  | .brk => ∃ σ' H', Inv X pins σ' H' s' ∧ D.bk σ' H'
  | .cont => ∃ σ' H', Inv X pins σ' H' s' ∧ D.ct σ' H'
  | .ret u => ∃ v σ' H', Inv X pins σ' H' s' ∧ RelV v u ∧ D.rt v H'
def PE (X : Cx) (e : Expr) (t : TE) : Prop :=
  ∀ (pins : List (Addr × Obj)) (s : Shared) (σ : St) (H : Hp) (Q : VK), Inv X pins σ H s → t σ H Q → wpAny (model X.prog X.w) X.A (eval e X.env) (EP X pins σ Q) X.xe s
def PT (X : Cx) (e : Expr) (t : TT) : Prop :=
  ∀ (pins : List (Addr × Obj)) (s : Shared) (σ : St) (H : Hp) (Q : Bool → Hp → Prop), Inv X pins σ H s → t σ H Q → wpAny (model X.prog X.w) X.A (isTrue e X.env (eval e X.env)) (TP X pins σ Q) X.xe s
def PW (X : Cx) (e : Expr) (t : TT) : Prop :=
  ∀ (whole : Sem Value) (pins : List (Addr × Obj)) (s : Shared) (σ : St) (H : Hp) (Q : Bool → Hp → Prop), Inv X pins σ H s → t σ H Q → wpAny (model X.prog X.w) X.A (isTrue e X.env whole) (TP X pins σ Q) X.xe s
theorem PW.pt {X : Cx} {e : Expr} {t : TT} (h : PW X e t) : PT X e t := h _
def PA (X : Cx) (es : List Expr) (t : TA) : Prop :=
  ∀ (pos : Pos) (pins : List (Addr × Obj)) (s : Shared) (σ : St) (H : Hp) (Q : List V → Hp → Prop), Inv X pins σ H s → t σ H Q → wpAny (model X.prog X.w) X.A (spliced (backTo pos (starEach es X.env))) (AP X pins σ Q) X.xe s
def PS (X : Cx) (st : Stmt) (t : TS) : Prop :=
  ∀ (pins : List (Addr × Obj)) (s : Shared) (σ : St) (H : Hp) (D : Ends), Inv X pins σ H s → t D σ H → wpAny (model X.prog X.w) X.A (exec st X.env) (SP X pins D) X.xe s
def PSs (X : Cx) (st : List Stmt) (t : TS) : Prop :=
  ∀ (pins : List (Addr × Obj)) (s : Shared) (σ : St) (H : Hp) (D : Ends), Inv X pins σ H s → t D σ H → wpAny (model X.prog X.w) X.A (execs st X.env) (SP X pins D) X.xe s
theorem thn {α : Type} {t : Sem α} {Q Q' : α → Shared → Prop} {M : Model} {A : Around} {E : Value → Shared → Prop} {s : Shared} (h : wpAny M A t Q E s) (hQ : ∀ a s, Q a s → Q' a s) : wpAny M A t Q' E s := wpAny_mono h hQ fun _ _ x => x
end L2
namespace L2
open PySem PySem.Spec PyProof.Rows
section
variable {X : Cx}
def tVar (i : Nat) : TE := fun σ H Q => ∃ v, σ[i]? = some (some v) ∧ Q v H
def tC (v : V) : TE := fun _ H Q => Q v H
theorem pe_var {i : Nat} {x : Str} {pos : Pos} (hN : X.N[i]? = some x) (hv : Vis X.env.scope x) (hd : (x == ("__debug__" : Str)) = false := by decide) (hcd : (x == ("__classdict__" : Str)) = false := by decide) : PE X (.Name x pos) (tVar i) := by
  intro pins s σ H Q I h
  obtain ⟨v, e, h⟩ := h
  obtain ⟨m, hn, hl⟩ := I.loc
  obtain ⟨u, r, l⟩ := hl i x v hN e hv
  have fin : EP X pins σ Q u s := ⟨v, H, I, r, h⟩
  rcases l with ⟨hk, hm⟩ | ⟨hk, c, hc, hcell⟩
  · exact wpAny_Name (wpAny_loadName_local I.ok.kind hk hn hm fin) hd
  · rcases hk with hk | hk
    · exact wpAny_Name (wpAny_loadName_cell I.ok.kind hk hc hcell fin) hd
    · exact wpAny_Name (wpAny_loadName_free I.ok.kind hk hc hcell fin hcd) hd
theorem pe_int {i j pos} : PE X (.Constant (.int i) j pos) (tC (.int i)) := fun _ _ _ H _ I h => wpAny_Constant_int ⟨.int i, H, I.tok _, ⟨_, rfl⟩, h⟩
theorem pe_bl {b j pos} : PE X (.Constant (.bool b) j pos) (tC (.bl b)) := fun _ _ _ H _ I h => Constant_bool ⟨.bl b, H, I, rfl, h⟩
theorem pe_non {j pos} : PE X (.Constant .none j pos) (tC .non) := fun _ _ _ H _ I h => Constant_none ⟨.non, H, I, rfl, h⟩
theorem pe_str {x j pos} : PE X (.Constant (.str x) j pos) (tC (.str x)) := fun _ _ _ H _ I h => Calls.Constant_str ⟨.str x, H, I.tok _, ⟨_, rfl⟩, h⟩
def Gl (X : Cx) (x : Str) : Prop := X.env.kindOf x = some .globalImplicit
theorem ld_glob {E : Value → Shared → Prop} {pins : List (Addr × Obj)} {s : Shared} {σ : St} {H : Hp} {x : Str} {u : Value} {pos : Pos} {Q : Value → Shared → Prop} (I : Inv X pins σ H s) (hg : Gl X x) (hm : X.mg x = some u) (h : Q u s)
    (hd : (x == ("__debug__" : Str)) = false := by decide) : wpAny (model X.prog X.w) X.A (eval (.Name x pos) X.env) Q E s :=
  Calls.Name_function_global I.ok.kind hg (Calls.loadGlobal_global (by rw [I.ok.glob]; exact I.mod.glob.keeps I.bk) hm h) hd
theorem ld_blt {E : Value → Shared → Prop} {pins : List (Addr × Obj)} {s : Shared} {σ : St} {H : Hp} {x : Str} {u : Value} {pos : Pos} {Q : Value → Shared → Prop} (I : Inv X pins σ H s) (hg : Gl X x) (hm : X.mg x = none) (hv : bootBuiltins x = some u) (h : Q u s)
    (hn : x ≠ "__name__" := by decide) (hd : (x == ("__debug__" : Str)) = false := by decide) : wpAny (model X.prog X.w) X.A (eval (.Name x pos) X.env) Q E s := by
  obtain ⟨mb, h1, h2⟩ := I.mod.blt
  exact Calls.Name_function_global I.ok.kind hg (Calls.loadGlobal_builtin (by rw [I.ok.glob]; exact I.mod.glob.keeps I.bk) hm (by rw [I.ok.blt]; exact h1.keeps I.bk) ((h2 x hn).trans hv) h) hd
theorem pe_glob {x : Str} {v : V} {u : Value} {pos : Pos} (hg : Gl X x) (hm : X.mg x = some u) (r : RelV v u) (hd : (x == ("__debug__" : Str)) = false := by decide) : PE X (.Name x pos) (tC v) :=
  fun _ _ _ H _ I h => ld_glob I hg hm ⟨v, H, I, r, h⟩ hd
theorem pe_bltn {x : Str} {v : V} {u : Value} {pos : Pos} (hg : Gl X x) (hm : X.mg x = none) (hv : bootBuiltins x = some u) (r : RelV v u) (hn : x ≠ "__name__" := by decide) (hd : (x == ("__debug__" : Str)) = false := by decide) : PE X (.Name x pos) (tC v) :=
  fun _ _ _ H _ I h => ld_blt I hg hm hv ⟨v, H, I, r, h⟩ hn hd
variable {a b : Expr} {ta tb : TE} {pos : Pos}
def tB (t : TE) : TT := fun σ H Q => t σ H fun x H1 => ∃ c, x = .bl c ∧ Q c H1
theorem pt_val {e : Expr} {t : TE} (h : PE X e t) (he : ∀ whole, isTrue e X.env whole = (do let v ← whole; standAt e.pos; holding [v] (truthy v)) := by intro _; rfl) : PT X e (tB t) := by
  intro pins s σ H Q I hw
  refine isTrue_plain (thn (h pins s σ H _ I hw) fun v s1 ⟨x, H1, I1, r1, q1⟩ => ?_) (he _)
  obtain ⟨d, rfl, q⟩ := q1
  cases r1
  exact wpAny_truthy_bool ⟨H1, I1, q⟩
variable {tA tB' : TT} {rest : List Expr}
def tAnd (t u : TT) : TT := fun σ H Q => t σ H fun c H1 => if c = true then u σ H1 Q else Q false H1
def tOr (t u : TT) : TT := fun σ H Q => t σ H fun c H1 => if c = true then Q true H1 else u σ H1 Q
def tNot (t : TT) : TT := fun σ H Q => t σ H fun c H1 => Q (!c) H1
theorem pw_and1 (ha : PT X a tA) : PW X (.BoolOp .And [a] pos) tA := by
  intro wh pins s σ H Q I h
  refine isTrue_and (thn (ha pins s σ H Q I h) fun c s1 e => ?_)
  cases c with
  | true => exact isTrue_and_nil e
  | false => exact e
theorem pw_or1 (ha : PT X a tA) : PW X (.BoolOp .Or [a] pos) tA := by
  intro wh pins s σ H Q I h
  refine isTrue_or (thn (ha pins s σ H Q I h) fun c s1 e => ?_)
  cases c with
  | false => exact isTrue_or_nil e
  | true => exact e
theorem pw_and (ha : PT X a tA) (hb : PW X (.BoolOp .And (b :: rest) pos) tB') : PW X (.BoolOp .And (a :: b :: rest) pos) (tAnd tA tB') := by
  intro wh pins s σ H Q I h
  refine isTrue_and (thn (ha pins s σ H _ I h) fun c s1 ⟨H1, I1, q1⟩ => ?_)
  cases c with
  | true => exact hb wh pins s1 σ H1 Q I1 q1
  | false => exact ⟨H1, I1, q1⟩
theorem pw_or (ha : PT X a tA) (hb : PW X (.BoolOp .Or (b :: rest) pos) tB') : PW X (.BoolOp .Or (a :: b :: rest) pos) (tOr tA tB') := by
  intro wh pins s σ H Q I h
  refine isTrue_or (thn (ha pins s σ H _ I h) fun c s1 ⟨H1, I1, q1⟩ => ?_)
  cases c with
  | true => exact ⟨H1, I1, q1⟩
  | false => exact hb wh pins s1 σ H1 Q I1 q1
theorem pt_not (ha : PT X a tA) : PT X (.UnaryOp .Not a pos) (tNot tA) := by
  intro pins s σ H Q I h
  exact isTrue_not (ha pins s σ H (fun c H1 => Q (!c) H1) I h)
def tAndV (ta tb : TE) : TE := fun σ H Q => ta σ H fun x H1 => ∃ c, x = .bl c ∧ if c = true then tb σ H1 Q else Q (.bl false) H1
def tNotV (ta : TE) : TE := fun σ H Q => ta σ H fun x H1 => ∃ c, x = .bl c ∧ Q (.bl (!c)) H1
theorem pe_one {op} {t : TE} (h : PE X a t) : PE X (.BoolOp op [a] pos) t := fun pins s σ H Q I hw => BoolOp_one (h pins s σ H Q I hw)
theorem pe_and (ha : PE X a ta) (hb : PE X (.BoolOp .And (b :: rest) pos) tb) : PE X (.BoolOp .And (a :: b :: rest) pos) (tAndV ta tb) := by
  intro pins s σ H Q I h
  refine BoolOp_and (thn (ha pins s σ H _ I h) fun v s1 ⟨x, H1, I1, r1, q1⟩ => ?_)
  obtain ⟨c, rfl, q1⟩ := q1
  cases r1
  refine wpAny_truthy_bool ?_
  cases c with
  | true => exact hb pins s1 σ H1 Q I1 q1
  | false => exact ⟨.bl false, H1, I1, rfl, q1⟩
theorem pe_not (ha : PE X a ta) : PE X (.UnaryOp .Not a pos) (tNotV ta) := by
  intro pins s σ H Q I h
  refine UnaryOp_ (thn (ha pins s σ H _ I h) fun v s1 ⟨x, H1, I1, r1, q1⟩ => ?_)
  obtain ⟨c, rfl, q1⟩ := q1
  cases r1
  exact not_of (wpAny_truthy_bool ⟨.bl (!c), H1, I1, rfl, q1⟩)
def tIf (t : TT) (ta tb : TE) : TE := fun σ H Q => t σ H fun c H1 => if c = true then ta σ H1 Q else tb σ H1 Q
theorem pe_ifExp {c : Expr} (hc : PT X c tA) (ha : PE X a ta) (hb : PE X b tb) : PE X (.IfExp c a b pos) (tIf tA ta tb) := by
  intro pins s σ H Q I h
  refine wpAny_IfExp (thn (hc pins s σ H _ I h) fun d s1 ⟨H1, I1, q1⟩ => ?_)
  cases d with
  | true => exact ha pins s1 σ H1 Q I1 q1
  | false => exact hb pins s1 σ H1 Q I1 q1
end
end L2
namespace L2
open PySem PySem.Spec PyProof.Rows
def SqL (K : PySem.W.Frag) (H : Hp) (a : Addr) (xs : List V) : Prop :=
  Rd H a (.lst xs) ∨
    ∃ (o : Obj) (its : Array Value) (n : Nat), K.lookup a = some o ∧ o.cls = .type "list" ∧ o.dict = none ∧ o.data = .seq its n ∧ its.size ≤ sizeLine ∧ Vals xs its.toList
def SqT (K : PySem.W.Frag) (H : Hp) (a : Addr) (xs : List V) : Prop :=
  Rd H a (.tup xs) ∨
    ∃ (o : Obj) (its : Array Value) (n : Nat), K.lookup a = some o ∧ o.cls = .type "tuple" ∧ o.data = .seq its n ∧ its.size ≤ sizeLine ∧ Vals xs its.toList
def absV : Value → Option V
  | .none => some .non
  | .bool b => some (.bl b)
  | .int i _ => some (.int i)
  | .str x _ => some (.str x)
  | .bytes b _ => some (.byt b)
  | .float b _ => some (.flt b)
  | .ref a => some (.ref a)
  | .type n => some (.ty n)
  | _ => none
theorem RelV.abs {x : V} {u : Value} (r : RelV x u) : absV u = some x := by
  cases x with
  | non => cases r; rfl
  | bl _ => cases r; rfl
  | int _ => obtain ⟨t, rfl⟩ := r; rfl
  | str _ => obtain ⟨t, rfl⟩ := r; rfl
  | byt _ => obtain ⟨t, rfl⟩ := r; rfl
  | flt _ => obtain ⟨t, rfl⟩ := r; rfl
  | ref _ => cases r; rfl
  | ty _ => cases r; rfl
theorem RelV.inj {x y : V} {u : Value} (r : RelV x u) (q : RelV y u) : x = y := Option.some.inj (r.abs.symm.trans q.abs)
theorem Vals.inj : ∀ {xs ys : List V} {us : List Value}, Vals xs us → Vals ys us → xs = ys
  | _, _, _, .nil, .nil => rfl
  | _, _, _, .cons r t, .cons r' t' => by rw [r.inj r', Vals.inj t t']
section
variable {X : Cx} {pins : List (Addr × Obj)} {σ : St} {H : Hp} {s : Shared} {a : Addr} {xs ys : List V}
theorem SqL.of {K : PySem.W.Frag} (h : H a = some (.lst xs)) : SqL K H a xs := .inl (.inl h)
theorem SqT.of {K : PySem.W.Frag} (h : H a = some (.tup xs)) : SqT K H a xs := .inl (.inl h)
theorem Inv.list (I : Inv X pins σ H s) (h : SqL X.K H a xs) : ∃ its : List Value, Vals xs its ∧ PlainL s.heap a its.toArray ∧ xs.length ≤ sizeLine := by
  rcases h with h | ⟨o, its, n, hk, hc, hd, hs, hz, r⟩
  · obtain ⟨z, its, n, r, e⟩ := h.ok I.hok
    exact ⟨its, r, ⟨_, n, e, rfl, rfl, rfl⟩, z⟩
  · refine ⟨its.toList, r, ⟨o, n, I.kIn a o hk, hc, hd, by simpa using hs⟩, ?_⟩
    have e := r.length
    simp only [Array.length_toList] at e
    omega
theorem Inv.tuple (I : Inv X pins σ H s) (h : SqT X.K H a xs) : ∃ its : List Value, Vals xs its ∧ IsTup s.heap a its.toArray ∧ xs.length ≤ sizeLine := by
  rcases h with h | ⟨o, its, n, hk, hc, hs, hz, r⟩
  · obtain ⟨z, its, r, p⟩ := h.ok I.hok
    exact ⟨its, r, p, z⟩
  · refine ⟨its.toList, r, ⟨o, I.kIn a o hk, hc, n, by simpa using hs⟩, ?_⟩
    have e := r.length
    simp only [Array.length_toList] at e
    omega
theorem Inv.list_inj (I : Inv X pins σ H s) (h : SqL X.K H a xs) (h' : SqL X.K H a ys) : xs = ys := by
  obtain ⟨its, r, ⟨o, n, e, _, _, d⟩, _⟩ := I.list h
  obtain ⟨its', r', ⟨o', n', e', _, _, d'⟩, _⟩ := I.list h'
  rw [e] at e'; cases e'
  rw [d] at d'
  injection d' with d1 _
  have : its = its' := by simpa using congrArg Array.toList d1
  subst this
  exact r.inj r'
theorem Inv.tuple_inj (I : Inv X pins σ H s) (h : SqT X.K H a xs) (h' : SqT X.K H a ys) : xs = ys := by
  obtain ⟨its, r, ⟨o, e, _, n, d⟩, _⟩ := I.tuple h
  obtain ⟨its', r', ⟨o', e', _, n', d'⟩, _⟩ := I.tuple h'
  rw [e] at e'; cases e'
  rw [d] at d'
  injection d' with d1 _
  have : its = its' := by simpa using congrArg Array.toList d1
  subst this
  exact r.inj r'
end
abbrev Cx.wish (X : Cx) (E : Value → Shared → Prop) : Cx := { X with xe := E }
abbrev Cx.nox (X : Cx) : Cx := X.wish fun _ _ => False
theorem Cx.Ok.wish {X : Cx} (ok : X.Ok) (E : Value → Shared → Prop) : (X.wish E).Ok :=
  ⟨ok.mod, ok.kind, ok.glob, ok.blt, ok.above, ok.inj, ok.has, ok.cab, ok.hd, ok.frames, ok.stk, ok.exf, ok.bs, ok.bsz, ok.noex, ok.exfs, ok.funs, ok.frf⟩
theorem Cx.Ok.unwish {X : Cx} {E : Value → Shared → Prop} (ok : (X.wish E).Ok) : X.Ok :=
  ⟨ok.mod, ok.kind, ok.glob, ok.blt, ok.above, ok.inj, ok.has, ok.cab, ok.hd, ok.frames, ok.stk, ok.exf, ok.bs, ok.bsz, ok.noex, ok.exfs, ok.funs, ok.frf⟩
section
variable {X : Cx} {pins : List (Addr × Obj)} {σ : St} {H : Hp} {s : Shared} {E : Value → Shared → Prop}
theorem Inv.wish (I : Inv X pins σ H s) (E : Value → Shared → Prop) : Inv (X.wish E) pins σ H s := ⟨I.ok.wish E, I.os, I.bare, I.base, I.loc, I.cell, I.free, I.freeC, I.pin, I.hok, I.len⟩
theorem Inv.unwish (I : Inv (X.wish E) pins σ H s) : Inv X pins σ H s := ⟨I.ok.unwish, I.os, I.bare, I.base, I.loc, I.cell, I.free, I.freeC, I.pin, I.hok, I.len⟩
theorem SP.unwish {D : Ends} {f : Flow} {s' : Shared} (h : SP (X.wish E) pins D f s') : SP X pins D f s' := by
  cases f with
  | next => obtain ⟨σ', H', I, q⟩ := h; exact ⟨σ', H', I.unwish, q⟩
  | brk => obtain ⟨σ', H', I, q⟩ := h; exact ⟨σ', H', I.unwish, q⟩
  | cont => obtain ⟨σ', H', I, q⟩ := h; exact ⟨σ', H', I.unwish, q⟩
  | ret u => obtain ⟨v, σ', H', I, r, q⟩ := h; exact ⟨v, σ', H', I.unwish, r, q⟩
theorem PSs.nox {st : List Stmt} {t : TS} (h : PSs X.nox st t) : PSs X st t := fun pins s σ H D I hw =>
  wpAny_mono (h pins s σ H D (I.wish _) hw) (fun _ _ q => q.unwish) fun _ _ z => False.elim z
end
section
variable {X : Cx} {st : Stmt} {rest : List Stmt} {t u : TS} {e : Expr} {te : TE} {pos : Pos}
def tNext : TS := fun D σ H => D.nx σ H
def tSeq (t u : TS) : TS := fun D σ H => t { D with nx := u D } σ H
theorem pss_nil : PSs X [] tNext := fun _ _ σ H _ I h => wpAny_execs_nil ⟨σ, H, I, h⟩
theorem pss_cons (h1 : PS X st t) (h2 : PSs X rest u) : PSs X (st :: rest) (tSeq t u) := by
  intro pins s σ H D I h
  refine wpAny_execs_cons (thn (h1 pins s σ H { D with nx := u D } I h) fun f s1 q => ?_)
  cases f with
  | next =>
    obtain ⟨σ', H', I', q⟩ := q
    exact h2 pins s1 σ' H' D I' q
  | ret v => exact q
  | brk => exact q
  | cont => exact q
theorem pss_one (h1 : PS X st t) : PSs X [st] t := by
  intro pins s σ H D I h
  refine wpAny_execs_cons (thn (h1 pins s σ H D I h) fun f s1 q => ?_)
  cases f with
  | next => exact wpAny_execs_nil q
  | ret v => exact q
  | brk => exact q
  | cont => exact q
theorem Inv.quiet {pins : List (Addr × Obj)} {σ : St} {H : Hp} {s : Shared} (I : Inv X pins σ H s) : interactive X.env = false := by simp [interactive, I.ok.kind]
def tDrop (te : TE) : TS := fun D σ H => te σ H fun _ H1 => D.nx σ H1
theorem ps_expr (he : PE X e te) (hs : swapsWith e none pos.line X.env = pure false := by rfl) : PS X (.Expr e pos) (tDrop te) := by
  intro pins s σ H D I h
  exact wpAny_Expr_any (thn (he pins s σ H _ I h) fun v s1 ⟨x, H1, I1, r1, q1⟩ => ⟨σ, H1, I1, q1⟩) I.quiet hs
def tRet (te : TE) : TS := fun D σ H => te σ H D.rt
theorem ps_ret (he : PE X e te) : PS X (.Return (some e) pos) (tRet te) := by
  intro pins s σ H D I h
  exact wpAny_Return_some (thn (he pins s σ H _ I h) fun v s1 ⟨x, H1, I1, r1, q1⟩ => ⟨x, σ, H1, I1, r1, q1⟩)
def tIfS (c : TT) (t u : TS) : TS := fun D σ H => c σ H fun b H1 => if b = true then t D σ H1 else u D σ H1
theorem ps_if {c : Expr} {a b : List Stmt} {tc : TT} (hc : PT X c tc) (ha : PSs X a t) (hb : PSs X b u) : PS X (.If c a b pos) (tIfS tc t u) := by
  intro pins s σ H D I h
  refine wpAny_If (thn (hc pins s σ H _ I h) fun d s1 ⟨H1, I1, q1⟩ => ?_)
  cases d with
  | true => exact ha pins s1 σ H1 D I1 q1
  | false => exact hb pins s1 σ H1 D I1 q1
def tNever : TS := fun _ _ _ => False
theorem pss_never {sts : List Stmt} : PSs X sts tNever := fun _ _ _ _ _ _ h => h.elim
end
abbrev TG := V → St → Hp → (St → Hp → Prop) → Prop
abbrev TGs := List V → St → Hp → (St → Hp → Prop) → Prop
def PG (X : Cx) (target : Expr) (t : TG) : Prop :=
  ∀ (pins : List (Addr × Obj)) (s : Shared) (σ : St) (H : Hp) (v : V) (u : Value) (Q : St → Hp → Prop), Inv X pins σ H s → RelV v u → t v σ H Q →
    wpAny (model X.prog X.w) X.A (assign target X.env u) (fun _ s' => ∃ σ' H', Inv X pins σ' H' s' ∧ Q σ' H') X.xe s
def PGs (X : Cx) (ts : List Expr) (t : TGs) : Prop :=
  ∀ (pins : List (Addr × Obj)) (s : Shared) (σ : St) (H : Hp) (vs : List V) (us : List Value) (Q : St → Hp → Prop), Inv X pins σ H s → Vals vs us → t vs σ H Q →
    wpAny (model X.prog X.w) X.A (assignInOrder ((assignEach ts X.env).map (·.2)) us) (fun _ s' => ∃ σ' H', Inv X pins σ' H' s' ∧ Q σ' H') X.xe s
abbrev TSet := V → V → V → Hp → (Hp → Prop) → Prop
def PSet (X : Cx) (t : TSet) : Prop :=
  ∀ (pins : List (Addr × Obj)) (s : Shared) (σ : St) (H : Hp) (o i v : V) (ov iv u : Value) (Q : Hp → Prop), Inv X pins σ H s → RelV o ov → RelV i iv → RelV v u → t o i v H Q →
    wpAny (model X.prog X.w) X.A (setItem ov iv u) (fun _ s' => ∃ H', Inv X pins σ H' s' ∧ Q H') X.xe s
abbrev TIp := V → V → Hp → VK → Prop
def PIp (X : Cx) (op : Operator) (t : TIp) : Prop :=
  ∀ (pins : List (Addr × Obj)) (s : Shared) (σ : St) (H : Hp) (x y : V) (v u : Value) (Q : VK), Inv X pins σ H s → RelV x v → RelV y u → t x y H Q →
    wpAny (model X.prog X.w) X.A (inplaceOp op v u) (EP X pins σ Q) X.xe s
section
variable {X : Cx} {pos : Pos}
def gName (i : Nat) : TG := fun v σ H Q => Q (σ.set i (some v)) H
theorem pg_name {i : Nat} {x : Str} (hN : X.N.Nodup) (hi : X.N[i]? = some x) (hx : Loc X.env.scope x) (hf : X.fn x = true ∨ X.env.scope.names.lookup x = some .local := by first | exact .inl rfl | exact .inr rfl | assumption) : PG X (.Name x pos) (gName i) := by
  intro pins s σ H v u Q I r h
  exact wpAny_assign_Name (store_ok I hN hi hx r (fun s' I' => ⟨_, H, I', h⟩) hf)
def gNil : TGs := fun vs σ H Q => vs = [] ∧ Q σ H
def gCons (t : TG) (u : TGs) : TGs := fun vs σ H Q => ∃ v r, vs = v :: r ∧ t v σ H fun σ' H' => u r σ' H' Q
theorem pgs_nil : PGs X [] gNil := by
  intro pins s σ H vs us Q I r h
  obtain ⟨e, h⟩ := h
  subst e
  cases r
  exact assignInOrder_nil ⟨σ, H, I, h⟩
theorem pgs_cons {e : Expr} {es : List Expr} {t : TG} {u : TGs} (h1 : PG X e t) (h2 : PGs X es u)
    (hs : (assignEach (e :: es) X.env).map (·.2) = assign e X.env :: (assignEach es X.env).map (·.2) := by rfl) : PGs X (e :: es) (gCons t u) := by
  intro pins s σ H vs us Q I r h
  obtain ⟨v, vr, e1, h⟩ := h
  subst e1
  cases r with
  | cons r rr =>
    rw [hs]
    refine assignInOrder_cons (thn (h1 pins s σ H _ _ _ I r h) fun _ s1 ⟨σ1, H1, I1, q1⟩ => ?_)
    exact h2 pins s1 σ1 H1 _ _ Q I1 rr q1
def gTup (K : PySem.W.Frag) (n : Nat) (t : TGs) : TG := fun v σ H Q => ∃ a xs, v = .ref a ∧ SqT K H a xs ∧ xs.length = n ∧ t xs σ H Q
theorem pg_tup {es : List Expr} {k : Nat} {t : TGs} {n : Nat} (hc : X.calm = true) (h : PGs X es t)
    (hn : (assignEach es X.env).length = n := by rfl) (hst : (assignEach es X.env).findIdx? (·.1) = none := by rfl) : PG X (.Tuple es k pos) (gTup X.K n t) := by
  intro pins s σ H v u Q I r hw
  obtain ⟨a, xs, e1, hq, hl, hw⟩ := hw
  subst e1
  cases r
  obtain ⟨its, rv, ht, hz⟩ := I.tuple hq
  refine assign_Tuple_tuple (I.ok.hd hc) ht (by simp [hn, ← hl, rv.length]) hst fun h' hx => ?_
  have I1 : Inv X pins σ H { s with heap := h' } := I.kept (t' := s.toks) fun b o e => hx b o (Nat.ne_of_lt (Heap.lt_size e)) e
  exact h pins _ σ H xs _ Q I1 (by simpa using rv) hw
def gSub (to ti : TE) (t : TSet) : TG := fun v σ H Q => to σ H fun o H1 => ti σ H1 fun i H2 => t o i v H2 fun H3 => Q σ H3
theorem pg_sub {o i : Expr} {to ti : TE} {t : TSet} (ho : PE X o to) (hi : PE X i ti) (hs : PSet X t)
    (ha : ∀ v, assign (.Subscript o i pos) X.env v = (do
      let ov ← holding [v] (eval o X.env)
      let iv ← holding [v, ov] (eval i X.env)
      standAt pos
      holding [v, ov, iv] (setItem ov iv v)
      release [v, ov, iv] []) := by intro _; rfl) : PG X (.Subscript o i pos) (gSub to ti t) := by
  intro pins s σ H v u Q I r h
  rw [ha]
  refine wpAny_bind (wpAny_holding (thn (ho pins s σ H _ I h) fun ov s1 ⟨x, H1, I1, r1, q1⟩ => ?_))
  refine wpAny_bind (wpAny_holding (thn (hi pins s1 σ H1 _ I1 q1) fun iv s2 ⟨y, H2, I2, r2, q2⟩ => ?_))
  refine wpAny_bind (wpAny_standAt (wpAny_bind (wpAny_holding (thn (hs pins s2 σ H2 x y v ov iv u _ I2 r1 r2 r q2) fun _ s3 ⟨H3, I3, q3⟩ => ?_))))
  exact wpAny_release ⟨σ, H3, I3, q3⟩
def tAsg (te : TE) (g : TG) : TS := fun D σ H => te σ H fun x H1 => g x σ H1 D.nx
theorem ps_asg {tg e : Expr} {te : TE} {g : TG} (he : PE X e te) (hg : PG X tg g) (hs : swapsWithSole [tg] e pos.line X.env = pure false := by rfl) (hw : swappedStores [tg] e X.env = pure none := by rfl)
    (h1 : (assignEach [tg] X.env).map (·.2) = [assign tg X.env] := by rfl) : PS X (.Assign [tg] e pos) (tAsg te g) := by
  intro pins s σ H D I h
  refine wpAny_Assign_stores (thn (he pins s σ H _ I h) fun v s1 ⟨x, H1, I1, r1, q1⟩ => ?_) hs hw
  rw [h1]
  exact thn (hg pins s1 σ H1 x v _ I1 r1 q1) fun _ s2 q => q
theorem ps_set {i : Nat} {x : Str} {e : Expr} {te : TE} {pos' : Pos} (hN : X.N.Nodup) (hi : X.N[i]? = some x) (hx : Loc X.env.scope x) (he : PE X e te) (hs : swapsWith e (some (.Name x pos')) pos.line X.env = pure false := by rfl) (hf : X.fn x = true ∨ X.env.scope.names.lookup x = some .local := by first | exact .inl rfl | exact .inr rfl | assumption) :
    PS X (.Assign [.Name x pos'] e pos) (tAsg te (gName i)) := by
  intro pins s σ H D I h
  refine wpAny_Assign_Name (thn (he pins s σ H _ I h) fun v s1 ⟨y, H1, I1, r1, q1⟩ => ?_) hs
  exact store_ok I1 hN hi hx r1 (fun s2 I2 => ⟨_, H1, I2, q1⟩) hf
def tAugS (to ti te : TE) (tget : V → V → Hp → VK → Prop) (tip : TIp) (tset : TSet) : TS := fun D σ H => to σ H fun o H1 => ti σ H1 fun i H2 => tget o i H2 fun x H3 => te σ H3 fun y H4 => tip x y H4 fun z H5 => tset o i z H5 fun H6 => D.nx σ H6
def PGet (X : Cx) (t : V → V → Hp → VK → Prop) : Prop :=
  ∀ (pins : List (Addr × Obj)) (s : Shared) (σ : St) (H : Hp) (o i : V) (ov iv : Value) (Q : VK), Inv X pins σ H s → RelV o ov → RelV i iv → t o i H Q →
    wpAny (model X.prog X.w) X.A (getItem ov iv) (EP X pins σ Q) X.xe s
theorem ps_augS {o i e : Expr} {to ti te : TE} {tget : V → V → Hp → VK → Prop} {tip : TIp} {tset : TSet} {op : Operator} {tpos : Pos} (ho : PE X o to) (hi : PE X i ti) (hg : PGet X tget) (he : PE X e te) (hp : PIp X op tip) (hs : PSet X tset)
    (ha : ∀ ov iv new, augStore i ov iv new = (do holding [new, ov, iv] (setItem ov iv new); release [new, ov, iv] []; pure .next) := by intros; rfl) : PS X (.AugAssign (.Subscript o i tpos) op e pos) (tAugS to ti te tget tip tset) := by
  intro pins s σ H D I h
  refine wpAny_AugAssign_SubscriptAny (thn (ho pins s σ H _ I h) fun ov s1 ⟨x1, H1, I1, r1, q1⟩ => ?_) ha
  refine thn (hi pins s1 σ H1 _ I1 q1) fun iv s2 ⟨x2, H2, I2, r2, q2⟩ => ?_
  refine thn (hg pins s2 σ H2 x1 x2 ov iv _ I2 r1 r2 q2) fun old s3 ⟨x3, H3, I3, r3, q3⟩ => ?_
  refine thn (he pins s3 σ H3 _ I3 q3) fun v s4 ⟨x4, H4, I4, r4, q4⟩ => ?_
  refine thn (hp pins s4 σ H4 x3 x4 old v _ I4 r3 r4 q4) fun new s5 ⟨x5, H5, I5, r5, q5⟩ => ?_
  exact thn (hs pins s5 σ H5 x1 x2 x5 ov iv new _ I5 r1 r2 r5 q5) fun _ s6 ⟨H6, I6, q6⟩ => ⟨σ, H6, I6, q6⟩
def ipI (f : Int → Int → Int) : TIp := fun x y H Q => ∃ i j, x = .int i ∧ y = .int j ∧ Q (.int (f i j)) H
theorem ip_add : PIp X .Add (ipI fun i j => i + j) := by
  intro pins s σ H x y v u Q I r1 r2 h
  obtain ⟨i, j, e1, e2, q⟩ := h
  subst e1; subst e2
  obtain ⟨t, rfl⟩ := r1
  obtain ⟨t', rfl⟩ := r2
  exact iadd_int ⟨.int _, H, I.tok _, ⟨_, rfl⟩, q⟩
end
structure It where
  go : Nat → Hp → Prop
  yld : Nat → Hp → V → Hp → Prop
  stop : Nat → Hp → Prop
def FpOk (X : Cx) (pins : List (Addr × Obj)) (H : Hp) (b : Addr) : Prop :=
  H b = none ∧ b ≠ X.env.locals ∧ b ∉ X.fs ∧ (b ∈ X.ex ∨ X.s₀.heap.objs.size ≤ b) ∧ (∀ x c, X.env.cells.lookup x = some c → c ≠ b) ∧ ∀ p ∈ X.pn ++ pins, p.1 ≠ b
theorem Inv.fpOk {X : Cx} {pins : List (Addr × Obj)} {σ : St} {H H' : Hp} {s : Shared} {b : Addr} (I : Inv X pins σ H s) (hb : s.heap.objs.size ≤ b) (hn : H' b = none) : FpOk X pins H' b := by
  refine ⟨hn, Nat.ne_of_gt (Nat.lt_of_lt_of_le I.lt hb), I.nofs hb, .inr (Nat.le_trans I.sz hb), fun x c e z => ?_, fun p hp z => ?_⟩
  · obtain ⟨v, q⟩ := I.cell x c e
    exact absurd (Nat.lt_of_lt_of_le q.lt (by rw [z]; exact hb)) (Nat.lt_irrefl _)
  · exact absurd (Nat.lt_of_lt_of_le (Heap.lt_size (I.pin p hp).1) (by rw [z]; exact hb)) (Nat.lt_irrefl _)
structure Turn (P : Program) (w : World) (K : PySem.W.Frag) (tg : Expr) (J : It) (fp : List Addr) (it : Addr) (tn : Nat → Heap → Prop) : Prop where
  mem : it ∈ fp
  obj : ∀ i h, tn i h → ∀ b ∈ fp, ∃ o, h.get? b = some o ∧ ∀ v, o.data ≠ .cell v
  keep : ∀ i h h', tn i h → (∀ b ∈ fp, ∀ o, h.get? b = some o → h'.get? b = some o) → tn i h'
  item : ∀ (X : Cx), X.prog = P → X.w = w → X.K = K → X.calm = true → ∀ (i : Nat) (pins : List (Addr × Obj)) (s : Shared) (σ : St) (H : Hp) (E : Value → Shared → Prop), Inv X pins σ H s → (∀ b ∈ fp, FpOk X pins H b) → tn i s.heap → J.go i H →
    wpAny (model P w) X.A (pyNext (.ref it)) (fun r s1 => ∃ u, r = some u ∧
      wpAny (model P w) X.A (letOwnedTupleGo tg (.ref it) u) (fun _ s2 => ∃ x H', Inv X pins σ H' s2 ∧ RelV x u ∧ J.yld i H x H' ∧ tn (i + 1) s2.heap ∧ ∀ b ∈ fp, H' b = none) E s1) E s
  done : ∀ (X : Cx), X.prog = P → X.w = w → X.K = K → X.calm = true → ∀ (i : Nat) (pins : List (Addr × Obj)) (s : Shared) (σ : St) (H : Hp) (E : Value → Shared → Prop), Inv X pins σ H s → (∀ b ∈ fp, FpOk X pins H b) → tn i s.heap → J.stop i H →
    wpAny (model P w) X.A (pyNext (.ref it)) (fun r s1 => r = none ∧ Inv X pins σ H s1) E s
  self : ∀ (A : Around) (i : Nat) (s : Shared) (Q : Value → Shared → Prop) (E : Value → Shared → Prop), tn i s.heap → Q (.ref it) s → wpAny (model P w) A (pyIter (.ref it)) Q E s
abbrev TI := St → Hp → (It → Hp → Prop) → Prop
def PIE (X : Cx) (pins : List (Addr × Obj)) (σ : St) (tg : Expr) (R : It → Hp → Prop) (itv : Value) (s2 : Shared) : Prop :=
  ∃ (it : Addr) (fp : List Addr) (tn : Nat → Heap → Prop) (J : It) (H' : Hp), itv = .ref it ∧ Inv X pins σ H' s2 ∧ Turn X.prog X.w X.K tg J fp it tn ∧ tn 0 s2.heap ∧ (∀ b ∈ fp, FpOk X pins H' b) ∧ R J H'
def PI (X : Cx) (tg iter : Expr) (wi : TI) : Prop :=
  ∀ (pins : List (Addr × Obj)) (s : Shared) (σ : St) (H : Hp) (R : It → Hp → Prop), Inv X pins σ H s → wi σ H R →
    wpAny (model X.prog X.w) X.A (eval iter X.env) (fun v s1 => wpAny (model X.prog X.w) X.A (pyIter v) (PIE X pins σ tg R) X.xe s1) X.xe s
theorem go_of {M : Model} {A : Around} {E : Value → Shared → Prop} {s : Shared} {tg : Expr} {it : Addr} {u : Value} {o : Obj} {n : String} {vs : Array Value} {Q : Unit → Shared → Prop} (ho : s.heap.get? it = some o) (hc : o.cls = .type n) (hd : o.data = .fields vs)
    (hn : ["enumerate", "zip", "dict_itemiterator", "dict_reverseitemiterator", "odict_iterator", "itertools.zip_longest", "itertools.pairwise"].contains n = false) (hQ : Q () s) : wpAny M A (letOwnedTupleGo tg (.ref it) u) Q E s := by
  unfold letOwnedTupleGo
  cases tg <;> first
    | exact wpAny_pure hQ
    | (cases u <;> first
        | exact wpAny_pure hQ
        | (refine wpAny_bind (wpAny_load ho ?_)
           rw [hc, hd]
           show wpAny M A (if (["enumerate", "zip", "dict_itemiterator", "dict_reverseitemiterator", "odict_iterator", "itertools.zip_longest", "itertools.pairwise"].contains n && vs[0]? == some (rawInt _)) = true then _ else _) Q E s
           rw [if_neg (by intro h; rw [hn, Bool.false_and] at h; cases h)]
           exact wpAny_pure hQ))
def Itl (K : PySem.W.Frag) (a : Addr) : It :=
  ⟨fun i H => ∃ xs x, SqL K H a xs ∧ xs[i]? = some x, fun i H x H' => H' = H ∧ ∀ xs, SqL K H a xs → xs[i]? = some x, fun i H => ∃ xs, SqL K H a xs ∧ xs.length ≤ i⟩
def Itt (K : PySem.W.Frag) (a : Addr) : It :=
  ⟨fun i H => ∃ xs x, SqT K H a xs ∧ xs[i]? = some x, fun i H x H' => H' = H ∧ ∀ xs, SqT K H a xs → xs[i]? = some x, fun i H => ∃ xs, SqT K H a xs ∧ xs.length ≤ i⟩
def Itr (lo : Int) (n : Nat) : It := ⟨fun i _ => i < n, fun i H x H' => H' = H ∧ x = .int (lo + i), fun i _ => n ≤ i⟩
theorem turn_list {P : Program} {w : World} {K : PySem.W.Frag} {tg : Expr} (a it : Addr) : Turn P w K tg (Itl K a) [it] it (fun i h => h.IsListIter it a i) where
  mem := by simp
  obj := fun i h st b hb => by
    have e : b = it := by simpa using hb
    subst e
    obtain ⟨o, e, c, d⟩ := st
    exact ⟨o, e, fun v z => by rw [d] at z; cases z⟩
  keep := fun i h h' st k => st.at fun o e => k it (by simp) o e
  item := by
    intro X hP hw hK hc i pins s σ H E I hf st hg
    subst hP hw hK
    obtain ⟨xs, x, hq, hx⟩ := hg
    obtain ⟨its, rv, p, hz⟩ := I.list hq
    obtain ⟨u, hu, ru⟩ := rv.get hx
    obtain ⟨f0, f1, f2, f3, f4, f5⟩ := hf it (by simp)
    refine wpAny_pyNext_list_item st p.isList (x := u) (by simpa using hu) fun h' st' sb => ?_
    have I1 : Inv X pins σ H { s with heap := h' } := I.turned (t' := s.toks) (fun b o hb e => (sb.2 b hb).trans e) f0 f1 f3 f4 f5
    obtain ⟨o, e, c, d⟩ := id st'
    exact ⟨u, rfl, go_of (s := { s with heap := h' }) e c d (by decide) ⟨x, H, I1, ru, ⟨rfl, fun ys hy => by rw [I.list_inj hy hq]; exact hx⟩, st', fun b hb => (hf b hb).1⟩⟩
  done := by
    intro X hP hw hK hc i pins s σ H E I hf st hg
    subst hP hw hK
    obtain ⟨xs, hq, hx⟩ := hg
    obtain ⟨its, rv, p, hz⟩ := I.list hq
    obtain ⟨f0, f1, f2, f3, f4, f5⟩ := hf it (by simp)
    have hl := rv.length
    exact wpAny_pyNext_list_end (I.ok.hd hc) st p.isList (by simp; omega) fun h' eb => ⟨rfl, I.turned (t' := s.toks) (fun b o hb e => eb b o hb e) f0 f1 f3 f4 f5⟩
  self := fun _ _ _ _ _ st h => wpAny_pyIter_listiter st h
theorem turn_tuple {P : Program} {w : World} {K : PySem.W.Frag} {tg : Expr} (a it : Addr) : Turn P w K tg (Itt K a) [it] it (fun i h => h.IsTupleIter it a i) where
  mem := by simp
  obj := fun i h st b hb => by
    have e : b = it := by simpa using hb
    subst e
    obtain ⟨o, e, c, d⟩ := st
    exact ⟨o, e, fun v z => by rw [d] at z; cases z⟩
  keep := fun i h h' st k => st.at fun o e => k it (by simp) o e
  item := by
    intro X hP hw hK hc i pins s σ H E I hf st hg
    subst hP hw hK
    obtain ⟨xs, x, hq, hx⟩ := hg
    obtain ⟨its, rv, p, hz⟩ := I.tuple hq
    obtain ⟨u, hu, ru⟩ := rv.get hx
    obtain ⟨f0, f1, f2, f3, f4, f5⟩ := hf it (by simp)
    refine wpAny_pyNext_tuple_item st (show s.heap.IsTuple a its.toArray from p) (x := u) (by simpa using hu) fun h' st' sb => ?_
    have I1 : Inv X pins σ H { s with heap := h' } := I.turned (t' := s.toks) (fun b o hb e => (sb.2 b hb).trans e) f0 f1 f3 f4 f5
    obtain ⟨o, e, c, d⟩ := id st'
    exact ⟨u, rfl, go_of (s := { s with heap := h' }) e c d (by decide) ⟨x, H, I1, ru, ⟨rfl, fun ys hy => by rw [I.tuple_inj hy hq]; exact hx⟩, st', fun b hb => (hf b hb).1⟩⟩
  done := by
    intro X hP hw hK hc i pins s σ H E I hf st hg
    subst hP hw hK
    obtain ⟨xs, hq, hx⟩ := hg
    obtain ⟨its, rv, p, hz⟩ := I.tuple hq
    obtain ⟨f0, f1, f2, f3, f4, f5⟩ := hf it (by simp)
    have hl := rv.length
    exact wpAny_pyNext_tuple_end (I.ok.hd hc) st (show s.heap.IsTuple a its.toArray from p) (by simp; omega) fun h' eb => ⟨rfl, I.turned (t' := s.toks) (fun b o hb e => eb b o hb e) f0 f1 f3 f4 f5⟩
  self := fun _ _ _ _ _ st h => wpAny_pyIter_tupleiter st h
theorem turn_range {P : Program} {w : World} {K : PySem.W.Frag} {tg : Expr} (it : Addr) (lo : Int) (n : Nat) : Turn P w K tg (Itr lo n) [it] it (fun i h => IsRangeIter h it (lo + (i : Nat) * 1) ((n : Int) - (i : Nat)) 1) where
  mem := by simp
  obj := fun i h st b hb => by
    have e : b = it := by simpa using hb
    subst e
    exact ⟨_, st, fun v z => by
      have z' : Data.fields _ = Data.cell v := z
      cases z'⟩
  keep := fun i h h' st k => k it (by simp) _ st
  item := by
    intro X hP hw hK hc i pins s σ H E I hf st hg
    subst hP hw hK
    obtain ⟨f0, f1, f2, f3, f4, f5⟩ := hf it (by simp)
    have W := Walks.range (prog := X.prog) (w := X.w) (I.ok.hd hc) it lo 1 n
    refine W.item i s _ _ hg st fun v h' tk hv st' kk => ?_
    obtain ⟨t, rfl⟩ := hv
    have I1 : Inv X pins σ H { s with heap := h', toks := tk } := I.turned (fun b o hb e => kk b o (by simpa using hb) e) f0 f1 f3 f4 f5
    refine ⟨_, rfl, go_of (s := { s with heap := h', toks := tk }) (n := "range_iterator") st' rfl rfl (by decide) ⟨.int (lo + i), H, I1, ⟨t, ?_⟩, ⟨rfl, rfl⟩, st', fun b hb => (hf b hb).1⟩⟩
    rw [Int.mul_one]
  done := by
    intro X hP hw hK hc i pins s σ H E I hf st hg
    subst hP hw hK
    obtain ⟨f0, f1, f2, f3, f4, f5⟩ := hf it (by simp)
    exact wpAny_pyNext_range_end (I.ok.hd hc) st (by have : n ≤ i := hg; omega) fun h' eb => ⟨rfl, I.turned (t' := s.toks) (fun b o hb e => eb b o hb e) f0 f1 f3 f4 f5⟩
  self := fun _ _ _ _ _ st h => wpAny_pyIter_rangeiter st h
end L2
namespace L2
open PySem PySem.Spec PyProof.Rows
section
variable {X : Cx} {tg : Expr}
def iList (K : PySem.W.Frag) (tl : TE) : TI := fun σ H R => tl σ H fun x H1 => ∃ a, x = .ref a ∧ (∃ xs, SqL K H1 a xs) ∧ R (Itl K a) H1
theorem pi_list {l : Expr} {tl : TE} (hl : PE X l tl) : PI X tg l (iList X.K tl) := by
  intro pins s σ H R I h
  refine thn (hl pins s σ H _ I h) fun v s1 ⟨x, H1, I1, r1, q1⟩ => ?_
  obtain ⟨a, e, ⟨xs, hq⟩, q⟩ := q1
  subst e
  cases r1
  obtain ⟨its, rv, p, hz⟩ := I1.list hq
  refine wpAny_pyIter_list p.isList ?_
  refine ⟨s1.heap.objs.size, [s1.heap.objs.size], _, _, H1, rfl, I1.kept (t' := s1.toks) fun b o e => Heap.get?_push_of_some _ e, turn_list a _, ⟨_, Heap.get?_push_size _ rfl, rfl, rfl⟩, fun b hb => ?_, q⟩
  have e : b = s1.heap.objs.size := by simpa using hb
  subst e
  exact I1.fpOk (Nat.le_refl _) (I1.hok.fresh (Nat.le_refl _))
theorem range_it {pins : List (Addr × Obj)} {σ : St} {H : Hp} {s : Shared} {R : It → Hp → Prop} {E : Value → Shared → Prop} {lo hi : Int} {t u v : Tok} {tk : Nat} (I : Inv X pins σ H s) (h1 : -(2 ^ 62) ≤ lo) (h2 : lo < 2 ^ 62) (h3 : -(2 ^ 62) ≤ hi) (h4 : hi < 2 ^ 62)
    (q : R (Itr lo (hi - lo).toNat) H) : wpAny (model X.prog X.w) X.A (pyIter (.ref s.heap.objs.size)) (PIE X pins σ tg R) E { s with heap := s.heap.push { cls := .type "range", data := .fields #[.int lo t, .int hi u, .int 1 v] }, toks := tk } := by
  refine wpAny_pyIter_range (IsRange.new ..) (small_one h1 h2 h3 h4) ?_
  have I1 : Inv X pins σ H { s with heap := s.heap.push { cls := .type "range", data := .fields #[.int lo t, .int hi u, .int 1 v] }, toks := tk } := I.kept fun b o e => Heap.get?_push_of_some _ e
  refine ⟨(s.heap.push { cls := .type "range", data := .fields #[.int lo t, .int hi u, .int 1 v] }).objs.size, [(s.heap.push { cls := .type "range", data := .fields #[.int lo t, .int hi u, .int 1 v] }).objs.size], _, _, H, rfl,
    I1.kept (t' := tk) fun b o e => Heap.get?_push_of_some _ e, turn_range _ lo (hi - lo).toNat, ?_, fun b hb => ?_, q⟩
  · have e1 : lo + ((0 : Nat) : Int) * 1 = lo := by simp
    have e2 : (((hi - lo).toNat : Nat) : Int) - ((0 : Nat) : Int) = Builtin.Range.rangeSize lo hi 1 := by rw [rangeSize_one]; split <;> omega
    show IsRangeIter _ _ (lo + ((0 : Nat) : Int) * 1) ((((hi - lo).toNat : Nat) : Int) - ((0 : Nat) : Int)) 1
    rw [e1, e2]
    exact Heap.get?_push_size _ rfl
  · have e : b = (s.heap.push { cls := .type "range", data := .fields #[.int lo t, .int hi u, .int 1 v] }).objs.size := by simpa using hb
    subst e
    exact I1.fpOk (Nat.le_refl _) (I1.hok.fresh (Nat.le_refl _))
def iRng1 (ta : TA) : TI := fun σ H R => ta σ H fun vs H1 => ∃ j : Int, vs = [.int j] ∧ -(2 ^ 62) ≤ j ∧ j < 2 ^ 62 ∧ R (Itr 0 j.toNat) H1
theorem pi_range1 {a : Expr} {ta : TA} {p pos : Pos} (hg : Gl X "range") (hm : X.mg "range" = none) (ha : PA X [a] ta) (hs : starEach [a] X.env = [(false, eval a X.env)] := by rfl) : PI X tg (.Call (.Name "range" p) [a] [] pos) (iRng1 ta) := by
  intro pins s σ H R I h
  refine Call_ (ld_blt I hg hm boot_range (PyProof.Rows.callWith_type1 (thn (ha pos pins s σ H _ I h) fun us s1 ⟨vs, H1, I1, r1, q1⟩ => ?_) hs rfl))
  obtain ⟨j, e, q1, q2, q⟩ := q1
  subst e
  cases r1 with
  | cons r rr =>
    cases rr
    obtain ⟨t, rfl⟩ := r
    exact call_range_1 (range_it I1 (by omega) (by omega) q1 q2 (by simpa using q))
def tFor (wi : TI) (g : TG) (tb : TS) : TS := fun D σ H => wi σ H fun J H1 => ∃ W : Nat → Nat → St → Hp → Prop, (∃ m, W 0 m σ H1) ∧ ∀ i m σ H, W i m σ H →
  (J.stop i H ∧ D.nx σ H) ∨ (J.go i H ∧ ∃ N : St → Hp → Prop, (∀ σ' H', N σ' H' → ∃ m', m' < m ∧ W (i + 1) m' σ' H') ∧ ∀ x H', J.yld i H x H' → g x σ H' fun σ2 H2 => tb { D with nx := N, ct := N, bk := D.nx } σ2 H2)
def pinsAt (fp : List Addr) (h : Heap) : List (Addr × Obj) := fp.filterMap fun b => (h.get? b).map fun o => (b, o)
theorem mem_pinsAt {fp : List Addr} {h : Heap} {b : Addr} {o : Obj} (hb : b ∈ fp) (e : h.get? b = some o) : (b, o) ∈ pinsAt fp h := List.mem_filterMap.mpr ⟨b, hb, by rw [e]; rfl⟩
theorem of_pinsAt {fp : List Addr} {h : Heap} {p : Addr × Obj} (hp : p ∈ pinsAt fp h) : p.1 ∈ fp ∧ h.get? p.1 = some p.2 := by
  obtain ⟨b, hb, e⟩ := List.mem_filterMap.mp hp
  cases q : h.get? b with
  | none => rw [q] at e; cases e
  | some o =>
    rw [q] at e
    have e' : (b, o) = p := Option.some.inj e
    subst e'
    exact ⟨hb, q⟩
theorem Inv.pinned {pins : List (Addr × Obj)} {σ : St} {H : Hp} {s : Shared} {fp : List Addr} (I : Inv X pins σ H s) (hf : ∀ b ∈ fp, FpOk X pins H b) (ho : ∀ b ∈ fp, ∃ o, s.heap.get? b = some o ∧ ∀ v, o.data ≠ .cell v) : Inv X (pins ++ pinsAt fp s.heap) σ H s :=
  I.pins_of fun p hp => (List.mem_append.mp hp).elim (fun z => I.pin p (List.mem_append_right _ z)) fun z => by
    obtain ⟨hb, e⟩ := of_pinsAt z
    obtain ⟨f0, f1, f2, _⟩ := hf p.1 hb
    obtain ⟨o, e', d⟩ := ho p.1 hb
    rw [e] at e'; cases e'
    exact ⟨e, f0, f1, f2, d⟩
theorem Inv.unpinned {pins pl : List (Addr × Obj)} {σ : St} {H : Hp} {s : Shared} (I : Inv X (pins ++ pl) σ H s) : Inv X pins σ H s := I.pins_of fun p hp => I.pin p (List.mem_append_right _ (List.mem_append_left _ hp))
theorem ps_for {iter : Expr} {body : List Stmt} {wi : TI} {g : TG} {tb : TS} {pos : Pos} (hp : PassesOwn (model X.prog X.w) X.A X.env X.xe) (hc : X.calm = true) (hi : PI X tg iter wi) (hg : PG X tg g) (hb : PSs X body tb)
    (hs : ∀ x, foldedSetIterable iter X.env x = pure x := by intro _; rfl) : PS X (.For tg iter body [] pos) (tFor wi g tb) := by
  intro pins s σ H D I h
  refine wpAny_For (thn (hi pins s σ H _ I h) fun v s1 h1 => thn h1 fun itv s2 h2 => ?_) hs
  obtain ⟨it, fp, tn, J, H2, e, I2, T, st2, f2, W, ⟨m0, w0⟩, turn⟩ := h2
  subst e
  have stat : ∀ {H' : Hp}, (∀ b ∈ fp, H' b = none) → ∀ b ∈ fp, FpOk X pins H' b := fun hn b hb => ⟨hn b hb, (f2 b hb).2⟩
  refine codeAny_forLoop_any (fun n s' => ∃ i σ' H', Inv X pins σ' H' s' ∧ tn i s'.heap ∧ (∀ b ∈ fp, H' b = none) ∧ W i n σ' H') ?_ m0 ⟨0, σ, H2, I2, st2, fun b hb => (f2 b hb).1, w0⟩
  rintro n s3 ⟨i, σ3, H3, I3, st3, fr3, w3⟩
  rcases turn i n σ3 H3 w3 with ⟨stop, qn⟩ | ⟨go, N, hN, step⟩
  · refine wpAny_passesOwn hp (thn (T.done X rfl rfl rfl hc i pins s3 σ3 H3 X.xe I3 (stat fr3) st3 stop) fun r s4 ⟨hr, I4⟩ => ?_)
    subst hr
    exact wpAny_execs_nil ⟨σ3, H3, I4, qn⟩
  · refine wpAny_passesOwn hp (thn (T.item X rfl rfl rfl hc i pins s3 σ3 H3 X.xe I3 (stat fr3) st3 go) fun r s4 ⟨u, hr, h4⟩ => ?_)
    subst hr
    refine wpAny_passesOwn hp (thn h4 fun _ s5 ⟨x, H5, I5, r5, y5, st5, fr5⟩ => ?_)
    have I5' := I5.pinned (stat fr5) (T.obj _ _ st5)
    refine wpAny_passesOwn hp (thn (hg _ s5 σ3 H5 x u _ I5' r5 (step x H5 y5)) fun _ s6 ⟨σ6, H6, I6, q6⟩ => ?_)
    refine wpAny_passesOwn hp (thn (hb _ s6 σ6 H6 _ I6 q6) fun f s7 q7 => ?_)
    have again : ∀ {σ7 : St} {H7 : Hp}, Inv X (pins ++ pinsAt fp s5.heap) σ7 H7 s7 → N σ7 H7 → ∃ m, m < n ∧ ∃ i σ' H', Inv X pins σ' H' s7 ∧ tn i s7.heap ∧ (∀ b ∈ fp, H' b = none) ∧ W i m σ' H' := fun {σ7 H7} I7 n7 => by
      obtain ⟨m', hm, w7⟩ := hN σ7 H7 n7
      refine ⟨m', hm, i + 1, σ7, H7, I7.unpinned, T.keep _ _ _ st5 fun b hb o e => (I7.pin (b, o) (List.mem_append_right _ (List.mem_append_right _ (mem_pinsAt hb e)))).1, fun b hb => ?_, w7⟩
      obtain ⟨o, e, d⟩ := T.obj _ _ st5 b hb
      exact (I7.pin (b, o) (List.mem_append_right _ (List.mem_append_right _ (mem_pinsAt hb e)))).2.1
    cases f with
    | next => obtain ⟨σ7, H7, I7, n7⟩ := q7; exact again I7 n7
    | cont => obtain ⟨σ7, H7, I7, n7⟩ := q7; exact again I7 n7
    | brk => obtain ⟨σ7, H7, I7, q7⟩ := q7; exact ⟨σ7, H7, I7.unpinned, q7⟩
    | ret v => obtain ⟨x7, σ7, H7, I7, r7, q7⟩ := q7; exact ⟨x7, σ7, H7, I7.unpinned, r7, q7⟩
end
theorem for_list {K : PySem.W.Frag} {a : Addr} {xs : List V} {g : TG} {tb : TS} {D : Ends} {σ : St} {H : Hp} (Pv : Nat → St → Hp → Prop) (h0 : Pv 0 σ H) (hl : ∀ i σ H, i ≤ xs.length → Pv i σ H → SqL K H a xs)
    (hs : ∀ i x σ H, xs[i]? = some x → Pv i σ H → g x σ H fun σ2 H2 => tb { D with nx := Pv (i + 1), ct := Pv (i + 1), bk := D.nx } σ2 H2) (hd : ∀ σ H, Pv xs.length σ H → D.nx σ H) :
    ∃ W : Nat → Nat → St → Hp → Prop, (∃ m, W 0 m σ H) ∧ ∀ i m σ H, W i m σ H →
      ((Itl K a).stop i H ∧ D.nx σ H) ∨ ((Itl K a).go i H ∧ ∃ N : St → Hp → Prop, (∀ σ' H', N σ' H' → ∃ m', m' < m ∧ W (i + 1) m' σ' H') ∧ ∀ x H', (Itl K a).yld i H x H' → g x σ H' fun σ2 H2 => tb { D with nx := N, ct := N, bk := D.nx } σ2 H2) := by
  refine ⟨fun i m σ H => m = xs.length - i ∧ i ≤ xs.length ∧ Pv i σ H, ⟨xs.length, by simp, Nat.zero_le _, h0⟩, ?_⟩
  rintro i m σ H ⟨rfl, hi, p⟩
  have q := hl i σ H hi p
  by_cases hlt : i < xs.length
  · refine .inr ⟨⟨xs, xs[i], q, by simp [hlt]⟩, Pv (i + 1), fun σ' H' p' => ⟨xs.length - (i + 1), by omega, rfl, hlt, p'⟩, fun x H' y => ?_⟩
    obtain ⟨e, y⟩ := y
    subst e
    exact hs i x σ _ (y xs q) p
  · have e : i = xs.length := by omega
    subst e
    exact .inl ⟨⟨xs, q, Nat.le_refl _⟩, hd σ H p⟩
theorem for_tup {K : PySem.W.Frag} {a : Addr} {xs : List V} {g : TG} {tb : TS} {D : Ends} {σ : St} {H : Hp} (Pv : Nat → St → Hp → Prop) (h0 : Pv 0 σ H) (hl : ∀ i σ H, i ≤ xs.length → Pv i σ H → SqT K H a xs)
    (hs : ∀ i x σ H, xs[i]? = some x → Pv i σ H → g x σ H fun σ2 H2 => tb { D with nx := Pv (i + 1), ct := Pv (i + 1), bk := D.nx } σ2 H2) (hd : ∀ σ H, Pv xs.length σ H → D.nx σ H) :
    ∃ W : Nat → Nat → St → Hp → Prop, (∃ m, W 0 m σ H) ∧ ∀ i m σ H, W i m σ H →
      ((Itt K a).stop i H ∧ D.nx σ H) ∨ ((Itt K a).go i H ∧ ∃ N : St → Hp → Prop, (∀ σ' H', N σ' H' → ∃ m', m' < m ∧ W (i + 1) m' σ' H') ∧ ∀ x H', (Itt K a).yld i H x H' → g x σ H' fun σ2 H2 => tb { D with nx := N, ct := N, bk := D.nx } σ2 H2) := by
  refine ⟨fun i m σ H => m = xs.length - i ∧ i ≤ xs.length ∧ Pv i σ H, ⟨xs.length, by simp, Nat.zero_le _, h0⟩, ?_⟩
  rintro i m σ H ⟨rfl, hi, p⟩
  have q := hl i σ H hi p
  by_cases hlt : i < xs.length
  · refine .inr ⟨⟨xs, xs[i], q, by simp [hlt]⟩, Pv (i + 1), fun σ' H' p' => ⟨xs.length - (i + 1), by omega, rfl, hlt, p'⟩, fun x H' y => ?_⟩
    obtain ⟨e, y⟩ := y
    subst e
    exact hs i x σ _ (y xs q) p
  · have e : i = xs.length := by omega
    subst e
    exact .inl ⟨⟨xs, q, Nat.le_refl _⟩, hd σ H p⟩
theorem for_range {lo : Int} {n : Nat} {g : TG} {tb : TS} {D : Ends} {σ : St} {H : Hp} (Pv : Nat → St → Hp → Prop) (h0 : Pv 0 σ H)
    (hs : ∀ i σ H, i < n → Pv i σ H → g (.int (lo + i)) σ H fun σ2 H2 => tb { D with nx := Pv (i + 1), ct := Pv (i + 1), bk := D.nx } σ2 H2) (hd : ∀ σ H, Pv n σ H → D.nx σ H) :
    ∃ W : Nat → Nat → St → Hp → Prop, (∃ m, W 0 m σ H) ∧ ∀ i m σ H, W i m σ H →
      ((Itr lo n).stop i H ∧ D.nx σ H) ∨ ((Itr lo n).go i H ∧ ∃ N : St → Hp → Prop, (∀ σ' H', N σ' H' → ∃ m', m' < m ∧ W (i + 1) m' σ' H') ∧ ∀ x H', (Itr lo n).yld i H x H' → g x σ H' fun σ2 H2 => tb { D with nx := N, ct := N, bk := D.nx } σ2 H2) := by
  refine ⟨fun i m σ H => m = n - i ∧ i ≤ n ∧ Pv i σ H, ⟨n, by simp, Nat.zero_le _, h0⟩, ?_⟩
  rintro i m σ H ⟨rfl, hi, p⟩
  by_cases hlt : i < n
  · refine .inr ⟨hlt, Pv (i + 1), fun σ' H' p' => ⟨n - (i + 1), by omega, rfl, hlt, p'⟩, fun x H' y => ?_⟩
    obtain ⟨e, y⟩ := y
    subst e y
    exact hs i σ _ hlt p
  · have e : i = n := by omega
    subst e
    exact .inl ⟨Nat.le_refl _, hd σ H p⟩
end L2
namespace L2
open PySem PySem.Spec PyProof.Rows
abbrev R2 := V → V → Hp → VK → Prop
def OpR (X : Cx) (f : Value → Value → Sem Value) (r : R2) : Prop :=
  ∀ (pins : List (Addr × Obj)) (s : Shared) (σ : St) (H : Hp) (x y : V) (v u : Value) (Q : VK), Inv X pins σ H s → RelV x v → RelV y u → r x y H Q →
    wpAny (model X.prog X.w) X.A (f v u) (EP X pins σ Q) X.xe s
def UnR (X : Cx) (f : Value → Sem Value) (r : V → Hp → VK → Prop) : Prop :=
  ∀ (pins : List (Addr × Obj)) (s : Shared) (σ : St) (H : Hp) (x : V) (v : Value) (Q : VK), Inv X pins σ H s → RelV x v → r x H Q →
    wpAny (model X.prog X.w) X.A (f v) (EP X pins σ Q) X.xe s
def CallR (X : Cx) (f : Value) (r : List V → Hp → VK → Prop) : Prop :=
  ∀ (pins : List (Addr × Obj)) (s : Shared) (σ : St) (H : Hp) (xs : List V) (us : List Value) (Q : VK), Inv X pins σ H s → Vals xs us → r xs H Q →
    wpAny (model X.prog X.w) X.A (call f us) (EP X pins σ Q) X.xe s
def tOp (r : R2) (ta tb : TE) : TE := fun σ H Q => ta σ H fun x H1 => tb σ H1 fun y H2 => r x y H2 Q
def tUn (r : V → Hp → VK → Prop) (ta : TE) : TE := fun σ H Q => ta σ H fun x H1 => r x H1 Q
def rI (C : Int → Int → Prop) (g : Int → Int → V) : R2 := fun x y H Q => ∃ i j, x = .int i ∧ y = .int j ∧ C i j ∧ Q (g i j) H
def rI0 (g : Int → Int → V) : R2 := fun x y H Q => ∃ i j, x = .int i ∧ y = .int j ∧ Q (g i j) H
def rU (g : Int → V) : V → Hp → VK → Prop := fun x H Q => ∃ i, x = .int i ∧ Q (g i) H
section
variable {X : Cx} {a b c : Expr} {ta tb tc : TE} {pos : Pos}
theorem binT (ha : PE X a ta) (hb : PE X b tb) {pins : List (Addr × Obj)} {s : Shared} {σ : St} {H : Hp} {R : V → V → Hp → Prop} (I : Inv X pins σ H s)
    (h : ta σ H fun x H1 => tb σ H1 fun y H2 => R x y H2) {Q : Value → Shared → Prop} {f : Value → Value → Sem Value}
    (hf : ∀ v u s2 x y H2, Inv X pins σ H2 s2 → RelV x v → RelV y u → R x y H2 → wpAny (model X.prog X.w) X.A (f v u) Q X.xe s2) :
    wpAny (model X.prog X.w) X.A (eval a X.env) (fun v s₁ => wpAny (model X.prog X.w) X.A (eval b X.env) (fun u s₂ => wpAny (model X.prog X.w) X.A (f v u) Q X.xe s₂) X.xe s₁) X.xe s := by
  refine thn (ha pins s σ H _ I h) fun v s1 ⟨x, H1, I1, r1, q1⟩ => ?_
  refine thn (hb pins s1 σ H1 _ I1 q1) fun u s2 ⟨y, H2, I2, r2, q2⟩ => ?_
  exact hf v u s2 x y H2 I2 r1 r2 q2
theorem pe_op {op : Operator} {r : R2} (ho : OpR X (binaryOp op) r) (ha : PE X a ta) (hb : PE X b tb) : PE X (.BinOp a op b pos) (tOp r ta tb) := by
  intro pins s σ H Q I h
  exact wpAny_BinOp (binT ha hb I h fun v u s2 x y H2 I2 rx ry q => ho pins s2 σ H2 x y v u Q I2 rx ry q)
theorem pe_un {op : UnaryOp} {r : V → Hp → VK → Prop} (ho : UnR X (unaryOp op) r) (ha : PE X a ta) : PE X (.UnaryOp op a pos) (tUn r ta) := by
  intro pins s σ H Q I h
  exact UnaryOp_ (thn (ha pins s σ H _ I h) fun v s1 ⟨x, H1, I1, r1, q1⟩ => ho pins s1 σ H1 x v Q I1 r1 q1)
theorem opI {f : Value → Value → Sem Value} {C : Int → Int → Prop} {g : Int → Int → Int}
    (rule : ∀ (i j : Int) (t u : Tok) (s : Shared) (Q : Value → Shared → Prop) (E : Value → Shared → Prop), C i j → Q (.int (g i j) s.toks) { s with toks := s.toks + 1 } → wpAny (model X.prog X.w) X.A (f (.int i t) (.int j u)) Q E s) :
    OpR X f (rI C fun i j => .int (g i j)) := by
  intro pins s σ H x y v u Q I rx ry h
  obtain ⟨i, j, rfl, rfl, hc, q⟩ := h
  obtain ⟨t, rfl⟩ := rx
  obtain ⟨t', rfl⟩ := ry
  exact rule i j t t' s _ _ hc ⟨.int (g i j), H, I.tok _, ⟨_, rfl⟩, q⟩
theorem opI0 {f : Value → Value → Sem Value} {g : Int → Int → Int}
    (rule : ∀ (i j : Int) (t u : Tok) (s : Shared) (Q : Value → Shared → Prop) (E : Value → Shared → Prop), Q (.int (g i j) s.toks) { s with toks := s.toks + 1 } → wpAny (model X.prog X.w) X.A (f (.int i t) (.int j u)) Q E s) :
    OpR X f (rI0 fun i j => .int (g i j)) := by
  intro pins s σ H x y v u Q I rx ry h
  obtain ⟨i, j, rfl, rfl, q⟩ := h
  obtain ⟨t, rfl⟩ := rx
  obtain ⟨t', rfl⟩ := ry
  exact rule i j t t' s _ _ ⟨.int (g i j), H, I.tok _, ⟨_, rfl⟩, q⟩
theorem opB0 {f : Value → Value → Sem Value} {g : Int → Int → Bool}
    (rule : ∀ (i j : Int) (t u : Tok) (s : Shared) (Q : Value → Shared → Prop) (E : Value → Shared → Prop), Q (.bool (g i j)) s → wpAny (model X.prog X.w) X.A (f (.int i t) (.int j u)) Q E s) :
    OpR X f (rI0 fun i j => .bl (g i j)) := by
  intro pins s σ H x y v u Q I rx ry h
  obtain ⟨i, j, rfl, rfl, q⟩ := h
  obtain ⟨t, rfl⟩ := rx
  obtain ⟨t', rfl⟩ := ry
  exact rule i j t t' s _ _ ⟨.bl (g i j), H, I, rfl, q⟩
def CDiv (i j : Int) : Prop := 0 < j ∧ j < 1073741824
def CPow (i j : Int) : Prop := 0 ≤ j ∧ j ≤ 1000000 ∧ i.natAbs < 2 ^ 64
def CMul (i j : Int) : Prop := (-(2 ^ 64) < i ∧ i < 2 ^ 64) ∨ (-(2 ^ 64) < j ∧ j < 2 ^ 64)
theorem CMul.ok {i j : Int} (h : CMul i j) : IntMulOk i j := by
  rcases h with ⟨h1, h2⟩ | ⟨h1, h2⟩
  · exact .of_left (intBits_le_64 h1 h2)
  · exact .of_right (intBits_le_64 h1 h2)
theorem op_add : OpR X (binaryOp .Add) (rI0 fun i j => .int (i + j)) := opI0 fun _ _ _ _ _ _ _ q => add_int q
theorem op_sub : OpR X (binaryOp .Sub) (rI0 fun i j => .int (i - j)) := opI0 fun _ _ _ _ _ _ _ q => sub_int q
theorem op_mul : OpR X (binaryOp .Mult) (rI CMul fun i j => .int (i * j)) := opI fun _ _ _ _ _ _ _ hc q => mul_int q hc.ok
theorem op_fdiv : OpR X (binaryOp .FloorDiv) (rI CDiv fun i j => .int (i / j)) := opI fun i j _ _ _ _ _ hc q => by
  have h1 : (0 : Int) < j := hc.1
  have h2 : j < 1073741824 := hc.2
  exact floordiv_int (by omega) (by rw [Int.fdiv_eq_ediv_of_nonneg i (by omega)]; exact q) (.inl (PyProof.noPylong_small (by omega)))
theorem op_mod : OpR X (binaryOp .Mod) (rI (fun _ j => 0 < j) fun i j => .int (i % j)) := opI fun i j _ _ _ _ _ hc q => by
  have h1 : (0 : Int) < j := hc
  exact mod_int' (by omega) (by rw [Int.fmod_eq_emod_of_nonneg i (by omega)]; exact q)
theorem op_pow : OpR X (binaryOp .Pow) (rI CPow fun i j => .int (i ^ j.toNat)) := opI fun _ _ _ _ _ _ _ hc q => pow_int_small hc.1 hc.2.1 hc.2.2 q
theorem unI {f : Value → Sem Value} {g : Int → Int}
    (rule : ∀ (i : Int) (t : Tok) (s : Shared) (Q : Value → Shared → Prop) (E : Value → Shared → Prop), Q (.int (g i) s.toks) { s with toks := s.toks + 1 } → wpAny (model X.prog X.w) X.A (f (.int i t)) Q E s) :
    UnR X f (rU fun i => .int (g i)) := by
  intro pins s σ H x v Q I rx h
  obtain ⟨i, rfl, q⟩ := h
  obtain ⟨t, rfl⟩ := rx
  exact rule i t s _ _ ⟨.int (g i), H, I.tok _, ⟨_, rfl⟩, q⟩
theorem un_neg : UnR X (unaryOp .USub) (rU fun i => .int (-i)) := unI fun _ _ _ _ _ q => neg_int q
end
def scal : V → V → Bool
  | .non, .non => true | .non, .int _ => true | .int _, .non => true | .non, .bl _ => true | .bl _, .non => true | .non, .str _ => true | .str _, .non => true
  | .int _, .int _ => true | .bl _, .bl _ => true | .str _, .str _ => true | .byt _, .byt _ => true
  | .int _, .str _ => true | .str _, .int _ => true | .bl _, .str _ => true | .str _, .bl _ => true
  | _, _ => false
def rEq : R2 := fun x y H Q => scal x y = true ∧ Q (.bl (decide (x = y))) H
def rNe : R2 := fun x y H Q => scal x y = true ∧ Q (.bl (!decide (x = y))) H
theorem dec_int {i j : Int} : decide (V.int i = V.int j) = (i == j) := by
  rw [Bool.eq_iff_iff]
  simp
theorem dec_bl {i j : Bool} : decide (V.bl i = V.bl j) = (i == j) := by
  rw [Bool.eq_iff_iff]
  simp
theorem dec_str {i j : Str} : decide (V.str i = V.str j) = (i == j) := by
  rw [Bool.eq_iff_iff]
  simp
theorem dec_byt {i j : Array UInt8} : decide (V.byt i = V.byt j) = (i.toList == j.toList) := by
  rw [Bool.eq_iff_iff]
  cases i
  cases j
  simp
section
variable {X : Cx} {a b c : Expr} {ta tb tc : TE} {pos : Pos}
theorem fin_bl {pins : List (Addr × Obj)} {σ : St} {H : Hp} {s : Shared} {Q : VK} {k k' : Bool} (I : Inv X pins σ H s) (q : Q (.bl k) H) (e : k = k') : EP X pins σ Q (.bool k') s := by
  subst e
  exact ⟨.bl k, H, I, rfl, q⟩
theorem op_eq : OpR X (compareOp .Eq) rEq := by
  intro pins s σ H x y v u Q I rx ry h
  obtain ⟨hs, q⟩ := h
  cases x with
  | non =>
    cases rx
    cases y with
    | non => cases ry; exact PySem.EqNone.eq_none_none (fin_bl I q (by simp))
    | bl j => cases ry; exact PySem.EqNone.eq_none_bool (fin_bl I q (by simp))
    | int j => obtain ⟨t', rfl⟩ := ry; exact PySem.EqNone.eq_none_int (fin_bl I q (by simp))
    | str j => obtain ⟨t', rfl⟩ := ry; exact PySem.EqNone.eq_none_str (fin_bl I q (by simp))
    | _ => exact absurd (show false = true from hs) Bool.false_ne_true
  | bl i =>
    cases rx
    cases y with
    | non => cases ry; exact PySem.EqNone.eq_bool_none (fin_bl I q (by simp))
    | bl j => cases ry; exact eq_bool (fin_bl I q dec_bl)
    | str j => obtain ⟨t', rfl⟩ := ry; exact PySem.EqMixed.eq_bool_str (fin_bl I q (by simp))
    | _ => exact absurd (show false = true from hs) Bool.false_ne_true
  | int i =>
    obtain ⟨t, rfl⟩ := rx
    cases y with
    | non => cases ry; exact PySem.EqNone.eq_int_none (fin_bl I q (by simp))
    | int j => obtain ⟨t', rfl⟩ := ry; exact eq_int (fin_bl I q dec_int)
    | str j => obtain ⟨t', rfl⟩ := ry; exact PySem.EqMixed.eq_int_str (fin_bl I q (by simp))
    | _ => exact absurd (show false = true from hs) Bool.false_ne_true
  | str i =>
    obtain ⟨t, rfl⟩ := rx
    cases y with
    | non => cases ry; exact PySem.EqNone.eq_str_none (fin_bl I q (by simp))
    | bl j => cases ry; exact PySem.EqMixed.eq_str_bool (fin_bl I q (by simp))
    | int j => obtain ⟨t', rfl⟩ := ry; exact PySem.EqMixed.eq_str_int (fin_bl I q (by simp))
    | str j => obtain ⟨t', rfl⟩ := ry; exact eq_str (fin_bl I q dec_str)
    | _ => exact absurd (show false = true from hs) Bool.false_ne_true
  | byt i =>
    obtain ⟨t, rfl⟩ := rx
    cases y with
    | byt j => obtain ⟨t', rfl⟩ := ry; exact PySem.W.eq_bytes (fin_bl I q dec_byt)
    | _ => exact absurd (show false = true from hs) Bool.false_ne_true
  | _ => cases y <;> exact absurd (show false = true from hs) Bool.false_ne_true
theorem op_ne : OpR X (compareOp .NotEq) rNe := by
  intro pins s σ H x y v u Q I rx ry h
  obtain ⟨hs, q⟩ := h
  cases x with
  | non =>
    cases rx
    cases y with
    | non => cases ry; exact PySem.EqNone.ne_none_none (fin_bl I q (by simp))
    | bl j => cases ry; exact PySem.EqNone.ne_none_bool (fin_bl I q (by simp))
    | int j => obtain ⟨t', rfl⟩ := ry; exact PySem.EqNone.ne_none_int (fin_bl I q (by simp))
    | str j => obtain ⟨t', rfl⟩ := ry; exact PySem.EqNone.ne_none_str (fin_bl I q (by simp))
    | _ => exact absurd (show false = true from hs) Bool.false_ne_true
  | bl i =>
    cases rx
    cases y with
    | non => cases ry; exact PySem.EqNone.ne_bool_none (fin_bl I q (by simp))
    | bl j => cases ry; exact ne_bool (fin_bl I q (congrArg not dec_bl))
    | str j => obtain ⟨t', rfl⟩ := ry; exact PySem.EqMixed.ne_bool_str (fin_bl I q (by simp))
    | _ => exact absurd (show false = true from hs) Bool.false_ne_true
  | int i =>
    obtain ⟨t, rfl⟩ := rx
    cases y with
    | non => cases ry; exact PySem.EqNone.ne_int_none (fin_bl I q (by simp))
    | int j => obtain ⟨t', rfl⟩ := ry; exact ne_int (fin_bl I q (congrArg not dec_int))
    | str j => obtain ⟨t', rfl⟩ := ry; exact PySem.EqMixed.ne_int_str (fin_bl I q (by simp))
    | _ => exact absurd (show false = true from hs) Bool.false_ne_true
  | str i =>
    obtain ⟨t, rfl⟩ := rx
    cases y with
    | non => cases ry; exact PySem.EqNone.ne_str_none (fin_bl I q (by simp))
    | bl j => cases ry; exact PySem.EqMixed.ne_str_bool (fin_bl I q (by simp))
    | int j => obtain ⟨t', rfl⟩ := ry; exact PySem.EqMixed.ne_str_int (fin_bl I q (by simp))
    | str j => obtain ⟨t', rfl⟩ := ry; exact ne_str (fin_bl I q (congrArg not dec_str))
    | _ => exact absurd (show false = true from hs) Bool.false_ne_true
  | byt i =>
    obtain ⟨t, rfl⟩ := rx
    cases y with
    | byt j => obtain ⟨t', rfl⟩ := ry; exact PySem.W.ne_bytes (fin_bl I q (congrArg not dec_byt))
    | _ => exact absurd (show false = true from hs) Bool.false_ne_true
  | _ => cases y <;> exact absurd (show false = true from hs) Bool.false_ne_true
theorem op_lt : OpR X (compareOp .Lt) (rI0 fun i j => .bl (decide (i < j))) := opB0 fun _ _ _ _ _ _ _ q => lt_int q
theorem op_gt : OpR X (compareOp .Gt) (rI0 fun i j => .bl (decide (j < i))) := opB0 fun _ _ _ _ _ _ _ q => gt_int q
theorem op_ge : OpR X (compareOp .GtE) (rI0 fun i j => .bl (decide (j ≤ i))) := opB0 fun _ _ _ _ _ _ _ q => ge_int q
theorem op_isN : OpR X (compareOp .Is) (fun x y H Q => y = .non ∧ Q (.bl (decide (x = .non))) H) := by
  intro pins s σ H x y v u Q I rx ry h
  obtain ⟨rfl, q⟩ := h
  cases ry
  refine is_none_gen (fin_bl I q ?_)
  cases x <;> first
    | (cases rx; rfl)
    | (obtain ⟨t, rfl⟩ := rx; rfl)
theorem op_notN : OpR X (compareOp .IsNot) (fun x y H Q => y = .non ∧ Q (.bl (!decide (x = .non))) H) := by
  intro pins s σ H x y v u Q I rx ry h
  obtain ⟨rfl, q⟩ := h
  cases ry
  refine isnot_none_gen (fin_bl I q ?_)
  cases x <;> first
    | (cases rx; rfl)
    | (obtain ⟨t, rfl⟩ := rx; rfl)
theorem nomark (b : Expr) {op : CmpOp} (h : op ≠ .In := by decide) (h2 : op ≠ .NotIn := by decide) : behindInMarks op b = false := by
  have e1 : (op == CmpOp.In) = false := by cases op <;> first | rfl | exact absurd rfl h
  have e2 : (op == CmpOp.NotIn) = false := by cases op <;> first | rfl | exact absurd rfl h2
  cases b <;> simp [behindInMarks, e1, e2]
theorem pe_cmpR {op : CmpOp} {r : R2} (ho : OpR X (compareOp op) r) (ha : PE X a ta) (hb : PE X b tb) (hm : behindInMarks op b = false) : PE X (.Compare a [op] [b] pos) (tOp r ta tb) := by
  intro pins s σ H Q I h
  exact wpAny_Compare1 (binT ha hb I h fun v u s2 x y H2 I2 rx ry q => ho pins s2 σ H2 x y v u Q I2 rx ry q) hm
def tTest (t : TE) : TT := fun σ H Q => t σ H fun x H' => ∃ k, x = .bl k ∧ Q k H'
theorem pt_cmpR {op : CmpOp} {r : R2} (ho : OpR X (compareOp op) r) (ha : PE X a ta) (hb : PE X b tb) (hm : behindInMarks op b = false) : PT X (.Compare a [op] [b] pos) (tTest (tOp r ta tb)) := by
  intro pins s σ H Q I h
  refine wpAny_isTrue_Compare1 (thn (ha pins s σ H _ I h) fun v s1 ⟨x, H1, I1, r1, q1⟩ => thn (hb pins s1 σ H1 _ I1 q1) fun u s2 ⟨y, H2, I2, r2, q2⟩ =>
    thn (ho pins s2 σ H2 x y v u _ I2 r1 r2 q2) fun c s3 ⟨z, H3, I3, r3, k, e, q3⟩ => ?_) hm
  subst e
  cases r3
  exact wpAny_truthy_bool ⟨H3, I3, q3⟩
theorem line63 : (sizeLine : Nat) < 2 ^ 63 := by rw [sizeLine_eq]; decide
theorem vals1 {x : V} {us : List Value} (r : Vals [x] us) : ∃ u, us = [u] ∧ RelV x u := by
  cases r with
  | cons r1 r2 => cases r2; exact ⟨_, rfl, r1⟩
theorem vals2 {x y : V} {us : List Value} (r : Vals [x, y] us) : ∃ u w', us = [u, w'] ∧ RelV x u ∧ RelV y w' := by
  cases r with
  | cons r1 r2 =>
    cases r2 with
    | cons r3 r4 => cases r4; exact ⟨_, _, rfl, r1, r3⟩
theorem call_abs : CallR X (.builtin "abs") (fun xs H Q => ∃ i, xs = [.int i] ∧ Q (.int (if i < 0 then -i else i)) H) := by
  intro pins s σ H xs us Q I r h
  obtain ⟨i, rfl, q⟩ := h
  obtain ⟨u, rfl, t, rfl⟩ := vals1 r
  exact call_abs_int fun u tk => ⟨.int (if i < 0 then -i else i), H, I.tok _, ⟨_, rfl⟩, q⟩
theorem call_min2 (hc : X.calm = true) : CallR X (.builtin "min") (fun xs H Q => ∃ i j, xs = [.int i, .int j] ∧ Q (.int (if j < i then j else i)) H) := by
  intro pins s σ H xs us Q I r h
  obtain ⟨i, j, rfl, q⟩ := h
  obtain ⟨u, w', rfl, ⟨t, rfl⟩, ⟨t', rfl⟩⟩ := vals2 r
  refine min_two_ints (I.ok.hd hc) fun h' tk k => ⟨_, H, I.kept k, ?_, q⟩
  by_cases hj : j < i
  · rw [if_pos hj, if_pos hj]; exact ⟨_, rfl⟩
  · rw [if_neg hj, if_neg hj]; exact ⟨_, rfl⟩
theorem call_int1 : CallR X (.type "int") (fun xs H Q => (∃ i, xs = [.int i] ∧ Q (.int i) H) ∨ ∃ k, xs = [.bl k] ∧ Q (.int (if k then 1 else 0)) H) := by
  intro pins s σ H xs us Q I r h
  rcases h with ⟨i, rfl, q⟩ | ⟨k, rfl, q⟩
  · obtain ⟨u, rfl, t, rfl⟩ := vals1 r
    exact call_int_int ⟨.int i, H, I, ⟨_, rfl⟩, q⟩
  · obtain ⟨u, rfl, r1⟩ := vals1 r
    cases r1
    exact call_int_bool ⟨.int (if k then 1 else 0), H, I.tok _, ⟨_, rfl⟩, q⟩
theorem call_ord : CallR X (.builtin "ord") (fun xs H Q => ∃ x, xs = [.str x] ∧ x.length = 1 ∧ Q (.int (x.cps.getD 0 0 : Nat)) H) := by
  intro pins s σ H xs us Q I r h
  obtain ⟨x, rfl, hz, q⟩ := h
  obtain ⟨u, rfl, t, rfl⟩ := vals1 r
  exact ord_of_one hz ⟨.int _, H, I.tok _, ⟨_, rfl⟩, q⟩
end
end L2
namespace L2
open PySem PySem.Spec PyProof.Rows
structure ObjM (h : Heap) (x dx C : Addr) (mA : Str → Option Value) : Prop where
  obj : h.get? x = some (PySem.W.instObj C dx)
  ns : h.Ns1 dx mA
  ne : dx ≠ x
theorem lookIn_ns {h : Heap} {dx : Addr} {mA : Str → Option Value} (n : h.Ns1 dx mA) : ∃ od, h.get? dx = some od ∧ ∀ name, PySem.W.lookIn name od = some (mA name) := by
  obtain ⟨o, es, ep, ho, hd, hk, _, hm⟩ := n
  refine ⟨o, ho, fun name => ?_⟩
  have e := hm name
  unfold nsFind findBy at e
  rw [← Array.find?_toList] at e
  unfold PySem.W.lookIn
  rw [hd]
  dsimp only
  split
  · rename_i y q
    rw [q] at e
    exact congrArg some e
  · rename_i q
    rw [q] at e
    have a : es.toList.any (·.refKey) = false := by
      rw [List.any_eq_false]
      intro y hy
      obtain ⟨z, t, hkey⟩ := hk y (Array.mem_toList_iff.mp hy)
      simp [DictEntry.refKey, hkey]
    have a' : ¬ es.toList.any (·.refKey) = true := by rw [a]; exact Bool.false_ne_true
    rw [if_neg a']
    exact congrArg some e
theorem ObjM.look {h : Heap} {x dx C : Addr} {mA : Str → Option Value} (I : ObjM h x dx C mA) : ∃ od, PySem.W.InstAt h x (PySem.W.instObj C dx) C (some od) ∧ ∀ name, PySem.W.lookIn name od = some (mA name) :=
  let ⟨od, ho, hl⟩ := lookIn_ns I.ns
  ⟨od, ⟨I.obj, rfl, rfl, ho⟩, hl⟩
section
variable {prog : Program} {w : World} {A : Around} {E : Value → Shared → Prop} {s : Shared} {K : PySem.W.Frag} {x dx C f : Addr} {mA : Str → Option Value} {name : Str} {v : Value}
theorem get_map {expr : Bool} {Q : Value → Shared → Prop} (X : K.In s.heap) (I : ObjM s.heap x dx C mA) (hg : PySem.W.plainGet K C name = true) (hh : PySem.W.hasDictIn K C = true)
    (ha : PySem.W.findIn K (.ref C) name = some none) (hv : mA name = some v) (hv' : PySem.W.handedIn v = true) (h : Q v { s with toks := s.toks + 1 }) :
    wpAny (model prog w) A (getAttr (.ref x) name expr) Q E s := by
  obtain ⟨od, J, hl⟩ := I.look
  exact PySem.W.get_value X J (PySem.W.plainGet_of hg).1 (PySem.W.findObj_own hh ha rfl (by rw [hl, hv])) hv' h
theorem get_meth {pl : Sem Bool} {Q : Value × List Value → Shared → Prop} (X : K.In s.heap) (I : ObjM s.heap x dx C mA) (hg : PySem.W.plainGet K C name = true)
    (hf : PySem.W.findIn K (.ref C) name = some (some (.ref f))) (ht : PySem.W.isFn K (.ref f) = true) (hv : mA name = none) (h : Q (.ref f, [.ref x]) s) :
    wpAny (model prog w) A (getMethod (.ref x) name pl) Q E s := by
  obtain ⟨od, J, hl⟩ := I.look
  exact PySem.W.method_fn X J (PySem.W.plainGet_of hg).1 (PySem.W.plainGet_of hg).2 hf (beq_iff_eq.mp ht) (by show (PySem.W.lookIn name od).map (·.isSome) = some false; rw [hl, hv]; rfl) h
theorem set_map {ns : List Str} {Q : Unit → Shared → Prop} (X : K.In s.heap) (I : ObjM s.heap x dx C mA)
    (hs : PySem.W.findIn K (.ref C) "__setattr__" = some (some (.builtin "object.__setattr__"))) (hp : PySem.W.plainOver K C = true) (ht : PySem.W.takerIn K C name = some none) (hh : PySem.W.hasDictIn K C = true)
    (hw : PySem.Within mA ns) (hsz : ns.length ≤ sizeLine)
    (h : ∀ h', ObjM h' x dx C (fun y => if y = name then some v else mA y) → Heap.SameBut dx s.heap h' → Q () { s with heap := h', toks := s.toks + 2 }) :
    wpAny (model prog w) A (setAttr (.ref x) name v) Q E s := by
  obtain ⟨od, J, hl⟩ := I.look
  refine PySem.W.set_plain X J hs (PySem.W.osa_open (s := { s with toks := s.toks + 1 }) (r := none) X J hp ht fun b => ?_)
  obtain ⟨cd, hc, hd'⟩ := PySem.W.any_some hh
  have hx : s.heap.get? x = some ⟨.ref C, some dx, .plain, #[]⟩ := I.obj
  refine wpAny_bind (wpAny_pure (wpAny_bind (wpAny_bind (wpAny_loadPart hx (wpAny_bind (PySem.W.Looks.here (s := { s with toks := s.toks + 1 }) (PySem.W.looks_clsIn X hc) ?_))))))
  rw [hd']
  refine wpAny_pure (a := some dx) (wpAny_bind (wpAny_pure (wpAny_bind ?_)))
  refine wpAny_nsSet1 (s := { s with toks := s.toks + 1 }) I.ns fun h' hn2 hs2 => ?_
  obtain ⟨oD, esD, epD, hoD, hdD, hcD⟩ := hn2.count (PySem.Within.cons name v hw)
  refine wpAny_bind (wpAny_lookBehind hoD (by rw [hdD]; exact pastItsLine_dict (Nat.le_trans hcD (by rw [List.length_cons]; omega))) ?_)
  exact wpAny_pure (h _ ⟨(hs2.2 _ (Ne.symm I.ne)).trans I.obj, hn2, I.ne⟩ hs2)
theorem make_map {R : Result → Shared → Prop} {vs : List Value} {kw : List (Str × Value)} (X : K.In s.heap) (hm : PySem.W.makesIn K C = true)
    (hi : PySem.W.findIn K (.ref C) "__init__" = some (some (.ref f))) (hf : PySem.W.typeIn K (.ref f) = some (.type "function"))
    (h : codeAny (model prog w) (A.under (.builtin "type.__call__" ⟨.ref C :: vs, kw⟩)) (.call (.ref f) ⟨.ref (s.heap.objs.size + 1) :: vs, kw⟩) (PySem.W.InitBack (s.heap.objs.size + 1) R)
      { s with heap := (s.heap.push PySem.W.emptyDict).push (PySem.W.instObj C s.heap.objs.size) }) :
    codeAny (model prog w) A (.call (.ref C) ⟨vs, kw⟩) R s := by
  obtain ⟨hh, g, d, t, os⟩ := s
  exact PySem.W.make_core (PySem.W.makes_of X hm) (PySem.W.looks_findIn X hi) (fun self => PySem.W.bind_fn X self hf) (.inl rfl) h
end
def putF (f : Str) (v : V) : List (Str × V) → List (Str × V)
  | [] => [(f, v)]
  | (g, x) :: r => if g = f then (g, v) :: r else (g, x) :: putF f v r
theorem lookup_putF (f g : Str) (v : V) : ∀ fs : List (Str × V), (putF f v fs).lookup g = if g = f then some v else fs.lookup g
  | [] => by
    show List.lookup g [(f, v)] = _
    by_cases h : g = f
    · have hb : (g == f) = true := beq_iff_eq.mpr h
      simp only [List.lookup, hb, if_pos h]
    · have hb : (g == f) = false := beq_eq_false_iff_ne.mpr h
      simp only [List.lookup, hb, if_neg h]
  | (k, x) :: r => by
    have ih := lookup_putF f g v r
    rw [show putF f v ((k, x) :: r) = (if k = f then (k, v) :: r else (k, x) :: putF f v r) from rfl]
    by_cases hk : k = f
    · rw [if_pos hk]
      by_cases h : g = k
      · have hb : (g == k) = true := beq_iff_eq.mpr h
        simp only [List.lookup, hb, if_pos (h.trans hk)]
      · have hb : (g == k) = false := beq_eq_false_iff_ne.mpr h
        simp only [List.lookup, hb, if_neg (fun e : g = f => h (e.trans hk.symm))]
    · rw [if_neg hk]
      by_cases h : g = k
      · have hb : (g == k) = true := beq_iff_eq.mpr h
        simp only [List.lookup, hb, if_neg (fun e : g = f => hk (h.symm.trans e))]
      · have hb : (g == k) = false := beq_eq_false_iff_ne.mpr h
        simp only [List.lookup, hb]
        exact ih
theorem keys_putF (f : Str) (v : V) : ∀ fs : List (Str × V), f ∈ (putF f v fs).map (·.1) ∧ ∀ g, g ∈ fs.map (·.1) → g ∈ (putF f v fs).map (·.1)
  | [] => ⟨by simp [putF], fun g h => by simp at h⟩
  | (k, x) :: r => by
    obtain ⟨i1, i2⟩ := keys_putF f v r
    rw [show putF f v ((k, x) :: r) = (if k = f then (k, v) :: r else (k, x) :: putF f v r) from rfl]
    by_cases hk : k = f
    · rw [if_pos hk]
      subst hk
      exact ⟨by simp, fun g h => by simpa using h⟩
    · rw [if_neg hk]
      refine ⟨?_, fun g h => ?_⟩
      · rw [List.map_cons]
        exact List.mem_cons_of_mem _ i1
      · rw [List.map_cons] at h ⊢
        rcases List.mem_cons.mp h with e | e
        · exact List.mem_cons.mpr (.inl e)
        · exact List.mem_cons_of_mem _ (i2 g e)
theorem length_putF (f : Str) (v : V) : ∀ fs : List (Str × V), (putF f v fs).length ≤ fs.length + 1
  | [] => by simp [putF]
  | (k, x) :: r => by
    have ih := length_putF f v r
    rw [show putF f v ((k, x) :: r) = (if k = f then (k, v) :: r else (k, x) :: putF f v r) from rfl]
    by_cases hk : k = f
    · rw [if_pos hk, List.length_cons, List.length_cons]; omega
    · rw [if_neg hk, List.length_cons, List.length_cons]; omega
theorem RelO.some_of {v : V} {o : Option Value} (r : RelO (some v) o) : ∃ u, o = some u ∧ RelV v u := by
  cases o with
  | none => exact (show False from r).elim
  | some u => exact ⟨u, rfl, r⟩
theorem RelO.none_of {o : Option Value} (r : RelO none o) : o = none := by
  cases o with
  | none => rfl
  | some u => exact (show False from r).elim
theorem handed_of {v : V} {u : Value} (r : RelV v u) : PySem.W.handedIn u = true := by
  cases v with
  | non => cases (show u = Value.none from r); rfl
  | bl b => cases (show u = Value.bool b from r); rfl
  | int i => obtain ⟨t, e⟩ := (show ∃ t, u = Value.int i t from r); cases e; rfl
  | str x => obtain ⟨t, e⟩ := (show ∃ t, u = Value.str x t from r); cases e; rfl
  | byt b => obtain ⟨t, e⟩ := (show ∃ t, u = Value.bytes b t from r); cases e; rfl
  | flt b => obtain ⟨t, e⟩ := (show ∃ t, u = Value.float b t from r); cases e; rfl
  | ref a => cases (show u = Value.ref a from r); rfl
  | ty n => cases (show u = Value.type n from r); rfl
section
variable {P : Program} {w : World} {H H' : Hp} {h h' : Heap} {a C dx : Addr} {fs fs' : List (Str × V)}
theorem ins_get (hok : HOk P w H h) (e : H a = some (.ins C dx fs)) : ∃ mA, ObjM h a dx C mA ∧ (∀ f, RelO (fs.lookup f) (mA f)) ∧ PySem.Within mA (fs.map (·.1)) ∧ fs.length ≤ 1000 ∧ H dx = some (.own a) := by
  obtain ⟨d, z, ne, ob, mA, n, r, q⟩ := (show ObjOk P w H h a (.ins C dx fs) from hok a _ e)
  exact ⟨mA, ⟨ob, n, ne⟩, r, q, z, d⟩
end
structure Cls (K : PySem.W.Frag) (C : Addr) : Prop where
  pg : PySem.W.plainGet K C Str.empty = true
  hd : PySem.W.hasDictIn K C = true
  po : PySem.W.plainOver K C = true
  sa : PySem.W.findIn K (.ref C) "__setattr__" = some (some (.builtin "object.__setattr__"))
theorem Cls.get {K : PySem.W.Frag} {C : Addr} (c : Cls K C) (f : Str) : PySem.W.plainGet K C f = true := c.pg
def NoAttr (K : PySem.W.Frag) (C : Addr) (f : Str) : Prop := PySem.W.findIn K (.ref C) f = some none
theorem NoAttr.taker {K : PySem.W.Frag} {C : Addr} {f : Str} (n : NoAttr K C f) : PySem.W.takerIn K C f = some none := by
  unfold PySem.W.takerIn
  rw [show PySem.W.findIn K (.ref C) f = some none from n]
  rfl
structure Meth (K : PySem.W.Frag) (C : Addr) (m : Str) (f : Addr) : Prop where
  at_ : PySem.W.findIn K (.ref C) m = some (some (.ref f))
  fn : PySem.W.isFn K (.ref f) = true
  kp : PySem.W.keepIn K (.ref f) = true
section
variable {X : Cx} {pins : List (Addr × Obj)} {σ : St} {H : Hp} {s : Shared} {a C dx : Addr} {fs : List (Str × V)} {f : Str} {v : V} {A : Around} {E : Value → Shared → Prop}
theorem getattr_ok {b : Bool} {Q : Value → Shared → Prop} (I : Inv X pins σ H s) (e : H a = some (.ins C dx fs)) (c : Cls X.K C) (n : NoAttr X.K C f) (l : fs.lookup f = some v)
    (h : ∀ u s', Inv X pins σ H s' → RelV v u → Q u s') : wpAny (model X.prog X.w) A (getAttr (.ref a) f b) Q E s := by
  obtain ⟨mA, O, r, _, _, _⟩ := ins_get I.hok e
  obtain ⟨u, hu, ru⟩ := RelO.some_of (v := v) (o := mA f) (by rw [← l]; exact r f)
  exact get_map I.kIn O (c.get f) c.hd n hu (handed_of ru) (h u _ (I.tok _) ru)
theorem getmeth_ok {m : Str} {g : Addr} {pl : Sem Bool} {Q : Value × List Value → Shared → Prop} (I : Inv X pins σ H s) (e : H a = some (.ins C dx fs)) (c : Cls X.K C) (k : Meth X.K C m g) (l : fs.lookup m = none)
    (h : Q (.ref g, [.ref a]) s) : wpAny (model X.prog X.w) A (getMethod (.ref a) m pl) Q E s := by
  obtain ⟨mA, O, r, _, _, _⟩ := ins_get I.hok e
  have hn : mA m = none := RelO.none_of (by rw [← l]; exact r m)
  exact get_meth I.kIn O (c.get m) k.at_ k.fn hn h
theorem setattr_ok {y : V} {u : Value} {Q : Unit → Shared → Prop} (I : Inv X pins σ H s) (e : H a = some (.ins C dx fs)) (c : Cls X.K C) (n : NoAttr X.K C f) (hl : fs.length < 1000) (ry : RelV y u)
    (h : ∀ s', Inv X pins σ (upd H a (.ins C dx (putF f y fs))) s' → Q () s') : wpAny (model X.prog X.w) A (setAttr (.ref a) f u) Q E s := by
  obtain ⟨mA, O, r, wi, _, ho⟩ := ins_get I.hok e
  have hz : (fs.map (·.1)).length ≤ sizeLine := by rw [List.length_map, sizeLine_eq]; omega
  refine set_map I.kIn O c.sa c.po n.taker c.hd wi hz fun h' O' sb => h _ ?_
  have hd : ∃ o, h'.get? dx = some o := let ⟨o, _, _, e', _⟩ := O'.ns; ⟨o, e'⟩
  refine I.write (x := a) (e := dx) (by rw [e]; exact True.intro) (.inr ho) (fun b q hb z => (sb.2 b hb).trans z) hd ?_
  refine ⟨by rw [upd_ne O.ne]; exact ho, ?_, O.ne, O'.obj, _, O'.ns, fun g => ?_, fun g hg => ?_⟩
  · have := length_putF f y fs; omega
  · show RelO ((putF f y fs).lookup g) (if g = f then some u else mA g)
    rw [lookup_putF]
    by_cases q : g = f
    · rw [if_pos q, if_pos q]; exact ry
    · rw [if_neg q, if_neg q]; exact r g
  · by_cases q : g = f
    · rw [q]; exact (keys_putF f y fs).1
    · refine (keys_putF f y fs).2 g (wi g fun z => hg ?_)
      show (if g = f then some u else mA g) = none
      rw [if_neg q]; exact z
theorem Inv.made (I : Inv X pins σ H s) : Inv X pins σ (upd (upd H s.heap.objs.size (.own (s.heap.objs.size + 1))) (s.heap.objs.size + 1) (.ins C s.heap.objs.size []))
    { s with heap := (s.heap.push PySem.W.emptyDict).push (PySem.W.instObj C s.heap.objs.size) } := by
  have e1 : (s.heap.push PySem.W.emptyDict).get? s.heap.objs.size = some PySem.W.emptyDict := Heap.get?_push_size s.heap rfl
  have e2 : ((s.heap.push PySem.W.emptyDict).push (PySem.W.instObj C s.heap.objs.size)).get? (s.heap.objs.size + 1) = some (PySem.W.instObj C s.heap.objs.size) := by
    have := Heap.get?_push_size (s.heap.push PySem.W.emptyDict) (o := PySem.W.instObj C s.heap.objs.size) rfl
    rwa [Heap.size_push] at this
  have e3 : (s.heap.push PySem.W.emptyDict).Ns s.heap.objs.size (fun _ => none) := ⟨PySem.W.emptyDict, #[], _, e1, rfl, (fun e he => absurd he (by simp)), fun _ => rfl⟩
  have I1 := I.laid (a := s.heap.objs.size) (o := .own (s.heap.objs.size + 1)) (h' := s.heap.push PySem.W.emptyDict) (t' := s.toks) (fun b u q => Heap.get?_push_of_some _ q) (Nat.le_refl _) ⟨_, e1⟩
  refine I1.laid (a := s.heap.objs.size + 1) (o := .ins C s.heap.objs.size []) (t' := s.toks) (fun b u q => Heap.get?_push_of_some _ q) (Nat.le_of_eq (Heap.size_push _ _)) ?_
  have ne : s.heap.objs.size ≠ s.heap.objs.size + 1 := Nat.ne_of_lt (Nat.lt_succ_self _)
  refine ⟨by rw [upd_ne ne, upd_same], Nat.zero_le _, ne, e2, fun _ => none, (Heap.Ns1.of_empty e3).at fun o q => Heap.get?_push_of_some _ q, fun _ => True.intro, fun y hy => absurd rfl hy⟩
theorem attr_of {prog : Program} {w : World} {env : Env} {e : Expr} {f : Str} {pos : Pos} {s : Shared} {Q : Value → Shared → Prop} (hb : attributeBase e f env (eval e env) = eval e env)
    (h : wpAny (model prog w) A (eval e env) (fun o s₁ => wpAny (model prog w) A (getAttr o f true) Q E s₁) E s) : wpAny (model prog w) A (eval (.Attribute e f pos) env) Q E s :=
  Attribute_any_ h (by rw [arm_eval_Attribute, hb])
end
def InOp (X : Cx) (op : Operator) (rd : V → V → Hp → VK → Prop) : Prop :=
  ∀ (pins : List (Addr × Obj)) (s : Shared) (σ : St) (H : Hp) (x y : V) (u v : Value) (Q : VK), Inv X pins σ H s → RelV x u → RelV y v → rd x y H Q → wpAny (model X.prog X.w) X.A (inplaceOp op u v) (EP X pins σ Q) X.xe s
section
variable {X : Cx} {o e value : Expr} {f : Str} {pos pos' tpos : Pos} {ta tv : TE}
def rAdd : V → V → Hp → VK → Prop := fun x y H Q => ∃ i j, x = .int i ∧ y = .int j ∧ Q (.int (i + j)) H
theorem in_add : InOp X .Add rAdd := by
  rintro pins s σ H x y u v Q I rx ry ⟨i, j, rfl, rfl, q⟩
  obtain ⟨t, rfl⟩ := (show ∃ t, u = Value.int i t from rx)
  obtain ⟨t', rfl⟩ := (show ∃ t', v = Value.int j t' from ry)
  exact PyProof.Rows.iadd_int ⟨.int (i + j), H, I.tok _, ⟨_, rfl⟩, q⟩
end
end L2
namespace L2
open PySem PySem.Spec PyProof.Rows
structure Room (k : Nat) (A : Around) : Prop where
  hd : A.handled = none
  dp : A.depth + 3 * k + 5 < recursionLimit
  un : A.units + 16 * k + 200 < cLine
theorem Room.mono {j k : Nat} {A : Around} (r : Room k A) (h : j ≤ k) : Room j A := ⟨r.hd, by have := r.dp; omega, by have := r.un; omega⟩
theorem Room.deeper {k : Nat} {A : Around} (r : Room (k + 1) A) (env : Env) : Room k (A.deeper env) :=
  ⟨r.hd, by have := r.dp; show A.depth + 1 + 3 * k + 5 < _; omega, by have := r.un; show A.units + 3 + 16 * k + 200 < _; omega⟩
theorem make_depth {A : Around} {C : Addr} {us : List Value} {kw : List (Str × Value)} : (A.under (.builtin "type.__call__" ⟨.ref C :: us, kw⟩)).depth = A.depth + 1 := by
  first | rfl | simp [Around.under, Code.weight, Code.isCreation, Code.isGuard, Code.isCaller, Code.frames, Code.isFrame, guardIds]
theorem make_units {A : Around} {C : Addr} {us : List Value} {kw : List (Str × Value)} : (A.under (.builtin "type.__call__" ⟨.ref C :: us, kw⟩)).units = A.units + 1 := by
  first | rfl | simp [Around.under, Code.cUnits, Code.frames, Code.isFrame]
theorem Room.make {k : Nat} {A : Around} (r : Room (k + 1) A) (C : Addr) (us : List Value) (kw : List (Str × Value)) : Room k (A.under (.builtin "type.__call__" ⟨.ref C :: us, kw⟩)) :=
  ⟨r.hd, by have := r.dp; rw [make_depth]; omega, by have := r.un; rw [make_units]; omega⟩
theorem Room.depth {k : Nat} {A : Around} (r : Room k A) : A.depth < recursionLimit := by have := r.dp; omega
theorem Room.units {k : Nat} {A : Around} (r : Room k A) : A.units + 64 < cLine := by have := r.un; omega
def tNil : TA := fun _ H Q => Q [] H
def tCons (ta : TE) (tr : TA) : TA := fun σ H Q => ta σ H fun x H1 => tr σ H1 fun xs H2 => Q (x :: xs) H2
section
variable {X : Cx} {e : Expr} {es : List Expr} {te : TE} {t : TA} {pos : Pos}
theorem pa_nil : PA X [] tNil := fun _ _ _ _ H Q I h => Calls.spliced_nil ⟨[], H, I, .nil, h⟩
theorem pa_cons (ha : PE X e te) (hr : PA X es t) (hs : starEach (e :: es) X.env = (false, eval e X.env) :: starEach es X.env := by rfl) : PA X (e :: es) (tCons te t) := by
  intro pos pins s σ H Q I h
  rw [hs]
  show wpAny _ _ (spliced ((false, eval e X.env) :: backTo pos (starEach es X.env))) _ _ s
  refine Calls.spliced_cons (thn (ha pins s σ H _ I h) fun u s1 ⟨x, H1, I1, r1, q1⟩ => ?_)
  exact thn (hr pos pins s1 σ H1 _ I1 q1) fun us s2 ⟨xs, H2, I2, r2, q2⟩ => ⟨x :: xs, H2, I2, .cons r1 r2, q2⟩
def tTup (t : TA) : TE := fun σ H Q => t σ H fun xs H1 => xs.length ≤ sizeLine ∧ ∀ p, H1 p = none → Q (.ref p) (upd H1 p (.tup xs))
def tLst (t : TA) : TE := fun σ H Q => t σ H fun xs H1 => xs.length ≤ sizeLine ∧ ∀ p, H1 p = none → Q (.ref p) (upd H1 p (.lst xs))
theorem pe_tup {x1} (h : PA X es t) : PE X (.Tuple es x1 pos) (tTup t) := by
  intro pins s σ H Q I hq
  refine wpAny_Tuple_spliced (thn (h pos pins s σ H _ I hq) fun us s1 ⟨xs, H1, I1, r, z, q⟩ => ⟨by rw [← r.length]; exact z, ?_⟩)
  have hf : H1 s1.heap.objs.size = none := I1.hok.fresh (Nat.le_refl _)
  refine ⟨.ref s1.heap.objs.size, upd H1 s1.heap.objs.size (.tup xs), I1.laid (t' := s1.toks) (fun b u e => Heap.get?_push_of_some _ e) (Nat.le_refl _) ?_, rfl, q _ hf⟩
  exact ⟨z, us, r, ⟨_, Heap.get?_push_size _ rfl, rfl, _, rfl⟩⟩
theorem pe_lst (h : PA X es t) : PE X (.List es pos) (tLst t) := by
  intro pins s σ H Q I hq
  refine wpAny_List_spliced (thn (h pos pins s σ H _ I hq) fun us s1 ⟨xs, H1, I1, r, z, q⟩ => ⟨by rw [← r.length]; exact z, ?_⟩)
  have hf : H1 s1.heap.objs.size = none := I1.hok.fresh (Nat.le_refl _)
  refine ⟨.ref s1.heap.objs.size, upd H1 s1.heap.objs.size (.lst xs), I1.laid (t' := s1.toks) (fun b u e => Heap.get?_push_of_some _ e) (Nat.le_refl _) ?_, rfl, q _ hf⟩
  exact ⟨z, us, 0, r, Heap.get?_push_size _ rfl⟩
end
abbrev Sp := List V → Hp → VK → XK → Prop
abbrev CXT := List Env → Hp → Shared → XK → Value → Shared → Prop
structure Env0 (P : Program) (w : World) (K : PySem.W.Frag) (mg : Str → Option Value) (base : Heap) (A : Around) (outer : List Env) (s : Shared) (H : Hp) : Prop where
  frames : A.frames = some outer
  mod : Mod K mg base
  bs : ∀ b o, base.get? b = some o → s.heap.get? b = some o ∧ H b = none
  bsz : base.objs.size ≤ s.heap.objs.size
  funs : s.heap.FunFrames base outer
  frf : ∀ b ∈ frs outer, H b = none
  hok : HOk P w H s.heap
  bare : AllBare s.gens
def CE (outer : List Env) (P : Program) (w : World) (H : Hp) (s : Shared) (Q : VK) (u : Value) (s' : Shared) : Prop :=
  ∃ v H', s'.os = s.os ∧ AllBare s'.gens ∧ Un (frs outer) [] H H' s.heap s'.heap ∧ HOk P w H' s'.heap ∧ RelV v u ∧ Q v H'
def CR (CX : CXT) (outer : List Env) (P : Program) (w : World) (H : Hp) (s : Shared) (Q : VK) (E : XK) (r : Result) (s' : Shared) : Prop :=
  match r with
  | .ok (.ret u) => CE outer P w H s Q u s'
  | .ok _ => False
  | .error e => CX outer H s E e s'
structure FnOk (P : Program) (w : World) (K : PySem.W.Frag) (mg : Str → Option Value) (base : Heap) (CX : CXT) (k : Nat) (f : Addr) (fd : FuncData) (ps : List Str) (sp : Sp) : Prop where
  len : ∀ vs H Q E, sp vs H Q E → vs.length = ps.length
  run : ∀ (A : Around) (outer : List Env) (s : Shared) (H : Hp) (args : Args) (us : List Value) (vs : List V) (Q : VK) (E : XK), Room k A → Env0 P w K mg base A outer s H → BindsTo s fd args (ps.zip us) → Vals vs us → sp vs H Q E →
    codeAny (model P w) A (.call (.ref f) args) (CR CX outer P w H s Q E) s
theorem Env0.make {P : Program} {w : World} {K : PySem.W.Frag} {mg : Str → Option Value} {base : Heap} {A : Around} {outer : List Env} {s : Shared} {H : Hp} (e : Env0 P w K mg base A outer s H) (C : Addr) (us : List Value) (kw : List (Str × Value)) :
    Env0 P w K mg base (A.under (.builtin "type.__call__" ⟨.ref C :: us, kw⟩)) outer s H := ⟨by first | exact e.frames | (simpa [Around.under, Code.envs, Code.isFrame, pushEnvs] using e.frames), e.mod, e.bs, e.bsz, e.funs, e.frf, e.hok, e.bare⟩
section
variable {X : Cx} {pins : List (Addr × Obj)} {σ : St} {H : Hp} {s s' : Shared}
theorem Inv.env0 (I : Inv X pins σ H s) : Env0 X.prog X.w X.K X.mg X.base X.A X.stack s H :=
  ⟨I.ok.frames, I.ok.mod, I.bs, Nat.le_trans I.ok.bsz I.sz, I.stack, I.stkFree, I.hok, I.bare⟩
theorem Inv.after {Q : VK} {u : Value} (I : Inv X pins σ H s) (h : CE X.stack X.prog X.w H s Q u s') : EP X pins σ Q u s' := by
  obtain ⟨v, H', os, bare, un, hok, r, q⟩ := h
  obtain ⟨hh, g, d, t, os'⟩ := s'
  obtain rfl : os' = s.os := os
  exact ⟨v, H', I.call (h' := hh) (g' := g) (d' := d) (t' := t) (ch := []) un hok bare (fun b z => absurd z (by simp)), r, q⟩
end
def tCall (sp : Sp) (dvs : List V) (E : XK) (t : TA) : TE := fun σ H Q => t σ H fun vs H1 => sp (vs ++ dvs) H1 Q E
def tMake (C : Addr) (sp : Sp) (dvs : List V) (E : XK) (t : TA) : TE := fun σ H Q => t σ H fun vs H1 => ∀ x dx, H1 x = none → H1 dx = none → dx ≠ x →
  sp (.ref x :: (vs ++ dvs)) (upd (upd H1 dx (.own x)) x (.ins C dx [])) (fun v H2 => v = .non ∧ Q (.ref x) H2) E
def Binds (K : PySem.W.Frag) (fd : FuncData) (ps : List Str) (ds : List Value) : Prop :=
  ∀ (s : Shared) (us : List Value), K.In s.heap → (us ++ ds).length = ps.length → BindsTo s fd ⟨us, []⟩ (ps.zip (us ++ ds))
theorem Binds.all {K : PySem.W.Frag} {fd : FuncData} {ps : List Str} (h : ∀ us : List Value, us.length = ps.length → bindArgs fd ⟨us, []⟩ = pure (ps.zip us)) : Binds K fd ps [] := fun s us _ hl => by
  rw [List.append_nil] at hl ⊢
  exact .of_eq (h us hl)
def Passes (CX : CXT) (X : Cx) (E : XK) : Prop := ∀ (pins : List (Addr × Obj)) (σ : St) (H : Hp) (s : Shared) (e : Value) (s' : Shared), Inv X pins σ H s → CX X.stack H s E e s' → X.xe e s'
section
variable {X : Cx} {CX : CXT} {k : Nat} {f C : Addr} {fd : FuncData} {ps : List Str} {sp : Sp} {dvs : List V} {ds : List Value} {E : XK} {x m : Str} {p pos apos : Pos} {e o : Expr} {es : List Expr} {ta : TE} {t : TA}
theorem run_fn {pins : List (Addr × Obj)} {σ : St} {H : Hp} {s : Shared} {Q : VK} {us : List Value} {vs : List V} (F : FnOk X.prog X.w X.K X.mg X.base CX k f fd ps sp) (hr : Room k X.A) (hb : Binds X.K fd ps ds) (hd : Vals dvs ds) (hx : Passes CX X E)
    (I : Inv X pins σ H s) (r : Vals vs us) (h : sp (vs ++ dvs) H Q E) : wpAny (model X.prog X.w) X.A (call (.ref f) us) (EP X pins σ Q) X.xe s := by
  have r2 : Vals (vs ++ dvs) (us ++ ds) := r.append hd
  have hl : (us ++ ds).length = ps.length := by rw [← r2.length]; exact F.len _ _ _ _ h
  refine wpAny_call (codeAny_mono (F.run X.A X.stack s H ⟨us, []⟩ (us ++ ds) (vs ++ dvs) Q E hr I.env0 (hb s us I.kIn hl) r2 h) fun r s' hq => ?_)
  cases r with
  | error e => exact hx pins σ H s e s' I hq
  | ok fl =>
    cases fl with
    | ret u => exact I.after hq
    | next => exact False.elim hq
    | brk => exact False.elim hq
    | cont => exact False.elim hq
theorem pe_call (F : FnOk X.prog X.w X.K X.mg X.base CX k f fd ps sp) (hr : Room k X.A) (hg : Gl X x) (hm : X.mg x = some (.ref f)) (hk : PySem.W.keepIn X.K (.ref f) = true) (hb : Binds X.K fd ps ds) (hd : Vals dvs ds) (hx : Passes CX X E)
    (ha : PA X (e :: es) t) (hdb : (x == ("__debug__" : Str)) = false := by decide) (he : starEach (e :: es) X.env = (false, eval e X.env) :: starEach es X.env := by rfl) (hpl : (backTo pos (starEach es X.env)).any (·.1) = false := by rfl) :
    PE X (.Call (.Name x p) (e :: es) [] pos) (tCall sp dvs E t) := by
  intro pins s σ H Q I h
  refine wpAny_Call_Name_kw (ld_glob I hg hm ?_ hdb)
  refine PySem.W.callWith_K (h₀ := X.base) I.ok.mod.kin hk (thn (ha pos pins s σ H _ I h) fun us s1 ⟨vs, H1, I1, r, q⟩ => ⟨I1.kIn, ?_⟩) he hpl
  exact run_fn F hr hb hd hx I1 r q
structure Mk (K : PySem.W.Frag) (C f : Addr) : Prop where
  makes : PySem.W.makesIn K C = true
  init : PySem.W.findIn K (.ref C) "__init__" = some (some (.ref f))
  fn : PySem.W.isFn K (.ref f) = true
  kp : PySem.W.keepIn K (.ref C) = true
theorem run_make {pins : List (Addr × Obj)} {σ : St} {H : Hp} {s : Shared} {Q : VK} {us : List Value} {vs : List V} (M : Mk X.K C f) (F : FnOk X.prog X.w X.K X.mg X.base CX k f fd ps sp) (hr : Room (k + 1) X.A) (hb : Binds X.K fd ps ds) (hd : Vals dvs ds)
    (hx : Passes CX X E) (I : Inv X pins σ H s) (r : Vals vs us)
    (h : ∀ x dx, H x = none → H dx = none → dx ≠ x → sp (.ref x :: (vs ++ dvs)) (upd (upd H dx (.own x)) x (.ins C dx [])) (fun v H2 => v = .non ∧ Q (.ref x) H2) E) :
    wpAny (model X.prog X.w) X.A (call (.ref C) us) (EP X pins σ Q) X.xe s := by
  have hq := h (s.heap.objs.size + 1) s.heap.objs.size (I.hok.fresh (Nat.le_succ _)) (I.hok.fresh (Nat.le_refl _)) (Nat.ne_of_lt (Nat.lt_succ_self _))
  have I2 := Inv.made (C := C) I
  have r2 : Vals (V.ref (s.heap.objs.size + 1) :: (vs ++ dvs)) (Value.ref (s.heap.objs.size + 1) :: (us ++ ds)) := .cons rfl (r.append hd)
  have hl : (Value.ref (s.heap.objs.size + 1) :: us ++ ds).length = ps.length := by
    have e := r2.length
    rw [F.len _ _ _ _ hq] at e
    exact e.symm
  refine wpAny_call (make_map (f := f) I.kIn M.makes M.init (beq_iff_eq.mp M.fn) (codeAny_mono (F.run _ X.stack _ _ ⟨Value.ref (s.heap.objs.size + 1) :: us, []⟩ (Value.ref (s.heap.objs.size + 1) :: (us ++ ds)) _ _ E (hr.make C us [])
    (I2.env0.make C us []) (hb _ (Value.ref (s.heap.objs.size + 1) :: us) I2.kIn hl) r2 hq) fun r s' hq' => ?_))
  cases r with
  | error e => exact hx pins σ _ _ e s' I2 hq'
  | ok fl =>
    cases fl with
    | ret u =>
      obtain ⟨v, H', I3, rv, ev, q3⟩ := I2.after hq'
      subst ev
      exact ⟨rv, ⟨V.ref (s.heap.objs.size + 1), H', I3, rfl, q3⟩⟩
    | next => exact False.elim hq'
    | brk => exact False.elim hq'
    | cont => exact False.elim hq'
theorem pe_make (M : Mk X.K C f) (F : FnOk X.prog X.w X.K X.mg X.base CX k f fd ps sp) (hr : Room (k + 1) X.A) (hg : Gl X x) (hm : X.mg x = some (.ref C)) (hb : Binds X.K fd ps ds) (hd : Vals dvs ds) (hx : Passes CX X E)
    (ha : PA X (e :: es) t) (hdb : (x == ("__debug__" : Str)) = false := by decide) (he : starEach (e :: es) X.env = (false, eval e X.env) :: starEach es X.env := by rfl) (hpl : (backTo pos (starEach es X.env)).any (·.1) = false := by rfl) :
    PE X (.Call (.Name x p) (e :: es) [] pos) (tMake C sp dvs E t) := by
  intro pins s σ H Q I h
  refine wpAny_Call_Name_kw (ld_glob I hg hm ?_ hdb)
  refine PySem.W.callWith_K (h₀ := X.base) I.ok.mod.kin M.kp (thn (ha pos pins s σ H _ I h) fun us s1 ⟨vs, H1, I1, r, q⟩ => ⟨I1.kIn, ?_⟩) he hpl
  exact run_make M F hr hb hd hx I1 r q
end
structure FnScope (N P : List Str) (sc : Scope) : Prop where
  kind : sc.kind = .function
  co : sc.isCoroutine = false
  gen : sc.isGenerator = false
  nd : N.Nodup
  pre : N.take P.length = P
  par : ∀ x ∈ P, sc.names.lookup x = some .local ∨ sc.names.lookup x = some .cell
  nofree : ∀ y ∈ sc.names, y.2 ≠ .free
theorem bindL_out {kindOf : Str → Option NameKind} {x : Str} : ∀ {binds : List (Str × Value)} {m : Str → Option Value}, (∀ v, (x, v) ∉ binds) → bindL kindOf binds m x = m x
  | [], _, _ => rfl
  | (n, v) :: r, m, h => by
    unfold bindL
    rw [bindL_out fun w hw => h w (List.mem_cons_of_mem _ hw)]
    split
    · have : x ≠ n := by rintro rfl; exact h v List.mem_cons_self
      simp [this]
    · rfl
theorem bindC_out {kindOf : Str → Option NameKind} {x : Str} : ∀ {binds : List (Str × Value)} {m : Str → Option Value}, (∀ v, (x, v) ∉ binds) → bindC kindOf binds m x = m x
  | [], _, _ => rfl
  | (n, v) :: r, m, h => by
    unfold bindC
    rw [bindC_out fun w hw => h w (List.mem_cons_of_mem _ hw)]
    split
    · rfl
    · have : x ≠ n := by rintro rfl; exact h v List.mem_cons_self
      simp [this]
theorem bindL_get {kindOf : Str → Option NameKind} {x : Str} {v : Value} : ∀ {P : List Str} {vs : List Value} {i : Nat} {m : Str → Option Value}, P.Nodup → P[i]? = some x → vs[i]? = some v → kindOf x = some .local →
    bindL kindOf (P.zip vs) m x = some v
  | [], _, _, _, _, h, _, _ => by simp at h
  | _ :: _, [], _, _, _, _, h, _ => by simp at h
  | p :: P, w :: vs, 0, m, nd, h1, h2, hk => by
    simp at h1 h2; subst h1; subst h2
    show bindL kindOf ((p, w) :: P.zip vs) m p = _
    unfold bindL
    rw [bindL_out fun v hv => (List.nodup_cons.mp nd).1 (List.of_mem_zip hv).1, if_pos hk]
    simp
  | p :: P, w :: vs, i + 1, m, nd, h1, h2, hk => by
    show bindL kindOf ((p, w) :: P.zip vs) m x = _
    unfold bindL
    exact bindL_get (i := i) (List.nodup_cons.mp nd).2 (by simpa using h1) (by simpa using h2) hk
theorem bindC_get {kindOf : Str → Option NameKind} {x : Str} {v : Value} : ∀ {P : List Str} {vs : List Value} {i : Nat} {m : Str → Option Value}, P.Nodup → P[i]? = some x → vs[i]? = some v → kindOf x ≠ some .local →
    bindC kindOf (P.zip vs) m x = some v
  | [], _, _, _, _, h, _, _ => by simp at h
  | _ :: _, [], _, _, _, _, h, _ => by simp at h
  | p :: P, w :: vs, 0, m, nd, h1, h2, hk => by
    simp at h1 h2; subst h1; subst h2
    show bindC kindOf ((p, w) :: P.zip vs) m p = _
    unfold bindC
    rw [bindC_out fun v hv => (List.nodup_cons.mp nd).1 (List.of_mem_zip hv).1, if_neg hk]
    simp
  | p :: P, w :: vs, i + 1, m, nd, h1, h2, hk => by
    show bindC kindOf ((p, w) :: P.zip vs) m x = _
    unfold bindC
    exact bindC_get (i := i) (List.nodup_cons.mp nd).2 (by simpa using h1) (by simpa using h2) hk
def start (N : List Str) (vs : List V) : St := vs.map some ++ List.replicate (N.length - vs.length) none
def cxOf (CX : CXT) (P : Program) (w : World) (K : PySem.W.Frag) (mg : Str → Option Value) (base : Heap) (N : List Str) (qual : Str) (scope : Scope) (f : Addr) (cd : Value) (A : Around) (outer : List Env) (s : Shared) (H : Hp) (E : XK) : Cx where
  prog := P
  w := w
  K := K
  mg := mg
  base := base
  A := A.deeper (envOfC qual scope s.heap.objs.size f cd)
  N := N
  s₀ := s
  H₀ := H
  env := envOfC qual scope s.heap.objs.size f cd
  outer := outer
  stack := envOfC qual scope s.heap.objs.size f cd :: outer
  ex := []
  calm := true
  fn := fun _ => true
  pn := []
  xe := fun e s' => wpAny (model P w) (A.deeper (envOfC qual scope s.heap.objs.size f cd)) (leaving (envOfC qual scope s.heap.objs.size f cd) e) (fun _ s'' => CX outer H s E e s'') (fun e' s'' => CX outer H s E e' s'') s'
theorem cell_has {sc : Scope} {n : Nat} {x : Str} (h : sc.names.lookup x = some .cell) : ∃ c, (cellsFrom n sc.names []).lookup x = some c := by
  have q := PySem.W.cellsFrom_some sc.names n [] (.inl h)
  exact Option.isSome_iff_exists.mp q
theorem inv_start {CX : CXT} {P : Program} {w : World} {K : PySem.W.Frag} {mg : Str → Option Value} {base : Heap} {N ps : List Str} {qual : Str} {scope : Scope} {f : Addr} {cd : Value} {A : Around} {outer : List Env} {s s1 : Shared} {H : Hp} {E : XK} {us : List Value} {vs : List V}
    (S : FnScope N ps scope) (hd : A.handled = none) (e0 : Env0 P w K mg base A outer s H) (hl : vs.length = ps.length) (r : Vals vs us)
    (x : InCallC s s.heap.objs.size (bindL (envOfC qual scope s.heap.objs.size f cd).kindOf (ps.zip us) fun _ => none) (cellsFrom (s.heap.objs.size + 1) scope.names []) (bindC (envOfC qual scope s.heap.objs.size f cd).kindOf (ps.zip us) fun _ => none) s1) :
    Inv (cxOf CX P w K mg base N qual scope f cd A outer s H E) [] (start N vs) H s1 := by
  have hpl : ps.length ≤ N.length := by have := congrArg List.length S.pre; rw [List.length_take] at this; omega
  obtain ⟨h1, tk, rfl, hk⟩ := x.done
  have noA : ∀ b : Addr, b ∉ (cxOf CX P w K mg base N qual scope f cd A outer s H E).ex := fun b z => absurd (show b ∈ ([] : List Addr) from z) (by simp)
  refine ⟨⟨e0.mod, S.kind, rfl, rfl, Nat.le_refl _, fun y z c h1 h2 => ?_, fun y hy => ?_, fun y c _ h => ?_, fun _ => hd, Around.frames_deeper e0.frames, .inr ⟨rfl, rfl⟩, fun b z => absurd z (noA b), e0.bs, e0.bsz, fun b _ _ => noA b, fun b z => absurd z (noA b), e0.funs, e0.frf⟩,
    rfl, e0.bare, Un.kept hk, ⟨_, x.toInCall.ns, fun i y v h1 h2 h3 => ?_⟩, fun y c h => ⟨_, x.cell y c h⟩, e0.hok.fresh (Nat.le_refl _), fun y c h => ?_, fun p hp => absurd (show p ∈ ([] : List (Addr × Obj)) from hp) (by simp), e0.hok.kept hk, ?_⟩
  · exact name_of_addr x.apart (PySem.mem_of_lookup h1) (PySem.mem_of_lookup h2)
  · have hy : scope.names.lookup y = some .cell ∨ scope.names.lookup y = some .free := hy
    rcases hy with hy | hy
    · exact cell_has hy
    · exact absurd rfl (S.nofree _ (PySem.mem_of_lookup hy))
  · exact Nat.le_of_lt (x.above y c (PySem.mem_of_lookup h))
  · have hi : i < vs.length := by
      unfold start at h2
      by_cases hi : i < vs.length
      · exact hi
      · rw [List.getElem?_append_right (by simpa using hi)] at h2
        rw [List.getElem?_replicate] at h2
        split at h2 <;> cases h2
    have ha : vs[i]? = some v := by
      unfold start at h2
      rw [List.getElem?_append_left (by simpa using hi), List.getElem?_map] at h2
      cases e : vs[i]? with
      | none => rw [e] at h2; cases h2
      | some a => rw [e] at h2; cases h2; rfl
    obtain ⟨u, hu, rv⟩ := r.get ha
    have hp : ps[i]? = some y := by
      rw [← S.pre, List.getElem?_take_of_lt (by omega)]; exact h1
    have ndP : ps.Nodup := by rw [← S.pre]; exact S.nd.sublist (List.take_sublist _ _)
    refine ⟨u, rv, ?_⟩
    rcases S.par y (List.mem_of_getElem? hp) with k | k
    · exact .inl ⟨k, bindL_get ndP hp hu k⟩
    · obtain ⟨c, e⟩ := cell_has (n := s.heap.objs.size + 1) k
      refine .inr ⟨.inl k, c, e, ?_⟩
      have q := x.cell y c e
      rw [bindC_get ndP hp hu (by show scope.names.lookup y ≠ _; rw [k]; decide)] at q
      exact q
  · exact e0.hok.fresh (Nat.le_of_lt (x.above y c (PySem.mem_of_lookup h)))
  · unfold start
    show _ = N.length
    rw [List.length_append, List.length_map, List.length_replicate]
    omega
theorem fn_of {CX : CXT} {P : Program} {w : World} {K : PySem.W.Frag} {mg : Str → Option Value} {base : Heap} {k : Nat} {f : Addr} {name qual : Str} {params : Arguments} {body : List Stmt} {scope : Scope} {dV kV doc pm cdv ct oc : Value} {an od : Option Addr}
    {osl : Array (Option Value)} {N ps : List Str} {sp : Sp} (lk : K.lookup f = some ⟨oc, od, .func (PySem.W.fnOf name qual params body scope dV kV doc pm an cdv ct), osl⟩) (hcd : PySem.W.codeIn K cdv qual = true) (S : FnScope N ps scope)
    (len : ∀ vs H Q E, sp vs H Q E → vs.length = ps.length)
    (hbody : ∀ (A : Around) (outer : List Env) (s : Shared) (H : Hp) (vs : List V) (Q : VK) (E : XK), Room k (A.deeper (envOfC qual scope s.heap.objs.size f cdv)) → sp vs H Q E →
      ∃ t, PSs (cxOf CX P w K mg base N qual scope f cdv A outer s H E) body t ∧ t { nx := fun _ H' => Q .non H', rt := Q } (start N vs) H) :
    FnOk P w K mg base CX (k + 1) f (PySem.W.fnOf name qual params body scope dV kV doc pm an cdv ct) ps sp := by
  refine ⟨len, fun A outer s H args us vs Q E hr e0 hb r hsp => ?_⟩
  have hl := len _ _ _ _ hsp
  have KX : K.In s.heap := e0.mod.kin.keeps fun b o e => (e0.bs b o e).1
  have lim : s.heap.NoLimit := e0.mod.nolimit.keeps fun b o e => (e0.bs b o e).1
  have hkind : ∀ y ∈ ps.zip us, scope.names.lookup y.1 = some .local ∨ (scope.names.lookup y.1 = some .cell ∧ ((cellsFrom (s.heap.objs.size + 1) scope.names []).lookup y.1).isSome = true) := fun ⟨n, v⟩ hy => by
    rcases S.par n (List.of_mem_zip hy).1 with q | q
    · exact .inl q
    · exact .inr ⟨q, PySem.W.cellsFrom_some _ _ _ (.inl q)⟩
  refine codeAny_call_function hr.depth (KX _ _ lk) rfl S.co S.gen rfl (PySem.W.codeRec_of KX hcd) (hb _ _ _ _ ?_)
  refine wpAny_newFunctionEnv_cells S.kind hkind fun env he s1 x => ?_
  subst he
  refine ⟨lim.keeps x.toInCall.keep, codeAny_func ?_⟩
  obtain ⟨t, ht, hq⟩ := hbody A outer s H vs Q E (hr.deeper _) hsp
  have I : Inv (cxOf CX P w K mg base N qual scope f cdv A outer s H E) [] (start N vs) H s1 := inv_start S hr.hd e0 hl r x
  refine wpAny_mono (ht [] s1 (start N vs) H _ I hq) (fun fl s' hs => ?_) fun e s' hs => hs
  have fin : ∀ {σ' : St} {H' : Hp} {v : V} {u : Value}, Inv (cxOf CX P w K mg base N qual scope f cdv A outer s H E) [] σ' H' s' → RelV v u → Q v H' → CE outer P w H s Q u s' :=
    fun {σ' H' v u} J rv q => ⟨v, H', J.os, J.bare, J.base, J.hok, rv, q⟩
  cases fl with
  | ret u =>
    obtain ⟨v, σ', H', J, rv, q⟩ := hs
    exact fin J rv q
  | next =>
    obtain ⟨σ', H', J, q⟩ := hs
    exact fin (v := V.non) (u := Value.none) J rfl q
  | brk =>
    obtain ⟨_, _, _, q⟩ := hs
    exact False.elim q
  | cont =>
    obtain ⟨_, _, _, q⟩ := hs
    exact False.elim q
end L2
namespace L2
open PySem PySem.Spec PyProof.Rows
section
variable {X : Cx} {x : Str} {p pos : Pos} {e : Expr} {es : List Expr} {t : TA} {id T : String} {r : List V → Hp → VK → Prop}
def tCB (r : List V → Hp → VK → Prop) (t : TA) : TE := fun σ H Q => t σ H fun vs H1 => r vs H1 Q
theorem pe_callB (hc : CallR X (.builtin id) r) (hg : Gl X x) (hm : X.mg x = none) (hv : bootBuiltins x = some (.builtin id)) (ha : PA X (e :: es) t) (hn : x ≠ "__name__" := by decide) (hdb : (x == ("__debug__" : Str)) = false := by decide)
    (he : starEach (e :: es) X.env = (false, eval e X.env) :: starEach es X.env := by rfl) (hpl : (backTo pos (starEach es X.env)).any (·.1) = false := by rfl) : PE X (.Call (.Name x p) (e :: es) [] pos) (tCB r t) := by
  intro pins s σ H Q I h
  refine wpAny_Call_Name_kw (ld_blt I hg hm hv ?_ hn hdb)
  exact PyProof.Rows.callWith_builtin1 (thn (ha pos pins s σ H _ I h) fun us s1 ⟨vs, H1, I1, r1, q1⟩ => hc pins s1 σ H1 vs us Q I1 r1 q1) he hpl
theorem pe_callTy (hc : CallR X (.type T) r) (hg : Gl X x) (hm : X.mg x = none) (hv : bootBuiltins x = some (.type T)) (ha : PA X (e :: es) t) (hn : x ≠ "__name__" := by decide) (hdb : (x == ("__debug__" : Str)) = false := by decide)
    (he : starEach (e :: es) X.env = (false, eval e X.env) :: starEach es X.env := by rfl) (hpl : (backTo pos (starEach es X.env)).any (·.1) = false := by rfl) : PE X (.Call (.Name x p) (e :: es) [] pos) (tCB r t) := by
  intro pins s σ H Q I h
  refine wpAny_Call_Name_kw (ld_blt I hg hm hv ?_ hn hdb)
  exact PyProof.Rows.callWith_type1 (thn (ha pos pins s σ H _ I h) fun us s1 ⟨vs, H1, I1, r1, q1⟩ => hc pins s1 σ H1 vs us Q I1 r1 q1) he hpl
end
end L2
namespace HT
open PySem PyProof.Rows
section
variable {prog : Program} {w : World} {A : Around} {E : Value → Shared → Prop} {s : Shared}
theorem cat_tup {t b : Addr} {vs ws : List Value} {Q : Value → Shared → Prop} (ht : IsTup s.heap t vs.toArray) (hb : IsTup s.heap b ws.toArray) (hv : vs ≠ [])
    (h1 : ws = [] → Q (.ref t) s) (h2 : ws ≠ [] → Q (.ref s.heap.objs.size) { s with heap := s.heap.push { cls := .type "tuple", data := .seq (vs ++ ws).toArray } })
    (hsz : vs.length + ws.length ≤ sizeLine) : wpAny (model prog w) A (binaryOp .Add (.ref t) (.ref b)) Q E s := by
  obtain ⟨⟨cls, dd, data, sl⟩, ho, hc, n, hd⟩ := id ht
  obtain ⟨⟨cls2, dd2, data2, sl2⟩, ho2, hc2, n2, hd2⟩ := id hb
  simp only at hc hd hc2 hd2
  subst hc hd hc2 hd2
  have e : vs.toArray ++ ws.toArray = (vs ++ ws).toArray := by simp
  by_cases hw : ws = []
  · exact concat_meets ⟨_, ho, rfl⟩ ⟨_, ho2, rfl⟩ noFill_tuple_add seq_tuple_add PySem.F.slot_tuple_add PySem.F.entry_tuple_add (PySem.F.args_tuple_add_2 _ _)
      (tuple_addW1 t b vs.toArray ws.toArray n n2 dd dd2 sl sl2 (by simpa using hv) (by simp [hw])) ⟨ho, ho2, h1 hw⟩
  · refine concat_meets ⟨_, ho, rfl⟩ ⟨_, ho2, rfl⟩ noFill_tuple_add seq_tuple_add PySem.F.slot_tuple_add PySem.F.entry_tuple_add (PySem.F.args_tuple_add_2 _ _)
      (tuple_addW2 t b vs.toArray ws.toArray n n2 dd dd2 sl sl2 (by simpa using hv) (by simpa using hw) (by rw [List.size_toArray, List.size_toArray]; exact hsz)) ⟨ho, ho2, ?_⟩
    rw [e]
    exact h2 hw
def sIx (n d : Nat) : Option Int → Nat
  | none => d
  | some v => if v < 0 then (v + (n : Int)).toNat else min v.toNat n
theorem sIx_le (n d : Nat) (hd : d ≤ n) (o : Option Int) : sIx n d o ≤ n := by
  cases o with
  | none => exact hd
  | some v =>
    show (if v < 0 then (v + (n : Int)).toNat else min v.toNat n) ≤ n
    by_cases hv : v < 0
    · rw [if_pos hv]; omega
    · rw [if_neg hv]; exact Nat.min_le_right _ _
theorem clip_eq (v : Int) (n d : Nat) : (if v < 0 then max (v + (n : Int)) 0 else min v (n : Int)) = ((sIx n d (some v) : Nat) : Int) := by
  show (if v < 0 then max (v + (n : Int)) 0 else min v (n : Int)) = (((if v < 0 then (v + (n : Int)).toNat else min v.toNat n) : Nat) : Int)
  by_cases hv : v < 0
  · simp only [if_pos hv]; omega
  · simp only [if_neg hv]; omega
theorem adjust_gen (lo hi : Option Int) (n : Nat) : Builtin.Slice.sliceAdjust lo hi 1 (n : Int) = (((sIx n 0 lo : Nat) : Int), ((sIx n n hi : Nat) : Int)) := by
  have h1 : ¬ ((1 : Int) < 0) := by omega
  unfold Builtin.Slice.sliceAdjust
  simp only [h1, if_false]
  refine Prod.ext ?_ ?_
  · cases lo with
    | none => rfl
    | some v => exact clip_eq v n 0
  · cases hi with
    | none => rfl
    | some v => exact clip_eq v n n
theorem places_gen (i j : Nat) : Builtin.Slice.slicePlaces (i : Int) (j : Int) 1 = j - i := by
  unfold Builtin.Slice.slicePlaces
  have h1 : (1 : Int) > 0 := by omega
  simp only [h1, if_true, Int.ediv_one]
  split <;> omega
theorem slicePart_ {v : Value} {o : Option Int} {Q : Option Int → Shared → Prop} (p : IsPart v o) (h : Q o s) : wpAny (model prog w) A (Builtin.Slice.slicePartIndex v) Q E s := by
  cases p with
  | none => exact slicePart_none h
  | int i t => exact slicePart_int h
theorem sliceApplied_gen {sl : Addr} {vl vu : Value} {lo hi : Option Int} {n : Nat} {Q : Int × Int × Nat → Shared → Prop} (hs : s.heap.IsSliceOf sl vl vu .none) (pl : IsPart vl lo) (pu : IsPart vu hi)
    (h : Q (((sIx n 0 lo : Nat) : Int), 1, sIx n n hi - sIx n 0 lo) s) : wpAny (model prog w) A (Builtin.Slice.sliceApplied (.ref sl) (pure (n : Int))) Q E s := by
  obtain ⟨os, hos, hcs, hds⟩ := id hs
  unfold Builtin.Slice.sliceApplied Builtin.Slice.sliceFields
  refine wpAny_bind (wpAny_bind (wpAny_field hos hds (x := vl) rfl (wpAny_bind (wpAny_field hos hds (x := vu) rfl (wpAny_bind (wpAny_field hos hds (x := .none) rfl (wpAny_pure ?_)))))))
  refine wpAny_bind (slicePart_none ?_)
  show wpAny _ _ (if ((1 : Int) == 0) = true then _ else _) _ _ s
  rw [if_neg (by decide)]
  refine wpAny_bind (slicePart_ pl (wpAny_bind (slicePart_ pu (wpAny_bind (wpAny_pure ?_)))))
  show wpAny _ _ (match Builtin.Slice.sliceAdjust lo hi 1 (n : Int) with | (lo, hi) => pure (lo, (1 : Int), Builtin.Slice.slicePlaces lo hi 1)) _ _ s
  rw [adjust_gen lo hi n]
  show wpAny _ _ (pure (((sIx n 0 lo : Nat) : Int), (1 : Int), Builtin.Slice.slicePlaces ((sIx n 0 lo : Nat) : Int) ((sIx n n hi : Nat) : Int) 1)) _ _ s
  rw [places_gen]
  exact wpAny_pure h
theorem pick_gen (xs : Array Value) (i k : Nat) : ((List.range k).filterMap fun (m : Nat) => xs[((i : Int) + (m : Int) * 1).toNat]?).toArray = ((xs.toList.drop i).take k).toArray := by
  have e : (fun (m : Nat) => xs[((i : Int) + (m : Int) * 1).toNat]?) = fun m => xs[i + m]? := by
    funext m
    have : ((i : Int) + (m : Int) * 1).toNat = i + m := by omega
    rw [this]
  rw [e]
  have := pick_run xs i k
  rw [List.filterMap_map] at this
  have e2 : ((fun x => xs[x]?) ∘ fun x => i + x) = fun m => xs[i + m]? := rfl
  rw [e2] at this
  rw [this]
theorem getItem_tuple_cut {t sl : Addr} {items : Array Value} {vl vu : Value} {lo hi : Option Int} {Q : Value → Shared → Prop} (ht : IsTup s.heap t items) (hs : s.heap.IsSliceOf sl vl vu .none) (pl : IsPart vl lo) (pu : IsPart vu hi)
    (hw : ¬ (sIx items.size 0 lo = 0 ∧ sIx items.size items.size hi = items.size))
    (h : Q (.ref s.heap.objs.size) { s with heap := s.heap.push { cls := .type "tuple", data := .seq ((items.toList.drop (sIx items.size 0 lo)).take (sIx items.size items.size hi - sIx items.size 0 lo)).toArray } })
    (hsz : items.size ≤ sizeLine) : wpAny (model prog w) A (getItem (.ref t) (.ref sl)) Q E s := by
  have htake : sizeOk (.seq ((items.toList.drop (sIx items.size 0 lo)).take (sIx items.size items.size hi - sIx items.size 0 lo)).toArray) := by
    show ((items.toList.drop (sIx items.size 0 lo)).take (sIx items.size items.size hi - sIx items.size 0 lo)).toArray.size ≤ sizeLine
    rw [List.size_toArray, List.length_take, List.length_drop, Array.length_toList]
    omega
  have hj : sIx items.size items.size hi ≤ items.size := sIx_le _ _ (Nat.le_refl _) hi
  obtain ⟨os, hos, hcs, hds⟩ := id hs
  have hTs : s.TypeIs (.ref sl) "slice" := ⟨os, hos, hcs⟩
  unfold getItem
  try with_reducible refine wpAny_holding ?_
  first | refine wpAny_bind (wpAny_pure ?_) | skip
  refine wpAny_bind (wpAny_sequenceKey ht.typeIs (by decide) ?_)
  refine wpAny_bind (wpAny_callSpecial?_slot (name := Str.ofString "__getitem__") ht.typeIs PyProof.Rows.slot_tuple_getitem
    (wpAny_call_entry PyProof.Rows.slot_tuple_getitem ht.typeIs entry_tuple_getitem ?_ (args_tuple_getitem _ _)))
  show wpAny _ _ (Builtin.Tuple.tupleItemsOf (.ref t) >>= _) _ _ s
  refine wpAny_bind (tupleItemsOf_ ht ?_)
  refine wpAny_bind (wpAny_typeOf hTs ?_)
  rw [if_pos (by decide)]
  refine wpAny_bind (sliceApplied_gen hs pl pu ?_)
  have hno : ¬ ((((sIx items.size 0 lo : Nat) : Int) == 0 && (1 : Int) == 1 && (sIx items.size items.size hi - sIx items.size 0 lo) == items.size) = true) := by
    intro q
    rw [Bool.and_eq_true, Bool.and_eq_true] at q
    have q1 : ((sIx items.size 0 lo : Nat) : Int) = 0 := eq_of_beq q.1.1
    have q2 : sIx items.size items.size hi - sIx items.size 0 lo = items.size := eq_of_beq q.2
    exact hw ⟨by omega, by omega⟩
  show wpAny _ _ (if (((sIx items.size 0 lo : Nat) : Int) == 0 && (1 : Int) == 1 && (sIx items.size items.size hi - sIx items.size 0 lo) == items.size) = true then _ else _) _ _ s
  rw [if_neg hno, pick_gen]
  first
    | exact wpAny_bind (m := Builtin.Tuple.tupleExact _) (wpAny_newObj_type (wpAny_pure ⟨_, rfl, wpAny_pure h⟩) htake)
    | exact wpAny_bind (m := Builtin.Tuple.tupleExact _) (wpAny_newObj_type (wpAny_bind (wpAny_pure (wpAny_pure ⟨_, rfl, wpAny_pure h⟩))) htake)
    | exact wpAny_bind (wpAny_bind (m := Builtin.Tuple.tupleExact _) (wpAny_newObj_type (wpAny_pure (wpAny_pure ⟨_, rfl, wpAny_pure h⟩)) htake))
    | exact wpAny_bind (wpAny_bind (m := Builtin.Tuple.tupleExact _) (wpAny_newObj_type (wpAny_pure ⟨_, rfl, wpAny_pure h⟩) htake))
end
end HT
namespace L2
open PySem PySem.Spec PyProof.Rows
abbrev TO := St → Hp → (Option Int → Hp → Prop) → Prop
def PO (X : Cx) (e : Option Expr) (t : TO) : Prop :=
  ∀ (pins : List (Addr × Obj)) (s : Shared) (σ : St) (H : Hp) (Q : Option Int → Hp → Prop), Inv X pins σ H s → t σ H Q →
    wpAny (model X.prog X.w) X.A (evalPart e X.env) (fun u s' => ∃ o H', Inv X pins σ H' s' ∧ IsPart u o ∧ Q o H') X.xe s
def tNoPart : TO := fun _ H Q => Q none H
def tPart (t : TE) : TO := fun σ H Q => t σ H fun x H1 => ∃ i, x = .int i ∧ Q (some i) H1
theorem intsAre_of {ns : List Int} : ∀ {us : List Value}, Vals (ns.map V.int) us → IntsAre us ns := by
  induction ns with
  | nil => intro us r; rw [List.map_nil] at r; cases r; exact .nil
  | cons n ns ih =>
    intro us r
    rw [List.map_cons] at r
    cases r with
    | cons r1 r2 =>
      obtain ⟨t, e⟩ := r1
      subst e
      exact .cons n t (ih r2)
section
variable {X : Cx} {e : Expr} {te : TE} {lo hi : Option Expr} {tl th : TO} {pos p2 : Pos}
theorem po_none : PO X none tNoPart := by
  intro pins s σ H Q I h
  rw [evalPart_none]
  exact wpAny_pure ⟨none, H, I, .none, h⟩
theorem po_some (h : PE X e te) : PO X (some e) (tPart te) := by
  intro pins s σ H Q I hw
  rw [evalPart_some]
  refine thn (h pins s σ H _ I hw) fun u s1 ⟨x, H1, I1, r1, q1⟩ => ?_
  obtain ⟨i, rfl, q⟩ := q1
  obtain ⟨t, rfl⟩ := r1
  exact ⟨some i, H1, I1, .int i t, q⟩
def SlR (X : Cx) (r : V → Option Int → Option Int → Hp → VK → Prop) : Prop :=
  ∀ (pins : List (Addr × Obj)) (s : Shared) (σ : St) (H : Hp) (x : V) (v vl vu : Value) (lo hi : Option Int) (sl : Addr) (Q : VK), Inv X pins σ H s → RelV x v → s.heap.IsSliceOf sl vl vu .none → IsPart vl lo → IsPart vu hi → r x lo hi H Q →
    ∃ T id, typeLookup (.type T) "__getitem__" = pure (some (.builtin id)) ∧ s.TypeIs v T ∧ wpAny (model X.prog X.w) X.A (getItem v (.ref sl)) (EP X pins σ Q) X.xe s
def tSl (r : V → Option Int → Option Int → Hp → VK → Prop) (te : TE) (tl th : TO) : TE := fun σ H Q => te σ H fun x H1 => tl σ H1 fun l H2 => th σ H2 fun u H3 => r x l u H3 Q
theorem pe_slice {r : V → Option Int → Option Int → Hp → VK → Prop} (hr : SlR X r) (he : PE X e te) (hl : PO X lo tl) (hu : PO X hi th) : PE X (.Subscript e (.Slice lo hi none p2) pos) (tSl r te tl th) := by
  intro pins s σ H Q I h
  refine Subscript_ (thn (he pins s σ H _ I h) fun v s1 ⟨x, H1, I1, r1, q1⟩ => ?_)
  refine wpAny_Slice (thn (hl pins s1 σ H1 _ I1 q1) fun vl s2 ⟨l, H2, I2, pl, q2⟩ => thn (hu pins s2 σ H2 _ I2 q2) fun vu s3 ⟨u, H3, I3, pu, q3⟩ => ?_)
  rw [evalPart_none]
  refine wpAny_pure ?_
  have I4 : Inv X pins σ H3 { s3 with heap := s3.heap.push { cls := .type "slice", data := .fields #[vl, vu, .none] } } := I3.kept (t' := s3.toks) fun b ob q => Heap.get?_push_of_some _ q
  obtain ⟨T, id, hT, ht, hg⟩ := hr pins { s3 with heap := s3.heap.push { cls := .type "slice", data := .fields #[vl, vu, .none] } } σ H3 x v vl vu l u s3.heap.objs.size Q I4 r1 (Heap.IsSliceOf.new ..) pl pu q3
  show wpAny (model X.prog X.w) X.A (subscriptTail e (.Slice lo hi none p2) v (.ref s3.heap.objs.size)) (EP X pins σ Q) X.xe { s3 with heap := s3.heap.push { cls := .type "slice", data := .fields #[vl, vu, .none] } }
  exact tail_any (ops := [.ref s3.heap.objs.size, v]) ht hT hg (by with_unfolding_all rfl)
def cutV (xs : List V) (lo hi : Option Int) : List V := (xs.drop (HT.sIx xs.length 0 lo)).take (HT.sIx xs.length xs.length hi - HT.sIx xs.length 0 lo)
theorem cutV_length (xs : List V) (lo hi : Option Int) : (cutV xs lo hi).length ≤ xs.length := by
  unfold cutV
  rw [List.length_take, List.length_drop]
  omega
def rSlT (K : PySem.W.Frag) : V → Option Int → Option Int → Hp → VK → Prop := fun x lo hi H Q => ∃ a xs, x = .ref a ∧ SqT K H a xs ∧
  ¬ (HT.sIx xs.length 0 lo = 0 ∧ HT.sIx xs.length xs.length hi = xs.length) ∧ ∀ p, H p = none → Q (.ref p) (upd H p (.tup (cutV xs lo hi)))
theorem sl_tup : SlR X (rSlT X.K) := by
  intro pins s σ H x v vl vu lo hi sl Q I rx hs pl pu h
  obtain ⟨a, xs, rfl, hx, hw, q⟩ := h
  cases rx
  obtain ⟨its, r, ht, hz⟩ := I.tuple hx
  have hlen : its.toArray.size = xs.length := by rw [List.size_toArray]; exact r.length.symm
  refine ⟨"tuple", _, PyProof.Rows.slot_tuple_getitem.lookup, ht.typeIs, ?_⟩
  refine HT.getItem_tuple_cut ht hs pl pu (by rw [hlen]; exact hw) ?_ (by rw [hlen]; exact hz)
  rw [hlen]
  refine ⟨.ref s.heap.objs.size, _, I.laid (t' := s.toks) (o := .tup (cutV xs lo hi)) (fun b ob q => Heap.get?_push_of_some _ q) (Nat.le_refl _) ?_, rfl, q _ (I.hok.fresh (Nat.le_refl _))⟩
  exact ⟨Nat.le_trans (cutV_length xs lo hi) hz, _, (r.drop (HT.sIx xs.length 0 lo)).take (HT.sIx xs.length xs.length hi - HT.sIx xs.length 0 lo), IsTup.new _ _⟩
def rCatT (K : PySem.W.Frag) : R2 := fun x y H Q => ∃ a b xs ys, x = .ref a ∧ y = .ref b ∧ SqT K H a xs ∧ SqT K H b ys ∧ xs ≠ [] ∧ xs.length + ys.length ≤ sizeLine ∧
  (ys = [] → Q (.ref a) H) ∧ (ys ≠ [] → ∀ p, H p = none → Q (.ref p) (upd H p (.tup (xs ++ ys))))
theorem Vals.nil_iff {xs : List V} {us : List Value} (r : Vals xs us) : us = [] ↔ xs = [] := by
  cases r with
  | nil => simp
  | cons _ _ => simp
theorem op_catT : OpR X (binaryOp .Add) (rCatT X.K) := by
  intro pins s σ H x y v u Q I rx ry h
  obtain ⟨a, b, xs, ys, rfl, rfl, ha, hb, hx, hz, q1, q2⟩ := h
  cases rx
  cases ry
  obtain ⟨its, r1, p1, _⟩ := I.tuple ha
  obtain ⟨its2, r2, p2, _⟩ := I.tuple hb
  refine HT.cat_tup p1 p2 (fun z => hx (r1.nil_iff.mp z)) (fun z => ⟨.ref a, H, I, rfl, q1 (r2.nil_iff.mp z)⟩) (fun z => ?_) (by rw [← r1.length, ← r2.length]; exact hz)
  refine ⟨.ref s.heap.objs.size, _, I.laid (t' := s.toks) (o := .tup (xs ++ ys)) (fun b ob q => Heap.get?_push_of_some _ q) (Nat.le_refl _) ?_, rfl, q2 (fun w => z (r2.nil_iff.mpr w)) _ (I.hok.fresh (Nat.le_refl _))⟩
  exact ⟨by rw [List.length_append]; exact hz, _, r1.append r2, IsTup.new _ _⟩
end
end L2
namespace L2
open PySem PySem.Spec PyProof.Rows
def ixN (n : Nat) (i : Int) : Option Nat := if 0 ≤ i then (if i < n then some i.toNat else none) else if -(n : Int) ≤ i then some (i + n).toNat else none
def atI {α : Type} (xs : List α) (i : Int) : Option α := (ixN xs.length i).bind fun j => xs[j]?
theorem ixN_seq {n : Nat} {i : Int} {j : Nat} (h : ixN n i = some j) : seqIndex? i n = some j ∧ j < n ∧ -(n : Int) ≤ i ∧ i < n := by
  unfold ixN at h
  by_cases h0 : 0 ≤ i
  · rw [if_pos h0] at h
    by_cases h1 : i < n
    · rw [if_pos h1] at h
      have e : i.toNat = j := Option.some.inj h
      exact ⟨by rw [seqIndex_of h0 h1, e], by omega, by omega, h1⟩
    · rw [if_neg h1] at h; cases h
  · rw [if_neg h0] at h
    by_cases h1 : -(n : Int) ≤ i
    · rw [if_pos h1] at h
      have e : (i + n).toNat = j := Option.some.inj h
      exact ⟨by rw [seqIndex_neg (by omega) h1, e], by omega, h1, by omega⟩
    · rw [if_neg h1] at h; cases h
theorem atI_get {α : Type} {xs : List α} {i : Int} {v : α} (h : atI xs i = some v) : ∃ j, seqIndex? i xs.length = some j ∧ xs[j]? = some v ∧ j < xs.length ∧ -(xs.length : Int) ≤ i ∧ i < xs.length := by
  unfold atI at h
  cases e : ixN xs.length i with
  | none => rw [e] at h; cases h
  | some j =>
    rw [e] at h
    obtain ⟨h1, h2, h3, h4⟩ := ixN_seq e
    exact ⟨j, h1, h, h2, h3, h4⟩
theorem atI_nat {α : Type} {xs : List α} {j : Nat} {v : α} (h : xs[j]? = some v) : atI xs (j : Int) = some v := by
  have hj : j < xs.length := (List.getElem?_eq_some_iff.mp h).1
  have e : ixN xs.length (j : Int) = some j := by
    unfold ixN
    rw [if_pos (by omega), if_pos (by omega)]; simp
  unfold atI; rw [e]; exact h
theorem atI_last {α : Type} (xs : List α) (v : α) : atI (xs ++ [v]) (-1) = some v := by
  have hl : (xs ++ [v]).length = xs.length + 1 := by simp
  have e : ixN (xs ++ [v]).length (-1) = some xs.length := by
    unfold ixN
    rw [hl, if_neg (by decide), if_pos (by omega)]
    congr 1
    omega
  unfold atI
  rw [e]
  show (xs ++ [v])[xs.length]? = some v
  simp
def PlainIx (b : Expr) : Prop := ∀ o i, subscripted b false o i = operate [o, i] (getItem o i)
def IxR (X : Cx) (r : R2) : Prop :=
  ∀ (value slice : Expr) (pins : List (Addr × Obj)) (s : Shared) (σ : St) (H : Hp) (x y : V) (v u : Value) (Q : VK), Inv X pins σ H s → RelV x v → RelV y u → r x y H Q →
    subscripted slice false v u = operate [v, u] (getItem v u) → wpAny (model X.prog X.w) X.A (subscriptTail value slice v u) (EP X pins σ Q) X.xe s
def MtR (X : Cx) (id : String) (r : V → List V → Hp → VK → Prop) : Prop :=
  ∀ (pins : List (Addr × Obj)) (s : Shared) (σ : St) (H : Hp) (x : V) (xs : List V) (v : Value) (us : List Value) (Q : VK), Inv X pins σ H s → RelV x v → Vals xs us → r x xs H Q →
    wpAny (model X.prog X.w) X.A (call (.builtin id) (v :: us)) (EP X pins σ Q) X.xe s
section
variable {X : Cx} {a b : Expr} {ta tb : TE} {pos : Pos}
theorem IxR.or {r r' : R2} (h : IxR X r) (h' : IxR X r') : IxR X (fun x y H Q => r x y H Q ∨ r' x y H Q) := by
  intro value slice pins s σ H x y v u Q I rx ry q hs
  rcases q with q | q
  · exact h value slice pins s σ H x y v u Q I rx ry q hs
  · exact h' value slice pins s σ H x y v u Q I rx ry q hs
theorem pe_ix {r : R2} (hr : IxR X r) (ha : PE X a ta) (hb : PE X b tb) (hs : PlainIx b) : PE X (.Subscript a b pos) (tOp r ta tb) := by
  intro pins s σ H Q I h
  exact Subscript_ (binT ha hb I h fun v u s2 x y H2 I2 rx ry q => hr a b pins s2 σ H2 x y v u Q I2 rx ry q (hs _ _))
def rIxL (K : PySem.W.Frag) : R2 := fun x y H Q => ∃ p xs i v, x = .ref p ∧ y = .int i ∧ SqL K H p xs ∧ atI xs i = some v ∧ Q v H
def rIxT (K : PySem.W.Frag) : R2 := fun x y H Q => ∃ p xs i v, x = .ref p ∧ y = .int i ∧ SqT K H p xs ∧ atI xs i = some v ∧ Q v H
theorem ix_list : IxR X (rIxL X.K) := by
  intro value slice pins s σ H x y v u Q I rx ry h hs
  obtain ⟨p, xs, i, z, rfl, rfl, hq, he, q⟩ := h
  cases rx
  obtain ⟨t, rfl⟩ := ry
  obtain ⟨its, r, pl, hz⟩ := I.list hq
  obtain ⟨j, h1, h2, h3, h4, h5⟩ := atI_get he
  obtain ⟨w, ew, rw'⟩ := r.get h2
  have hl := r.length
  have hn := line63
  have fin : EP X pins σ Q w s := ⟨z, H, I, rw', q⟩
  by_cases h0 : 0 ≤ i
  · have hj : i.toNat = j := by
      rw [seqIndex_of h0 h5] at h1
      exact Option.some.inj h1
    exact item_listR pl.isList h0 (by omega) (by rw [hj]; simpa using ew) fin hs
  · have hj : (i + (its.toArray.size : Int)).toNat = j := by
      rw [seqIndex_neg (by omega) h4] at h1
      rw [List.size_toArray, ← hl]
      exact Option.some.inj h1
    exact subscriptTail_builtinR (x := w) pl.isList.typeIs slot_list_getitem.lookup
      (wpAny_getItem_list_neg (Q := fun r s' => r = w ∧ EP X pins σ Q r s') pl.isList (by omega) (by rw [List.size_toArray] <;> omega) (by omega) (by rw [hj]; simpa using ew) ⟨rfl, fin⟩) hs
theorem ix_tup : IxR X (rIxT X.K) := by
  intro value slice pins s σ H x y v u Q I rx ry h hs
  obtain ⟨p, xs, i, z, rfl, rfl, hq, he, q⟩ := h
  cases rx
  obtain ⟨t, rfl⟩ := ry
  obtain ⟨its, r, pl, hz⟩ := I.tuple hq
  obtain ⟨j, h1, h2, h3, h4, h5⟩ := atI_get he
  obtain ⟨w, ew, rw'⟩ := r.get h2
  have hl := r.length
  have hn := line63
  have fin : EP X pins σ Q w s := ⟨z, H, I, rw', q⟩
  exact subscriptTail_builtinR (x := w) pl.typeIs slot_tuple_getitem.lookup
    (getItem_tuple (j := j) (Q := fun r s' => r = w ∧ EP X pins σ Q r s') pl (by omega) (by omega) (by rw [List.size_toArray, ← hl]; exact h1) (by simpa using ew) ⟨rfl, fin⟩) hs
theorem mapSeq_set (its : List Value) (n j : Nat) (u : Value) : Obj.mapSeq (·.setIfInBounds j u) { cls := .type "list", data := .seq its.toArray n } = { cls := .type "list", data := .seq (its.set j u).toArray n } := by
  simp [Obj.mapSeq]
theorem Inv.lst {pins : List (Addr × Obj)} {σ : St} {H : Hp} {s : Shared} {p : Addr} {xs : List V} (I : Inv X pins σ H s) (h : H p = some (.lst xs)) :
    ∃ (its : List Value) (n : Nat), Vals xs its ∧ s.heap.get? p = some { cls := .type "list", data := .seq its.toArray n } ∧ xs.length ≤ sizeLine := by
  obtain ⟨z, its, n, r, e⟩ := I.hok p _ h
  exact ⟨its, n, r, e, z⟩
theorem Inv.lstUpd {pins : List (Addr × Obj)} {σ : St} {H : Hp} {s : Shared} {p : Addr} {xs ys : List V} {its its' : List Value} {n n' : Nat} {f : Obj → Obj} (I : Inv X pins σ H s) (h : H p = some (.lst xs))
    (ho : s.heap.get? p = some { cls := .type "list", data := .seq its.toArray n }) (hf : f { cls := .type "list", data := .seq its.toArray n } = { cls := .type "list", data := .seq its'.toArray n' }) (r : Vals ys its') (hz : ys.length ≤ sizeLine) (t : Nat) :
    Inv X pins σ (upd H p (.lst ys)) { s with heap := s.heap.update p f, toks := t } := by
  have e : (s.heap.update p f).get? p = some { cls := .type "list", data := .seq its'.toArray n' } := by
    rw [Heap.get?_update_self f ho (by rw [hf] <;> rfl), hf]
  refine I.write (x := p) (e := p) (by rw [h]; trivial) (.inl rfl) (fun b u hb q => (Heap.get?_update_other _ _ (Ne.symm hb)).trans q) ⟨_, e⟩ ?_
  exact ⟨hz, its', n', r, e⟩
def rSetL : V → V → V → Hp → (Hp → Prop) → Prop := fun o i v H Q => ∃ p xs k j, o = .ref p ∧ i = .int k ∧ H p = some (.lst xs) ∧ ixN xs.length k = some j ∧ Q (upd H p (.lst (xs.set j v)))
theorem set_list : PSet X rSetL := by
  intro pins s σ H o i v ov iv u Q I ro ri rv h
  obtain ⟨p, xs, k, j, rfl, rfl, hp, hj, q⟩ := h
  cases ro
  obtain ⟨t, rfl⟩ := ri
  obtain ⟨its, n, r, ho, hz⟩ := I.lst hp
  obtain ⟨h1, h2, h3, h4⟩ := ixN_seq hj
  have hl := r.length
  have hn := line63
  have I' : Inv X pins σ (upd H p (.lst (xs.set j v))) { s with heap := s.heap.update p (Obj.mapSeq (·.setIfInBounds j u)) } :=
    I.lstUpd hp ho (mapSeq_set its n j u) (r.set rv j) (by rw [List.length_set]; exact hz) s.toks
  by_cases h0 : 0 ≤ k
  · have hk : k.toNat = j := by
      rw [seqIndex_of h0 h4] at h1
      exact Option.some.inj h1
    exact PySem.W.ki_setAt ho h0 (by omega) (by rw [List.size_toArray, ← hl]; exact h4) (by rw [hk]; exact ⟨_, I', q⟩)
  · have hk : (k + (its.toArray.size : Int)).toNat = j := by
      rw [seqIndex_neg (by omega) h3] at h1
      rw [List.size_toArray, ← hl]
      exact Option.some.inj h1
    exact PySem.W.ki_setBack ho (by omega) (by rw [List.size_toArray, ← hl]; exact h3) (by omega) (by rw [hk]; exact ⟨_, I', q⟩)
theorem slice_bounds (lo hi : Option Int) (n : Nat) : (sliceBounds lo hi none n).1 = ((HT.sIx n 0 lo : Nat) : Int) ∧ (sliceBounds lo hi none n).2.1 = ((HT.sIx n n hi : Nat) : Int) ∧ (sliceBounds lo hi none n).2.2 = 1 := by
  refine ⟨?_, ?_, rfl⟩
  · cases lo with
    | none => simp [sliceBounds, HT.sIx]
    | some i =>
      simp only [sliceBounds, HT.sIx, Option.getD_none, show (1 : Int) > 0 by decide, if_true]
      by_cases h : i < 0
      · simp only [h, if_true] <;> omega
      · simp only [h, if_false] <;> omega
  · cases hi with
    | none => simp [sliceBounds, HT.sIx]
    | some i =>
      simp only [sliceBounds, HT.sIx, Option.getD_none, show (1 : Int) > 0 by decide, if_true]
      by_cases h : i < 0
      · simp only [h, if_true] <;> omega
      · simp only [h, if_false] <;> omega
theorem slicePick_cut (its : List Value) (lo hi : Option Int) : slicePick its.toArray lo hi none = ((its.drop (HT.sIx its.length 0 lo)).take (HT.sIx its.length its.length hi - HT.sIx its.length 0 lo)).toArray := by
  obtain ⟨h1, h2, h3⟩ := slice_bounds lo hi its.toArray.size
  unfold slicePick
  rw [h1, h2, h3]
  simp only [sliceRange_one, pick_run, List.size_toArray] <;> rfl
def rSlL (K : PySem.W.Frag) : V → Option Int → Option Int → Hp → VK → Prop := fun x lo hi H Q => ∃ a xs, x = .ref a ∧ SqL K H a xs ∧ ∀ p, H p = none → Q (.ref p) (upd H p (.lst (cutV xs lo hi)))
theorem sl_list : SlR X (rSlL X.K) := by
  intro pins s σ H x v vl vu lo hi sl Q I rx hs pl pu h
  obtain ⟨a, xs, rfl, hx, q⟩ := h
  cases rx
  obtain ⟨its, r, ht, hz⟩ := I.list hx
  have hlen := r.length
  refine ⟨"list", _, slot_list_getitem.lookup, ht.isList.typeIs, ?_⟩
  refine wpAny_getItem_list_slice ht.isList hs pl pu .none (by simp) ?_ (by rw [List.size_toArray] <;> omega)
  rw [slicePick_cut, ← hlen]
  refine ⟨.ref s.heap.objs.size, _, I.laid (t' := s.toks) (o := .lst (cutV xs lo hi)) (fun b ob q => Heap.get?_push_of_some _ q) (Nat.le_refl _) ?_, rfl, q _ (I.hok.fresh (Nat.le_refl _))⟩
  exact ⟨Nat.le_trans (cutV_length xs lo hi) hz, _, 0, (r.drop (HT.sIx xs.length 0 lo)).take (HT.sIx xs.length xs.length hi - HT.sIx xs.length 0 lo), Heap.get?_push_size _ rfl⟩
theorem call_len_seq : CallR X (.builtin "len") (fun xs H Q => ∃ p ys, xs = [.ref p] ∧ (SqL X.K H p ys ∨ SqT X.K H p ys) ∧ Q (.int ys.length) H) := by
  intro pins s σ H xs us Q I r h
  obtain ⟨p, ys, rfl, hq, q⟩ := h
  obtain ⟨u, rfl, rx⟩ := vals1 r
  cases rx
  have hn := line63
  rcases hq with hq | hq
  · obtain ⟨its, r', pl, hz⟩ := I.list hq
    have hlen := r'.length
    exact Calls.call_len_list pl.isList (by simp only [List.size_toArray] <;> omega) ⟨.int ys.length, H, I.tok _, ⟨s.toks + 1, by rw [List.size_toArray, hlen]⟩, q⟩
  · obtain ⟨its, r', pl, hz⟩ := I.tuple hq
    have hlen := r'.length
    exact len_tuple pl (by simp only [List.size_toArray] <;> omega) ⟨.int ys.length, H, I.tok _, ⟨s.toks + 1, by rw [List.size_toArray, hlen]⟩, q⟩
theorem call_list_of : CallR X (.type "list") (fun xs H Q => ∃ p ys, xs = [.ref p] ∧ (SqL X.K H p ys ∨ SqT X.K H p ys) ∧ ∀ l, H l = none → Q (.ref l) (upd H l (.lst ys))) := by
  intro pins s σ H xs us Q I r h
  obtain ⟨p, ys, rfl, hq, q⟩ := h
  obtain ⟨u, rfl, rx⟩ := vals1 r
  cases rx
  have fin : ∀ (its : List Value), Vals ys its → ys.length ≤ sizeLine → ∀ (h' : Heap) (c' : Nat), (∀ b o', s.heap.get? b = some o' → h'.get? b = some o') →
      h'.get? s.heap.objs.size = some { cls := .type "list", dict := none, data := .seq its.toArray c', slots := #[] } → EP X pins σ Q (.ref s.heap.objs.size) { s with heap := h' } := fun its r' hz h' c' kp e =>
    ⟨.ref s.heap.objs.size, _, I.laid (t' := s.toks) kp (Nat.le_refl _) (show ObjOk X.prog X.w _ h' _ (.lst ys) from ⟨hz, its, c', r', e⟩), rfl, q _ (I.hok.fresh (Nat.le_refl _))⟩
  rcases hq with hq | hq
  · obtain ⟨its, r', pl, hz⟩ := I.list hq
    have hlen := r'.length
    obtain ⟨o, ho, hc, n, hd⟩ := pl.isList
    exact call_list_seq p (.inl rfl) ho hc hd (fun h' c' kp e => fin its r' hz h' c' kp e) (by simp only [List.size_toArray] <;> omega)
  · obtain ⟨its, r', pl, hz⟩ := I.tuple hq
    have hlen := r'.length
    obtain ⟨o, ho, hc, n, hd⟩ := pl
    exact call_list_seq p (.inr rfl) ho hc hd (fun h' c' kp e => fin its r' hz h' c' kp e) (by simp only [List.size_toArray] <;> omega)
theorem call_tuple_of : CallR X (.type "tuple") (fun xs H Q => ∃ p ys, xs = [.ref p] ∧ ((SqL X.K H p ys ∧ ∀ l, H l = none → Q (.ref l) (upd H l (.tup ys))) ∨ (SqT X.K H p ys ∧ Q (.ref p) H))) := by
  intro pins s σ H xs us Q I r h
  obtain ⟨p, ys, rfl, h⟩ := h
  obtain ⟨u, rfl, rx⟩ := vals1 r
  cases rx
  rcases h with ⟨hq, q⟩ | ⟨hq, q⟩
  · obtain ⟨its, r', pl, hz⟩ := I.list hq
    have hlen := r'.length
    refine call_tuple_list pl.isList (fun h' kp => ?_) (by simp only [List.size_toArray] <;> omega)
    have I1 : Inv X pins σ H { s with heap := h' } := I.kept (t' := s.toks) kp
    have I2 : Inv X pins σ (upd H h'.objs.size (.tup ys)) { s with heap := h'.push { cls := .type "tuple", data := .seq its.toArray } } :=
      I1.laid (t' := s.toks) (fun b o e => Heap.get?_push_of_some _ e) (Nat.le_refl _) (show ObjOk X.prog X.w _ _ _ (.tup ys) from ⟨hz, its, r', IsTup.new _ _⟩)
    exact ⟨.ref h'.objs.size, _, I2, rfl, q _ (I1.hok.fresh (Nat.le_refl _))⟩
  · obtain ⟨its, r', pl, hz⟩ := I.tuple hq
    exact call_tuple_same pl ⟨.ref p, H, I, rfl, q⟩
def tyV (K : PySem.W.Frag) (T : String) (x : V) (H : Hp) : Prop := match x with
  | .str _ => T = "str"
  | .int _ => T = "int"
  | .ref p => (T = "list" ∧ ∃ xs, SqL K H p xs) ∨ (T = "tuple" ∧ ∃ o, K.lookup p = some o ∧ o.cls = .type "tuple" ∧ o.dict = none) ∨
      (T = "dict" ∧ ((∃ kvs, H p = some (.dK kvs)) ∨ ∃ kvs, H p = some (.dT kvs))) ∨ (T = "set" ∧ ∃ S n, H p = some (.set S n))
  | _ => False
theorem tyV_is {pins : List (Addr × Obj)} {σ : St} {H : Hp} {s : Shared} {T : String} {x : V} {v : Value} (I : Inv X pins σ H s) (r : RelV x v) (ty : tyV X.K T x H) :
    s.TypeIs v T ∧ ∀ a, v = .ref a → ∃ ob, s.heap.get? a = some ob ∧ ob.dict = none := by
  cases x with
  | str z =>
    obtain ⟨t, rfl⟩ := r
    cases (show T = "str" from ty)
    exact ⟨typeIs_str s z t, fun _ e => nomatch e⟩
  | int i =>
    obtain ⟨t, rfl⟩ := r
    cases (show T = "int" from ty)
    exact ⟨typeIs_int s i t, fun _ e => nomatch e⟩
  | ref p =>
    cases r
    rcases ty with ⟨rfl, xs, hq⟩ | ⟨rfl, o, hk, hc, hd⟩ | ⟨rfl, hk⟩ | ⟨rfl, S, n, hk⟩
    · obtain ⟨its, _, pl, _⟩ := I.list hq
      refine ⟨pl.isList.typeIs, fun a e => ?_⟩
      cases e
      obtain ⟨o, n, e, c, hd, _⟩ := pl
      exact ⟨o, e, hd⟩
    · refine ⟨⟨o, I.kIn p o hk, hc⟩, fun a e => ?_⟩
      cases e
      exact ⟨o, I.kIn _ o hk, hd⟩
    · have z : ∃ o, s.heap.get? p = some o ∧ o.ExactDict := by
        rcases hk with ⟨kvs, hk⟩ | ⟨kvs, hk⟩
        · obtain ⟨_, _, _, _, o, _, _, e, ex, _⟩ := I.hok p _ hk
          exact ⟨o, e, ex⟩
        · obtain ⟨_, _, _, _, o, _, _, e, ex, _⟩ := I.hok p _ hk
          exact ⟨o, e, ex⟩
      obtain ⟨o, e, ex⟩ := z
      refine ⟨⟨o, e, ex.1⟩, fun a e2 => ?_⟩
      cases e2
      exact ⟨o, e, ex.2.1⟩
    · obtain ⟨o, _, _, _, e, ex, _⟩ := I.hok p _ hk
      refine ⟨⟨o, e, ex.1⟩, fun a e2 => ?_⟩
      cases e2
      exact ⟨o, e, ex.2.1⟩
  | _ => exact False.elim ty
def tBM (K : PySem.W.Frag) (T : String) (r : V → List V → Hp → VK → Prop) (to : TE) (t : TA) : TE := fun σ H Q => to σ H fun x H1 => tyV K T x H1 ∧ t σ H1 fun xs H2 => r x xs H2 Q
variable {o e : Expr} {es : List Expr} {to : TE} {t : TA} {name : Str} {apos cpos : Pos} {T id : String} {r : V → List V → Hp → VK → Prop}
theorem pe_bm (pa : PlainAttrs T) (slot : Slot T name id) (hty : typeOf (.builtin id) = pure (.type "method_descriptor")) (hm : MtR X id r) (ho : PE X o to) (ha : PA X (e :: es) t)
    (hbase : attributeBase o name X.env (eval o X.env) = eval o X.env := by rfl)
    (hfew : ((backTo cpos (starEach (e :: es) X.env)).all (fun x => !x.1) && (backToKw cpos (keywordEach [] X.env)).all (fun x => x.1.isSome)
      && decide ((e :: es).length + ([] : List Keyword).length + (if ([] : List Keyword).isEmpty then 0 else 1) < 30)) = true := by rfl)
    (hline : (apos.endLine == cpos.line) = true := by rfl) (hs : starEach (e :: es) X.env = (false, eval e X.env) :: starEach es X.env := by rfl) (hplain : (backTo cpos (starEach es X.env)).any (·.1) = false := by rfl) :
    PE X (.Call (.Attribute o name apos) (e :: es) [] cpos) (tBM X.K T r to t) := by
  intro pins s σ H Q I h
  refine wpAny_Call_method_late hbase hfew hline rfl (thn (ho pins s σ H _ I h) fun v s1 ⟨x, H1, I1, r1, ty, q1⟩ => ?_)
  obtain ⟨h1, h2⟩ := tyV_is I1 r1 ty
  refine ⟨T, id, pa, slot, hty, h1, h2, ?_⟩
  have hA := ha cpos pins s1 σ H1 _ I1 q1
  rw [hs] at hA ⊢
  refine Calls.callWith_builtin (by show (false || (backTo cpos (starEach es X.env)).any (·.1)) = false; rw [hplain] <;> rfl) (Calls.evalArgs_plain ?_)
  exact thn hA fun us s2 ⟨vs, H2, I2, r2, q2⟩ => hm pins s2 σ H2 x vs v us Q I2 r1 r2 q2
/- xs.append(e), list.index on a module's tuple .. are MtR facts of 06m -/
end
end L2
namespace L2
open PySem PySem.Spec PyProof.Rows
def MtM (X : Cx) (id : String) (r : V → List V → Hp → VK → Prop) : Prop :=
  ∀ (pins : List (Addr × Obj)) (s : Shared) (σ : St) (H : Hp) (x : V) (xs : List V) (v : Value) (us : List Value) (Q : VK), Inv X pins σ H s → RelV x v → Vals xs us → r x xs H Q →
    wpAny (model X.prog X.w) X.A (call (.builtin id) (v :: us)) (EP X pins σ Q) X.xe s
theorem Vals.one : ∀ {x : V} {us : List Value}, Vals [x] us → ∃ u, us = [u] ∧ RelV x u
  | _, _, .cons r .nil => ⟨_, rfl, r⟩
theorem Vals.two : ∀ {x y : V} {us : List Value}, Vals [x, y] us → ∃ u v, us = [u, v] ∧ RelV x u ∧ RelV y v
  | _, _, _, .cons r (.cons q .nil) => ⟨_, _, rfl, r, q⟩
theorem Vals.eraseIdx : ∀ {xs : List V} {us : List Value} (i : Nat), Vals xs us → Vals (xs.eraseIdx i) (us.eraseIdx i)
  | _, _, _, .nil => .nil
  | _, _, 0, .cons _ t => t
  | _, _, i + 1, .cons r t => .cons r (Vals.eraseIdx i t)
theorem Vals.rep {xs : List V} {us : List Value} (h : Vals xs us) : ∀ k : Nat, Vals (List.replicate k xs).flatten (List.replicate k us).flatten
  | 0 => .nil
  | k + 1 => by
    rw [List.replicate_succ, List.replicate_succ, List.flatten_cons, List.flatten_cons]
    exact Vals.append h (Vals.rep h k)
theorem len_erase {α : Type} : ∀ (l : List α) (i : Nat), (l.eraseIdx i).length ≤ l.length
  | [], _ => Nat.le_refl _
  | _ :: _, 0 => Nat.le_succ _
  | _ :: r, i + 1 => Nat.succ_le_succ (len_erase r i)
theorem foldl_rep (its : List Value) : ∀ (k : Nat) (acc : List Value),
    List.foldl (fun x1 x2 => x1 ++ x2) acc.toArray (List.replicate k its.toArray) = (acc ++ (List.replicate k its).flatten).toArray
  | 0, acc => by simp
  | k + 1, acc => by
    have e : acc.toArray ++ its.toArray = (acc ++ its).toArray := by simp
    have e2 : (acc ++ its) ++ (List.replicate k its).flatten = acc ++ (List.replicate (k + 1) its).flatten := by
      rw [List.replicate_succ, List.flatten_cons, List.append_assoc]
    rw [← e2, ← foldl_rep its k (acc ++ its), ← e, List.replicate_succ, List.foldl_cons]
section
variable {X : Cx} {pins : List (Addr × Obj)} {σ : St} {H : Hp} {s : Shared} {l b : Addr} {xs ys zs : List V}
theorem Inv.lset {its its' : List Value} {n : Nat} {f : Array Value → Array Value} {t' : Nat} (I : Inv X pins σ H s) (hH : H l = some (.lst xs))
    (e : s.heap.get? l = some { cls := .type "list", data := .seq its.toArray n }) (hf : f its.toArray = its'.toArray) (hv : Vals ys its') (hz : ys.length ≤ sizeLine) :
    Inv X pins σ (upd H l (.lst ys)) { s with heap := s.heap.update l (Obj.mapSeq f), toks := t' } := by
  have q := PySem.IsL.update e f
  rw [hf] at q
  refine I.write (x := l) (e := l) (by rw [hH]; exact trivial) (.inl rfl) (fun b' u hb hu => (Heap.get?_update_other s.heap (Obj.mapSeq f) (Ne.symm hb)).trans hu) ⟨_, q⟩ ?_
  exact ⟨hz, its', _, hv, q⟩
theorem Inv.lnew {its : List Value} {t' : Nat} (I : Inv X pins σ H s) (hv : Vals ys its) (hz : ys.length ≤ sizeLine) :
    Inv X pins σ (upd H s.heap.objs.size (.lst ys)) { s with heap := s.heap.push { cls := .type "list", data := .seq its.toArray }, toks := t' } :=
  I.laid (fun _ _ q => Heap.get?_push_of_some _ q) (Nat.le_refl _) ⟨hz, its, 0, hv, Heap.get?_push_size _ rfl⟩
theorem Inv.fresh (I : Inv X pins σ H s) : H s.heap.objs.size = none := I.hok.fresh (Nat.le_refl _)
theorem Inv.lstM (I : Inv X pins σ H s) (hH : H l = some (.lst xs)) : xs.length ≤ sizeLine ∧ ∃ (its : List Value) (n : Nat), Vals xs its ∧ xs.length = its.length ∧ s.heap.get? l = some { cls := .type "list", data := .seq its.toArray n } := by
  obtain ⟨z, its, n, r, e⟩ := I.hok l _ hH
  exact ⟨z, its, n, r, r.length, e⟩
theorem notLongL {n : Nat} (h : n ≤ sizeLine) : Builtin.List.listTooLong n = false := by
  unfold Builtin.List.listTooLong
  exact decide_eq_false (by omega)
end
section
variable {X : Cx}
def rAppend : V → List V → Hp → VK → Prop := fun x vs H Q => ∃ l xs y, x = .ref l ∧ vs = [y] ∧ H l = some (.lst xs) ∧ xs.length < sizeLine ∧ Q .non (upd H l (.lst (xs ++ [y])))
theorem mt_append : MtM X "list.append" rAppend := by
  intro pins s σ H x vs v us Q I rx rv h
  obtain ⟨l, xs, y, rfl, rfl, hH, hz, q⟩ := h
  cases rx
  obtain ⟨u, rfl, ru⟩ := rv.one
  obtain ⟨z, its, n, r, hl, e⟩ := I.lstM hH
  refine call_meets F.slot_list_append ⟨_, e, rfl⟩ F.entry_list_append (F.args_list_append_2 _ _) (PySem.list_append l its.toArray n u (by rw [List.size_toArray]; omega)) ⟨e, ?_⟩
  refine ⟨.non, _, I.lset (its' := its ++ [u]) hH e (by simp) (r.append (.cons ru .nil)) ?_, rfl, q⟩
  rw [List.length_append, List.length_singleton]
  omega
def rPopAt : V → List V → Hp → VK → Prop := fun x vs H Q => ∃ l xs i k y, x = .ref l ∧ vs = [.int i] ∧ H l = some (.lst xs) ∧ -(2 ^ 63) ≤ i ∧ i < 2 ^ 63 ∧ seqIndex? i xs.length = some k ∧ xs[k]? = some y ∧ Q y (upd H l (.lst (xs.eraseIdx k)))
theorem mt_popAt : MtM X "list.pop" rPopAt := by
  intro pins s σ H x vs v us Q I rx rv h
  obtain ⟨l, xs, i, k, y, rfl, rfl, hH, h1, h2, hk, hy, q⟩ := h
  cases rx
  obtain ⟨u, rfl, ru⟩ := rv.one
  obtain ⟨t, rfl⟩ := ru
  obtain ⟨z, its, n, r, hl, e⟩ := I.lstM hH
  obtain ⟨w, hw, rw'⟩ := r.get hy
  refine call_meets F.slot_list_pop ⟨_, e, rfl⟩ F.entry_list_pop (F.args_list_pop_2 _ _)
    (MeetsSeq.list_pop_at l its.toArray n i t k w (fitsIndex_both h1 h2) (by rw [List.size_toArray, ← hl]; exact hk) (by rw [← Array.getElem?_toList]; exact hw) (by rw [List.size_toArray]; omega)) ⟨e, ?_⟩
  refine ⟨y, _, I.lset (its' := its.eraseIdx k) hH e ?_ (r.eraseIdx k) ?_, rw', q⟩
  · show its.toArray.eraseIdxIfInBounds k = (its.eraseIdx k).toArray
    rw [List.eraseIdxIfInBounds_toArray]
  · have := len_erase xs k
    omega
def rRep : R2 := fun x y H Q => ∃ l k xs, x = .ref l ∧ y = .int k ∧ H l = some (.lst xs) ∧ -(2 ^ 63) ≤ k ∧ k < 2 ^ 63 ∧ xs.length * k.toNat ≤ sizeLine ∧
  ∀ p, H p = none → Q (.ref p) (upd H p (.lst (List.replicate k.toNat xs).flatten))
theorem len_rep {α : Type} (xs : List α) (k : Nat) : (List.replicate k xs).flatten.length = k * xs.length := by
  induction k with
  | zero => simp
  | succ k ih => rw [List.replicate_succ, List.flatten_cons, List.length_append, ih, Nat.succ_mul, Nat.add_comm]
theorem op_rep : OpR X (binaryOp .Mult) rRep := by
  intro pins s σ H x y v u Q I rx ry h
  obtain ⟨l, k, xs, rfl, rfl, hH, h1, h2, hz, q⟩ := h
  cases rx
  obtain ⟨t, rfl⟩ := ry
  obtain ⟨z, its, n, r, hl, e⟩ := I.lstM hH
  have hlen : its.toArray.size * k.toNat ≤ sizeLine := by rw [List.size_toArray, ← hl]; exact hz
  have hcap : ¬ its.toArray.size * k.toNat > (2 ^ 63 - 1) / 8 := by
    have : (sizeLine : Nat) ≤ (2 ^ 63 - 1) / 8 := by decide
    omega
  have hfit : ¬ (!Builtin.List.listFitsIndex k) = true := by
    rw [fitsIndex_both h1 h2]
    exact Bool.false_ne_true
  have hlong : ¬ Builtin.List.listTooLong (its.toArray.size * k.toNat) = true := by
    rw [notLongL hlen]
    exact Bool.false_ne_true
  have hnew : List.foldl (fun x1 x2 => x1 ++ x2) #[] (List.replicate (if its.toArray.isEmpty = true then 0 else k.toNat) its.toArray) = (List.replicate k.toNat its).flatten.toArray := by
    have f0 : ∀ m : Nat, List.foldl (fun x1 x2 => x1 ++ x2) #[] (List.replicate m its.toArray) = (List.replicate m its).flatten.toArray := fun m => by
      have := foldl_rep its m []
      rw [List.nil_append] at this
      exact this
    rw [f0]
    cases its with
    | nil => simp
    | cons a r' => rw [if_neg (by simp)]
  refine wpAny_binaryOp_repeat_ref (T := "list") (U := "int") (by decide) ⟨_, e, rfl⟩ (fun s' => typeIs_int s' k t) noFill_list_mul F.fills_int_mul F.slot_int_rmul repeat_list F.slot_int_index.lookup
    (call_meets F.slot_int_rmul (typeIs_int s k t) F.entry_int_rmul (F.args_int_rmul_2 _ _) (int___rmul___int_list k t l its.toArray n)
      ⟨e, rfl, ⟨_, e, rfl⟩, call_meets F.slot_list_mul ⟨_, e, rfl⟩ F.entry_list_mul (F.args_list_mul_2 _ _) (AutoListH.list___mul___list_int_3 l its.toArray n k t hfit hcap hlong) ⟨e, ?_⟩⟩)
  rw [hnew]
  exact ⟨.ref _, _, I.lnew (t' := s.toks) (r.rep k.toNat) (by rw [len_rep, Nat.mul_comm]; exact hz), rfl, q _ I.fresh⟩
end
end L2
namespace Att
open PySem PySem.W PySem.Calls PyProof.Rows
theorem ints_of_wellAll {P : Params} {h : Heap} : ∀ (ns : List Int) (vs : List Value), WellAll P h vs (ns.map WData.int) → IntsAre vs ns := by
  intro ns
  induction ns with
  | nil =>
    intro vs w
    rw [List.map_nil] at w
    cases w
    exact .nil
  | cons n ns ih =>
    intro vs w
    rw [List.map_cons] at w
    cases w with
    | cons a b =>
      cases a
      exact .cons _ _ (ih _ b)
theorem script_of {l : OpenLaw} {n : Nat} (hn : l.most = some n) {P : Params} {h : Heap} {args : List WData} {vals : List Value}
    (hpre : l.row.toRowW.claim.pre args = true) (hwl : WellAll P h vals args) :
    ∃ a vs ns, vals = [Value.ref a] ∧ args = [WData.list (ns.map WData.int)] ∧ h.get? a = some { cls := .type "list", data := .seq vs.toArray } ∧ IntsAre vs ns ∧ ns.length ≤ n := by
  have hsh : WShape.hasAll [] args [.list .int] = true := (pre_splitW hpre).1
  have hc : l.pre.holds [] { args := args } = true := (pre_splitW hpre).2
  obtain ⟨d, r, rfl, h1, h2⟩ := hasAllW_cons hsh
  obtain rfl := hasAllW_nil h2
  obtain ⟨xs, rfl, h3⟩ := hasW_list h1
  obtain ⟨ns, rfl⟩ := items_int h3
  have hlen : ns.length ≤ n := by
    unfold OpenLaw.pre at hc
    have h4 : (WTm.not (.lt (.lit (.int (n : Int))) (.len (.arg 0)))).holds [] { args := [.list (ns.map .int)] } = true := by
      have h4 := (holds_andW hc).1
      rw [hn] at h4
      exact h4
    have h5 := condW_of h4 (w_not (w_lt w_lit (w_len_list (w_arg rfl))))
    rw [List.length_map] at h5
    refine Nat.le_of_not_lt fun q => ?_
    have q' : (n : Int) < ((ns.length : Nat) : Int) := by omega
    first
      | (rw [decide_eq_true q'] at h5; exact absurd h5 (by decide))
      | (simp at h5; omega)
  cases hwl with
  | cons w1 w2 =>
    cases w2
    cases w1 with
    | list ho hall => exact ⟨_, _, ns, rfl, rfl, ho, ints_of_wellAll ns _ hall, hlen⟩
theorem post_true (l : OpenLaw) (args : List WData) : l.row.toRowW.claim.post args (.bool true) args = true :=
  postW_of (r := l.row.toRowW) (X := (true == true))
    (show WShape.has [] (.bool true) .bool = true by first | rfl | decide | simp [WShape.has, WShape.arms, WShape.armsAll])
    (show (WTm.eq .res (.lit (.bool true))).value [] { args := args, res := some (.bool true), after := args } = some (.bool (true == true)) from w_eq_bool (w_res rfl) w_lit) rfl
theorem attach_call {l : OpenLaw} {n : Nat} {q : Program} {loose : List Str} {XP : (Str → Option Value) → Heap → Prop} {YP : World → Heap → Prop} {d : DefRec}
    (hn : l.most = some n) (hdf : d.params.defaults = [])
    (call : ∀ (w : World) (s₀ s₁ : Shared) (mg mb : Str → Option Value) (fa : Addr) (o : Obj) (pm cd doc : Value) (a : Addr) (vs : List Value) (ns : List Int),
      Ground q loose [] XP w s₀ mg mb s₁.heap → YP w s₁.heap →
      s₁.heap.get? fa = some o → o.data = .func (docDef d.name d.params d.body d.scope pm cd doc) → s₁.heap.CodeRec cd d.name → mg d.name = some (.ref fa) →
      s₁.heap.get? a = some { cls := .type "list", data := .seq vs.toArray } → IntsAre vs ns → ns.length ≤ n → s₁.gens = #[] →
      codeAny (model l.prog w) callerA (.call (.ref fa) ⟨[.ref a], []⟩) (fun r s' => r = .ok (.ret (.bool true)) ∧ OldK s₁.heap s'.heap ∧ s'.os = s₁.os ∧ AllBare s'.gens) s₁) :
    WalkO q loose XP YP l.row.toRowW d [] (fun f vs => PySem.call f vs) := by
  intro w s₀ s₁ mg mb G Y fa o pm cd doc dV kV ho hd hcd hD hmg hg args vals as hpre hlay hrd hwl hlo
  obtain rfl : dV = .none := Dflts.none hD hdf
  obtain rfl : kV = .none := Dflts.noKw hD
  obtain ⟨a, vs, ns, rfl, rfl, hobj, hints, hlen⟩ := script_of hn hpre hwl
  refine enter_call (codeAny_mono (call w s₀ s₁ mg mb fa o pm cd doc a vs ns G Y ho (fd_plain hd) hcd hmg hobj hints hlen hg) fun r s' hq => ?_)
  obtain ⟨rfl, h2, h3, h4⟩ := hq
  exact ⟨.inl ⟨.bool true, .bool true, [], rfl, fun _ => rfl, .bool true, post_true l _, fun _ => ⟨List.Pairwise.nil, fun _ hm => (nomatch hm)⟩⟩, h2, h3, h4⟩
end Att
namespace L2
open PySem PySem.Spec PyProof.Rows
theorem vals_ints : ∀ {vs : List Value} {ns : List Int}, IntsAre vs ns → Vals (ns.map V.int) vs
  | _, _, .nil => .nil
  | _, _, .cons n t h => .cons ⟨t, rfl⟩ (vals_ints h)
def Only (H : Hp) : Prop := ∀ b, H b = none ∨ ∃ o xs, H b = some (.frz o (.lst xs))
theorem law_call {P : Program} {w : World} {K : PySem.W.Frag} {mg mb : Str → Option Value} {CX : CXT} {k : Nat} {fa a : Addr} {fd : FuncData} {x : Str} {sp : Sp} {s₁ : Shared} {vs : List Value} {ns : List Int}
    (KX : K.In s₁.heap) (hns : s₁.heap.Ns mainGlobals mg) (hb : s₁.heap.Ns builtinsNs mb) (hbb : ∀ x : Str, x ≠ "__name__" → mb x = bootBuiltins x) (hlim : s₁.heap.NoLimit) (hg : s₁.gens = #[])
    (ha : s₁.heap.get? a = some { cls := .type "list", data := .seq vs.toArray }) (hi : IntsAre vs ns) (hl : ns.length ≤ sizeLine) (hr : Room k callerA)
    (F : ∀ base : Heap, K.In base → base.Ns mainGlobals mg → FnOk P w K mg base CX k fa fd [x] sp) (hbind : ∀ (s : Shared) (u : Value), BindsTo s fd ⟨[u], []⟩ [(x, u)])
    (hsp : ∀ H : Hp, Only H → SqL K H a (ns.map V.int) → sp [.ref a] H (fun v _ => v = .bl true) fun _ _ _ => False)
    (hCX : ∀ H e s', CX [] H s₁ (fun _ _ _ => False) e s' → False) :
    codeAny (model P w) callerA (.call (.ref fa) ⟨[.ref a], []⟩) (fun r s' => r = .ok (.ret (.bool true)) ∧ OldK s₁.heap s'.heap ∧ s'.os = s₁.os ∧ AllBare s'.gens) s₁ := by
  have rv := vals_ints hi
  have lenV := hi.length
  have core : ∀ H : Hp, Only H → SqL K H a (ns.map V.int) → HOk P w H s₁.heap → (∀ b, H b ≠ none → b = a) → (H a ≠ none → K.lookup a = none) →
      codeAny (model P w) callerA (.call (.ref fa) ⟨[.ref a], []⟩) (fun r s' => r = .ok (.ret (.bool true)) ∧ OldK s₁.heap s'.heap ∧ s'.os = s₁.os ∧ AllBare s'.gens) s₁ := by
    intro H hO hS hok hA hK
    have base_of : ∀ {b : Addr} {o : Obj}, s₁.heap.get? b = some o → H b = none → (hidT s₁.heap H).get? b = some o := fun e n => hidT_get e n
    have noA : ∀ {b : Addr} {o : Obj} {es : Array DictEntry} {ep : Nat}, s₁.heap.get? b = some o → o.data = .dict es ep → H b = none := fun {b o es ep} e d => by
      cases q : H b with
      | none => rfl
      | some u =>
        have e' : b = a := hA b (by rw [q]; simp)
        subst e'
        rw [ha] at e; cases e
        have d' : Data.seq vs.toArray _ = Data.dict es ep := d
        cases d'
    have nsK : ∀ {b : Addr} {m : Str → Option Value}, s₁.heap.Ns b m → (hidT s₁.heap H).Ns b m := fun {b m} ⟨o, es, ep, e, d, r⟩ => ⟨o, es, ep, base_of e (noA e d), d, r⟩
    have hKb : K.In (hidT s₁.heap H) := fun b o e => base_of (KX b o e) (by
      cases q : H b with
      | none => rfl
      | some u =>
        have e' : b = a := hA b (by rw [q]; simp)
        subst e'
        rw [hK (by rw [q]; simp)] at e; cases e)
    have hM : Mod K mg (hidT s₁.heap H) := ⟨hKb, nsK hns, ⟨mb, nsK hb, hbb⟩, let ⟨mc, h1, h2⟩ := hlim; ⟨mc, nsK h1, h2⟩⟩
    have e0 : Env0 P w K mg (hidT s₁.heap H) callerA [] s₁ H := ⟨rfl, hM, fun b o e => of_hidT e, Nat.le_of_eq (hidT_size _ _), trivial, fun b hb => absurd (show b ∈ ([] : List Addr) from hb) (by simp), hok, .of_eq hg⟩
    refine codeAny_mono ((F _ hKb (nsK hns)).run callerA [] s₁ H ⟨[.ref a], []⟩ [.ref a] [.ref a] _ _ hr e0 (hbind s₁ (.ref a)) (.cons rfl .nil) (hsp H hO hS)) fun r s' h => ?_
    cases r with
    | error e => exact (hCX H e s' h).elim
    | ok fl =>
      cases fl with
      | next => exact False.elim h
      | brk => exact False.elim h
      | cont => exact False.elim h
      | ret u =>
        obtain ⟨v, H', os, bare, un, hok', r', q⟩ := h
        have q' : v = .bl true := q
        subst q'
        obtain rfl : u = Value.bool true := r'
        refine ⟨rfl, OldK.of_keep fun b o e => ?_, os, bare⟩
        cases q : H b with
        | none => exact un.keep b o e q (by intro z; exact absurd (show b ∈ ([] : List Addr) from z) (by simp)) (by simp)
        | some u =>
          rcases hO b with z | ⟨ob, xs, z⟩
          · rw [q] at z; cases z
          · have z2 := un.frzs b ob _ z
            obtain ⟨e1, _⟩ := hok b _ z
            obtain ⟨e2, _⟩ := hok' b _ z2
            rw [e] at e1; cases e1
            exact e2
  cases hk : K.lookup a with
  | some o =>
    have e := KX a o hk
    rw [ha] at e
    cases e
    refine core (fun _ => none) (fun _ => .inl rfl) (.inr ⟨_, vs.toArray, _, hk, rfl, rfl, rfl, by rw [List.size_toArray, lenV]; exact hl, by simpa using rv⟩) (fun b u z => by have z' : (none : Option HO) = some u := z; cases z') (fun b z => absurd rfl z) fun z => absurd rfl z
  | none =>
    refine core (fun b => if b = a then some (.frz { cls := .type "list", data := .seq vs.toArray } (.lst (ns.map V.int))) else none) (fun b => ?_) (.inl (.inr ⟨{ cls := .type "list", data := .seq vs.toArray }, if_pos rfl⟩)) (fun b u z => ?_) (fun b z => ?_) fun _ => hk
    · by_cases hb : b = a
      · exact .inr ⟨_, _, if_pos hb⟩
      · exact .inl (if_neg hb)
    · by_cases hb : b = a
      · have z' := (if_pos hb).symm.trans z
        cases z'
        subst hb
        exact ⟨ha, by rw [List.length_map]; exact hl, vs, _, rv, ha⟩
      · have z' := (if_neg hb).symm.trans z
        cases z'
    · by_cases hb : b = a
      · exact hb
      · exact absurd (if_neg hb) z
end L2
namespace L2
open PySem PySem.Spec PyProof.Rows
theorem walk_of {l : PySem.W.OpenLaw} {n k : Nat} {q : Program} {loose : List Str} {XP : (Str → Option Value) → Heap → Prop} {YP : World → Heap → Prop} {d : DefRec} {K : Params → PySem.W.Frag} {CX : World → CXT} {sp : World → Sp} {x : Str}
    (hn : l.most = some n) (hn2 : n ≤ sizeLine) (hdf : d.params.defaults = []) (hr : Room k callerA)
    (hY : ∀ (w : World) (h : Heap), YP w h → (K w.params).In h)
    (F : ∀ (w : World) (mg : Str → Option Value) (fa : Addr) (h : Heap), (K w.params).In h → h.Ns mainGlobals mg → mg d.name = some (.ref fa) →
      ∃ fd : FuncData, (∀ (s : Shared) (u : Value), BindsTo s fd ⟨[u], []⟩ [(x, u)]) ∧
        ∀ base : Heap, (K w.params).In base → base.Ns mainGlobals mg → FnOk l.prog w (K w.params) mg base (CX w) k fa fd [x] (sp w))
    (hsp : ∀ (w : World) (H : Hp) (a : Addr) (ns : List Int), ns.length ≤ n → Only H → SqL (K w.params) H a (ns.map V.int) → sp w [.ref a] H (fun v _ => v = .bl true) fun _ _ _ => False)
    (hCX : ∀ (w : World) (H : Hp) (s : Shared) (e : Value) (s' : Shared), CX w [] H s (fun _ _ _ => False) e s' → False) :
    PySem.W.WalkO q loose XP YP l.row.toRowW d [] (fun f vs => PySem.call f vs) := by
  refine Att.attach_call hn hdf fun w s₀ s₁ mg mb fa o pm cd doc a vs ns G Y ho hd hcd hmg hobj hints hlen hg => ?_
  have KX := hY w _ Y
  obtain ⟨fd, hb, hF⟩ := F w mg fa _ KX G.T.g hmg
  exact law_call KX G.T.g G.T.b G.T.builtins G.T.nolimit hg hobj hints (Nat.le_trans hlen hn2) hr hF hb (fun H hO hS => hsp w H a ns hlen hO hS) fun H e s' => hCX w H s₁ e s'
end L2
/- THE LAST THEOREM (shape; LID, My.* are yours):
   My.Adr: a structure of the addresses that your layer names (classes, functions); My.Txt K t: a structure (Prop) of the equations over K;
   My.txt_mk : {K} {implicit addresses ..} (e1 : nsIn K mainGlobals "law" = some (some (.ref f))) (e2 : K.lookup f = some ⟨oc, od, .func (fnOf "law" "law" params body scope dV kV doc pm an cdv ct), sl⟩) (e3 : codeIn K cdv "law" = true) .. : ∃ t, My.Txt K t
set_option maxRecDepth 100000 in
set_option maxHeartbeats 0 in
theorem PySem.Challenge.cw_LID_holds : PySem.Challenge.rw_LID.Holds := by
  w_on; o_law; k_head; (case hw => w_witness2)
  k_fill
  refine L2.walk_of (l := PySem.Challenge.rw_LID) (n := 63) (k := 40) (x := "script") (CX := fun w => ..) (sp := fun _ => My.sp_law) rfl (by decide) rfl ⟨rfl, by decide, by decide⟩ (fun w h Y => PySem.W.kIn_of Y) ?F ?S ?C
  case F =>
    intro w mg fa h KX G hmg
    have T : ∃ t, My.Txt (L2.KOf KX) t := by
      dsimp only [L2.KOf]                          -- K must stand as «<heap const> w.params» for k_is
      refine' My.txt_mk ?e1 ?e2 ?e3 ..
      (case e1 => PySem.W.k_is)                    -- in the order: a name -> its address -> its object -> its parts
      (case e2 => PySem.W.k_is)
      ..
    obtain ⟨t, T⟩ := T
    have e0 := hmg.symm.trans (PySem.W.mg_of KX G T.law)
    cases e0                                       -- fa is the law's own address
    exact ⟨_, fun s u => .of_eq rfl, fun base kb nb => My.law_fn T kb nb⟩     -- if «.of_eq rfl» comes too early: refine' ⟨_, ?b, fun base kb nb => My.law_fn T kb nb⟩; exact fun s u => .of_eq rfl
  case S => exact fun w H a ns hl hO hS => ..
  case C => exact ..
(the tactic k_is has no namespace: write k_is) -/
namespace L2
open PySem PySem.Spec PyProof.Rows
def inClass (s : Stmt) (j : Nat) : Stmt := match s with
  | .ClassDef _ _ _ body _ _ _ _ _ _ _ => body.getD j (.Pass ⟨0, 0, 0, 0⟩)
  | _ => .Pass ⟨0, 0, 0, 0⟩
def defArgs (s : Stmt) : Arguments := match s with
  | .FunctionDef _ a _ _ _ _ _ _ _ _ => a
  | _ => { posonlyargs := [], args := [], vararg := none, kwonlyargs := [], kw_defaults := [], kwarg := none, defaults := [] }
def defBody (s : Stmt) : List Stmt := match s with
  | .FunctionDef _ _ b _ _ _ _ _ _ _ => b
  | _ => []
def defScope (s : Stmt) : Scope := match s with
  | .FunctionDef _ _ _ _ _ _ sc _ _ _ => sc
  | _ => { kind := .function, names := [], isGenerator := false, isCoroutine := false }
abbrev CX0 : CXT := fun _ _ _ _ _ _ => False
abbrev E0 : XK := fun _ _ _ => False
theorem pass0 {X : Cx} : Passes CX0 X E0 := fun _ _ _ _ _ _ _ h => h.elim
structure Fun (K : PySem.W.Frag) (x qual : Str) (st : Stmt) (f : Addr) (fd : FuncData) : Prop where
  ex : ∃ (oc : Value) (od : Option Addr) (kV doc pm : Value) (an : Option Addr) (cdv ct : Value) (osl : Array (Option Value)),
    fd = PySem.W.fnOf x qual (defArgs st) (defBody st) (defScope st) .none kV doc pm an cdv ct ∧ K.lookup f = some ⟨oc, od, .func fd, osl⟩ ∧ PySem.W.codeIn K cdv qual = true
  kp : PySem.W.keepIn K (.ref f) = true
section
variable {P : Program} {w : World} {K : PySem.W.Frag} {mg : Str → Option Value} {base : Heap}
theorem Fun.ok {x qual : Str} {st : Stmt} {f : Addr} {fd : FuncData} {N ps : List Str} {k : Nat} {sp : Sp} (F : Fun K x qual st f fd) (S : FnScope N ps (defScope st)) (len : ∀ vs H Q E, sp vs H Q E → vs.length = ps.length)
    (hbody : ∀ (cdv : Value) (A : Around) (outer : List Env) (s : Shared) (H : Hp) (vs : List V) (Q : VK) (E : XK), Room k (A.deeper (envOfC qual (defScope st) s.heap.objs.size f cdv)) → sp vs H Q E →
      ∃ t, PSs (cxOf CX0 P w K mg base N qual (defScope st) f cdv A outer s H E).nox (defBody st) t ∧ t { nx := fun _ H' => Q .non H', rt := Q } (start N vs) H) : FnOk P w K mg base CX0 (k + 1) f fd ps sp := by
  obtain ⟨oc, od, kV, doc, pm, an, cdv, ct, osl, rfl, lk, hcd⟩ := F.ex
  refine fn_of lk hcd S len fun A outer s H vs Q E hr hsp => ?_
  obtain ⟨t, h, q⟩ := hbody cdv A outer s H vs Q E hr hsp
  exact ⟨t, h.nox, q⟩
theorem Fun.binds {x qual : Str} {st : Stmt} {f : Addr} {fd : FuncData} {ps : List Str} (F : Fun K x qual st f fd)
    (h : ∀ (kV doc pm : Value) (an : Option Addr) (cdv ct : Value) (us : List Value), us.length = ps.length → bindArgs (PySem.W.fnOf x qual (defArgs st) (defBody st) (defScope st) .none kV doc pm an cdv ct) ⟨us, []⟩ = pure (ps.zip us)) : Binds K fd ps [] := by
  obtain ⟨oc, od, kV, doc, pm, an, cdv, ct, osl, rfl, lk, hcd⟩ := F.ex
  exact .all (h kV doc pm an cdv ct)
theorem fun_mk {x qual : Str} {st : Stmt} {f : Addr} {oc : Value} {od an : Option Addr} {osl : Array (Option Value)} {kV doc pm cdv ct : Value} (l : K.lookup f = some ⟨oc, od, .func (PySem.W.fnOf x qual (defArgs st) (defBody st) (defScope st) .none kV doc pm an cdv ct), osl⟩)
    (c : PySem.W.codeIn K cdv qual = true) (k : PySem.W.keepIn K (.ref f) = true) : Fun K x qual st f (PySem.W.fnOf x qual (defArgs st) (defBody st) (defScope st) .none kV doc pm an cdv ct) := ⟨⟨oc, od, kV, doc, pm, an, cdv, ct, osl, rfl, l, c⟩, k⟩
end
theorem hu_of {A : Around} {k : Nat} (hr : Room k A) : A.units + 1 < cLine := Nat.lt_of_le_of_lt (Nat.add_le_add_left (by decide : 1 ≤ 64) _) hr.units
theorem iteF {A B : Prop} (h : B) : if false = true then A else B := by
  rw [if_neg Bool.false_ne_true]
  exact h
theorem iteT {A B : Prop} (h : A) : if true = true then A else B := by
  rw [if_pos rfl]
  exact h
theorem ite2 {c A B : Prop} [Decidable c] (h1 : c → A) (h2 : ¬ c → B) : if c then A else B := by
  by_cases h : c
  · rw [if_pos h]
    exact h1 h
  · rw [if_neg h]
    exact h2 h
theorem iteNS {c A B : Prop} [Decidable c] (hc : c) (h : B) : if (!decide c) = true then A else B := by
  rw [decide_eq_true hc]
  exact iteF h
def Same (H H' : Hp) : Prop := ∀ b o, H b = some o → H' b = some o
theorem Same.refl (H : Hp) : Same H H := fun _ _ h => h
theorem Same.trans {H H1 H2 : Hp} (a : Same H H1) (b : Same H1 H2) : Same H H2 := fun c o h => b c o (a c o h)
theorem Same.seq {K : PySem.W.Frag} {H H' : Hp} {a : Addr} {xs : List V} (e : Same H H') (h : SqL K H a xs) : SqL K H' a xs := by
  rcases h with (h | ⟨o, h⟩) | h
  · exact .inl (.inl (e _ _ h))
  · exact .inl (.inr ⟨o, e _ _ h⟩)
  · exact .inr h
end L2
namespace L3
open PySem PySem.Spec PyProof.Rows L2
def blk (X : Cx) (N : List Str) (scope : Scope) (cl : List (Str × Addr)) (C : Addr) (s : Shared) (H : Hp) (fp : List Addr) : Cx :=
  { X with N := N, s₀ := s, H₀ := H, env := compEnvC scope cl C X.env, outer := X.stack, ex := fp, fn := fun _ => false, pn := [], xe := fun _ _ => False }
structure BScope (X : Cx) (scope : Scope) (fr : List Str) (js : List Nat) : Prop where
  kind : scope.kind = .function
  names : ∀ x ∈ scope.names, x.2 = .local → scope.names.lookup x.1 = some .local
  nocell : ∀ x ∈ scope.names, x.2 ≠ .cell
  free : ∀ x ∈ scope.names, x.2 = .free → x.1 ∈ fr
  len : js.length = fr.length
  at_ : ∀ (i j : Nat) (y : Str), js[i]? = some j → fr[i]? = some y → X.N[j]? = some y ∧ X.env.kindOf y = some .cell ∧ (relabel scope X.env).names.lookup y = some .cell
theorem mem_lookup_isSome {α : Type} {y : Str} : ∀ {l : List (Str × α)}, y ∈ l.map (·.1) → ∃ c, l.lookup y = some c
  | [], h => by simp at h
  | (n, a) :: r, h => by
    cases e : y == n with
    | true => exact ⟨a, by simp [List.lookup_cons, e]⟩
    | false =>
      have hr : y ∈ r.map (·.1) := by
        rcases List.mem_cons.mp h with z | z
        · exact absurd z (by simpa using e)
        · exact z
      obtain ⟨c, hc⟩ := mem_lookup_isSome hr
      exact ⟨c, by simp [List.lookup_cons, e, hc]⟩
def σ0 (k : Nat) (js : List Nat) (σ : L2.St) : L2.St := List.replicate k none ++ js.map fun j => (σ[j]?).join
def CompG (k : Nat) (js : List Nat) (g : TG) (te : TE) (σ : L2.St) (Q : VK) (J : It) (H1 : Hp) : Prop := ∃ W : Nat → Nat → List V → L2.St → Hp → Prop, (∃ m, W 0 m [] (σ0 k js σ) H1) ∧ ∀ i m ys τ H, W i m ys τ H →
  (J.stop i H ∧ ∀ p, H p = none → Q (.ref p) (upd H p (.lst ys))) ∨ (J.go i H ∧ ys.length < sizeLine ∧ ∀ x H', J.yld i H x H' → g x τ H' fun τ2 H2 => ∃ N : V → Hp → Prop, (∀ v H3, N v H3 → ∃ m', m' < m ∧ W (i + 1) m' (ys ++ [v]) τ2 H3) ∧ te τ2 H2 N)
def tComp (k : Nat) (js : List Nat) (wi : TI) (g : TG) (te : TE) : TE := fun σ H Q => wi σ H (CompG k js g te σ Q)
section
variable {prog : Program} {w : World} {A : Around} {R : Result → Shared → Prop} {s : Shared}
theorem compLoop_any {elt target iter : Expr} {scope : Scope} {pos : Pos} {it acc : Value} {env : Env} (I : Nat → Shared → Prop)
    (turn : ∀ n s, I n s → wpAny (model prog w) A (pyNext it) (fun r s₁ => match r with
      | none => R (.ok .next) s₁
      | some v => wpAny (model prog w) A (letOwnedTupleGo target it v) (fun _ s₁' => wpAny (model prog w) A (assign target env v) (fun _ s₂ => wpAny (model prog w) A (eval elt env) (fun x s₃ =>
          wpAny (model prog w) A (call (.builtin "list.append") [acc, x]) (fun _ s₄ => ∃ m, m < n ∧ I m s₄) (fun _ _ => False) s₃)
          (fun _ _ => False) s₂) (fun _ _ => False) s₁') (fun _ _ => False) s₁) (fun _ _ => False) s)
    (n : Nat) (h : I n s) :
    codeAny (model prog w) A (.compLoop (.ListComp elt [⟨target, iter, [], 0⟩] scope pos) 0 it acc env) R s := by
  refine codeAny_loop rfl I (fun n s hI => ?_) n h
  show wpAny _ _ ((compTurn (.ListComp elt [⟨target, iter, [], 0⟩] scope pos) 0 it acc env).onRaise (fun x => do noteFrame x env; theTreesLotGoes x)) _ _ s
  refine wpAny_noted ?_
  rw [compTurn_list1]
  refine wpAny_bind (wpAny_standAt (wpAny_bind (wpAny_mono (turn n s hI) (fun r s₁ h₁ => ?_) fun _ _ h' => h'.elim)))
  cases r with
  | none => exact wpAny_pure h₁
  | some v =>
    refine wpAny_bind (wpAny_mono h₁ (fun _ s₁' h₁' => ?_) fun _ _ h' => h'.elim)
    exact wpAny_bind (wpAny_mono h₁' (fun _ s₂ h₂ => wpAny_bind (wpAny_bind (wpAny_mono h₂ (fun x s₃ h₃ => wpAny_bind (wpAny_mono h₃
      (fun _ s₄ h₄ => wpAny_pure (wpAny_pure ⟨rfl, h₄⟩)) fun _ _ h' => h'.elim)) fun _ _ h' => h'.elim))) fun _ _ h' => h'.elim)
end
variable {X : Cx}
structure Away (X : Cx) (pins : List (Addr × Obj)) (H : Hp) (C : Addr) : Prop where
  free : H C = none
  loc : C ≠ X.env.locals
  new : X.s₀.heap.objs.size ≤ C
  cell : ∀ x c, X.env.cells.lookup x = some c → c ≠ C
  pin : ∀ p ∈ X.pn ++ pins, p.1 ≠ C
theorem comp_run {elt tg iter : Expr} {scope : Scope} {cl : List (Str × Addr)} {pos fpos : Pos} {fr own : List Str} {js : List Nat} {wi : TI} {g : TG} {te : TE} {use : Option (Value → Sem Unit)} {Post : Value → Shared → Prop}
    {pins : List (Addr × Obj)} {s : Shared} {σ : L2.St} {H : Hp} {Q : VK}
    (hc : X.calm = true) (hi : PI X tg iter wi) (hclos : closureFor scope X.env = pure cl) (hcl : ∀ y c, cl.lookup y = some c → X.env.cells.lookup y = some c) (hfr : cl.map (·.1) = fr)
    (S : BScope X scope fr js)
    (hg : ∀ C s H fp, PG (blk X (own ++ fr) scope cl C s H fp) tg g) (he : ∀ C s H fp, PE (blk X (own ++ fr) scope cl C s H fp) elt te)
    (hs : ∀ x, foldedSetIterable iter X.env x = pure x)
    (I : L2.Inv X pins σ H s) (h : tComp own.length js wi g te σ H Q)
    (hfin : ∀ (acc C : Addr) (s5 : Shared) (H' : Hp) (m : Str → Option Value), L2.Inv X pins σ H' s5 → s5.heap.Ns C m → Away X pins H' C → Q (.ref acc) H' → compPost (model X.prog X.w) X.A X.xe use Post (.ref acc) C (.ok .next) s5) :
    wpAny (model X.prog X.w) X.A (comprehension (.ListComp elt [⟨tg, iter, [], 0⟩] scope pos) scope X.env fpos (newList []) false (eval iter X.env) use) Post X.xe s := by
  refine wpAny_comprehension_free (use := use) rfl hs hclos S.kind S.names (thn (hi pins s σ H _ I h) fun v s1 h1 => thn h1 fun itv s2 h2 => ?_)
  obtain ⟨it, fp, tn, J, H2, e, I2, T, st2, f2, W, ⟨m0, w0⟩, turn⟩ := h2
  subst e
  refine wpAny_newObj_type (wpAny_newFunctionEnv S.nocell (by intro y hy; simp at hy) (fun h₁ hns₁ hsb₁ => ?_) S.kind)
  dsimp only at hns₁ hsb₁ ⊢
  generalize hH2 : s2.heap.push { cls := .type "list", dict := none, data := .seq ([] : List Value).toArray } = G at hns₁ hsb₁ ⊢
  have hC : G.objs.size = s2.heap.objs.size + 1 := by rw [← hH2, Heap.size_push]
  have hDC : s2.heap.objs.size ≠ G.objs.size := by rw [hC]; exact Nat.ne_of_lt (Nat.lt_succ_self _)
  have below : ∀ b, b < s2.heap.objs.size → b ≠ G.objs.size ∧ b ≠ s2.heap.objs.size := fun b hb => ⟨by rw [hC]; exact Nat.ne_of_lt (Nat.lt_succ_of_lt hb), Nat.ne_of_lt hb⟩
  have old : ∀ b o, s2.heap.get? b = some o → h₁.get? b = some o := fun b o e => hsb₁.extBut b o (below b (Heap.lt_size e)).1 (Heap.get?_push_of_some _ (hH2 ▸ Heap.get?_push_of_some _ e))
  have hacc : h₁.get? s2.heap.objs.size = some { cls := .type "list", data := .seq ([] : List Value).toArray 0 } := hsb₁.extBut _ _ hDC (Heap.get?_push_of_some _ (hH2 ▸ Heap.get?_push_size _ rfl))
  let Y : Cx := blk X (own ++ fr) scope cl G.objs.size s2 H2 fp
  have fplt : ∀ b ∈ fp, b < s2.heap.objs.size := fun b hb => by obtain ⟨o, e, _⟩ := T.obj _ _ st2 b hb; exact Heap.lt_size e
  have okY : Y.Ok := by
    refine ⟨I2.ok.mod, S.kind, I2.ok.glob, I2.ok.blt, by show s2.heap.objs.size ≤ G.objs.size; omega, ?_, ?_, ?_, I2.ok.hd, I2.ok.frames, .inl rfl, ?_, I2.bs, Nat.le_trans I2.ok.bsz I2.sz, ?_, ?_, I2.stack, I2.stkFree⟩
    · exact fun x y c e1 e2 => I2.ok.inj x y c (hcl x c e1) (hcl y c e2)
    · intro x hx
      have hx' : (relabel scope X.env).names.lookup x = some .cell ∨ (relabel scope X.env).names.lookup x = some .free := hx
      have hm : ∃ k, (x, k) ∈ scope.names ∧ k = .free := by
        have aux : ∀ kk : NameKind, (kk = .cell ∨ kk = .free) → (relabel scope X.env).names.lookup x = some kk → ∃ k, (x, k) ∈ scope.names ∧ k = .free := by
          intro kk hk el
          obtain ⟨⟨n, k⟩, hmem, e⟩ := List.mem_map.mp (PySem.mem_of_lookup el)
          dsimp only at e
          split at e
          · rename_i hcond
            cases e
            refine ⟨k, hmem, ?_⟩
            simp only [Bool.and_eq_true, beq_iff_eq] at hcond
            exact hcond.1.1
          · cases e
            rcases hk with z | z
            · subst z; exact absurd rfl (S.nocell _ hmem)
            · exact ⟨_, hmem, z⟩
        rcases hx' with z | z
        · exact aux _ (.inl rfl) z
        · exact aux _ (.inr rfl) z
      obtain ⟨k, hmem, hk⟩ := hm
      exact mem_lookup_isSome (l := cl) (by rw [hfr]; exact S.free _ hmem hk)
    · exact fun x c e _ => nomatch e
    · refine fun b hb => ⟨?_, fun x c e => (f2 b hb).2.2.2.2.1 x c (hcl x c e)⟩
      show b ≠ G.objs.size
      exact (below b (fplt b hb)).1
    · intro b o e hb
      rcases (f2 b hb).2.2.2.1 with z | z
      · exact I2.ok.noex b o e z
      · exact absurd (Nat.lt_of_lt_of_le (Heap.lt_size e) (Nat.le_trans I2.ok.bsz z)) (Nat.lt_irrefl _)
    · intro b hb hf
      rcases List.mem_cons.mp (I2.stkSub b hf) with z | z
      · exact (f2 b hb).2.1 z
      · exact (f2 b hb).2.2.1 z
  have lenσ : (σ0 own.length js σ).length = (own ++ fr).length := by unfold σ0; simp [S.len]
  have IY : Inv Y [] (σ0 own.length js σ) H2 { s2 with heap := h₁, toks := s2.toks + ([] : List (Str × Value)).length } := by
    refine ⟨okY, rfl, I2.bare, Un.kept old, ⟨_, hns₁, ?_⟩, ?_, ?_, ?_, fun p hp => absurd (show p ∈ ([] : List (Addr × Obj)) from hp) (by simp), I2.hok.kept old, lenσ⟩
    · intro i x v hN hv _
      have hN' : (own ++ fr)[i]? = some x := hN
      unfold σ0 at hv
      by_cases hlt : i < own.length
      · rw [List.getElem?_append_left (by simpa using hlt), List.getElem?_replicate] at hv
        split at hv <;> cases hv
      · rw [List.getElem?_append_right (by simpa using Nat.le_of_not_lt hlt), List.length_replicate, List.getElem?_map] at hv
        rw [List.getElem?_append_right (Nat.le_of_not_lt hlt)] at hN'
        cases ej : js[i - own.length]? with
        | none => rw [ej] at hv; cases hv
        | some j =>
          rw [ej] at hv
          have hσ : σ[j]? = some (some v) := by
            have hv' : (σ[j]?).join = some v := Option.some.inj hv
            cases q : σ[j]? with
            | none => rw [q] at hv'; cases hv'
            | some o => rw [q] at hv'; have : o = some v := hv'; rw [this]
          obtain ⟨hNj, hk, hkr⟩ := S.at_ _ j x ej hN'
          obtain ⟨m, hn, hl⟩ := I2.loc
          obtain ⟨u, ru, lk⟩ := hl j x v hNj hσ (.inr (.inl hk))
          refine ⟨u, ru, .inr ?_⟩
          rcases lk with ⟨k1, _⟩ | ⟨_, c, ec, ic⟩
          · rw [hk] at k1; cases k1
          · obtain ⟨c', hc'⟩ := mem_lookup_isSome (y := x) (l := cl) (by rw [hfr]; exact List.mem_of_getElem? hN')
            have : c' = c := by have := hcl x c' hc'; rw [ec] at this; exact (Option.some.inj this).symm
            subst this
            refine ⟨?_, c', hc', ?_⟩
            · show (relabel scope X.env).names.lookup x = some .cell ∨ (relabel scope X.env).names.lookup x = some .free
              exact .inl hkr
            · obtain ⟨oc, hoc, hd⟩ := ic
              exact ⟨oc, old _ _ hoc, hd⟩
    · intro x c e
      obtain ⟨v, oc, hoc, hd⟩ := I2.cell x c (hcl x c e)
      exact ⟨v, oc, old _ _ hoc, hd⟩
    · exact I2.hok.fresh (by show s2.heap.objs.size ≤ G.objs.size; omega)
    · exact fun x c e => I2.freeC x c (hcl x c e)
  have accfs : s2.heap.objs.size ∉ frs X.stack := fun hf => by
    rcases List.mem_cons.mp (I2.stkSub _ hf) with z | z
    · exact absurd (by rw [← z] ; exact Nat.le_refl _ : s2.heap.objs.size ≤ X.env.locals) (Nat.not_le.mpr I2.lt)
    · exact I2.nofs (Nat.le_refl _) z
  have acccell : ∀ x c, cl.lookup x = some c → c ≠ s2.heap.objs.size := fun x c e z => by
    obtain ⟨v, oc, hoc, _⟩ := I2.cell x c (hcl x c e)
    exact absurd (Heap.lt_size hoc) (by rw [z]; exact Nat.lt_irrefl _)
  have fpY : ∀ {H' : Hp} {pl : List (Addr × Obj)}, (∀ b ∈ fp, H' b = none) → (∀ p ∈ pl, p.1 = s2.heap.objs.size) → ∀ b ∈ fp, FpOk Y pl H' b := fun {H' pl} hn hp b hb =>
    ⟨hn b hb, (below b (fplt b hb)).1, okY.exfs b hb, .inl hb, fun x c e => (f2 b hb).2.2.2.2.1 x c (hcl x c e), fun p hpp => by
      have hpp' : p ∈ pl := by simpa [Y, blk] using hpp
      rw [hp p hpp']; exact Ne.symm (below b (fplt b hb)).2⟩
  have loop : ∀ s₃ : Shared, Inv Y [] (σ0 own.length js σ) H2 s₃ → tn 0 s₃.heap → s₃.heap.get? s2.heap.objs.size = some { cls := .type "list", data := .seq ([] : List Value).toArray 0 } →
      codeAny (model X.prog X.w) X.A (.compLoop (.ListComp elt [⟨tg, iter, [], 0⟩] scope pos) 0 (.ref it) (.ref s2.heap.objs.size) (compEnvC scope cl G.objs.size X.env))
        (compPost (model X.prog X.w) X.A X.xe use Post (.ref s2.heap.objs.size) G.objs.size) s₃ := by
    intro s₃ I3 st3 ha3
    refine compLoop_any (fun n s' => ∃ i ys τ H' its k, Inv Y [(s2.heap.objs.size, { cls := .type "list", data := .seq its.toArray k })] τ H' s' ∧ tn i s'.heap ∧ (∀ b ∈ fp, H' b = none) ∧ Vals ys its ∧ ys.length ≤ sizeLine ∧ W i n ys τ H') ?_ m0 ?_
    · rintro n s4 ⟨i, ys, τ, H4, its, k, I4, st4, fr4, vl, hz, w4⟩
      have pin4 := I4.pin (s2.heap.objs.size, { cls := .type "list", data := .seq its.toArray k }) (by simp [Y, blk])
      rcases turn i n ys τ H4 w4 with ⟨stop, qn⟩ | ⟨go, hlt, step⟩
      · refine thn (T.done Y rfl rfl rfl hc i _ s4 τ H4 _ I4 (fpY fr4 (by simp)) st4 stop) fun r s5 ⟨hr, I5⟩ => ?_
        subst hr
        show compPost _ _ _ _ _ _ _ _ _
        obtain ⟨m5, hn5, _⟩ := I5.loc
        have pin5 := I5.pin (s2.heap.objs.size, { cls := .type "list", data := .seq its.toArray k }) (by simp [Y, blk])
        have nacc : H4 s2.heap.objs.size = none := pin5.2.1
        have B := I5.base
        have nC : H4 G.objs.size = none := I5.free
        refine hfin s2.heap.objs.size G.objs.size s5 (upd H4 s2.heap.objs.size (.lst ys)) m5 ?_ hn5 ?_ (qn _ nacc)
        · refine I2.call' (s' := s5) (ch := fp) I5.os ⟨B.keep, B.slot, fun b o e n hx => ?_, B.there, fun b xs e => ?_, fun b o u e => ?_, fun b ps e => ?_⟩ ?_ I5.bare ?_
          · rw [upd_ne (below b (Heap.lt_size e)).2]; exact B.free b o e n hx
          · have e1 := B.tups b xs e
            rw [upd_ne (ne_of_none e1 nacc)]; exact e1
          · have e1 := B.frzs b o u e
            rw [upd_ne (ne_of_none e1 nacc)]; exact e1
          · obtain ⟨more, e1⟩ := B.tbls b ps e
            exact ⟨more, by rw [upd_ne (ne_of_none e1 nacc)]; exact e1⟩
          · intro b u e
            by_cases hb : b = s2.heap.objs.size
            · subst hb
              rw [upd_same] at e; cases e
              exact ⟨hz, its, k, vl, pin5.1⟩
            · rw [upd_ne hb] at e
              exact (I5.hok b u e).stay (fun c v _ q => q) (fun c q => by rw [upd_ne (ne_of_none q nacc)]; exact q) fun c xs q => by rw [upd_ne (ne_of_none q nacc)]; exact q
          · exact fun b hb => ⟨(f2 b hb).2.2.2.1, (f2 b hb).2.1, (f2 b hb).2.2.2.2.1, (f2 b hb).2.2.2.2.2⟩
        · have hge : s2.heap.objs.size ≤ G.objs.size := by omega
          refine ⟨by rw [upd_ne (Ne.symm hDC)]; exact nC, ?_, Nat.le_trans I2.sz hge, fun x c e z => ?_, fun p hp z => ?_⟩
          · exact Nat.ne_of_gt (Nat.lt_of_lt_of_le I2.lt hge)
          · obtain ⟨v, oc, hoc, _⟩ := I2.cell x c e
            exact absurd (Nat.lt_of_lt_of_le (Heap.lt_size hoc) hge) (by rw [z]; exact Nat.lt_irrefl _)
          · exact absurd (Nat.lt_of_lt_of_le (Heap.lt_size (I2.pin p hp).1) hge) (by rw [z]; exact Nat.lt_irrefl _)
      · refine thn (T.item Y rfl rfl rfl hc i _ s4 τ H4 _ I4 (fpY fr4 (by simp)) st4 go) fun r s5 ⟨u, hr, h5⟩ => ?_
        subst hr
        refine thn h5 fun _ s6 ⟨x, H6, I6, r6, y6, st6, fr6⟩ => ?_
        have I6' := I6.pinned (fpY fr6 (by simp)) (T.obj _ _ st6)
        refine thn (hg _ _ _ _ _ s6 τ H6 x u _ I6' r6 (step x H6 y6)) fun _ s7 ⟨τ7, H7, I7, N, hN, q7⟩ => ?_
        refine thn (he _ _ _ _ _ s7 τ7 H7 _ I7 q7) fun v' s8 ⟨y, H8, I8, r8, n8⟩ => ?_
        obtain ⟨m', hm', w8⟩ := hN _ _ n8
        have pin8 := I8.pin (s2.heap.objs.size, { cls := .type "list", data := .seq its.toArray k }) (by simp [blk])
        have pinfp : ∀ b ∈ fp, ∀ o, s6.heap.get? b = some o → s8.heap.get? b = some o ∧ H8 b = none := fun b hb o e => by
          have := I8.pin (b, o) (List.mem_append_right _ (List.mem_append_right _ (mem_pinsAt hb e)))
          exact ⟨this.1, this.2.1⟩
        refine wpAny_list_append_plain (items := its.toArray) ⟨k, pin8.1⟩ (fun h' ha' hs' => ?_) (by have := vl.length; simp; omega)
        obtain ⟨k', ha'⟩ := ha'
        have I9 : Inv Y [] τ7 H8 { s8 with heap := h' } := by
          refine (I8.pins_of (pins' := []) (by simp)).turned (t' := s8.toks) (it := s2.heap.objs.size) (fun b o hb e => (hs'.2 b hb).trans e) pin8.2.1 ?_ (.inr (Nat.le_refl _)) (fun x c e => acccell x c e) (fun p hp => absurd (show p ∈ ([] : List (Addr × Obj)) from by simpa [Y, blk] using hp) (by simp))
          exact hDC
        have ea : (its.toArray.push v') = (its ++ [v']).toArray := by simp
        rw [ea] at ha'
        refine ⟨m', hm', i + 1, ys ++ [y], τ7, H8, its ++ [v'], k', I9.pins_of ?_, T.keep _ _ _ st6 fun b hb o e => (hs'.2 b (below b (fplt b hb)).2).trans (pinfp b hb o e).1, fun b hb => ?_, vl.append (.cons r8 .nil), ?_, w8⟩
        · intro p hp
          rw [List.mem_singleton.mp hp]
          exact ⟨ha', pin8.2.1, hDC, accfs, fun v z => by cases z⟩
        · obtain ⟨o, e, _⟩ := T.obj _ _ st6 b hb
          exact (pinfp b hb o e).2
        · rw [List.length_append, List.length_singleton]; omega
    · refine ⟨0, [], σ0 own.length js σ, H2, [], 0, I3.pins_of ?_, st3, fun b hb => (f2 b hb).1, .nil, Nat.zero_le _, w0⟩
      intro p hp
      rw [List.mem_singleton.mp hp]
      exact ⟨ha3, I2.hok.fresh (Nat.le_refl _), hDC, accfs, fun v z => by cases z⟩
  have st1 : tn 0 h₁ := T.keep _ _ _ st2 fun b _ o e => old b o e
  exact codeAny_compStart_list (loop _ IY st1 hacc) (T.self _ 0 _ _ _ st1 (loop _ IY st1 hacc))
theorem pe_comp {elt tg iter : Expr} {scope : Scope} {cl : List (Str × Addr)} {pos : Pos} {fr own : List Str} {js : List Nat} {wi : TI} {g : TG} {te : TE}
    (hc : X.calm = true) (hi : PI X tg iter wi) (hclos : closureFor scope X.env = pure cl) (hcl : ∀ y c, cl.lookup y = some c → X.env.cells.lookup y = some c) (hfr : cl.map (·.1) = fr)
    (S : BScope X scope fr js)
    (hg : ∀ C s H fp, PG (blk X (own ++ fr) scope cl C s H fp) tg g) (he : ∀ C s H fp, PE (blk X (own ++ fr) scope cl C s H fp) elt te)
    (hs : ∀ x, foldedSetIterable iter X.env x = pure x := by intro _; rfl) :
    PE X (.ListComp elt [⟨tg, iter, [], 0⟩] scope pos) (tComp own.length js wi g te) := by
  intro pins s σ H Q I h
  rw [eval_ListComp]
  refine comp_run (use := none) hc hi hclos hcl hfr S hg he hs I h fun acc C s5 H' m I5 hn aw q => ?_
  exact ⟨m, hn, fun h' hs' => ⟨.ref acc, H', I5.turned (t' := s5.toks) (fun b o hb e => (hs'.2 b hb).trans e) aw.free aw.loc (.inr aw.new) aw.cell aw.pin, rfl, q⟩⟩
section
variable {js : List Nat} {te : TE} {σ : L2.St} {H : Hp} {Q : VK} {K : PySem.W.Frag}
abbrev frees (js : List Nat) (σ : L2.St) : L2.St := js.map fun j => (σ[j]?).join
abbrev CompW (J : It) (js : List Nat) (te : TE) (σ : L2.St) (H1 : Hp) (Q : VK) : Prop := CompG 1 js (gName 0) te σ Q J H1
theorem comp_gen {J : It} {n : Nat} (hn : n ≤ sizeLine) (item : Nat → V → Prop) (Pv : Nat → List V → Hp → Prop) (h0 : Pv 0 [] H) (hgo : ∀ i ys H, i < n → Pv i ys H → J.go i H) (hst : ∀ ys H, Pv n ys H → J.stop n H)
    (hy : ∀ i ys H x H', i < n → Pv i ys H → J.yld i H x H' → H' = H ∧ item i x)
    (hs : ∀ i ys H x, i < n → ys.length = i → Pv i ys H → item i x → te (some x :: frees js σ) H fun v H3 => Pv (i + 1) (ys ++ [v]) H3)
    (hd : ∀ ys H, ys.length = n → Pv n ys H → ∀ p, H p = none → Q (.ref p) (upd H p (.lst ys))) : CompW J js te σ H Q := by
  refine ⟨fun i m ys τ H => m = n - i ∧ i ≤ n ∧ ys.length = i ∧ Pv i ys H ∧ ∃ o, τ = o :: frees js σ, ⟨n, by simp, Nat.zero_le _, rfl, h0, none, rfl⟩, ?_⟩
  rintro i m ys τ H ⟨rfl, hi, hl, p, o, rfl⟩
  by_cases hlt : i < n
  · refine .inr ⟨hgo i ys H hlt p, by omega, fun x H' y => ?_⟩
    obtain ⟨e, hx⟩ := hy i ys H x H' hlt p y
    subst e
    exact ⟨fun v H3 => Pv (i + 1) (ys ++ [v]) H3, fun v H3 p3 => ⟨n - (i + 1), by omega, rfl, hlt, by simp [hl], p3, _, rfl⟩, hs i ys _ x hlt hl p hx⟩
  · have e : i = n := by omega
    subst e
    exact .inl ⟨hst ys H p, hd ys H hl p⟩
theorem comp_list {a : Addr} {xs : List V} (hn : xs.length ≤ sizeLine) (Pv : Nat → List V → Hp → Prop) (h0 : Pv 0 [] H) (hl : ∀ i ys H, Pv i ys H → SqL K H a xs)
    (hs : ∀ i ys H x, xs[i]? = some x → ys.length = i → Pv i ys H → te (some x :: frees js σ) H fun v H3 => Pv (i + 1) (ys ++ [v]) H3)
    (hd : ∀ ys H, ys.length = xs.length → Pv xs.length ys H → ∀ p, H p = none → Q (.ref p) (upd H p (.lst ys))) : CompW (Itl K a) js te σ H Q :=
  comp_gen hn (fun i x => xs[i]? = some x) Pv h0 (fun i ys H hi p => ⟨xs, xs[i], hl _ _ _ p, by simp [hi]⟩) (fun ys H p => ⟨xs, hl _ _ _ p, Nat.le_refl _⟩) (fun i ys H x H' _ p y => ⟨y.1, y.2 xs (hl _ _ _ p)⟩) (fun i ys H x _ hl p hx => hs i ys H x hx hl p) hd
theorem comp_range {lo : Int} {n : Nat} (hn : n ≤ sizeLine) (Pv : Nat → List V → Hp → Prop) (h0 : Pv 0 [] H)
    (hs : ∀ i ys H, i < n → ys.length = i → Pv i ys H → te (some (.int (lo + i)) :: frees js σ) H fun v H3 => Pv (i + 1) (ys ++ [v]) H3)
    (hd : ∀ ys H, ys.length = n → Pv n ys H → ∀ p, H p = none → Q (.ref p) (upd H p (.lst ys))) : CompW (Itr lo n) js te σ H Q :=
  comp_gen hn (fun i x => x = .int (lo + i)) Pv h0 (fun i ys H hi p => hi) (fun ys H p => Nat.le_refl _) (fun i ys H x H' _ p y => y) (fun i ys H x hi hl p hx => by subst hx; exact hs i ys H hi hl p) hd
end
end L3
namespace L3
open PySem PySem.Spec PyProof.Rows L2
section
variable {X : Cx} {pins : List (Addr × Obj)} {σ : L2.St} {H : Hp} {s : Shared}
theorem turnedT {h' : Heap} {t' : Nat} {ch : List Addr} {a : Addr} {xs : List V} {its : List Value} (I : L2.Inv X pins σ H s) (k : ∀ b o, b ∉ ch → s.heap.get? b = some o → h'.get? b = some o) (hch : ∀ b ∈ ch, FpOk X pins H b)
    (ho : ∀ b ∈ ch, ∃ o, h'.get? b = some o) (ha : s.heap.objs.size ≤ a) (hz : xs.length ≤ sizeLine) (hv : Vals xs its) (ht : IsTup h' a its.toArray) : L2.Inv X pins σ (upd H a (.tup xs)) { s with heap := h', toks := t' } := by
  have na : H a = none := I.hok.fresh ha
  have nlt : ∀ b o, s.heap.get? b = some o → b ≠ a := fun b o e => Nat.ne_of_lt (Nat.lt_of_lt_of_le (Heap.lt_size e) ha)
  have nch : ∀ b u, H b = some u → b ∉ ch := fun b u e z => by rw [(hch b z).1] at e; cases e
  refine I.step (g' := s.gens) (d' := s.drawn) (ch := ch) (fun b hb => ⟨(hch b hb).2.2.2.1, (hch b hb).2.1, (hch b hb).2.2.2.2.1, (hch b hb).2.2.2.2.2⟩) (fun b o _ _ hc e _ => k b o hc e) (fun b o _ _ hc e _ => ⟨o.slots, k b o hc e⟩)
    (fun b o _ e n => by rw [upd_ne (nlt b o e)]; exact n) (fun b o hc e => ⟨o, k b o hc e⟩) (fun b ys e => by rw [upd_ne (ne_of_none e na)]; exact e) (fun b o u e => by rw [upd_ne (ne_of_none e na)]; exact e)
    (fun b ps e => ⟨#[], by rw [upd_ne (ne_of_none e na), e]; simp⟩) (fun m hm => ?_) (fun b u e => ?_) I.bare
  · obtain ⟨o, es, ep, ho, r⟩ := hm
    exact ⟨o, es, ep, k _ o (fun z => (hch _ z).2.1 rfl) ho, r⟩
  · by_cases hb : b = a
    · subst hb
      rw [upd_same] at e; cases e
      exact ⟨hz, its, hv, ht⟩
    · rw [upd_ne hb] at e
      refine (I.hok b u e).stay (fun c v hc q => k c v ?_ q) (fun c q => by rw [upd_ne (ne_of_none q na)]; exact q) fun c ys q => by rw [upd_ne (ne_of_none q na)]; exact q
      rcases hc with z | z
      · rw [z]; exact nch b u e
      · exact nch c _ z
def Ite (K : PySem.W.Frag) (a : Addr) : It :=
  ⟨fun i H => ∃ xs x, SqL K H a xs ∧ xs[i]? = some x, fun i H x H' => ∃ p v, H p = none ∧ x = .ref p ∧ (∀ xs, SqL K H a xs → xs[i]? = some v) ∧ H' = upd H p (.tup [.int i, v]), fun i H => ∃ xs, SqL K H a xs ∧ xs.length ≤ i⟩
theorem turn_enum {P : Program} {w : World} {K : PySem.W.Frag} {elts : List Expr} {x1} {pos : Pos} (a e it : Addr) (hei : e ≠ it) :
    Turn P w K (.Tuple elts x1 pos) (Ite K a) [e, it] e (fun i h => (∃ old, IsEnum h e it i old) ∧ h.IsListIter it a i) where
  mem := by simp
  obj := fun i h st b hb => by
    obtain ⟨⟨old, he⟩, ⟨o, ho, hc, hd⟩⟩ := st
    rcases List.mem_cons.mp hb with z | z
    · subst z
      refine ⟨_, he, fun v z => ?_⟩
      have z' : Data.fields _ = Data.cell v := z
      cases z'
    · rw [List.mem_singleton.mp z]
      exact ⟨o, ho, fun v z => by rw [hd] at z; cases z⟩
  keep := fun i h h' st k => ⟨let ⟨old, he⟩ := st.1; ⟨old, k e (by simp) _ he⟩, st.2.at fun o q => k it (by simp) o q⟩
  item := by
    intro X hP hw hK hc i pins s σ H E I hf st hg
    subst hP hw hK
    obtain ⟨xs, x, hq, hx⟩ := hg
    obtain ⟨its, rv, p, hz⟩ := I.list hq
    obtain ⟨u, hu, ru⟩ := rv.get hx
    obtain ⟨⟨old, he⟩, hit⟩ := st
    refine wpAny_pyNext_enum_item he hit p.isList (x := u) (by simpa using hu) hei fun h' ho hit' ht hsz hk => ⟨_, rfl, ?_⟩
    refine wpAny_letOwnedTupleGo_enum ho fun h'' he'' hs'' => ?_
    have helt : e < s.heap.objs.size := Heap.lt_size he
    have hilt : it < s.heap.objs.size := by obtain ⟨_, y, _⟩ := hit; exact Heap.lt_size y
    refine ⟨.ref s.heap.objs.size, upd H s.heap.objs.size (.tup [.int i, x]), ?_, rfl, ⟨_, x, I.hok.fresh (Nat.le_refl _), rfl, fun ys hy => by rw [I.list_inj hy hq]; exact hx, rfl⟩, ⟨⟨_, by simpa using he''⟩, ?_⟩, ?_⟩
    · show L2.Inv X pins σ _ { s with heap := h'', toks := s.toks + 1 }
      refine turnedT (s := s) (its := [.int i s.toks, u]) I (ch := [e, it]) (fun b o hb q => ?_) hf (fun b hb => ?_) (Nat.le_refl _) (by show 2 ≤ sizeLine; decide) (.cons ⟨_, rfl⟩ (.cons ru .nil)) ?_
      · have hb1 : b ≠ e := fun z => hb (by simp [z])
        have hb2 : b ≠ it := fun z => hb (by simp [z])
        exact (hs''.2 b hb1).trans (hk b o hb1 hb2 q)
      · rcases List.mem_cons.mp hb with z | z
        · subst z; exact ⟨_, he''⟩
        · rw [List.mem_singleton.mp z]
          obtain ⟨o, y, _⟩ := hit'
          exact ⟨o, (hs''.2 it (Ne.symm hei)).trans y⟩
      · exact ⟨_, (hs''.2 _ (Nat.ne_of_gt helt)).trans ht, rfl, _, rfl⟩
    · exact hit'.extBut hs''.extBut (Ne.symm hei)
    · intro b hb
      rw [upd_ne]
      · exact (hf b hb).1
      · rcases List.mem_cons.mp hb with z | z
        · subst z; exact Nat.ne_of_lt helt
        · rw [List.mem_singleton.mp z]; exact Nat.ne_of_lt hilt
  done := by
    intro X hP hw hK hc i pins s σ H E I hf st hg
    subst hP hw hK
    obtain ⟨xs, hq, hx⟩ := hg
    obtain ⟨its, rv, p, hz⟩ := I.list hq
    obtain ⟨⟨old, he⟩, hit⟩ := st
    obtain ⟨f0, f1, f2, f3, f4, f5⟩ := hf it (by simp)
    have hl := rv.length
    exact wpAny_pyNext_enum_end (I.ok.hd hc) he hit p.isList (by simp; omega) fun h' eb => ⟨rfl, I.turned (t' := s.toks) (fun b o hb e => eb b o hb e) f0 f1 f3 f4 f5⟩
  self := fun _ _ _ _ _ st h => by
    obtain ⟨⟨old, he⟩, _⟩ := st
    exact wpAny_pyIter_enum he h
def iEnum (K : PySem.W.Frag) (ta : TA) : TI := fun σ H R => ta σ H fun vs H1 => ∃ a, vs = [.ref a] ∧ (∃ xs, SqL K H1 a xs) ∧ R (Ite K a) H1
theorem pi_enum {a : Expr} {ta : TA} {p pos : Pos} {elts : List Expr} {x1} {tpos : Pos} (hg : Gl X "enumerate") (hm : X.mg "enumerate" = none) (ha : PA X [a] ta) (hs : starEach [a] X.env = [(false, eval a X.env)] := by rfl) :
    PI X (.Tuple elts x1 tpos) (.Call (.Name "enumerate" p) [a] [] pos) (iEnum X.K ta) := by
  intro pins s σ H R I h
  refine Call_ (ld_blt I hg hm boot_enumerate (PyProof.Rows.callWith_type1 (thn (ha pos pins s σ H _ I h) fun us s1 ⟨vs, H1, I1, r1, q1⟩ => ?_) hs rfl))
  obtain ⟨l, e, ⟨xs, hq⟩, q⟩ := q1
  subst e
  obtain ⟨u, rfl, ru⟩ := r1.one
  cases ru
  obtain ⟨its, rv, pl, hz⟩ := I1.list hq
  refine call_enumerate_list pl.isList fun h' he hit hsz hk => wpAny_pyIter_enum he ?_
  have I2 : L2.Inv X pins σ H1 { s1 with heap := h' } := I1.kept (t' := s1.toks) hk
  refine ⟨s1.heap.objs.size + 1, [s1.heap.objs.size + 1, s1.heap.objs.size], _, _, H1, rfl, I2, turn_enum l _ _ (Nat.ne_of_gt (Nat.lt_succ_self _)), ⟨⟨_, he⟩, hit⟩, fun b hb => ?_, q⟩
  have hb' : s1.heap.objs.size ≤ b := by
    rcases List.mem_cons.mp hb with z | z
    · rw [z]; exact Nat.le_succ _
    · rw [List.mem_singleton.mp z]; exact Nat.le_refl _
  exact I1.fpOk hb' (I1.hok.fresh hb')
theorem for_enum {K : PySem.W.Frag} {a : Addr} {xs : List V} {g : TG} {tb : TS} {D : Ends} {σ : L2.St} {H : Hp} (Pv : Nat → L2.St → Hp → Prop) (h0 : Pv 0 σ H) (hl : ∀ i σ H, i ≤ xs.length → Pv i σ H → SqL K H a xs)
    (hs : ∀ i x σ H p, xs[i]? = some x → Pv i σ H → H p = none → g (.ref p) σ (upd H p (.tup [.int i, x])) fun σ2 H2 => tb { D with nx := Pv (i + 1), ct := Pv (i + 1), bk := D.nx } σ2 H2) (hd : ∀ σ H, Pv xs.length σ H → D.nx σ H) :
    ∃ W : Nat → Nat → L2.St → Hp → Prop, (∃ m, W 0 m σ H) ∧ ∀ i m σ H, W i m σ H →
      ((Ite K a).stop i H ∧ D.nx σ H) ∨ ((Ite K a).go i H ∧ ∃ N : L2.St → Hp → Prop, (∀ σ' H', N σ' H' → ∃ m', m' < m ∧ W (i + 1) m' σ' H') ∧ ∀ x H', (Ite K a).yld i H x H' → g x σ H' fun σ2 H2 => tb { D with nx := N, ct := N, bk := D.nx } σ2 H2) := by
  refine ⟨fun i m σ H => m = xs.length - i ∧ i ≤ xs.length ∧ Pv i σ H, ⟨xs.length, by simp, Nat.zero_le _, h0⟩, ?_⟩
  rintro i m σ H ⟨rfl, hi, p⟩
  have q := hl i σ H hi p
  by_cases hlt : i < xs.length
  · refine .inr ⟨⟨xs, xs[i], q, by simp [hlt]⟩, Pv (i + 1), fun σ' H' p' => ⟨xs.length - (i + 1), by omega, rfl, hlt, p'⟩, fun x H' y => ?_⟩
    obtain ⟨pp, v, hp, rfl, hv, rfl⟩ := y
    exact hs i v σ H pp (hv xs q) p hp
  · have e : i = xs.length := by omega
    subst e
    exact .inl ⟨⟨xs, q, Nat.le_refl _⟩, hd σ H p⟩
end
end L3
namespace L3
open PySem PySem.Spec PyProof.Rows L2
def subT (t c : String) : Bool := t == c || (t == "bool" && c == "int")
abbrev tysL : List String := ["NoneType", "bool", "int", "str", "list", "tuple"]
abbrev clsL : List String := ["bool", "int", "str", "list", "tuple"]
theorem kit_tab (K : PySem.W.Frag) : ∀ t ∈ tysL, ∀ c ∈ clsL, PySem.W.kitOne K (.type t) (.type c) = some (subT t c) := by
  intro t ht c hc
  simp only [tysL, clsL, List.mem_cons, List.not_mem_nil, or_false] at ht hc
  rcases ht with rfl | rfl | rfl | rfl | rfl | rfl <;> rcases hc with rfl | rfl | rfl | rfl | rfl <;> kernel_rfl
section
variable {X : Cx}
theorem vals_bls : ∀ {bs : List Bool} {us : List Value}, Vals (bs.map V.bl) us → us = bs.map Value.bool
  | [], _, .nil => rfl
  | b :: bs, _, .cons r t => by
    cases (show _ = Value.bool b from r)
    rw [vals_bls t]; rfl
theorem range_all' (bs : List Bool) : ((List.range bs.length).all fun i => (bs[i]?).getD true) = bs.all id := by
  rw [Bool.eq_iff_iff, List.all_eq_true, List.all_eq_true]
  constructor
  · intro h b hb
    obtain ⟨i, hi, e⟩ := List.mem_iff_getElem.mp hb
    have := h i (List.mem_range.mpr hi)
    rw [List.getElem?_eq_getElem hi, Option.getD_some, e] at this
    exact this
  · intro h i hi
    have hi' := List.mem_range.mp hi
    rw [List.getElem?_eq_getElem hi', Option.getD_some]
    exact h _ (List.getElem_mem hi')
theorem call_allB (hc : X.calm = true) : CallR X (.builtin "all") (fun xs H Q => ∃ (p : Addr) (bs : List Bool), xs = [.ref p] ∧ SqL X.K H p (bs.map V.bl) ∧ Q (.bl (bs.all id)) H) := by
  intro pins s σ H xs us Q I r h
  obtain ⟨p, bs, rfl, hq, q⟩ := h
  obtain ⟨u, rfl, ru⟩ := vals1 r
  cases ru
  obtain ⟨its, rv, pl, hz⟩ := I.list hq
  have e := vals_bls rv
  have hl := pl.isList
  have hlt : p < s.heap.objs.size := by obtain ⟨_, e, _⟩ := hl; exact Heap.lt_size e
  refine call_all_walk (wpAny_pyIter_list hl ?_)
  refine ⟨s.heap.objs.size, [s.heap.objs.size, p], [s.heap.objs.size], its.toArray.size, _, _, fun i => (bs[i]?).getD true, rfl, Walks.list (A := X.A.in1) (I.ok.hd hc) _ p (Nat.ne_of_lt hlt) its.toArray,
    ⟨⟨_, Heap.get?_push_size _ rfl, rfl, rfl⟩, hl.push _⟩, fun i v s' Q' E' hP hQ => ?_, fun h' tk hk => ?_⟩
  · have hP' : its[i]? = some v := by simpa using hP
    rw [e, List.getElem?_map] at hP'
    cases eb : bs[i]? with
    | none => rw [eb] at hP'; cases hP'
    | some b =>
      rw [eb] at hP'
      cases (Option.some.inj hP' : Value.bool b = v)
      simp only [eb, Option.getD_some] at hQ
      exact wpAny_truthy_bool hQ
  · have e2 : ((List.range its.toArray.size).all fun i => (bs[i]?).getD true) = bs.all id := by
      rw [List.size_toArray, e, List.length_map]; exact range_all' bs
    rw [e2]
    refine ⟨.bl _, H, I.kept (h' := h') (t' := tk) fun b o q => hk b o (fun hm => ?_) (Heap.get?_push_of_some _ q), rfl, q⟩
    rw [List.mem_singleton.mp hm] at q
    exact Nat.lt_irrefl _ (Heap.lt_size q)
theorem call_rng1 : CallR X (.type "range") (fun xs H Q => ∃ j : Int, xs = [.int j] ∧ ∀ p, H p = none → Q (.ref p) (upd H p (.rng 0 j))) := by
  intro pins s σ H xs us Q I r h
  obtain ⟨j, rfl, q⟩ := h
  obtain ⟨u, rfl, ru⟩ := vals1 r
  obtain ⟨t, rfl⟩ := ru
  refine call_range_1 ⟨.ref s.heap.objs.size, _, I.laid (o := .rng 0 j) (fun b o e => Heap.get?_push_of_some _ e) (Nat.le_refl _) ⟨_, _, _, Heap.get?_push_size _ rfl⟩, rfl, q _ (I.hok.fresh (Nat.le_refl _))⟩
theorem call_listR (hc : X.calm = true) : CallR X (.type "list") (fun xs H Q => ∃ (p : Addr) (j : Nat), xs = [.ref p] ∧ H p = some (.rng 0 (j : Int)) ∧ j ≤ 2 ^ 24 ∧ ∀ l, H l = none → Q (.ref l) (upd H l (.lst ((List.range j).map fun i => V.int (i : Nat))))) := by
  intro pins s σ H xs us Q I r h
  obtain ⟨p, j, rfl, hp, hj, q⟩ := h
  obtain ⟨u, rfl, ru⟩ := vals1 r
  cases ru
  obtain ⟨t, u, v, e⟩ := I.hok p _ hp
  refine call_list_range (n := j) (I.ok.hd hc) (show IsRange s.heap p 0 (j : Int) 1 t u v from e) (small_one (by omega) (by omega) (by omega) (by omega)) (by rw [rangeSize_one]; split <;> omega) hj fun h' tk acc' c' hk hS' hacc => ?_
  refine ⟨.ref s.heap.objs.size, _, I.laid (h' := h') (t' := tk) hk (Nat.le_refl _) ?_, rfl, q _ (I.hok.fresh (Nat.le_refl _))⟩
  have aux : ∀ (us : List Value) (n k : Nat), us.length = n → (∀ i v, us[i]? = some v → ∃ t, v = Value.int ((k + i : Nat) : Int) t) → Vals ((List.range' k n).map fun i => V.int (i : Nat)) us := by
    intro us
    induction us with
    | nil => intro n k hn _; cases hn; exact .nil
    | cons u us ih =>
      intro n k hn hv
      cases n with
      | zero => cases hn
      | succ n =>
        rw [List.range'_succ, List.map_cons]
        obtain ⟨t, ht⟩ := hv 0 u rfl
        refine .cons ⟨t, by simpa using ht⟩ (ih n (k + 1) (by simpa using hn) fun i v hi => ?_)
        obtain ⟨t, ht⟩ := hv (i + 1) v hi
        exact ⟨t, by rw [ht]; congr 1; omega⟩
  have vals : Vals ((List.range j).map fun i => V.int (i : Nat)) acc'.toList := by
    rw [List.range_eq_range']
    refine aux _ _ 0 (by rw [Array.length_toList]; exact hacc.1) fun i v hi => ?_
    obtain ⟨t, ht⟩ := hacc.2 i v (by rw [← Array.getElem?_toList]; exact hi)
    exact ⟨t, by rw [ht]; congr 1; omega⟩
  exact ⟨by simp only [List.length_map, List.length_range]; exact Nat.le_trans hj (by rw [sizeLine_eq]; decide), acc'.toList, c', vals, hS'⟩
def rSlW : V → Option Int → Option Int → Hp → VK → Prop := fun x lo hi H Q => ∃ a xs, x = .ref a ∧ H a = some (.tup xs) ∧ ∀ p H', Same H H' → H' p = some (.tup (cutV xs lo hi)) → (p = a ∨ H p = none) → Q (.ref p) H'
theorem getItem_tuple_whole {prog : Program} {w : World} {A : Around} {E : Value → Shared → Prop} {s : Shared} {t sl : Addr} {items : Array Value} {vl vu : Value} {lo hi : Option Int} {Q : Value → Shared → Prop} (ht : IsTup s.heap t items) (hs : s.heap.IsSliceOf sl vl vu .none) (pl : IsPart vl lo) (pu : IsPart vu hi)
    (hw : HT.sIx items.size 0 lo = 0 ∧ HT.sIx items.size items.size hi = items.size) (h : Q (.ref t) s) : wpAny (model prog w) A (getItem (.ref t) (.ref sl)) Q E s := by
  obtain ⟨os, hos, hcs, hds⟩ := id hs
  have hTs : s.TypeIs (.ref sl) "slice" := ⟨os, hos, hcs⟩
  unfold getItem
  try with_reducible refine wpAny_holding ?_
  first | refine wpAny_bind (wpAny_pure ?_) | skip
  refine wpAny_bind (wpAny_sequenceKey ht.typeIs (by decide) ?_)
  refine wpAny_bind (wpAny_callSpecial?_slot (name := Str.ofString "__getitem__") ht.typeIs PyProof.Rows.slot_tuple_getitem
    (wpAny_call_entry PyProof.Rows.slot_tuple_getitem ht.typeIs entry_tuple_getitem ?_ (args_tuple_getitem _ _)))
  show wpAny _ _ (Builtin.Tuple.tupleItemsOf (.ref t) >>= _) _ _ s
  refine wpAny_bind (tupleItemsOf_ ht ?_)
  refine wpAny_bind (wpAny_typeOf hTs ?_)
  rw [if_pos (by decide)]
  refine wpAny_bind (HT.sliceApplied_gen hs pl pu ?_)
  show wpAny _ _ (if (((HT.sIx items.size 0 lo : Nat) : Int) == 0 && (1 : Int) == 1 && (HT.sIx items.size items.size hi - HT.sIx items.size 0 lo) == items.size) = true then _ else _) _ _ s
  rw [hw.1, hw.2, if_pos (by simp)]
  refine wpAny_bind (m := Builtin.Tuple.tupleIsExact _) ?_
  unfold Builtin.Tuple.tupleIsExact
  refine wpAny_bind (wpAny_typeOf ht.typeIs (wpAny_pure ?_))
  rw [if_pos (by rfl)]
  exact wpAny_bind (wpAny_rule (wpAny_pure ⟨_, rfl, wpAny_pure h⟩))
theorem sl_tupW : SlR X rSlW := by
  intro pins s σ H x v vl vu lo hi sl Q I rx hs pl pu h
  obtain ⟨a, xs, rfl, hx, q⟩ := h
  by_cases hw : HT.sIx xs.length 0 lo = 0 ∧ HT.sIx xs.length xs.length hi = xs.length
  · cases rx
    obtain ⟨its, r, ht, hz⟩ := I.tuple (SqT.of hx)
    have hlen : its.toArray.size = xs.length := by rw [List.size_toArray]; exact r.length.symm
    refine ⟨"tuple", _, PyProof.Rows.slot_tuple_getitem.lookup, ht.typeIs, ?_⟩
    refine getItem_tuple_whole ht hs pl pu (by rw [hlen]; exact hw) ⟨.ref a, H, I, rfl, q a H (Same.refl H) ?_ (.inl rfl)⟩
    have : cutV xs lo hi = xs := by unfold cutV; rw [hw.1, hw.2]; simp
    rw [this]; exact hx
  · exact sl_tup pins s σ H _ v vl vu lo hi sl Q I rx hs pl pu ⟨a, xs, rfl, SqT.of hx, hw, fun p hp => q p _ (fun b o e => by rw [upd_ne (ne_of_none e hp)]; exact e) upd_same (.inr hp)⟩
def rCatW : R2 := fun x y H Q => ∃ a b xs ys, x = .ref a ∧ y = .ref b ∧ H a = some (.tup xs) ∧ H b = some (.tup ys) ∧ xs.length + ys.length ≤ sizeLine ∧ ∀ p H', Same H H' → H' p = some (.tup (xs ++ ys)) → Q (.ref p) H'
theorem op_catW : OpR X (binaryOp .Add) rCatW := by
  intro pins s σ H x y v u Q I rx ry h
  obtain ⟨a, b, xs, ys, rfl, rfl, ha, hb, hz, q⟩ := h
  by_cases hx : xs = []
  · subst hx
    cases rx
    cases ry
    obtain ⟨its, r1, p1, _⟩ := I.tuple (SqT.of ha)
    obtain ⟨its2, r2, p2, _⟩ := I.tuple (SqT.of hb)
    cases r1
    obtain ⟨⟨cls, dd, data, sl⟩, ho, hc, n, hd⟩ := id p1
    obtain ⟨⟨cls2, dd2, data2, sl2⟩, ho2, hc2, n2, hd2⟩ := id p2
    simp only at hc hd hc2 hd2
    subst hc hd hc2 hd2
    exact concat_meets ⟨_, ho, rfl⟩ ⟨_, ho2, rfl⟩ noFill_tuple_add seq_tuple_add PySem.F.slot_tuple_add PySem.F.entry_tuple_add (PySem.F.args_tuple_add_2 _ _)
      (tuple_addW0 a b _ its2.toArray n n2 dd dd2 sl sl2 (by simp)) ⟨ho, ho2, ⟨.ref b, H, I, rfl, q b H (Same.refl H) hb⟩⟩
  · refine op_catT pins s σ H _ _ v u Q I rx ry ⟨a, b, xs, ys, rfl, rfl, SqT.of ha, SqT.of hb, hx, hz, fun e => q a H (Same.refl H) (by subst e; simpa using ha), fun _ p hp => q p _ (fun b o e => by rw [upd_ne (ne_of_none e hp)]; exact e) upd_same⟩
theorem vals_ix {ns : List Int} {us : List Value} (r : Vals (ns.map V.int) us) (j : Nat) (h : j < us.length) (h' : j < ns.length) : ∃ t, us[j] = Value.int ns[j] t := by
  obtain ⟨u, hu, ru⟩ := r.get (i := j) (x := V.int ns[j]) (by rw [List.getElem?_map, List.getElem?_eq_getElem h']; rfl)
  rw [List.getElem?_eq_getElem h] at hu
  cases hu
  exact ru
theorem all_ints (ns ms : List Int) (h : ns.length = ms.length) : ((List.range ns.length).all fun j => (ns.getD j 0 == ms.getD j 0)) = decide (ns = ms) := by
  rw [Bool.eq_iff_iff, List.all_eq_true, decide_eq_true_iff]
  constructor
  · intro q
    refine List.ext_getElem h fun i h1 h2 => ?_
    have := q i (List.mem_range.mpr h1)
    simp only [List.getD_eq_getElem?_getD, List.getElem?_eq_getElem h1, List.getElem?_eq_getElem h2, Option.getD_some, beq_iff_eq] at this
    exact this
  · rintro rfl i _
    simp
def rEqL (K : PySem.W.Frag) (neg : Bool) : R2 := fun x y H Q => ∃ (a b : Addr) (ns ms : List Int), x = .ref a ∧ y = .ref b ∧ SqL K H a (ns.map V.int) ∧ SqL K H b (ms.map V.int) ∧ Q (.bl (if neg then !decide (ns = ms) else decide (ns = ms))) H
end
end L3
namespace L3
open PySem PySem.Spec PyProof.Rows L2
def notStar : Expr → Bool
  | .Starred .. => false
  | _ => true
theorem star_cons {e : Expr} {es : List Expr} {env : Env} (h : notStar e = true) : starEach (e :: es) env = (false, eval e env) :: starEach es env := by
  cases e <;> first | rfl | cases h
theorem pac {X : Cx} {e : Expr} {es : List Expr} {te : TE} {t : TA} (ha : PE X e te) (hr : PA X es t) (h : notStar e = true := by rfl) : PA X (e :: es) (tCons te t) := pa_cons ha hr (star_cons h)
structure Df (P : Program) (w : World) (K : PySem.W.Frag) (mg : Str → Option Value) (base : Heap) (x : Str) (ps : List Str) (k : Nat) (sp : Sp) : Prop where
  ex : ∃ (f : Addr) (fd : FuncData), FnOk P w K mg base CX0 k f fd ps sp ∧ mg x = some (.ref f) ∧ PySem.W.keepIn K (.ref f) = true ∧ Binds K fd ps []
structure At (K : PySem.W.Frag) (mg : Str → Option Value) (x : Str) (st : Stmt) (ps : List Str) : Prop where
  ex : ∃ (f : Addr) (fd : FuncData), Fun K x x st f fd ∧ mg x = some (.ref f) ∧ PySem.W.keepIn K (.ref f) = true ∧ Binds K fd ps []
section
variable {P : Program} {w : World} {K : PySem.W.Frag} {mg : Str → Option Value} {base : Heap}
theorem At.df {x : Str} {st : Stmt} {ps N : List Str} {k : Nat} {sp : Sp} (a : At K mg x st ps) (S : FnScope N ps (defScope st)) (len : ∀ vs H Q E, sp vs H Q E → vs.length = ps.length)
    (hbody : ∀ (f : Addr) (cdv : Value) (A : Around) (outer : List Env) (s : Shared) (H : Hp) (vs : List V) (Q : VK) (E : XK), Room k (A.deeper (envOfC x (defScope st) s.heap.objs.size f cdv)) → sp vs H Q E →
      ∃ t, PSs (cxOf CX0 P w K mg base N x (defScope st) f cdv A outer s H E).nox (defBody st) t ∧ t { nx := fun _ H' => Q .non H', rt := Q } (start N vs) H) : Df P w K mg base x ps (k + 1) sp := by
  obtain ⟨f, fd, F, m, kp, bd⟩ := a.ex
  exact ⟨f, fd, F.ok S len (fun cdv A outer s H vs Q E hr h => hbody f cdv A outer s H vs Q E hr h), m, kp, bd⟩
end
section
variable {X : Cx} {x : Str} {ps : List Str} {k : Nat} {sp : Sp} {e : Expr} {es : List Expr} {p pos : Pos} {t : TA}
theorem pe_def (D : Df X.prog X.w X.K X.mg X.base x ps k sp) (hr : Room k X.A) (ha : PA X (e :: es) t) (hg : Gl X x := by rfl) (hdb : (x == ("__debug__" : Str)) = false := by decide) (he : starEach (e :: es) X.env = (false, eval e X.env) :: starEach es X.env := by rfl) (hpl : (backTo pos (starEach es X.env)).any (·.1) = false := by rfl) :
    PE X (.Call (.Name x p) (e :: es) [] pos) (tCall sp [] E0 t) := by
  obtain ⟨f, fd, ok, m, kp, bd⟩ := D.ex
  exact pe_call ok hr hg m kp bd .nil pass0 ha hdb he hpl
end
theorem bsc0 {X : Cx} {scope : Scope} (kind : scope.kind = .function) (names : ∀ x ∈ scope.names, x.2 = .local → scope.names.lookup x.1 = some .local) (nocell : ∀ x ∈ scope.names, x.2 ≠ .cell)
    (free : ∀ x ∈ scope.names, x.2 = .free → x.1 ∈ ([] : List Str)) : BScope X scope [] [] := ⟨kind, names, nocell, free, rfl, fun i j y h => by simp at h⟩
theorem bsc1 {X : Cx} {scope : Scope} {y : Str} {j : Nat} (kind : scope.kind = .function) (names : ∀ x ∈ scope.names, x.2 = .local → scope.names.lookup x.1 = some .local) (nocell : ∀ x ∈ scope.names, x.2 ≠ .cell)
    (free : ∀ x ∈ scope.names, x.2 = .free → x.1 ∈ ([y] : List Str)) (h1 : X.N[j]? = some y) (h2 : X.env.kindOf y = some .cell) (h3 : (relabel scope X.env).names.lookup y = some .cell) : BScope X scope [y] [j] :=
  ⟨kind, names, nocell, free, rfl, fun i j' y' e1 e2 => by
    cases i with
    | zero => cases e1; cases e2; exact ⟨h1, h2, h3⟩
    | succ i => simp at e1⟩
theorem clo1 {X : Cx} {y : Str} {c : Addr} (h : X.env.cells.lookup y = some c) : ∀ z d, ([(y, c)] : List (Str × Addr)).lookup z = some d → X.env.cells.lookup z = some d := fun z d e => by
  by_cases hz : z = y
  · subst hz
    simp at e
    rw [← e]; exact h
  · simp [List.lookup_cons, show (z == y) = false from by simpa using hz] at e
abbrev BoxL (n m k : Int) : HO := .lst [.int n, .int m, .int k]
theorem _root_.L2.Same.upd {H : Hp} {p : Addr} {o : HO} (h : H p = none) : Same H (upd H p o) := fun b u e => by rw [upd_ne (ne_of_none e h)]; exact e
theorem b01_lo (c : Bool) : -(2 ^ 64 : Int) < (if c = true then (1 : Int) else 0) := by cases c <;> decide
theorem b01_hi (c : Bool) : (if c = true then (1 : Int) else 0) < (2 ^ 64 : Int) := by cases c <;> decide
theorem ixN_nat {n j : Nat} (h : j < n) : ixN n (j : Int) = some j := by unfold ixN; rw [if_pos (by omega), if_pos (by omega)]; simp
def cutI (ns : List Int) (lo hi : Option Int) : List Int := (ns.drop (HT.sIx ns.length 0 lo)).take (HT.sIx ns.length ns.length hi - HT.sIx ns.length 0 lo)
theorem cut_ints (ns : List Int) (lo hi : Option Int) : cutV (ns.map V.int) lo hi = (cutI ns lo hi).map V.int := by unfold cutV cutI; rw [List.length_map, List.map_take, List.map_drop]
theorem cutI_len (ns : List Int) (lo hi : Option Int) : (cutI ns lo hi).length = min (HT.sIx ns.length ns.length hi - HT.sIx ns.length 0 lo) (ns.length - HT.sIx ns.length 0 lo) := by unfold cutI; rw [List.length_take, List.length_drop]
theorem ints_get {ns : List Int} {i : Nat} {x : V} (h : (ns.map V.int)[i]? = some x) : ∃ z, x = .int z ∧ ns[i]? = some z := by
  rw [List.getElem?_map] at h
  cases e : ns[i]? with
  | none => rw [e] at h; cases h
  | some z => rw [e] at h; exact ⟨z, (Option.some.inj h).symm, rfl⟩
theorem ints_at {ns : List Int} {i : Nat} (h : i < ns.length) : (ns.map V.int)[i]? = some (.int ns[i]) := by rw [List.getElem?_map, List.getElem?_eq_getElem h]; rfl
theorem ints_set (ns : List Int) (i : Nat) (z : Int) : (ns.map V.int).set i (.int z) = (ns.set i z).map V.int := by rw [List.map_set]
theorem draw_at {α : Type} {xs : List α} {r : Int} (h0 : 0 ≤ r) (h1 : r < xs.length) : ∃ v, atI xs r = some v ∧ v ∈ xs := by
  have hr : r.toNat < xs.length := by omega
  refine ⟨xs[r.toNat], ?_, List.getElem_mem hr⟩
  have e : atI xs ((r.toNat : Nat) : Int) = some xs[r.toNat] := atI_nat (List.getElem?_eq_getElem hr)
  rwa [show ((r.toNat : Nat) : Int) = r by omega] at e
def spLaw (K : PySem.W.Frag) : Sp := fun vs H Q _ => ∃ (a : Addr) (ns : List Int), vs = [.ref a] ∧ SqL K H a (ns.map V.int) ∧ ns.length ≤ 63 ∧ ∀ H', Q (.bl true) H'
end L3
namespace L3
open PySem PySem.Spec L2
structure QE (X : Cx) (e : Expr) (t : TE) : Prop where
  h : PE X e t
structure QT (X : Cx) (e : Expr) (t : TT) : Prop where
  h : PT X e t
structure QW (X : Cx) (e : Expr) (t : TT) : Prop where
  h : PW X e t
structure QA (X : Cx) (e : List Expr) (t : TA) : Prop where
  h : PA X e t
structure QS (X : Cx) (e : Stmt) (t : TS) : Prop where
  h : PS X e t
structure QSs (X : Cx) (e : List Stmt) (t : TS) : Prop where
  h : PSs X e t
structure QG (X : Cx) (e : Expr) (t : TG) : Prop where
  h : PG X e t
structure QGs (X : Cx) (e : List Expr) (t : TGs) : Prop where
  h : PGs X e t
structure QO (X : Cx) (e : Option Expr) (t : TO) : Prop where
  h : PO X e t
structure QI (X : Cx) (tg e : Expr) (t : TI) : Prop where
  h : PI X tg e t
variable {X : Cx}
theorem qe_int  {i j pos} : QE X (.Constant (.int i) j pos) (tC (.int i)) := ⟨pe_int ⟩
theorem qe_bl  {b j pos} : QE X (.Constant (.bool b) j pos) (tC (.bl b)) := ⟨pe_bl ⟩
theorem qe_non  {j pos} : QE X (.Constant .none j pos) (tC .non) := ⟨pe_non ⟩
theorem qe_str  {x j pos} : QE X (.Constant (.str x) j pos) (tC (.str x)) := ⟨pe_str ⟩
theorem qe_glob  {x : Str} {v : V} {u : Value} {pos : Pos} (hg : Gl X x) (hm : X.mg x = some u) (r : RelV v u) (hd : (x == ("__debug__" : Str)) = false := by decide) : QE X (.Name x pos) (tC v) := ⟨pe_glob (hg := hg) (hm := hm) (r := r) (hd := hd)⟩
theorem qe_bltn  {x : Str} {v : V} {u : Value} {pos : Pos} (hg : Gl X x) (hm : X.mg x = none) (hv : bootBuiltins x = some u) (r : RelV v u) (hn : x ≠ "__name__" := by decide) (hd : (x == ("__debug__" : Str)) = false := by decide) : QE X (.Name x pos) (tC v) := ⟨pe_bltn (hg := hg) (hm := hm) (hv := hv) (r := r) (hn := hn) (hd := hd)⟩
theorem qe_op  {a b : Expr} {ta tb : TE} {pos : Pos} {op : Operator} {r : R2} (ho : OpR X (binaryOp op) r) (ha : QE X a ta) (hb : QE X b tb) : QE X (.BinOp a op b pos) (tOp r ta tb) := ⟨pe_op (ho := ho) (ha := ha.h) (hb := hb.h)⟩
theorem qe_un  {a : Expr} {ta : TE} {pos : Pos} {op : UnaryOp} {r : V → Hp → VK → Prop} (ho : UnR X (unaryOp op) r) (ha : QE X a ta) : QE X (.UnaryOp op a pos) (tUn r ta) := ⟨pe_un (ho := ho) (ha := ha.h)⟩
theorem qe_cmpR  {a b : Expr} {ta tb : TE} {pos : Pos} {op : CmpOp} {r : R2} (ho : OpR X (compareOp op) r) (ha : QE X a ta) (hb : QE X b tb) (hm : behindInMarks op b = false) : QE X (.Compare a [op] [b] pos) (tOp r ta tb) := ⟨pe_cmpR (ho := ho) (ha := ha.h) (hb := hb.h) (hm := hm)⟩
theorem qt_cmpR  {a b : Expr} {ta tb : TE} {pos : Pos} {op : CmpOp} {r : R2} (ho : OpR X (compareOp op) r) (ha : QE X a ta) (hb : QE X b tb) (hm : behindInMarks op b = false) : QT X (.Compare a [op] [b] pos) (tTest (tOp r ta tb)) := ⟨pt_cmpR (ho := ho) (ha := ha.h) (hb := hb.h) (hm := hm)⟩
theorem qe_and  {a b : Expr} {rest : List Expr} {ta tb : TE} {pos : Pos} (ha : QE X a ta) (hb : QE X (.BoolOp .And (b :: rest) pos) tb) : QE X (.BoolOp .And (a :: b :: rest) pos) (tAndV ta tb) := ⟨pe_and (ha := ha.h) (hb := hb.h)⟩
theorem qe_one  {a : Expr} {pos : Pos} {op} {t : TE} (h : QE X a t) : QE X (.BoolOp op [a] pos) t := ⟨pe_one (h := h.h)⟩
theorem qe_not  {a : Expr} {ta : TE} {pos : Pos} (ha : QE X a ta) : QE X (.UnaryOp .Not a pos) (tNotV ta) := ⟨pe_not (ha := ha.h)⟩
theorem qw_and  {a b : Expr} {rest : List Expr} {tA tB' : TT} {pos : Pos} (ha : QT X a tA) (hb : QW X (.BoolOp .And (b :: rest) pos) tB') : QW X (.BoolOp .And (a :: b :: rest) pos) (tAnd tA tB') := ⟨pw_and (ha := ha.h) (hb := hb.h)⟩
theorem qw_or  {a b : Expr} {rest : List Expr} {tA tB' : TT} {pos : Pos} (ha : QT X a tA) (hb : QW X (.BoolOp .Or (b :: rest) pos) tB') : QW X (.BoolOp .Or (a :: b :: rest) pos) (tOr tA tB') := ⟨pw_or (ha := ha.h) (hb := hb.h)⟩
theorem qw_and1  {a : Expr} {tA : TT} {pos : Pos} (ha : QT X a tA) : QW X (.BoolOp .And [a] pos) tA := ⟨pw_and1 (ha := ha.h)⟩
theorem qw_or1  {a : Expr} {tA : TT} {pos : Pos} (ha : QT X a tA) : QW X (.BoolOp .Or [a] pos) tA := ⟨pw_or1 (ha := ha.h)⟩
theorem qt_not  {a : Expr} {tA : TT} {pos : Pos} (ha : QT X a tA) : QT X (.UnaryOp .Not a pos) (tNot tA) := ⟨pt_not (ha := ha.h)⟩
theorem qt_val  {e : Expr} {t : TE} (h : QE X e t) (he : ∀ whole, isTrue e X.env whole = (do let v ← whole; standAt e.pos; holding [v] (truthy v)) := by intro _; rfl) : QT X e (tB t) := ⟨pt_val (h := h.h) (he := he)⟩
theorem qe_ifExp  {a b : Expr} {ta tb : TE} {tA : TT} {pos : Pos} {c : Expr} (hc : QT X c tA) (ha : QE X a ta) (hb : QE X b tb) : QE X (.IfExp c a b pos) (tIf tA ta tb) := ⟨pe_ifExp (hc := hc.h) (ha := ha.h) (hb := hb.h)⟩
theorem qac  {e : Expr} {es : List Expr} {te : TE} {t : TA} (ha : QE X e te) (hr : QA X es t) (h : notStar e = true := by rfl) : QA X (e :: es) (tCons te t) := ⟨pac (ha := ha.h) (hr := hr.h) (h := h)⟩
theorem qa_nil  : QA X [] tNil := ⟨pa_nil ⟩
theorem qe_tup  {es : List Expr} {t : TA} {pos : Pos} {x1} (h : QA X es t) : QE X (.Tuple es x1 pos) (tTup t) := ⟨pe_tup (h := h.h)⟩
theorem qe_lst  {es : List Expr} {t : TA} {pos : Pos} (h : QA X es t) : QE X (.List es pos) (tLst t) := ⟨pe_lst (h := h.h)⟩
theorem qe_ix  {a b : Expr} {ta tb : TE} {pos : Pos} {r : R2} (hr : IxR X r) (ha : QE X a ta) (hb : QE X b tb) (hs : PlainIx b) : QE X (.Subscript a b pos) (tOp r ta tb) := ⟨pe_ix (hr := hr) (ha := ha.h) (hb := hb.h) (hs := hs)⟩
theorem qe_slice  {e : Expr} {te : TE} {lo hi : Option Expr} {tl th : TO} {pos p2 : Pos} {r : V → Option Int → Option Int → Hp → VK → Prop} (hr : SlR X r) (he : QE X e te) (hl : QO X lo tl) (hu : QO X hi th) : QE X (.Subscript e (.Slice lo hi none p2) pos) (tSl r te tl th) := ⟨pe_slice (hr := hr) (he := he.h) (hl := hl.h) (hu := hu.h)⟩
theorem qo_none  : QO X none tNoPart := ⟨po_none ⟩
theorem qo_some  {e : Expr} {te : TE} (h : QE X e te) : QO X (some e) (tPart te) := ⟨po_some (h := h.h)⟩
theorem qe_callB  {x : Str} {p pos : Pos} {e : Expr} {es : List Expr} {t : TA} {id : String} {r : List V → Hp → VK → Prop} (hc : CallR X (.builtin id) r) (hg : Gl X x) (hm : X.mg x = none) (hv : bootBuiltins x = some (.builtin id)) (ha : QA X (e :: es) t) (hn : x ≠ "__name__" := by decide) (hdb : (x == ("__debug__" : Str)) = false := by decide) (he : starEach (e :: es) X.env = (false, eval e X.env) :: starEach es X.env := by rfl) (hpl : (backTo pos (starEach es X.env)).any (·.1) = false := by rfl) : QE X (.Call (.Name x p) (e :: es) [] pos) (tCB r t) := ⟨pe_callB (hc := hc) (hg := hg) (hm := hm) (hv := hv) (ha := ha.h) (hn := hn) (hdb := hdb) (he := he) (hpl := hpl)⟩
theorem qe_callTy  {x : Str} {p pos : Pos} {e : Expr} {es : List Expr} {t : TA} {T : String} {r : List V → Hp → VK → Prop} (hc : CallR X (.type T) r) (hg : Gl X x) (hm : X.mg x = none) (hv : bootBuiltins x = some (.type T)) (ha : QA X (e :: es) t) (hn : x ≠ "__name__" := by decide) (hdb : (x == ("__debug__" : Str)) = false := by decide) (he : starEach (e :: es) X.env = (false, eval e X.env) :: starEach es X.env := by rfl) (hpl : (backTo pos (starEach es X.env)).any (·.1) = false := by rfl) : QE X (.Call (.Name x p) (e :: es) [] pos) (tCB r t) := ⟨pe_callTy (hc := hc) (hg := hg) (hm := hm) (hv := hv) (ha := ha.h) (hn := hn) (hdb := hdb) (he := he) (hpl := hpl)⟩
theorem qe_def  {x : Str} {ps : List Str} {k : Nat} {sp : Sp} {e : Expr} {es : List Expr} {p pos : Pos} {t : TA} (D : Df X.prog X.w X.K X.mg X.base x ps k sp) (hr : Room k X.A) (ha : QA X (e :: es) t) (hg : Gl X x := by rfl) (hdb : (x == ("__debug__" : Str)) = false := by decide) (he : starEach (e :: es) X.env = (false, eval e X.env) :: starEach es X.env := by rfl) (hpl : (backTo pos (starEach es X.env)).any (·.1) = false := by rfl) : QE X (.Call (.Name x p) (e :: es) [] pos) (tCall sp [] E0 t) := ⟨pe_def (D := D) (hr := hr) (ha := ha.h) (hg := hg) (hdb := hdb) (he := he) (hpl := hpl)⟩
theorem qss_nil  : QSs X [] tNext := ⟨pss_nil ⟩
theorem qss_cons  {st : Stmt} {rest : List Stmt} {t u : TS} (h1 : QS X st t) (h2 : QSs X rest u) : QSs X (st :: rest) (tSeq t u) := ⟨pss_cons (h1 := h1.h) (h2 := h2.h)⟩
theorem qss_one  {st : Stmt} {t : TS} (h1 : QS X st t) : QSs X [st] t := ⟨pss_one (h1 := h1.h)⟩
theorem qs_set  {pos : Pos} {i : Nat} {x : Str} {e : Expr} {te : TE} {pos' : Pos} (hN : X.N.Nodup) (hi : X.N[i]? = some x) (hx : Loc X.env.scope x) (he : QE X e te) (hs : swapsWith e (some (.Name x pos')) pos.line X.env = pure false := by rfl) (hf : X.fn x = true ∨ X.env.scope.names.lookup x = some .local := by first | exact .inl rfl | exact .inr rfl | assumption) : QS X (.Assign [.Name x pos'] e pos) (tAsg te (gName i)) := ⟨ps_set (hN := hN) (hi := hi) (hx := hx) (he := he.h) (hs := hs) (hf := hf)⟩
theorem qs_asg  {pos : Pos} {tg e : Expr} {te : TE} {g : TG} (he : QE X e te) (hg : QG X tg g) (hs : swapsWithSole [tg] e pos.line X.env = pure false := by rfl) (hw : swappedStores [tg] e X.env = pure none := by rfl) (h1 : (assignEach [tg] X.env).map (·.2) = [assign tg X.env] := by rfl) : QS X (.Assign [tg] e pos) (tAsg te g) := ⟨ps_asg (he := he.h) (hg := hg.h) (hs := hs) (hw := hw) (h1 := h1)⟩
theorem qs_ret  {e : Expr} {te : TE} {pos : Pos} (he : QE X e te) : QS X (.Return (some e) pos) (tRet te) := ⟨ps_ret (he := he.h)⟩
theorem qs_if  {t u : TS} {pos : Pos} {c : Expr} {a b : List Stmt} {tc : TT} (hc : QT X c tc) (ha : QSs X a t) (hb : QSs X b u) : QS X (.If c a b pos) (tIfS tc t u) := ⟨ps_if (hc := hc.h) (ha := ha.h) (hb := hb.h)⟩
theorem qs_for  {tg : Expr} {iter : Expr} {body : List Stmt} {wi : TI} {g : TG} {tb : TS} {pos : Pos} (hp : PassesOwn (model X.prog X.w) X.A X.env X.xe) (hc : X.calm = true) (hi : QI X tg iter wi) (hg : QG X tg g) (hb : QSs X body tb) (hs : ∀ x, foldedSetIterable iter X.env x = pure x := by intro _; rfl) : QS X (.For tg iter body [] pos) (tFor wi g tb) := ⟨ps_for (hp := hp) (hc := hc) (hi := hi.h) (hg := hg.h) (hb := hb.h) (hs := hs)⟩
theorem qs_expr  {e : Expr} {te : TE} {pos : Pos} (he : QE X e te) (hs : swapsWith e none pos.line X.env = pure false := by rfl) : QS X (.Expr e pos) (tDrop te) := ⟨ps_expr (he := he.h) (hs := hs)⟩
theorem qs_augS  {pos : Pos} {o i e : Expr} {to ti te : TE} {tget : V → V → Hp → VK → Prop} {tip : TIp} {tset : TSet} {op : Operator} {tpos : Pos} (ho : QE X o to) (hi : QE X i ti) (hg : PGet X tget) (he : QE X e te) (hp : PIp X op tip) (hs : PSet X tset) (ha : ∀ ov iv new, augStore i ov iv new = (do holding [new, ov, iv] (setItem ov iv new); release [new, ov, iv] []; pure .next) := by intros; rfl) : QS X (.AugAssign (.Subscript o i tpos) op e pos) (tAugS to ti te tget tip tset) := ⟨ps_augS (ho := ho.h) (hi := hi.h) (hg := hg) (he := he.h) (hp := hp) (hs := hs) (ha := ha)⟩
theorem qi_list  {tg : Expr} {l : Expr} {tl : TE} (hl : QE X l tl) : QI X tg l (iList X.K tl) := ⟨pi_list (hl := hl.h)⟩
theorem qi_range1  {tg : Expr} {a : Expr} {ta : TA} {p pos : Pos} (hg : Gl X "range") (hm : X.mg "range" = none) (ha : QA X [a] ta) (hs : starEach [a] X.env = [(false, eval a X.env)] := by rfl) : QI X tg (.Call (.Name "range" p) [a] [] pos) (iRng1 ta) := ⟨pi_range1 (hg := hg) (hm := hm) (ha := ha.h) (hs := hs)⟩
theorem qi_enum  {a : Expr} {ta : TA} {p pos : Pos} {elts : List Expr} {x1} {tpos : Pos} (hg : Gl X "enumerate") (hm : X.mg "enumerate" = none) (ha : QA X [a] ta) (hs : starEach [a] X.env = [(false, eval a X.env)] := by rfl) : QI X (.Tuple elts x1 tpos) (.Call (.Name "enumerate" p) [a] [] pos) (iEnum X.K ta) := ⟨pi_enum (hg := hg) (hm := hm) (ha := ha.h) (hs := hs)⟩
theorem qg_name  {pos : Pos} {i : Nat} {x : Str} (hN : X.N.Nodup) (hi : X.N[i]? = some x) (hx : Loc X.env.scope x) (hf : X.fn x = true ∨ X.env.scope.names.lookup x = some .local := by first | exact .inl rfl | exact .inr rfl | assumption) : QG X (.Name x pos) (gName i) := ⟨pg_name (hN := hN) (hi := hi) (hx := hx) (hf := hf)⟩
theorem qg_tup  {pos : Pos} {es : List Expr} {k : Nat} {t : TGs} {n : Nat} (hc : X.calm = true) (h : QGs X es t) (hn : (assignEach es X.env).length = n := by rfl) (hst : (assignEach es X.env).findIdx? (·.1) = none := by rfl) : QG X (.Tuple es k pos) (gTup X.K n t) := ⟨pg_tup (hc := hc) (h := h.h) (hn := hn) (hst := hst)⟩
theorem qg_sub  {pos : Pos} {o i : Expr} {to ti : TE} {t : TSet} (ho : QE X o to) (hi : QE X i ti) (hs : PSet X t) (ha : ∀ v, assign (.Subscript o i pos) X.env v = (do
      let ov ← holding [v] (eval o X.env)
      let iv ← holding [v, ov] (eval i X.env)
      standAt pos
      holding [v, ov, iv] (setItem ov iv v)
      release [v, ov, iv] []) := by intro _; rfl) : QG X (.Subscript o i pos) (gSub to ti t) := ⟨pg_sub (ho := ho.h) (hi := hi.h) (hs := hs) (ha := ha)⟩
theorem qgs_nil  : QGs X [] gNil := ⟨pgs_nil ⟩
theorem qgs_cons  {e : Expr} {es : List Expr} {t : TG} {u : TGs} (h1 : QG X e t) (h2 : QGs X es u) (hs : (assignEach (e :: es) X.env).map (·.2) = assign e X.env :: (assignEach es X.env).map (·.2) := by rfl) : QGs X (e :: es) (gCons t u) := ⟨pgs_cons (h1 := h1.h) (h2 := h2.h) (hs := hs)⟩
theorem QW.pt {e : Expr} {t : TT} (h : QW X e t) : QT X e t := ⟨PW.pt h.h⟩
theorem qv (i : Nat) {x : Str} {pos : Pos} (hN : X.N[i]? = some x := by rfl) (hv : Vis X.env.scope x := by first | exact Or.inl rfl | exact Or.inr (Or.inl rfl) | exact Or.inr (Or.inr rfl)) (hd : (x == ("__debug__" : Str)) = false := by decide)
    (hcd : (x == ("__classdict__" : Str)) = false := by decide) : QE X (.Name x pos) (tVar i) := ⟨pe_var hN hv hd hcd⟩
theorem qe_comp {elt tg iter : Expr} {scope : Scope} {cl : List (Str × Addr)} {pos : Pos} {fr own : List Str} {js : List Nat} {wi : TI} {g : TG} {te : TE}
    (hc : X.calm = true) (hi : QI X tg iter wi) (hclos : closureFor scope X.env = pure cl) (hcl : ∀ y c, cl.lookup y = some c → X.env.cells.lookup y = some c) (hfr : cl.map (·.1) = fr)
    (S : BScope X scope fr js)
    (hg : ∀ C s H fp, QG (blk X (own ++ fr) scope cl C s H fp) tg g) (he : ∀ C s H fp, QE (blk X (own ++ fr) scope cl C s H fp) elt te)
    (hs : ∀ x, foldedSetIterable iter X.env x = pure x := by intro _; rfl) :
    QE X (.ListComp elt [⟨tg, iter, [], 0⟩] scope pos) (tComp own.length js wi g te) := ⟨pe_comp hc hi.h hclos hcl hfr S (fun C s H fp => (hg C s H fp).h) (fun C s H fp => (he C s H fp).h) hs⟩
section
variable {P : Program} {w : World} {K : PySem.W.Frag} {mg : Str → Option Value} {base : Heap}
theorem At.dq {x : Str} {st : Stmt} {ps N : List Str} {k : Nat} {sp : Sp} (a : At K mg x st ps) (S : FnScope N ps (defScope st)) (len : ∀ vs H Q E, sp vs H Q E → vs.length = ps.length)
    (hbody : ∀ (f : Addr) (cdv : Value) (A : Around) (outer : List Env) (s : Shared) (H : Hp) (vs : List V) (Q : VK) (E : XK), Room k (A.deeper (PyProof.Rows.envOfC x (defScope st) s.heap.objs.size f cdv)) → sp vs H Q E →
      ∃ t, QSs (cxOf CX0 P w K mg base N x (defScope st) f cdv A outer s H E).nox (defBody st) t ∧ t { nx := fun _ H' => Q .non H', rt := Q } (start N vs) H) : Df P w K mg base x ps (k + 1) sp :=
  a.df S len fun f cdv A outer s H vs Q E hr h => let ⟨t, q1, q2⟩ := hbody f cdv A outer s H vs Q E hr h; ⟨t, q1.h, q2⟩
theorem _root_.L2.Fun.dq {x qual : Str} {st : Stmt} {f : Addr} {fd : FuncData} {N ps : List Str} {k : Nat} {sp : Sp} (F : Fun K x qual st f fd) (S : FnScope N ps (defScope st)) (len : ∀ vs H Q E, sp vs H Q E → vs.length = ps.length)
    (hbody : ∀ (cdv : Value) (A : Around) (outer : List Env) (s : Shared) (H : Hp) (vs : List V) (Q : VK) (E : XK), Room k (A.deeper (PyProof.Rows.envOfC qual (defScope st) s.heap.objs.size f cdv)) → sp vs H Q E →
      ∃ t, QSs (cxOf CX0 P w K mg base N qual (defScope st) f cdv A outer s H E).nox (defBody st) t ∧ t { nx := fun _ H' => Q .non H', rt := Q } (start N vs) H) : FnOk P w K mg base CX0 (k + 1) f fd ps sp :=
  F.ok S len fun cdv A outer s H vs Q E hr h => let ⟨t, q1, q2⟩ := hbody cdv A outer s H vs Q E hr h; ⟨t, q1.h, q2⟩
theorem at_mk {x : Str} {st : Stmt} {ps : List Str} {f : Addr} {fd : FuncData} (F : Fun K x x st f fd) (m : mg x = some (.ref f)) (b : Binds K fd ps []) : At K mg x st ps := ⟨f, fd, F, m, F.kp, b⟩
end
end L3
namespace L3
open PySem PySem.Spec PyProof.Rows L2
def digs : List Int := (List.range 16).map fun i => ((i : Nat) : Int)
theorem digs_len : digs.length = 16 := by decide
theorem digs_V : ((List.range 16).map fun i => V.int ((i : Nat) : Int)) = digs.map V.int := by decide +kernel
theorem sorted_unique : ∀ {xs ys : List Int}, xs.Perm ys → xs.Pairwise (· ≤ ·) → ys.Pairwise (· ≤ ·) → xs = ys := fun {xs ys} p h1 h2 =>
  p.eq_of_pairwise (fun a b _ _ => Int.le_antisymm) h1 h2
theorem atI_int {α : Type} {xs : List α} {z : Int} {j : Nat} {v : α} (e : z = (j : Int)) (h : xs[j]? = some v) : atI xs z = some v := by rw [e]; exact atI_nat h
theorem ixN_int {n j : Nat} {z : Int} (e : z = (j : Int)) (h : j < n) : ixN n z = some j := by rw [e]; exact ixN_nat h
end L3
namespace L3
open PySem PySem.Spec PyProof.Rows L2
open Sem (wp)
section
variable {prog : Program} {w : World} {A : Around} {E : Value → Shared → Prop} {s : Shared}
theorem nextT_item {it t : Addr} {i : Nat} {its : Array Value} {x : Value} {Q : Value → Shared → Prop} (hit : s.heap.IsTupleIter it t i) (ht : s.heap.IsTuple t its) (hx : its[i]? = some x)
    (hQ : ∀ h', h'.IsTupleIter it t (i + 1) → Heap.SameBut it s.heap h' → Q x { s with heap := h' }) : wpAny (model prog w) A (Builtin.SmallTypes.nextOf (.ref it)) Q E s := by
  obtain ⟨o, ho, hc, hd⟩ := id hit
  obtain ⟨ol, hol, _, nl, hdl⟩ := ht
  unfold Builtin.SmallTypes.nextOf
  refine wpAny_bind (wpAny_callSpecial?_slot (name := Str.ofString "__next__") hit.typeIs F.slot_tuple_iterator_next
    (wpAny_call_entry F.slot_tuple_iterator_next hit.typeIs F.entry_tuple_iterator_next ?_ (F.args_tuple_iterator_next_1 _)))
  show wpAny _ _ (field (.ref it) 0 >>= _) _ _ s
  refine wpAny_bind (wpAny_field ho hd (x := .ref t) rfl ?_)
  show wpAny _ _ (if (Value.ref t == Value.none) = true then _ else _) _ _ s
  rw [if_neg (show ¬ ((Value.ref t == Value.none) = true) from Bool.false_ne_true)]
  show wpAny _ _ (field (.ref it) 1 >>= _) _ _ s
  refine wpAny_bind (wpAny_field ho hd (x := .int i 0) rfl ?_)
  show wpAny _ _ (seqItems? (.ref t) >>= _) _ _ s
  refine wpAny_bind (wpAny_seqItems hol hdl ?_)
  simp only [Int.toNat_natCast, hx]
  refine wpAny_bind (wpAny_setField ho hd (by simp) (wpAny_pure ⟨x, rfl, wpAny_pure (hQ _ ?_ (Heap.SameBut.update ..))⟩))
  exact ⟨_, Heap.get?_update_self _ ho (Obj.isFreed_of_fields (Obj.data_mapFields hd _)), (Obj.cls_mapFields ..).trans hc, by
    rw [Obj.data_mapFields hd]; simp [rawInt]⟩
theorem nextT_end {it t : Addr} {i : Nat} {its : Array Value} {Q : Value → Shared → Prop} (hh : A.handled = none) (hit : s.heap.IsTupleIter it t i) (ht : s.heap.IsTuple t its) (hx : its[i]? = none)
    (hE : ∀ h' e, Heap.ExtBut it s.heap h' → (∃ o, h'.get? e = some o ∧ o.cls = .type "StopIteration") → E (.ref e) { s with heap := h' }) :
    wpAny (model prog w) A (Builtin.SmallTypes.nextOf (.ref it)) Q E s := by
  obtain ⟨o, ho, hc, hd⟩ := id hit
  obtain ⟨ol, hol, _, nl, hdl⟩ := ht
  unfold Builtin.SmallTypes.nextOf
  refine wpAny_bind (wpAny_callSpecial?_slot (name := Str.ofString "__next__") hit.typeIs F.slot_tuple_iterator_next
    (wpAny_call_entry F.slot_tuple_iterator_next hit.typeIs F.entry_tuple_iterator_next ?_ (F.args_tuple_iterator_next_1 _)))
  show wpAny _ _ (field (.ref it) 0 >>= _) _ _ s
  refine wpAny_bind (wpAny_field ho hd (x := .ref t) rfl ?_)
  show wpAny _ _ (if (Value.ref t == Value.none) = true then _ else _) _ _ s
  rw [if_neg (show ¬ ((Value.ref t == Value.none) = true) from Bool.false_ne_true)]
  show wpAny _ _ (field (.ref it) 1 >>= _) _ _ s
  refine wpAny_bind (wpAny_field ho hd (x := .int i 0) rfl ?_)
  show wpAny _ _ (seqItems? (.ref t) >>= _) _ _ s
  refine wpAny_bind (wpAny_seqItems hol hdl ?_)
  simp only [Int.toNat_natCast, hx]
  refine wpAny_bind (wpAny_rule (wpAny_bind (wpAny_setField ho hd (by simp) ?_)))
  show wpAny _ _ (newExc (.type "StopIteration") [] >>= _) _ _ _
  refine wpAny_bind ?_
  simp only [newExc, newTuple]
  refine wpAny_bind (wpAny_newObj_type ?_ (by size_fits))
  refine wpAny_bind (m := firstArgMember _ _) (wpAny_of_eq (a := Value.none) (by first | rfl | (simp only [firstArgMember]; rfl)) ?_)
  refine wpAny_newObj_type ?_ (by size_fits)
  simp only [raiseNew]
  refine wpAny_bind (wpAny_handled ?_)
  first | rw [show A.in1.handled = none from hh] | rw [hh]
  refine wpAny_bind (wpAny_pure (wpAny_throw ?_))
  exact hE _ _ (((Heap.SameBut.update ..).extBut.push _).push _) ⟨_, Heap.get?_push_size _ rfl, rfl⟩
end
theorem drawsT {prog : Program} {w : World} {A : Around} (hh : A.handled = none) (it t : Addr) (hne : t ≠ it) (its : Array Value) :
    Draws prog w A it [it, t] its.size (fun i v => its[i]? = some v) (fun i h => h.IsTupleIter it t i ∧ h.IsTuple t its) where
  live := fun _ _ st => let ⟨o, ho, _⟩ := st.1; ⟨o, ho⟩
  frame := fun _ _ _ st hk => ⟨st.1.at fun o e => hk it (by simp) o e, let ⟨o, e, r⟩ := st.2; ⟨o, hk t (by simp) o e, r⟩⟩
  item := fun i s Q E hi st hQ => by
    refine nextT_item st.1 st.2 (x := its[i]) (by simp [hi]) fun h' hit' hs' => ?_
    exact hQ _ h' s.toks (by simp [hi]) ⟨hit', let ⟨o, e, r⟩ := st.2; ⟨o, hs'.extBut _ _ hne e, r⟩⟩ hs'
  done := fun s Q E st hE => nextT_end hh st.1 st.2 (by simp) hE
end L3
namespace L3
open PySem PySem.Spec PyProof.Rows L2
open Sem (wp)
structure ZApart (z TI TO i1 i2 : Addr) (f1 f2 : List Addr) : Prop where
  TIz : TI ≠ z
  TOz : TO ≠ z
  i1z : i1 ≠ z
  i2z : i2 ≠ z
  TITO : TI ≠ TO
  TIi1 : TI ≠ i1
  TIi2 : TI ≠ i2
  TOi1 : TO ≠ i1
  TOi2 : TO ≠ i2
  i12 : i1 ≠ i2
  z1 : z ∉ f1
  z2 : z ∉ f2
  t1 : TO ∉ f1
  t2 : TO ∉ f2
  x1 : i2 ∉ f1
  x2 : i1 ∉ f2
section
variable {prog : Program} {w : World} {A : Around} {E : Value → Shared → Prop} {s : Shared} {z TI TO i1 i2 : Addr} {f1 f2 : List Addr} {n1 n2 k : Nat} {P1 P2 : Nat → Value → Prop} {S1 S2 : Nat → Heap → Prop} {a b : Value}
theorem zipD_item {Q : Value → Shared → Prop} (D1 : Draws prog w A i1 f1 n1 P1 S1) (D2 : Draws prog w A i2 f2 n2 P2 S2) (Z : ZApart z TI TO i1 i2 f1 f2)
    (hz : IsZip s.heap z TI TO .none) (hTI : IsPair s.heap TI (.ref i1) (.ref i2)) (hTO : IsPair s.heap TO a b) (q1 : S1 k s.heap) (q2 : S2 k s.heap) (k1 : k < n1) (k2 : k < n2)
    (hQ : ∀ x y h' tk, P1 k x → P2 k y → IsZip h' z TI TO (rawInt s.heap.objs.size) → IsPair h' TO x y → S1 (k + 1) h' → S2 (k + 1) h' → IsPair h' s.heap.objs.size x y →
      (∀ c o, c ≠ z → c ≠ TO → c ≠ i1 → c ≠ i2 → s.heap.get? c = some o → h'.get? c = some o) → Q (.ref s.heap.objs.size) { s with heap := h', toks := tk }) :
    wpAny (model prog w) A (Builtin.«zip.__next__» ⟨[.ref z], []⟩) (fun fin s' => ∃ v, fin = .done (.ret v) ∧ Q v s') E s := by
  obtain ⟨hp, g, d, t0, os⟩ := s
  show wpAny _ _ (field (.ref z) 2 >>= _) _ _ _
  refine wpAny_bind (wpAny_field hz rfl (x := .bool false) rfl ?_)
  show wpAny _ _ (field (.ref z) 3 >>= _) _ _ _
  refine wpAny_bind (wpAny_field hz rfl (x := .ref TI) rfl ?_)
  refine wpAny_bind (wpAny_seqItems hTI rfl ?_)
  show wpAny _ _ (Builtin.SmallTypes.ownedTupleIsFree (.ref z) >>= _) _ _ _
  refine wpAny_bind ?_
  unfold Builtin.SmallTypes.ownedTupleIsFree
  refine wpAny_bind (wpAny_field hz rfl (x := .none) rfl (wpAny_pure ?_))
  simp only [if_true]
  refine wpAny_bind (wpAny_rule ?_)
  refine wpAny_bind (wpAny_field hz rfl (x := .ref TO) rfl ?_)
  refine wpAny_bind (wpAny_setField_rec hz (by simp) fun h₁ hz₁ hs₁ => ?_)
  replace hz₁ : IsZip h₁ z TI TO .ellipsis := hz₁
  replace hs₁ : Heap.SameBut z hp h₁ := hs₁
  refine wpAny_bind ?_
  simp only [List.zipIdx_cons, List.zipIdx_nil, List.forIn_cons, List.forIn_nil]
  refine wpAny_bind (wpAny_bind (wpAny_onRaise ?_))
  show wpAny _ _ (Builtin.SmallTypes.nextOf (.ref i1) >>= _) _ _ _
  have q1a : S1 k h₁ := D1.frame _ _ _ q1 fun c hc o e => hs₁.extBut c o (fun y => Z.z1 (y ▸ hc)) e
  refine wpAny_bind (D1.item k ⟨h₁, g, d, t0, os⟩ _ _ k1 q1a fun x h₂ tk₂ p1 q1b hs₂ => wpAny_pure ?_)
  replace hs₂ : Heap.SameBut i1 h₁ h₂ := hs₂
  have hTO₂ : IsPair h₂ TO a b := hs₂.extBut _ _ Z.TOi1 (hs₁.extBut _ _ Z.TOz hTO)
  refine wpAny_bind (wpAny_seqItems hTO₂ rfl ?_)
  refine wpAny_bind (wpAny_updateSeq_pair hTO₂ fun h₃ hTO₃ hs₃ => ?_)
  replace hTO₃ : IsPair h₃ TO x b := hTO₃
  replace hs₃ : Heap.SameBut TO h₂ h₃ := hs₃
  refine wpAny_bind (wpAny_letGo (wpAny_pure ?_))
  refine wpAny_bind (wpAny_bind (wpAny_onRaise ?_))
  show wpAny _ _ (Builtin.SmallTypes.nextOf (.ref i2) >>= _) _ _ _
  have q2a : S2 k h₃ := D2.frame _ _ _ q2 fun c hc o e => hs₃.extBut c o (fun y => Z.t2 (y ▸ hc)) (hs₂.extBut c o (fun y => Z.x2 (y ▸ hc)) (hs₁.extBut c o (fun y => Z.z2 (y ▸ hc)) e))
  refine wpAny_bind (D2.item k ⟨h₃, g, d, tk₂, os⟩ _ _ k2 q2a fun y h₄ tk₄ p2 q2b hs₄ => wpAny_pure ?_)
  replace hs₄ : Heap.SameBut i2 h₃ h₄ := hs₄
  have hTO₄ : IsPair h₄ TO x b := hs₄.extBut _ _ Z.TOi2 hTO₃
  refine wpAny_bind (wpAny_seqItems hTO₄ rfl ?_)
  refine wpAny_bind (wpAny_updateSeq_pair hTO₄ fun h₅ hTO₅ hs₅ => ?_)
  replace hTO₅ : IsPair h₅ TO x y := hTO₅
  replace hs₅ : Heap.SameBut TO h₄ h₅ := hs₅
  refine wpAny_bind (wpAny_letGo (wpAny_pure (wpAny_pure ?_)))
  refine wpAny_bind (wpAny_seqItems hTO₅ rfl ?_)
  refine wpAny_bind (wpAny_newTuple ?_)
  have hsz : h₅.objs.size = hp.objs.size := by rw [hs₅.1, hs₄.1, hs₃.1, hs₂.1, hs₁.1]
  have hz₅ : IsZip h₅ z TI TO .ellipsis := hs₅.extBut _ _ Z.TOz.symm (hs₄.extBut _ _ Z.i2z.symm (hs₃.extBut _ _ Z.TOz.symm (hs₂.extBut _ _ Z.i1z.symm hz₁)))
  have hk₅ : ∀ c o, c ≠ z → c ≠ TO → c ≠ i1 → c ≠ i2 → hp.get? c = some o → h₅.get? c = some o := fun c o c1 c2 c3 c4 e =>
    hs₅.extBut _ _ c2 (hs₄.extBut _ _ c4 (hs₃.extBut _ _ c2 (hs₂.extBut _ _ c3 (hs₁.extBut _ _ c1 e))))
  have q1c : S1 (k + 1) h₅ := D1.frame _ _ _ q1b fun c hc o e => hs₅.extBut c o (fun y => Z.t1 (y ▸ hc)) (hs₄.extBut c o (fun y => Z.x1 (y ▸ hc)) (hs₃.extBut c o (fun y => Z.t1 (y ▸ hc)) e))
  have q2c : S2 (k + 1) h₅ := D2.frame _ _ _ q2b fun c hc o e => hs₅.extBut c o (fun y => Z.t2 (y ▸ hc)) e
  have hzlt : z < h₅.objs.size := Heap.lt_size hz₅
  show wpAny _ _ (Builtin.SmallTypes.ownedTupleHandOut (.ref z) (.ref h₅.objs.size) >>= _) _ _ _
  refine wpAny_bind ?_
  unfold Builtin.SmallTypes.ownedTupleHandOut
  have hz₆ : IsZip (h₅.push { cls := .type "tuple", data := .seq #[x, y] }) z TI TO .ellipsis := Heap.get?_push_of_some _ hz₅
  refine wpAny_bind (wpAny_setField_rec hz₆ (by simp) fun h₇ hz₇ hs₇ => ?_)
  replace hz₇ : IsZip h₇ z TI TO (rawInt h₅.objs.size) := hz₇
  refine wpAny_setField_rec hz₇ (by simp) fun h₈ hz₈ hs₈ => ?_
  replace hz₈ : IsZip h₈ z TI TO (rawInt h₅.objs.size) := hz₈
  have up : ∀ c o, c ≠ z → h₅.get? c = some o → h₈.get? c = some o := fun c o c1 e => hs₈.extBut _ _ c1 (hs₇.extBut _ _ c1 (Heap.get?_push_of_some _ e))
  have hT₈ : IsPair h₈ h₅.objs.size x y := hs₈.extBut _ _ (Nat.ne_of_gt hzlt) (hs₇.extBut _ _ (Nat.ne_of_gt hzlt) (Heap.get?_push_size _ rfl))
  rw [hsz] at hz₈ hT₈
  refine wpAny_pure ⟨_, rfl, ?_⟩
  show Q (.ref h₅.objs.size) _
  rw [hsz]
  exact hQ x y h₈ tk₄ p1 p2 hz₈ (up _ _ Z.TOz hTO₅) (D1.frame _ _ _ q1c fun c hc o e => up c o (fun y => Z.z1 (y ▸ hc)) e) (D2.frame _ _ _ q2c fun c hc o e => up c o (fun y => Z.z2 (y ▸ hc)) e) hT₈ fun c o c1 c2 c3 c4 e => up c o c1 (hk₅ c o c1 c2 c3 c4 e)
theorem zipD_end {Q : Fin → Shared → Prop} (D1 : Draws prog w A i1 f1 n1 P1 S1) (Z : ZApart z TI TO i1 i2 f1 f2)
    (hz : IsZip s.heap z TI TO .none) (hTI : IsPair s.heap TI (.ref i1) (.ref i2)) (q1 : S1 n1 s.heap)
    (hE : ∀ h' e, (∀ c o, c ≠ z → c ≠ i1 → s.heap.get? c = some o → h'.get? c = some o) → (∃ o, h'.get? e = some o ∧ o.cls = .type "StopIteration") → E (.ref e) { s with heap := h' }) :
    wpAny (model prog w) A (Builtin.«zip.__next__» ⟨[.ref z], []⟩) Q E s := by
  obtain ⟨hp, g, d, t0, os⟩ := s
  show wpAny _ _ (field (.ref z) 2 >>= _) _ _ _
  refine wpAny_bind (wpAny_field hz rfl (x := .bool false) rfl ?_)
  show wpAny _ _ (field (.ref z) 3 >>= _) _ _ _
  refine wpAny_bind (wpAny_field hz rfl (x := .ref TI) rfl ?_)
  refine wpAny_bind (wpAny_seqItems hTI rfl ?_)
  show wpAny _ _ (Builtin.SmallTypes.ownedTupleIsFree (.ref z) >>= _) _ _ _
  refine wpAny_bind ?_
  unfold Builtin.SmallTypes.ownedTupleIsFree
  refine wpAny_bind (wpAny_field hz rfl (x := .none) rfl (wpAny_pure ?_))
  simp only [if_true]
  refine wpAny_bind (wpAny_rule ?_)
  refine wpAny_bind (wpAny_field hz rfl (x := .ref TO) rfl ?_)
  refine wpAny_bind (wpAny_setField_rec hz (by simp) fun h₁ hz₁ hs₁ => ?_)
  replace hz₁ : IsZip h₁ z TI TO .ellipsis := hz₁
  replace hs₁ : Heap.SameBut z hp h₁ := hs₁
  refine wpAny_bind ?_
  simp only [List.zipIdx_cons, List.zipIdx_nil, List.forIn_cons, List.forIn_nil]
  refine wpAny_bind (wpAny_bind (wpAny_onRaise ?_))
  show wpAny _ _ (Builtin.SmallTypes.nextOf (.ref i1) >>= _) _ _ _
  have q1a : S1 n1 h₁ := D1.frame _ _ _ q1 fun c hc o e => hs₁.extBut c o (fun y => Z.z1 (y ▸ hc)) e
  refine wpAny_bind (D1.done ⟨h₁, g, d, t0, os⟩ _ _ q1a fun h₂ e hs₂ he => ?_)
  obtain ⟨oe, hoe, hce⟩ := he
  replace hs₂ : Heap.ExtBut i1 h₁ h₂ := hs₂
  have hz₂ : IsZip h₂ z TI TO .ellipsis := hs₂ _ _ Z.i1z.symm hz₁
  have hez : e ≠ z := fun x => by subst x; rw [hz₂] at hoe; cases hoe; simp at hce
  refine wpAny_setField_rec hz₂ (by simp) fun h₃ _ hs₃ => hE h₃ e (fun c o c1 c3 x => hs₃.extBut _ _ c1 (hs₂ _ _ c3 (hs₁.extBut _ _ c1 x))) ⟨oe, hs₃.extBut _ _ hez hoe, hce⟩
end
abbrev zT1 (h : Heap) (l1 : Addr) : Heap := h.push { cls := .type "tuple_iterator", data := .fields #[.ref l1, .int 0 0] }
abbrev zT2 (h : Heap) (l1 l2 : Addr) : Heap := (zT1 h l1).push { cls := .type "tuple_iterator", data := .fields #[.ref l2, .int 0 0] }
abbrev zT3 (h : Heap) (l1 l2 : Addr) : Heap := (zT2 h l1 l2).push { cls := .type "tuple", data := .seq #[.ref h.objs.size, .ref (zT1 h l1).objs.size] }
abbrev zT4 (h : Heap) (l1 l2 : Addr) : Heap := (zT3 h l1 l2).push { cls := .type "tuple", data := .seq #[.none, .none] }
abbrev zT5 (h : Heap) (l1 l2 : Addr) : Heap := (zT4 h l1 l2).push { cls := .type "zip", data := .fields #[.none, .bool false, .bool false, .ref (zT2 h l1 l2).objs.size, .ref (zT3 h l1 l2).objs.size] }
theorem meetsT_zip (l1 l2 : Addr) (xs ys : Array Value) :
    Meets (Builtin.«zip.__new__» ⟨[.type "zip", .ref l1, .ref l2], []⟩) (fun _ R s => s.heap.IsTuple l1 xs ∧ s.heap.IsTuple l2 ys ∧
      R (.ok (.ret (.ref (zT4 s.heap l1 l2).objs.size))) { s with heap := zT5 s.heap l1 l2 }) :=
  .of_wp fun prog w A R s h => by
    obtain ⟨hp, g, d, tk, os⟩ := s; obtain ⟨hl1, hl2, h⟩ := h
    have hsub := sub_zip
    have hL1 : Heap.IsTuple (Shared.heap ⟨hp, g, d, tk, os⟩) l1 xs := hl1
    have hL2 : Heap.IsTuple (Shared.heap ⟨hp.push { cls := .type "tuple_iterator", data := .fields #[.ref l1, .int 0 0] }, g, d, tk, os⟩) l2 ys := let ⟨o, e, r⟩ := hl2; ⟨o, Heap.get?_push_of_some _ e, r⟩
    wp_walk using wpAny_pyIter_tuple hL1, wpAny_pyIter_tuple hL2
    exact ⟨_, rfl, h⟩
section
variable {prog : Program} {w : World} {A : Around} {E : Value → Shared → Prop} {s : Shared}
theorem callT_zip {l1 l2 : Addr} {xs ys : Array Value} {Q : Value → Shared → Prop} (hl1 : s.heap.IsTuple l1 xs) (hl2 : s.heap.IsTuple l2 ys)
    (h : ∀ h', IsZip h' (s.heap.objs.size + 4) (s.heap.objs.size + 2) (s.heap.objs.size + 3) .none → IsPair h' (s.heap.objs.size + 2) (.ref s.heap.objs.size) (.ref (s.heap.objs.size + 1)) →
      IsPair h' (s.heap.objs.size + 3) .none .none → h'.IsTupleIter s.heap.objs.size l1 0 → h'.IsTupleIter (s.heap.objs.size + 1) l2 0 →
      (∀ c o, s.heap.get? c = some o → h'.get? c = some o) → Q (.ref (s.heap.objs.size + 4)) { s with heap := h' }) :
    wpAny (model prog w) A (call (.type "zip") [.ref l1, .ref l2]) Q E s := by
  refine callType_new F.called_zip (by decide) (F.typeCall_zip_2 _ _) (F.newCall_zip_2 _ _) (fun obj => F.args_object_init_3 obj _ _) F.entry_zip_new
    (meetsT_zip l1 l2 xs ys) ⟨hl1, hl2, ?_⟩
  have z1 : (zT1 s.heap l1).objs.size = s.heap.objs.size + 1 := Heap.size_push ..
  have z2 : (zT2 s.heap l1 l2).objs.size = s.heap.objs.size + 2 := by rw [Heap.size_push, z1]
  have z3 : (zT3 s.heap l1 l2).objs.size = s.heap.objs.size + 3 := by rw [Heap.size_push, z2]
  have z4 : (zT4 s.heap l1 l2).objs.size = s.heap.objs.size + 4 := by rw [Heap.size_push, z3]
  have g5 : (zT5 s.heap l1 l2).get? (zT4 s.heap l1 l2).objs.size = some _ := Heap.get?_push_size _ rfl
  have g4 : (zT5 s.heap l1 l2).get? (zT3 s.heap l1 l2).objs.size = some _ := Heap.get?_push_of_some _ (Heap.get?_push_size _ rfl)
  have g3 : (zT5 s.heap l1 l2).get? (zT2 s.heap l1 l2).objs.size = some _ := Heap.get?_push_of_some _ (Heap.get?_push_of_some _ (Heap.get?_push_size _ rfl))
  have g2 : (zT5 s.heap l1 l2).get? (zT1 s.heap l1).objs.size = some _ := Heap.get?_push_of_some _ (Heap.get?_push_of_some _ (Heap.get?_push_of_some _ (Heap.get?_push_size _ rfl)))
  have g1 : (zT5 s.heap l1 l2).get? s.heap.objs.size = some _ := Heap.get?_push_of_some _ (Heap.get?_push_of_some _ (Heap.get?_push_of_some _ (Heap.get?_push_of_some _ (Heap.get?_push_size _ rfl))))
  show _ ∧ _
  rw [z2, z3, z4] at g5
  rw [z1, z2] at g3
  rw [z3] at g4
  rw [z1] at g2
  rw [z4]
  exact ⟨⟨_, g5, rfl⟩, h _ g5 g3 g4 ⟨_, g1, rfl, rfl⟩ ⟨_, g2, rfl, rfl⟩ fun c o x =>
    Heap.get?_push_of_some _ (Heap.get?_push_of_some _ (Heap.get?_push_of_some _ (Heap.get?_push_of_some _ (Heap.get?_push_of_some _ x))))⟩
end
section
variable {X : Cx} {pins : List (Addr × Obj)} {σ : L2.St} {H : Hp} {s : Shared}
theorem turnedC {h' : Heap} {t' : Nat} {ch : List Addr} (I : L2.Inv X pins σ H s) (k : ∀ b o, b ∉ ch → s.heap.get? b = some o → h'.get? b = some o) (hch : ∀ b ∈ ch, FpOk X pins H b) : L2.Inv X pins σ H { s with heap := h', toks := t' } := by
  have nch : ∀ b u, H b = some u → b ∉ ch := fun b u e z => by rw [(hch b z).1] at e; cases e
  refine I.step (g' := s.gens) (d' := s.drawn) (ch := ch) (fun b hb => ⟨(hch b hb).2.2.2.1, (hch b hb).2.1, (hch b hb).2.2.2.2.1, (hch b hb).2.2.2.2.2⟩) (fun b o _ _ hc e _ => k b o hc e) (fun b o _ _ hc e _ => ⟨o.slots, k b o hc e⟩)
    (fun _ _ _ _ n => n) (fun b o hc e => ⟨o, k b o hc e⟩) (fun _ _ e => e) (fun _ _ _ e => e) (fun b ps e => ⟨#[], by rw [e]; simp⟩) (fun m hm => ?_) (fun b u e => ?_) I.bare
  · obtain ⟨o, es, ep, ho, r⟩ := hm
    exact ⟨o, es, ep, k _ o (fun z => (hch _ z).2.1 rfl) ho, r⟩
  · refine (I.hok b u e).stay (fun c v hc q => k c v ?_ q) (fun _ q => q) fun _ _ q => q
    rcases hc with z | z
    · rw [z]; exact nch b u e
    · exact nch c _ z
theorem rd_ne {H : Hp} {a b : Addr} {u : HO} (h : Rd H a u) (h' : H b = none) : a ≠ b := by
  rcases h with h | ⟨o, h⟩
  · exact ne_of_none h h'
  · exact ne_of_none h h'
def Itz (a1 a2 : Addr) : It :=
  ⟨fun i H => ∃ xs ys x y, Rd H a1 (.tup xs) ∧ Rd H a2 (.tup ys) ∧ xs[i]? = some x ∧ ys[i]? = some y,
   fun i H v H' => ∃ p x y, H p = none ∧ v = .ref p ∧ (∀ xs, Rd H a1 (.tup xs) → xs[i]? = some x) ∧ (∀ ys, Rd H a2 (.tup ys) → ys[i]? = some y) ∧ H' = upd H p (.tup [x, y]),
   fun i H => ∃ xs, Rd H a1 (.tup xs) ∧ xs.length = i⟩
theorem turn_zip {P : Program} {w : World} {K : PySem.W.Frag} {elts : List Expr} {x1} {pos : Pos} (a1 a2 z TI TO i1 i2 : Addr) (d1 : TI ≠ z) (d2 : TO ≠ z) (d3 : i1 ≠ z) (d4 : i2 ≠ z) (d5 : TI ≠ TO) (d6 : TI ≠ i1) (d7 : TI ≠ i2) (d8 : TO ≠ i1) (d9 : TO ≠ i2) (d10 : i1 ≠ i2) :
    Turn P w K (.Tuple elts x1 pos) (Itz a1 a2) [z, TI, TO, i1, i2] z (fun i h => IsZip h z TI TO .none ∧ IsPair h TI (.ref i1) (.ref i2) ∧ (∃ a b, IsPair h TO a b) ∧ h.IsTupleIter i1 a1 i ∧ h.IsTupleIter i2 a2 i) where
  mem := by simp
  obj := fun i h st b hb => by
    obtain ⟨hz, hTI, ⟨a, b', hTO⟩, ⟨o1, ho1, _, hd1⟩, ⟨o2, ho2, _, hd2⟩⟩ := st
    simp only [List.mem_cons, List.not_mem_nil, or_false] at hb
    rcases hb with rfl | rfl | rfl | rfl | rfl
    · exact ⟨_, hz, fun v y => by have y' : Data.fields _ = Data.cell v := y; cases y'⟩
    · exact ⟨_, hTI, fun v y => by have y' : Data.seq _ _ = Data.cell v := y; cases y'⟩
    · exact ⟨_, hTO, fun v y => by have y' : Data.seq _ _ = Data.cell v := y; cases y'⟩
    · exact ⟨_, ho1, fun v y => by rw [hd1] at y; cases y⟩
    · exact ⟨_, ho2, fun v y => by rw [hd2] at y; cases y⟩
  keep := fun i h h' st k => by
    obtain ⟨hz, hTI, ⟨a, b', hTO⟩, h1, h2⟩ := st
    exact ⟨k z (by simp) _ hz, k TI (by simp) _ hTI, ⟨a, b', k TO (by simp) _ hTO⟩, h1.at fun o e => k i1 (by simp) o e, h2.at fun o e => k i2 (by simp) o e⟩
  item := by
    intro X hP hw hK hc i pins s σ H E I hf st hg
    subst hP hw hK
    obtain ⟨xs, ys, x, y, ha1, ha2, hx, hy⟩ := hg
    obtain ⟨its, rv, p, hz0⟩ := I.tuple (.inl ha1)
    obtain ⟨its2, rv2, p2, hz2⟩ := I.tuple (.inl ha2)
    obtain ⟨u, hu, ru⟩ := rv.get hx
    obtain ⟨u2, hu2, ru2⟩ := rv2.get hy
    obtain ⟨hz, hTI, ⟨a, b', hTO⟩, h1, h2⟩ := st
    have n1 : ∀ c ∈ [z, TI, TO, i1, i2], a1 ≠ c := fun c hc => rd_ne ha1 (hf c hc).1
    have n2 : ∀ c ∈ [z, TI, TO, i1, i2], a2 ≠ c := fun c hc => rd_ne ha2 (hf c hc).1
    have Z : ZApart z TI TO i1 i2 [i1, a1] [i2, a2] := ⟨d1, d2, d3, d4, d5, d6, d7, d8, d9, d10, by simp [Ne.symm d3, Ne.symm (n1 z (by simp))], by simp [Ne.symm d4, Ne.symm (n2 z (by simp))], by simp [d8, Ne.symm (n1 TO (by simp))], by simp [d9, Ne.symm (n2 TO (by simp))], by simp [Ne.symm d10, Ne.symm (n1 i2 (by simp))], by simp [d10, Ne.symm (n2 i1 (by simp))]⟩
    have hil : i < its.toArray.size := by have := (List.getElem?_eq_some_iff.mp hu).1; simpa using this
    have hil2 : i < its2.toArray.size := by have := (List.getElem?_eq_some_iff.mp hu2).1; simpa using this
    have hT : s.TypeIs (.ref z) "zip" := ⟨_, hz, rfl⟩
    unfold pyNext
    refine wpAny_bind (wpAny_attempt (wpAny_callSpecial?_slot (name := Str.ofString "__next__") hT F.slot_zip_next
      (wpAny_call_entry F.slot_zip_next hT F.entry_zip_next
        (zipD_item (drawsT (A := X.A.in1) (I.ok.hd hc) i1 a1 (n1 i1 (by simp)) its.toArray) (drawsT (A := X.A.in1) (I.ok.hd hc) i2 a2 (n2 i2 (by simp)) its2.toArray) Z hz hTI hTO ⟨h1, p⟩ ⟨h2, p2⟩ hil hil2
          fun v v2 h' tk hv hv2 ho hTO' q1 q2 ht hk => wpAny_pure ⟨_, rfl, ?_⟩) (F.args_zip_next_1 _))))
    have ev : v = u := by
      have hv' : its[i]? = some v := by simpa using hv
      rw [hu] at hv'; exact (Option.some.inj hv').symm
    have ev2 : v2 = u2 := by
      have hv' : its2[i]? = some v2 := by simpa using hv2
      rw [hu2] at hv'; exact (Option.some.inj hv').symm
    subst ev ev2
    refine wpAny_letOwnedTupleGo_zip ho fun h'' hz'' hs'' => ?_
    have lt : ∀ c ∈ [z, TI, TO, i1, i2], c < s.heap.objs.size := fun c hc => by
      simp only [List.mem_cons, List.not_mem_nil, or_false] at hc
      rcases hc with rfl | rfl | rfl | rfl | rfl
      · exact Heap.lt_size hz
      · exact Heap.lt_size hTI
      · exact Heap.lt_size hTO
      · obtain ⟨_, e, _⟩ := h1; exact Heap.lt_size e
      · obtain ⟨_, e, _⟩ := h2; exact Heap.lt_size e
    have hTI' : IsPair h'' TI (.ref i1) (.ref i2) := hs''.extBut _ _ d1 (hk _ _ d1 d5 d6 d7 hTI)
    have hTO'' : IsPair h'' TO v v2 := hs''.extBut _ _ d2 hTO'
    have h1' : h''.IsTupleIter i1 a1 (i + 1) := q1.1.extBut hs''.extBut d3
    have h2' : h''.IsTupleIter i2 a2 (i + 1) := q2.1.extBut hs''.extBut d4
    refine ⟨.ref s.heap.objs.size, upd H s.heap.objs.size (.tup [x, y]), ?_, rfl, ⟨_, x, y, I.hok.fresh (Nat.le_refl _), rfl, fun zs hy' => by rw [I.tuple_inj (.inl hy') (.inl ha1)]; exact hx, fun zs hy' => by rw [I.tuple_inj (.inl hy') (.inl ha2)]; exact hy, rfl⟩, ⟨hz'', hTI', ⟨_, _, hTO''⟩, h1', h2'⟩, ?_⟩
    · show L2.Inv X pins σ _ { s with heap := h'', toks := tk }
      refine turnedT (s := s) (its := [v, v2]) I (ch := [z, TI, TO, i1, i2]) (fun b o hb q => ?_) hf (fun b hb => ?_) (Nat.le_refl _) (by show 2 ≤ sizeLine; decide) (.cons ru (.cons ru2 .nil)) ?_
      · simp only [List.mem_cons, List.not_mem_nil, or_false, not_or] at hb
        exact hs''.extBut b o hb.1 (hk b o hb.1 hb.2.2.1 hb.2.2.2.1 hb.2.2.2.2 q)
      · simp only [List.mem_cons, List.not_mem_nil, or_false] at hb
        rcases hb with rfl | rfl | rfl | rfl | rfl
        · exact ⟨_, hz''⟩
        · exact ⟨_, hTI'⟩
        · exact ⟨_, hTO''⟩
        · obtain ⟨o, e, _⟩ := h1'; exact ⟨o, e⟩
        · obtain ⟨o, e, _⟩ := h2'; exact ⟨o, e⟩
      · exact ⟨_, hs''.extBut _ _ (Nat.ne_of_gt (lt z (by simp))) ht, rfl, _, rfl⟩
    · intro b hb
      rw [upd_ne (Nat.ne_of_lt (lt b hb))]
      exact (hf b hb).1
  done := by
    intro X hP hw hK hc i pins s σ H E I hf st hg
    subst hP hw hK
    obtain ⟨xs, ha1, hx⟩ := hg
    obtain ⟨its, rv, p, hz0⟩ := I.tuple (.inl ha1)
    obtain ⟨hz, hTI, ⟨a, b', hTO⟩, h1, h2⟩ := st
    have n1 : ∀ c ∈ [z, TI, TO, i1, i2], a1 ≠ c := fun c hc => rd_ne ha1 (hf c hc).1
    have Z : ZApart z TI TO i1 i2 [i1, a1] [i2] := ⟨d1, d2, d3, d4, d5, d6, d7, d8, d9, d10, by simp [Ne.symm d3, Ne.symm (n1 z (by simp))], by simp [Ne.symm d4], by simp [d8, Ne.symm (n1 TO (by simp))], by simp [d9], by simp [Ne.symm d10, Ne.symm (n1 i2 (by simp))], by simp [d10]⟩
    have hl : its.toArray.size = i := by rw [List.size_toArray, ← rv.length]; exact hx
    have hT : s.TypeIs (.ref z) "zip" := ⟨_, hz, rfl⟩
    unfold pyNext
    refine wpAny_bind (wpAny_attempt (wpAny_callSpecial?_slot (name := Str.ofString "__next__") hT F.slot_zip_next
      (wpAny_call_entry F.slot_zip_next hT F.entry_zip_next
        (zipD_end (drawsT (A := X.A.in1) (I.ok.hd hc) i1 a1 (n1 i1 (by simp)) its.toArray) Z hz hTI ⟨by rw [hl]; exact h1, p⟩ fun h' e hk he => ?_) (F.args_zip_next_1 _))))
    obtain ⟨o, ho, hcl⟩ := he
    refine wpAny_bind (wpAny_isInstance (T := "StopIteration") (b := true) ⟨o, ho, hcl⟩ isSubtype_stop ?_)
    refine wpAny_pure ⟨rfl, turnedC (t' := s.toks) I (ch := [z, i1]) (fun b o hb e => ?_) (fun b hb => hf b ?_)⟩
    · simp only [List.mem_cons, List.not_mem_nil, or_false, not_or] at hb
      exact hk b o hb.1 hb.2 e
    · simp only [List.mem_cons, List.not_mem_nil, or_false] at hb
      rcases hb with rfl | rfl <;> simp
  self := fun _ _ _ _ _ st h => wpAny_pyIter_zip st.1 h
def iZip (ta : TA) : TI := fun σ H R => ta σ H fun vs H1 => ∃ a1 a2 xs ys, vs = [.ref a1, .ref a2] ∧ Rd H1 a1 (.tup xs) ∧ Rd H1 a2 (.tup ys) ∧ R (Itz a1 a2) H1
theorem pi_zip {a b : Expr} {ta : TA} {p pos : Pos} {elts : List Expr} {x1} {tpos : Pos} (hg : Gl X "zip") (hm : X.mg "zip" = none) (ha : PA X [a, b] ta) (h1 : notStar a = true := by rfl) (h2 : notStar b = true := by rfl) :
    PI X (.Tuple elts x1 tpos) (.Call (.Name "zip" p) [a, b] [] pos) (iZip ta) := by
  intro pins s σ H R I h
  have hs2 : starEach [b] X.env = [(false, eval b X.env)] := star_cons h2
  refine Call_ (ld_blt I hg hm boot_zip (PyProof.Rows.callWith_type1 (thn (ha pos pins s σ H _ I h) fun us s1 ⟨vs, H1, I1, r1, q1⟩ => ?_) (by rw [star_cons h1, hs2]) (by rw [hs2]; rfl)))
  obtain ⟨a1, a2, xs, ys, e, e1, e2, q⟩ := q1
  subst e
  obtain ⟨u, v, rfl, ru, rv⟩ := r1.two
  cases ru
  cases rv
  obtain ⟨its, r1', p1, hz⟩ := I1.tuple (.inl e1)
  obtain ⟨its2, r2', p2, hz2⟩ := I1.tuple (.inl e2)
  have ad : ∀ (n i j : Nat), i ≠ j → n + i ≠ n + j := fun n i j h => by omega
  refine callT_zip (show s1.heap.IsTuple a1 its.toArray from p1) (show s1.heap.IsTuple a2 its2.toArray from p2) fun h' hz hTI hTO h1 h2 hk => wpAny_pyIter_zip hz ?_
  refine ⟨s1.heap.objs.size + 4, [s1.heap.objs.size + 4, s1.heap.objs.size + 2, s1.heap.objs.size + 3, s1.heap.objs.size, s1.heap.objs.size + 1], _, _, H1, rfl, I1.kept (t' := s1.toks) hk,
    turn_zip a1 a2 (s1.heap.objs.size + 4) (s1.heap.objs.size + 2) (s1.heap.objs.size + 3) s1.heap.objs.size (s1.heap.objs.size + 1) (ad _ 2 4 (by decide)) (ad _ 3 4 (by decide)) (ad _ 0 4 (by decide)) (ad _ 1 4 (by decide)) (ad _ 2 3 (by decide)) (ad _ 2 0 (by decide)) (ad _ 2 1 (by decide)) (ad _ 3 0 (by decide)) (ad _ 3 1 (by decide)) (ad _ 0 1 (by decide)), ⟨hz, hTI, ⟨_, _, hTO⟩, h1, h2⟩, fun b hb => ?_, q⟩
  have hb' : s1.heap.objs.size ≤ b := by
    simp only [List.mem_cons, List.not_mem_nil, or_false] at hb
    rcases hb with rfl | rfl | rfl | rfl | rfl
    · exact Nat.le_add_right _ 4
    · exact Nat.le_add_right _ 2
    · exact Nat.le_add_right _ 3
    · exact Nat.le_refl _
    · exact Nat.le_add_right _ 1
  exact I1.fpOk hb' (I1.hok.fresh hb')
end
theorem comp_zip {K : PySem.W.Frag} {js : List Nat} {te : TE} {σ : L2.St} {H : Hp} {Q : VK} {a1 a2 : Addr} {xs ys : List V} (hl : xs.length = ys.length) (hn : xs.length ≤ sizeLine) (Pv : Nat → List V → Hp → Prop) (h0 : Pv 0 [] H)
    (hk : ∀ i zs H, Pv i zs H → Rd H a1 (.tup xs) ∧ Rd H a2 (.tup ys))
    (hs : ∀ i zs H p x y, xs[i]? = some x → ys[i]? = some y → zs.length = i → Pv i zs H → H p = none → te (some x :: some y :: frees js σ) (upd H p (.tup [x, y])) fun v H3 => Pv (i + 1) (zs ++ [v]) H3)
    (hd : ∀ zs H, zs.length = xs.length → Pv xs.length zs H → ∀ p, H p = none → Q (.ref p) (upd H p (.lst zs))) :
    CompG 2 js (gTup K 2 (gCons (gName 0) (gCons (gName 1) gNil))) te σ Q (Itz a1 a2) H := by
  refine ⟨fun i m zs τ H => m = xs.length - i ∧ i ≤ xs.length ∧ zs.length = i ∧ Pv i zs H ∧ ∃ o o', τ = o :: o' :: frees js σ, ⟨xs.length, by simp, Nat.zero_le _, rfl, h0, none, none, rfl⟩, ?_⟩
  rintro i m zs τ H ⟨rfl, hi, hzl, p, o, o', rfl⟩
  obtain ⟨e1, e2⟩ := hk i zs H p
  by_cases hlt : i < xs.length
  · have hlt2 : i < ys.length := by omega
    refine .inr ⟨⟨xs, ys, xs[i], ys[i], e1, e2, by simp [hlt], by simp [hlt2]⟩, by omega, fun v H' y => ?_⟩
    obtain ⟨pp, x, y, hp, rfl, hx, hy, rfl⟩ := y
    refine ⟨pp, _, rfl, SqT.of upd_same, rfl, _, _, rfl, _, _, rfl, rfl, ?_⟩
    exact ⟨fun v H3 => Pv (i + 1) (zs ++ [v]) H3, fun v H3 p3 => ⟨xs.length - (i + 1), by omega, rfl, hlt, by simp [hzl], p3, _, _, rfl⟩, hs i zs _ pp x y (hx xs e1) (hy ys e2) hzl p hp⟩
  · have e : i = xs.length := by omega
    subst e
    exact .inl ⟨⟨xs, e1, rfl⟩, hd zs H hzl p⟩
end L3
namespace L3
open PySem PySem.Spec PyProof.Rows L2 PySem.SeqAt
open Sem (wp)
open AutoSeq1 (wpAny_loadPart')
section
variable {X : Cx}
theorem Rd.same {H H' : Hp} {a : Addr} {u : HO} (s : Same H H') (h : Rd H a u) : Rd H' a u := by
  rcases h with h | ⟨o, h⟩
  · exact .inl (s _ _ h)
  · exact .inr ⟨o, s _ _ h⟩
inductive Ty2 (H : Hp) : V → String → Prop where
  | int (i : Int) : Ty2 H (.int i) "int"
  | bl (b : Bool) : Ty2 H (.bl b) "bool"
  | tup {a : Addr} {xs : List V} (h : Rd H a (.tup xs)) : Ty2 H (.ref a) "tuple"
  | str (x : Str) : Ty2 H (.str x) "str"
  | non : Ty2 H .non "NoneType"
  | lst {a : Addr} {xs : List V} (h : H a = some (.lst xs)) : Ty2 H (.ref a) "list"
theorem ty2_mem {H : Hp} {x : V} {t : String} (h : Ty2 H x t) : t ∈ tysL := by cases h <;> simp
theorem kit_any (K : PySem.W.Frag) {t : String} (ht : t ∈ tysL) : ∀ cs : List String, (∀ c ∈ cs, c ∈ clsL) → PySem.W.kitAny K (.type t) (cs.map Value.type) = some (cs.any (subT t))
  | [], _ => rfl
  | c :: r, h => by
    have e := kit_tab K t ht c (h c List.mem_cons_self)
    have ih := kit_any K ht r fun d hd => h d (List.mem_cons_of_mem _ hd)
    simp only [List.map_cons, PySem.W.kitAny, e, List.any_cons]
    cases subT t c with
    | true => rfl
    | false => simpa using ih
theorem call_isiA : CallR X (.builtin "isinstance") (fun xs H Q => ∃ x c t, xs = [x, .ty c] ∧ Ty2 H x t ∧ c ∈ clsL ∧ Q (.bl (subT t c)) H) := by
  intro pins s σ H xs us Q I r h
  obtain ⟨x, c, t, rfl, ty, hc, q⟩ := h
  obtain ⟨u, v, rfl, ru, rv⟩ := vals2 r
  cases (show v = Value.type c from rv)
  have e := kit_tab X.K t (ty2_mem ty) c hc
  have fin : ∀ tk, EP X pins σ Q (.bool (subT t c)) { s with toks := tk } := fun tk => ⟨.bl _, H, I.tok tk, rfl, q⟩
  cases ty with
  | int i => obtain ⟨t, q⟩ := (show ∃ t, u = Value.int i t from ru); cases q; exact PySem.W.kia_one PySem.W.kitx_int I.kIn True.intro e (fun z => nomatch z) fin
  | bl b => cases (show u = Value.bool b from ru); exact PySem.W.kia_one PySem.W.kitx_bool I.kIn True.intro e (fun z => nomatch z) fin
  | @tup a ys hr =>
    cases (show u = Value.ref a from ru)
    obtain ⟨its, _, ⟨o, h1, h2, _⟩, _⟩ := I.tuple (.inl hr)
    exact PySem.W.kia_one PySem.W.kitx_tuple I.kIn ⟨o, h1, h2⟩ e (fun z => nomatch z) fin
  | str x => obtain ⟨t, q⟩ := (show ∃ t, u = Value.str x t from ru); cases q; exact PySem.W.kia_one PySem.W.kitx_str I.kIn True.intro e (fun z => nomatch z) fin
  | non => cases (show u = Value.none from ru); exact PySem.W.kia_one PySem.W.kitx_none I.kIn True.intro e (fun z => nomatch z) fin
  | @lst a ys ea =>
    cases (show u = Value.ref a from ru)
    obtain ⟨_, _, n, _, h1⟩ := (show ObjOk X.prog X.w H s.heap a (.lst ys) from I.hok a _ ea)
    exact PySem.W.kia_one PySem.W.kitx_list I.kIn ⟨_, h1, rfl⟩ e (fun z => nomatch z) fin
theorem vals_tys : ∀ {cs : List String} {us : List Value}, Vals (cs.map V.ty) us → us = cs.map Value.type
  | [], _, .nil => rfl
  | c :: cs, _, .cons r t => by
    cases (show _ = Value.type c from r)
    rw [vals_tys t]; rfl
theorem call_isiB : CallR X (.builtin "isinstance") (fun xs H Q => ∃ (x : V) (p : Addr) (cs : List String) (t : String), xs = [x, .ref p] ∧ H p = some (.tup (cs.map V.ty)) ∧ Ty2 H x t ∧ (∀ c ∈ cs, c ∈ clsL) ∧ Q (.bl (cs.any (subT t))) H) := by
  intro pins s σ H xs us Q I r h
  obtain ⟨x, p, cs, t, rfl, hp, ty, hc, q⟩ := h
  obtain ⟨u, v, rfl, ru, rv⟩ := vals2 r
  cases (show v = Value.ref p from rv)
  obtain ⟨its, rvs, ⟨⟨cl, dd, dt, sl⟩, ho, hcl, n, hdt⟩, _⟩ := I.tuple (SqT.of hp)
  replace hcl : cl = .type "tuple" := hcl
  replace hdt : dt = .seq its.toArray n := hdt
  subst hcl hdt
  have e := kit_any X.K (ty2_mem ty) cs hc
  rw [← vals_tys rvs] at e
  have fin : ∀ tk, EP X pins σ Q (.bool (cs.any (subT t))) { s with toks := tk } := fun tk => ⟨.bl _, H, I.tok tk, rfl, q⟩
  cases ty with
  | int i => obtain ⟨t, q⟩ := (show ∃ t, u = Value.int i t from ru); cases q; exact PySem.W.kia_tup PySem.W.kitx_int I.kIn True.intro ho e (fun z => nomatch z) fin
  | bl b => cases (show u = Value.bool b from ru); exact PySem.W.kia_tup PySem.W.kitx_bool I.kIn True.intro ho e (fun z => nomatch z) fin
  | @tup a ys hr =>
    cases (show u = Value.ref a from ru)
    obtain ⟨its', _, ⟨o, h1, h2, _⟩, _⟩ := I.tuple (.inl hr)
    exact PySem.W.kia_tup PySem.W.kitx_tuple I.kIn ⟨o, h1, h2⟩ ho e (fun z => nomatch z) fin
  | str x => obtain ⟨t, q⟩ := (show ∃ t, u = Value.str x t from ru); cases q; exact PySem.W.kia_tup PySem.W.kitx_str I.kIn True.intro ho e (fun z => nomatch z) fin
  | non => cases (show u = Value.none from ru); exact PySem.W.kia_tup PySem.W.kitx_none I.kIn True.intro ho e (fun z => nomatch z) fin
  | @lst a ys ea =>
    cases (show u = Value.ref a from ru)
    obtain ⟨_, _, n, _, h1⟩ := (show ObjOk X.prog X.w H s.heap a (.lst ys) from I.hok a _ ea)
    exact PySem.W.kia_tup PySem.W.kitx_list I.kIn ⟨_, h1, rfl⟩ ho e (fun z => nomatch z) fin
theorem op_neL (hu : X.A.units + 1 < cLine) : OpR X (compareOp .NotEq) (rEqL X.K true) := by
  intro pins s σ H x y v u Q I rx ry h
  obtain ⟨a, b, ns, ms, rfl, rfl, ha, hb, q⟩ := h
  cases rx
  cases ry
  obtain ⟨its, r1, p1, _⟩ := I.list ha
  obtain ⟨its2, r2, p2, _⟩ := I.list hb
  have l1 : ns.length = its.length := by have := r1.length; rwa [List.length_map] at this
  have l2 : ms.length = its2.length := by have := r2.length; rwa [List.length_map] at this
  by_cases hl : ns.length = ms.length
  · refine SeqAt.RcNeAt.lists (e := fun j => ns.getD j 0 == ms.getD j 0) p1.isList p2.isList (by simp; omega) (Nat.lt_of_succ_lt hu) (fun j h1 h2 => ?_) _ _ _ _ ⟨.bl _, H, I, ?_, q⟩
    · have h1' : j < its.length := by simpa using h1
      have h2' : j < its2.length := by simpa using h2
      obtain ⟨t, e⟩ := vals_ix r1 j h1' (by omega)
      obtain ⟨t', e'⟩ := vals_ix r2 j h2' (by omega)
      simp only [List.getElem_toArray, e, e', List.getD_eq_getElem?_getD, List.getElem?_eq_getElem (show j < ns.length by omega), List.getElem?_eq_getElem (show j < ms.length by omega), Option.getD_some]
      exact SeqAt.EqAt.int_int _ _ _ _
    · show Value.bool _ = Value.bool _
      simp only [List.size_toArray, ← l1, all_ints ns ms hl]
      rfl
  · refine SeqAt.RcNeAt.lists_lengths p1.isList p2.isList (by simp; omega) (Nat.lt_of_succ_lt hu) _ _ _ _ ⟨.bl _, H, I, ?_, q⟩
    show Value.bool true = Value.bool _
    simp only [if_true]
    rw [decide_eq_false fun z => hl (by rw [z])]
    rfl
end
section
variable {t : List Int} (p : t.Perm digs)
include p
theorem tab_len : t.length = 16 := by rw [p.length_eq, digs_len]
end
end L3
namespace L3
open PySem PySem.Spec L2
variable {X : Cx}
theorem qss_never  {sts : List Stmt} : QSs X sts tNever := ⟨pss_never ⟩
theorem qi_zip  {a b : Expr} {ta : TA} {p pos : Pos} {elts : List Expr} {x1} {tpos : Pos} (hg : Gl X "zip") (hm : X.mg "zip" = none) (ha : QA X [a, b] ta) (h1 : notStar a = true := by rfl) (h2 : notStar b = true := by rfl) : QI X (.Tuple elts x1 tpos) (.Call (.Name "zip" p) [a, b] [] pos) (iZip ta) := ⟨pi_zip (hg := hg) (hm := hm) (ha := ha.h) (h1 := h1) (h2 := h2)⟩
def BoxC (H : Hp) (b : Addr) (c : Nat) : Prop := ∃ n m k : Int, H b = some (BoxL n m k) ∧ 0 ≤ m ∧ m < 4611686018427387904 ∧ 0 ≤ k ∧ k ≤ c
structure GrC (b : Addr) (c : Nat) (H H' : Hp) : Prop where
  kp : ∀ a o, a ≠ b → H a = some o → H' a = some o
  bx : BoxC H' b c
theorem BoxC.mono {H : Hp} {b : Addr} {c d : Nat} (h : BoxC H b c) (l : c ≤ d) : BoxC H b d := by
  obtain ⟨n, m, k, e, a1, a2, a3, a4⟩ := h
  exact ⟨n, m, k, e, a1, a2, a3, by omega⟩
theorem GrC.mono {b : Addr} {c d : Nat} {H H' : Hp} (h : GrC b c H H') (l : c ≤ d) : GrC b d H H' := ⟨h.kp, h.bx.mono l⟩
theorem GrC.trans {b : Addr} {c d : Nat} {H H1 H2 : Hp} (x : GrC b c H H1) (y : GrC b d H1 H2) : GrC b d H H2 := ⟨fun c o n e => y.kp c o n (x.kp c o n e), y.bx⟩
theorem _root_.L2.Same.grc {b : Addr} {c : Nat} {H H' : Hp} (x : Same H H') (h : BoxC H b c) : GrC b c H H' := ⟨fun c o _ e => x c o e, let ⟨n, m, k, e, r⟩ := h; ⟨n, m, k, x _ _ e, r⟩⟩
theorem GrC.same {b : Addr} {c : Nat} {H H1 H2 : Hp} (x : GrC b c H H1) (y : Same H1 H2) : GrC b c H H2 := x.trans (y.grc x.bx)
theorem boxc_fresh {H : Hp} {b l : Addr} {c : Nat} (hb : BoxC H b c) (h : H l = none) : l ≠ b := fun z => by
  obtain ⟨_, _, _, e, _⟩ := hb
  subst z
  rw [e] at h
  cases h
def spBox2 (K : PySem.W.Frag) : Sp := fun vs H Q _ => ∃ (a : Addr) (ns : List Int) (k : Nat), vs = [.ref a, .int k] ∧ SqL K H a (ns.map V.int) ∧ ∀ b H', H b = none → Same H H' → BoxC H' b 0 → Q (.ref b) H'
def spTake2 : Sp := fun vs H Q _ => ∃ (b : Addr) (many : Int) (c : Nat), vs = [.ref b, .int many] ∧ BoxC H b c ∧ c < 1000000000 ∧ 0 < many ∧ many < 1073741824 ∧ ∀ r H', 0 ≤ r → r < many → GrC b (c + 1) H H' → Q (.int r) H'
theorem s2n {H H' : Hp} {p : Addr} (h : H' p = none) (s : Same H H') : H p = none := by
  cases e : H p with
  | none => rfl
  | some o => rw [s _ _ e] at h; cases h
theorem Same.sqt {K : PySem.W.Frag} {H H' : Hp} {a : Addr} {xs : List V} (e : Same H H') (h : SqT K H a xs) : SqT K H' a xs := by
  rcases h with h | h
  · exact .inl (Rd.same e h)
  · exact .inr h
theorem qg_tupK {X : Cx} {K : PySem.W.Frag} (hK : X.K = K) {pos : Pos} {es : List Expr} {k : Nat} {t : TGs} (n : Nat) (hc : X.calm = true) (h : QGs X es t) (hn : (assignEach es X.env).length = n := by rfl) (hst : (assignEach es X.env).findIdx? (·.1) = none := by rfl) : QG X (.Tuple es k pos) (gTup K n t) := by
  subst hK
  exact ⟨pg_tup (hc := hc) (h := h.h) (hn := hn) (hst := hst)⟩
end L3
namespace L3
open PySem PySem.Spec PyProof.Rows L2
open Sem (wp)
section
variable {X : Cx} {tg : Expr}
def iSeq (K : PySem.W.Frag) (tl : TE) : TI := fun σ H R => tl σ H fun x H1 => ∃ a, x = .ref a ∧ ((∃ xs, SqL K H1 a xs) ∧ R (Itl K a) H1 ∨ (∃ xs, SqT K H1 a xs) ∧ R (Itt K a) H1)
theorem pi_seq {l : Expr} {tl : TE} (hl : PE X l tl) : PI X tg l (iSeq X.K tl) := by
  intro pins s σ H R I h
  refine thn (hl pins s σ H _ I h) fun v s1 ⟨x, H1, I1, r1, q1⟩ => ?_
  obtain ⟨a, e, q1⟩ := q1
  subst e
  cases r1
  have fpk : ∀ b ∈ [s1.heap.objs.size], FpOk X pins H1 b := fun b hb => by
    rw [List.mem_singleton.mp hb]
    exact I1.fpOk (Nat.le_refl _) (I1.hok.fresh (Nat.le_refl _))
  rcases q1 with ⟨⟨xs, hq⟩, q⟩ | ⟨⟨xs, hq⟩, q⟩
  · obtain ⟨its, rv, p, hz⟩ := I1.list hq
    refine wpAny_pyIter_list p.isList ?_
    exact ⟨s1.heap.objs.size, [s1.heap.objs.size], _, _, H1, rfl, I1.kept (t' := s1.toks) fun b o e => Heap.get?_push_of_some _ e, turn_list a _, ⟨_, Heap.get?_push_size _ rfl, rfl, rfl⟩, fpk, q⟩
  · obtain ⟨its, rv, p, hz⟩ := I1.tuple hq
    refine wpAny_pyIter_tuple (show s1.heap.IsTuple a its.toArray from p) ?_
    exact ⟨s1.heap.objs.size, [s1.heap.objs.size], _, _, H1, rfl, I1.kept (t' := s1.toks) fun b o e => Heap.get?_push_of_some _ e, turn_tuple a _, ⟨_, Heap.get?_push_size _ rfl, rfl, rfl⟩, fpk, q⟩
end
section
variable {K : PySem.W.Frag} {a : Addr} {xs : List V} {g : TG} {tb : TS} {D : Ends} {σ : L2.St} {H : Hp}
abbrev LoopP (J : It) (g : TG) (tb : TS) (D : Ends) (σ : L2.St) (H : Hp) : Prop := ∃ W : Nat → Nat → L2.St → Hp → Prop, (∃ m, W 0 m σ H) ∧ ∀ i m σ H, W i m σ H →
      (J.stop i H ∧ D.nx σ H) ∨ (J.go i H ∧ ∃ N : L2.St → Hp → Prop, (∀ σ' H', N σ' H' → ∃ m', m' < m ∧ W (i + 1) m' σ' H') ∧ ∀ x H', J.yld i H x H' → g x σ H' fun σ2 H2 => tb { D with nx := N, ct := N, bk := D.nx } σ2 H2)
theorem for_gen {J : It} {n : Nat} (Pv : Nat → L2.St → Hp → Prop) (h0 : Pv 0 σ H) (hgo : ∀ i σ H, i < n → Pv i σ H → J.go i H) (hst : ∀ H, J.stop n H)
    (hs : ∀ i x σ H H', i < n → Pv i σ H → J.yld i H x H' → g x σ H' fun σ2 H2 => tb { D with nx := Pv (i + 1), ct := Pv (i + 1), bk := D.nx } σ2 H2) (hd : ∀ σ H, Pv n σ H → D.nx σ H) : LoopP J g tb D σ H := by
  refine ⟨fun i m σ H => m = n - i ∧ i ≤ n ∧ Pv i σ H, ⟨n, by simp, Nat.zero_le _, h0⟩, ?_⟩
  rintro i m σ H ⟨rfl, hi, p⟩
  by_cases hlt : i < n
  · exact .inr ⟨hgo i σ H hlt p, Pv (i + 1), fun σ' H' p' => ⟨n - (i + 1), by omega, rfl, hlt, p'⟩, fun x H' y => hs i x σ H H' hlt p y⟩
  · have e : i = n := by omega
    subst e
    exact .inl ⟨hst H, hd σ H p⟩
end
end L3
namespace L3
open PySem PySem.Spec L2
variable {X : Cx}
theorem qi_seq  {tg : Expr} {l : Expr} {tl : TE} (hl : QE X l tl) : QI X tg l (iSeq X.K tl) := ⟨pi_seq (hl := hl.h)⟩
def dig (x : Int) : Prop := 0 ≤ x ∧ x < 16
def digR (r : List Int) : Prop := ∀ x ∈ r, dig x
def ahI (n i : Nat) : Nat := if i = 0 then n - 1 else i - 1
def ah (r : List Int) (i : Nat) : Int := r.getD (ahI r.length i) 0
def enc1 (t : List Int) (s : Int) (r : List Int) (i : Nat) : List Int := r.set i (t.getD ((r.getD i 0 + s + i + ah r i) % 16).toNat 0)
def encR (t : List Int) (s : Int) (r : List Int) : Nat → List Int
  | 0 => r
  | n + 1 => enc1 t s (encR t s r n) n
def encK (t : List Int) : List Int → List Int → List Int
  | [], r => r
  | s :: ks, r => encK t ks (encR t s r r.length)
theorem enc1_len {t : List Int} {s : Int} {r : List Int} {i : Nat} : (enc1 t s r i).length = r.length := List.length_set ..
theorem encR_len {t : List Int} {s : Int} {r : List Int} : ∀ {n : Nat}, (encR t s r n).length = r.length
  | 0 => rfl
  | n + 1 => by rw [encR, enc1_len, encR_len]
theorem encK_len {t : List Int} : ∀ {ks r : List Int}, (encK t ks r).length = r.length
  | [], _ => rfl
  | s :: ks, r => by rw [encK, encK_len, encR_len]
theorem dig_mod (x : Int) : dig (x % 16) := ⟨Int.emod_nonneg _ (by decide), Int.emod_lt_of_pos _ (by decide)⟩
theorem encK_app (t : List Int) : ∀ (ks : List Int) (s : Int) (r : List Int), encK t (ks ++ [s]) r = encR t s (encK t ks r) r.length
  | [], _, _ => rfl
  | a :: ks, s, r => by rw [List.cons_append, encK, encK_app t ks s, encK, encR_len]
def Sq (K : PySem.W.Frag) (H : Hp) (a : Addr) (xs : List V) : Prop := SqL K H a xs ∨ SqT K H a xs
theorem Sq.same {K : PySem.W.Frag} {H H' : Hp} {a : Addr} {xs : List V} (e : Same H H') (h : Sq K H a xs) : Sq K H' a xs := h.elim (fun h => .inl (e.seq h)) fun h => .inr (Same.sqt e h)
theorem Sq.lst {K : PySem.W.Frag} {H : Hp} {a : Addr} {xs : List V} (h : H a = some (.lst xs)) : Sq K H a xs := .inl (SqL.of h)
theorem Sq.tup {K : PySem.W.Frag} {H : Hp} {a : Addr} {xs : List V} (h : H a = some (.tup xs)) : Sq K H a xs := .inr (SqT.of h)
theorem Sq.rd {K : PySem.W.Frag} {H : Hp} {a : Addr} {xs : List V} (h : Rd H a (.tup xs)) : Sq K H a xs := .inr (.inl h)
def spCoded (K : PySem.W.Frag) : Sp := fun vs H Q _ => ∃ (a b c : Addr) (t ks ds : List Int), vs = [.ref a, .ref b, .ref c] ∧ Sq K H a (t.map V.int) ∧ Sq K H b (ks.map V.int) ∧ Sq K H c (ds.map V.int) ∧ t.length = 16 ∧ 1 ≤ ds.length ∧ ds.length < 64 ∧
  ∀ p H', Same H H' → H p = none → H' p = some (.tup ((encK t ks ds).map V.int)) → Q (.ref p) H'
theorem atI_getD {r : List Int} {i : Nat} {z : Int} (e : z = (i : Int)) (h : i < r.length) : atI (r.map V.int) z = some (.int (r.getD i 0)) := by
  rw [atI_int e (ints_at h), List.getD_eq_getElem?_getD, List.getElem?_eq_getElem h]; rfl
theorem atI_ah {r : List Int} {i : Nat} {z : Int} (e : z = (i : Int) - 1) (h : i < r.length) : atI (r.map V.int) z = some (.int (ah r i)) := by
  subst e
  unfold ah ahI
  by_cases h0 : i = 0
  · subst h0
    rw [if_pos rfl]
    have hl : r.length - 1 < r.length := by omega
    unfold atI ixN
    rw [List.length_map, if_neg (by omega), if_pos (by omega)]
    have e2 : ((((0 : Nat) : Int) - 1) + (r.length : Int)).toNat = r.length - 1 := by omega
    show (r.map V.int)[((((0 : Nat) : Int) - 1) + (r.length : Int)).toNat]? = _
    rw [e2, ints_at hl, List.getD_eq_getElem?_getD, List.getElem?_eq_getElem hl]; rfl
  · rw [if_neg h0]
    exact atI_getD (by omega) (by omega)
theorem Sq.ix {K : PySem.W.Frag} {H : Hp} {a : Addr} {xs : List V} {i : Int} {v : V} {Q : VK} (h : Sq K H a xs) (e : atI xs i = some v) (q : Q v H) : rIxL K (.ref a) (.int i) H Q ∨ rIxT K (.ref a) (.int i) H Q :=
  h.elim (fun h => .inl ⟨a, xs, i, v, rfl, rfl, h, e, q⟩) fun h => .inr ⟨a, xs, i, v, rfl, rfl, h, e, q⟩
section
variable {K : PySem.W.Frag} {a : Addr} {xs : List V} {g : TG} {tb : TS} {D : Ends} {σ : L2.St} {H H0 : Hp}
theorem for_seq (hq : Sq K H0 a xs) (Pv : Nat → L2.St → Hp → Prop) (h0 : Pv 0 σ H) (hk : ∀ i σ' H', Pv i σ' H' → Same H0 H')
    (hs : ∀ i x σ H, xs[i]? = some x → Pv i σ H → g x σ H fun σ2 H2 => tb { D with nx := Pv (i + 1), ct := Pv (i + 1), bk := D.nx } σ2 H2) (hd : ∀ σ H, Pv xs.length σ H → D.nx σ H) :
    ((∃ xs, SqL K H a xs) ∧ LoopP (Itl K a) g tb D σ H) ∨ ((∃ xs, SqT K H a xs) ∧ LoopP (Itt K a) g tb D σ H) := by
  rcases hq with hq | hq
  · exact .inl ⟨⟨xs, (hk _ _ _ h0).seq hq⟩, for_list Pv h0 (fun i σ H _ p => (hk i σ H p).seq hq) hs hd⟩
  · exact .inr ⟨⟨xs, Same.sqt (hk _ _ _ h0) hq⟩, for_tup Pv h0 (fun i σ H _ p => Same.sqt (hk i σ H p) hq) hs hd⟩
end
theorem same_write {H H2 : Hp} {l : Addr} {o : HO} (s : Same H H2) (h : H l = none) : Same H (upd H2 l o) := fun d u e => by
  rw [upd_ne (ne_of_none e h)]; exact s _ _ e
theorem take_succ_ints {ks : List Int} {j : Nat} {s : Int} (h : ks[j]? = some s) : ks.take (j + 1) = ks.take j ++ [s] := by rw [List.take_add_one, h]; rfl
section
open SeqAt
variable {pins : List (Addr × Obj)} {σ : L2.St} {H : Hp} {s : Shared}
theorem vals_at {xs : List V} {us : List Value} (r : Vals xs us) {j : Nat} (h : j < us.length) : ∃ x, xs[j]? = some x ∧ RelV x us[j] := by
  have hl := r.length
  have hj : j < xs.length := by omega
  obtain ⟨u, hu, ru⟩ := r.get (List.getElem?_eq_getElem hj)
  rw [List.getElem?_eq_getElem h] at hu
  cases hu
  exact ⟨_, List.getElem?_eq_getElem hj, ru⟩
end
end L3
namespace L3
open PySem PySem.Spec PyProof.Rows L2
open Sem (wp)
def Its (x : Str) : It := ⟨fun i _ => i < x.cps.size, fun i H v H' => H' = H ∧ ∃ c, x.cps[i]? = some c ∧ v = .str ⟨#[c]⟩, fun i _ => x.cps.size ≤ i⟩
theorem turn_str {P : Program} {w : World} {K : PySem.W.Frag} {tg : Expr} (it : Addr) (x : Str) (t : Tok) : Turn P w K tg (Its x) [it] it (fun i h => h.IsStrIter it "str_ascii_iterator" x t i) where
  mem := by simp
  obj := fun i h st b hb => by
    have e : b = it := by simpa using hb
    subst e
    obtain ⟨o, e, c, d⟩ := st
    exact ⟨o, e, fun v z => by rw [d] at z; cases z⟩
  keep := fun i h h' st k => let ⟨o, e, r⟩ := st; ⟨o, k it (by simp) o e, r⟩
  item := by
    intro X hP hw hK hc i pins s σ H E I hf st hg
    subst hP hw hK
    obtain ⟨f0, f1, f2, f3, f4, f5⟩ := hf it (by simp)
    have W := Walks.strAscii (prog := X.prog) (w := X.w) (I.ok.hd hc) it x t
    refine W.item i s _ _ hg st fun v h' tk hv st' kk => ?_
    obtain ⟨c, u, hc', rfl⟩ := hv
    have I1 : L2.Inv X pins σ H { s with heap := h', toks := tk } := I.turned (fun b o hb e => kk b o (by simpa using hb) e) f0 f1 f3 f4 f5
    obtain ⟨o, e, cc, d⟩ := id st'
    exact ⟨_, rfl, go_of (s := { s with heap := h', toks := tk }) e cc d (by decide) ⟨.str ⟨#[c]⟩, H, I1, ⟨u, rfl⟩, ⟨rfl, c, hc', rfl⟩, st', fun b hb => (hf b hb).1⟩⟩
  done := by
    intro X hP hw hK hc i pins s σ H E I hf st hg
    subst hP hw hK
    obtain ⟨f0, f1, f2, f3, f4, f5⟩ := hf it (by simp)
    have hg' : x.cps.size ≤ i := hg
    exact wpAny_pyNext_ascii_end (I.ok.hd hc) st (by simp [hg']) fun h' eb => ⟨rfl, I.turned (t' := s.toks) (fun b o hb e => eb b o hb e) f0 f1 f3 f4 f5⟩
  self := fun _ _ _ _ _ st h => wpAny_pyIter_striter_ascii st h
section
variable {X : Cx} {tg : Expr}
def iStr (tl : TE) : TI := fun σ H R => tl σ H fun v H1 => ∃ x, v = .str x ∧ x.cps.all (· < 128) = true ∧ R (Its x) H1
theorem pi_str {l : Expr} {tl : TE} (hl : PE X l tl) : PI X tg l (iStr tl) := by
  intro pins s σ H R I h
  refine thn (hl pins s σ H _ I h) fun v s1 ⟨x, H1, I1, r1, q1⟩ => ?_
  obtain ⟨z, rfl, ha, q⟩ := q1
  obtain ⟨t, rfl⟩ := r1
  refine wpAny_pyIter_ascii ha ?_
  refine ⟨s1.heap.objs.size, [s1.heap.objs.size], _, _, H1, rfl, I1.kept (t' := s1.toks) fun b o e => Heap.get?_push_of_some _ e, turn_str _ z t, ⟨_, Heap.get?_push_size _ rfl, rfl, rfl⟩, fun b hb => ?_, q⟩
  rw [List.mem_singleton.mp hb]
  exact I1.fpOk (Nat.le_refl _) (I1.hok.fresh (Nat.le_refl _))
theorem qi_str {l : Expr} {tl : TE} (hl : QE X l tl) : QI X tg l (iStr tl) := ⟨pi_str hl.h⟩
end
theorem for_str {x : Str} {g : TG} {tb : TS} {D : Ends} {σ : L2.St} {H : Hp} (Pv : Nat → L2.St → Hp → Prop) (h0 : Pv 0 σ H)
    (hs : ∀ i c σ H, x.cps[i]? = some c → Pv i σ H → g (.str ⟨#[c]⟩) σ H fun σ2 H2 => tb { D with nx := Pv (i + 1), ct := Pv (i + 1), bk := D.nx } σ2 H2) (hd : ∀ σ H, Pv x.cps.size σ H → D.nx σ H) : LoopP (Its x) g tb D σ H :=
  for_gen Pv h0 (fun i σ H hi p => hi) (fun _ => Nat.le_refl _) (fun i v σ H H' hi p y => by
    obtain ⟨rfl, c, hc, rfl⟩ := y
    exact hs i c σ H' hc p) hd
section
variable {X : Cx} {o e : Expr} {es : List Expr} {to : TE} {t : TA} {name : Str} {apos cpos : Pos} {T id : String} {r : V → List V → Hp → VK → Prop}
theorem qe_bm (pa : PlainAttrs T) (slot : Slot T name id) (hty : typeOf (.builtin id) = pure (.type "method_descriptor")) (hm : MtR X id r) (ho : QE X o to) (ha : QA X (e :: es) t)
    (hbase : attributeBase o name X.env (eval o X.env) = eval o X.env := by rfl)
    (hfew : ((backTo cpos (starEach (e :: es) X.env)).all (fun x => !x.1) && (backToKw cpos (keywordEach [] X.env)).all (fun x => x.1.isSome)
      && decide ((e :: es).length + ([] : List Keyword).length + (if ([] : List Keyword).isEmpty then 0 else 1) < 30)) = true := by rfl)
    (hline : (apos.endLine == cpos.line) = true := by rfl) (hs : starEach (e :: es) X.env = (false, eval e X.env) :: starEach es X.env := by rfl) (hplain : (backTo cpos (starEach es X.env)).any (·.1) = false := by rfl) :
    QE X (.Call (.Attribute o name apos) (e :: es) [] cpos) (tBM X.K T r to t) := ⟨pe_bm pa slot hty hm ho.h ha.h hbase hfew hline hs hplain⟩
theorem mr_append : MtR X "list.append" rAppend := mt_append
end
theorem preSum_list (ns : List Int) : ∀ n, n ≤ ns.length → preSum (fun i => ns.getD i 0) n = (ns.take n).sum
  | 0, _ => by simp [preSum]
  | n + 1, h => by
    have hn : n < ns.length := by omega
    rw [preSum, preSum_list ns n (by omega), List.take_add_one, List.getElem?_eq_getElem hn, Option.toList_some, List.sum_append, List.getD_eq_getElem?_getD, List.getElem?_eq_getElem hn]
    simp
theorem sum_bd {B : Int} : ∀ {ns : List Int}, (∀ z ∈ ns, 0 ≤ z ∧ z ≤ B) → 0 ≤ ns.sum ∧ ns.sum ≤ ns.length * B
  | [], _ => ⟨by simp, by simp⟩
  | n :: r, h => by
    have h1 := h n List.mem_cons_self
    have h2 := sum_bd (ns := r) fun z hz => h z (List.mem_cons_of_mem _ hz)
    rw [List.sum_cons, List.length_cons]
    refine ⟨by omega, ?_⟩
    have : (((r.length + 1 : Nat) : Int)) * B = r.length * B + B := by rw [Int.natCast_add, Int.add_mul]; simp
    omega
section
variable {X : Cx}
theorem call_sumI (hc : X.calm = true) : CallR X (.builtin "sum") (fun xs H Q => ∃ (p : Addr) (ns : List Int), xs = [.ref p] ∧ Sq X.K H p (ns.map V.int) ∧ ns.length ≤ 1000 ∧ (∀ z ∈ ns, 0 ≤ z ∧ z ≤ 1000000) ∧ Q (.int ns.sum) H) := by
  intro pins s σ H xs us Q I r h
  obtain ⟨p, ns, rfl, hq, hl, hb, q⟩ := h
  obtain ⟨u, rfl, ru⟩ := vals1 r
  cases ru
  have bd : ∀ n, n ≤ ns.length → 0 ≤ preSum (fun i => ns.getD i 0) n ∧ preSum (fun i => ns.getD i 0) n ≤ 1000000000 := fun n hn => by
    rw [preSum_list ns n hn]
    have h1 := sum_bd (B := 1000000) (ns := ns.take n) fun z hz => hb z (List.mem_of_mem_take hz)
    have h2 : (ns.take n).length ≤ 1000 := by rw [List.length_take]; omega
    omega
  have fit : ∀ j, j < ns.length → InLong ((fun i => ns.getD i 0) j) ∧ InLong (preSum (fun i => ns.getD i 0) (j + 1)) := fun j hj => by
    have b1 := bd (j + 1) (by omega)
    have b2 : 0 ≤ ns.getD j 0 ∧ ns.getD j 0 ≤ 1000000 := by
      rw [List.getD_eq_getElem?_getD, List.getElem?_eq_getElem hj]; exact hb _ (List.getElem_mem hj)
    unfold InLong
    simp only
    omega
  have eS : preSum (fun i => ns.getD i 0) ns.length = ns.sum := by rw [preSum_list ns _ (Nat.le_refl _), List.take_length]
  have val : ∀ {its : List Value}, Vals (ns.map V.int) its → ∀ (i : Nat) (v : Value), its.toArray[i]? = some v → ∃ t, v = .int ((fun i => ns.getD i 0) i) t := fun {its} rv i v hv => by
    have hv' : its[i]? = some v := by simpa using hv
    have hi : i < its.length := (List.getElem?_eq_some_iff.mp hv').1
    obtain ⟨x, ex, rx⟩ := vals_at rv hi
    obtain ⟨z, rfl, hz⟩ := ints_get ex
    obtain ⟨t, ht⟩ := rx
    refine ⟨t, ?_⟩
    rw [(List.getElem?_eq_some_iff.mp hv').2] at ht
    rw [ht]
    show Value.int z t = Value.int (ns.getD i 0) t
    rw [List.getD_eq_getElem?_getD, hz]; rfl
  rcases hq with hq | hq
  · obtain ⟨its, rv, pl, hz⟩ := I.list hq
    have hlen : ns.length = its.length := by have := rv.length; rwa [List.length_map] at this
    have hlt : p < s.heap.objs.size := by obtain ⟨_, e, _⟩ := pl.isList; exact Heap.lt_size e
    refine call_sum_walk (wpAny_pyIter_list pl.isList ?_)
    refine ⟨s.heap.objs.size, [s.heap.objs.size, p], [s.heap.objs.size], its.toArray.size, _, _, fun i => ns.getD i 0, rfl, Walks.list (A := X.A.in1) (I.ok.hd hc) _ p (Nat.ne_of_lt hlt) its.toArray,
      ⟨⟨_, Heap.get?_push_size _ rfl, rfl, rfl⟩, pl.isList.push _⟩, fun b hb' => ?_, val rv, fun j hj => fit j (by simp at hj; omega), fun h' tk t' hk => ?_⟩
    · have sz : (s.heap.push { cls := .type "list_iterator", data := .fields #[.ref p, .int 0 0] }).objs.size = s.heap.objs.size + 1 := Heap.size_push ..
      simp only [List.mem_cons, List.not_mem_nil, or_false] at hb'
      show b < (Heap.push s.heap _).objs.size
      rw [Heap.size_push]
      rcases hb' with rfl | rfl
      · exact Nat.lt_succ_self _
      · exact Nat.lt_succ_of_lt hlt
    · have e2 : preSum (fun i => ns.getD i 0) its.toArray.size = ns.sum := by rw [List.size_toArray, ← hlen]; exact eS
      rw [e2]
      refine ⟨.int _, H, I.kept (h' := h') (t' := tk) fun b o q => hk b o (fun hm => ?_) (Heap.get?_push_of_some _ q), ⟨_, rfl⟩, q⟩
      rw [List.mem_singleton.mp hm] at q
      exact Nat.lt_irrefl _ (Heap.lt_size q)
  · obtain ⟨its, rv, pl, hz⟩ := I.tuple hq
    have hlen : ns.length = its.length := by have := rv.length; rwa [List.length_map] at this
    have hT : s.heap.IsTuple p its.toArray := pl
    have hlt : p < s.heap.objs.size := by obtain ⟨_, e, _⟩ := hT; exact Heap.lt_size e
    refine call_sum_walk (wpAny_pyIter_tuple hT ?_)
    refine ⟨s.heap.objs.size, [s.heap.objs.size, p], [s.heap.objs.size], its.toArray.size, _, _, fun i => ns.getD i 0, rfl, Walks.tuple (A := X.A.in1) (I.ok.hd hc) _ p (Nat.ne_of_lt hlt) its.toArray,
      ⟨⟨_, Heap.get?_push_size _ rfl, rfl, rfl⟩, let ⟨o, e, r⟩ := hT; ⟨o, Heap.get?_push_of_some _ e, r⟩⟩, fun b hb' => ?_, val rv, fun j hj => fit j (by simp at hj; omega), fun h' tk t' hk => ?_⟩
    · simp only [List.mem_cons, List.not_mem_nil, or_false] at hb'
      show b < (Heap.push s.heap _).objs.size
      rw [Heap.size_push]
      rcases hb' with rfl | rfl
      · exact Nat.lt_succ_self _
      · exact Nat.lt_succ_of_lt hlt
    · have e2 : preSum (fun i => ns.getD i 0) its.toArray.size = ns.sum := by rw [List.size_toArray, ← hlen]; exact eS
      rw [e2]
      refine ⟨.int _, H, I.kept (h' := h') (t' := tk) fun b o q => hk b o (fun hm => ?_) (Heap.get?_push_of_some _ q), ⟨_, rfl⟩, q⟩
      rw [List.mem_singleton.mp hm] at q
      exact Nat.lt_irrefl _ (Heap.lt_size q)
end
end L3
namespace L3
open PySem PySem.Spec PyProof.Rows L2
section
variable {X : Cx}
theorem get_list : PGet X (fun x y H Q => ∃ (p : Addr) (xs : List V) (i : Nat) (v : V), x = .ref p ∧ y = .int (i : Int) ∧ H p = some (.lst xs) ∧ xs[i]? = some v ∧ Q v H) := by
  intro pins s σ H o i ov iv Q I r1 r2 h
  obtain ⟨p, xs, j, v, rfl, rfl, hH, hv, q⟩ := h
  cases r1
  obtain ⟨t, rfl⟩ := r2
  obtain ⟨its, r, pl, hz⟩ := I.list (SqL.of hH)
  obtain ⟨u, hu, ru⟩ := r.get hv
  have hl := r.length
  have hn := line63
  have hj : j < xs.length := (List.getElem?_eq_some_iff.mp hv).1
  exact wpAny_getItem_list pl.isList (by omega) (by omega) (by simpa using hu) ⟨v, H, I, ru, q⟩
end
def isNm (z : Str) : Prop := (∀ c ∈ z.cps.toList, 97 ≤ c ∧ c ≤ 122) ∧ 1 ≤ z.cps.toList.length ∧ z.cps.toList.length ≤ 8
theorem nm_ascii {z : Str} (h : isNm z) : z.cps.all (· < 128) = true := by
  rw [Array.all_eq_true']
  intro c hc
  have := h.1 c (by simpa using hc)
  simp; omega
def letD (c : Nat) : List Int := [((c : Int) - 97) % 16, ((c : Int) - 97) / 16]
def letDs (cs : List Nat) : List Int := cs.flatMap letD
theorem letDs_app (cs : List Nat) (c : Nat) : letDs (cs ++ [c]) = letDs cs ++ letD c := by simp [letDs]
theorem letDs_len (cs : List Nat) : (letDs cs).length = 2 * cs.length := by
  induction cs with
  | nil => rfl
  | cons c r ih => simp only [letDs, List.flatMap_cons, List.length_append, List.length_cons] at ih ⊢; rw [ih]; simp [letD]; omega
def part (ds : List Int) (j : Nat) : Nat → Int
  | 0 => 0
  | n + 1 => part ds j n + if n % 4 = j then ds.getD n 0 else 0
def sumsL (ds : List Int) (n : Nat) : List Int := [part ds 0 n, part ds 1 n, part ds 2 n, part ds 3 n]
theorem sums_step (ds : List Int) (n : Nat) : (sumsL ds n).set (n % 4) ((sumsL ds n).getD (n % 4) 0 + ds.getD n 0) = sumsL ds (n + 1) := by
  have h : n % 4 = 0 ∨ n % 4 = 1 ∨ n % 4 = 2 ∨ n % 4 = 3 := by omega
  rcases h with h | h | h | h <;> simp [sumsL, part, h]
def ownK (ds : List Int) : List Int := (sumsL ds ds.length).map (· % 16)
theorem ownK_len (ds : List Int) : (ownK ds).length = 4 := rfl
def spLetters : Sp := fun vs H Q _ => ∃ z, vs = [.str z] ∧ isNm z ∧ ∀ l H', Same H H' → H l = none → H' l = some (.lst ((letDs z.cps.toList).map V.int)) → Q (.ref l) H'
def spKeyOf (K : PySem.W.Frag) : Sp := fun vs H Q _ => ∃ (a b : Addr) (z : Str) (t ks : List Int), vs = [.ref a, .ref b, .str z] ∧ Sq K H a (t.map V.int) ∧ Sq K H b (ks.map V.int) ∧ isNm z ∧ t.length = 16 ∧
  ∀ p H', Same H H' → H p = none → H' p = some (.tup ((encK t ks (ownK (letDs z.cps.toList))).map V.int)) → Q (.ref p) H'
theorem take_cs {cs : List Nat} {i c : Nat} (h : cs[i]? = some c) : cs.take (i + 1) = cs.take i ++ [c] := by rw [List.take_add_one, h]; rfl
theorem cps_get {z : Str} {i c : Nat} (h : z.cps[i]? = some c) : z.cps.toList[i]? = some c := by simpa using h
theorem bsc2 {X : Cx} {scope : Scope} {y z : Str} {j k : Nat} (kind : scope.kind = .function) (names : ∀ x ∈ scope.names, x.2 = .local → scope.names.lookup x.1 = some .local) (nocell : ∀ x ∈ scope.names, x.2 ≠ .cell)
    (free : ∀ x ∈ scope.names, x.2 = .free → x.1 ∈ ([y, z] : List Str)) (h1 : X.N[j]? = some y) (h2 : X.env.kindOf y = some .cell) (h3 : (relabel scope X.env).names.lookup y = some .cell)
    (g1 : X.N[k]? = some z) (g2 : X.env.kindOf z = some .cell) (g3 : (relabel scope X.env).names.lookup z = some .cell) : BScope X scope [y, z] [j, k] :=
  ⟨kind, names, nocell, free, rfl, fun i j' y' e1 e2 => by
    match i with
    | 0 => cases e1; cases e2; exact ⟨h1, h2, h3⟩
    | 1 => cases e1; cases e2; exact ⟨g1, g2, g3⟩
    | i + 2 => simp at e1⟩
theorem clo2 {X : Cx} {y z : Str} {c d : Addr} (h : X.env.cells.lookup y = some c) (g : X.env.cells.lookup z = some d) : ∀ u e, ([(y, c), (z, d)] : List (Str × Addr)).lookup u = some e → X.env.cells.lookup u = some e := fun u e he => by
  by_cases hu : u = y
  · subst hu
    simp at he
    rw [← he]; exact h
  · by_cases hv : u = z
    · subst hv
      simp [List.lookup_cons, show (u == y) = false from by simpa using hu] at he
      rw [← he]; exact g
    · simp [List.lookup_cons, show (u == y) = false from by simpa using hu, show (u == z) = false from by simpa using hv] at he
end L3
namespace L3
open PySem PySem.Spec PyProof.Rows L2
open Sem (wp)
section
variable {prog : Program} {w : World} {A : Around} {E : Value → Shared → Prop} {s : Shared}
theorem draw_listU {it t : Addr} {items : Array Value} (hne : t ≠ it) : ∀ (n i : Nat) (s : Shared) (Q : List Value → Shared → Prop), s.heap.IsListIter it t i → s.heap.IsList t items → i + n ≤ items.size →
    (∀ h', h'.IsListIter it t (i + n) → Heap.SameBut it s.heap h' → Q ((items.toList.drop i).take n) { s with heap := h' }) → wpAny (model prog w) A (draw (.ref it) n) Q E s
  | 0, i, s, Q, hit, _, _, hQ => by
    show wpAny _ _ (pure []) Q E s
    refine wpAny_pure ?_
    have := hQ s.heap hit (Heap.SameBut.refl ..)
    simpa using this
  | n + 1, i, s, Q, hit, ht, hle, hQ => by
    have hlt : i < items.size := by omega
    show wpAny _ _ (pyNext (.ref it) >>= _) Q E s
    refine wpAny_bind (wpAny_pyNext_list_item hit ht (x := items[i]) (by simp [hlt]) fun h₁ hit₁ hs₁ => ?_)
    have ht1 : (Shared.heap { s with heap := h₁ }).IsList t items := let ⟨o, e, r⟩ := ht; ⟨o, hs₁.extBut _ _ hne e, r⟩
    refine wpAny_bind (wpAny_holding (draw_listU hne n (i + 1) _ _ hit₁ ht1 (by omega) fun h₂ hit₂ hs₂ => wpAny_pure ?_))
    have hd : items.toList.drop i = items[i] :: items.toList.drop (i + 1) := by simp [List.drop_eq_getElem_cons, hlt]
    have z := hQ h₂ (by rw [show i + (n + 1) = i + 1 + n by omega]; exact hit₂) (hs₁.trans hs₂)
    rw [hd, List.take_succ_cons] at z
    exact z
theorem unpack_listU {t : Addr} {items : Array Value} {targets : List (Bool × (Value → Sem Unit))} {Q : Unit → Shared → Prop} (hh : A.handled = none) (ht : s.heap.IsList t items)
    (hn : targets.length = items.size) (hstar : targets.findIdx? (·.1) = none)
    (h : ∀ h', Heap.ExtBut s.heap.objs.size s.heap h' → wpAny (model prog w) A (assignInOrder (targets.map (·.2)) items.toList) Q E { s with heap := h' }) :
    wpAny (model prog w) A (unpack (.ref t) targets) Q E s := by
  have hlt : t ≠ s.heap.objs.size := by obtain ⟨o, ho, _⟩ := ht; exact Nat.ne_of_lt (Heap.lt_size ho)
  unfold unpack
  rw [hn, hstar]
  refine wpAny_bind (wpAny_holding ?_)
  unfold unpackItems
  refine wpAny_bind ?_
  unfold notIterableAtAll
  refine wpAny_bind (wpAny_specialOf ht.typeIs F.slot_list_iter.lookup ?_)
  refine wpAny_pure ?_
  simp only [Bool.false_eq_true, if_false]
  refine wpAny_bind (wpAny_holding (wpAny_pyIter_list ht ?_))
  refine wpAny_bind (wpAny_holding (draw_listU hlt items.size 0 _ _ ⟨_, Heap.get?_push_size _ rfl, rfl, rfl⟩ (ht.push _) (by omega) fun h₁ hit₁ hs₁ => ?_))
  have hall : List.take items.size (List.drop 0 items.toList) = items.toList := by
    rw [List.drop_zero]
    exact List.take_of_length_le (by simp)
  rw [hall]
  rw [if_neg (by simp)]
  have ht₁ : h₁.IsList t items := let ⟨o, e, r⟩ := ht.push _; ⟨o, hs₁.extBut _ _ hlt e, r⟩
  refine wpAny_bind (wpAny_holding (wpAny_pyNext_list_end hh hit₁ ht₁ (by simp) fun h₂ he₂ => ?_))
  simp only [Option.isSome_none, Bool.false_eq_true, if_false]
  exact wpAny_pure (h h₂ fun b o hb e => he₂ b o hb (hs₁.extBut b o hb (Heap.get?_push_of_some _ e)))
end
section
variable {X : Cx} {pos : Pos}
def gSeq (K : PySem.W.Frag) (n : Nat) (t : TGs) : TG := fun v σ H Q => ∃ a xs, v = .ref a ∧ Sq K H a xs ∧ xs.length = n ∧ t xs σ H Q
theorem pg_seq {es : List Expr} {k : Nat} {t : TGs} {n : Nat} (hc : X.calm = true) (h : PGs X es t)
    (hn : (assignEach es X.env).length = n := by rfl) (hst : (assignEach es X.env).findIdx? (·.1) = none := by rfl) : PG X (.Tuple es k pos) (gSeq X.K n t) := by
  intro pins s σ H v u Q I r hw
  obtain ⟨a, xs, e1, hq, hl, hw⟩ := hw
  rcases hq with hq | hq
  · subst e1
    cases r
    obtain ⟨its, rv, ht, hz⟩ := I.list hq
    rw [assign_Tuple]
    refine wpAny_bind (wpAny_standAt (unpack_listU (I.ok.hd hc) ht.isList (by simp [hn, ← hl, rv.length]) hst fun h' hx => ?_))
    have I1 : L2.Inv X pins σ H { s with heap := h' } := I.kept (t' := s.toks) fun b o e => hx b o (Nat.ne_of_lt (Heap.lt_size e)) e
    exact h pins _ σ H xs _ Q I1 (by simpa using rv) hw
  · exact pg_tup hc h hn hst pins s σ H v u Q I r ⟨a, xs, e1, hq, hl, hw⟩
theorem qg_seq {es : List Expr} {k : Nat} {t : TGs} {n : Nat} (hc : X.calm = true) (h : QGs X es t)
    (hn : (assignEach es X.env).length = n := by rfl) (hst : (assignEach es X.env).findIdx? (·.1) = none := by rfl) : QG X (.Tuple es k pos) (gSeq X.K n t) := ⟨pg_seq hc h.h hn hst⟩
end
end L3
namespace L3
open PySem PySem.Spec PyProof.Rows L2
def fourI (c d : Int) : List Int := [c % 16, c / 16 % 16, c / 256, d]
def fiveI (c d : Int) : List Int := fourI c d ++ [(fourI c d).sum % 16]
def keyZ (t ks : List Int) (z : Str) : List Int := encK t ks (ownK (letDs z.cps.toList))
def codeI (t ks : List Int) (z : Str) (c d : Int) : List Int := encK t (keyZ t ks z) (fiveI c d)
theorem five_len (c d : Int) : (fiveI c d).length = 5 := rfl
theorem five_dig {c d : Int} (h0 : 0 ≤ c) (h1 : c < 4096) (hd : dig d) : digR (fiveI c d) := fun x hx => by
  simp only [fiveI, fourI, List.cons_append, List.nil_append, List.mem_cons, List.not_mem_nil, or_false] at hx
  rcases hx with rfl | rfl | rfl | rfl | rfl
  · exact dig_mod _
  · exact dig_mod _
  · exact ⟨by omega, by omega⟩
  · exact hd
  · exact dig_mod _
def spCD : Sp := fun vs H Q _ => ∃ c : Int, vs = [.int c] ∧ ∀ p H', Same H H' → H' p = some (.tup [.int (c % 16), .int (c / 16 % 16), .int (c / 256)]) → Q (.ref p) H'
def spPress (K : PySem.W.Frag) : Sp := fun vs H Q _ => ∃ (a b : Addr) (z : Str) (age c d : Int) (t ks : List Int), vs = [.ref a, .ref b, .str z, .int age, .int c, .int d] ∧ Sq K H a (t.map V.int) ∧ Sq K H b (ks.map V.int) ∧ isNm z ∧ t.length = 16 ∧ 0 ≤ c ∧ c < 4096 ∧ dig d ∧
  ∀ p pc H', Same H H' → H' p = some (.tup [.str z, .int age, .ref pc]) → H' pc = some (.tup ((codeI t ks z c d).map V.int)) → Q (.ref p) H'
end L3
namespace L3
open PySem PySem.Spec PyProof.Rows L2
def HasF (K : PySem.W.Frag) (H : Hp) (a : Addr) (f : Str) (v : V) : Prop := ∃ C dx fs, H a = some (.ins C dx fs) ∧ Cls K C ∧ NoAttr K C f ∧ fs.lookup f = some v
def PutF (K : PySem.W.Frag) (H : Hp) (a : Addr) (f : Str) (v : V) (H' : Hp) : Prop := ∃ C dx fs, H a = some (.ins C dx fs) ∧ Cls K C ∧ NoAttr K C f ∧ fs.length < 1000 ∧ H' = upd H a (.ins C dx (putF f v fs))
def NoF (C : Addr) (H : Hp) (a : Addr) (m : Str) : Prop := ∃ dx fs, H a = some (.ins C dx fs) ∧ fs.lookup m = none
def tFldA (K : PySem.W.Frag) (ta : TE) (f : Str) : TE := fun σ H Q => ta σ H fun x H1 => ∃ a v, x = .ref a ∧ HasF K H1 a f v ∧ Q v H1
def sFldA (K : PySem.W.Frag) (ta tv : TE) (f : Str) : TS := fun D σ H => tv σ H fun y H1 => ta σ H1 fun x H2 => ∃ a H3, x = .ref a ∧ PutF K H2 a f y H3 ∧ D.nx σ H3
def sFldAugA (K : PySem.W.Frag) (ta tv : TE) (rd : V → V → Hp → VK → Prop) (f : Str) : TS := fun D σ H => ta σ H fun x H1 => ∃ a v, x = .ref a ∧ HasF K H1 a f v ∧
  tv σ H1 fun y H2 => rd v y H2 fun z H3 => (∀ o, H1 a = some o → H3 a = some o) ∧ ∃ H4, PutF K H3 a f z H4 ∧ D.nx σ H4
def tMethA (C : Addr) (m : Str) (sp : Sp) (ta : TE) (t : TA) : TE := fun σ H Q => ta σ H fun x H1 => ∃ a, x = .ref a ∧ NoF C H1 a m ∧ t σ H1 fun vs H2 => sp (x :: (vs ++ [])) H2 Q E0
section
variable {X : Cx} {o e value : Expr} {f : Str} {pos pos' tpos : Pos} {ta tv : TE}
theorem qe_fld (he : QE X e ta) (hb : attributeBase e f X.env (eval e X.env) = eval e X.env := by rfl) : QE X (.Attribute e f pos) (tFldA X.K ta f) := ⟨by
  intro pins s σ H Q I h
  refine attr_of hb (thn (he.h pins s σ H _ I h) fun u s1 ⟨x, H1, I1, rx, a, v, ex, ⟨C, dx, fs, ea, c, n, l⟩, q⟩ => ?_)
  subst ex
  obtain rfl : u = Value.ref a := rx
  exact getattr_ok I1 ea c n l fun u' s2 I2 ru => ⟨v, H1, I2, ru, q⟩⟩
theorem qs_fld (ha : QE X o ta) (hv : QE X value tv) (hs : swapsWith value (some (.Attribute o f pos')) pos.line X.env = pure false := by rfl) : QS X (.Assign [.Attribute o f pos'] value pos) (sFldA X.K ta tv f) := ⟨by
  intro pins s σ H D I h
  refine plainObj_wpAny_Assign_Attribute (thn (hv.h pins s σ H _ I h) fun u s1 ⟨y, H1, I1, ry, q⟩ => thn (ha.h pins s1 σ H1 _ I1 q) fun ov s2 ⟨x, H2, I2, rx, a, H3, ex, ⟨C, dx, fs, ea, c, n, l, e3⟩, q2⟩ => ?_) hs
  subst ex e3
  obtain rfl : ov = Value.ref a := rx
  exact setattr_ok I2 ea c n l ry fun s3 I3 => ⟨σ, _, I3, q2⟩⟩
theorem qs_fldaug {op : Operator} {rd : V → V → Hp → VK → Prop} (hop : InOp X op rd) (ha : QE X o ta) (hv : QE X value tv) : QS X (.AugAssign (.Attribute o f tpos) op value pos) (sFldAugA X.K ta tv rd f) := ⟨by
  intro pins s σ H D I h
  refine wpAny_AugAssign_AttributeAny (thn (ha.h pins s σ H _ I h) fun ov s1 ⟨x, H1, I1, rx, a, v, ex, ⟨C, dx, fs, ea, c, n, l⟩, q⟩ => ?_)
  subst ex
  obtain rfl : ov = Value.ref a := rx
  refine getattr_ok I1 ea c n l fun u s2 I2 ru => thn (hv.h pins s2 σ H1 _ I2 q) fun w3 s3 ⟨y, H2, I3, ry, q3⟩ => thn (hop pins s3 σ H2 v y u w3 _ I3 ru ry q3) fun w4 s4 ⟨z, H3, I4, rz, _, H4, ⟨C', dx', fs', ea', c', n', l', e4⟩, q4⟩ => ?_
  subst e4
  exact setattr_ok I4 ea' c' n' l' rz fun s5 I5 => ⟨σ, _, I5, q4⟩⟩
end
structure Mf (P : Program) (w : World) (K : PySem.W.Frag) (mg : Str → Option Value) (base : Heap) (C : Addr) (m : Str) (ps : List Str) (k : Nat) (sp : Sp) : Prop where
  ex : ∃ (f : Addr) (fd : FuncData), FnOk P w K mg base CX0 k f fd ps sp ∧ Meth K C m f ∧ Binds K fd ps []
structure AtM (K : PySem.W.Frag) (C : Addr) (m qual : Str) (st : Stmt) (ps : List Str) : Prop where
  ex : ∃ (f : Addr) (fd : FuncData), Fun K m qual st f fd ∧ Meth K C m f ∧ Binds K fd ps []
structure Mi (P : Program) (w : World) (K : PySem.W.Frag) (mg : Str → Option Value) (base : Heap) (C : Addr) (x : Str) (ps : List Str) (k : Nat) (sp : Sp) : Prop where
  ex : ∃ (f : Addr) (fd : FuncData), FnOk P w K mg base CX0 k f fd ps sp ∧ Mk K C f ∧ mg x = some (.ref C) ∧ Binds K fd ps []
section
variable {P : Program} {w : World} {K : PySem.W.Frag} {mg : Str → Option Value} {base : Heap} {C : Addr}
theorem AtM.mq {m qual : Str} {st : Stmt} {ps N : List Str} {k : Nat} {sp : Sp} (a : AtM K C m qual st ps) (S : FnScope N ps (defScope st)) (len : ∀ vs H Q E, sp vs H Q E → vs.length = ps.length)
    (hbody : ∀ (f : Addr) (cdv : Value) (A : Around) (outer : List Env) (s : Shared) (H : Hp) (vs : List V) (Q : VK) (E : XK), Room k (A.deeper (envOfC qual (defScope st) s.heap.objs.size f cdv)) → sp vs H Q E →
      ∃ t, QSs (cxOf CX0 P w K mg base N qual (defScope st) f cdv A outer s H E).nox (defBody st) t ∧ t { nx := fun _ H' => Q .non H', rt := Q } (start N vs) H) : Mf P w K mg base C m ps (k + 1) sp := by
  obtain ⟨f, fd, F, m, bd⟩ := a.ex
  exact ⟨f, fd, F.ok S len (fun cdv A outer s H vs Q E hr h => let ⟨t, q1, q2⟩ := hbody f cdv A outer s H vs Q E hr h; ⟨t, q1.h, q2⟩), m, bd⟩
theorem Mf.mi {x : Str} {ps : List Str} {k : Nat} {sp : Sp} (a : Mf P w K mg base C "__init__" ps k sp) (mk : PySem.W.makesIn K C = true) (kc : PySem.W.keepIn K (.ref C) = true) (hx : mg x = some (.ref C)) : Mi P w K mg base C x ps k sp :=
  let ⟨f, fd, F, m, bd⟩ := a.ex; ⟨f, fd, F, ⟨mk, m.at_, m.fn, kc⟩, hx, bd⟩
end
section
variable {X : Cx} {C : Addr} {x m : Str} {ps : List Str} {k : Nat} {sp : Sp} {o e : Expr} {es : List Expr} {p pos apos : Pos} {ta : TE} {t : TA}
theorem qe_meth {pl : Sem Bool} (M : Mf X.prog X.w X.K X.mg X.base C m ps k sp) (c : Cls X.K C) (hr : Room k X.A) (he : QE X o ta) (ha : QA X (e :: es) t)
    (hst : starEach (e :: es) X.env = (false, eval e X.env) :: starEach es X.env := by rfl) (hpl : (backTo pos (starEach es X.env)).any (·.1) = false := by rfl)
    (ht : eval (.Call (.Attribute o m apos) (e :: es) [] pos) X.env = (do
      let ov ← eval o X.env
      standAt apos.atName
      let (f, first) ← holding [ov] (getMethod ov m pl)
      callWith pos f first (backTo pos (starEach (e :: es) X.env)) (backToKw pos (keywordEach [] X.env))) := by rfl) :
    QE X (.Call (.Attribute o m apos) (e :: es) [] pos) (tMethA C m sp ta t) := ⟨by
  obtain ⟨f, fd, F, hm, hb⟩ := M.ex
  intro pins s σ H Q I h
  refine PySem.W.methodCall_KW (pl := pl) (thn (he.h pins s σ H _ I h) fun u s1 ⟨x, H1, I1, rx, a, ex, ⟨dx, fs, ea, l⟩, q⟩ => ?_) ht
  subst ex
  obtain rfl : u = Value.ref a := rx
  refine getmeth_ok I1 ea c hm l ?_
  refine PySem.W.callWith_K (first := [.ref a]) (h₀ := X.base) I.ok.mod.kin hm.kp (thn (ha.h pos pins s1 σ H1 _ I1 q) fun us s2 ⟨vs, H2, I2, r, q2⟩ => ⟨I2.kIn, ?_⟩) hst hpl
  exact run_fn (us := .ref a :: us) (vs := .ref a :: vs) F hr hb .nil pass0 I2 (.cons rfl r) q2⟩
theorem qe_meth0 {pl : Sem Bool} (M : Mf X.prog X.w X.K X.mg X.base C m ps k sp) (c : Cls X.K C) (hr : Room k X.A) (he : QE X o ta)
    (ht : eval (.Call (.Attribute o m apos) [] [] pos) X.env = (do
      let ov ← eval o X.env
      standAt apos.atName
      let (f, first) ← holding [ov] (getMethod ov m pl)
      callWith pos f first (backTo pos (starEach [] X.env)) (backToKw pos (keywordEach [] X.env))) := by rfl) :
    QE X (.Call (.Attribute o m apos) [] [] pos) (tMethA C m sp ta tNil) := ⟨by
  obtain ⟨f, fd, F, hm, hb⟩ := M.ex
  intro pins s σ H Q I h
  refine PySem.W.methodCall_KW (pl := pl) (thn (he.h pins s σ H _ I h) fun u s1 ⟨x, H1, I1, rx, a, ex, ⟨dx, fs, ea, l⟩, q⟩ => ?_) ht
  subst ex
  obtain rfl : u = Value.ref a := rx
  refine getmeth_ok I1 ea c hm l ?_
  exact PySem.W.callWith_K0 (first := [.ref a]) I1.kIn hm.kp (run_fn (us := [.ref a]) (vs := [.ref a]) F hr hb .nil pass0 I1 (.cons rfl .nil) q)⟩
theorem qe_make (M : Mi X.prog X.w X.K X.mg X.base C x ps k sp) (hr : Room (k + 1) X.A) (ha : QA X (e :: es) t) (hg : Gl X x := by rfl) (hdb : (x == ("__debug__" : Str)) = false := by decide)
    (he : starEach (e :: es) X.env = (false, eval e X.env) :: starEach es X.env := by rfl) (hpl : (backTo pos (starEach es X.env)).any (·.1) = false := by rfl) :
    QE X (.Call (.Name x p) (e :: es) [] pos) (tMake C sp [] E0 t) := ⟨by
  obtain ⟨f, fd, F, mk, hx, hb⟩ := M.ex
  exact pe_make mk F hr hg hx hb .nil pass0 ha.h hdb he hpl⟩
end
section
variable {X : Cx} {o e : Expr} {es : List Expr} {to : TE} {t : TA} {name : Str} {apos cpos : Pos} {T id : String} {r : V → List V → Hp → VK → Prop} {K : PySem.W.Frag}
theorem qe_bmK (hK : X.K = K) (pa : PlainAttrs T) (slot : Slot T name id) (hty : typeOf (.builtin id) = pure (.type "method_descriptor")) (hm : MtR X id r) (ho : QE X o to) (ha : QA X (e :: es) t)
    (hbase : attributeBase o name X.env (eval o X.env) = eval o X.env := by rfl)
    (hfew : ((backTo cpos (starEach (e :: es) X.env)).all (fun x => !x.1) && (backToKw cpos (keywordEach [] X.env)).all (fun x => x.1.isSome)
      && decide ((e :: es).length + ([] : List Keyword).length + (if ([] : List Keyword).isEmpty then 0 else 1) < 30)) = true := by rfl)
    (hline : (apos.endLine == cpos.line) = true := by rfl) (hs : starEach (e :: es) X.env = (false, eval e X.env) :: starEach es X.env := by rfl) (hplain : (backTo cpos (starEach es X.env)).any (·.1) = false := by rfl) :
    QE X (.Call (.Attribute o name apos) (e :: es) [] cpos) (tBM K T r to t) := by
  subst hK
  exact qe_bm pa slot hty hm ho ha hbase hfew hline hs hplain
theorem mr_popAt : MtR X "list.pop" rPopAt := mt_popAt
end
theorem lookup_at {f : Str} {v : V} : ∀ {fs : List (Str × V)} (i : Nat), fs[i]? = some (f, v) → (fs.map (·.1)).Nodup → fs.lookup f = some v
  | [], i, h, _ => by cases h
  | (g, x) :: r, 0, h, _ => by
    cases Option.some.inj h
    exact List.lookup_cons_self
  | (g, x) :: r, i + 1, h, nd => by
    have h' : r[i]? = some (f, v) := h
    have nd' : g ∉ r.map (·.1) ∧ (r.map (·.1)).Nodup := List.nodup_cons.mp nd
    have hm : f ∈ r.map (·.1) := List.mem_map.mpr ⟨(f, v), List.mem_of_getElem? h', rfl⟩
    have ne : f ≠ g := fun z => nd'.1 (z ▸ hm)
    rw [List.lookup_cons, beq_false_of_ne ne]
    exact lookup_at i h' nd'.2
theorem lookup_no {f : Str} : ∀ {fs : List (Str × V)}, f ∉ fs.map (·.1) → fs.lookup f = none
  | [], _ => rfl
  | (g, x) :: r, h => by
    have ne : f ≠ g := fun z => h (z ▸ List.mem_cons_self ..)
    rw [List.lookup_cons, beq_false_of_ne ne]
    exact lookup_no fun z => h (List.mem_cons_of_mem _ z)
theorem putF_at {f : Str} {v u : V} : ∀ {fs : List (Str × V)} (i : Nat), fs[i]? = some (f, u) → (fs.map (·.1)).Nodup → putF f v fs = fs.set i (f, v)
  | [], i, h, _ => by cases h
  | (g, x) :: r, 0, h, _ => by
    cases Option.some.inj h
    show (if f = f then _ else _) = _
    rw [if_pos rfl]; rfl
  | (g, x) :: r, i + 1, h, nd => by
    have h' : r[i]? = some (f, u) := h
    have nd' : g ∉ r.map (·.1) ∧ (r.map (·.1)).Nodup := List.nodup_cons.mp nd
    have hm : f ∈ r.map (·.1) := List.mem_map.mpr ⟨(f, u), List.mem_of_getElem? h', rfl⟩
    have ne : ¬ g = f := fun z => nd'.1 (z ▸ hm)
    show (if g = f then _ else (g, x) :: putF f v r) = _
    rw [if_neg ne, putF_at i h' nd'.2]; rfl
theorem putF_new {f : Str} {v : V} : ∀ {fs : List (Str × V)}, f ∉ fs.map (·.1) → putF f v fs = fs ++ [(f, v)]
  | [], _ => rfl
  | (g, x) :: r, h => by
    have ne : ¬ g = f := fun z => h (z ▸ List.mem_cons_self ..)
    show (if g = f then _ else (g, x) :: putF f v r) = _
    rw [if_neg ne, putF_new fun z => h (List.mem_cons_of_mem _ z)]; rfl
def Mv (S : List Addr) (H H' : Hp) : Prop := ∀ c o, c ∉ S → H c = some o → H' c = some o
theorem Mv.refl {S : List Addr} {H : Hp} : Mv S H H := fun _ _ _ e => e
theorem Mv.trans {S : List Addr} {H H1 H2 : Hp} (a : Mv S H H1) (b : Mv S H1 H2) : Mv S H H2 := fun c o n e => b c o n (a c o n e)
theorem Mv.mono {S S' : List Addr} {H H' : Hp} (a : Mv S H H') (h : ∀ c, c ∉ S' → c ∉ S) : Mv S' H H' := fun c o n e => a c o (h c n) e
theorem _root_.L2.Same.mv {S : List Addr} {H H' : Hp} (a : Same H H') : Mv S H H' := fun c o _ e => a c o e
theorem Mv.upd1 {a : Addr} {H : Hp} {o : HO} : Mv [a] H (upd H a o) := fun c u n e => by
  rw [upd_ne (fun z => n (List.mem_singleton.mpr z))]; exact e
theorem GrC.mv {b : Addr} {n : Nat} {H H' : Hp} (g : GrC b n H H') : Mv [b] H H' := fun c o h e => g.kp c o (fun z => h (List.mem_singleton.mpr z)) e
def noTup : HO → Prop
  | .tup _ => False
  | .frz _ (.dK _) => True
  | .frz _ _ => False
  | _ => True
def NT (S : List Addr) (H : Hp) : Prop := ∀ c, c ∈ S → ∃ o, H c = some o ∧ noTup o
theorem Mv.rd {S : List Addr} {H H' : Hp} {a : Addr} {xs : List V} (m : Mv S H H') (n : NT S H) (h : Rd H a (.tup xs)) : Rd H' a (.tup xs) := by
  have hn : a ∉ S := fun z => by
    obtain ⟨o, e, no⟩ := n a z
    rcases h with h | ⟨o', h⟩
    · rw [e] at h; cases h; exact no
    · rw [e] at h; cases h; exact no
  rcases h with h | ⟨o', h⟩
  · exact .inl (m _ _ hn h)
  · exact .inr ⟨o', m _ _ hn h⟩
theorem Mv.sqt {K : PySem.W.Frag} {S : List Addr} {H H' : Hp} {a : Addr} {xs : List V} (m : Mv S H H') (n : NT S H) (h : SqT K H a xs) : SqT K H' a xs := by
  rcases h with h | h
  · exact .inl (m.rd n h)
  · exact .inr h
end L3
namespace L3
open PySem PySem.Spec PyProof.Rows L2
structure Bt where
  nm : Str
  t : List Int
  ks : List Int
  age : Int
  step : Int
  cnt : Int
  bnd : Int
  x : Option Int
  y : Option Int
def oV : Option Int → V
  | none => .non
  | some i => .int i
theorem oV_inj {a b : Option Int} (h : oV a = oV b) : a = b := by
  cases a <;> cases b <;> simp [oV] at h ⊢ <;> exact h
theorem oV_scal (a : Option Int) (i : Int) : scal (oV a) (.int i) = true := by cases a <;> rfl
theorem oV_dec (a : Option Int) (i : Int) : decide (oV a = .int i) = decide (a = some i) := by
  rw [Bool.eq_iff_iff, decide_eq_true_iff, decide_eq_true_iff]
  constructor
  · intro h; exact oV_inj (b := some i) h
  · intro h; rw [h]; rfl
def bF (B : Bt) (ta ka ce : Addr) : List (Str × V) :=
  [("name", .str B.nm), ("table", .ref ta), ("key", .ref ka), ("age", .int B.age), ("step", .int B.step), ("next_count", .int B.cnt), ("bound", .int B.bnd), ("cells", .ref ce)]
def bN : List Str := ["name", "table", "key", "age", "step", "next_count", "bound", "cells"]
theorem bN_nd : bN.Nodup := by decide +kernel
theorem bF_nd (B : Bt) (ta ka ce : Addr) : ((bF B ta ka ce).map (·.1)).Nodup := bN_nd
structure BCx (K : PySem.W.Frag) (C : Addr) : Prop where
  cl : Cls K C
  n_name : NoAttr K C "name"
  n_table : NoAttr K C "table"
  n_key : NoAttr K C "key"
  n_age : NoAttr K C "age"
  n_step : NoAttr K C "step"
  n_next_count : NoAttr K C "next_count"
  n_bound : NoAttr K C "bound"
  n_cells : NoAttr K C "cells"
structure BtnAt (K : PySem.W.Frag) (C : Addr) (H : Hp) (p ta ka ce : Addr) (B : Bt) : Prop where
  ob : ∃ dx, H p = some (.ins C dx (bF B ta ka ce))
  tb : SqT K H ta (B.t.map V.int)
  ky : SqT K H ka (B.ks.map V.int)
  cs : H ce = some (.lst [oV B.x, oV B.y])
section
variable {K : PySem.W.Frag} {C : Addr} {H H' : Hp} {p ta ka ce dx : Addr} {B : Bt}
theorem BtnAt.has (b : BtnAt K C H p ta ka ce B) (U : BCx K C) (i : Nat) {f : Str} {v : V} (h : (bF B ta ka ce)[i]? = some (f, v)) (n : NoAttr K C f) : HasF K H p f v := by
  obtain ⟨dx, e⟩ := b.ob
  exact ⟨C, dx, _, e, U.cl, n, lookup_at i h (bF_nd ..)⟩
theorem BtnAt.h_name (b : BtnAt K C H p ta ka ce B) (U : BCx K C) : HasF K H p "name" (.str B.nm) := b.has U 0 rfl U.n_name
theorem BtnAt.h_table (b : BtnAt K C H p ta ka ce B) (U : BCx K C) : HasF K H p "table" (.ref ta) := b.has U 1 rfl U.n_table
theorem BtnAt.h_key (b : BtnAt K C H p ta ka ce B) (U : BCx K C) : HasF K H p "key" (.ref ka) := b.has U 2 rfl U.n_key
theorem BtnAt.h_age (b : BtnAt K C H p ta ka ce B) (U : BCx K C) : HasF K H p "age" (.int B.age) := b.has U 3 rfl U.n_age
theorem BtnAt.h_step (b : BtnAt K C H p ta ka ce B) (U : BCx K C) : HasF K H p "step" (.int B.step) := b.has U 4 rfl U.n_step
theorem BtnAt.h_next_count (b : BtnAt K C H p ta ka ce B) (U : BCx K C) : HasF K H p "next_count" (.int B.cnt) := b.has U 5 rfl U.n_next_count
theorem BtnAt.h_bound (b : BtnAt K C H p ta ka ce B) (U : BCx K C) : HasF K H p "bound" (.int B.bnd) := b.has U 6 rfl U.n_bound
theorem BtnAt.h_cells (b : BtnAt K C H p ta ka ce B) (U : BCx K C) : HasF K H p "cells" (.ref ce) := b.has U 7 rfl U.n_cells
theorem BtnAt.no (b : BtnAt K C H p ta ka ce B) {m : Str} (h : m ∉ bN := by decide +kernel) : NoF C H p m := by
  obtain ⟨dx, e⟩ := b.ob
  exact ⟨dx, _, e, lookup_no h⟩
theorem BtnAt.ne (b : BtnAt K C H p ta ka ce B) : p ≠ ce := by
  obtain ⟨dx, e⟩ := b.ob
  exact ne_of e b.cs (by intro z; cases z)
theorem BtnAt.nt (b : BtnAt K C H p ta ka ce B) : NT [p, ce] H := fun c hc => by
  obtain ⟨dx, e⟩ := b.ob
  simp only [List.mem_cons, List.not_mem_nil, or_false] at hc
  rcases hc with rfl | rfl
  · exact ⟨_, e, trivial⟩
  · exact ⟨_, b.cs, trivial⟩
theorem BtnAt.put (U : BCx K C) (e : H p = some (.ins C dx (bF B ta ka ce))) (i : Nat) {f : Str} {u : V} (v : V) (h : (bF B ta ka ce)[i]? = some (f, u)) (n : NoAttr K C f) :
    PutF K H p f v (upd H p (.ins C dx ((bF B ta ka ce).set i (f, v)))) := ⟨C, dx, _, e, U.cl, n, by show 8 < 1000; decide, by rw [putF_at i h (bF_nd ..)]⟩
theorem BtnAt.to (b : BtnAt K C H p ta ka ce B) (m : Mv [p, ce] H H') {B' : Bt} (ht : B'.t = B.t) (hk : B'.ks = B.ks) (e : H' p = some (.ins C dx (bF B' ta ka ce))) (ec : H' ce = some (.lst [oV B'.x, oV B'.y])) : BtnAt K C H' p ta ka ce B' :=
  ⟨⟨dx, e⟩, by rw [ht]; exact m.sqt b.nt b.tb, by rw [hk]; exact m.sqt b.nt b.ky, ec⟩
theorem BtnAt.mv {S : List Addr} (b : BtnAt K C H p ta ka ce B) (m : Mv S H H') (n : NT S H) (hp : p ∉ S) (hc : ce ∉ S) : BtnAt K C H' p ta ka ce B := by
  obtain ⟨dx, e⟩ := b.ob
  exact ⟨⟨dx, m _ _ hp e⟩, m.sqt n b.tb, m.sqt n b.ky, m _ _ hc b.cs⟩
theorem BtnAt.same (b : BtnAt K C H p ta ka ce B) (s : Same H H') : BtnAt K C H' p ta ka ce B := b.mv (S := []) s.mv (fun c h => nomatch h) (fun h => nomatch h) (fun h => nomatch h)
end
def Bt.sp (B : Bt) : Int := if B.x = some B.bnd then 1 else 0
def Bt.nb (B : Bt) : Int := if 4096 < B.bnd + B.step then 4096 else B.bnd + B.step
def Bt.wr (B : Bt) : Bt := if B.x = some B.bnd then { B with bnd := B.nb, y := some B.nb } else { B with bnd := B.nb, x := some B.nb }
def Bt.mw (B : Bt) : Bool := decide (B.cnt = B.bnd) && !decide (4096 ≤ B.cnt)
def Bt.pr (B : Bt) : Bt := if B.mw then { B.wr with cnt := B.cnt + 1 } else { B with cnt := B.cnt + 1 }
theorem wr_nm (B : Bt) : B.wr.nm = B.nm := by unfold Bt.wr; split <;> rfl
theorem wr_t (B : Bt) : B.wr.t = B.t := by unfold Bt.wr; split <;> rfl
theorem wr_ks (B : Bt) : B.wr.ks = B.ks := by unfold Bt.wr; split <;> rfl
theorem wr_age (B : Bt) : B.wr.age = B.age := by unfold Bt.wr; split <;> rfl
theorem wr_cnt (B : Bt) : B.wr.cnt = B.cnt := by unfold Bt.wr; split <;> rfl
theorem pr_nm (B : Bt) : B.pr.nm = B.nm := by unfold Bt.pr; split <;> first | exact wr_nm B | rfl
theorem pr_t (B : Bt) : B.pr.t = B.t := by unfold Bt.pr; split <;> first | exact wr_t B | rfl
theorem pr_ks (B : Bt) : B.pr.ks = B.ks := by unfold Bt.pr; split <;> first | exact wr_ks B | rfl
theorem pr_age (B : Bt) : B.pr.age = B.age := by unfold Bt.pr; split <;> first | exact wr_age B | rfl
theorem pr_cnt (B : Bt) : B.pr.cnt = B.cnt + 1 := by unfold Bt.pr; split <;> rfl
section
variable (K : PySem.W.Frag) (C : Addr)
def spBInit : Sp := fun vs H Q _ => ∃ (p a b dx : Addr) (nm : Str) (age step : Int) (t ks : List Int), vs = [.ref p, .str nm, .ref a, .ref b, .int age, .int step] ∧ H p = some (.ins C dx []) ∧ Sq K H a (t.map V.int) ∧ Sq K H b (ks.map V.int) ∧
  ∀ ta ka ce H', H ce = none → Mv [p] H H' → BtnAt K C H' p ta ka ce ⟨nm, t, ks, age, step, 0, 0, some 0, none⟩ → Q .non H'
def spBWorn : Sp := fun vs H Q _ => ∃ (p ta ka ce : Addr) (B : Bt), vs = [.ref p] ∧ BtnAt K C H p ta ka ce B ∧ Q (.bl (decide (4096 ≤ B.cnt))) H
def spBMust : Sp := fun vs H Q _ => ∃ (p ta ka ce : Addr) (B : Bt), vs = [.ref p] ∧ BtnAt K C H p ta ka ce B ∧ Q (.bl B.mw) H
def spBSpare : Sp := fun vs H Q _ => ∃ (p ta ka ce : Addr) (B : Bt), vs = [.ref p] ∧ BtnAt K C H p ta ka ce B ∧ Q (.int B.sp) H
def spBWrite : Sp := fun vs H Q _ => ∃ (p ta ka ce : Addr) (B : Bt), vs = [.ref p] ∧ BtnAt K C H p ta ka ce B ∧ ∀ H', Mv [p, ce] H H' → BtnAt K C H' p ta ka ce B.wr → Q .non H'
def spBPress : Sp := fun vs H Q _ => ∃ (p ta ka ce : Addr) (B : Bt) (d : Int), vs = [.ref p, .int d] ∧ BtnAt K C H p ta ka ce B ∧ isNm B.nm ∧ B.t.length = 16 ∧ 0 ≤ B.cnt ∧ B.cnt < 4096 ∧ dig d ∧
  ∀ q pc H', Mv [p, ce] H H' → BtnAt K C H' p ta ka ce B.pr → H' q = some (.tup [.str B.nm, .int B.age, .ref pc]) → H' pc = some (.tup ((codeI B.t B.ks B.nm B.cnt d).map V.int)) → Q (.ref q) H'
def spBCount : Sp := fun vs H Q _ => ∃ (p ta ka ce : Addr) (B : Bt), vs = [.ref p] ∧ BtnAt K C H p ta ka ce B ∧ Q (.int B.cnt) H
def spBCells : Sp := fun vs H Q _ => ∃ (p ta ka ce : Addr) (B : Bt), vs = [.ref p] ∧ BtnAt K C H p ta ka ce B ∧ ∀ q H', Same H H' → H' q = some (.tup [oV B.x, oV B.y]) → Q (.ref q) H'
end
def spTable2 : Sp := fun vs H Q _ => ∃ (b : Addr) (c : Nat), vs = [.ref b] ∧ BoxC H b c ∧ c < 100000000 ∧ ∀ p (t : List Int) H', GrC b (c + 16) H H' → H p = none → H' p = some (.tup (t.map V.int)) → t.Perm digs → Q (.ref p) H'
def spKeyT2 : Sp := fun vs H Q _ => ∃ (b : Addr) (c : Nat), vs = [.ref b] ∧ BoxC H b c ∧ c < 100000000 ∧ ∀ p (ks : List Int) H', GrC b (c + 9) H H' → H p = none → H' p = some (.tup (ks.map V.int)) → digR ks → 1 ≤ ks.length → ks.length ≤ 8 → Q (.ref p) H'
def spName2 : Sp := fun vs H Q _ => ∃ (b : Addr) (c : Nat), vs = [.ref b] ∧ BoxC H b c ∧ c < 100000000 ∧ ∀ z H', GrC b (c + 1) H H' → isNm z → Q (.str z) H'
theorem GrC.fresh {b c : Addr} {n : Nat} {H H' : Hp} (g : GrC b n H H') (hb : BoxC H b n) (h : H' c = Option.none) : H c = Option.none := by
  cases e : H c with
  | none => rfl
  | some o =>
    by_cases z : c = b
    · subst z
      obtain ⟨_, _, _, e', _⟩ := g.bx
      rw [e'] at h; cases h
    · rw [g.kp c o z e] at h; cases h
theorem put_new {K : PySem.W.Frag} {C p dx : Addr} {H : Hp} {fs : List (Str × V)} {f : Str} {v : V} (c : Cls K C) (e : H p = some (.ins C dx fs)) (n : NoAttr K C f) (i : Nat) (hns : fs.map (·.1) = bN.take i := by rfl) (hn : f ∉ bN.take i := by decide +kernel) :
    PutF K H p f v (upd H p (.ins C dx (fs ++ [(f, v)]))) := ⟨C, dx, fs, e, c, n, by
    have h1 : fs.length = (bN.take i).length := by rw [← hns, List.length_map]
    have h2 : (bN.take i).length ≤ 8 := by rw [List.length_take]; exact Nat.min_le_right _ _
    omega, by rw [putF_new (by rw [hns]; exact hn)]⟩
theorem sq_tuple {K : PySem.W.Frag} {H : Hp} {a : Addr} {xs : List V} {Q : VK} (h : Sq K H a xs) (q : ∀ l H', Same H H' → SqT K H' l xs → Q (.ref l) H') : (SqL K H a xs ∧ ∀ l, H l = none → Q (.ref l) (upd H l (.tup xs))) ∨ (SqT K H a xs ∧ Q (.ref a) H) :=
  h.elim (fun h => .inl ⟨h, fun l hl => q l _ (Same.upd hl) (SqT.of upd_same)⟩) fun h => .inr ⟨h, q a H (Same.refl _) h⟩
theorem sq_upd {K : PySem.W.Frag} {C p dx a : Addr} {H : Hp} {fs : List (Str × V)} {xs : List V} {o : HO} (e : H p = some (.ins C dx fs)) (h : Sq K H a xs) : Sq K (upd H p o) a xs := by
  rcases h with (h | h) | (h | h)
  · refine .inl (.inl ?_)
    rcases h with h | ⟨u, h⟩
    · exact .inl (by rw [upd_ne (ne_of h e (by intro z; cases z))]; exact h)
    · exact .inr ⟨u, by rw [upd_ne (ne_of h e (by intro z; cases z))]; exact h⟩
  · exact .inl (.inr h)
  · refine .inr (.inl ?_)
    rcases h with h | ⟨u, h⟩
    · exact .inl (by rw [upd_ne (ne_of h e (by intro z; cases z))]; exact h)
    · exact .inr ⟨u, by rw [upd_ne (ne_of h e (by intro z; cases z))]; exact h⟩
  · exact .inr (.inr h)
theorem sqt_upd {K : PySem.W.Frag} {C p dx a : Addr} {H : Hp} {fs : List (Str × V)} {xs : List V} {o : HO} (e : H p = some (.ins C dx fs)) (h : SqT K H a xs) : SqT K (upd H p o) a xs := by
  rcases h with (h | ⟨u, h⟩) | h
  · exact .inl (.inl (by rw [upd_ne (ne_of h e (by intro z; cases z))]; exact h))
  · exact .inl (.inr ⟨u, by rw [upd_ne (ne_of h e (by intro z; cases z))]; exact h⟩)
  · exact .inr h
theorem call_len_seqK {X : Cx} {K : PySem.W.Frag} (hK : X.K = K) : CallR X (.builtin "len") (fun xs H Q => ∃ p ys, xs = [.ref p] ∧ (SqL K H p ys ∨ SqT K H p ys) ∧ Q (.int (ys.length : Nat)) H) := by
  subst hK
  exact call_len_seq
theorem seqIndex_nat {k n : Nat} (h : k < n) : seqIndex? (k : Int) n = some k := by
  unfold seqIndex?
  simp
  omega
theorem perm_pop {ms zs : List Int} {k : Nat} (h : k < ms.length) : (zs ++ [ms[k]] ++ ms.eraseIdx k).Perm (zs ++ ms) := by
  rw [List.append_assoc]
  refine List.Perm.append_left zs ?_
  rw [List.eraseIdx_eq_take_drop_succ]
  have e : ms = ms.take k ++ ms[k] :: ms.drop (k + 1) := by rw [← List.drop_eq_getElem_cons h, List.take_append_drop]
  refine List.Perm.trans (List.perm_middle (a := ms[k]) (l₁ := ms.take k) (l₂ := ms.drop (k + 1))).symm ?_
  rw [← e]
theorem erase_ints (ms : List Int) (k : Nat) : (ms.map V.int).eraseIdx k = (ms.eraseIdx k).map V.int := by
  rw [List.eraseIdx_eq_take_drop_succ, List.eraseIdx_eq_take_drop_succ, List.map_append, List.map_take, List.map_drop]
theorem call_tupleQ {X : Cx} : CallR X (.type "tuple") (fun xs H Q => ∃ p ys, xs = [.ref p] ∧ Sq X.K H p ys ∧ ∀ l H', Same H H' → SqT X.K H' l ys → Q (.ref l) H') := by
  intro pins s σ H xs us Q I r h
  obtain ⟨p, ys, e, hs, q⟩ := h
  exact call_tuple_of pins s σ H xs us Q I r ⟨p, ys, e, sq_tuple hs q⟩
end L3
namespace L3
open PySem PySem.Spec PyProof.Rows L2
theorem Mv.free {b c : Addr} {H H' : Hp} {n : Nat} (m : Mv [b] H H') (hb : BoxC H' b n) (h : H' c = Option.none) : H c = Option.none := by
  cases e : H c with
  | none => rfl
  | some o =>
    by_cases z : c = b
    · subst z
      obtain ⟨_, _, _, e', _⟩ := hb
      rw [e'] at h; cases h
    · rw [m c o (fun y => z (List.mem_singleton.mp y)) e] at h; cases h
section
variable {K : PySem.W.Frag} {C : Addr} {H H' : Hp} {b L : Addr} {n n' : Nat} {os : List O}
theorem nin1 {a x : Addr} (h : a ≠ x) : a ∉ [x] := fun z => h (List.mem_singleton.mp z)
end
end L3
namespace L3
open PySem PySem.Spec PyProof.Rows L2
theorem Same.mv_of {H H1 H2 : Hp} {S : List Addr} (s : Same H H1) (m : Mv S H1 H2) (h : ∀ c ∈ S, H c = none) : Same H H2 := fun c o e => m c o (fun z => ne_of_none e (h c z) rfl) (s c o e)
theorem BoxC.upd {H : Hp} {b l : Addr} {n : Nat} {o : HO} (h : BoxC H b n) (ne : l ≠ b) : BoxC (upd H l o) b n := by
  obtain ⟨a1, a2, a3, e, r⟩ := h
  exact ⟨a1, a2, a3, by rw [upd_ne ne.symm]; exact e, r⟩
theorem BoxC.mv {H H' : Hp} {S : List Addr} {b : Addr} {n : Nat} (h : BoxC H b n) (m : Mv S H H') (ne : b ∉ S) : BoxC H' b n := by
  obtain ⟨a1, a2, a3, e, r⟩ := h
  exact ⟨a1, a2, a3, m _ _ ne e, r⟩
theorem small (n : Nat) (h : n ≤ 100 := by omega) : n < sizeLine := Nat.lt_of_le_of_lt h (by decide)
theorem nin2 {a x y : Addr} (h : a ≠ x) (g : a ≠ y) : a ∉ [x, y] := fun z => by
  simp only [List.mem_cons, List.not_mem_nil, or_false] at z
  exact z.elim h g
theorem NT.one {H : Hp} {a : Addr} {o : HO} (e : H a = some o) (n : noTup o) : NT [a] H := fun c hc => ⟨o, by rw [List.mem_singleton.mp hc]; exact e, n⟩
end L3
namespace L2
open PySem PySem.Spec PyProof.Rows
section
variable {κ : Type} [DecidableEq κ]
def valV (kvs : List (κ × V)) (k : κ) : Option V := (kvs.find? fun kv => decide (kv.1 = k)).map (·.2)
def putK (kvs : List (κ × V)) (k : κ) (v : V) : List (κ × V) :=
  if (kvs.any fun kv => decide (kv.1 = k)) = true then kvs.map (fun kv => if kv.1 = k then (kv.1, v) else kv) else kvs ++ [(k, v)]
theorem valV_pos {p : κ × V} {r : List (κ × V)} {k : κ} (e : p.1 = k) : valV (p :: r) k = some p.2 := by simp [valV, List.find?_cons, e]
theorem valV_neg {p : κ × V} {r : List (κ × V)} {k : κ} (e : ¬ p.1 = k) : valV (p :: r) k = valV r k := by simp [valV, List.find?_cons, e]
theorem valV_any (k : κ) : ∀ kvs : List (κ × V), (kvs.any fun kv => decide (kv.1 = k)) = (valV kvs k).isSome
  | [] => rfl
  | p :: r => by
    rw [List.any_cons]
    by_cases e : p.1 = k
    · simp only [valV_pos e, decide_eq_true e, Bool.true_or, Option.isSome_some]
    · rw [valV_neg e, decide_eq_false e, Bool.false_or]; exact valV_any k r
theorem length_putK (kvs : List (κ × V)) (k : κ) (v : V) : (putK kvs k v).length ≤ kvs.length + 1 := by
  unfold putK
  split
  · rw [List.length_map]; omega
  · rw [List.length_append, List.length_cons, List.length_nil]; omega
theorem RelO.isSome_eq {o : Option V} {u : Option Value} (r : RelO o u) : o.isSome = u.isSome := by
  cases o with
  | none => cases u with
    | none => rfl
    | some _ => exact (show False from r).elim
  | some _ => cases u with
    | none => exact (show False from r).elim
    | some _ => rfl
theorem KV.val {kvs : List (κ × V)} {vs : List (κ × Value)} (r : KV kvs vs) (k : κ) : RelO (valV kvs k) (valueAt vs k) := by
  unfold KV at r
  induction r with
  | nil => exact True.intro
  | @cons p q ps qs h t ih =>
    obtain ⟨h1, h2⟩ := h
    by_cases e : p.1 = k
    · have e' : q.1 = k := h1.symm.trans e
      have b : valueAt (q :: qs) k = some q.2 := by simp [valueAt, List.find?_cons, e']
      rw [valV_pos e, b]; exact h2
    · have e' : ¬ q.1 = k := fun z => e (h1.trans z)
      have b : valueAt (q :: qs) k = valueAt qs k := by simp [valueAt, List.find?_cons, e']
      rw [valV_neg e, b]; exact ih
theorem KV.any {kvs : List (κ × V)} {vs : List (κ × Value)} (r : KV kvs vs) (k : κ) : (kvs.any fun kv => decide (kv.1 = k)) = vs.any fun kv => decide (kv.1 = k) := by
  unfold KV at r
  induction r with
  | nil => rfl
  | cons h t ih => rw [List.any_cons, List.any_cons, ih, h.1]
theorem KV.repl {kvs : List (κ × V)} {vs : List (κ × Value)} (r : KV kvs vs) (k : κ) {y : V} {u : Value} (ry : RelV y u) :
    KV (kvs.map fun kv => if kv.1 = k then (kv.1, y) else kv) (vs.map fun kv => if kv.1 = k then (kv.1, u) else kv) := by
  unfold KV at r ⊢
  induction r with
  | nil => exact .nil
  | @cons p q ps qs h t ih =>
    rw [List.map_cons, List.map_cons]
    refine .cons ?_ ih
    obtain ⟨h1, h2⟩ := h
    by_cases e : p.1 = k
    · rw [if_pos e, if_pos (h1.symm.trans e)]; exact ⟨h1, ry⟩
    · rw [if_neg e, if_neg (fun z => e (h1.trans z))]; exact ⟨h1, h2⟩
theorem KV.put {kvs : List (κ × V)} {vs : List (κ × Value)} (r : KV kvs vs) (k : κ) {y : V} {u : Value} (ry : RelV y u) : KV (putK kvs k y) (stored vs k u) := by
  unfold putK stored
  rw [r.any k]
  by_cases e : (vs.any fun kv => decide (kv.1 = k)) = true
  · rw [if_pos e, if_pos e]; exact r.repl k ry
  · rw [if_neg e, if_neg e]; exact Paired.snoc r ⟨rfl, ry⟩
theorem KV.length {kvs : List (κ × V)} {vs : List (κ × Value)} (r : KV kvs vs) : kvs.length = vs.length := Paired.length r
end
theorem kV_is {P : Program} {w : World} {k : Key} {u : Value} (r : RelV (kV k) u) : (mixKind P w).is k u = true := by
  cases k with
  | inl i => obtain ⟨t, e⟩ := (show ∃ t, u = Value.int i t from r); subst e; exact mixKind_int P w i t
  | inr x => obtain ⟨t, e⟩ := (show ∃ t, u = Value.str x t from r); subst e; exact mixKind_str P w x t
theorem items_are {P : Program} {w : World} : ∀ {ks : List Key} {us : List Value}, Vals (ks.map kV) us → ItemsAre (mixKind P w) ks us
  | [], _, r => by rw [List.map_nil] at r; cases r; exact .nil
  | k :: ks, _, r => by
    rw [List.map_cons] at r
    cases r with
    | cons h t => exact .cons (kV_is h) (items_are t)
abbrev KT (H : Hp) : List (List Key × V) → List (List Key × Addr × Value) → Prop := Paired fun p q => p.1 = q.1 ∧ H q.2.1 = some (.tup (p.1.map kV)) ∧ RelV p.2 q.2.2
theorem KT.val {H : Hp} {kvs : List (List Key × V)} {xs : List (List Key × Addr × Value)} (r : KT H kvs xs) (k : List Key) : RelO (valV kvs k) ((atKey xs k).map (·.2)) := by
  induction r with
  | nil => exact True.intro
  | @cons p q ps qs h t ih =>
    obtain ⟨h1, _, h2⟩ := h
    by_cases e : p.1 = k
    · have e' : q.1 = k := h1.symm.trans e
      have b : atKey (q :: qs) k = some q.2 := by simp [atKey, List.find?_cons, e']
      rw [valV_pos e, b]; exact h2
    · have e' : ¬ q.1 = k := fun z => e (h1.trans z)
      have b : atKey (q :: qs) k = atKey qs k := by simp [atKey, List.find?_cons, e']
      rw [valV_neg e, b]; exact ih
theorem KT.repl {H : Hp} {kvs : List (List Key × V)} {xs : List (List Key × Addr × Value)} (r : KT H kvs xs) (k : List Key) {y : V} {u : Value} (ry : RelV y u) :
    KT H (kvs.map fun kv => if kv.1 = k then (kv.1, y) else kv) (xs.map (putAt k u)) := by
  induction r with
  | nil => exact .nil
  | @cons p q ps qs h t ih =>
    rw [List.map_cons, List.map_cons]
    refine .cons ?_ ih
    obtain ⟨h1, h2, h3⟩ := h
    unfold putAt
    by_cases e : p.1 = k
    · rw [if_pos e, if_pos (h1.symm.trans e)]; exact ⟨h1, h2, ry⟩
    · rw [if_neg e, if_neg (fun z => e (h1.trans z))]; exact ⟨h1, h2, h3⟩
theorem KT.put {H : Hp} {kvs : List (List Key × V)} {xs : List (List Key × Addr × Value)} (r : KT H kvs xs) (k : List Key) {b : Addr} {y : V} {u : Value} (hb : H b = some (.tup (k.map kV))) (ry : RelV y u) :
    KT H (putK kvs k y) (storedH xs k b u) := by
  have e : (kvs.any fun kv => decide (kv.1 = k)) = (atKey xs k).isSome := by
    rw [valV_any, (r.val k).isSome_eq, Option.isSome_map]
  unfold putK storedH
  rw [e]
  by_cases q : (atKey xs k).isSome = true
  · rw [if_pos q, if_pos q]; exact r.repl k ry
  · rw [if_neg q, if_neg q]; exact Paired.snoc r ⟨rfl, hb, ry⟩
theorem KT.keeps {H H' : Hp} {kvs : List (List Key × V)} {xs : List (List Key × Addr × Value)} (r : KT H kvs xs) (ht : ∀ b ys, H b = some (.tup ys) → H' b = some (.tup ys)) : KT H' kvs xs :=
  Paired.mapP r fun _ _ z => ⟨z.1, ht _ _ z.2.1, z.2.2⟩
section
variable {P : Program} {w : World} {H : Hp} {h : Heap} {a : Addr}
theorem rd_of {u : HO} (ok : HOk P w H h) (e : Rd H a u) : ObjOk P w H h a u := e.ok ok
theorem dk_rd {kvs : List (Key × V)} (ok : HOk P w H h) (e : Rd H a (.dK kvs)) : kvs.length ≤ sizeLine ∧ (a == sysModules) = false ∧ ∃ vs, KV kvs vs ∧ h.DictOf (mixKind P w) a vs :=
  show ObjOk P w H h a (.dK kvs) from rd_of ok e
theorem dk_of {kvs : List (Key × V)} (ok : HOk P w H h) (e : H a = some (.dK kvs)) : kvs.length ≤ sizeLine ∧ (a == sysModules) = false ∧ ∃ vs, KV kvs vs ∧ h.DictOf (mixKind P w) a vs := dk_rd ok (.inl e)
theorem key_of {ks : List Key} (ok : HOk P w H h) (e : H a = some (.tup (ks.map kV))) : (tupleKind (mixKind P w)).is h ks a := by
  obtain ⟨_, its, r, o, h1, h2, n, h3⟩ := (show ObjOk P w H h a (.tup (ks.map kV)) from ok a _ e)
  exact ⟨o, its.toArray, n, h1, h2, h3, by simpa using items_are r⟩
theorem dt_rd {kvs : List (List Key × V)} (ok : HOk P w H h) (e : Rd H a (.dT kvs)) : kvs.length ≤ sizeLine ∧ (a == sysModules) = false ∧
    ∃ xs, KT H kvs xs ∧ h.DictOfH (tupleKind (mixKind P w)) a xs := by
  obtain ⟨z, y, xs, r, o, es, ep, h1, h2, h3, h4, h5⟩ := (show ObjOk P w H h a (.dT kvs) from rd_of ok e)
  refine ⟨z, y, xs, r, o, es, ep, h1, h2, h3, h4, fun x hx => ?_, h5⟩
  have all : ∀ {l : List (List Key × V)} {m : List (List Key × Addr × Value)}, KT H l m → ∀ x ∈ m, (tupleKind (mixKind P w)).is h x.1 x.2.1 := by
    intro l m q
    induction q with
    | nil => intro x hx; exact nomatch hx
    | @cons p q ps qs hq t ih =>
      intro x hx
      rcases List.mem_cons.mp hx with e | hx
      · subst e
        exact key_of ok (by rw [← hq.1]; exact hq.2.1)
      · exact ih x hx
  exact all r x hx
theorem dt_of {kvs : List (List Key × V)} (ok : HOk P w H h) (e : H a = some (.dT kvs)) : kvs.length ≤ sizeLine ∧ (a == sysModules) = false ∧
    ∃ xs, KT H kvs xs ∧ h.DictOfH (tupleKind (mixKind P w)) a xs := dt_rd ok (.inl e)
end
def DGet (H : Hp) (a : Addr) (y : V) (r : Option V) : Prop :=
  (∃ kvs k, Rd H a (.dK kvs) ∧ y = kV k ∧ r = valV kvs k) ∨ ∃ kvs k b, Rd H a (.dT kvs) ∧ y = .ref b ∧ H b = some (.tup (k.map kV)) ∧ r = valV kvs k
def DPut (H : Hp) (a : Addr) (y v : V) (H' : Hp) : Prop :=
  (∃ kvs k, H a = some (.dK kvs) ∧ y = kV k ∧ kvs.length < sizeLine ∧ H' = upd H a (.dK (putK kvs k v))) ∨
  ∃ kvs k b, H a = some (.dT kvs) ∧ y = .ref b ∧ H b = some (.tup (k.map kV)) ∧ kvs.length < sizeLine ∧ H' = upd H a (.dT (putK kvs k v))
theorem DGet.k {H : Hp} {a : Addr} {kvs : List (Key × V)} {k : Key} (e : H a = some (.dK kvs)) : DGet H a (kV k) (valV kvs k) := .inl ⟨kvs, k, .inl e, rfl, rfl⟩
theorem DPut.k {H : Hp} {a : Addr} {kvs : List (Key × V)} {k : Key} {v : V} (e : H a = some (.dK kvs)) (hl : kvs.length < sizeLine) : DPut H a (kV k) v (upd H a (.dK (putK kvs k v))) := .inl ⟨kvs, k, e, rfl, hl, rfl⟩
section
variable {X : Cx} {pins : List (Addr × Obj)} {σ : St} {H : Hp} {s : Shared} {a : Addr} {y v : V} {u r : Value} {o : Option V} {A : Around} {E : Value → Shared → Prop}
theorem Inv.big (I : Inv X pins σ H s) : sysModules < s.heap.objs.size := by
  have h : mainGlobals < s.heap.objs.size := (I.mod.glob.keeps I.bk).lt
  exact Nat.lt_trans (by decide) h
theorem d_getItem {Q : Value → Shared → Prop} (hu : A.units + 1 < cLine) (I : Inv X pins σ H s) (g : DGet H a y (some v)) (ry : RelV y u) (h : ∀ w' s', Inv X pins σ H s' → RelV v w' → Q w' s') :
    wpAny (model X.prog X.w) A (getItem (.ref a) u) Q E s := by
  rcases g with ⟨kvs, k, e, ey, l⟩ | ⟨kvs, k, b, e, ey, eb, l⟩
  · subst ey
    obtain ⟨z, hd, vs, rel, dd⟩ := dk_rd I.hok e
    obtain ⟨w', hw, rw'⟩ := RelO.some_of (v := v) (o := valueAt vs k) (by rw [l]; exact rel.val k)
    exact wpAny_getItem_of (kV_is ry) dd.mapOf hw (h w' _ (I.tok _) rw')
  · subst ey
    cases (show u = Value.ref b from ry)
    obtain ⟨z, hd, xs, rel, dd⟩ := dt_rd I.hok e
    obtain ⟨w', hw, rw'⟩ := RelO.some_of (v := v) (o := (atKey xs k).map (·.2)) (by rw [l]; exact rel.val k)
    obtain ⟨p, hp, hp2⟩ := Option.map_eq_some_iff.mp hw
    refine wpAny_getItem_heap (tupleKind_room_in1 hu) (key_of I.hok eb) dd hp ?_
    rw [hp2]
    exact h w' _ (I.tok _) rw'
theorem d_write {h' : Heap} {t' : Nat} {ob : HO} (I : Inv X pins σ H s) (mu : Mut (H a)) (hs : Heap.SameBut a s.heap h') (he : ∃ q, h'.get? a = some q) (new : ObjOk X.prog X.w (upd H a ob) h' a ob) :
    Inv X pins σ (upd H a ob) { s with heap := h', toks := t' } :=
  I.write (x := a) (e := a) mu (.inl rfl) (fun b q hb z => (hs.2 b hb).trans z) he new
theorem dk_new {P : Program} {w : World} {H' : Hp} {h' : Heap} {kvs : List (Key × V)} {vs : List (Key × Value)} (z : kvs.length ≤ sizeLine) (hd : (a == sysModules) = false) (rel : KV kvs vs) (dd : h'.DictOf (mixKind P w) a vs) :
    ObjOk P w H' h' a (.dK kvs) := ⟨z, hd, vs, rel, dd⟩
theorem d_setItem {H' : Hp} {Q : Unit → Shared → Prop} (hu : A.units + 1 < cLine) (I : Inv X pins σ H s) (g : DPut H a y v H') (ry : RelV y u) (rv : RelV v r) (h : ∀ s', Inv X pins σ H' s' → Q () s') :
    wpAny (model X.prog X.w) A (setItem (.ref a) u r) Q E s := by
  rcases g with ⟨kvs, k, e, ey, l, eH⟩ | ⟨kvs, k, b, e, ey, eb, l, eH⟩
  · subst ey eH
    obtain ⟨z, hd, vs, rel, dd⟩ := dk_of I.hok e
    have hz : vs.length ≤ sizeLine := by rw [← rel.length]; exact z
    have hl : (putK kvs k v).length ≤ sizeLine := by have := length_putK kvs k v; omega
    refine wpAny_setItem_pairs (hsz := hz) (kV_is ry) dd fun h' dd' hs => h _ ?_
    have he : ∃ q, h'.get? a = some q := let ⟨q, _, _, hq, _⟩ := dd'; ⟨q, hq⟩
    exact d_write I (by rw [e]; exact True.intro) hs he (dk_new hl hd (rel.put k rv) dd')
  · subst ey eH
    cases (show u = Value.ref b from ry)
    obtain ⟨z, hd, xs, rel, dd⟩ := dt_of I.hok e
    have hz : xs.length ≤ sizeLine := by rw [← Paired.length rel]; exact z
    have hl : (putK kvs k v).length ≤ sizeLine := by have := length_putK kvs k v; omega
    refine wpAny_setItem_heap (hsz := hz) (tupleKind_room_in1 hu) (key_of I.hok eb) dd fun h' dd' hs => h _ ?_
    obtain ⟨q, es, ep, hq, h2, h3, h4, _, h5⟩ := dd'
    refine d_write I (by rw [e]; exact True.intro) hs ⟨q, hq⟩ ⟨hl, hd, _, (rel.put k eb rv).keeps fun c ys ec => ?_, q, es, ep, hq, h2, h3, h4, h5⟩
    rw [upd_ne (ne_of ec e (fun z => nomatch z))]
    exact ec
end
def NoSl (i : Expr) : Prop := ∀ ov iv, subscripted i false ov iv = operate [ov, iv] (getItem ov iv)
theorem subD_of {prog : Program} {w : World} {A : Around} {E : Value → Shared → Prop} {s : Shared} {env : Env} {value slice : Expr} {pos : Pos} {T id : String} {Q : Value → Shared → Prop}
    (hl : typeLookup (.type T) "__getitem__" = pure (some (.builtin id))) (hs : NoSl slice)
    (h : wpAny (model prog w) A (eval value env) (fun o s₁ => wpAny (model prog w) A (eval slice env) (fun i s₂ => s₂.TypeIs o T ∧ wpAny (model prog w) A (getItem o i) Q E s₂) E s₁) E s) :
    wpAny (model prog w) A (eval (.Subscript value slice pos) env) Q E s := by
  refine Subscript_ (wpAny_mono h (fun o s₁ h₁ => wpAny_mono h₁ (fun i s₂ h₂ => ?_) fun _ _ x => x) fun _ _ x => x)
  obtain ⟨hT, h₂⟩ := h₂
  unfold subscriptTail
  refine wpAny_bind ?_
  rw [getitemInPython_of_ne hT.not_modules]
  refine wpAny_bind (wpAny_specialOf hT hl ?_)
  have fin : wpAny (model prog w) A (subscripted slice false o i) (fun r s₃ => wpAny (model prog w) A (letTemporaryGo value o r >>= fun _ => pure r) Q E s₃) E s₂ := by
    rw [hs o i]
    exact wpAny_operating (wpAny_mono h₂ (fun r s₃ h₃ => wpAny_bind (wpAny_letTemporaryGo (wpAny_pure h₃))) fun _ _ x => x)
  first
    | exact wpAny_pure (wpAny_bind fin)
    | exact wpAny_bind (wpAny_pure (wpAny_bind fin))
    | exact wpAny_bind fin
theorem dict_typeIs {X : Cx} {pins : List (Addr × Obj)} {σ : St} {H : Hp} {s : Shared} {a : Addr} {y : V} {o : Option V} (I : Inv X pins σ H s) (g : DGet H a y o) : s.TypeIs (.ref a) "dict" := by
  rcases g with ⟨kvs, k, e, _, _⟩ | ⟨kvs, k, b, e, _, _, _⟩
  · obtain ⟨_, _, vs, _, dd⟩ := dk_rd I.hok e
    exact dd.typeIs
  · obtain ⟨_, _, xs, _, dd⟩ := dt_rd I.hok e
    exact dd.typeIs
def tDGet (td ty : TE) : TE := fun σ H Q => td σ H fun x H1 => ty σ H1 fun y H2 => ∃ a v, x = .ref a ∧ DGet H2 a y (some v) ∧ Q v H2
def sDPut (td ty tv : TE) : TS := fun D σ H => tv σ H fun v H1 => td σ H1 fun x H2 => ty σ H2 fun y H3 => ∃ a H4, x = .ref a ∧ DPut H3 a y v H4 ∧ D.nx σ H4
section
variable {X : Cx} {o i e value : Expr} {pos pos' tpos : Pos} {td ty tv : TE}
theorem pe_dget (hu : X.A.units + 1 < cLine) (ho : PE X o td) (hi : PE X i ty) (hs : NoSl i) : PE X (.Subscript o i pos) (tDGet td ty) := by
  intro pins s σ H Q I h
  refine subD_of PySem.F.slot_dict_getitem.lookup hs (thn (ho pins s σ H _ I h) fun u s1 ⟨x, H1, I1, rx, q1⟩ => thn (hi pins s1 σ H1 _ I1 q1) fun iv s2 ⟨y, H2, I2, ry, a, v, ex, g, q2⟩ => ?_)
  subst ex
  obtain rfl : u = Value.ref a := rx
  exact ⟨dict_typeIs I2 g, d_getItem hu I2 g ry fun w' s3 I3 rw' => ⟨v, H2, I3, rw', q2⟩⟩
theorem ps_dput (hu : X.A.units + 1 < cLine) (ho : PE X o td) (hi : PE X i ty) (hv : PE X value tv) (hs : swapsWith value (some (.Subscript o i pos')) pos.line X.env = pure false) :
    PS X (.Assign [.Subscript o i pos'] value pos) (sDPut td ty tv) := by
  intro pins s σ H D I h
  refine wpAny_Assign_Subscript (thn (hv pins s σ H _ I h) fun r s1 ⟨v, H1, I1, rv, q1⟩ => thn (ho pins s1 σ H1 _ I1 q1) fun u s2 ⟨x, H2, I2, rx, q2⟩ => thn (hi pins s2 σ H2 _ I2 q2) fun iv s3 ⟨y, H3, I3, ry, a, H4, ex, g, q3⟩ => ?_) hs
  subst ex
  obtain rfl : u = Value.ref a := rx
  exact d_setItem hu I3 g ry rv fun s4 I4 => ⟨σ, H4, I4, q3⟩
end
theorem dk_empty {P : Program} {w : World} {H : Hp} (h : Heap) (hb : sysModules < h.objs.size) : ObjOk P w H (h.push { cls := .type "dict", data := .dict #[] }) h.objs.size (.dK []) :=
  ⟨Nat.zero_le _, beq_eq_false_iff_ne.mpr (Ne.symm (Nat.ne_of_lt hb)), [], .nil, Heap.DictOf.new h⟩
end L2
namespace L2
open PySem PySem.Spec PyProof.Rows
def tPairs : List (TE × TE) → St → Hp → (List (V × V) → Hp → Prop) → Prop
  | [], _, H, Q => Q [] H
  | (tk, tv) :: r, σ, H, Q => tk σ H fun x H1 => tv σ H1 fun y H2 => tPairs r σ H2 fun ps H3 => Q ((x, y) :: ps) H3
abbrev VV : List (V × V) → List (Value × Value) → Prop := Paired fun p q => RelV p.1 q.1 ∧ RelV p.2 q.2
def PPs (X : Cx) (pos : Pos) (keys : List (Option Expr)) (values : List Expr) (trs : List (TE × TE)) : Prop :=
  ∀ (pins : List (Addr × Obj)) (s : Shared) (σ : St) (H : Hp) (Q : List (V × V) → Hp → Prop), Inv X pins σ H s → tPairs trs σ H Q →
    wpAny (model X.prog X.w) X.A (evalPairs (pairTrees keys values X.env pos)) (fun vs s' => ∃ ps H', Inv X pins σ H' s' ∧ VV ps vs ∧ Q ps H') X.xe s
theorem pps_nil {X : Cx} {pos : Pos} : PPs X pos [] [] [] := fun pins s σ H Q I h => pairTrees_nil_walk ⟨[], H, I, .nil, h⟩
theorem pps_cons {X : Cx} {pos : Pos} {k v : Expr} {ks : List (Option Expr)} {vs : List Expr} {tk tv : TE} {trs : List (TE × TE)} (hk : PE X k tk) (hv : PE X v tv) (hr : PPs X pos ks vs trs) :
    PPs X pos (some k :: ks) (v :: vs) ((tk, tv) :: trs) := fun pins s σ H Q I h =>
  pairTrees_cons_walk (thn (hk pins s σ H _ I h) fun u s1 ⟨x, H1, I1, rx, q1⟩ => thn (hv pins s1 σ H1 _ I1 q1) fun w2 s2 ⟨y, H2, I2, ry, q2⟩ =>
    thn (hr pins s2 σ H2 _ I2 q2) fun ws s3 ⟨ps, H3, I3, rel, q3⟩ => ⟨(x, y) :: ps, H3, I3, .cons ⟨rx, ry⟩ rel, q3⟩)
def mergeK (kvs more : List (Key × V)) : List (Key × V) := more.foldl (fun acc kv => putK acc kv.1 kv.2) kvs
theorem KV.merge : ∀ {more : List (Key × V)} {rs : List (Key × Value)} {kvs : List (Key × V)} {vs : List (Key × Value)}, KV more rs → KV kvs vs → KV (mergeK kvs more) (merged vs rs) := by
  intro more rs kvs vs r
  unfold KV at r
  induction r generalizing kvs vs with
  | nil => intro q; exact q
  | @cons p q ps qs h t ih =>
    intro r0
    have e : KV (putK kvs p.1 p.2) (stored vs q.1 q.2) := by
      have := r0.put p.1 h.2
      rw [← h.1]; exact this
    exact ih e
theorem length_mergeK : ∀ (more kvs : List (Key × V)), (mergeK kvs more).length ≤ kvs.length + more.length
  | [], kvs => by show kvs.length ≤ kvs.length + 0; omega
  | p :: r, kvs => by
    have h1 := length_mergeK r (putK kvs p.1 p.2)
    have h2 := length_putK kvs p.1 p.2
    show (mergeK (putK kvs p.1 p.2) r).length ≤ _
    rw [List.length_cons]; omega
theorem carries_of {P : Program} {w : World} : ∀ {kvs : List (Key × V)} {ws : List (Value × Value)}, VV (kvs.map fun kv => (kV kv.1, kv.2)) ws → ∃ rs, Carries (mixKind P w) ws rs ∧ KV kvs rs
  | [], _, r => by rw [List.map_nil] at r; cases r; exact ⟨[], True.intro, .nil⟩
  | p :: kvs, _, r => by
    rw [List.map_cons] at r
    cases r with
    | @cons a b as bs h t =>
      obtain ⟨rs, c, q⟩ := carries_of (P := P) (w := w) t
      obtain ⟨b1, b2⟩ := b
      exact ⟨(p.1, b2) :: rs, ⟨kV_is h.1, rfl, c⟩, .cons ⟨rfl, h.2⟩ q⟩
def tDisp (trs : List (TE × TE)) : TE := fun σ H Q => ∀ p, H p = none → tPairs trs σ (upd H p (.dK [])) fun ps H2 => H2 p = some (.dK []) ∧ ∃ kvs : List (Key × V), ps = kvs.map (fun kv => (kV kv.1, kv.2)) ∧ kvs.length ≤ 15 ∧ Q (.ref p) (upd H2 p (.dK (mergeK [] kvs)))
theorem pe_disp {X : Cx} {pos : Pos} {keys : List (Option Expr)} {values : List Expr} {trs : List (TE × TE)} (h : PPs X pos keys values trs) (hall : keys.all (·.isSome) = true) (hl : keys.length = values.length) (h0 : keys ≠ [])
    (h15 : keys.length ≤ 15) : PE X (.Dict keys values pos) (tDisp trs) := by
  intro pins s σ H Q I q
  have hn := I.hok.fresh (Nat.le_refl s.heap.objs.size)
  have I1 := I.laid (a := s.heap.objs.size) (o := .dK []) (h' := s.heap.push { cls := .type "dict", data := .dict #[] }) (t' := s.toks) (fun _ _ q => Heap.get?_push_of_some _ q) (Nat.le_refl _) (dk_empty s.heap I.big)
  refine wpAny_Dict_walk (knd := mixKind X.prog X.w) hall hl h0 h15 (thn (h pins _ σ _ _ I1 (q _ hn)) fun ws s2 ⟨ps, H2, I2, rel, e, kvs, ep, lk, q2⟩ => ?_)
  subst ep
  obtain ⟨rs, c, rk⟩ := carries_of (P := X.prog) (w := X.w) rel
  obtain ⟨z, hd, vs0, r0, dd⟩ := dk_of I2.hok e
  cases r0
  refine ⟨rs, c, dd, fun h' dd' hs => ⟨.ref s.heap.objs.size, _, ?_, rfl, q2⟩⟩
  have hz : (mergeK [] kvs).length ≤ sizeLine := by
    have h1 := length_mergeK kvs []
    rw [List.length_nil] at h1
    rw [sizeLine_eq]; omega
  have he : ∃ q, h'.get? s.heap.objs.size = some q := let ⟨q, _, _, hq, _⟩ := dd'; ⟨q, hq⟩
  exact d_write I2 (by rw [e]; exact True.intro) hs he (dk_new hz hd (rk.merge .nil) dd')
end L2
namespace L3
open PySem PySem.Spec PyProof.Rows L2
open Sem (wp)
def CompGF (k : Nat) (js : List Nat) (g : TG) (tc : TT) (te : TE) (σ : L2.St) (Q : VK) (J : It) (H1 : Hp) : Prop := ∃ W : Nat → Nat → List V → L2.St → Hp → Prop, (∃ m, W 0 m [] (σ0 k js σ) H1) ∧ ∀ i m ys τ H, W i m ys τ H →
  (J.stop i H ∧ ∀ p, H p = none → Q (.ref p) (upd H p (.lst ys))) ∨ (J.go i H ∧ ys.length < sizeLine ∧ ∀ x H', J.yld i H x H' → g x τ H' fun τ2 H2 => ∃ (N : V → Hp → Prop) (N0 : Hp → Prop), (∀ v H3, N v H3 → ∃ m', m' < m ∧ W (i + 1) m' (ys ++ [v]) τ2 H3) ∧
    (∀ H3, N0 H3 → ∃ m', m' < m ∧ W (i + 1) m' ys τ2 H3) ∧ tc τ2 H2 fun c H3 => if c = true then te τ2 H3 N else N0 H3)
def tCompF (k : Nat) (js : List Nat) (wi : TI) (g : TG) (tc : TT) (te : TE) : TE := fun σ H Q => wi σ H (CompGF k js g tc te σ Q)
section
variable {prog : Program} {w : World} {A : Around} {R : Result → Shared → Prop} {s : Shared}
theorem compLoop_if {elt target iter cnd : Expr} {scope : Scope} {pos : Pos} {it acc : Value} {env : Env} (I : Nat → Shared → Prop)
    (turn : ∀ n s, I n s → wpAny (model prog w) A (pyNext it) (fun r s₁ => match r with
      | none => R (.ok .next) s₁
      | some v => wpAny (model prog w) A (letOwnedTupleGo target it v) (fun _ s₁' => wpAny (model prog w) A (assign target env v) (fun _ s₂ => wpAny (model prog w) A (isTrue cnd env (eval cnd env)) (fun ok s₂' =>
          if ok = true then wpAny (model prog w) A (eval elt env) (fun x s₃ =>
            wpAny (model prog w) A (call (.builtin "list.append") [acc, x]) (fun _ s₄ => ∃ m, m < n ∧ I m s₄) (fun _ _ => False) s₃) (fun _ _ => False) s₂' else ∃ m, m < n ∧ I m s₂')
          (fun _ _ => False) s₂) (fun _ _ => False) s₁') (fun _ _ => False) s₁) (fun _ _ => False) s)
    (n : Nat) (h : I n s) :
    codeAny (model prog w) A (.compLoop (.ListComp elt [⟨target, iter, [cnd], 0⟩] scope pos) 0 it acc env) R s := by
  refine codeAny_loop rfl I (fun n s hI => ?_) n h
  show wpAny _ _ ((compTurn (.ListComp elt [⟨target, iter, [cnd], 0⟩] scope pos) 0 it acc env).onRaise (fun x => do noteFrame x env; theTreesLotGoes x)) _ _ s
  refine wpAny_noted ?_
  rw [compTurn_list]
  refine wpAny_bind (wpAny_standAt (wpAny_bind (wpAny_mono (turn n s hI) (fun r s₁ h₁ => ?_) fun _ _ h' => h'.elim)))
  cases r with
  | none => exact wpAny_pure h₁
  | some v =>
    refine wpAny_bind (wpAny_mono h₁ (fun _ s₁' h₁' => ?_) fun _ _ h' => h'.elim)
    refine wpAny_bind (wpAny_mono h₁' (fun _ s₂ h₂ => wpAny_bind (wpAny_tests_one (wpAny_mono h₂ (fun ok s₂' h₂' => ?_) fun _ _ h' => h'.elim))) fun _ _ h' => h'.elim)
    cases ok with
    | false => exact wpAny_pure ⟨rfl, h₂'⟩
    | true =>
      exact wpAny_bind (wpAny_bind (wpAny_mono h₂' (fun x s₃ h₃ => wpAny_bind (wpAny_mono h₃ (fun _ s₄ h₄ => wpAny_pure (wpAny_pure ⟨rfl, h₄⟩)) fun _ _ h' => h'.elim)) fun _ _ h' => h'.elim))
end
variable {X : Cx}
theorem comp_runF {elt tg iter cnd : Expr} {scope : Scope} {cl : List (Str × Addr)} {pos fpos : Pos} {fr own : List Str} {js : List Nat} {wi : TI} {g : TG} {tc : TT} {te : TE} {use : Option (Value → Sem Unit)} {Post : Value → Shared → Prop}
    {pins : List (Addr × Obj)} {s : Shared} {σ : L2.St} {H : Hp} {Q : VK}
    (hc : X.calm = true) (hi : PI X tg iter wi) (hclos : closureFor scope X.env = pure cl) (hcl : ∀ y c, cl.lookup y = some c → X.env.cells.lookup y = some c) (hfr : cl.map (·.1) = fr)
    (S : BScope X scope fr js)
    (hg : ∀ C s H fp, PG (blk X (own ++ fr) scope cl C s H fp) tg g) (ht : ∀ C s H fp, PT (blk X (own ++ fr) scope cl C s H fp) cnd tc) (he : ∀ C s H fp, PE (blk X (own ++ fr) scope cl C s H fp) elt te)
    (hs : ∀ x, foldedSetIterable iter X.env x = pure x)
    (I : L2.Inv X pins σ H s) (h : tCompF own.length js wi g tc te σ H Q)
    (hfin : ∀ (acc C : Addr) (s5 : Shared) (H' : Hp) (m : Str → Option Value), L2.Inv X pins σ H' s5 → s5.heap.Ns C m → Away X pins H' C → Q (.ref acc) H' → compPost (model X.prog X.w) X.A X.xe use Post (.ref acc) C (.ok .next) s5) :
    wpAny (model X.prog X.w) X.A (comprehension (.ListComp elt [⟨tg, iter, [cnd], 0⟩] scope pos) scope X.env fpos (newList []) false (eval iter X.env) use) Post X.xe s := by
  refine wpAny_comprehension_free (use := use) rfl hs hclos S.kind S.names (thn (hi pins s σ H _ I h) fun v s1 h1 => thn h1 fun itv s2 h2 => ?_)
  obtain ⟨it, fp, tn, J, H2, e, I2, T, st2, f2, W, ⟨m0, w0⟩, turn⟩ := h2
  subst e
  refine wpAny_newObj_type (wpAny_newFunctionEnv S.nocell (by intro y hy; simp at hy) (fun h₁ hns₁ hsb₁ => ?_) S.kind)
  dsimp only at hns₁ hsb₁ ⊢
  generalize hH2 : s2.heap.push { cls := .type "list", dict := none, data := .seq ([] : List Value).toArray } = G at hns₁ hsb₁ ⊢
  have hC : G.objs.size = s2.heap.objs.size + 1 := by rw [← hH2, Heap.size_push]
  have hDC : s2.heap.objs.size ≠ G.objs.size := by rw [hC]; exact Nat.ne_of_lt (Nat.lt_succ_self _)
  have below : ∀ b, b < s2.heap.objs.size → b ≠ G.objs.size ∧ b ≠ s2.heap.objs.size := fun b hb => ⟨by rw [hC]; exact Nat.ne_of_lt (Nat.lt_succ_of_lt hb), Nat.ne_of_lt hb⟩
  have old : ∀ b o, s2.heap.get? b = some o → h₁.get? b = some o := fun b o e => hsb₁.extBut b o (below b (Heap.lt_size e)).1 (Heap.get?_push_of_some _ (hH2 ▸ Heap.get?_push_of_some _ e))
  have hacc : h₁.get? s2.heap.objs.size = some { cls := .type "list", data := .seq ([] : List Value).toArray 0 } := hsb₁.extBut _ _ hDC (Heap.get?_push_of_some _ (hH2 ▸ Heap.get?_push_size _ rfl))
  let Y : Cx := blk X (own ++ fr) scope cl G.objs.size s2 H2 fp
  have fplt : ∀ b ∈ fp, b < s2.heap.objs.size := fun b hb => by obtain ⟨o, e, _⟩ := T.obj _ _ st2 b hb; exact Heap.lt_size e
  have okY : Y.Ok := by
    refine ⟨I2.ok.mod, S.kind, I2.ok.glob, I2.ok.blt, by show s2.heap.objs.size ≤ G.objs.size; omega, ?_, ?_, ?_, I2.ok.hd, I2.ok.frames, .inl rfl, ?_, I2.bs, Nat.le_trans I2.ok.bsz I2.sz, ?_, ?_, I2.stack, I2.stkFree⟩
    · exact fun x y c e1 e2 => I2.ok.inj x y c (hcl x c e1) (hcl y c e2)
    · intro x hx
      have hx' : (relabel scope X.env).names.lookup x = some .cell ∨ (relabel scope X.env).names.lookup x = some .free := hx
      have hm : ∃ k, (x, k) ∈ scope.names ∧ k = .free := by
        have aux : ∀ kk : NameKind, (kk = .cell ∨ kk = .free) → (relabel scope X.env).names.lookup x = some kk → ∃ k, (x, k) ∈ scope.names ∧ k = .free := by
          intro kk hk el
          obtain ⟨⟨n, k⟩, hmem, e⟩ := List.mem_map.mp (PySem.mem_of_lookup el)
          dsimp only at e
          split at e
          · rename_i hcond
            cases e
            refine ⟨k, hmem, ?_⟩
            simp only [Bool.and_eq_true, beq_iff_eq] at hcond
            exact hcond.1.1
          · cases e
            rcases hk with z | z
            · subst z; exact absurd rfl (S.nocell _ hmem)
            · exact ⟨_, hmem, z⟩
        rcases hx' with z | z
        · exact aux _ (.inl rfl) z
        · exact aux _ (.inr rfl) z
      obtain ⟨k, hmem, hk⟩ := hm
      exact mem_lookup_isSome (l := cl) (by rw [hfr]; exact S.free _ hmem hk)
    · exact fun x c e _ => nomatch e
    · refine fun b hb => ⟨?_, fun x c e => (f2 b hb).2.2.2.2.1 x c (hcl x c e)⟩
      show b ≠ G.objs.size
      exact (below b (fplt b hb)).1
    · intro b o e hb
      rcases (f2 b hb).2.2.2.1 with z | z
      · exact I2.ok.noex b o e z
      · exact absurd (Nat.lt_of_lt_of_le (Heap.lt_size e) (Nat.le_trans I2.ok.bsz z)) (Nat.lt_irrefl _)
    · intro b hb hf
      rcases List.mem_cons.mp (I2.stkSub b hf) with z | z
      · exact (f2 b hb).2.1 z
      · exact (f2 b hb).2.2.1 z
  have lenσ : (σ0 own.length js σ).length = (own ++ fr).length := by unfold σ0; simp [S.len]
  have IY : Inv Y [] (σ0 own.length js σ) H2 { s2 with heap := h₁, toks := s2.toks + ([] : List (Str × Value)).length } := by
    refine ⟨okY, rfl, I2.bare, Un.kept old, ⟨_, hns₁, ?_⟩, ?_, ?_, ?_, fun p hp => absurd (show p ∈ ([] : List (Addr × Obj)) from hp) (by simp), I2.hok.kept old, lenσ⟩
    · intro i x v hN hv _
      have hN' : (own ++ fr)[i]? = some x := hN
      unfold σ0 at hv
      by_cases hlt : i < own.length
      · rw [List.getElem?_append_left (by simpa using hlt), List.getElem?_replicate] at hv
        split at hv <;> cases hv
      · rw [List.getElem?_append_right (by simpa using Nat.le_of_not_lt hlt), List.length_replicate, List.getElem?_map] at hv
        rw [List.getElem?_append_right (Nat.le_of_not_lt hlt)] at hN'
        cases ej : js[i - own.length]? with
        | none => rw [ej] at hv; cases hv
        | some j =>
          rw [ej] at hv
          have hσ : σ[j]? = some (some v) := by
            have hv' : (σ[j]?).join = some v := Option.some.inj hv
            cases q : σ[j]? with
            | none => rw [q] at hv'; cases hv'
            | some o => rw [q] at hv'; have : o = some v := hv'; rw [this]
          obtain ⟨hNj, hk, hkr⟩ := S.at_ _ j x ej hN'
          obtain ⟨m, hn, hl⟩ := I2.loc
          obtain ⟨u, ru, lk⟩ := hl j x v hNj hσ (.inr (.inl hk))
          refine ⟨u, ru, .inr ?_⟩
          rcases lk with ⟨k1, _⟩ | ⟨_, c, ec, ic⟩
          · rw [hk] at k1; cases k1
          · obtain ⟨c', hc'⟩ := mem_lookup_isSome (y := x) (l := cl) (by rw [hfr]; exact List.mem_of_getElem? hN')
            have : c' = c := by have := hcl x c' hc'; rw [ec] at this; exact (Option.some.inj this).symm
            subst this
            refine ⟨?_, c', hc', ?_⟩
            · show (relabel scope X.env).names.lookup x = some .cell ∨ (relabel scope X.env).names.lookup x = some .free
              exact .inl hkr
            · obtain ⟨oc, hoc, hd⟩ := ic
              exact ⟨oc, old _ _ hoc, hd⟩
    · intro x c e
      obtain ⟨v, oc, hoc, hd⟩ := I2.cell x c (hcl x c e)
      exact ⟨v, oc, old _ _ hoc, hd⟩
    · exact I2.hok.fresh (by show s2.heap.objs.size ≤ G.objs.size; omega)
    · exact fun x c e => I2.freeC x c (hcl x c e)
  have accfs : s2.heap.objs.size ∉ frs X.stack := fun hf => by
    rcases List.mem_cons.mp (I2.stkSub _ hf) with z | z
    · exact absurd (by rw [← z] ; exact Nat.le_refl _ : s2.heap.objs.size ≤ X.env.locals) (Nat.not_le.mpr I2.lt)
    · exact I2.nofs (Nat.le_refl _) z
  have acccell : ∀ x c, cl.lookup x = some c → c ≠ s2.heap.objs.size := fun x c e z => by
    obtain ⟨v, oc, hoc, _⟩ := I2.cell x c (hcl x c e)
    exact absurd (Heap.lt_size hoc) (by rw [z]; exact Nat.lt_irrefl _)
  have fpY : ∀ {H' : Hp} {pl : List (Addr × Obj)}, (∀ b ∈ fp, H' b = none) → (∀ p ∈ pl, p.1 = s2.heap.objs.size) → ∀ b ∈ fp, FpOk Y pl H' b := fun {H' pl} hn hp b hb =>
    ⟨hn b hb, (below b (fplt b hb)).1, okY.exfs b hb, .inl hb, fun x c e => (f2 b hb).2.2.2.2.1 x c (hcl x c e), fun p hpp => by
      have hpp' : p ∈ pl := by simpa [Y, blk] using hpp
      rw [hp p hpp']; exact Ne.symm (below b (fplt b hb)).2⟩
  have loop : ∀ s₃ : Shared, Inv Y [] (σ0 own.length js σ) H2 s₃ → tn 0 s₃.heap → s₃.heap.get? s2.heap.objs.size = some { cls := .type "list", data := .seq ([] : List Value).toArray 0 } →
      codeAny (model X.prog X.w) X.A (.compLoop (.ListComp elt [⟨tg, iter, [cnd], 0⟩] scope pos) 0 (.ref it) (.ref s2.heap.objs.size) (compEnvC scope cl G.objs.size X.env))
        (compPost (model X.prog X.w) X.A X.xe use Post (.ref s2.heap.objs.size) G.objs.size) s₃ := by
    intro s₃ I3 st3 ha3
    refine compLoop_if (fun n s' => ∃ i ys τ H' its k, Inv Y [(s2.heap.objs.size, { cls := .type "list", data := .seq its.toArray k })] τ H' s' ∧ tn i s'.heap ∧ (∀ b ∈ fp, H' b = none) ∧ Vals ys its ∧ ys.length ≤ sizeLine ∧ W i n ys τ H') ?_ m0 ?_
    · rintro n s4 ⟨i, ys, τ, H4, its, k, I4, st4, fr4, vl, hz, w4⟩
      have pin4 := I4.pin (s2.heap.objs.size, { cls := .type "list", data := .seq its.toArray k }) (by simp [Y, blk])
      rcases turn i n ys τ H4 w4 with ⟨stop, qn⟩ | ⟨go, hlt, step⟩
      · refine thn (T.done Y rfl rfl rfl hc i _ s4 τ H4 _ I4 (fpY fr4 (by simp)) st4 stop) fun r s5 ⟨hr, I5⟩ => ?_
        subst hr
        show compPost _ _ _ _ _ _ _ _ _
        obtain ⟨m5, hn5, _⟩ := I5.loc
        have pin5 := I5.pin (s2.heap.objs.size, { cls := .type "list", data := .seq its.toArray k }) (by simp [Y, blk])
        have nacc : H4 s2.heap.objs.size = none := pin5.2.1
        have B := I5.base
        have nC : H4 G.objs.size = none := I5.free
        refine hfin s2.heap.objs.size G.objs.size s5 (upd H4 s2.heap.objs.size (.lst ys)) m5 ?_ hn5 ?_ (qn _ nacc)
        · refine I2.call' (s' := s5) (ch := fp) I5.os ⟨B.keep, B.slot, fun b o e n hx => ?_, B.there, fun b xs e => ?_, fun b o u e => ?_, fun b ps e => ?_⟩ ?_ I5.bare ?_
          · rw [upd_ne (below b (Heap.lt_size e)).2]; exact B.free b o e n hx
          · have e1 := B.tups b xs e
            rw [upd_ne (ne_of_none e1 nacc)]; exact e1
          · have e1 := B.frzs b o u e
            rw [upd_ne (ne_of_none e1 nacc)]; exact e1
          · obtain ⟨more, e1⟩ := B.tbls b ps e
            exact ⟨more, by rw [upd_ne (ne_of_none e1 nacc)]; exact e1⟩
          · intro b u e
            by_cases hb : b = s2.heap.objs.size
            · subst hb
              rw [upd_same] at e; cases e
              exact ⟨hz, its, k, vl, pin5.1⟩
            · rw [upd_ne hb] at e
              exact (I5.hok b u e).stay (fun c v _ q => q) (fun c q => by rw [upd_ne (ne_of_none q nacc)]; exact q) fun c xs q => by rw [upd_ne (ne_of_none q nacc)]; exact q
          · exact fun b hb => ⟨(f2 b hb).2.2.2.1, (f2 b hb).2.1, (f2 b hb).2.2.2.2.1, (f2 b hb).2.2.2.2.2⟩
        · have hge : s2.heap.objs.size ≤ G.objs.size := by omega
          refine ⟨by rw [upd_ne (Ne.symm hDC)]; exact nC, ?_, Nat.le_trans I2.sz hge, fun x c e z => ?_, fun p hp z => ?_⟩
          · exact Nat.ne_of_gt (Nat.lt_of_lt_of_le I2.lt hge)
          · obtain ⟨v, oc, hoc, _⟩ := I2.cell x c e
            exact absurd (Nat.lt_of_lt_of_le (Heap.lt_size hoc) hge) (by rw [z]; exact Nat.lt_irrefl _)
          · exact absurd (Nat.lt_of_lt_of_le (Heap.lt_size (I2.pin p hp).1) hge) (by rw [z]; exact Nat.lt_irrefl _)
      · refine thn (T.item Y rfl rfl rfl hc i _ s4 τ H4 _ I4 (fpY fr4 (by simp)) st4 go) fun r s5 ⟨u, hr, h5⟩ => ?_
        subst hr
        refine thn h5 fun _ s6 ⟨x, H6, I6, r6, y6, st6, fr6⟩ => ?_
        have I6' := I6.pinned (fpY fr6 (by simp)) (T.obj _ _ st6)
        refine thn (hg _ _ _ _ _ s6 τ H6 x u _ I6' r6 (step x H6 y6)) fun _ s7 ⟨τ7, H7, I7, N, N0, hN, hN0, q7⟩ => ?_
        refine thn (ht _ _ _ _ _ s7 τ7 H7 _ I7 q7) fun ok s7' ⟨H7', I7', q7'⟩ => ?_
        cases ok with
        | false =>
          obtain ⟨m', hm', w8⟩ := hN0 _ q7'
          have pin8 := I7'.pin (s2.heap.objs.size, { cls := .type "list", data := .seq its.toArray k }) (by simp [blk])
          have pinfp : ∀ b ∈ fp, ∀ o, s6.heap.get? b = some o → s7'.heap.get? b = some o ∧ H7' b = none := fun b hb o e => by
            have := I7'.pin (b, o) (List.mem_append_right _ (List.mem_append_right _ (mem_pinsAt hb e)))
            exact ⟨this.1, this.2.1⟩
          refine ⟨m', hm', i + 1, ys, τ7, H7', its, k, I7'.pins_of ?_, T.keep _ _ _ st6 fun b hb o e => (pinfp b hb o e).1, fun b hb => ?_, vl, by omega, w8⟩
          · intro p hp
            rw [List.mem_singleton.mp hp]
            exact pin8
          · obtain ⟨o, e, _⟩ := T.obj _ _ st6 b hb
            exact (pinfp b hb o e).2
        | true =>
        refine thn (he _ _ _ _ _ s7' τ7 H7' _ I7' q7') fun v' s8 ⟨y, H8, I8, r8, n8⟩ => ?_
        obtain ⟨m', hm', w8⟩ := hN _ _ n8
        have pin8 := I8.pin (s2.heap.objs.size, { cls := .type "list", data := .seq its.toArray k }) (by simp [blk])
        have pinfp : ∀ b ∈ fp, ∀ o, s6.heap.get? b = some o → s8.heap.get? b = some o ∧ H8 b = none := fun b hb o e => by
          have := I8.pin (b, o) (List.mem_append_right _ (List.mem_append_right _ (mem_pinsAt hb e)))
          exact ⟨this.1, this.2.1⟩
        refine wpAny_list_append_plain (items := its.toArray) ⟨k, pin8.1⟩ (fun h' ha' hs' => ?_) (by have := vl.length; simp; omega)
        obtain ⟨k', ha'⟩ := ha'
        have I9 : Inv Y [] τ7 H8 { s8 with heap := h' } := by
          refine (I8.pins_of (pins' := []) (by simp)).turned (t' := s8.toks) (it := s2.heap.objs.size) (fun b o hb e => (hs'.2 b hb).trans e) pin8.2.1 ?_ (.inr (Nat.le_refl _)) (fun x c e => acccell x c e) (fun p hp => absurd (show p ∈ ([] : List (Addr × Obj)) from by simpa [Y, blk] using hp) (by simp))
          exact hDC
        have ea : (its.toArray.push v') = (its ++ [v']).toArray := by simp
        rw [ea] at ha'
        refine ⟨m', hm', i + 1, ys ++ [y], τ7, H8, its ++ [v'], k', I9.pins_of ?_, T.keep _ _ _ st6 fun b hb o e => (hs'.2 b (below b (fplt b hb)).2).trans (pinfp b hb o e).1, fun b hb => ?_, vl.append (.cons r8 .nil), ?_, w8⟩
        · intro p hp
          rw [List.mem_singleton.mp hp]
          exact ⟨ha', pin8.2.1, hDC, accfs, fun v z => by cases z⟩
        · obtain ⟨o, e, _⟩ := T.obj _ _ st6 b hb
          exact (pinfp b hb o e).2
        · rw [List.length_append, List.length_singleton]; omega
    · refine ⟨0, [], σ0 own.length js σ, H2, [], 0, I3.pins_of ?_, st3, fun b hb => (f2 b hb).1, .nil, Nat.zero_le _, w0⟩
      intro p hp
      rw [List.mem_singleton.mp hp]
      exact ⟨ha3, I2.hok.fresh (Nat.le_refl _), hDC, accfs, fun v z => by cases z⟩
  have st1 : tn 0 h₁ := T.keep _ _ _ st2 fun b _ o e => old b o e
  exact codeAny_compStart_list (loop _ IY st1 hacc) (T.self _ 0 _ _ _ st1 (loop _ IY st1 hacc))
theorem pe_compF {elt tg iter cnd : Expr} {scope : Scope} {cl : List (Str × Addr)} {pos : Pos} {fr own : List Str} {js : List Nat} {wi : TI} {g : TG} {tc : TT} {te : TE}
    (hc : X.calm = true) (hi : PI X tg iter wi) (hclos : closureFor scope X.env = pure cl) (hcl : ∀ y c, cl.lookup y = some c → X.env.cells.lookup y = some c) (hfr : cl.map (·.1) = fr)
    (S : BScope X scope fr js)
    (hg : ∀ C s H fp, PG (blk X (own ++ fr) scope cl C s H fp) tg g) (ht : ∀ C s H fp, PT (blk X (own ++ fr) scope cl C s H fp) cnd tc) (he : ∀ C s H fp, PE (blk X (own ++ fr) scope cl C s H fp) elt te)
    (hs : ∀ x, foldedSetIterable iter X.env x = pure x := by intro _; rfl) :
    PE X (.ListComp elt [⟨tg, iter, [cnd], 0⟩] scope pos) (tCompF own.length js wi g tc te) := by
  intro pins s σ H Q I h
  rw [eval_ListComp]
  refine comp_runF (use := none) hc hi hclos hcl hfr S hg ht he hs I h fun acc C s5 H' m I5 hn aw q => ?_
  exact ⟨m, hn, fun h' hs' => ⟨.ref acc, H', I5.turned (t' := s5.toks) (fun b o hb e => (hs'.2 b hb).trans e) aw.free aw.loc (.inr aw.new) aw.cell aw.pin, rfl, q⟩⟩
theorem qe_compF {elt tg iter cnd : Expr} {scope : Scope} {cl : List (Str × Addr)} {pos : Pos} {fr own : List Str} {js : List Nat} {wi : TI} {g : TG} {tc : TT} {te : TE}
    (hc : X.calm = true) (hi : QI X tg iter wi) (hclos : closureFor scope X.env = pure cl) (hcl : ∀ y c, cl.lookup y = some c → X.env.cells.lookup y = some c) (hfr : cl.map (·.1) = fr)
    (S : BScope X scope fr js)
    (hg : ∀ C s H fp, QG (blk X (own ++ fr) scope cl C s H fp) tg g) (ht : ∀ C s H fp, QT (blk X (own ++ fr) scope cl C s H fp) cnd tc) (he : ∀ C s H fp, QE (blk X (own ++ fr) scope cl C s H fp) elt te)
    (hs : ∀ x, foldedSetIterable iter X.env x = pure x := by intro _; rfl) :
    QE X (.ListComp elt [⟨tg, iter, [cnd], 0⟩] scope pos) (tCompF own.length js wi g tc te) := ⟨pe_compF hc hi.h hclos hcl hfr S (fun C s H fp => (hg C s H fp).h) (fun C s H fp => (ht C s H fp).h) (fun C s H fp => (he C s H fp).h) hs⟩
section
variable {js : List Nat} {tc : TT} {te : TE} {σ : L2.St} {H : Hp} {Q : VK} {K : PySem.W.Frag}
abbrev CompWF (J : It) (js : List Nat) (tc : TT) (te : TE) (σ : L2.St) (H1 : Hp) (Q : VK) : Prop := CompGF 1 js (gName 0) tc te σ Q J H1
theorem compF_gen {J : It} {n : Nat} (hn : n ≤ sizeLine) (item : Nat → V → Prop) (Pv : Nat → List V → Hp → Prop) (h0 : Pv 0 [] H) (hgo : ∀ i ys H, i < n → Pv i ys H → J.go i H) (hst : ∀ ys H, Pv n ys H → J.stop n H)
    (hy : ∀ i ys H x H', i < n → Pv i ys H → J.yld i H x H' → H' = H ∧ item i x)
    (hs : ∀ i ys H x, i < n → Pv i ys H → item i x → tc (some x :: frees js σ) H fun c H3 => if c = true then te (some x :: frees js σ) H3 (fun v H4 => Pv (i + 1) (ys ++ [v]) H4) else Pv (i + 1) ys H3)
    (hd : ∀ ys H, Pv n ys H → ∀ p, H p = none → Q (.ref p) (upd H p (.lst ys))) : CompWF J js tc te σ H Q := by
  refine ⟨fun i m ys τ H => m = n - i ∧ i ≤ n ∧ ys.length ≤ i ∧ Pv i ys H ∧ ∃ o, τ = o :: frees js σ, ⟨n, by simp, Nat.zero_le _, Nat.le_refl _, h0, none, rfl⟩, ?_⟩
  rintro i m ys τ H ⟨rfl, hi, hl, p, o, rfl⟩
  by_cases hlt : i < n
  · refine .inr ⟨hgo i ys H hlt p, by omega, fun x H' y => ?_⟩
    obtain ⟨e, hx⟩ := hy i ys H x H' hlt p y
    subst e
    exact ⟨fun v H3 => Pv (i + 1) (ys ++ [v]) H3, fun H3 => Pv (i + 1) ys H3, fun v H3 p3 => ⟨n - (i + 1), by omega, rfl, hlt, by simp; omega, p3, _, rfl⟩, fun H3 p3 => ⟨n - (i + 1), by omega, rfl, hlt, by omega, p3, _, rfl⟩, hs i ys _ x hlt p hx⟩
  · have e : i = n := by omega
    subst e
    exact .inl ⟨hst ys H p, hd ys H p⟩
theorem compF_list {a : Addr} {xs : List V} (hn : xs.length ≤ sizeLine) (Pv : Nat → List V → Hp → Prop) (h0 : Pv 0 [] H) (hl : ∀ i ys H, Pv i ys H → SqL K H a xs)
    (hs : ∀ i ys H x, xs[i]? = some x → Pv i ys H → tc (some x :: frees js σ) H fun c H3 => if c = true then te (some x :: frees js σ) H3 (fun v H4 => Pv (i + 1) (ys ++ [v]) H4) else Pv (i + 1) ys H3)
    (hd : ∀ ys H, Pv xs.length ys H → ∀ p, H p = none → Q (.ref p) (upd H p (.lst ys))) : CompWF (Itl K a) js tc te σ H Q :=
  compF_gen hn (fun i x => xs[i]? = some x) Pv h0 (fun i ys H hi p => ⟨xs, xs[i], hl _ _ _ p, by simp [hi]⟩) (fun ys H p => ⟨xs, hl _ _ _ p, Nat.le_refl _⟩) (fun i ys H x H' _ p y => ⟨y.1, y.2 xs (hl _ _ _ p)⟩) (fun i ys H x _ p hx => hs i ys H x hx p) hd
end
def okC (x y : Option Int) : List Int := (match x with | some i => [i] | none => []) ++ (match y with | some i => [i] | none => [])
theorem call_maxL (hc : X.calm = true) : CallR X (.builtin "max") (fun xs H Q => ∃ (p : Addr) (ns : List Int), xs = [.ref p] ∧ H p = some (.lst (ns.map V.int)) ∧ 0 < ns.length ∧ ∀ M, M ∈ ns → (∀ a ∈ ns, a ≤ M) → Q (.int M) H) := by
  intro pins s σ H xs us Q I r h
  obtain ⟨p, ns, rfl, hH, hne, q⟩ := h
  obtain ⟨u, rfl, ru⟩ := vals1 r
  cases ru
  obtain ⟨z, its, n, rv, hl, e⟩ := I.lstM hH
  have hi : IntsAre its ns := intsAre_of rv
  obtain ⟨ys, ey⟩ := hi.allInts.items
  have hns : ns = ys.toList.map (·.1) := by rw [← hi.numsOf, ← nums_intItems, ← ey]
  have hsz : 0 < ys.size := by
    have h3 := hne; rw [hns, List.length_map, Array.length_toList] at h3; exact h3
  have hL : s.heap.IsList p (intItems ys) := by
    rw [← ey]
    exact ⟨_, e, rfl, ⟨n, rfl⟩⟩
  refine max_intList (I.ok.hd hc) hL hsz fun v h' tk hv hk => ?_
  obtain ⟨t, rfl⟩ := intItems_at hv
  obtain ⟨h1, h2⟩ := argBest_gt (numAt ys) (ys.size - 1)
  refine ⟨.int (numAt ys (argBest (fun i j => decide (numAt ys i > numAt ys j)) (ys.size - 1))), H, I.kept (t' := tk) hk, ⟨_, rfl⟩, q _ ?_ fun a ha => ?_⟩
  · rw [hns, numAt_eq]; exact PySem.getD_mem (by rw [List.length_map, Array.length_toList]; omega)
  · rw [hns] at ha
    obtain ⟨j, hj, rfl⟩ := mem_getD ha
    rw [List.length_map, Array.length_toList] at hj
    rw [← numAt_eq]; exact h2 j (by omega)
section
variable {o i e value : Expr} {pos pos' tpos : Pos} {td ty tv : TE}
theorem qe_dget {k : Nat} (hr : Room k X.A) (ho : QE X o td) (hi : QE X i ty) (hs : NoSl i := by exact fun _ _ => rfl) : QE X (.Subscript o i pos) (tDGet td ty) := ⟨pe_dget (by have := hr.un; omega) ho.h hi.h hs⟩
theorem qs_dputK {k : Nat} (hr : Room k X.A) (ho : QE X o td) (hi : QE X i ty) (hv : QE X value tv) (hs : swapsWith value (some (.Subscript o i pos')) pos.line X.env = pure false := by rfl) :
    QS X (.Assign [.Subscript o i pos'] value pos) (sDPut td ty tv) := ⟨ps_dput (by have := hr.un; omega) ho.h hi.h hv.h hs⟩
structure QPs (X : Cx) (pos : Pos) (keys : List (Option Expr)) (values : List Expr) (trs : List (TE × TE)) : Prop where
  h : PPs X pos keys values trs
theorem qps_nil : QPs X pos [] [] [] := ⟨pps_nil⟩
theorem qps_cons {k v : Expr} {ks : List (Option Expr)} {vs : List Expr} {tk tv : TE} {trs : List (TE × TE)} (hk : QE X k tk) (hv : QE X v tv) (hr : QPs X pos ks vs trs) : QPs X pos (some k :: ks) (v :: vs) ((tk, tv) :: trs) := ⟨pps_cons hk.h hv.h hr.h⟩
theorem qe_disp {keys : List (Option Expr)} {values : List Expr} {trs : List (TE × TE)} (h : QPs X pos keys values trs) (hall : keys.all (·.isSome) = true := by rfl) (hl : keys.length = values.length := by rfl) (h0 : keys ≠ [] := by (intro z; cases z))
    (h15 : keys.length ≤ 15 := by decide) : QE X (.Dict keys values pos) (tDisp trs) := ⟨pe_disp h.h hall hl h0 h15⟩
end
theorem valV_at {k : Key} {v : V} : ∀ {kvs : List (Key × V)} (i : Nat), kvs[i]? = some (k, v) → (kvs.map (·.1)).Nodup → valV kvs k = some v
  | [], i, h, _ => by cases h
  | p :: r, 0, h, _ => by
    cases Option.some.inj h
    exact valV_pos rfl
  | p :: r, i + 1, h, nd => by
    have h' : r[i]? = some (k, v) := h
    have nd' : p.1 ∉ r.map (·.1) ∧ (r.map (·.1)).Nodup := List.nodup_cons.mp nd
    have hm : k ∈ r.map (·.1) := List.mem_map.mpr ⟨(k, v), List.mem_of_getElem? h', rfl⟩
    have ne : p.1 ≠ k := fun z => nd'.1 (z ▸ hm)
    rw [valV_neg ne]
    exact valV_at i h' nd'.2
theorem putK_set {k : Key} {v u : V} {kvs : List (Key × V)} (i : Nat) (h : kvs[i]? = some (k, u)) (nd : (kvs.map (·.1)).Nodup) : putK kvs k v = kvs.set i (k, v) := by
  have hil : i < kvs.length := (List.getElem?_eq_some_iff.mp h).1
  have hik := (List.getElem?_eq_some_iff.mp h).2
  unfold putK
  rw [if_pos]
  · refine List.ext_getElem (by simp) fun j h1 h2 => ?_
    rw [List.getElem_map, List.getElem_set]
    have hj : j < kvs.length := by simpa using h1
    by_cases e : i = j
    · subst e
      rw [if_pos (by rw [hik]), if_pos rfl, hik]
    · rw [if_neg e, if_neg]
      intro z
      have h3 : (kvs.map (·.1))[i]'(by simpa using hil) = (kvs.map (·.1))[j]'(by simpa using hj) := by rw [List.getElem_map, List.getElem_map, hik, z]
      exact e ((List.getElem_inj nd).mp h3)
  · rw [List.any_eq_true]
    exact ⟨kvs[i], List.getElem_mem hil, by rw [hik]; exact decide_eq_true rfl⟩
theorem putK_no {k : Key} {v : V} {kvs : List (Key × V)} (h : k ∉ kvs.map (·.1)) : putK kvs k v = kvs ++ [(k, v)] := by
  unfold putK
  rw [if_neg]
  intro z
  obtain ⟨p, hp, e⟩ := List.any_eq_true.mp z
  exact h (List.mem_map.mpr ⟨p, hp, of_decide_eq_true e⟩)
end L3
namespace L3
open PySem PySem.Spec PyProof.Rows L2
theorem iteD {c : Bool} {a b : Prop} (h : c = true) (x : a) : if c = true then a else b := by rw [if_pos h]; exact x
theorem iteE {c : Bool} {a b : Prop} (h : c = false) (x : b) : if c = true then a else b := by rw [if_neg (by rw [h]; intro z; cases z)]; exact x
end L3
namespace L3
open PySem PySem.Spec PyProof.Rows L2
def lawD (B : Bt) (lc : Addr) : List (Key × V) := [(.inr "count", .int B.cnt), (.inr "bound", .int B.bnd), (.inr "cells", .ref lc), (.inr "step", .int B.step)]
def lawK : List Key := [.inr "count", .inr "bound", .inr "cells", .inr "step"]
theorem lawK_nd : lawK.Nodup := by decide +kernel
theorem lawD_nd (B : Bt) (lc : Addr) : ((lawD B lc).map (·.1)).Nodup := lawK_nd
structure LawAt (H : Hp) (d lc : Addr) (B : Bt) : Prop where
  di : H d = some (.dK (lawD B lc))
  cs : H lc = some (.lst [oV B.x, oV B.y])
section
variable {H H' : Hp} {d lc : Addr} {B : Bt}
theorem LawAt.get (a : LawAt H d lc B) (i : Nat) {k : Key} {v : V} (h : (lawD B lc)[i]? = some (k, v)) : DGet H d (kV k) (some v) := by
  have := DGet.k (k := k) a.di
  rw [valV_at i h (lawD_nd ..)] at this
  exact this
theorem LawAt.g_count (a : LawAt H d lc B) : DGet H d (.str "count") (some (.int B.cnt)) := a.get (k := .inr "count") 0 rfl
theorem LawAt.g_bound (a : LawAt H d lc B) : DGet H d (.str "bound") (some (.int B.bnd)) := a.get (k := .inr "bound") 1 rfl
theorem LawAt.g_cells (a : LawAt H d lc B) : DGet H d (.str "cells") (some (.ref lc)) := a.get (k := .inr "cells") 2 rfl
theorem LawAt.g_step (a : LawAt H d lc B) : DGet H d (.str "step") (some (.int B.step)) := a.get (k := .inr "step") 3 rfl
theorem LawAt.p_count (a : LawAt H d lc B) (z : Int) : DPut H d (.str "count") (.int z) (upd H d (.dK (lawD { B with cnt := z } lc))) := by
  have := DPut.k (k := .inr "count") (v := .int z) a.di (Nat.lt_of_le_of_lt (show 4 ≤ 100 by decide) (by decide))
  rw [putK_set 0 rfl (lawD_nd ..)] at this
  exact this
theorem LawAt.p_bound (a : LawAt H d lc B) (z : Int) : DPut H d (.str "bound") (.int z) (upd H d (.dK (lawD { B with bnd := z } lc))) := by
  have := DPut.k (k := .inr "bound") (v := .int z) a.di (Nat.lt_of_le_of_lt (show 4 ≤ 100 by decide) (by decide))
  rw [putK_set 1 rfl (lawD_nd ..)] at this
  exact this
theorem LawAt.ne (a : LawAt H d lc B) : d ≠ lc := ne_of a.di a.cs (by intro z; cases z)
theorem LawAt.upd_d (a : LawAt H d lc B) (B' : Bt) (hx : B'.x = B.x) (hy : B'.y = B.y) : LawAt (upd H d (.dK (lawD B' lc))) d lc B' := ⟨upd_same, by rw [upd_ne a.ne.symm, hx, hy]; exact a.cs⟩
theorem LawAt.mv {S : List Addr} (a : LawAt H d lc B) (m : Mv S H H') (hd : d ∉ S) (hc : lc ∉ S) : LawAt H' d lc B := ⟨m _ _ hd a.di, m _ _ hc a.cs⟩
theorem LawAt.same (a : LawAt H d lc B) (s : Same H H') : LawAt H' d lc B := ⟨s _ _ a.di, s _ _ a.cs⟩
end
theorem merge_law (B : Bt) (lc : Addr) : mergeK [] (lawD B lc) = lawD B lc := by
  show putK (putK (putK (putK ([] : List (Key × V)) (Sum.inr "count") (.int B.cnt)) (Sum.inr "bound") (.int B.bnd)) (Sum.inr "cells") (.ref lc)) (Sum.inr "step") (.int B.step) = _
  rw [putK_no (k := .inr "count") (kvs := []) (by intro z; cases z), putK_no (k := .inr "bound") (fun z => (by decide +kernel : ∀ k ∈ lawK.take 1, k ≠ (Sum.inr "bound" : Key)) _ z rfl), putK_no (k := .inr "cells") (fun z => (by decide +kernel : ∀ k ∈ lawK.take 2, k ≠ (Sum.inr "cells" : Key)) _ z rfl), putK_no (k := .inr "step") (fun z => (by decide +kernel : ∀ k ∈ lawK.take 3, k ≠ (Sum.inr "step" : Key)) _ z rfl)]
  rfl
def zB (st : Int) : Bt := ⟨"", [], [], 0, st, 0, 0, some 0, none⟩
def spBegun : Sp := fun vs H Q _ => ∃ st : Int, vs = [.int st] ∧ ∀ d lc H', H d = none → H lc = none → Same H H' → LawAt H' d lc (zB st) → Q (.ref d) H'
def spPressed : Sp := fun vs H Q _ => ∃ (d lc : Addr) (B : Bt), vs = [.ref d] ∧ LawAt H d lc B ∧ B.cnt < 4096 ∧ ∀ H', Mv [d, lc] H H' → LawAt H' d lc B.pr → Q (.int B.cnt) H'
theorem LawAt.eqv {H : Hp} {d lc : Addr} {B B' : Bt} (a : LawAt H d lc B) (h1 : B'.cnt = B.cnt) (h2 : B'.bnd = B.bnd) (h3 : B'.step = B.step) (h4 : B'.x = B.x) (h5 : B'.y = B.y) : LawAt H d lc B' :=
  ⟨by unfold lawD; rw [h1, h2, h3]; exact a.di, by rw [h4, h5]; exact a.cs⟩
structure BtOk (B : Bt) : Prop where
  c0 : 0 ≤ B.cnt
  cb : B.cnt ≤ B.bnd
  bm : B.bnd ≤ 4096
  s1 : 1 ≤ B.step
  eq : B.x = some B.bnd ∨ B.y = some B.bnd
  hx : ∀ v, B.x = some v → 0 ≤ v ∧ v ≤ B.bnd
  hy : ∀ v, B.y = some v → 0 ≤ v ∧ v ≤ B.bnd
theorem BtOk.new {nm : Str} {t ks : List Int} {age step : Int} (h : 1 ≤ step) : BtOk ⟨nm, t, ks, age, step, 0, 0, some 0, none⟩ :=
  ⟨Int.le_refl _, Int.le_refl _, by show (0 : Int) ≤ 4096; decide, h, .inl rfl, fun v e => by cases e; exact ⟨Int.le_refl _, Int.le_refl _⟩, fun v e => by cases e⟩
theorem BtOk.pr {B : Bt} (h : BtOk B) (hc : B.cnt < 4096) : BtOk B.pr := by
  obtain ⟨c0, cb, bm, s1, eq, hx, hy⟩ := h
  unfold Bt.pr
  by_cases m : B.mw = true
  · rw [if_pos m]
    have hm : B.cnt = B.bnd := by
      unfold Bt.mw at m
      rw [Bool.and_eq_true] at m
      exact of_decide_eq_true m.1
    have n1 : B.bnd + 1 ≤ B.nb := by unfold Bt.nb; split <;> omega
    have n2 : B.nb ≤ 4096 := by unfold Bt.nb; split <;> omega
    unfold Bt.wr
    by_cases e : B.x = some B.bnd
    · rw [if_pos e]
      refine ⟨by show 0 ≤ B.cnt + 1; omega, by show B.cnt + 1 ≤ B.nb; omega, n2, s1, .inr rfl, fun v q => ?_, fun v q => ?_⟩
      · have := hx v q; show 0 ≤ v ∧ v ≤ B.nb; omega
      · have q' : some B.nb = some v := q
        cases q'; show 0 ≤ B.nb ∧ B.nb ≤ B.nb; omega
    · rw [if_neg e]
      refine ⟨by show 0 ≤ B.cnt + 1; omega, by show B.cnt + 1 ≤ B.nb; omega, n2, s1, .inl rfl, fun v q => ?_, fun v q => ?_⟩
      · have q' : some B.nb = some v := q
        cases q'; show 0 ≤ B.nb ∧ B.nb ≤ B.nb; omega
      · have := hy v q; show 0 ≤ v ∧ v ≤ B.nb; omega
  · rw [if_neg m]
    have hm : B.cnt ≠ B.bnd := fun z => m (by unfold Bt.mw; rw [decide_eq_true z, decide_eq_false (by omega : ¬ 4096 ≤ B.cnt)]; rfl)
    exact ⟨by show 0 ≤ B.cnt + 1; omega, by show B.cnt + 1 ≤ B.bnd; omega, bm, s1, eq, hx, hy⟩
theorem BtOk.ok {B : Bt} (h : BtOk B) : B.bnd ∈ okC B.x B.y ∧ 0 < (okC B.x B.y).length ∧ ∀ a ∈ okC B.x B.y, a ≤ B.bnd := by
  obtain ⟨c0, cb, bm, s1, eq, hx, hy⟩ := h
  have hm : B.bnd ∈ okC B.x B.y := by
    unfold okC
    rcases eq with e | e
    · rw [e]; exact List.mem_append_left _ (List.mem_singleton.mpr rfl)
    · rw [e]; exact List.mem_append_right _ (List.mem_singleton.mpr rfl)
  refine ⟨hm, List.length_pos_of_mem hm, fun a ha => ?_⟩
  unfold okC at ha
  rcases List.mem_append.mp ha with z | z
  · cases e : B.x with
    | none => rw [e] at z; cases z
    | some v => rw [e] at z; rw [List.mem_singleton.mp z]; exact (hx v e).2
  · cases e : B.y with
    | none => rw [e] at z; cases z
    | some v => rw [e] at z; rw [List.mem_singleton.mp z]; exact (hy v e).2
theorem set_get {α : Type} {os : List α} {x : Nat} {o o' : α} (hx : os[x]? = some o) {i : Nat} {a : α} (e : (os.set x o')[i]? = some a) : (i = x ∧ a = o') ∨ (i ≠ x ∧ os[i]? = some a) := by
  rw [List.getElem?_set] at e
  by_cases q : x = i
  · rw [if_pos q] at e
    subst q
    rw [if_pos (List.getElem?_eq_some_iff.mp hx).1] at e
    exact .inl ⟨rfl, (Option.some.inj e).symm⟩
  · rw [if_neg q] at e
    exact .inr ⟨fun z => q z.symm, e⟩
theorem app_get {α : Type} {os : List α} {o : α} {i : Nat} {a : α} (e : (os ++ [o])[i]? = some a) : (i = os.length ∧ a = o) ∨ (i < os.length ∧ os[i]? = some a) := by
  rw [List.getElem?_append] at e
  split at e
  · exact .inr ⟨by assumption, e⟩
  · have h1 : i - os.length = 0 := by
      cases hi : i - os.length with
      | zero => rfl
      | succ k => rw [hi] at e; cases e
    rw [h1] at e
    cases e
    exact .inl ⟨by omega, rfl⟩
def notN (v : V) : Bool := !decide (v = .non)
theorem notN_cells (x y : Option Int) : [oV x, oV y].filter notN = (okC x y).map V.int := by
  cases x <;> cases y <;> rfl
theorem filt_step {xs : List V} {i : Nat} {x : V} (h : xs[i]? = some x) : (xs.take (i + 1)).filter notN = if notN x = true then (xs.take i).filter notN ++ [x] else (xs.take i).filter notN := by
  rw [List.take_add_one, h, Option.toList_some, List.filter_append]
  by_cases e : notN x = true
  · rw [if_pos e, List.filter_cons_of_pos e]; rfl
  · rw [if_neg e, List.filter_cons_of_neg e]; simp
end L3
namespace L3
open PySem PySem.Spec PyProof.Rows L2
open Sem (wp)
section
variable {X : Cx} {pins : List (Addr × Obj)} {σ : L2.St} {H : Hp} {s : Shared}
def ItzL (a1 a2 : Addr) : It :=
  ⟨fun i H => ∃ xs ys x y, Rd H a1 (.lst xs) ∧ Rd H a2 (.lst ys) ∧ xs[i]? = some x ∧ ys[i]? = some y,
   fun i H v H' => ∃ p x y, H p = none ∧ v = .ref p ∧ (∀ xs, Rd H a1 (.lst xs) → xs[i]? = some x) ∧ (∀ ys, Rd H a2 (.lst ys) → ys[i]? = some y) ∧ H' = upd H p (.tup [x, y]),
   fun i H => ∃ xs, Rd H a1 (.lst xs) ∧ xs.length = i⟩
theorem turn_zipL {P : Program} {w : World} {K : PySem.W.Frag} {elts : List Expr} {x1} {pos : Pos} (a1 a2 z TI TO i1 i2 : Addr) (d1 : TI ≠ z) (d2 : TO ≠ z) (d3 : i1 ≠ z) (d4 : i2 ≠ z) (d5 : TI ≠ TO) (d6 : TI ≠ i1) (d7 : TI ≠ i2) (d8 : TO ≠ i1) (d9 : TO ≠ i2) (d10 : i1 ≠ i2) :
    Turn P w K (.Tuple elts x1 pos) (ItzL a1 a2) [z, TI, TO, i1, i2] z (fun i h => IsZip h z TI TO .none ∧ IsPair h TI (.ref i1) (.ref i2) ∧ (∃ a b, IsPair h TO a b) ∧ h.IsListIter i1 a1 i ∧ h.IsListIter i2 a2 i) where
  mem := by simp
  obj := fun i h st b hb => by
    obtain ⟨hz, hTI, ⟨a, b', hTO⟩, ⟨o1, ho1, _, hd1⟩, ⟨o2, ho2, _, hd2⟩⟩ := st
    simp only [List.mem_cons, List.not_mem_nil, or_false] at hb
    rcases hb with rfl | rfl | rfl | rfl | rfl
    · exact ⟨_, hz, fun v y => by have y' : Data.fields _ = Data.cell v := y; cases y'⟩
    · exact ⟨_, hTI, fun v y => by have y' : Data.seq _ _ = Data.cell v := y; cases y'⟩
    · exact ⟨_, hTO, fun v y => by have y' : Data.seq _ _ = Data.cell v := y; cases y'⟩
    · exact ⟨_, ho1, fun v y => by rw [hd1] at y; cases y⟩
    · exact ⟨_, ho2, fun v y => by rw [hd2] at y; cases y⟩
  keep := fun i h h' st k => by
    obtain ⟨hz, hTI, ⟨a, b', hTO⟩, h1, h2⟩ := st
    exact ⟨k z (by simp) _ hz, k TI (by simp) _ hTI, ⟨a, b', k TO (by simp) _ hTO⟩, h1.at fun o e => k i1 (by simp) o e, h2.at fun o e => k i2 (by simp) o e⟩
  item := by
    intro X hP hw hK hc i pins s σ H E I hf st hg
    subst hP hw hK
    obtain ⟨xs, ys, x, y, ha1, ha2, hx, hy⟩ := hg
    obtain ⟨its, rv, p, hz0⟩ := I.list (.inl ha1)
    obtain ⟨its2, rv2, p2, hz2⟩ := I.list (.inl ha2)
    obtain ⟨u, hu, ru⟩ := rv.get hx
    obtain ⟨u2, hu2, ru2⟩ := rv2.get hy
    obtain ⟨hz, hTI, ⟨a, b', hTO⟩, h1, h2⟩ := st
    have n1 : ∀ c ∈ [z, TI, TO, i1, i2], a1 ≠ c := fun c hc => rd_ne ha1 (hf c hc).1
    have n2 : ∀ c ∈ [z, TI, TO, i1, i2], a2 ≠ c := fun c hc => rd_ne ha2 (hf c hc).1
    have Z : ZApart z TI TO i1 i2 [i1, a1] [i2, a2] := ⟨d1, d2, d3, d4, d5, d6, d7, d8, d9, d10, by simp [Ne.symm d3, Ne.symm (n1 z (by simp))], by simp [Ne.symm d4, Ne.symm (n2 z (by simp))], by simp [d8, Ne.symm (n1 TO (by simp))], by simp [d9, Ne.symm (n2 TO (by simp))], by simp [Ne.symm d10, Ne.symm (n1 i2 (by simp))], by simp [d10, Ne.symm (n2 i1 (by simp))]⟩
    have hil : i < its.toArray.size := by have := (List.getElem?_eq_some_iff.mp hu).1; simpa using this
    have hil2 : i < its2.toArray.size := by have := (List.getElem?_eq_some_iff.mp hu2).1; simpa using this
    have hT : s.TypeIs (.ref z) "zip" := ⟨_, hz, rfl⟩
    unfold pyNext
    refine wpAny_bind (wpAny_attempt (wpAny_callSpecial?_slot (name := Str.ofString "__next__") hT F.slot_zip_next
      (wpAny_call_entry F.slot_zip_next hT F.entry_zip_next
        (zipD_item (Draws.list (A := X.A.in1) (I.ok.hd hc) i1 a1 (n1 i1 (by simp)) its.toArray) (Draws.list (A := X.A.in1) (I.ok.hd hc) i2 a2 (n2 i2 (by simp)) its2.toArray) Z hz hTI hTO ⟨h1, p.isList⟩ ⟨h2, p2.isList⟩ hil hil2
          fun v v2 h' tk hv hv2 ho hTO' q1 q2 ht hk => wpAny_pure ⟨_, rfl, ?_⟩) (F.args_zip_next_1 _))))
    have ev : v = u := by
      have hv' : its[i]? = some v := by simpa using hv
      rw [hu] at hv'; exact (Option.some.inj hv').symm
    have ev2 : v2 = u2 := by
      have hv' : its2[i]? = some v2 := by simpa using hv2
      rw [hu2] at hv'; exact (Option.some.inj hv').symm
    subst ev ev2
    refine wpAny_letOwnedTupleGo_zip ho fun h'' hz'' hs'' => ?_
    have lt : ∀ c ∈ [z, TI, TO, i1, i2], c < s.heap.objs.size := fun c hc => by
      simp only [List.mem_cons, List.not_mem_nil, or_false] at hc
      rcases hc with rfl | rfl | rfl | rfl | rfl
      · exact Heap.lt_size hz
      · exact Heap.lt_size hTI
      · exact Heap.lt_size hTO
      · obtain ⟨_, e, _⟩ := h1; exact Heap.lt_size e
      · obtain ⟨_, e, _⟩ := h2; exact Heap.lt_size e
    have hTI' : IsPair h'' TI (.ref i1) (.ref i2) := hs''.extBut _ _ d1 (hk _ _ d1 d5 d6 d7 hTI)
    have hTO'' : IsPair h'' TO v v2 := hs''.extBut _ _ d2 hTO'
    have h1' : h''.IsListIter i1 a1 (i + 1) := q1.1.extBut hs''.extBut d3
    have h2' : h''.IsListIter i2 a2 (i + 1) := q2.1.extBut hs''.extBut d4
    refine ⟨.ref s.heap.objs.size, upd H s.heap.objs.size (.tup [x, y]), ?_, rfl, ⟨_, x, y, I.hok.fresh (Nat.le_refl _), rfl, fun zs hy' => by rw [I.list_inj (.inl hy') (.inl ha1)]; exact hx, fun zs hy' => by rw [I.list_inj (.inl hy') (.inl ha2)]; exact hy, rfl⟩, ⟨hz'', hTI', ⟨_, _, hTO''⟩, h1', h2'⟩, ?_⟩
    · show L2.Inv X pins σ _ { s with heap := h'', toks := tk }
      refine turnedT (s := s) (its := [v, v2]) I (ch := [z, TI, TO, i1, i2]) (fun b o hb q => ?_) hf (fun b hb => ?_) (Nat.le_refl _) (by show 2 ≤ sizeLine; decide) (.cons ru (.cons ru2 .nil)) ?_
      · simp only [List.mem_cons, List.not_mem_nil, or_false, not_or] at hb
        exact hs''.extBut b o hb.1 (hk b o hb.1 hb.2.2.1 hb.2.2.2.1 hb.2.2.2.2 q)
      · simp only [List.mem_cons, List.not_mem_nil, or_false] at hb
        rcases hb with rfl | rfl | rfl | rfl | rfl
        · exact ⟨_, hz''⟩
        · exact ⟨_, hTI'⟩
        · exact ⟨_, hTO''⟩
        · obtain ⟨o, e, _⟩ := h1'; exact ⟨o, e⟩
        · obtain ⟨o, e, _⟩ := h2'; exact ⟨o, e⟩
      · exact ⟨_, hs''.extBut _ _ (Nat.ne_of_gt (lt z (by simp))) ht, rfl, _, rfl⟩
    · intro b hb
      rw [upd_ne (Nat.ne_of_lt (lt b hb))]
      exact (hf b hb).1
  done := by
    intro X hP hw hK hc i pins s σ H E I hf st hg
    subst hP hw hK
    obtain ⟨xs, ha1, hx⟩ := hg
    obtain ⟨its, rv, p, hz0⟩ := I.list (.inl ha1)
    obtain ⟨hz, hTI, ⟨a, b', hTO⟩, h1, h2⟩ := st
    have n1 : ∀ c ∈ [z, TI, TO, i1, i2], a1 ≠ c := fun c hc => rd_ne ha1 (hf c hc).1
    have Z : ZApart z TI TO i1 i2 [i1, a1] [i2] := ⟨d1, d2, d3, d4, d5, d6, d7, d8, d9, d10, by simp [Ne.symm d3, Ne.symm (n1 z (by simp))], by simp [Ne.symm d4], by simp [d8, Ne.symm (n1 TO (by simp))], by simp [d9], by simp [Ne.symm d10, Ne.symm (n1 i2 (by simp))], by simp [d10]⟩
    have hl : its.toArray.size = i := by rw [List.size_toArray, ← rv.length]; exact hx
    have hT : s.TypeIs (.ref z) "zip" := ⟨_, hz, rfl⟩
    unfold pyNext
    refine wpAny_bind (wpAny_attempt (wpAny_callSpecial?_slot (name := Str.ofString "__next__") hT F.slot_zip_next
      (wpAny_call_entry F.slot_zip_next hT F.entry_zip_next
        (zipD_end (Draws.list (A := X.A.in1) (I.ok.hd hc) i1 a1 (n1 i1 (by simp)) its.toArray) Z hz hTI ⟨by rw [hl]; exact h1, p.isList⟩ fun h' e hk he => ?_) (F.args_zip_next_1 _))))
    obtain ⟨o, ho, hcl⟩ := he
    refine wpAny_bind (wpAny_isInstance (T := "StopIteration") (b := true) ⟨o, ho, hcl⟩ isSubtype_stop ?_)
    refine wpAny_pure ⟨rfl, turnedC (t' := s.toks) I (ch := [z, i1]) (fun b o hb e => ?_) (fun b hb => hf b ?_)⟩
    · simp only [List.mem_cons, List.not_mem_nil, or_false, not_or] at hb
      exact hk b o hb.1 hb.2 e
    · simp only [List.mem_cons, List.not_mem_nil, or_false] at hb
      rcases hb with rfl | rfl <;> simp
  self := fun _ _ _ _ _ st h => wpAny_pyIter_zip st.1 h
def iZipL (ta : TA) : TI := fun σ H R => ta σ H fun vs H1 => ∃ a1 a2 xs ys, vs = [.ref a1, .ref a2] ∧ Rd H1 a1 (.lst xs) ∧ Rd H1 a2 (.lst ys) ∧ R (ItzL a1 a2) H1
theorem pi_zipL {a b : Expr} {ta : TA} {p pos : Pos} {elts : List Expr} {x1} {tpos : Pos} (hg : Gl X "zip") (hm : X.mg "zip" = none) (ha : PA X [a, b] ta) (h1 : notStar a = true := by rfl) (h2 : notStar b = true := by rfl) :
    PI X (.Tuple elts x1 tpos) (.Call (.Name "zip" p) [a, b] [] pos) (iZipL ta) := by
  intro pins s σ H R I h
  have hs2 : starEach [b] X.env = [(false, eval b X.env)] := star_cons h2
  refine Call_ (ld_blt I hg hm PyProof.Rows.boot_zip (PyProof.Rows.callWith_type1 (thn (ha pos pins s σ H _ I h) fun us s1 ⟨vs, H1, I1, r1, q1⟩ => ?_) (by rw [star_cons h1, hs2]) (by rw [hs2]; rfl)))
  obtain ⟨a1, a2, xs, ys, e, e1, e2, q⟩ := q1
  subst e
  obtain ⟨u, v, rfl, ru, rv⟩ := r1.two
  cases ru
  cases rv
  obtain ⟨its, r1', p1, hz⟩ := I1.list (.inl e1)
  obtain ⟨its2, r2', p2, hz2⟩ := I1.list (.inl e2)
  have ad : ∀ (n i j : Nat), i ≠ j → n + i ≠ n + j := fun n i j h => by omega
  refine call_zip_2 p1.isList p2.isList fun h' hz hTI hTO h1 h2 _ hk => wpAny_pyIter_zip hz ?_
  refine ⟨s1.heap.objs.size + 4, [s1.heap.objs.size + 4, s1.heap.objs.size + 2, s1.heap.objs.size + 3, s1.heap.objs.size, s1.heap.objs.size + 1], _, _, H1, rfl, I1.kept (t' := s1.toks) hk,
    turn_zipL a1 a2 (s1.heap.objs.size + 4) (s1.heap.objs.size + 2) (s1.heap.objs.size + 3) s1.heap.objs.size (s1.heap.objs.size + 1) (ad _ 2 4 (by decide)) (ad _ 3 4 (by decide)) (ad _ 0 4 (by decide)) (ad _ 1 4 (by decide)) (ad _ 2 3 (by decide)) (ad _ 2 0 (by decide)) (ad _ 2 1 (by decide)) (ad _ 3 0 (by decide)) (ad _ 3 1 (by decide)) (ad _ 0 1 (by decide)), ⟨hz, hTI, ⟨_, _, hTO⟩, h1, h2⟩, fun b hb => ?_, q⟩
  have hb' : s1.heap.objs.size ≤ b := by
    simp only [List.mem_cons, List.not_mem_nil, or_false] at hb
    rcases hb with rfl | rfl | rfl | rfl | rfl
    · exact Nat.le_add_right _ 4
    · exact Nat.le_add_right _ 2
    · exact Nat.le_add_right _ 3
    · exact Nat.le_refl _
    · exact Nat.le_add_right _ 1
  exact I1.fpOk hb' (I1.hok.fresh hb')
end
theorem comp_zipL {K : PySem.W.Frag} {js : List Nat} {te : TE} {σ : L2.St} {H : Hp} {Q : VK} {a1 a2 : Addr} {xs ys : List V} (hl : xs.length = ys.length) (hn : xs.length ≤ sizeLine) (Pv : Nat → List V → Hp → Prop) (h0 : Pv 0 [] H)
    (hk : ∀ i zs H, Pv i zs H → Rd H a1 (.lst xs) ∧ Rd H a2 (.lst ys))
    (hs : ∀ i zs H p x y, xs[i]? = some x → ys[i]? = some y → zs.length = i → Pv i zs H → H p = none → te (some x :: some y :: frees js σ) (upd H p (.tup [x, y])) fun v H3 => Pv (i + 1) (zs ++ [v]) H3)
    (hd : ∀ zs H, zs.length = xs.length → Pv xs.length zs H → ∀ p, H p = none → Q (.ref p) (upd H p (.lst zs))) :
    CompG 2 js (gTup K 2 (gCons (gName 0) (gCons (gName 1) gNil))) te σ Q (ItzL a1 a2) H := by
  refine ⟨fun i m zs τ H => m = xs.length - i ∧ i ≤ xs.length ∧ zs.length = i ∧ Pv i zs H ∧ ∃ o o', τ = o :: o' :: frees js σ, ⟨xs.length, by simp, Nat.zero_le _, rfl, h0, none, none, rfl⟩, ?_⟩
  rintro i m zs τ H ⟨rfl, hi, hzl, p, o, o', rfl⟩
  obtain ⟨e1, e2⟩ := hk i zs H p
  by_cases hlt : i < xs.length
  · have hlt2 : i < ys.length := by omega
    refine .inr ⟨⟨xs, ys, xs[i], ys[i], e1, e2, by simp [hlt], by simp [hlt2]⟩, by omega, fun v H' y => ?_⟩
    obtain ⟨pp, x, y, hp, rfl, hx, hy, rfl⟩ := y
    refine ⟨pp, _, rfl, SqT.of upd_same, rfl, _, _, rfl, _, _, rfl, rfl, ?_⟩
    exact ⟨fun v H3 => Pv (i + 1) (zs ++ [v]) H3, fun v H3 p3 => ⟨xs.length - (i + 1), by omega, rfl, hlt, by simp [hzl], p3, _, _, rfl⟩, hs i zs _ pp x y (hx xs e1) (hy ys e2) hzl p hp⟩
  · have e : i = xs.length := by omega
    subst e
    exact .inl ⟨⟨xs, e1, rfl⟩, hd zs H hzl p⟩
theorem qi_zipL {X : Cx} {a b : Expr} {ta : TA} {p pos : Pos} {elts : List Expr} {x1} {tpos : Pos} (hg : Gl X "zip") (hm : X.mg "zip" = none) (ha : QA X [a, b] ta) (h1 : notStar a = true := by rfl) (h2 : notStar b = true := by rfl) :
    QI X (.Tuple elts x1 tpos) (.Call (.Name "zip" p) [a, b] [] pos) (iZipL ta) := ⟨pi_zipL hg hm ha.h h1 h2⟩
inductive Eqw (H : Hp) : Nat → V → V → Prop where
  | int (n : Nat) (i : Int) : Eqw H n (.int i) (.int i)
  | str (n : Nat) (x : Str) : Eqw H n (.str x) (.str x)
  | non (n : Nat) : Eqw H n .non .non
  | tup {n : Nat} {a b : Addr} {xs ys : List V} (h1 : Rd H a (.tup xs)) (h2 : Rd H b (.tup ys)) (hl : xs.length = ys.length) (hz : xs.length ≤ sizeLine)
      (hi : ∀ (i : Nat) (x y : V), xs[i]? = some x → ys[i]? = some y → Eqw H n x y) : Eqw H (n + 1) (.ref a) (.ref b)
  | lst {n : Nat} {a b : Addr} {xs ys : List V} (h1 : H a = some (.lst xs)) (h2 : H b = some (.lst ys)) (hl : xs.length = ys.length) (hz : xs.length ≤ sizeLine)
      (hi : ∀ (i : Nat) (x y : V), xs[i]? = some x → ys[i]? = some y → Eqw H n x y) : Eqw H (n + 1) (.ref a) (.ref b)
theorem Eqw.same {H H' : Hp} (s : Same H H') : ∀ {n : Nat} {x y : V}, Eqw H n x y → Eqw H' n x y := fun h => by
  induction h with
  | int n i => exact .int n i
  | str n x => exact .str n x
  | non n => exact .non n
  | tup h1 h2 hl hz _ ih => exact .tup (Rd.same s h1) (Rd.same s h2) hl hz ih
  | lst h1 h2 hl hz _ ih => exact .lst (s _ _ h1) (s _ _ h2) hl hz ih
theorem Eqw.ints {H : Hp} {n : Nat} {a b : Addr} {ns : List Int} (h1 : Rd H a (.tup (ns.map V.int))) (h2 : Rd H b (.tup (ns.map V.int))) (hz : ns.length ≤ sizeLine) : Eqw H (n + 1) (.ref a) (.ref b) :=
  .tup h1 h2 rfl (by rw [List.length_map]; exact hz) fun i x y e1 e2 => by
    rw [e1] at e2
    cases e2
    obtain ⟨z, rfl, _⟩ := ints_get e1
    exact .int _ _
theorem Eqw.three {H : Hp} {n : Nat} {a b : Addr} {x1 x2 x3 y1 y2 y3 : V} (h1 : Rd H a (.tup [x1, x2, x3])) (h2 : Rd H b (.tup [y1, y2, y3])) (e1 : Eqw H n x1 y1) (e2 : Eqw H n x2 y2) (e3 : Eqw H n x3 y3) : Eqw H (n + 1) (.ref a) (.ref b) :=
  .tup h1 h2 rfl (by show 3 ≤ sizeLine; decide) fun i x y ex ey => by
    match i, ex, ey with
    | 0, ex, ey => cases ex; cases ey; exact e1
    | 1, ex, ey => cases ex; cases ey; exact e2
    | 2, ex, ey => cases ex; cases ey; exact e3
    | i + 3, ex, ey => cases ex
theorem Eqw.cell {H : Hp} {n : Nat} (x : Option Int) : Eqw H n (oV x) (oV x) := by
  cases x with
  | none => exact .non _
  | some i => exact .int _ _
theorem Eqw.two {H : Hp} {n : Nat} {a b : Addr} {x1 x2 y1 y2 : V} (h1 : Rd H a (.tup [x1, x2])) (h2 : Rd H b (.tup [y1, y2])) (e1 : Eqw H n x1 y1) (e2 : Eqw H n x2 y2) : Eqw H (n + 1) (.ref a) (.ref b) :=
  .tup h1 h2 rfl (by show 2 ≤ sizeLine; decide) fun i x y ex ey => by
    match i, ex, ey with
    | 0, ex, ey => cases ex; cases ey; exact e1
    | 1, ex, ey => cases ex; cases ey; exact e2
    | i + 2, ex, ey => cases ex
theorem Eqw.ltwo {H : Hp} {n : Nat} {a b : Addr} {x1 x2 y1 y2 : V} (h1 : H a = some (.lst [x1, x2])) (h2 : H b = some (.lst [y1, y2])) (e1 : Eqw H n x1 y1) (e2 : Eqw H n x2 y2) : Eqw H (n + 1) (.ref a) (.ref b) :=
  .lst h1 h2 rfl (by show 2 ≤ sizeLine; decide) fun i x y ex ey => by
    match i, ex, ey with
    | 0, ex, ey => cases ex; cases ey; exact e1
    | 1, ex, ey => cases ex; cases ey; exact e2
    | i + 2, ex, ey => cases ex
def spAl (n : Nat) : Sp := fun vs H Q _ => ∃ x y, vs = [x, y] ∧ Eqw H n x y ∧ ∀ H', Same H H' → Q (.bl true) H'
def Bt.ou (B : Bt) : Bt := { B with cnt := B.bnd }
theorem BtOk.ou {B : Bt} (h : BtOk B) : BtOk B.ou := ⟨by show 0 ≤ B.bnd; have := h.c0; have := h.cb; omega, Int.le_refl _, h.bm, h.s1, h.eq, h.hx, h.hy⟩
def spBOut (K : PySem.W.Frag) (C : Addr) : Sp := fun vs H Q _ => ∃ (p ta ka ce : Addr) (B : Bt), vs = [.ref p] ∧ BtnAt K C H p ta ka ce B ∧ BtOk B ∧ ∀ H', Mv [p, ce] H H' → BtnAt K C H' p ta ka ce B.ou → Q .non H'
def spOut : Sp := fun vs H Q _ => ∃ (d lc : Addr) (B : Bt), vs = [.ref d] ∧ LawAt H d lc B ∧ BtOk B ∧ ∀ H', Mv [d, lc] H H' → LawAt H' d lc B.ou → Q .non H'
end L3
namespace L3
open PySem PySem.Spec PyProof.Rows L2
def Bt.tn (B : Bt) : Bt := if B.mw then (if B.x = some B.bnd then { B with y := none } else { B with x := none }).ou else B.ou
theorem BtOk.tn {B : Bt} (h : BtOk B) : BtOk B.tn := by
  unfold Bt.tn
  by_cases m : B.mw = true
  · rw [if_pos m]
    by_cases e : B.x = some B.bnd
    · rw [if_pos e]
      exact BtOk.ou ⟨h.c0, h.cb, h.bm, h.s1, .inl e, h.hx, fun v q => by cases q⟩
    · rw [if_neg e]
      exact BtOk.ou ⟨h.c0, h.cb, h.bm, h.s1, .inr (h.eq.resolve_left e), (fun v q => by cases q), h.hy⟩
  · rw [if_neg m]; exact h.ou
theorem tn_cnt (B : Bt) : B.tn.cnt = B.bnd := by unfold Bt.tn; split <;> (try split) <;> rfl
theorem tn_nm (B : Bt) : B.tn.nm = B.nm := by unfold Bt.tn; split <;> (try split) <;> rfl
theorem tn_t (B : Bt) : B.tn.t = B.t := by unfold Bt.tn; split <;> (try split) <;> rfl
theorem tn_ks (B : Bt) : B.tn.ks = B.ks := by unfold Bt.tn; split <;> (try split) <;> rfl
theorem tn_age (B : Bt) : B.tn.age = B.age := by unfold Bt.tn; split <;> (try split) <;> rfl
section
variable (K : PySem.W.Frag) (C : Addr) (x : Xa)
def spBTorn : Sp := fun vs H Q _ => ∃ (p ta ka ce : Addr) (B : Bt), vs = [.ref p] ∧ BtnAt K C H p ta ka ce B ∧ BtOk B ∧ ∀ H', Mv [p, ce] H H' → BtnAt K C H' p ta ka ce B.tn → Q .non H'
end
def spTorn : Sp := fun vs H Q _ => ∃ (d lc : Addr) (B : Bt), vs = [.ref d] ∧ LawAt H d lc B ∧ BtOk B ∧ ∀ H', Mv [d, lc] H H' → LawAt H' d lc B.tn → Q .non H'
structure O3 where
  p : Addr
  ta : Addr
  ka : Addr
  ce : Addr
  d : Addr
  lc : Addr
structure On3 (K : PySem.W.Frag) (C : Addr) (H : Hp) (o : O3) (B : Bt) : Prop where
  bt : BtnAt K C H o.p o.ta o.ka o.ce B
  la : LawAt H o.d o.lc B
  nm : isNm B.nm
  tl : B.t.length = 16
  ok : BtOk B
  ne : o.ce ≠ o.lc
def O3.as (o : O3) : List Addr := [o.p, o.ce, o.d, o.lc]
section
variable {K : PySem.W.Frag} {C : Addr} {H H' : Hp} {o : O3} {B : Bt} {bx : Addr} {n : Nat}
theorem On3.apart (h : On3 K C H o B) : o.d ≠ o.p ∧ o.d ≠ o.ce ∧ o.lc ≠ o.p ∧ o.lc ≠ o.ce ∧ o.p ≠ o.ce ∧ o.d ≠ o.lc := by
  obtain ⟨dx, ep⟩ := h.bt.ob
  exact ⟨ne_of h.la.di ep (by intro z; cases z), ne_of h.la.di h.bt.cs (by intro z; cases z), ne_of h.la.cs ep (by intro z; cases z), h.ne.symm, h.bt.ne, ne_of h.la.di h.la.cs (by intro z; cases z)⟩
theorem On3.nt (h : On3 K C H o B) : NT o.as H := fun c hc => by
  obtain ⟨dx, ep⟩ := h.bt.ob
  simp only [O3.as, List.mem_cons, List.not_mem_nil, or_false] at hc
  rcases hc with rfl | rfl | rfl | rfl
  · exact ⟨_, ep, trivial⟩
  · exact ⟨_, h.bt.cs, trivial⟩
  · exact ⟨_, h.la.di, trivial⟩
  · exact ⟨_, h.la.cs, trivial⟩
theorem On3.ntd (h : On3 K C H o B) : NT [o.d, o.lc] H := fun c hc => h.nt c (by
  simp only [List.mem_cons, List.not_mem_nil, or_false] at hc
  rcases hc with rfl | rfl <;> simp [O3.as])
theorem On3.mv {S : List Addr} (h : On3 K C H o B) (m : Mv S H H') (n : NT S H) (hp : o.p ∉ S) (hc : o.ce ∉ S) (hd : o.d ∉ S) (hl : o.lc ∉ S) : On3 K C H' o B := ⟨h.bt.mv m n hp hc, h.la.mv m hd hl, h.nm, h.tl, h.ok, h.ne⟩
theorem Mv.o3p (m : Mv [o.p, o.ce] H H') : Mv o.as H H' := m.mono fun c h z => h (by
  simp only [List.mem_cons, List.not_mem_nil, or_false] at z
  rcases z with rfl | rfl <;> simp [O3.as])
theorem Mv.o3d (m : Mv [o.d, o.lc] H H') : Mv o.as H H' := m.mono fun c h z => h (by
  simp only [List.mem_cons, List.not_mem_nil, or_false] at z
  rcases z with rfl | rfl <;> simp [O3.as])
theorem BoxC.o3 (hb : BoxC H bx n) (m : Mv o.as H H') (h : bx ∉ o.as) : BoxC H' bx n := by
  obtain ⟨x1, x2, x3, e, r⟩ := hb
  exact ⟨x1, x2, x3, m _ _ h e, r⟩
theorem On3.two {H1 H2 : Hp} {B' : Bt} (h : On3 K C H o B) (m1 : Mv [o.d, o.lc] H H1) (l1 : LawAt H1 o.d o.lc B') (m2 : Mv [o.p, o.ce] H1 H2) (b2 : BtnAt K C H2 o.p o.ta o.ka o.ce B') (hn : B'.nm = B.nm) (ht : B'.t = B.t) (ok : BtOk B') : On3 K C H2 o B' := by
  obtain ⟨a1, a2, a3, a4, a5, a6⟩ := h.apart
  exact ⟨b2, l1.mv m2 (nin2 a1 a2) (nin2 a3 a4), by rw [hn]; exact h.nm, by rw [ht]; exact h.tl, ok, h.ne⟩
theorem On3.btn {H1 : Hp} (h : On3 K C H o B) (m1 : Mv [o.d, o.lc] H H1) : BtnAt K C H1 o.p o.ta o.ka o.ce B := by
  obtain ⟨a1, a2, a3, a4, a5, a6⟩ := h.apart
  exact h.bt.mv m1 h.ntd (nin2 a1.symm a3.symm) (nin2 a2.symm a4.symm)
end
section
variable (K : PySem.W.Frag) (C : Addr)
def spLost : Sp := fun vs H Q _ => ∃ (o : O3) (B : Bt) (b : Bool), vs = [.ref o.p, .ref o.d, .bl b] ∧ On3 K C H o B ∧ ∀ H', Mv o.as H H' → On3 K C H' o (if b then B.tn else B.ou) → Q .non H'
end
end L3
namespace S0
open PySem PyProof.Rows
abbrev kp (p : Keyed) : Int := numOf p.1
def IntP (p : Keyed) : Prop := ∃ n t, p.1 = .int n t
structure SB (a₀ : Array Keyed) (st : SortSt) : Prop where
  perm : (arrOf st).Perm a₀
  kind : kindOf st = oneType'
  failed : failedOf st = none
def gal : Bool → Keyed → Array Keyed → Nat → Nat → Nat → StateT SortSt Sem (Option Nat) := sortPriv% PySem.Builtin.gallop
def mgLo : Array Keyed → Array Keyed → StateT SortSt Sem (Array Keyed) := sortPriv% PySem.Builtin.mergeLo
def mgHi : Array Keyed → Array Keyed → StateT SortSt Sem (Array Keyed) := sortPriv% PySem.Builtin.mergeHi
abbrev setG (st : SortSt) (g : Nat) : SortSt := SortSt.mk' (kindOf st) (arrOf st) (pendingOf st) g (failedOf st)
section
variable {prog : Program} {w : World} {A : Around} {E : Value → Shared → Prop} {s : Shared} {a₀ : Array Keyed}
theorem wpS_lt {st : SortSt} {x y : Keyed} {Q : Option Bool → SortSt → Prop} (hk : kindOf st = oneType') (hx : IntP x) (hy : IntP y)
    (h : Q (some (decide (kp x < kp y))) st) : wpS (model prog w) A E s (lt' x y) Q st := by
  obtain ⟨x1, x2⟩ := x; obtain ⟨y1, y2⟩ := y
  obtain ⟨n, t, e⟩ := hx; obtain ⟨m, u, e'⟩ := hy
  dsimp only at e e'; subst e; subst e'
  rw [lt'_eq]
  refine wpS_bind (wpS_get ?_)
  rw [hk, keyLt'_oneType]
  exact wpS_bind (wpS_lift (wpAny_attempt (oneLt_int ⟨rfl, wpS_pure h⟩)))
theorem wpS_elem {st : SortSt} {xs : Array Keyed} {i : Nat} {Q : Keyed → SortSt → Prop} (hi : i < xs.size) (h : Q xs[i] st) :
    wpS (model prog w) A E s (elem' xs i) Q st := by
  rw [elem'_eq, getElem?_pos xs i hi]; exact wpS_pure h
theorem gal_eq (left : Bool) (key : Keyed) (xs : Array Keyed) (b n hint : Nat) : gal left key xs b n hint = (do
  let byd (i : Nat) : StateT SortSt Sem (Option Bool) := do
    let x ← elem' xs (b + i)
    if left then lt' x key else return (← lt' key x).map (!·)
  let mut l0 := 0
  let mut o := 1
  let mut lo := 0
  let mut hi := 0
  let some r0 ← byd hint | return none
  if r0 then
    let mx := n - hint
    for _ in [0:n] do
      if o ≥ mx then break
      let some more ← byd (hint + o) | return none
      if !more then break
      l0 := o
      o := 2 * o + 1
    lo := hint + l0 + 1
    hi := hint + min o mx
  else
    let mx := hint + 1
    for _ in [0:n] do
      if o ≥ mx then break
      let some fd ← byd (hint - o) | return none
      if fd then break
      l0 := o
      o := 2 * o + 1
    lo := hint + 1 - min o mx
    hi := hint - l0
  for _ in [0:n] do
    if lo ≥ hi then break
    let m := lo + (hi - lo) / 2
    let some more ← byd m | return none
    if more then lo := m + 1 else hi := m
  return some hi) := rfl
theorem wpS_gal {st : SortSt} {left : Bool} {key : Keyed} {xs : Array Keyed} {b n hint : Nat} {Q : Option Nat → SortSt → Prop} (P : Nat → Bool)
    (hk : kindOf st = oneType') (hkey : IntP key) (hsz : b + n ≤ xs.size) (hint_lt : hint < n)
    (hx : ∀ i (h : b + i < xs.size), i < n → IntP xs[b + i] ∧ P i = if left then decide (kp xs[b + i] < kp key) else !decide (kp key < kp xs[b + i]))
    (hP : ∀ i j, i ≤ j → j < n → P j = true → P i = true)
    (h : ∀ k, k ≤ n → (∀ i, i < k → P i = true) → (∀ i, k ≤ i → i < n → P i = false) → Q (some k) st) :
    wpS (model prog w) A E s (gal left key xs b n hint) Q st := by
  have hF : ∀ i j, i ≤ j → j < n → P i = false → P j = false := by
    intro i j hij hj hi
    cases e : P j
    · rfl
    · rw [hP i j hij hj e] at hi; cases hi
  rw [gal_eq]
  extract_lets byd l0 o jp m1 m2
  have hb : ∀ i, i < n → ∀ {Q' : Option Bool → SortSt → Prop}, Q' (some (P i)) st → wpS (model prog w) A E s (byd i) Q' st := by
    intro i hi Q' hq
    have hlt : b + i < xs.size := by omega
    obtain ⟨h1, h2⟩ := hx i hlt hi
    refine wpS_bind (wpS_elem hlt ?_)
    cases left
    · rw [if_neg (by decide)] at h2 ⊢
      exact wpS_bind (wpS_lt hk hkey h1 (wpS_pure (by rw [h2] at hq; exact hq)))
    · rw [if_pos rfl] at h2 ⊢
      exact wpS_lt hk h1 hkey (by rw [h2] at hq; exact hq)
  clear_value byd
  have hj : ∀ l o lo hi, lo ≤ hi → hi ≤ n → (∀ i, i < lo → P i = true) → (∀ i, hi ≤ i → i < n → P i = false) →
      wpS (model prog w) A E s (jp () l o lo hi) Q st := by
    intro l o lo hi hle hhi hT hN
    refine wpS_bind (wpS_mono (wpS_forRange (I := fun x c st' => st' = st ∧ ∃ l r, c = (none, l, r) ∧ l ≤ r ∧ r ≤ n ∧ r - l ≤ n - x ∧
        (∀ i, i < l → P i = true) ∧ ∀ i, r ≤ i → i < n → P i = false)
      (Q := fun c st' => st' = st ∧ ∃ l r, c = (none, l, r) ∧ l = r ∧ r ≤ n ∧ (∀ i, i < l → P i = true) ∧ ∀ i, r ≤ i → i < n → P i = false)
      ?ga1 ?gb1 ⟨rfl, lo, hi, rfl, hle, hhi, by omega, hT, hN⟩) ?gc1)
    case ga1 =>
      rintro x c st' _ hxn ⟨rfl, l, r, rfl, h1, h2, h3, h4, h5⟩
      dsimp only
      by_cases hg : l ≥ r
      · rw [if_pos hg]
        exact wpS_pure ⟨rfl, l, r, rfl, by omega, h2, h4, h5⟩
      · rw [if_neg hg]
        refine wpS_bind (hb _ (by omega) ?_)
        dsimp only
        cases e : P (l + (r - l) / 2)
        · rw [if_neg (by decide)]
          exact wpS_pure ⟨rfl, l, _, rfl, by omega, by omega, by omega, h4, fun i hi1 hi2 => hF _ i hi1 hi2 e⟩
        · rw [if_pos rfl]
          exact wpS_pure ⟨rfl, _, r, rfl, by omega, h2, by omega, fun i hi1 => hP i _ (by omega) (by omega) e, h5⟩
    case gb1 =>
      rintro c st' ⟨rfl, l, r, rfl, h1, h2, h3, h4, h5⟩
      exact ⟨rfl, l, r, rfl, by omega, h2, h4, h5⟩
    case gc1 =>
      rintro c st' ⟨rfl, l, r, rfl, rfl, h2, h4, h5⟩
      exact wpS_pure (h l h2 h4 h5)
  clear_value jp
  refine wpS_bind (hb hint hint_lt ?_)
  dsimp only
  cases e0 : P hint
  · rw [if_neg (by decide)]
    refine wpS_bind (wpS_mono (wpS_forRange (I := fun x c st' => st' = st ∧ ∃ l o, c = (none, l, o) ∧ x + 1 ≤ o ∧ l < o ∧ l ≤ hint ∧ P (hint - l) = false)
      (Q := fun c st' => st' = st ∧ ∃ l o, c = (none, l, o) ∧ l < o ∧ l ≤ hint ∧ P (hint - l) = false ∧ (hint + 1 ≤ o ∨ P (hint - o) = true))
      ?ga2 ?gb2 ⟨rfl, 0, 1, rfl, by omega, by omega, by omega, e0⟩) ?gc2)
    case ga2 =>
      rintro x c st' _ hxn ⟨rfl, l, o, rfl, h1, h2, h3, h4⟩
      dsimp only
      by_cases hg : o ≥ m2
      · rw [if_pos hg]
        exact wpS_pure ⟨rfl, l, o, rfl, h2, h3, h4, .inl hg⟩
      · rw [if_neg hg]
        have hg' : o < hint + 1 := Nat.lt_of_not_le hg
        refine wpS_bind (hb _ (by omega) ?_)
        dsimp only
        cases e : P (hint - o)
        · rw [if_neg (by decide)]
          exact wpS_pure ⟨rfl, o, _, rfl, by omega, by omega, by omega, e⟩
        · rw [if_pos rfl]
          exact wpS_pure ⟨rfl, l, o, rfl, h2, h3, h4, .inr e⟩
    case gb2 =>
      rintro c st' ⟨rfl, l, o, rfl, h1, h2, h3, h4⟩
      exact ⟨rfl, l, o, rfl, h2, h3, h4, .inl (by omega)⟩
    case gc2 =>
      rintro c st' ⟨rfl, l, o, rfl, h1, h2, h3, h4⟩
      dsimp only
      refine hj _ _ _ _ (show hint + 1 - min o (hint + 1) ≤ _ by omega) (by omega) (fun i hi => ?_) fun i hi1 hi2 => hF _ i hi1 hi2 h3
      change i < hint + 1 - min o (hint + 1) at hi
      rcases h4 with h4 | h4
      · omega
      · exact hP i _ (by omega) (by omega) h4
  · rw [if_pos rfl]
    refine wpS_bind (wpS_mono (wpS_forRange (I := fun x c st' => st' = st ∧ ∃ l o, c = (none, l, o) ∧ x + 1 ≤ o ∧ l < o ∧ hint + l < n ∧ P (hint + l) = true)
      (Q := fun c st' => st' = st ∧ ∃ l o, c = (none, l, o) ∧ l < o ∧ hint + l < n ∧ P (hint + l) = true ∧ (n - hint ≤ o ∨ P (hint + o) = false))
      ?ga3 ?gb3 ⟨rfl, 0, 1, rfl, by omega, by omega, by omega, e0⟩) ?gc3)
    case ga3 =>
      rintro x c st' _ hxn ⟨rfl, l, o, rfl, h1, h2, h3, h4⟩
      dsimp only
      by_cases hg : o ≥ m1
      · rw [if_pos hg]
        exact wpS_pure ⟨rfl, l, o, rfl, h2, h3, h4, .inl hg⟩
      · rw [if_neg hg]
        have hg' : o < n - hint := Nat.lt_of_not_le hg
        refine wpS_bind (hb _ (by omega) ?_)
        dsimp only
        cases e : P (hint + o)
        · rw [if_pos (by decide)]
          exact wpS_pure ⟨rfl, l, o, rfl, h2, h3, h4, .inr e⟩
        · rw [if_neg (by decide)]
          exact wpS_pure ⟨rfl, o, _, rfl, by omega, by omega, by omega, e⟩
    case gb3 =>
      rintro c st' ⟨rfl, l, o, rfl, h1, h2, h3, h4⟩
      exact ⟨rfl, l, o, rfl, h2, h3, h4, .inl (by omega)⟩
    case gc3 =>
      rintro c st' ⟨rfl, l, o, rfl, h1, h2, h3, h4⟩
      dsimp only
      refine hj _ _ _ _ (show _ ≤ hint + min o (n - hint) by omega) (show hint + min o (n - hint) ≤ n by omega) (fun i hi => hP i _ (by omega) h2 h3) fun i hi1 hi2 => ?_
      change hint + min o (n - hint) ≤ i at hi1
      rcases h4 with h4 | h4
      · omega
      · exact hF _ i (by omega) hi2 h4
end
end S0
namespace S0
open PySem PyProof.Rows
def Le2 (xs ys : List Keyed) : Prop := ∀ x ∈ xs, ∀ y ∈ ys, kp x ≤ kp y
def Pw (xs : List Keyed) : Prop := xs.Pairwise (fun x y => kp x ≤ kp y)
def Out (T R : List Keyed) : Prop := Pw R ∧ R.Perm T
theorem pw_append {xs ys : List Keyed} : Pw (xs ++ ys) ↔ Pw xs ∧ Pw ys ∧ Le2 xs ys := by
  unfold Pw Le2; exact List.pairwise_append
structure MI (T U A B : List Keyed) : Prop where
  u : Pw U
  a : Pw A
  b : Pw B
  ua : Le2 U A
  ub : Le2 U B
  perm : (U ++ (A ++ B)).Perm T
theorem Le2.app {U V W : List Keyed} (h1 : Le2 U W) (h2 : Le2 V W) : Le2 (U ++ V) W := by
  intro x hx y hy
  rcases List.mem_append.mp hx with hx | hx
  · exact h1 x hx y hy
  · exact h2 x hx y hy
theorem MI.takeA {T U A1 A2 B : List Keyed} (h : MI T U (A1 ++ A2) B) (hl : Le2 A1 B) : MI T (U ++ A1) A2 B := by
  have ha := pw_append.mp h.a
  refine ⟨pw_append.mpr ⟨h.u, ha.1, fun x hx y hy => h.ua x hx y (List.mem_append_left _ hy)⟩, ha.2.1, h.b, ?_, h.ub.app hl, ?_⟩
  · exact Le2.app (fun x hx y hy => h.ua x hx y (List.mem_append_right _ hy)) ha.2.2
  · have := h.perm
    simpa only [List.append_assoc] using this
theorem MI.takeB {T U A B1 B2 : List Keyed} (h : MI T U A (B1 ++ B2)) (hl : Le2 B1 A) : MI T (U ++ B1) A B2 := by
  have hb := pw_append.mp h.b
  refine ⟨pw_append.mpr ⟨h.u, hb.1, fun x hx y hy => h.ub x hx y (List.mem_append_left _ hy)⟩, h.a, hb.2.1, h.ua.app hl, ?_, ?_⟩
  · exact Le2.app (fun x hx y hy => h.ub x hx y (List.mem_append_right _ hy)) hb.2.2
  · refine List.Perm.trans ?_ h.perm
    rw [List.append_assoc]
    refine List.Perm.append_left U ?_
    rw [← List.append_assoc, ← List.append_assoc]
    exact List.Perm.append_right B2 List.perm_append_comm
theorem MI.doneA {T U A : List Keyed} (h : MI T U A []) : Out T (U ++ A) :=
  ⟨pw_append.mpr ⟨h.u, h.a, h.ua⟩, by simpa using h.perm⟩
theorem MI.doneB {T U B : List Keyed} (h : MI T U [] B) : Out T (U ++ B) :=
  ⟨pw_append.mpr ⟨h.u, h.b, h.ub⟩, by simpa using h.perm⟩
theorem MI.lastA {T U A B : List Keyed} (h : MI T U A B) (hl : Le2 B A) : Out T (U ++ B ++ A) :=
  ⟨pw_append.mpr ⟨pw_append.mpr ⟨h.u, h.b, h.ub⟩, h.a, h.ua.app hl⟩,
    List.Perm.trans (by rw [List.append_assoc]; exact List.Perm.append_left U List.perm_append_comm) h.perm⟩
theorem ext_drop (a : Array Keyed) (i : Nat) : (a.extract i a.size).toList = a.toList.drop i := by
  rw [Array.toList_extract]; simp only [List.extract_eq_take_drop]
  exact List.take_of_length_le (by simp)
theorem ext_take (a : Array Keyed) (i k : Nat) : (a.extract i (i + k)).toList = (a.toList.drop i).take k := by
  simp
theorem drop_cons (a : Array Keyed) {i : Nat} (h : i < a.size) : a.toList.drop i = a[i] :: a.toList.drop (i + 1) := by
  rw [List.drop_eq_getElem_cons (by simpa using h)]; simp
theorem drop_split (a : Array Keyed) (i k : Nat) : a.toList.drop i = (a.toList.drop i).take k ++ a.toList.drop (i + k) := by
  rw [← List.drop_drop, List.take_append_drop]
theorem mem_drop {a : Array Keyed} {i : Nat} {x : Keyed} (h : x ∈ a.toList.drop i) : ∃ m, ∃ hm : m < a.size, i ≤ m ∧ a[m] = x := by
  obtain ⟨k, hk, rfl⟩ := List.mem_iff_getElem.mp h
  simp at hk
  exact ⟨i + k, by omega, by omega, by simp⟩
theorem mem_take {a : Array Keyed} {i k : Nat} {x : Keyed} (h : x ∈ (a.toList.drop i).take k) : ∃ m, ∃ hm : i + m < a.size, m < k ∧ a[i + m] = x := by
  obtain ⟨m, hm, rfl⟩ := List.mem_iff_getElem.mp h
  simp at hm
  exact ⟨m, by omega, by omega, by simp⟩
def Srt (a : Array Keyed) : Prop := ∀ i j (hi : i < a.size) (hj : j < a.size), i ≤ j → kp a[i] ≤ kp a[j]
theorem Srt.pw {a : Array Keyed} (h : Srt a) : Pw a.toList := by
  unfold Pw
  rw [List.pairwise_iff_getElem]
  intro i j hi hj hij
  simpa using h i j (by simpa using hi) (by simpa using hj) (Nat.le_of_lt hij)
def Mg (a b o : Array Keyed) (i j : Nat) : Prop := MI (a.toList ++ b.toList) o.toList (a.toList.drop i) (b.toList.drop j)
section
variable {a b o : Array Keyed} {i j : Nat}
theorem Mg.pushB (h : Mg a b o i j) (ha : Srt a) (hb : Srt b) (hi : i < a.size) (hj : j < b.size) (hl : kp b[j] ≤ kp a[i]) : Mg a b (o.push b[j]) i (j + 1) := by
  unfold Mg at h ⊢
  rw [drop_cons b hj, show b[j] :: b.toList.drop (j + 1) = [b[j]] ++ b.toList.drop (j + 1) from rfl] at h
  rw [Array.toList_push]
  refine h.takeB fun x hx y hy => ?_
  rw [List.mem_singleton.mp hx]
  obtain ⟨m, hm, h1, rfl⟩ := mem_drop hy
  exact Int.le_trans hl (ha _ _ hi hm h1)
theorem Mg.pushA (h : Mg a b o i j) (ha : Srt a) (hb : Srt b) (hi : i < a.size) (hj : j < b.size) (hl : kp a[i] ≤ kp b[j]) : Mg a b (o.push a[i]) (i + 1) j := by
  unfold Mg at h ⊢
  rw [drop_cons a hi, show a[i] :: a.toList.drop (i + 1) = [a[i]] ++ a.toList.drop (i + 1) from rfl] at h
  rw [Array.toList_push]
  refine h.takeA fun x hx y hy => ?_
  rw [List.mem_singleton.mp hx]
  obtain ⟨m, hm, h1, rfl⟩ := mem_drop hy
  exact Int.le_trans hl (hb _ _ hj hm h1)
theorem Mg.extA (h : Mg a b o i j) (ha : Srt a) (hb : Srt b) {k : Nat} (hj : j < b.size) (hl : ∀ m (hm : i + m < a.size), m < k → kp a[i + m] ≤ kp b[j]) :
    Mg a b (o ++ a.extract i (i + k)) (i + k) j := by
  unfold Mg at h ⊢
  rw [drop_split a i k] at h
  rw [Array.toList_append, ext_take]
  refine h.takeA fun x hx y hy => ?_
  obtain ⟨m, hm, h1, rfl⟩ := mem_take hx
  obtain ⟨m', hm', h2, rfl⟩ := mem_drop hy
  exact Int.le_trans (hl m hm h1) (hb _ _ hj hm' h2)
theorem Mg.extB (h : Mg a b o i j) (ha : Srt a) (hb : Srt b) {k : Nat} (hi : i < a.size) (hl : ∀ m (hm : j + m < b.size), m < k → kp b[j + m] ≤ kp a[i]) :
    Mg a b (o ++ b.extract j (j + k)) i (j + k) := by
  unfold Mg at h ⊢
  rw [drop_split b j k] at h
  rw [Array.toList_append, ext_take]
  refine h.takeB fun x hx y hy => ?_
  obtain ⟨m, hm, h1, rfl⟩ := mem_take hx
  obtain ⟨m', hm', h2, rfl⟩ := mem_drop hy
  exact Int.le_trans (hl m hm h1) (ha _ _ hi hm' h2)
theorem Mg.doneB (h : Mg a b o i j) (hj : b.size ≤ j) : Out (a.toList ++ b.toList) (o ++ a.extract i a.size ++ b.extract j b.size).toList := by
  unfold Mg at h
  rw [Array.toList_append, Array.toList_append, ext_drop, ext_drop]
  have e : b.toList.drop j = [] := List.drop_eq_nil_of_le (by simpa using hj)
  rw [e] at h ⊢
  rw [List.append_nil]; exact h.doneA
theorem Mg.doneA (h : Mg a b o i j) (hi : a.size ≤ i) : Out (a.toList ++ b.toList) (o ++ a.extract i a.size ++ b.extract j b.size).toList := by
  unfold Mg at h
  rw [Array.toList_append, Array.toList_append, ext_drop, ext_drop]
  have e : a.toList.drop i = [] := List.drop_eq_nil_of_le (by simpa using hi)
  rw [e] at h ⊢
  rw [List.append_nil]; exact h.doneB
theorem Mg.last (h : Mg a b o i j) (hi : i + 1 = a.size) (hl : ∀ m (hm : m < b.size), kp b[m] ≤ kp a[a.size - 1]) :
    Out (a.toList ++ b.toList) (o ++ b.extract j b.size ++ a.extract i a.size).toList := by
  unfold Mg at h
  rw [Array.toList_append, Array.toList_append, ext_drop, ext_drop]
  refine h.lastA fun x hx y hy => ?_
  obtain ⟨m, hm, h1, rfl⟩ := mem_drop hx
  obtain ⟨m', hm', h2, rfl⟩ := mem_drop hy
  have e : m' = a.size - 1 := by omega
  subst e
  exact hl m hm
end
theorem mgLo_eq (a b : Array Keyed) : mgLo a b = (do
  rule "list.sort.merge-lo"
  let tot := a.size + b.size
  let dn (o : Array Keyed) (i j : Nat) := o ++ a.extract i a.size ++ b.extract j b.size
  let la (o : Array Keyed) (i j : Nat) := o ++ b.extract j b.size ++ a.extract i a.size
  let mut o : Array Keyed := #[← elem' b 0]
  let mut i := 0
  let mut j := 1
  if j == b.size then return dn o i j
  if i + 1 == a.size then return la o i j
  let mut g := gallopOf (← get)
  for _ in [0:tot] do
    let mut ca := 0
    let mut cb := 0
    for _ in [0:tot] do
      let some bw ← lt' (← elem' b j) (← elem' a i) | return dn o i j
      if bw then
        o := o.push (← elem' b j); j := j + 1; cb := cb + 1; ca := 0
        if j == b.size then return dn o i j
        if cb ≥ g then break
      else
        o := o.push (← elem' a i); i := i + 1; ca := ca + 1; cb := 0
        if i + 1 == a.size then return la o i j
        if ca ≥ g then break
    rule "list.sort.gallop"
    g := g + 1
    for _ in [0:tot] do
      if g > 1 then g := g - 1
      modify (setG · g)
      let some k ← gal false (← elem' b j) a i (a.size - i) 0 | return dn o i j
      ca := k
      if k > 0 then
        o := o ++ a.extract i (i + k); i := i + k
        if i + 1 == a.size then return la o i j
        if i == a.size then return dn o i j
      o := o.push (← elem' b j); j := j + 1
      if j == b.size then return dn o i j
      let some k ← gal true (← elem' a i) b j (b.size - j) 0 | return dn o i j
      cb := k
      if k > 0 then
        o := o ++ b.extract j (j + k); j := j + k
        if j == b.size then return dn o i j
      o := o.push (← elem' a i); i := i + 1
      if i + 1 == a.size then return la o i j
      if ca < 7 && cb < 7 then break
    g := g + 1
    modify (setG · g)
  unsupported "internal:list.sort.merge-bound") := rfl
end S0
namespace S0
open PySem PyProof.Rows
section
variable {prog : Program} {w : World} {A : Around} {E : Value → Shared → Prop} {s : Shared}
abbrev Gs (st st' : SortSt) : Prop := ∃ g, st' = setG st g
def Ints (a : Array Keyed) : Prop := ∀ i (h : i < a.size), IntP a[i]
def SrtIn (xs : Array Keyed) (b n : Nat) : Prop := ∀ i j (hi : i < xs.size) (hj : j < xs.size), b ≤ i → i ≤ j → j < b + n → kp xs[i] ≤ kp xs[j]
theorem wpS_galR {st : SortSt} {key : Keyed} {xs : Array Keyed} {b n hint : Nat} {Q : Option Nat → SortSt → Prop}
    (hk : kindOf st = oneType') (hkey : IntP key) (hI : Ints xs) (hs : SrtIn xs b n) (hsz : b + n ≤ xs.size) (hint_lt : hint < n)
    (h : ∀ k, k ≤ n → (∀ m (hm : b + m < xs.size), m < k → kp xs[b + m] ≤ kp key) → (∀ m (hm : b + m < xs.size), k ≤ m → m < n → kp key < kp xs[b + m]) → Q (some k) st) :
    wpS (model prog w) A E s (gal false key xs b n hint) Q st := by
  refine wpS_gal (fun m => if hm : b + m < xs.size then !decide (kp key < kp xs[b + m]) else false) hk hkey hsz hint_lt ?_ ?_ ?_
  · intro i hi _
    exact ⟨hI _ hi, by rw [dif_pos hi, if_neg (by decide)]⟩
  · intro i j hij hj hP
    have h1 : b + j < xs.size := by omega
    have h2 : b + i < xs.size := by omega
    have := hs (b + i) (b + j) h2 h1 (by omega) (by omega) (by omega)
    simp only [dif_pos h1, dif_pos h2, Bool.not_eq_true', decide_eq_false_iff_not] at hP ⊢
    omega
  · intro k hkn hT hF
    refine h k hkn (fun m hm hmk => ?_) fun m hm h1 h2 => ?_
    · have := hT m hmk
      simp only [dif_pos hm, Bool.not_eq_true', decide_eq_false_iff_not] at this
      omega
    · have := hF m h1 h2
      simp only [dif_pos hm, Bool.not_eq_false', decide_eq_true_eq] at this
      exact this
theorem wpS_galL {st : SortSt} {key : Keyed} {xs : Array Keyed} {b n hint : Nat} {Q : Option Nat → SortSt → Prop}
    (hk : kindOf st = oneType') (hkey : IntP key) (hI : Ints xs) (hs : SrtIn xs b n) (hsz : b + n ≤ xs.size) (hint_lt : hint < n)
    (h : ∀ k, k ≤ n → (∀ m (hm : b + m < xs.size), m < k → kp xs[b + m] < kp key) → (∀ m (hm : b + m < xs.size), k ≤ m → m < n → kp key ≤ kp xs[b + m]) → Q (some k) st) :
    wpS (model prog w) A E s (gal true key xs b n hint) Q st := by
  refine wpS_gal (fun m => if hm : b + m < xs.size then decide (kp xs[b + m] < kp key) else false) hk hkey hsz hint_lt ?_ ?_ ?_
  · intro i hi _
    exact ⟨hI _ hi, by rw [dif_pos hi, if_pos rfl]⟩
  · intro i j hij hj hP
    have h1 : b + j < xs.size := by omega
    have h2 : b + i < xs.size := by omega
    have := hs (b + i) (b + j) h2 h1 (by omega) (by omega) (by omega)
    simp only [dif_pos h1, dif_pos h2, decide_eq_true_eq] at hP ⊢
    omega
  · intro k hkn hT hF
    refine h k hkn (fun m hm hmk => ?_) fun m hm h1 h2 => ?_
    · have := hT m hmk
      simpa only [dif_pos hm, decide_eq_true_eq] using this
    · have := hF m h1 h2
      simp only [dif_pos hm, decide_eq_false_iff_not] at this
      omega
theorem Srt.srtIn {xs : Array Keyed} (h : Srt xs) (b n : Nat) : SrtIn xs b n := fun i j hi hj _ hij _ => h i j hi hj hij
theorem Mg.start {a b : Array Keyed} (ha : Srt a) (hb : Srt b) (na : 0 < a.size) (nb : 0 < b.size) (h0 : kp b[0] ≤ kp a[0]) : Mg a b #[b[0]] 0 1 := by
  have h : Mg a b #[] 0 0 := ⟨.nil, ha.pw, hb.pw, fun x hx => (nomatch hx), fun x hx => (nomatch hx), List.Perm.refl _⟩
  exact h.pushB ha hb na nb h0
abbrev LoSt := Option (Array Keyed) × Array Keyed × Nat × Nat × Nat × Nat × Nat
section
variable (a b : Array Keyed) (dn la : Array Keyed → Nat → Nat → Array Keyed)
def lo3 (o : Array Keyed) (i j g ca cb : Nat) : StateT SortSt Sem (ForInStep LoSt) := do
  let x ← elem' a i
  if i + 1 + 1 == a.size then pure (.done (some (la (o.push x) (i + 1) j), o.push x, i + 1, j, g, ca, cb))
  else if decide (ca < 7) && decide (cb < 7) then pure (.done (none, o.push x, i + 1, j, g, ca, cb))
  else pure (.yield (none, o.push x, i + 1, j, g, ca, cb))
def lo2 (o : Array Keyed) (i j g ca cb : Nat) : StateT SortSt Sem (ForInStep LoSt) := do
  let x ← elem' b j
  if j + 1 == b.size then pure (.done (some (dn (o.push x) i (j + 1)), o.push x, i, j + 1, g, ca, cb))
  else do
    let y ← elem' a i
    let z ← gal true y b (j + 1) (b.size - (j + 1)) 0
    match z with
    | some k =>
      if k > 0 then
        if j + 1 + k == b.size then
          pure (.done (some (dn (o.push x ++ b.extract (j + 1) (j + 1 + k)) i (j + 1 + k)), o.push x ++ b.extract (j + 1) (j + 1 + k), i, j + 1 + k, g, ca, k))
        else lo3 a la (o.push x ++ b.extract (j + 1) (j + 1 + k)) i (j + 1 + k) g ca k
      else lo3 a la (o.push x) i (j + 1) g ca k
    | _ => pure (.done (some (dn (o.push x) i (j + 1)), o.push x, i, j + 1, g, ca, cb))
def lo1 (o : Array Keyed) (i j g ca cb : Nat) : StateT SortSt Sem (ForInStep LoSt) := do
  modify (setG · g)
  let x ← elem' b j
  let z ← gal false x a i (a.size - i) 0
  match z with
  | some k =>
    if k > 0 then
      if i + k + 1 == a.size then
        pure (.done (some (la (o ++ a.extract i (i + k)) (i + k) j), o ++ a.extract i (i + k), i + k, j, g, k, cb))
      else if i + k == a.size then
        pure (.done (some (dn (o ++ a.extract i (i + k)) (i + k) j), o ++ a.extract i (i + k), i + k, j, g, k, cb))
      else lo2 a b dn la (o ++ a.extract i (i + k)) (i + k) j g k cb
    else lo2 a b dn la o i j g k cb
  | _ => pure (.done (some (dn o i j), o, i, j, g, ca, cb))
end
def LR (a b : Array Keyed) (st : SortSt) (B : Nat) (r : ForInStep LoSt) (st' : SortSt) : Prop := Gs st st' ∧ match r with
  | .done c => (∃ R o i j g ca cb, c = (some R, o, i, j, g, ca, cb) ∧ Out (a.toList ++ b.toList) R.toList) ∨
      ∃ o i j g ca cb, c = (none, o, i, j, g, ca, cb) ∧ Mg a b o i j ∧ i + 1 < a.size ∧ j < b.size ∧ B ≤ i + j
  | .yield c => ∃ o i j g ca cb, c = (none, o, i, j, g, ca, cb) ∧ Mg a b o i j ∧ i + 1 < a.size ∧ j < b.size ∧ B ≤ i + j
section
variable {st st1 : SortSt} {a b : Array Keyed} {dn la : Array Keyed → Nat → Nat → Array Keyed}
theorem wpS_lo3 (ha : Srt a) (hb : Srt b) (hG : Gs st st1)
    (hL : ∀ {o : Array Keyed} {i j : Nat}, Mg a b o i j → i + 1 = a.size → Out (a.toList ++ b.toList) (la o i j).toList)
    {o : Array Keyed} {i j g ca cb B : Nat} (hM : Mg a b o i j) (hi : i < a.size) (hi1 : i + 1 < a.size) (hj : j < b.size) (hle : kp a[i] ≤ kp b[j]) (hB : B ≤ i + j) :
    wpS (model prog w) A E s (lo3 a la o i j g ca cb) (LR a b st B) st1 := by
  unfold lo3
  have h1 := hM.pushA ha hb hi hj hle
  refine wpS_bind (wpS_elem hi ?_)
  by_cases e : i + 1 + 1 = a.size
  · rw [if_pos (by simpa using e)]
    exact wpS_pure ⟨hG, .inl ⟨_, _, _, _, _, _, _, rfl, hL h1 e⟩⟩
  rw [if_neg (by simpa using e)]
  split
  · exact wpS_pure ⟨hG, .inr ⟨_, _, _, _, _, _, rfl, h1, by omega, hj, by omega⟩⟩
  · exact wpS_pure ⟨hG, _, _, _, _, _, _, rfl, h1, by omega, hj, by omega⟩
theorem wpS_lo2 (hk : kindOf st1 = oneType') (ha : Srt a) (hb : Srt b) (ia : Ints a) (ib : Ints b) (hG : Gs st st1)
    (hD : ∀ {o : Array Keyed} {i j : Nat}, Mg a b o i j → b.size ≤ j → Out (a.toList ++ b.toList) (dn o i j).toList)
    (hL : ∀ {o : Array Keyed} {i j : Nat}, Mg a b o i j → i + 1 = a.size → Out (a.toList ++ b.toList) (la o i j).toList)
    {o : Array Keyed} {i j g ca cb B : Nat} (hM : Mg a b o i j) (hi : i < a.size) (hi1 : i + 1 < a.size) (hj : j < b.size) (hle : kp b[j] ≤ kp a[i]) (hB : B ≤ i + j) :
    wpS (model prog w) A E s (lo2 a b dn la o i j g ca cb) (LR a b st B) st1 := by
  unfold lo2
  have h1 := hM.pushB ha hb hi hj hle
  refine wpS_bind (wpS_elem hj ?_)
  by_cases e : j + 1 = b.size
  · rw [if_pos (by simpa using e)]
    exact wpS_pure ⟨hG, .inl ⟨_, _, _, _, _, _, _, rfl, hD h1 (by omega)⟩⟩
  rw [if_neg (by simpa using e)]
  refine wpS_bind (wpS_elem hi (wpS_bind (wpS_galL hk (ia _ hi) ib (hb.srtIn _ _) (by omega) (by omega) fun k hk1 hT hF => ?_)))
  dsimp only
  by_cases h0 : k > 0
  · rw [if_pos h0]
    have h2 := h1.extB ha hb (k := k) hi fun m hm hmk => Int.le_of_lt (hT m hm hmk)
    by_cases e2 : j + 1 + k = b.size
    · rw [if_pos (by simpa using e2)]
      exact wpS_pure ⟨hG, .inl ⟨_, _, _, _, _, _, _, rfl, hD h2 (by omega)⟩⟩
    · rw [if_neg (by simpa using e2)]
      exact wpS_lo3 ha hb hG hL h2 hi hi1 (by omega) (hF k (by omega) (Nat.le_refl _) (by omega)) (by omega)
  · rw [if_neg h0]
    exact wpS_lo3 ha hb hG hL h1 hi hi1 (by omega) (hF 0 (by omega) (by omega) (by omega)) (by omega)
theorem wpS_lo1 (hk : kindOf st1 = oneType') (ha : Srt a) (hb : Srt b) (ia : Ints a) (ib : Ints b) (hG : Gs st st1)
    (hD : ∀ {o : Array Keyed} {i j : Nat}, Mg a b o i j → b.size ≤ j → Out (a.toList ++ b.toList) (dn o i j).toList)
    (hA : ∀ {o : Array Keyed} {i j : Nat}, Mg a b o i j → a.size ≤ i → Out (a.toList ++ b.toList) (dn o i j).toList)
    (hL : ∀ {o : Array Keyed} {i j : Nat}, Mg a b o i j → i + 1 = a.size → Out (a.toList ++ b.toList) (la o i j).toList)
    {o : Array Keyed} {i j g ca cb B : Nat} (hM : Mg a b o i j) (hi1 : i + 1 < a.size) (hj : j < b.size) (hB : B ≤ i + j) :
    wpS (model prog w) A E s (lo1 a b dn la o i j g ca cb) (LR a b st B) st1 := by
  unfold lo1
  refine wpS_bind (wpS_modify (wpS_bind (wpS_elem hj (wpS_bind (wpS_galR hk (ib _ hj) ia (ha.srtIn _ _) (by omega) (by omega) fun k hk1 hT hF => ?_)))))
  have hG' : Gs st (setG st1 g) := by obtain ⟨g', rfl⟩ := hG; exact ⟨g, rfl⟩
  dsimp only
  by_cases h0 : k > 0
  · rw [if_pos h0]
    have h2 := hM.extA ha hb (k := k) hj hT
    by_cases e1 : i + k + 1 = a.size
    · rw [if_pos (by simpa using e1)]
      exact wpS_pure ⟨hG', .inl ⟨_, _, _, _, _, _, _, rfl, hL h2 e1⟩⟩
    rw [if_neg (by simpa using e1)]
    by_cases e2 : i + k = a.size
    · rw [if_pos (by simpa using e2)]
      exact wpS_pure ⟨hG', .inl ⟨_, _, _, _, _, _, _, rfl, hA h2 (by omega)⟩⟩
    · rw [if_neg (by simpa using e2)]
      exact wpS_lo2 (st1 := setG st1 g) hk ha hb ia ib hG' hD hL h2 (by omega) (by omega) hj (Int.le_of_lt (hF k (by omega) (Nat.le_refl _) (by omega))) (by omega)
  · rw [if_neg h0]
    exact wpS_lo2 (st1 := setG st1 g) hk ha hb ia ib hG' hD hL hM (by omega) hi1 hj (Int.le_of_lt (hF 0 (by omega) (by omega) (by omega))) hB
end
theorem wpS_mgLo {st : SortSt} {a b : Array Keyed} {Q : Array Keyed → SortSt → Prop} (hk : kindOf st = oneType') (ha : Srt a) (hb : Srt b) (ia : Ints a) (ib : Ints b)
    (na : 0 < a.size) (nb : 0 < b.size) (h0 : kp b[0] ≤ kp a[0]) (hl : ∀ m (hm : m < b.size), kp b[m] ≤ kp a[a.size - 1])
    (h : ∀ R st', Gs st st' → Out (a.toList ++ b.toList) R.toList → Q R st') : wpS (model prog w) A E s (mgLo a b) Q st := by
  rw [mgLo_eq]
  refine wpS_bind (wpS_lift (wpAny_rule ⟨rfl, ?_⟩))
  extract_lets tot dn la z0 z1
  refine wpS_bind (wpS_elem nb ?_)
  have hM := Mg.start ha hb na nb h0
  have hB : ∀ {o : Array Keyed} {i j : Nat}, Mg a b o i j → b.size ≤ j → Out (a.toList ++ b.toList) (dn o i j).toList := fun h1 h2 => h1.doneB h2
  have hA : ∀ {o : Array Keyed} {i j : Nat}, Mg a b o i j → a.size ≤ i → Out (a.toList ++ b.toList) (dn o i j).toList := fun h1 h2 => h1.doneA h2
  have hL : ∀ {o : Array Keyed} {i j : Nat}, Mg a b o i j → i + 1 = a.size → Out (a.toList ++ b.toList) (la o i j).toList := fun h1 h2 => h1.last h2 hl
  clear_value dn la
  extract_lets o0
  subst z0 z1 o0 tot
  by_cases e1 : (1 : Nat) = b.size
  · rw [if_pos (by simpa using e1)]
    exact wpS_pure (h _ st ⟨gallopOf st, rfl⟩ (hB hM (by omega)))
  rw [if_neg (by simpa using e1)]
  by_cases e2 : (0 : Nat) + 1 = a.size
  · rw [if_pos (by simpa using e2)]
    exact wpS_pure (h _ st ⟨gallopOf st, rfl⟩ (hL hM e2))
  rw [if_neg (by simpa using e2)]
  refine wpS_bind (wpS_get ?_)
  dsimp only
  refine wpS_bind (wpS_mono (wpS_forRange
    (I := fun x c st' => Gs st st' ∧ ∃ o i j g, c = (none, o, i, j, g) ∧ Mg a b o i j ∧ i + 1 < a.size ∧ j < b.size ∧ x + 1 ≤ i + j)
    (Q := fun c st' => Gs st st' ∧ ∃ R o i j g, c = (some R, o, i, j, g) ∧ Out (a.toList ++ b.toList) R.toList)
    ?gs ?gf ⟨⟨gallopOf st, rfl⟩, _, _, _, _, rfl, hM, by omega, by omega, by omega⟩) ?gp)
  case gf =>
    rintro c st' ⟨_, o, i, j, g, rfl, _, h2, h3, h4⟩
    omega
  case gp =>
    rintro c st' ⟨hG, R, o, i, j, g, rfl, hR⟩
    exact wpS_pure (h _ _ hG hR)
  case gs =>
    rintro x c st1 _ hx ⟨⟨g1, rfl⟩, o1, i1, j1, g, rfl, hM1, hi1, hj1, hx1⟩
    dsimp only
    refine wpS_bind (wpS_mono (wpS_forRange
      (I := fun x c st' => st' = setG st g1 ∧ ∃ o i j ca cb, c = (none, o, i, j, ca, cb) ∧ Mg a b o i j ∧ i + 1 < a.size ∧ j < b.size ∧ i1 + j1 + x ≤ i + j)
      (Q := fun c st' => st' = setG st g1 ∧ ((∃ R o i j ca cb, c = (some R, o, i, j, ca, cb) ∧ Out (a.toList ++ b.toList) R.toList) ∨
        ∃ o i j ca cb, c = (none, o, i, j, ca, cb) ∧ Mg a b o i j ∧ i + 1 < a.size ∧ j < b.size ∧ i1 + j1 + 1 ≤ i + j))
      ?hs ?hf ⟨rfl, _, _, _, _, _, rfl, hM1, hi1, hj1, by omega⟩) ?hp)
    case hf =>
      rintro c st' ⟨rfl, o, i, j, ca, cb, rfl, h1, h2, h3, h4⟩
      exact ⟨rfl, .inr ⟨o, i, j, ca, cb, rfl, h1, h2, h3, by omega⟩⟩
    case hs =>
      rintro y c st' _ hy ⟨rfl, o, i, j, ca, cb, rfl, h1, h2, h3, h4⟩
      have hi : i < a.size := by omega
      dsimp only
      refine wpS_bind (wpS_elem h3 (wpS_bind (wpS_elem hi (wpS_bind (wpS_lt hk (ib _ h3) (ia _ hi) ?_)))))
      dsimp only
      by_cases hlt : kp b[j] < kp a[i]
      · rw [if_pos (by simpa using hlt)]
        have h1' := h1.pushB ha hb hi h3 (Int.le_of_lt hlt)
        refine wpS_bind (wpS_elem h3 ?_)
        by_cases e : j + 1 = b.size
        · rw [if_pos (by simpa using e)]
          exact wpS_pure ⟨rfl, .inl ⟨_, _, _, _, _, _, rfl, hB h1' (by omega)⟩⟩
        · rw [if_neg (by simpa using e)]
          by_cases e' : cb + 1 ≥ g
          · rw [if_pos e']
            exact wpS_pure ⟨rfl, .inr ⟨_, _, _, _, _, rfl, h1', h2, by omega, by omega⟩⟩
          · rw [if_neg e']
            exact wpS_pure ⟨rfl, _, _, _, _, _, rfl, h1', h2, by omega, by omega⟩
      · rw [if_neg (by simpa using hlt)]
        have h1' := h1.pushA ha hb hi h3 (Int.not_lt.mp hlt)
        refine wpS_bind (wpS_elem hi ?_)
        by_cases e : i + 1 + 1 = a.size
        · rw [if_pos (by simpa using e)]
          exact wpS_pure ⟨rfl, .inl ⟨_, _, _, _, _, _, rfl, hL h1' e⟩⟩
        · rw [if_neg (by simpa using e)]
          by_cases e' : ca + 1 ≥ g
          · rw [if_pos e']
            exact wpS_pure ⟨rfl, .inr ⟨_, _, _, _, _, rfl, h1', by omega, h3, by omega⟩⟩
          · rw [if_neg e']
            exact wpS_pure ⟨rfl, _, _, _, _, _, rfl, h1', by omega, h3, by omega⟩
    case hp =>
      rintro c st' ⟨rfl, (⟨R, o, i, j, ca, cb, rfl, hR⟩ | ⟨o, i, j, ca, cb, rfl, h1, h2, h3, h4⟩)⟩
      · exact wpS_pure ⟨⟨g1, rfl⟩, R, o, i, j, g, rfl, hR⟩
      dsimp only
      refine wpS_bind (wpS_lift (wpAny_rule ⟨rfl, ?_⟩))
      refine wpS_bind (wpS_mono (wpS_forRange
        (I := fun y c st' => Gs st st' ∧ ∃ o i j g ca cb, c = (none, o, i, j, g, ca, cb) ∧ Mg a b o i j ∧ i + 1 < a.size ∧ j < b.size ∧ x + 1 + 1 ≤ i + j)
        (Q := fun c st' => Gs st st' ∧ ((∃ R o i j g ca cb, c = (some R, o, i, j, g, ca, cb) ∧ Out (a.toList ++ b.toList) R.toList) ∨
          ∃ o i j g ca cb, c = (none, o, i, j, g, ca, cb) ∧ Mg a b o i j ∧ i + 1 < a.size ∧ j < b.size ∧ x + 1 + 1 ≤ i + j))
        ?ks ?kf ⟨⟨g1, rfl⟩, _, _, _, _, _, _, rfl, h1, h2, h3, by omega⟩) ?kp)
      case kf =>
        rintro c st' ⟨hG, o, i, j, g, ca, cb, rfl, h1, h2, h3, h4⟩
        exact ⟨hG, .inr ⟨o, i, j, g, ca, cb, rfl, h1, h2, h3, h4⟩⟩
      case kp =>
        rintro c st' ⟨⟨g2, rfl⟩, (⟨R, o, i, j, g, ca, cb, rfl, hR⟩ | ⟨o, i, j, g, ca, cb, rfl, h1, h2, h3, h4⟩)⟩
        · exact wpS_pure ⟨⟨g2, rfl⟩, R, o, i, j, g, rfl, hR⟩
        · exact wpS_bind (wpS_modify (wpS_pure ⟨⟨_, rfl⟩, o, i, j, _, rfl, h1, h2, h3, by omega⟩))
      case ks =>
        clear h1 h2 h3 h4
        rintro y c st' _ hy ⟨⟨g2, rfl⟩, o, i, j, g, ca, cb, rfl, h1, h2, h3, h4⟩
        have hi : i < a.size := by omega
        show wpS _ _ _ _ (if g > 1 then lo1 a b dn la o i j (g - 1) ca cb else lo1 a b dn la o i j g ca cb) _ _
        have hX : ∀ g', wpS (model prog w) A E s (lo1 a b dn la o i j g' ca cb) (LR a b st (x + 1 + 1)) (setG st g2) := fun g' =>
          wpS_lo1 (st1 := setG st g2) hk ha hb ia ib ⟨g2, rfl⟩ hB hA hL h1 h2 h3 h4
        split
        · refine wpS_mono (hX _) fun r st' hr => ?_
          cases r <;> exact hr
        · refine wpS_mono (hX _) fun r st' hr => ?_
          cases r <;> exact hr
end
end S0
namespace S0
open PySem PyProof.Rows
structure MH (T U A B : List Keyed) : Prop where
  u : Pw U
  a : Pw A
  b : Pw B
  au : Le2 A U
  bu : Le2 B U
  perm : (A ++ B ++ U).Perm T
theorem Le2.appR {U V W : List Keyed} (h1 : Le2 W U) (h2 : Le2 W V) : Le2 W (U ++ V) := by
  intro x hx y hy
  rcases List.mem_append.mp hy with hy | hy
  · exact h1 x hx y hy
  · exact h2 x hx y hy
theorem MH.takeA {T U A1 A2 B : List Keyed} (h : MH T U (A1 ++ A2) B) (hl : Le2 B A2) : MH T (A2 ++ U) A1 B := by
  have ha := pw_append.mp h.a
  refine ⟨pw_append.mpr ⟨ha.2.1, h.u, fun x hx y hy => h.au x (List.mem_append_right _ hx) y hy⟩, ha.1, h.b, ?_, hl.appR h.bu, ?_⟩
  · exact ha.2.2.appR fun x hx y hy => h.au x (List.mem_append_left _ hx) y hy
  · refine List.Perm.trans ?_ h.perm
    simp only [List.append_assoc]
    refine List.Perm.append_left A1 ?_
    rw [← List.append_assoc, ← List.append_assoc]
    exact List.Perm.append_right U List.perm_append_comm
theorem MH.takeB {T U A B1 B2 : List Keyed} (h : MH T U A (B1 ++ B2)) (hl : Le2 A B2) : MH T (B2 ++ U) A B1 := by
  have hb := pw_append.mp h.b
  refine ⟨pw_append.mpr ⟨hb.2.1, h.u, fun x hx y hy => h.bu x (List.mem_append_right _ hx) y hy⟩, h.a, hb.1, hl.appR h.au, ?_, ?_⟩
  · exact hb.2.2.appR fun x hx y hy => h.bu x (List.mem_append_left _ hx) y hy
  · have := h.perm
    simpa only [List.append_assoc] using this
theorem MH.doneA {T U B : List Keyed} (h : MH T U [] B) : Out T (B ++ U) := ⟨pw_append.mpr ⟨h.b, h.u, h.bu⟩, h.perm⟩
theorem MH.doneB {T U A : List Keyed} (h : MH T U A []) : Out T (A ++ U) := ⟨pw_append.mpr ⟨h.a, h.u, h.au⟩, by simpa using h.perm⟩
theorem MH.first {T U A B : List Keyed} (h : MH T U A B) (hl : Le2 B A) : Out T (B ++ A ++ U) :=
  ⟨pw_append.mpr ⟨pw_append.mpr ⟨h.b, h.a, hl⟩, h.u, h.bu.app h.au⟩, List.Perm.trans (List.Perm.append_right U List.perm_append_comm) h.perm⟩
theorem ext_zero (a : Array Keyed) (n : Nat) : (a.extract 0 n).toList = a.toList.take n := by simp
theorem ext_mid (a : Array Keyed) (i n : Nat) : (a.extract i n).toList = (a.toList.drop i).take (n - i) := by simp
theorem take_snoc (a : Array Keyed) {n : Nat} (h0 : 0 < n) (h : n - 1 < a.size) : a.toList.take n = a.toList.take (n - 1) ++ [a[n - 1]] := by
  obtain ⟨m, rfl⟩ : ∃ m, n = m + 1 := ⟨n - 1, by omega⟩
  have hm : m < a.toList.length := by simpa using h
  rw [List.take_succ_eq_append_getElem hm]; simp
theorem take_split (a : Array Keyed) {i n : Nat} (h : i ≤ n) : a.toList.take n = a.toList.take i ++ (a.toList.drop i).take (n - i) := by
  have e : n = i + (n - i) := by omega
  conv => lhs; rw [e]
  rw [List.take_add]
theorem mem_take0 {a : Array Keyed} {n : Nat} {x : Keyed} (h : x ∈ a.toList.take n) : ∃ m, ∃ hm : m < a.size, m < n ∧ a[m] = x := by
  obtain ⟨m, hm, rfl⟩ := List.mem_iff_getElem.mp h
  simp at hm
  exact ⟨m, by omega, by omega, by simp⟩
theorem mem_mid {a : Array Keyed} {i n : Nat} {x : Keyed} (h : x ∈ (a.toList.drop i).take (n - i)) : ∃ m, ∃ hm : m < a.size, i ≤ m ∧ m < n ∧ a[m] = x := by
  obtain ⟨m, hm, rfl⟩ := List.mem_iff_getElem.mp h
  simp at hm
  exact ⟨i + m, by omega, by omega, by omega, by simp⟩
def Mh (a b o : Array Keyed) (n m : Nat) : Prop := MH (a.toList ++ b.toList) o.toList.reverse (a.toList.take n) (b.toList.take m)
section
variable {a b o : Array Keyed} {n m : Nat}
theorem Mh.pushA (h : Mh a b o n m) (ha : Srt a) (hb : Srt b) (n0 : 0 < n) (m0 : 0 < m) (hn : n - 1 < a.size) (hm : m - 1 < b.size) (hl : kp b[m - 1] ≤ kp a[n - 1]) :
    Mh a b (o.push a[n - 1]) (n - 1) m := by
  unfold Mh at h ⊢
  rw [take_snoc a n0 hn] at h
  rw [Array.toList_push, List.reverse_append]
  refine h.takeA fun x hx y hy => ?_
  rw [List.mem_singleton.mp hy]
  obtain ⟨k, hk, h1, rfl⟩ := mem_take0 hx
  exact Int.le_trans (hb _ _ hk hm (by omega)) hl
theorem Mh.pushB (h : Mh a b o n m) (ha : Srt a) (hb : Srt b) (n0 : 0 < n) (m0 : 0 < m) (hn : n - 1 < a.size) (hm : m - 1 < b.size) (hl : kp a[n - 1] ≤ kp b[m - 1]) :
    Mh a b (o.push b[m - 1]) n (m - 1) := by
  unfold Mh at h ⊢
  rw [take_snoc b m0 hm] at h
  rw [Array.toList_push, List.reverse_append]
  refine h.takeB fun x hx y hy => ?_
  rw [List.mem_singleton.mp hy]
  obtain ⟨k, hk, h1, rfl⟩ := mem_take0 hx
  exact Int.le_trans (ha _ _ hk hn (by omega)) hl
theorem Mh.extA (h : Mh a b o n m) (ha : Srt a) (hb : Srt b) {i : Nat} (hi : i ≤ n) (m0 : 0 < m) (hm : m - 1 < b.size) (hl : ∀ k (hk : k < a.size), i ≤ k → k < n → kp b[m - 1] ≤ kp a[k]) :
    Mh a b (o ++ (a.extract i n).reverse) i m := by
  unfold Mh at h ⊢
  rw [take_split a hi] at h
  rw [Array.toList_append, Array.toList_reverse, ext_mid, List.reverse_append, List.reverse_reverse]
  refine h.takeA fun x hx y hy => ?_
  obtain ⟨k, hk, h1, rfl⟩ := mem_take0 hx
  obtain ⟨k', hk', h2, h3, rfl⟩ := mem_mid hy
  exact Int.le_trans (hb _ _ hk hm (by omega)) (hl k' hk' h2 h3)
theorem Mh.extB (h : Mh a b o n m) (ha : Srt a) (hb : Srt b) {i : Nat} (hi : i ≤ m) (n0 : 0 < n) (hn : n - 1 < a.size) (hl : ∀ k (hk : k < b.size), i ≤ k → k < m → kp a[n - 1] ≤ kp b[k]) :
    Mh a b (o ++ (b.extract i m).reverse) n i := by
  unfold Mh at h ⊢
  rw [take_split b hi] at h
  rw [Array.toList_append, Array.toList_reverse, ext_mid, List.reverse_append, List.reverse_reverse]
  refine h.takeB fun x hx y hy => ?_
  obtain ⟨k, hk, h1, rfl⟩ := mem_take0 hx
  obtain ⟨k', hk', h2, h3, rfl⟩ := mem_mid hy
  exact Int.le_trans (ha _ _ hk hn (by omega)) (hl k' hk' h2 h3)
theorem Mh.doneA (h : Mh a b o n m) (e : n = 0) : Out (a.toList ++ b.toList) (a.extract 0 n ++ b.extract 0 m ++ o.reverse).toList := by
  subst e
  unfold Mh at h
  rw [Array.toList_append, Array.toList_append, ext_zero, ext_zero, Array.toList_reverse]
  exact h.doneA
theorem Mh.doneB (h : Mh a b o n m) (e : m = 0) : Out (a.toList ++ b.toList) (a.extract 0 n ++ b.extract 0 m ++ o.reverse).toList := by
  subst e
  unfold Mh at h
  rw [Array.toList_append, Array.toList_append, ext_zero, ext_zero, Array.toList_reverse]
  rw [List.take_zero, List.append_nil]; exact h.doneB
theorem Mh.first (h : Mh a b o n m) (e : m = 1) (nb : 0 < b.size) (hl : ∀ k (hk : k < a.size), kp b[0] ≤ kp a[k]) :
    Out (a.toList ++ b.toList) (b.extract 0 m ++ a.extract 0 n ++ o.reverse).toList := by
  subst e
  unfold Mh at h
  rw [Array.toList_append, Array.toList_append, ext_zero, ext_zero, Array.toList_reverse]
  refine h.first fun x hx y hy => ?_
  obtain ⟨k, hk, h1, rfl⟩ := mem_take0 hx
  obtain ⟨k', hk', h2, rfl⟩ := mem_take0 hy
  have e : k = 0 := by omega
  subst e; exact hl k' hk'
theorem Mh.start (ha : Srt a) (hb : Srt b) (na : 0 < a.size) (nb : 0 < b.size) (hl : kp b[b.size - 1] ≤ kp a[a.size - 1]) : Mh a b #[a[a.size - 1]] (a.size - 1) b.size := by
  have h : Mh a b #[] a.size b.size := by
    unfold Mh
    rw [List.take_of_length_le (by simp), List.take_of_length_le (by simp)]
    exact ⟨.nil, ha.pw, hb.pw, fun x _ y hy => (nomatch hy), fun x _ y hy => (nomatch hy), by simp⟩
  exact h.pushA ha hb na nb (by omega) (by omega) hl
end
theorem mgHi_eq (a b : Array Keyed) : mgHi a b = (do
  rule "list.sort.merge-hi"
  let tot := a.size + b.size
  let dn (o : Array Keyed) (n m : Nat) := a.extract 0 n ++ b.extract 0 m ++ o.reverse
  let fb (o : Array Keyed) (n m : Nat) := b.extract 0 m ++ a.extract 0 n ++ o.reverse
  let mut n := a.size - 1
  let mut m := b.size
  let mut o : Array Keyed := #[← elem' a n]
  if n == 0 then return dn o n m
  if m == 1 then return fb o n m
  let mut g := gallopOf (← get)
  for _ in [0:tot] do
    let mut ca := 0
    let mut cb := 0
    for _ in [0:tot] do
      let some aw ← lt' (← elem' b (m - 1)) (← elem' a (n - 1)) | return dn o n m
      if aw then
        n := n - 1; o := o.push (← elem' a n); ca := ca + 1; cb := 0
        if n == 0 then return dn o n m
        if ca ≥ g then break
      else
        m := m - 1; o := o.push (← elem' b m); cb := cb + 1; ca := 0
        if m == 1 then return fb o n m
        if cb ≥ g then break
    rule "list.sort.gallop"
    g := g + 1
    for _ in [0:tot] do
      if g > 1 then g := g - 1
      modify (setG · g)
      let some at_ ← gal false (← elem' b (m - 1)) a 0 n (n - 1) | return dn o n m
      let k := n - at_
      ca := k
      if k > 0 then
        o := o ++ (a.extract at_ n).reverse; n := at_
        if n == 0 then return dn o n m
      m := m - 1; o := o.push (← elem' b m)
      if m == 1 then return fb o n m
      let some at_ ← gal true (← elem' a (n - 1)) b 0 m (m - 1) | return dn o n m
      let k := m - at_
      cb := k
      if k > 0 then
        o := o ++ (b.extract at_ m).reverse; m := at_
        if m == 1 then return fb o n m
        if m == 0 then return dn o n m
      n := n - 1; o := o.push (← elem' a n)
      if n == 0 then return dn o n m
      if ca < 7 && cb < 7 then break
    g := g + 1
    modify (setG · g)
  unsupported "internal:list.sort.merge-bound") := rfl
abbrev HiSt := Option (Array Keyed) × Nat × Nat × Array Keyed × Nat × Nat × Nat
section
variable (a b : Array Keyed) (dn fb : Array Keyed → Nat → Nat → Array Keyed)
def hi3 (o : Array Keyed) (n m g ca cb : Nat) : StateT SortSt Sem (ForInStep HiSt) := do
  let x ← elem' a (n - 1)
  if n - 1 == 0 then pure (.done (some (dn (o.push x) (n - 1) m), n - 1, m, o.push x, g, ca, cb))
  else if decide (ca < 7) && decide (cb < 7) then pure (.done (none, n - 1, m, o.push x, g, ca, cb))
  else pure (.yield (none, n - 1, m, o.push x, g, ca, cb))
def hi2 (o : Array Keyed) (n m g ca cb : Nat) : StateT SortSt Sem (ForInStep HiSt) := do
  let x ← elem' b (m - 1)
  if m - 1 == 1 then pure (.done (some (fb (o.push x) n (m - 1)), n, m - 1, o.push x, g, ca, cb))
  else do
    let y ← elem' a (n - 1)
    let z ← gal true y b 0 (m - 1) (m - 1 - 1)
    match z with
    | some k =>
      if m - 1 - k > 0 then
        if k == 1 then
          pure (.done (some (fb (o.push x ++ (b.extract k (m - 1)).reverse) n k), n, k, o.push x ++ (b.extract k (m - 1)).reverse, g, ca, m - 1 - k))
        else if k == 0 then
          pure (.done (some (dn (o.push x ++ (b.extract k (m - 1)).reverse) n k), n, k, o.push x ++ (b.extract k (m - 1)).reverse, g, ca, m - 1 - k))
        else hi3 a dn (o.push x ++ (b.extract k (m - 1)).reverse) n k g ca (m - 1 - k)
      else hi3 a dn (o.push x) n (m - 1) g ca (m - 1 - k)
    | _ => pure (.done (some (dn (o.push x) n (m - 1)), n, m - 1, o.push x, g, ca, cb))
def hi1 (o : Array Keyed) (n m g ca cb : Nat) : StateT SortSt Sem (ForInStep HiSt) := do
  modify (setG · g)
  let x ← elem' b (m - 1)
  let z ← gal false x a 0 n (n - 1)
  match z with
  | some k =>
    if n - k > 0 then
      if k == 0 then
        pure (.done (some (dn (o ++ (a.extract k n).reverse) k m), k, m, o ++ (a.extract k n).reverse, g, n - k, cb))
      else hi2 a b dn fb (o ++ (a.extract k n).reverse) k m g (n - k) cb
    else hi2 a b dn fb o n m g (n - k) cb
  | _ => pure (.done (some (dn o n m), n, m, o, g, ca, cb))
end
def HR (a b : Array Keyed) (st : SortSt) (B : Nat) (r : ForInStep HiSt) (st' : SortSt) : Prop := Gs st st' ∧ match r with
  | .done c => (∃ R o n m g ca cb, c = (some R, n, m, o, g, ca, cb) ∧ Out (a.toList ++ b.toList) R.toList) ∨
      ∃ o n m g ca cb, c = (none, n, m, o, g, ca, cb) ∧ Mh a b o n m ∧ 0 < n ∧ 1 < m ∧ n ≤ a.size ∧ m ≤ b.size ∧ n + m ≤ B
  | .yield c => ∃ o n m g ca cb, c = (none, n, m, o, g, ca, cb) ∧ Mh a b o n m ∧ 0 < n ∧ 1 < m ∧ n ≤ a.size ∧ m ≤ b.size ∧ n + m ≤ B
section
variable {prog : Program} {w : World} {A : Around} {E : Value → Shared → Prop} {s : Shared}
variable {st st1 : SortSt} {a b : Array Keyed} {dn fb : Array Keyed → Nat → Nat → Array Keyed}
theorem wpS_hi3 (ha : Srt a) (hb : Srt b) (hG : Gs st st1)
    (hA : ∀ {o : Array Keyed} {n m : Nat}, Mh a b o n m → n = 0 → Out (a.toList ++ b.toList) (dn o n m).toList)
    {o : Array Keyed} {n m g ca cb B : Nat} (hM : Mh a b o n m) (n0 : 0 < n) (m1 : 1 < m) (na : n ≤ a.size) (nb : m ≤ b.size) (hn : n - 1 < a.size) (hm : m - 1 < b.size)
    (hle : kp b[m - 1] ≤ kp a[n - 1]) (hB : n + m ≤ B) :
    wpS (model prog w) A E s (hi3 a dn o n m g ca cb) (HR a b st B) st1 := by
  unfold hi3
  have h1 := hM.pushA ha hb n0 (by omega) hn hm hle
  refine wpS_bind (wpS_elem hn ?_)
  by_cases e : n - 1 = 0
  · rw [if_pos (by simpa using e)]
    exact wpS_pure ⟨hG, .inl ⟨_, _, _, _, _, _, _, rfl, hA h1 e⟩⟩
  rw [if_neg (by simpa using e)]
  split
  · exact wpS_pure ⟨hG, .inr ⟨_, _, _, _, _, _, rfl, h1, by omega, m1, by omega, nb, by omega⟩⟩
  · exact wpS_pure ⟨hG, _, _, _, _, _, _, rfl, h1, by omega, m1, by omega, nb, by omega⟩
theorem wpS_hi2 (hk : kindOf st1 = oneType') (ha : Srt a) (hb : Srt b) (ia : Ints a) (ib : Ints b) (hG : Gs st st1)
    (hA : ∀ {o : Array Keyed} {n m : Nat}, Mh a b o n m → n = 0 → Out (a.toList ++ b.toList) (dn o n m).toList)
    (hD : ∀ {o : Array Keyed} {n m : Nat}, Mh a b o n m → m = 0 → Out (a.toList ++ b.toList) (dn o n m).toList)
    (hL : ∀ {o : Array Keyed} {n m : Nat}, Mh a b o n m → m = 1 → Out (a.toList ++ b.toList) (fb o n m).toList)
    {o : Array Keyed} {n m g ca cb B : Nat} (hM : Mh a b o n m) (n0 : 0 < n) (m1 : 1 < m) (na : n ≤ a.size) (nb : m ≤ b.size) (hn : n - 1 < a.size) (hm : m - 1 < b.size)
    (hle : kp a[n - 1] ≤ kp b[m - 1]) (hB : n + m ≤ B) :
    wpS (model prog w) A E s (hi2 a b dn fb o n m g ca cb) (HR a b st B) st1 := by
  unfold hi2
  have h1 := hM.pushB ha hb n0 (by omega) hn hm hle
  refine wpS_bind (wpS_elem hm ?_)
  by_cases e : m - 1 = 1
  · rw [if_pos (by simpa using e)]
    exact wpS_pure ⟨hG, .inl ⟨_, _, _, _, _, _, _, rfl, hL h1 e⟩⟩
  rw [if_neg (by simpa using e)]
  refine wpS_bind (wpS_elem hn (wpS_bind (wpS_galL hk (ia _ hn) ib (hb.srtIn _ _) (by omega) (by omega) fun k hk1 hT hF => ?_)))
  simp only [Nat.zero_add] at hT hF
  dsimp only
  by_cases h0 : m - 1 - k > 0
  · rw [if_pos h0]
    have h2 := h1.extB ha hb (i := k) (by omega) n0 hn fun c hc h1 h2 => hF c hc h1 h2
    by_cases e1 : k = 1
    · rw [if_pos (by simpa using e1)]
      exact wpS_pure ⟨hG, .inl ⟨_, _, _, _, _, _, _, rfl, hL h2 e1⟩⟩
    rw [if_neg (by simpa using e1)]
    by_cases e2 : k = 0
    · rw [if_pos (by simpa using e2)]
      exact wpS_pure ⟨hG, .inl ⟨_, _, _, _, _, _, _, rfl, hD h2 e2⟩⟩
    · rw [if_neg (by simpa using e2)]
      exact wpS_hi3 ha hb hG hA h2 n0 (by omega) na (by omega) hn (by omega) (Int.le_of_lt (hT (k - 1) (by omega) (by omega))) (by omega)
  · rw [if_neg h0]
    exact wpS_hi3 ha hb hG hA h1 n0 (by omega) na (by omega) hn (by omega) (Int.le_of_lt (hT (m - 1 - 1) (by omega) (by omega))) (by omega)
theorem wpS_hi1 (hk : kindOf st1 = oneType') (ha : Srt a) (hb : Srt b) (ia : Ints a) (ib : Ints b) (hG : Gs st st1)
    (hA : ∀ {o : Array Keyed} {n m : Nat}, Mh a b o n m → n = 0 → Out (a.toList ++ b.toList) (dn o n m).toList)
    (hD : ∀ {o : Array Keyed} {n m : Nat}, Mh a b o n m → m = 0 → Out (a.toList ++ b.toList) (dn o n m).toList)
    (hL : ∀ {o : Array Keyed} {n m : Nat}, Mh a b o n m → m = 1 → Out (a.toList ++ b.toList) (fb o n m).toList)
    {o : Array Keyed} {n m g ca cb B : Nat} (hM : Mh a b o n m) (n0 : 0 < n) (m1 : 1 < m) (na : n ≤ a.size) (nb : m ≤ b.size) (hB : n + m ≤ B) :
    wpS (model prog w) A E s (hi1 a b dn fb o n m g ca cb) (HR a b st B) st1 := by
  unfold hi1
  have hm : m - 1 < b.size := by omega
  refine wpS_bind (wpS_modify (wpS_bind (wpS_elem hm (wpS_bind (wpS_galR hk (ib _ hm) ia (ha.srtIn _ _) (by omega) (by omega) fun k hk1 hT hF => ?_)))))
  simp only [Nat.zero_add] at hT hF
  have hG' : Gs st (setG st1 g) := by obtain ⟨g', rfl⟩ := hG; exact ⟨g, rfl⟩
  dsimp only
  by_cases h0 : n - k > 0
  · rw [if_pos h0]
    have h2 := hM.extA ha hb (i := k) (by omega) (by omega) hm fun c hc h1 h2 => Int.le_of_lt (hF c hc h1 h2)
    by_cases e1 : k = 0
    · rw [if_pos (by simpa using e1)]
      exact wpS_pure ⟨hG', .inl ⟨_, _, _, _, _, _, _, rfl, hA h2 e1⟩⟩
    · rw [if_neg (by simpa using e1)]
      exact wpS_hi2 (st1 := setG st1 g) hk ha hb ia ib hG' hA hD hL h2 (by omega) m1 (by omega) nb (by omega) hm (hT (k - 1) (by omega) (by omega)) (by omega)
  · rw [if_neg h0]
    exact wpS_hi2 (st1 := setG st1 g) hk ha hb ia ib hG' hA hD hL hM n0 m1 na nb (by omega) hm (hT (n - 1) (by omega) (by omega)) hB
theorem wpS_mgHi {Q : Array Keyed → SortSt → Prop} (hk : kindOf st = oneType') (ha : Srt a) (hb : Srt b) (ia : Ints a) (ib : Ints b)
    (na : 0 < a.size) (nb : 0 < b.size) (h0 : ∀ k (hk : k < a.size), kp b[0] ≤ kp a[k]) (hl : kp b[b.size - 1] ≤ kp a[a.size - 1])
    (h : ∀ R st', Gs st st' → Out (a.toList ++ b.toList) R.toList → Q R st') : wpS (model prog w) A E s (mgHi a b) Q st := by
  rw [mgHi_eq]
  refine wpS_bind (wpS_lift (wpAny_rule ⟨rfl, ?_⟩))
  extract_lets tot dn fb z0 z1
  have hz : a.size - 1 < a.size := by omega
  refine wpS_bind (wpS_elem (i := z0) hz ?_)
  have hM := Mh.start ha hb na nb hl
  have hA : ∀ {o : Array Keyed} {n m : Nat}, Mh a b o n m → n = 0 → Out (a.toList ++ b.toList) (dn o n m).toList := fun h1 e => h1.doneA e
  have hD : ∀ {o : Array Keyed} {n m : Nat}, Mh a b o n m → m = 0 → Out (a.toList ++ b.toList) (dn o n m).toList := fun h1 e => h1.doneB e
  have hL : ∀ {o : Array Keyed} {n m : Nat}, Mh a b o n m → m = 1 → Out (a.toList ++ b.toList) (fb o n m).toList := fun h1 e => h1.first e nb h0
  clear_value dn fb
  extract_lets o0
  subst z0 z1 o0 tot
  by_cases e1 : a.size - 1 = 0
  · rw [if_pos (by simpa using e1)]
    refine wpS_pure (h _ st ⟨gallopOf st, rfl⟩ ?_)
    exact hA hM e1
  rw [if_neg (by simpa using e1)]
  by_cases e2 : b.size = 1
  · rw [if_pos (by simpa using e2)]
    refine wpS_pure (h _ st ⟨gallopOf st, rfl⟩ ?_)
    exact hL hM e2
  rw [if_neg (by simpa using e2)]
  refine wpS_bind (wpS_get ?_)
  dsimp only
  refine wpS_bind (wpS_mono (wpS_forRange
    (I := fun x c st' => Gs st st' ∧ ∃ o n m g, c = (none, n, m, o, g) ∧ Mh a b o n m ∧ 0 < n ∧ 1 < m ∧ n ≤ a.size ∧ m ≤ b.size ∧ n + m + x + 1 ≤ a.size + b.size)
    (Q := fun c st' => Gs st st' ∧ ∃ (R : Array Keyed) (o : Array Keyed) (n m g : Nat), c = (some R, n, m, o, g) ∧ Out (a.toList ++ b.toList) R.toList)
    ?gs ?gf ?gi) ?gp)
  case gi => exact ⟨⟨gallopOf st, rfl⟩, #[a[a.size - 1]], a.size - 1, b.size, _, rfl, hM, by omega, by omega, by omega, by omega, by omega⟩
  case gf =>
    rintro c st' ⟨_, o, i, j, g, rfl, _, h2, h3, h4⟩
    omega
  case gp =>
    rintro c st' ⟨hG, R, o, i, j, g, rfl, hR⟩
    exact wpS_pure (h _ _ hG hR)
  case gs =>
    rintro x c st1 _ hx ⟨⟨g1, rfl⟩, o1, n1, m1, g, rfl, hM1, hn1, hm1, hna, hmb, hx1⟩
    dsimp only
    refine wpS_bind (wpS_mono (wpS_forRange
      (I := fun x c st' => st' = setG st g1 ∧ ∃ o n m ca cb, c = (none, n, m, o, ca, cb) ∧ Mh a b o n m ∧ 0 < n ∧ 1 < m ∧ n ≤ a.size ∧ m ≤ b.size ∧ n + m + x ≤ n1 + m1)
      (Q := fun c st' => st' = setG st g1 ∧ ((∃ R o n m ca cb, c = (some R, n, m, o, ca, cb) ∧ Out (a.toList ++ b.toList) R.toList) ∨
        ∃ o n m ca cb, c = (none, n, m, o, ca, cb) ∧ Mh a b o n m ∧ 0 < n ∧ 1 < m ∧ n ≤ a.size ∧ m ≤ b.size ∧ n + m + 1 ≤ n1 + m1))
      ?hs ?hf ⟨rfl, _, _, _, _, _, rfl, hM1, hn1, hm1, hna, hmb, by omega⟩) ?hp)
    case hf =>
      rintro c st' ⟨rfl, o, i, j, ca, cb, rfl, h1, h2, h3, h4, h5, h6⟩
      exact ⟨rfl, .inr ⟨o, i, j, ca, cb, rfl, h1, h2, h3, h4, h5, by omega⟩⟩
    case hs =>
      rintro y c st' _ hy ⟨rfl, o, n, m, ca, cb, rfl, h1, h2, h3, h4, h5, h6⟩
      have hn : n - 1 < a.size := by omega
      have hm : m - 1 < b.size := by omega
      dsimp only
      refine wpS_bind (wpS_elem hm (wpS_bind (wpS_elem hn (wpS_bind (wpS_lt hk (ib _ hm) (ia _ hn) ?_)))))
      dsimp only
      by_cases hlt : kp b[m - 1] < kp a[n - 1]
      · rw [if_pos (by simpa using hlt)]
        have h1' := h1.pushA ha hb h2 (by omega) hn hm (Int.le_of_lt hlt)
        refine wpS_bind (wpS_elem hn ?_)
        by_cases e : n - 1 = 0
        · rw [if_pos (by simpa using e)]
          exact wpS_pure ⟨rfl, .inl ⟨_, _, _, _, _, _, rfl, hA h1' e⟩⟩
        · rw [if_neg (by simpa using e)]
          by_cases e' : ca + 1 ≥ g
          · rw [if_pos e']
            exact wpS_pure ⟨rfl, .inr ⟨_, _, _, _, _, rfl, h1', by omega, h3, by omega, h5, by omega⟩⟩
          · rw [if_neg e']
            exact wpS_pure ⟨rfl, _, _, _, _, _, rfl, h1', by omega, h3, by omega, h5, by omega⟩
      · rw [if_neg (by simpa using hlt)]
        have h1' := h1.pushB ha hb h2 (by omega) hn hm (Int.not_lt.mp hlt)
        refine wpS_bind (wpS_elem hm ?_)
        by_cases e : m - 1 = 1
        · rw [if_pos (by simpa using e)]
          exact wpS_pure ⟨rfl, .inl ⟨_, _, _, _, _, _, rfl, hL h1' e⟩⟩
        · rw [if_neg (by simpa using e)]
          by_cases e' : cb + 1 ≥ g
          · rw [if_pos e']
            exact wpS_pure ⟨rfl, .inr ⟨_, _, _, _, _, rfl, h1', h2, by omega, h4, by omega, by omega⟩⟩
          · rw [if_neg e']
            exact wpS_pure ⟨rfl, _, _, _, _, _, rfl, h1', h2, by omega, h4, by omega, by omega⟩
    case hp =>
      rintro c st' ⟨rfl, (⟨R, o, i, j, ca, cb, rfl, hR⟩ | ⟨o, n, m, ca, cb, rfl, h1, h2, h3, h4, h5, h6⟩)⟩
      · exact wpS_pure ⟨⟨g1, rfl⟩, R, o, i, j, g, rfl, hR⟩
      dsimp only
      refine wpS_bind (wpS_lift (wpAny_rule ⟨rfl, ?_⟩))
      have hBd : n + m ≤ a.size + b.size - x - 2 := by omega
      refine wpS_bind (wpS_mono (wpS_forRange
        (I := fun y c st' => Gs st st' ∧ ∃ o n m g ca cb, c = (none, n, m, o, g, ca, cb) ∧ Mh a b o n m ∧ 0 < n ∧ 1 < m ∧ n ≤ a.size ∧ m ≤ b.size ∧ n + m ≤ a.size + b.size - x - 2)
        (Q := fun c st' => Gs st st' ∧ ((∃ R o n m g ca cb, c = (some R, n, m, o, g, ca, cb) ∧ Out (a.toList ++ b.toList) R.toList) ∨
          ∃ o n m g ca cb, c = (none, n, m, o, g, ca, cb) ∧ Mh a b o n m ∧ 0 < n ∧ 1 < m ∧ n ≤ a.size ∧ m ≤ b.size ∧ n + m ≤ a.size + b.size - x - 2))
        ?ks ?kf ⟨⟨g1, rfl⟩, _, _, _, _, _, _, rfl, h1, h2, h3, h4, h5, hBd⟩) ?kp)
      case kf =>
        rintro c st' ⟨hG, o, i, j, g, ca, cb, rfl, h1⟩
        exact ⟨hG, .inr ⟨o, i, j, g, ca, cb, rfl, h1⟩⟩
      case kp =>
        rintro c st' ⟨⟨g2, rfl⟩, (⟨R, o, i, j, g, ca, cb, rfl, hR⟩ | ⟨o, i, j, g, ca, cb, rfl, h1, h2, h3, h4, h5, h6⟩)⟩
        · exact wpS_pure ⟨⟨g2, rfl⟩, R, o, i, j, g, rfl, hR⟩
        · exact wpS_bind (wpS_modify (wpS_pure ⟨⟨_, rfl⟩, o, i, j, _, rfl, h1, h2, h3, h4, h5, by omega⟩))
      case ks =>
        clear h1 h2 h3 h4 h5 h6
        rintro y c st' _ hy ⟨⟨g2, rfl⟩, o, n, m, g, ca, cb, rfl, h1, h2, h3, h4, h5, h6⟩
        show wpS _ _ _ _ (if g > 1 then hi1 a b dn fb o n m (g - 1) ca cb else hi1 a b dn fb o n m g ca cb) _ _
        have hX : ∀ g', wpS (model prog w) A E s (hi1 a b dn fb o n m g' ca cb) (HR a b st (a.size + b.size - x - 2)) (setG st g2) := fun g' =>
          wpS_hi1 (st1 := setG st g2) hk ha hb ia ib ⟨g2, rfl⟩ hA hD hL h1 h2 h3 h4 h5 h6
        split
        · refine wpS_mono (hX _) fun r st' hr => ?_
          cases r <;> exact hr
        · refine wpS_mono (hX _) fun r st' hr => ?_
          cases r <;> exact hr
end
end S0
namespace S0
open PySem PyProof.Rows
def SI (xs : Array Keyed) (b n : Nat) : Prop := ∀ i j, b ≤ i → i ≤ j → j < b + n → K xs i ≤ K xs j
def NI (xs : Array Keyed) (b n : Nat) : Prop := ∀ i j, b ≤ i → i ≤ j → j < b + n → K xs j ≤ K xs i
def Bef (st st' : SortSt) (lo : Nat) : Prop := pendingOf st' = pendingOf st ∧ ∀ i, i < lo → K (arrOf st') i = K (arrOf st) i
theorem Bef.refl (st : SortSt) (lo : Nat) : Bef st st lo := ⟨rfl, fun _ _ => rfl⟩
theorem Bef.trans {st st' st'' : SortSt} {lo : Nat} (h : Bef st st' lo) (h' : Bef st' st'' lo) : Bef st st'' lo :=
  ⟨h'.1.trans h.1, fun i hi => (h'.2 i hi).trans (h.2 i hi)⟩
theorem SI.one (xs : Array Keyed) (b : Nat) : SI xs b 1 := fun i j h1 h2 h3 => by
  have e : i = j := by omega
  subst e; exact Int.le_refl _
theorem NI.one (xs : Array Keyed) (b : Nat) : NI xs b 1 := fun i j h1 h2 h3 => by
  have e : i = j := by omega
  subst e; exact Int.le_refl _
theorem SI.snoc {xs : Array Keyed} {b n : Nat} (h : SI xs b n) (h1 : 1 ≤ n) (hl : K xs (b + n - 1) ≤ K xs (b + n)) : SI xs b (n + 1) := by
  intro i j hi hij hj
  by_cases e : j < b + n
  · exact h i j hi hij e
  · have ej : j = b + n := by omega
    subst ej
    by_cases e2 : i = b + n
    · subst e2; exact Int.le_refl _
    · exact Int.le_trans (h i (b + n - 1) hi (by omega) (by omega)) hl
theorem NI.snoc {xs : Array Keyed} {b n : Nat} (h : NI xs b n) (h1 : 1 ≤ n) (hl : K xs (b + n) ≤ K xs (b + n - 1)) : NI xs b (n + 1) := by
  intro i j hi hij hj
  by_cases e : j < b + n
  · exact h i j hi hij e
  · have ej : j = b + n := by omega
    subst ej
    by_cases e2 : i = b + n
    · subst e2; exact Int.le_refl _
    · exact Int.le_trans hl (h i (b + n - 1) hi (by omega) (by omega))
theorem NI.congr {xs ys : Array Keyed} {b n : Nat} (h : NI xs b n) (e : ∀ k, K ys k = K xs k) : NI ys b n := fun i j h1 h2 h3 => by
  rw [e, e]; exact h i j h1 h2 h3
theorem NI.turned {xs : Array Keyed} {b n : Nat} (h : NI xs b n) (hs : b + n ≤ xs.size) : SI (mirror xs b (b + n) ((b + n - b) / 2)) b n := by
  intro i j h1 h2 h3
  rw [K_mirror hs, K_mirror hs, if_pos (by omega), if_pos (by omega)]
  exact h _ _ (by omega) (by omega) (by omega)
abbrev Asc := Option (Option Nat) × Nat
abbrev Dsc := Option (Option Nat) × Nat × Nat
def ascA (lo a nr : Nat) : StateT SortSt Sem Asc := forIn [a:nr] ((none, a) : Asc) fun _ c => do
  match ← ltAt' (lo + c.snd) (lo + c.snd - 1) with
  | some sm => if sm = true then pure (.done (none, c.snd)) else pure (.yield (none, c.snd + 1))
  | _ => pure (.done (some none, c.snd))
def tlA (lo n nr : Nat) : StateT SortSt Sem (Option Nat) := do
  reverseSlice' lo (lo + n)
  let c ← ascA lo n nr
  match c.fst with
  | some r => pure r
  | none => pure (some c.snd)
def dscA (lo n nr : Nat) : StateT SortSt Sem Dsc := forIn [n:nr] ((none, n, 0) : Dsc) fun _ c => do
  match ← ltAt' (lo + c.snd.fst) (lo + c.snd.fst - 1) with
  | some sm =>
    if sm = true then
      if c.snd.snd > 0 then do
        reverseSlice' (lo + c.snd.fst - (c.snd.snd + 1)) (lo + c.snd.fst)
        pure (.yield (none, c.snd.fst + 1, 0))
      else pure (.yield (none, c.snd.fst + 1, 0))
    else do
      match ← ltAt' (lo + c.snd.fst - 1) (lo + c.snd.fst) with
      | some la =>
        if la = true then pure (.done (none, c.snd.fst, c.snd.snd))
        else pure (.yield (none, c.snd.fst + 1, c.snd.snd + 1))
      | _ => pure (.done (some none, c.snd.fst, c.snd.snd))
  | _ => pure (.done (some none, c.snd.fst, c.snd.snd))
def dpA (lo n nr : Nat) : StateT SortSt Sem (Option Nat) := do
  liftM (rule "list.sort.descending-run")
  let c ← dscA lo (n + 1) nr
  match c.fst with
  | some r => pure r
  | none =>
    if c.snd.snd > 0 then do
      reverseSlice' (lo + c.snd.fst - (c.snd.snd + 1)) (lo + c.snd.fst)
      tlA lo c.snd.fst nr
    else tlA lo c.snd.fst nr
theorem cnt_eq (lo nr : Nat) : countRun' lo nr = (do
    let c ← ascA lo 1 nr
    match c.fst with
    | some r => pure r
    | none => if (c.snd == nr) = true then pure (some c.snd) else if c.snd > 1 then (do
      match ← ltAt' lo (lo + c.snd - 1) with
      | some ro => if ro = true then pure (some c.snd) else do
          reverseSlice' lo (lo + c.snd)
          dpA lo c.snd nr
      | _ => pure none) else dpA lo c.snd nr) := by
  rw [countRun'_eq]
  unfold dpA tlA dscA ascA
  dsimp only
  congr 1
  funext c
  obtain ⟨r, n⟩ := c
  cases r with
  | some r => rfl
  | none =>
    dsimp only
    split
    · rfl
    · split
      · congr 1
        funext x
        cases x with
        | none => rfl
        | some ro =>
          dsimp only
          split
          · rfl
          · congr 1
            funext u
            congr 1; funext v; congr 1; congr 1; funext c; obtain ⟨r, n2, q⟩ := c
            cases r with
            | some r => rfl
            | none =>
              dsimp only
              split
              · congr 1; funext v; congr 1; funext v; congr 1; funext c; obtain ⟨r, n3⟩ := c; cases r <;> rfl
              · congr 1; funext v; congr 1; funext c; obtain ⟨r, n3⟩ := c; cases r <;> rfl
      · congr 1; funext v; congr 1; congr 1; funext c; obtain ⟨r, n2, q⟩ := c
        cases r with
        | some r => rfl
        | none =>
          dsimp only
          split
          · congr 1; funext v; congr 1; funext v; congr 1; funext c; obtain ⟨r, n3⟩ := c; cases r <;> rfl
          · congr 1; funext v; congr 1; funext c; obtain ⟨r, n3⟩ := c; cases r <;> rfl
section
variable {prog : Program} {w : World} {A : Around} {E : Value → Shared → Prop} {s : Shared} {a₀ : Array Keyed}
theorem SB.size {st : SortSt} (h : SB a₀ st) : (arrOf st).size = a₀.size := h.perm.size_eq
theorem SB.arr {st : SortSt} (h : SB a₀ st) {xs : Array Keyed} (hp : xs.Perm (arrOf st)) : SB a₀ (setArr st xs) := ⟨hp.trans h.perm, h.kind, h.failed⟩
theorem SB.ints {st : SortSt} (h : SB a₀ st) (h0 : Ints a₀) : Ints (arrOf st) := by
  intro i hi
  have hm : (arrOf st)[i] ∈ a₀.toList := (Array.perm_iff_toList_perm.mp h.perm).mem_iff.mp (by simp)
  obtain ⟨j, hj, e⟩ := List.mem_iff_getElem.mp hm
  rw [← e]; simpa using h0 j (by simpa using hj)
theorem K_at {xs : Array Keyed} {i : Nat} (h : i < xs.size) : K xs i = kp xs[i] := by
  unfold K; rw [getElem?_pos xs i h]
theorem wpS_ltI {st : SortSt} {i j : Nat} {Q : Option Bool → SortSt → Prop} (hB : SB a₀ st) (h0 : Ints a₀) (hi : i < a₀.size) (hj : j < a₀.size)
    (h : Q (some (decide (K (arrOf st) i < K (arrOf st) j))) st) : wpS (model prog w) A E s (ltAt' i j) Q st := by
  have hi' : i < (arrOf st).size := by rw [hB.size]; exact hi
  have hj' : j < (arrOf st).size := by rw [hB.size]; exact hj
  rw [ltAt'_eq]
  refine wpS_bind (wpS_get (wpS_bind (wpS_elem hi' (wpS_bind (wpS_elem hj' (wpS_lt hB.kind (hB.ints h0 _ hi') (hB.ints h0 _ hj') ?_))))))
  rw [K_at hi', K_at hj'] at h
  exact h
theorem wpS_ascA {st : SortSt} {lo a nr : Nat} {Q : Asc → SortSt → Prop} (h0 : Ints a₀) (hn : lo + nr ≤ a₀.size) (ha : 1 ≤ a) (han : a ≤ nr) (hB : SB a₀ st) (hs : SI (arrOf st) lo a)
    (h : ∀ n, a ≤ n → n ≤ nr → SI (arrOf st) lo n → (n = nr ∨ K (arrOf st) (lo + n) < K (arrOf st) (lo + n - 1)) → Q (none, n) st) :
    wpS (model prog w) A E s (ascA lo a nr) Q st := by
  unfold ascA
  refine wpS_forRange (I := fun x c st' => st' = st ∧ c = (none, x) ∧ SI (arrOf st) lo x) ?ps ?pf ⟨rfl, rfl, hs⟩
  case pf =>
    rintro c st' ⟨rfl, rfl, hs'⟩
    have e : max a nr = nr := by omega
    rw [e] at hs' ⊢
    exact h nr han (Nat.le_refl _) hs' (.inl rfl)
  case ps =>
    rintro x c st' hax hxn ⟨rfl, rfl, hs'⟩
    refine wpS_bind (wpS_ltI hB h0 (by dsimp only; omega) (by dsimp only; omega) ?_)
    dsimp only
    by_cases hl : K (arrOf st') (lo + x) < K (arrOf st') (lo + x - 1)
    · rw [if_pos (by simpa using hl)]
      exact wpS_pure (h x hax (by omega) hs' (.inr hl))
    · rw [if_neg (by simpa using hl)]
      exact wpS_pure ⟨rfl, rfl, hs'.snoc (by omega) (Int.not_lt.mp hl)⟩
theorem wpS_rev {st : SortSt} {i j : Nat} {Q : Unit → SortSt → Prop} (h : Q () (setArr st (mirror (arrOf st) i j ((j - i) / 2)))) :
    wpS (model prog w) A E s (reverseSlice' i j) Q st := by
  rw [reverseSlice'_eq]; exact wpS_modify h
theorem wpS_tlA {st : SortSt} {lo n nr : Nat} {Q : Option Nat → SortSt → Prop} (h0 : Ints a₀) (hn : lo + nr ≤ a₀.size) (h1 : 1 ≤ n) (hnn : n ≤ nr) (hB : SB a₀ st)
    (hs : NI (arrOf st) lo n) (h : ∀ m st', SB a₀ st' → 1 ≤ m → m ≤ nr → Bef st st' lo → SI (arrOf st') lo m → Q (some m) st') :
    wpS (model prog w) A E s (tlA lo n nr) Q st := by
  unfold tlA
  have hsz : lo + n ≤ (arrOf st).size := by rw [hB.size]; omega
  refine wpS_bind (wpS_rev ?_)
  have hB' : SB a₀ (setArr st (mirror (arrOf st) lo (lo + n) ((lo + n - lo) / 2))) := hB.arr (mirror_perm _ _ _ _)
  refine wpS_bind (wpS_ascA h0 hn h1 hnn hB' (hs.turned hsz) fun m hm1 hm2 hsm _ => wpS_pure (h m _ hB' (by omega) hm2 ⟨rfl, fun i hi => ?_⟩ hsm))
  show K (mirror (arrOf st) lo (lo + n) ((lo + n - lo) / 2)) i = _
  rw [K_mirror hsz, if_neg (by omega)]
theorem wpS_dscA {st : SortSt} {lo n nr : Nat} {Q : Dsc → SortSt → Prop} (h0 : Ints a₀) (hn : lo + nr ≤ a₀.size) (h1 : 1 ≤ n) (hnn : n ≤ nr) (hB : SB a₀ st)
    (hs : NI (arrOf st) lo n)
    (h : ∀ m q st', SB a₀ st' → n ≤ m → m ≤ nr → Bef st st' lo → NI (arrOf st') lo m → q + 1 ≤ m →
      (∀ i, lo + m - (q + 1) ≤ i → i < lo + m → K (arrOf st') i = K (arrOf st') (lo + m - 1)) → Q (none, m, q) st') :
    wpS (model prog w) A E s (dscA lo n nr) Q st := by
  unfold dscA
  refine wpS_forRange (I := fun x c st' => ∃ q, c = (none, x, q) ∧ SB a₀ st' ∧ Bef st st' lo ∧ NI (arrOf st') lo x ∧ q + 1 ≤ x ∧
      (∀ i, lo + x - (q + 1) ≤ i → i < lo + x → K (arrOf st') i = K (arrOf st') (lo + x - 1))) ?ps ?pf ⟨0, rfl, hB, Bef.refl _ _, hs, by omega, fun i h1 h2 => by congr 1; omega⟩
  case pf =>
    rintro c st' ⟨q, rfl, hB', hF, hs', hq, he⟩
    have e : max n nr = nr := by omega
    rw [e] at hs' hq he ⊢
    exact h nr q st' hB' hnn (Nat.le_refl _) hF hs' hq he
  case ps =>
    rintro x c st' hax hxn ⟨q, rfl, hB', hF, hs', hq, he⟩
    have hsz : lo + x ≤ (arrOf st').size := by rw [hB'.size]; omega
    refine wpS_bind (wpS_ltI hB' h0 (by dsimp only; omega) (by dsimp only; omega) ?_)
    dsimp only
    by_cases hl : K (arrOf st') (lo + x) < K (arrOf st') (lo + x - 1)
    · rw [if_pos (by simpa using hl)]
      have hs2 := hs'.snoc (by omega) (Int.le_of_lt hl)
      by_cases hq0 : q > 0
      · rw [if_pos hq0]
        have hm := K_mirror_equal hsz he
        refine wpS_bind (wpS_rev (wpS_pure ⟨0, rfl, hB'.arr (mirror_perm _ _ _ _), hF.trans ⟨rfl, fun i _ => hm i⟩, hs2.congr hm, by omega, fun i h1 h2 => by congr 1; omega⟩))
      · rw [if_neg hq0]
        exact wpS_pure ⟨0, rfl, hB', hF, hs2, by omega, fun i h1 h2 => by congr 1; omega⟩
    · rw [if_neg (by simpa using hl)]
      refine wpS_bind (wpS_ltI hB' h0 (by omega) (by omega) ?_)
      dsimp only
      by_cases hg : K (arrOf st') (lo + x - 1) < K (arrOf st') (lo + x)
      · rw [if_pos (by simpa using hg)]
        exact wpS_pure (h x q st' hB' hax (by omega) hF hs' hq he)
      · rw [if_neg (by simpa using hg)]
        have hx : K (arrOf st') (lo + x) = K (arrOf st') (lo + x - 1) := by omega
        refine wpS_pure ⟨q + 1, rfl, hB', hF, hs'.snoc (by omega) (by omega), by omega, fun i h1 h2 => ?_⟩
        rw [show lo + (x + 1) - 1 = lo + x by omega]
        by_cases hix : i = lo + x
        · subst hix; rfl
        · rw [hx]; exact he i (by omega) (by omega)
theorem wpS_dpA {st : SortSt} {lo n nr : Nat} {Q : Option Nat → SortSt → Prop} (h0 : Ints a₀) (hn : lo + nr ≤ a₀.size) (hnn : n + 1 ≤ nr) (hB : SB a₀ st)
    (hs : NI (arrOf st) lo (n + 1)) (h : ∀ m st', SB a₀ st' → 1 ≤ m → m ≤ nr → Bef st st' lo → SI (arrOf st') lo m → Q (some m) st') :
    wpS (model prog w) A E s (dpA lo n nr) Q st := by
  unfold dpA
  refine wpS_bind (wpS_lift (wpAny_rule ⟨rfl, ?_⟩))
  refine wpS_bind (wpS_dscA h0 hn (by omega) hnn hB hs fun m q st' hB' hm1 hm2 hF hs' hq he => ?_)
  dsimp only
  have hsz : lo + m ≤ (arrOf st').size := by rw [hB'.size]; omega
  by_cases hq0 : q > 0
  · rw [if_pos hq0]
    have hm := K_mirror_equal hsz he
    have hb1 : Bef st' (setArr st' (mirror (arrOf st') (lo + m - (q + 1)) (lo + m) ((lo + m - (lo + m - (q + 1))) / 2))) lo := ⟨rfl, fun i _ => hm i⟩
    exact wpS_bind (wpS_rev (wpS_tlA h0 hn (by omega) hm2 (hB'.arr (mirror_perm _ _ _ _)) (hs'.congr hm) fun k st2 b1 b2 b3 b4 b5 =>
      h k st2 b1 b2 b3 (hF.trans (hb1.trans b4)) b5))
  · rw [if_neg hq0]
    exact wpS_tlA h0 hn (by omega) hm2 hB' hs' fun k st2 b1 b2 b3 b4 b5 => h k st2 b1 b2 b3 (hF.trans b4) b5
theorem wpS_cnt {st : SortSt} {lo nr : Nat} {Q : Option Nat → SortSt → Prop} (h0 : Ints a₀) (hn : lo + nr ≤ a₀.size) (h1 : 1 ≤ nr) (hB : SB a₀ st)
    (h : ∀ m st', SB a₀ st' → 1 ≤ m → m ≤ nr → Bef st st' lo → SI (arrOf st') lo m → Q (some m) st') :
    wpS (model prog w) A E s (countRun' lo nr) Q st := by
  rw [cnt_eq]
  refine wpS_bind (wpS_ascA h0 hn (Nat.le_refl 1) h1 hB (SI.one _ _) fun n hn1 hn2 hsn hor => ?_)
  dsimp only
  by_cases hnn : n = nr
  · rw [if_pos (by simpa using hnn)]
    exact wpS_pure (h n st hB hn1 hn2 (Bef.refl _ _) hsn)
  · rw [if_neg (by simpa using hnn)]
    have hlt := hor.resolve_left hnn
    by_cases hgt : n > 1
    · rw [if_pos hgt]
      refine wpS_bind (wpS_ltI hB h0 (by omega) (by omega) ?_)
      dsimp only
      by_cases hro : K (arrOf st) lo < K (arrOf st) (lo + n - 1)
      · rw [if_pos (by simpa using hro)]
        exact wpS_pure (h n st hB hn1 hn2 (Bef.refl _ _) hsn)
      · rw [if_neg (by simpa using hro)]
        have hsz : lo + n ≤ (arrOf st).size := by rw [hB.size]; omega
        have hall : ∀ k, lo ≤ k → k < lo + n → K (arrOf st) k = K (arrOf st) (lo + n - 1) := by
          intro k hk1 hk2
          have a1 := hsn lo k (by omega) hk1 hk2
          have a2 := hsn k (lo + n - 1) hk1 (by omega) (by omega)
          omega
        have hm := K_mirror_equal hsz hall
        have hb1 : Bef st (setArr st (mirror (arrOf st) lo (lo + n) ((lo + n - lo) / 2))) lo := ⟨rfl, fun i _ => hm i⟩
        refine wpS_bind (wpS_rev (wpS_dpA h0 hn (by omega) (hB.arr (mirror_perm _ _ _ _)) (NI.congr ?_ hm) fun k st2 b1 b2 b3 b4 b5 =>
          h k st2 b1 b2 b3 (hb1.trans b4) b5))
        refine NI.snoc (fun i j b1 b2 b3 => ?_) (by omega) (Int.le_of_lt hlt)
        rw [hall i (by omega) (by omega), hall j (by omega) (by omega)]; exact Int.le_refl _
    · rw [if_neg hgt]
      have e : n = 1 := by omega
      subst e
      exact wpS_dpA h0 hn (by omega) hB ((NI.one _ _).snoc (Nat.le_refl _) (Int.le_of_lt hlt)) h
theorem wpS_bin {st : SortSt} {lo n ok : Nat} {Q : Bool → SortSt → Prop} (h0 : Ints a₀) (hn : lo + n ≤ a₀.size) (hok : ok ≤ n) (ok1 : 1 ≤ ok) (hB : SB a₀ st) (hs : SI (arrOf st) lo ok)
    (h : ∀ st', SB a₀ st' → Bef st st' lo → SI (arrOf st') lo n → Q true st') : wpS (model prog w) A E s (binarySort' lo n ok) Q st := by
  rw [binarySort'_eq]
  refine wpS_bind (wpS_mono (wpS_forRange (I := fun k c st' => c = (none, ()) ∧ SB a₀ st' ∧ Bef st st' lo ∧ SI (arrOf st') lo k)
    (Q := fun c st' => c = (none, ()) ∧ SB a₀ st' ∧ Bef st st' lo ∧ SI (arrOf st') lo n) ?ps ?pf ?pi) ?pp)
  case pp =>
    rintro c st' ⟨rfl, hB', hF, hs'⟩
    exact wpS_pure (h st' hB' hF hs')
  case pi =>
    rw [show max ok 1 = ok by omega]
    exact ⟨rfl, hB, Bef.refl _ _, hs⟩
  case pf =>
    rintro c st' ⟨hc, hB', hF, hs'⟩
    rw [show max (max ok 1) n = n by omega] at hs'
    exact ⟨hc, hB', hF, hs'⟩
  case ps =>
    rintro k c st' hak hkn ⟨rfl, hB', hF, hs'⟩
    have hk : lo + k < a₀.size := by omega
    refine wpS_bind (wpS_mono (wpS_forRange (I := fun x c st'' => st'' = st' ∧ ∃ l r, c = (none, l, r) ∧ l ≤ r ∧ r ≤ k ∧ r - l ≤ k - x ∧
        (∀ i, i < l → K (arrOf st') (lo + i) ≤ K (arrOf st') (lo + k)) ∧ (∀ i, r ≤ i → i < k → K (arrOf st') (lo + k) < K (arrOf st') (lo + i)))
      (Q := fun c st'' => st'' = st' ∧ ∃ l r, c = (none, l, r) ∧ l ≤ k ∧
        (∀ i, i < l → K (arrOf st') (lo + i) ≤ K (arrOf st') (lo + k)) ∧ (∀ i, l ≤ i → i < k → K (arrOf st') (lo + k) < K (arrOf st') (lo + i))) ?qs ?qf ?qi) ?qp)
    case qi => exact ⟨rfl, 0, k, rfl, by omega, by omega, by omega, fun i hi => by omega, fun i b1 b2 => by omega⟩
    case qf =>
      rintro c st'' ⟨rfl, l, r, rfl, b1, b2, b3, b4, b5⟩
      have e : l = r := by omega
      subst e
      exact ⟨rfl, l, l, rfl, b2, b4, b5⟩
    case qs =>
      rintro x c st'' _ hxk ⟨rfl, l, r, rfl, b1, b2, b3, b4, b5⟩
      dsimp only
      by_cases hg : l ≥ r
      · rw [if_pos hg]
        have e : l = r := by omega
        subst e
        exact wpS_pure ⟨rfl, l, l, rfl, b2, b4, b5⟩
      · rw [if_neg hg]
        refine wpS_bind (wpS_ltI hB' h0 hk (by omega) ?_)
        dsimp only
        by_cases hl : K (arrOf st'') (lo + k) < K (arrOf st'') (lo + (l + r) / 2)
        · rw [if_pos (by simpa using hl)]
          exact wpS_pure ⟨rfl, l, (l + r) / 2, rfl, by omega, by omega, by omega, b4, fun i c1 c2 =>
            Int.lt_of_lt_of_le hl (hs' _ _ (by omega) (by omega) (by omega))⟩
        · rw [if_neg (by simpa using hl)]
          exact wpS_pure ⟨rfl, (l + r) / 2 + 1, r, rfl, by omega, by omega, by omega, fun i c1 =>
            Int.le_trans (hs' (lo + i) (lo + (l + r) / 2) (by omega) (by omega) (by omega)) (Int.not_lt.mp hl), b5⟩
    case qp =>
      rintro c st'' ⟨rfl, l, r, rfl, b2, b4, b5⟩
      show wpS _ _ _ _ (do moveDown' (lo + k) (lo + l); pure (ForInStep.yield (none, ()))) _ _
      rw [moveDown'_eq]
      have hks : lo + k < (arrOf st'').size := by rw [hB'.size]; exact hk
      have hKb := fun i => K_bubble hks (show lo + k - (lo + l) ≤ lo + k by omega) i
      rw [show lo + k - (lo + k - (lo + l)) = lo + l by omega] at hKb
      refine wpS_bind (wpS_modify (wpS_pure ⟨rfl, hB'.arr (bubble_perm _ _ _), hF.trans ⟨rfl, fun i hi => ?_⟩, ?_⟩))
      · show K (bubble (arrOf st'') (lo + k) (lo + k - (lo + l))) i = _
        rw [hKb, if_neg (by omega), if_neg (by omega)]
      · intro i j c1 c2 c3
        show K (bubble (arrOf st'') (lo + k) (lo + k - (lo + l))) i ≤ K (bubble (arrOf st'') (lo + k) (lo + k - (lo + l))) j
        obtain ⟨i, rfl⟩ : ∃ i', i = lo + i' := ⟨i - lo, by omega⟩
        obtain ⟨j, rfl⟩ : ∃ j', j = lo + j' := ⟨j - lo, by omega⟩
        rw [hKb, hKb]
        have d4 := fun m hm => b4 m hm
        repeat' split
        all_goals first
          | (exfalso; omega)
          | exact Int.le_refl _
          | exact b4 _ (by omega)
          | (rw [show lo + j - 1 = lo + (j - 1) by omega]; exact Int.le_of_lt (b5 _ (by omega) (by omega)))
          | exact Int.le_of_lt (b5 _ (by omega) (by omega))
          | exact hs' _ _ (by omega) (by omega) (by omega)
end
end S0
namespace S0
open PySem PyProof.Rows
def wr (xs : Array Keyed) (b : Nat) (l : List Keyed) (n : Nat) : Array Keyed := (l.zipIdx n).foldl (fun a (p, j) => a.setIfInBounds (b + j) p) xs
theorem wr_get (b : Nat) : ∀ (l : List Keyed) (n : Nat) (xs : Array Keyed), b + n + l.length ≤ xs.size → ∀ i,
    (wr xs b l n)[i]? = if b + n ≤ i ∧ i < b + n + l.length then l[i - (b + n)]? else xs[i]?
  | [], n, xs, _, i => by
    rw [if_neg (by simp only [List.length_nil]; omega)]; rfl
  | x :: l, n, xs, h, i => by
    show (wr (xs.setIfInBounds (b + n) x) b l (n + 1))[i]? = _
    simp only [List.length_cons] at h
    rw [wr_get b l (n + 1) _ (by rw [Array.size_setIfInBounds]; omega) i]
    simp only [List.length_cons]
    by_cases e : i = b + n
    · subst e
      rw [if_neg (by omega), if_pos (by omega), Array.getElem?_setIfInBounds, if_pos rfl, if_pos (by omega), Nat.sub_self]; rfl
    · by_cases e2 : b + (n + 1) ≤ i ∧ i < b + (n + 1) + l.length
      · rw [if_pos e2, if_pos (by omega), show i - (b + n) = (i - (b + (n + 1))) + 1 by omega]; rfl
      · rw [if_neg e2, if_neg (by omega), Array.getElem?_setIfInBounds, if_neg (by omega)]
theorem wr_list {xs : Array Keyed} {b : Nat} {l : List Keyed} (h : b + l.length ≤ xs.size) :
    (wr xs b l 0).toList = xs.toList.take b ++ (l ++ xs.toList.drop (b + l.length)) := by
  apply List.ext_getElem?
  intro i
  rw [Array.getElem?_toList, wr_get b l 0 xs (by omega) i, Nat.add_zero]
  have hb : (xs.toList.take b).length = b := by simp; omega
  by_cases e : i < b
  · rw [if_neg (by omega), List.getElem?_append_left (by omega), List.getElem?_take, if_pos e, Array.getElem?_toList]
  · rw [List.getElem?_append_right (by omega), hb]
    by_cases e2 : i < b + l.length
    · rw [if_pos (by omega), List.getElem?_append_left (by omega)]
    · rw [if_neg (by omega), List.getElem?_append_right (by omega), List.getElem?_drop, Array.getElem?_toList]
      congr 1; omega
theorem wr_perm {xs : Array Keyed} {b : Nat} {l : List Keyed} (h : b + l.length ≤ xs.size) (hp : l.Perm ((xs.toList.drop b).take l.length)) : (wr xs b l 0).Perm xs := by
  rw [Array.perm_iff_toList_perm, wr_list h]
  have e : xs.toList = xs.toList.take b ++ ((xs.toList.drop b).take l.length ++ xs.toList.drop (b + l.length)) := by
    rw [← List.drop_drop, List.take_append_drop, List.take_append_drop]
  conv => rhs; rw [e]
  exact List.Perm.append_left _ (List.Perm.append_right _ hp)
theorem seg_app (xs : Array Keyed) {i j k : Nat} (h1 : i ≤ j) (h2 : j ≤ k) : (xs.extract i j).toList ++ (xs.extract j k).toList = (xs.toList.drop i).take (k - i) := by
  rw [ext_mid, ext_mid]
  have e : xs.toList.drop j = (xs.toList.drop i).drop (j - i) := by rw [List.drop_drop]; congr 1; omega
  rw [e, show k - i = (j - i) + (k - j) by omega, List.take_add]
theorem mem_ext {xs : Array Keyed} {i j : Nat} {p : Keyed} (h : p ∈ (xs.toList.drop i).take (j - i)) : ∃ m, i ≤ m ∧ m < j ∧ kp p = K xs m := by
  obtain ⟨m, hm, b1, b2, e⟩ := mem_mid h
  exact ⟨m, b1, b2, by rw [K_at hm, e]⟩
theorem ext_get {xs : Array Keyed} {i j m : Nat} (h : m < (xs.extract i j).size) : kp (xs.extract i j)[m] = K xs (i + m) := by
  have h1 : i + m < xs.size := by simp at h; omega
  rw [K_at h1, Array.getElem_extract]
theorem SI.ext {xs : Array Keyed} {b n i j : Nat} (h : SI xs b n) (h1 : b ≤ i) (h2 : j ≤ b + n) : Srt (xs.extract i j) := by
  intro p q hp hq hpq
  rw [ext_get, ext_get]
  have : i + q < j := by simp at hq; omega
  exact h _ _ (by omega) (by omega) (by omega)
theorem Ints.ext {xs : Array Keyed} (h : Ints xs) (i j : Nat) : Ints (xs.extract i j) := by
  intro m hm
  rw [Array.getElem_extract]; exact h _ _
theorem SI.srtIn {xs : Array Keyed} {b n : Nat} (h : SI xs b n) : SrtIn xs b n := fun i j hi hj b1 b2 b3 => by
  rw [← K_at hi, ← K_at hj]; exact h i j b1 b2 b3
theorem merged_si {xs : Array Keyed} {R : Array Keyed} {sa na nb k nb' : Nat} (hk : k < na) (hn : nb' ≤ nb) (hnb : 0 < nb) (hsz : sa + na + nb ≤ xs.size)
    (s1 : SI xs sa na) (s2 : SI xs (sa + na) nb) (f1 : ∀ m, m < k → K xs (sa + m) ≤ K xs (sa + na)) (f2 : ∀ m, nb' ≤ m → m < nb → K xs (sa + na - 1) ≤ K xs (sa + na + m))
    (hR : Out ((xs.toList.drop (sa + k)).take (sa + na + nb' - (sa + k))) R.toList) :
    SI (wr xs (sa + k) R.toList 0) sa (na + nb) ∧ (∀ j, (j < sa ∨ sa + na + nb ≤ j) → K (wr xs (sa + k) R.toList 0) j = K xs j) ∧ (wr xs (sa + k) R.toList 0).Perm xs := by
  have hlen : R.toList.length = na + nb' - k := by
    rw [hR.2.length_eq]; simp; omega
  have hsz' : sa + k + R.toList.length ≤ xs.size := by omega
  have hK : ∀ j, K (wr xs (sa + k) R.toList 0) j = if sa + k ≤ j ∧ j < sa + na + nb' then K R (j - (sa + k)) else K xs j := by
    intro j
    have e := wr_get (sa + k) R.toList 0 xs (by omega) j
    rw [Nat.add_zero, hlen] at e
    by_cases c : sa + k ≤ j ∧ j < sa + na + nb'
    · rw [if_pos c]; rw [if_pos (by omega)] at e
      exact K_congr (e.trans (Array.getElem?_toList ..))
    · rw [if_neg c]; rw [if_neg (by omega)] at e
      exact K_congr e
  have hRm : ∀ j, j < na + nb' - k → ∃ m, sa + k ≤ m ∧ m < sa + na + nb' ∧ K R j = K xs m := by
    intro j hj
    have hj' : j < R.size := by rw [← Array.length_toList]; omega
    have : R[j] ∈ R.toList := by simp
    obtain ⟨m, b1, b2, b3⟩ := mem_ext (hR.2.mem_iff.mp this)
    exact ⟨m, b1, b2, by rw [K_at hj', b3]⟩
  refine ⟨?_, ?_, wr_perm hsz' ?_⟩
  · intro i j c1 c2 c3
    rw [hK, hK]
    by_cases d1 : sa + k ≤ i ∧ i < sa + na + nb'
    · rw [if_pos d1]
      by_cases d2 : sa + k ≤ j ∧ j < sa + na + nb'
      · rw [if_pos d2]
        have hi' : i - (sa + k) < R.size := by rw [← Array.length_toList]; omega
        have hj' : j - (sa + k) < R.size := by rw [← Array.length_toList]; omega
        rw [K_at hi', K_at hj']
        by_cases e : i = j
        · subst e; exact Int.le_refl _
        · have := List.pairwise_iff_getElem.mp hR.1 (i - (sa + k)) (j - (sa + k)) (by simpa using hi') (by simpa using hj') (by omega)
          simpa using this
      · rw [if_neg d2]
        obtain ⟨m, b1, b2, b3⟩ := hRm (i - (sa + k)) (by omega)
        rw [b3]
        by_cases e : m < sa + na
        · refine Int.le_trans (s1 m (sa + na - 1) (by omega) (by omega) (by omega)) ?_
          have := f2 (j - (sa + na)) (by omega) (by omega)
          rwa [show sa + na + (j - (sa + na)) = j by omega] at this
        · exact s2 m j (by omega) (by omega) (by omega)
    · rw [if_neg d1]
      by_cases d2 : sa + k ≤ j ∧ j < sa + na + nb'
      · rw [if_pos d2]
        obtain ⟨m, b1, b2, b3⟩ := hRm (j - (sa + k)) (by omega)
        rw [b3]
        by_cases e : m < sa + na
        · exact s1 i m (by omega) (by omega) (by omega)
        · have := f1 (i - sa) (by omega)
          rw [show sa + (i - sa) = i by omega] at this
          exact Int.le_trans this (s2 (sa + na) m (by omega) (by omega) (by omega))
      · rw [if_neg d2]
        by_cases e1 : j < sa + na
        · exact s1 i j (by omega) (by omega) (by omega)
        · by_cases e2 : sa + na ≤ i
          · exact s2 i j (by omega) (by omega) (by omega)
          · have := f1 (i - sa) (by omega)
            rw [show sa + (i - sa) = i by omega] at this
            exact Int.le_trans this (s2 (sa + na) j (by omega) (by omega) (by omega))
  · intro j hj
    rw [hK, if_neg (by omega)]
  · rw [hlen]
    have := hR.2
    rwa [show sa + na + nb' - (sa + k) = na + nb' - k by omega] at this
theorem mgAt_eq (i : Nat) : mergeAt' i = (do
  let s ← get
  let (some (sa, na, pw), some (sb, nb, _)) := ((pendingOf s)[i]?, (pendingOf s)[i + 1]?) | unsupported "internal:list.sort.pending"
  set (setPending s (((pendingOf s).setIfInBounds i (sa, na + nb, pw)).eraseIdxIfInBounds (i + 1)))
  let some k ← gal false (← elem' (arrOf s) sb) (arrOf s) sa na 0 | return false
  let (sa, na) := (sa + k, na - k)
  if na == 0 then return true
  let some nb ← gal true (← elem' (arrOf s) (sa + na - 1)) (arrOf s) sb nb (nb - 1) | return false
  if nb == 0 then return true
  let x := (arrOf s).extract sa sb
  let y := (arrOf s).extract sb (sb + nb)
  let mg ← if na ≤ nb then mgLo x y else mgHi x y
  modify fun s => setArr s (wr (arrOf s) sa mg.toList 0)
  return (failedOf (← get)).isNone) := rfl
section
variable {prog : Program} {w : World} {A : Around} {E : Value → Shared → Prop} {s : Shared} {a₀ : Array Keyed}
theorem wpS_set {σ : Type} {M : Model} {st st' : σ} {Q : PUnit → σ → Prop} (h : Q ⟨⟩ st') : wpS M A E s (set st' : StateT σ Sem PUnit) Q st := by
  unfold wpS; rw [StateT.run_set]; exact wpAny_pure ⟨rfl, h⟩
theorem wpS_mgAt {st : SortSt} {i sa na sb nb pw pw' : Nat} {Q : Bool → SortSt → Prop} (h0 : Ints a₀) (hB : SB a₀ st)
    (e1 : (pendingOf st)[i]? = some (sa, na, pw)) (e2 : (pendingOf st)[i + 1]? = some (sb, nb, pw')) (hsb : sb = sa + na) (n1 : 0 < na) (n2 : 0 < nb) (hsz : sb + nb ≤ a₀.size)
    (s1 : SI (arrOf st) sa na) (s2 : SI (arrOf st) sb nb)
    (h : ∀ st', SB a₀ st' → pendingOf st' = ((pendingOf st).setIfInBounds i (sa, na + nb, pw)).eraseIdxIfInBounds (i + 1) → SI (arrOf st') sa (na + nb) →
      (∀ j, (j < sa ∨ sa + na + nb ≤ j) → K (arrOf st') j = K (arrOf st) j) → Q true st') : wpS (model prog w) A E s (mergeAt' i) Q st := by
  subst hsb
  rw [mgAt_eq]
  refine wpS_bind (wpS_get ?_)
  rw [e1, e2]
  dsimp only
  have hsz' : sa + na + nb ≤ (arrOf st).size := by rw [hB.size]; exact hsz
  have hI := hB.ints h0
  have hx : sa + na < (arrOf st).size := by omega
  refine wpS_bind (wpS_set (wpS_bind (wpS_elem hx (wpS_bind (wpS_galR hB.kind (hI _ hx) hI s1.srtIn (by omega) n1 fun k hk1 hT hF => ?_)))))
  have fT : ∀ m, m < k → K (arrOf st) (sa + m) ≤ K (arrOf st) (sa + na) := by
    intro m hm
    have hm' : sa + m < (arrOf st).size := by omega
    rw [K_at hm', K_at hx]; exact hT m hm' hm
  dsimp only
  have whole : (∀ m, m < na → K (arrOf st) (sa + m) ≤ K (arrOf st) (sa + na)) → SI (arrOf st) sa (na + nb) := by
    intro hh p q c1 c2 c3
    by_cases d1 : q < sa + na
    · exact s1 p q c1 c2 d1
    · by_cases d2 : sa + na ≤ p
      · exact s2 p q d2 c2 (by omega)
      · have := hh (p - sa) (by omega)
        rw [show sa + (p - sa) = p by omega] at this
        exact Int.le_trans this (s2 (sa + na) q (by omega) (by omega) (by omega))
  by_cases c0 : na - k = 0
  · rw [if_pos (by simpa using c0)]
    exact wpS_pure (h _ ⟨hB.perm, hB.kind, hB.failed⟩ rfl (whole fun m hm => fT m (by omega)) fun _ _ => rfl)
  rw [if_neg (by simpa using c0)]
  have hkn : k < na := by omega
  have hF0 : K (arrOf st) (sa + na) < K (arrOf st) (sa + k) := by
    have hm' : sa + k < (arrOf st).size := by omega
    rw [K_at hm', K_at hx]; exact hF k hm' (Nat.le_refl _) hkn
  have e3 : sa + k + (na - k) - 1 = sa + na - 1 := by omega
  rw [e3]
  have hy : sa + na - 1 < (arrOf st).size := by omega
  refine wpS_bind (wpS_elem hy (wpS_bind (wpS_galL hB.kind (hI _ hy) hI s2.srtIn (by omega) (by omega) fun b hb1 hT2 hF2 => ?_)))
  have fF : ∀ m, b ≤ m → m < nb → K (arrOf st) (sa + na - 1) ≤ K (arrOf st) (sa + na + m) := by
    intro m hm1 hm2
    have hm' : sa + na + m < (arrOf st).size := by omega
    rw [K_at hm', K_at hy]; exact hF2 m hm' hm1 hm2
  have fL : ∀ m, m < b → K (arrOf st) (sa + na + m) ≤ K (arrOf st) (sa + na - 1) := by
    intro m hm1
    have hm' : sa + na + m < (arrOf st).size := by omega
    rw [K_at hm', K_at hy]; exact Int.le_of_lt (hT2 m hm' hm1)
  dsimp only
  by_cases c1 : b = 0
  · rw [if_pos (by simpa using c1)]
    refine wpS_pure (h _ ⟨hB.perm, hB.kind, hB.failed⟩ rfl (whole fun m hm => ?_) fun _ _ => rfl)
    have := fF 0 (by omega) n2
    exact Int.le_trans (s1 _ _ (by omega) (by omega) (by omega)) this
  rw [if_neg (by simpa using c1)]
  have szx : ((arrOf st).extract (sa + k) (sa + na)).size = na - k := by simp; omega
  have szy : ((arrOf st).extract (sa + na) (sa + na + b)).size = b := by simp; omega
  have hLo : ∀ m, m < na - k → K (arrOf st) (sa + na) ≤ K (arrOf st) (sa + k + m) := fun m hm =>
    Int.le_trans (Int.le_of_lt hF0) (s1 _ _ (by omega) (by omega) (by omega))
  have post : ∀ (R : Array Keyed) (st' : SortSt), Gs (setPending st (((pendingOf st).setIfInBounds i (sa, na + nb, pw)).eraseIdxIfInBounds (i + 1))) st' →
      Out (((arrOf st).extract (sa + k) (sa + na)).toList ++ ((arrOf st).extract (sa + na) (sa + na + b)).toList) R.toList →
      wpS (model prog w) A E s (do
        modify fun s => setArr s (wr (arrOf s) (sa + k) R.toList 0)
        return (failedOf (← get)).isNone) Q st' := by
    rintro R st' ⟨g, rfl⟩ hR
    rw [seg_app _ (by omega) (by omega)] at hR
    obtain ⟨d1, d2, d3⟩ := merged_si hkn hb1 n2 hsz' s1 s2 fT fF hR
    refine wpS_bind (wpS_modify (wpS_bind (wpS_get (wpS_pure ?_))))
    have ef : (failedOf st).isNone = true := by rw [hB.failed]; rfl
    show Q (failedOf st).isNone _
    rw [ef]
    exact h _ ⟨d3.trans hB.perm, hB.kind, hB.failed⟩ rfl d1 d2
  split
  · refine wpS_bind (wpS_mgLo hB.kind (s1.ext (by omega) (by omega)) (s2.ext (by omega) (by omega)) (hI.ext _ _) (hI.ext _ _) (by omega) (by omega) ?_ ?_ post)
    · rw [ext_get, ext_get]; exact Int.le_of_lt hF0
    · intro m hm
      rw [ext_get, ext_get, szx, show sa + k + (na - k - 1) = sa + na - 1 by omega]
      exact fL m (by omega)
  · refine wpS_bind (wpS_mgHi hB.kind (s1.ext (by omega) (by omega)) (s2.ext (by omega) (by omega)) (hI.ext _ _) (hI.ext _ _) (by omega) (by omega) ?_ ?_ post)
    · intro m hm
      rw [ext_get, ext_get]; exact hLo m (by omega)
    · rw [ext_get, ext_get, szx, szy, show sa + k + (na - k - 1) = sa + na - 1 by omega]
      exact fL _ (by omega)
end
end S0
namespace S0
open PySem PyProof.Rows
def Ch (xs : Array Keyed) : Nat → List (Nat × Nat × Nat) → Nat → Prop
  | b, [], e => b = e
  | b, r :: l, e => r.1 = b ∧ 0 < r.2.1 ∧ SI xs b r.2.1 ∧ Ch xs (b + r.2.1) l e
theorem Ch.app {xs : Array Keyed} : ∀ {l : List (Nat × Nat × Nat)} {b e : Nat} {l' : List (Nat × Nat × Nat)}, Ch xs b (l ++ l') e ↔ ∃ m, Ch xs b l m ∧ Ch xs m l' e
  | [], b, e, l' => ⟨fun h => ⟨b, rfl, h⟩, fun ⟨m, h1, h2⟩ => by cases h1; exact h2⟩
  | r :: l, b, e, l' => by
    show (r.1 = b ∧ 0 < r.2.1 ∧ SI xs b r.2.1 ∧ Ch xs (b + r.2.1) (l ++ l') e) ↔ _
    rw [Ch.app]
    constructor
    · rintro ⟨h1, h2, h3, m, h4, h5⟩; exact ⟨m, ⟨h1, h2, h3, h4⟩, h5⟩
    · rintro ⟨m, ⟨h1, h2, h3, h4⟩, h5⟩; exact ⟨h1, h2, h3, m, h4, h5⟩
theorem Ch.le {xs : Array Keyed} : ∀ {l : List (Nat × Nat × Nat)} {b e : Nat}, Ch xs b l e → b + l.length ≤ e
  | [], b, e, h => by cases h; simp
  | r :: l, b, e, h => by
    obtain ⟨h1, h2, h3, h4⟩ := h
    have := h4.le
    simp only [List.length_cons]; omega
theorem SI.same {xs ys : Array Keyed} {b n : Nat} (h : SI xs b n) (e : ∀ i, b ≤ i → i < b + n → K ys i = K xs i) : SI ys b n := fun i j h1 h2 h3 => by
  rw [e i h1 (by omega), e j (by omega) h3]; exact h i j h1 h2 h3
theorem Ch.same {xs ys : Array Keyed} : ∀ {l : List (Nat × Nat × Nat)} {b e : Nat}, Ch xs b l e → (∀ i, b ≤ i → i < e → K ys i = K xs i) → Ch ys b l e
  | [], b, e, h, _ => h
  | r :: l, b, e, h, he => by
    obtain ⟨h1, h2, h3, h4⟩ := h
    have := h4.le
    exact ⟨h1, h2, h3.same fun i c1 c2 => he i c1 (by omega), h4.same fun i c1 c2 => he i (by omega) c2⟩
section
variable {prog : Program} {w : World} {A : Around} {E : Value → Shared → Prop} {s : Shared} {a₀ : Array Keyed}
theorem wpS_mgL {st : SortSt} {i lo : Nat} {l : List (Nat × Nat × Nat)} {Q : Bool → SortSt → Prop} (h0 : Ints a₀) (hB : SB a₀ st) (hp : (pendingOf st).toList = l) (hC : Ch (arrOf st) 0 l lo)
    (hlo : lo ≤ a₀.size) (hi : i + 1 < l.length)
    (h : ∀ st' l', SB a₀ st' → (pendingOf st').toList = l' → l'.length + 1 = l.length → Ch (arrOf st') 0 l' lo → (∀ j, lo ≤ j → K (arrOf st') j = K (arrOf st) j) → Q true st') :
    wpS (model prog w) A E s (mergeAt' i) Q st := by
  subst hp
  obtain ⟨l1, r1, r2, l3, el, hl1⟩ : ∃ l1 r1 r2 l3, (pendingOf st).toList = l1 ++ r1 :: r2 :: l3 ∧ l1.length = i := by
    refine ⟨(pendingOf st).toList.take i, (pendingOf st).toList[i], (pendingOf st).toList[i + 1], (pendingOf st).toList.drop (i + 2), ?_, by simp; simp at hi; omega⟩
    conv => lhs; rw [← List.take_append_drop i (pendingOf st).toList]
    rw [List.drop_eq_getElem_cons (by omega), List.drop_eq_getElem_cons (by omega)]
  obtain ⟨sa, na, pw⟩ := r1
  obtain ⟨sb, nb, pw'⟩ := r2
  rw [el] at hC
  obtain ⟨m, hC1, ⟨c1, c2, c3, c4, c5, c6, c7⟩⟩ := Ch.app.mp hC
  dsimp only at c1 c2 c3 c4 c5 c6 c7
  subst c1
  have hle := c7.le
  subst hl1
  have e1 : (pendingOf st)[l1.length]? = some (sa, na, pw) := by
    rw [← Array.getElem?_toList, el, List.getElem?_append_right (Nat.le_refl _), Nat.sub_self]; rfl
  have e2 : (pendingOf st)[l1.length + 1]? = some (sb, nb, pw') := by
    rw [← Array.getElem?_toList, el, List.getElem?_append_right (by omega), show l1.length + 1 - l1.length = 1 by omega]; rfl
  refine wpS_mgAt h0 hB e1 e2 c4 c2 c5 (by omega) c3 (by rw [c4]; exact c6) fun st' b1 b2 b3 b4 => ?_
  have el' : (pendingOf st').toList = l1 ++ (sa, na + nb, pw) :: l3 := by
    rw [b2, Array.toList_eraseIdxIfInBounds, Array.toList_setIfInBounds, el, List.set_append_right _ _ (Nat.le_refl _), Nat.sub_self, List.set_cons_zero, List.eraseIdx_append_of_length_le (by omega), show l1.length + 1 - l1.length = 1 by omega]
    rfl
  refine h st' _ b1 el' (by rw [el]; simp; omega) (Ch.app.mpr ⟨sa, hC1.same fun j _ hj => b4 j (.inl hj), rfl, by dsimp only; omega, b3, ?_⟩) fun j hj => b4 j (.inr (by omega))
  dsimp only
  rw [show sa + (na + nb) = sa + na + nb by omega]
  exact c7.same fun j h1 _ => b4 j (.inr h1)
structure Rn (a₀ : Array Keyed) (st : SortSt) (lo : Nat) : Prop where
  base : SB a₀ st
  ch : Ch (arrOf st) 0 (pendingOf st).toList lo
theorem Ch.pow {xs : Array Keyed} (q : Nat) : ∀ {l : List (Nat × Nat × Nat)} {b e : Nat} (i : Nat), Ch xs b l e → Ch xs b (l.modify i fun x => (x.fst, x.2.fst, q)) e
  | [], b, e, i, h => by rw [List.modify_nil]; exact h
  | r :: l, b, e, 0, h => by rw [List.modify_zero_cons]; exact h
  | r :: l, b, e, i + 1, h => by
    rw [List.modify_succ_cons]
    obtain ⟨h1, h2, h3, h4⟩ := h
    exact ⟨h1, h2, h3, h4.pow q i⟩
theorem wpS_runs {st : SortSt} {Q : Unit → SortSt → Prop} (h0 : Ints a₀) (hB : SB a₀ st) (hp : pendingOf st = #[]) (h2 : 2 ≤ a₀.size)
    (h : ∀ st', (arrOf st').Perm a₀ → failedOf st' = none → SI (arrOf st') 0 a₀.size → Q () st') : wpS (model prog w) A E s sortRuns' Q st := by
  rw [sortRuns'_eq]
  refine wpS_bind (wpS_get ?_)
  dsimp only
  simp only [hB.size]
  generalize minRun' a₀.size a₀.size 0 = mr
  refine wpS_bind (wpS_mono (wpS_forRange
    (I := fun x c st' => ∃ lo, c = (none, lo) ∧ Rn a₀ st' lo ∧ lo ≤ a₀.size ∧ x ≤ lo)
    (Q := fun c st' => c = (none, a₀.size) ∧ Rn a₀ st' a₀.size) ?ps ?pf ⟨0, rfl, ⟨hB, by rw [hp]; rfl⟩, by omega, by omega⟩) ?pp)
  case pf =>
    rintro c st' ⟨lo, rfl, hR, c1, c2⟩
    have e : lo = a₀.size := by omega
    subst e; exact ⟨rfl, hR⟩
  case ps =>
    rintro x c st' _ hx ⟨lo, rfl, hR, c1, c2⟩
    dsimp only
    by_cases hg : lo ≥ a₀.size
    · rw [if_pos hg]
      have e : lo = a₀.size := by omega
      subst e; exact wpS_pure ⟨rfl, hR⟩
    rw [if_neg hg]
    refine wpS_bind (wpS_cnt h0 (by omega) (by omega) hR.base fun m st2 hB2 hm1 hm2 hF hs2 => ?_)
    dsimp only
    have hC2 : Ch (arrOf st2) 0 (pendingOf st2).toList lo := by rw [hF.1]; exact hR.ch.same fun i _ hi => hF.2 i hi
    have tail : ∀ (n : Nat) (st3 : SortSt), SB a₀ st3 → Ch (arrOf st3) 0 (pendingOf st3).toList lo → 1 ≤ n → lo + n ≤ a₀.size → SI (arrOf st3) lo n →
        ∃ lo', (none, lo + n) = ((none, lo') : Option PUnit × Nat) ∧ Rn a₀ (setPending st3 ((pendingOf st3).push (lo, n, 0))) lo' ∧ lo' ≤ a₀.size ∧ x + 1 ≤ lo' := by
      intro n st3 b1 b2 b3 b4 b5
      refine ⟨lo + n, rfl, ⟨⟨b1.perm, b1.kind, b1.failed⟩, ?_⟩, b4, by omega⟩
      show Ch (arrOf st3) 0 ((pendingOf st3).push (lo, n, 0)).toList (lo + n)
      rw [Array.toList_push]
      exact Ch.app.mpr ⟨lo, b2, rfl, b3, b5, rfl⟩
    have fin : ∀ (n : Nat), 1 ≤ n → lo + n ≤ a₀.size → ∀ st3 : SortSt, SB a₀ st3 → Ch (arrOf st3) 0 (pendingOf st3).toList lo → SI (arrOf st3) lo n →
        wpS (model prog w) A E s (do
          modify fun s => setPending s ((pendingOf s).push (lo, n, 0))
          pure (ForInStep.yield ((none, lo + n) : Option PUnit × Nat))) (fun r st' => match r with
            | .done c' => c' = (none, a₀.size) ∧ Rn a₀ st' a₀.size
            | .yield c' => ∃ lo', c' = (none, lo') ∧ Rn a₀ st' lo' ∧ lo' ≤ a₀.size ∧ x + 1 ≤ lo') st3 := fun n b1 b2 st3 b3 b4 b5 =>
      wpS_bind (wpS_modify (wpS_pure (tail n st3 b3 b4 b1 b2 b5)))
    by_cases hlt : m < mr
    case' pos =>
      rw [if_pos hlt]
      refine wpS_bind (wpS_lift (wpAny_rule ⟨rfl, ?_⟩))
      refine wpS_bind (wpS_bin h0 (by omega) (by omega) hm1 hB2 hs2 fun st3 hB3 hF3 hs3 => ?_)
      have hC3 : Ch (arrOf st3) 0 (pendingOf st3).toList lo := by rw [hF3.1]; exact hC2.same fun i _ hi => hF3.2 i hi
      have hn1 : 1 ≤ min (a₀.size - lo) mr := by omega
      have hn2 : lo + min (a₀.size - lo) mr ≤ a₀.size := by omega
      revert hn1 hn2 hs3
      generalize min (a₀.size - lo) mr = n
      intro hs3 hn1 hn2
      simp only [Bool.not_true, Bool.false_eq_true, if_false]
    case' neg =>
      rw [if_neg hlt]
      have hn2 : lo + m ≤ a₀.size := by omega
      generalize m = n at *
      generalize st2 = st3 at *
      have hn1 := hm1
      have hs3 := hs2
      have hB3 := hB2
      have hC3 := hC2
    all_goals
      refine wpS_bind (wpS_get ?_)
      cases hb : (pendingOf st3).back? with
      | none => exact fin n hn1 hn2 st3 hB3 hC3 hs3
      | some r =>
        obtain ⟨s1, n1, p1⟩ := r
        dsimp only
        generalize power' a₀.size (2 * s1 + n1) (2 * s1 + n1 + n1 + n) a₀.size = q
        refine wpS_bind (wpS_mono (wpS_forRange (I := fun x c st' => c = (none, ()) ∧ SB a₀ st' ∧ Ch (arrOf st') 0 (pendingOf st').toList lo ∧ SI (arrOf st') lo n)
          (Q := fun c st' => c = (none, ()) ∧ SB a₀ st' ∧ Ch (arrOf st') 0 (pendingOf st').toList lo ∧ SI (arrOf st') lo n) ?rs (fun c st' hh => hh) ⟨rfl, hB3, hC3, hs3⟩) ?rp)
        case rp =>
          rintro c st' ⟨rfl, b1, b2, b3⟩
          refine wpS_bind (wpS_modify (fin n hn1 hn2 _ ⟨b1.perm, b1.kind, b1.failed⟩ ?_ b3))
          show Ch (arrOf st') 0 ((pendingOf st').modify ((pendingOf st').size - 1) fun x => (x.fst, x.2.fst, q)).toList lo
          rw [Array.toList_modify]
          exact b2.pow q _
        case rs =>
          rintro x c st' _ hx ⟨rfl, b1, b2, b3⟩
          refine wpS_bind (wpS_get ?_)
          by_cases h1 : (pendingOf st').size > 1
          · rw [if_pos h1]
            have h2 : (pendingOf st').size - 2 < (pendingOf st').size := by omega
            rw [getElem?_pos (pendingOf st') _ h2]
            dsimp only
            split
            · exact wpS_pure ⟨rfl, b1, b2, b3⟩
            · refine wpS_bind (wpS_mgL h0 b1 rfl b2 (by omega) (by rw [Array.length_toList]; omega) fun st3 l' d1 d2 d3 d4 d5 => ?_)
              simp only [Bool.not_true, Bool.false_eq_true, if_false]
              exact wpS_pure ⟨rfl, d1, by rw [d2]; exact d4, b3.same fun i hi _ => d5 i hi⟩
          · rw [if_neg h1]
            exact wpS_pure ⟨rfl, b1, b2, b3⟩
  case pp =>
    rintro c st' ⟨rfl, hR⟩
    dsimp only
    refine wpS_bind (wpS_mono (wpS_forRange (I := fun x c st' => c = (none, ()) ∧ Rn a₀ st' a₀.size ∧ ((pendingOf st').size ≤ 1 ∨ (pendingOf st').size + x ≤ a₀.size))
      (Q := fun c st' => c = (none, ()) ∧ Rn a₀ st' a₀.size ∧ (pendingOf st').size ≤ 1) ?qs ?qf ?qi) ?qp)
    case qi =>
      have := hR.ch.le
      exact ⟨rfl, hR, .inr (by rw [← Array.length_toList]; omega)⟩
    case qf =>
      rintro c st2 ⟨rfl, hR2, hc⟩
      refine ⟨rfl, hR2, ?_⟩
      omega
    case qp =>
      rintro c st2 ⟨rfl, hR2, hc⟩
      refine wpS_pure (h st2 hR2.base.perm hR2.base.failed ?_)
      have hC := hR2.ch
      rw [← Array.length_toList] at hc
      match hl : (pendingOf st2).toList, hC, hc with
      | [], hC, _ =>
        have : (0 : Nat) = a₀.size := hC
        omega
      | [r], hC, _ =>
        obtain ⟨b1, b2, b3, b4⟩ := hC
        have e : 0 + r.2.1 = a₀.size := b4
        rw [Nat.zero_add] at e
        rw [e] at b3; exact b3
      | _ :: _ :: _, _, hc => simp at hc
    case qs =>
      rintro x c st2 _ hx ⟨rfl, hR2, hc⟩
      refine wpS_bind (wpS_get ?_)
      by_cases hg : (pendingOf st2).size ≤ 1
      · rw [if_pos hg]; exact wpS_pure ⟨rfl, hR2, hg⟩
      rw [if_neg hg]
      have hi' : ∀ (c : Prop) [Decidable c], (if c then (pendingOf st2).size - 2 - 1 else (pendingOf st2).size - 2) + 1 < (pendingOf st2).toList.length := by
        intro c _
        rw [Array.length_toList]
        split <;> omega
      refine wpS_bind (wpS_mgL h0 hR2.base rfl hR2.ch (Nat.le_refl _) (hi' _) fun st3 l' b1 b2 b3 b4 b5 => ?_)
      simp only [Bool.not_true, Bool.false_eq_true, if_false]
      refine wpS_pure ⟨rfl, ⟨b1, by rw [b2]; exact b4⟩, ?_⟩
      rw [← b2, Array.length_toList, Array.length_toList] at b3
      omega
end
end S0
namespace S0
open PySem PyProof.Rows
theorem ints_pairs {vs : List Value} {ns : List Int} (hI : IntsAre vs ns) : Ints (pairsOf vs) := by
  intro i hi
  have hm : (pairsOf vs)[i] ∈ (pairsOf vs).toList := by simp
  rw [pairsOf_toList] at hm
  exact hI.all _ (mem_zip_self hm).2
section
variable {prog : Program} {w : World} {A : Around} {E : Value → Shared → Prop} {s : Shared}
theorem sort_ints {a : Addr} {vs : List Value} {ns : List Int} {n : Nat} {P : Fin → Shared → Prop} (ho : s.heap.get? a = some (seqObj "list" vs.toArray n))
    (hI : IntsAre vs ns) (hz : vs.length ≤ sizeLine)
    (h : ∀ (out : Array Value) (ns' : List Int), IntsAre out.toList ns' → ns'.Perm ns → ns'.Pairwise (· ≤ ·) → P (.done (.ret .none)) { s with heap := sortedHeap s.heap a vs out }) :
    wpAny (model prog w) A (Builtin.«list.sort» ⟨[.ref a], []⟩) P E s := by
  by_cases h64 : vs.length < 64
  · exact list_sort_tree ho hI h64 h
  rw [list_sort_plain]
  have ha : a < s.heap.objs.size := Heap.lt_size ho
  have hza : vs.toArray.size ≤ sizeLine := by simpa using hz
  refine wpAny_bind (listItems_at ho rfl (wpAny_bind (listUpdate_at ho rfl ?_ hza (by simp))))
  obtain ⟨e1, g1⟩ : ∃ e1, (s.heap.update a (Obj.mapSeq fun _ => #[])).get? a = some (seqObj "list" #[] e1) := ⟨_, get?_update_seq ho (fun _ => #[])⟩
  refine wpAny_bind (seqEpoch_at g1 rfl (wpAny_bind (wpAny_newTuple (wpAny_bind (wpAny_newList (wpAny_holding ?_))))))
  have g6 : (((s.heap.update a (Obj.mapSeq fun _ => #[])).push (seqObj "tuple" vs.toArray 0)).push (seqObj "list" #[] 0)).get? a = some (seqObj "list" #[] e1) :=
    Heap.get?_push_of_some _ (Heap.get?_push_of_some _ g1)
  show wpAny (model prog w) A _ P E { s with heap := ((s.heap.update a (Obj.mapSeq fun _ => #[])).push (seqObj "tuple" vs.toArray 0)).push (seqObj "list" #[] 0) }
  dsimp only
  have h2 : ¬ vs.toArray.size < 2 := by simp; omega
  rw [if_neg h2, if_neg h2]
  obtain ⟨x, y, r, rfl⟩ : ∃ x y r, vs = x :: y :: r := by
    match vs, h64 with
    | [], h => exact absurd (by decide) h
    | [_], h => exact absurd (by show 1 < 64; decide) h
    | x :: y :: r, _ => exact ⟨x, y, r, rfl⟩
  rw [keyKind_ints hI]
  refine wpAny_bind (wpAny_pure ?_)
  refine wpAny_bind (wpAny_mono (wpS_runs (a₀ := pairsOf (x :: y :: r)) (st := SortSt.mk' oneType' ((x :: y :: r).toArray.zip (x :: y :: r).toArray) #[] 7 none)
    (Q := fun _ st' => (arrOf st').Perm (pairsOf (x :: y :: r)) ∧ failedOf st' = none ∧ SI (arrOf st') 0 (pairsOf (x :: y :: r)).size)
    (ints_pairs hI) ⟨Array.Perm.refl _, rfl, rfl⟩ rfl (by rw [pairsOf_size]; simp) fun st' b1 b2 b3 => ⟨b1, b2, b3⟩) ?_ fun _ _ e => e)
  rintro ⟨⟨⟩, st'⟩ s' ⟨rfl, hp, hf, hs⟩
  dsimp only
  refine wpAny_bind (seqEpoch_at g6 rfl ?_)
  refine wpAny_bind (listUpdate_at g6 rfl ?_ (by simp) (Nat.le_trans (Nat.le_of_eq ((Array.size_map ..).trans (hp.size_eq.trans (pairsOf_size _)))) (Nat.le_succ_of_le hz)))
  rw [hf]
  simp only [bne_self_eq_false, Bool.false_eq_true, if_false]
  obtain ⟨ns', d1, d2, d3⟩ := sorted_out hI hp fun i j hij hj => hs i j (Nat.zero_le _) hij (by omega)
  exact wpAny_pure (h _ ns' d1 d2 d3)
end
end S0
namespace S0
open PySem PyProof.Rows
def Rs (xs : Array Nat) : Prop := xs.toList.Pairwise (· < ·)
theorem Rs.at {xs : Array Nat} (h : Rs xs) {i j : Nat} (hi : i < xs.size) (hj : j < xs.size) (hij : i < j) : xs[i] < xs[j] := by
  have := List.pairwise_iff_getElem.mp h i j (by simpa using hi) (by simpa using hj) hij
  simpa using this
theorem go_spec {xs : Array Nat} (h : Rs xs) (j : Nat) : ∀ (f lo hi : Nat), lo ≤ hi → hi ≤ xs.size → hi - lo ≤ f → (∀ i (hx : i < xs.size), i < lo → xs[i] < j) → (∀ i (hx : i < xs.size), hi ≤ i → j ≤ xs[i]) →
    SetTable.below.go xs j f lo hi ≤ xs.size ∧ (∀ i (hx : i < xs.size), i < SetTable.below.go xs j f lo hi → xs[i] < j) ∧ (∀ i (hx : i < xs.size), SetTable.below.go xs j f lo hi ≤ i → j ≤ xs[i])
  | 0, lo, hi, h1, h2, h3, h4, h5 => by
    have e : lo = hi := by omega
    subst e
    exact ⟨h2, h4, h5⟩
  | f + 1, lo, hi, h1, h2, h3, h4, h5 => by
    unfold SetTable.below.go
    by_cases hlt : lo < hi
    · rw [if_pos hlt]
      have hm : (lo + hi) / 2 < xs.size := by omega
      dsimp only
      have eg : xs.getD ((lo + hi) / 2) j = xs[(lo + hi) / 2] := by simp [Array.getD, hm]
      rw [eg]
      by_cases hc : xs[(lo + hi) / 2] < j
      · rw [if_pos hc]
        refine go_spec h j f _ _ (by omega) h2 (by omega) (fun i hi' hi2 => ?_) h5
        by_cases e : i = (lo + hi) / 2
        · subst e; exact hc
        · exact Nat.lt_trans (h.at hi' hm (by omega)) hc
      · rw [if_neg hc]
        refine go_spec h j f _ _ (by omega) (by omega) (by omega) h4 fun i hi' hi2 => ?_
        by_cases e : i = (lo + hi) / 2
        · subst e; omega
        · have := h.at hm hi' (by omega)
          omega
    · rw [if_neg hlt]
      exact ⟨by omega, h4, fun i hx hi2 => h5 i hx (by omega)⟩
theorem below_spec {xs : Array Nat} (h : Rs xs) (j : Nat) : SetTable.below xs j ≤ xs.size ∧ (∀ i (hi : i < xs.size), i < SetTable.below xs j → xs[i] < j) ∧ (∀ i (hx : i < xs.size), SetTable.below xs j ≤ i → j ≤ xs[i]) :=
  go_spec h j xs.size 0 xs.size (Nat.zero_le _) (Nat.le_refl _) (by omega) (fun i _ h => absurd h (Nat.not_lt_zero _)) fun i hx hi => absurd hx (by omega)
theorem Rs.put {xs : Array Nat} (h : Rs xs) {j : Nat} (hj : (xs[SetTable.below xs j]? == some j) = false) : Rs (SetTable.insertAt xs (SetTable.below xs j) j) := by
  obtain ⟨h1, h2, h3⟩ := below_spec h j
  generalize SetTable.below xs j = p at *
  unfold Rs
  rw [SetTable.toList_insertAt, List.pairwise_append]
  have hs : (xs.toList.take p ++ xs.toList.drop p).Pairwise (· < ·) := by rw [List.take_append_drop]; exact h
  obtain ⟨a1, a2, a3⟩ := List.pairwise_append.mp hs
  have lo : ∀ x ∈ xs.toList.take p, x < j := by
    intro x hx
    obtain ⟨m, hm, rfl⟩ := List.mem_iff_getElem.mp hx
    simp at hm
    simpa using h2 m (by omega) (by omega)
  have hi : ∀ x ∈ xs.toList.drop p, j < x := by
    intro x hx
    obtain ⟨m, hm, rfl⟩ := List.mem_iff_getElem.mp hx
    simp at hm
    have hpm : p + m < xs.size := by omega
    have hp : p < xs.size := by omega
    have e0 : j ≤ xs[p] := h3 p hp (Nat.le_refl _)
    have e1 : xs[p] ≠ j := by
      intro e
      rw [getElem?_pos xs p hp, e] at hj
      simp at hj
    simp only [List.getElem_drop, Array.getElem_toList]
    by_cases em : m = 0
    · subst em; simp only [Nat.add_zero]; omega
    · have := h.at hp hpm (by omega)
      omega
  refine ⟨a1, List.pairwise_cons.mpr ⟨hi, a2⟩, fun x hx y hy => ?_⟩
  rcases List.mem_cons.mp hy with rfl | hy
  · exact lo x hx
  · exact a3 x hx y hy
theorem has_nil (j : Nat) : SetTable.has #[] j = false := by simp [SetTable.has]
theorem probe_free {t : SetTable} {h : Int} (hd : t.dummies = #[]) : ∀ (f : Nat) (p : SetTable.Probe) {j : Nat} {d : Option Nat}, p.dummy = none →
    SetTable.probe.go t (fun _ => h + 1) h f p = some (.empty j d) → t.slot j = .empty ∧ d = none
  | 0, p, j, d, hp, e => nomatch e
  | f + 1, p, j, d, hp, e => by
    unfold SetTable.probe.go at e
    have ha : (t.advance p).dummy = none := by
      unfold SetTable.advance
      split
      · exact hp
      · exact hp
    cases hs : t.slot p.j with
    | empty =>
      rw [hs] at e
      simp only [Option.some.injEq, SetTable.Met.empty.injEq] at e
      obtain ⟨rfl, rfl⟩ := e
      exact ⟨hs, hp⟩
    | dummy =>
      exfalso
      unfold SetTable.slot at hs
      rw [hd, has_nil] at hs
      simp only [Bool.false_eq_true, if_false] at hs
      split at hs <;> cases hs
    | live i =>
      rw [hs] at e
      have hne : ((h + 1 : Int) == h) = false := by simp; omega
      simp only [hne, Bool.false_eq_true, if_false] at e
      exact probe_free hd f _ ha e
theorem free_slot {t : SetTable} {h : Int} {j : Nat} {b : Bool} (hd : t.dummies = #[]) (e : t.freeSlot h = some (j, b)) : t.slot j = .empty := by
  unfold SetTable.freeSlot at e
  split at e
  · rename_i j' d he
    obtain ⟨a1, rfl⟩ := probe_free hd _ _ (by rfl) he
    simp at e
    rw [← e.1]; exact a1
  · cases e
def TOk (t : SetTable) : Prop := t.plain = true → Rs t.place ∧ t.dummies = #[]
theorem TOk.standIn (t : SetTable) (n : Nat) : TOk (t.standIn n) := fun h => nomatch h
theorem put_ok {t : SetTable} {j : Nat} (h : TOk t) (hs : t.dummies = #[] → t.slot j = .empty) : TOk (t.put j).1 := by
  intro hp
  obtain ⟨h1, h2⟩ := h hp
  have h3 := hs h2
  unfold SetTable.put
  dsimp only
  refine ⟨h1.put ?_, ?_⟩
  · unfold SetTable.slot at h3
    dsimp only at h3
    cases e : (t.place[SetTable.below t.place j]? == some j) with
    | false => rfl
    | true => rw [e] at h3; simp at h3
  · rw [h2, has_nil]; rfl
theorem layNew_ok {t : SetTable} (h : TOk t) (es : Array (Int × Value)) (hh : Int) (x : Value) : TOk (layNew t es hh x).2.1 ∧ (layNew t es hh x).2.1.led = t.led := by
  unfold layNew
  split
  · rename_i slot wd he
    dsimp only
    have hk := put_ok (j := slot) h fun hd => free_slot hd he
    unfold SetTable.orStandIn
    split
    · exact ⟨hk, rfl⟩
    · exact ⟨TOk.standIn _ _, rfl⟩
  · exact ⟨TOk.standIn _ _, rfl⟩
theorem live_fst (f : Nat → Option Nat) : ∀ l : List Nat, (l.filterMap fun j => (f j).map (j, ·)).map (·.1) = l.filter fun j => (f j).isSome
  | [] => rfl
  | j :: l => by
    rw [List.filterMap_cons, List.filter_cons]
    cases e : f j with
    | none => simpa using live_fst f l
    | some k => simpa using live_fst f l
theorem laid_ok {mask fg mv : Nat} {led plain : Bool} {hs : Array Int} {t : SetTable} {o : Array Nat} (e : SetTable.laid mask fg mv led plain hs = some (t, o)) : Rs t.place ∧ t.dummies = #[] ∧ t.led = led := by
  unfold SetTable.laid at e
  cases hl : SetTable.layClean mask hs with
  | none => rw [hl] at e; exact nomatch e
  | some ow =>
    rw [hl] at e
    have e' : some (({ mask, place := (((List.range (mask + 1)).filterMap fun j => (ow.getD j none).map (j, ·)).map (·.1)).toArray, dummies := #[], finger := fg, led, moves := mv, plain } : SetTable), (((List.range (mask + 1)).filterMap fun j => (ow.getD j none).map (j, ·)).map (·.2)).toArray) = some (t, o) := e
    injection e' with e'
    injection e' with e1 e2
    subst e1
    refine ⟨?_, rfl, rfl⟩
    unfold Rs
    dsimp only
    rw [live_fst]
    exact List.Pairwise.filter _ List.pairwise_lt_range
theorem relay_ok (t : SetTable) (es : Array (Int × Value)) (wn : Nat) : TOk (relayAll t es wn).2.1 ∧ (relayAll t es wn).2.1.led = t.led := by
  unfold relayAll
  split
  · rename_i t' order he
    dsimp only
    obtain ⟨a1, a2, a3⟩ := laid_ok he
    split
    · exact ⟨fun _ => ⟨a1, a2⟩, a3⟩
    · exact ⟨TOk.standIn _ _, rfl⟩
  · exact ⟨TOk.standIn _ _, rfl⟩
end S0
namespace S0
open PySem PySem.Spec PyProof.Rows
def byT (w : World) : Bool := w.params.followText "set-order"
def TW (w : World) (t : SetTable) : Prop := byT w = true ∨ (t.led = true ∧ TOk t)
section
variable {prog : Program} {w : World} {K : Type} [DecidableEq K] (knd : PySem.KeyKind prog w K) (kf : Value → K)
def SetK (h : Heap) (a : Addr) (ks : List K) : Prop := ∃ o es ep t, h.get? a = some o ∧ o.ExactSet ∧ o.data = .set es ep t ∧ t.fits es.size = true ∧ es.size < scanBound ∧
  ElemsOf knd es.toList ∧ (es.toList.map fun e => kf e.2).Perm ks ∧ TW w t
variable {knd kf}
theorem SetK.at {h h' : Heap} {a : Addr} {ks : List K} (x : SetK knd kf h a ks) (e : ∀ o, h.get? a = some o → h'.get? a = some o) : SetK knd kf h' a ks := by
  obtain ⟨o, es, ep, t, h1, r⟩ := x
  exact ⟨o, es, ep, t, e _ h1, r⟩
theorem SetK.len {h : Heap} {a : Addr} {ks : List K} (x : SetK knd kf h a ks) : ks.length < scanBound := by
  obtain ⟨o, es, ep, t, h1, h2, h3, h4, h5, h6, h7, h8⟩ := x
  rw [← h7.length_eq, List.length_map, Array.length_toList]; exact h5
theorem elem_mem (hkf : ∀ k v, knd.is k v = true → kf v = k) {es : Array (Int × Value)} (hel : ElemsOf knd es.toList) (k : K) :
    k ∈ (es.toList.map fun e => kf e.2) ↔ ∃ e ∈ es.toList, knd.is k e.2 = true := by
  rw [List.mem_map]
  constructor
  · rintro ⟨e, he, rfl⟩
    obtain ⟨⟨k', hk', _⟩, _⟩ := hel e he
    exact ⟨e, he, by rw [hkf k' _ hk']; exact hk'⟩
  · rintro ⟨e, he, hk⟩
    exact ⟨e, he, hkf k _ hk⟩
theorem store_k {h : Heap} {a : Addr} {o : Obj} {es : Array (Int × Value)} {ep : Nat} {t : SetTable} (ho : h.get? a = some o) (hd : o.data = .set es ep t) (es' : Array (Int × Value)) (t' : SetTable) :
    (h.update a (Obj.putSet es' t')).get? a = some { o with data := .set es' (ep + 1) t' } := by
  have := Heap.get?_update_self (Obj.putSet es' t') ho (by rw [putSet_of es' t' hd]; rfl)
  rw [putSet_of es' t' hd] at this; exact this
variable {A : Around} {E : Value → Shared → Prop} {s : Shared}
theorem add_k (hkf : ∀ k v, knd.is k v = true → kf v = k) {a : Addr} {ks : List K} {k : K} {x : Value} {Q : Bool → Shared → Prop} (hkey : knd.is k x = true) (hsc : x.scannable = true)
    (hS : SetK knd kf s.heap a ks) (hroom : ks.length + 1 < scanBound)
    (h : ∀ h', Heap.SameBut a s.heap h' → SetK knd kf h' a (if k ∈ ks then ks else ks ++ [k]) → Q (decide (k ∉ ks)) { s with heap := h' }) :
    wpAny (model prog w) A (setAddHashed a x (knd.hash k)) Q E s := by
  obtain ⟨o, es, ep, t, ho, hex, hd, hf, hb, hel, hpm, htw⟩ := hS
  have hmem : k ∈ ks ↔ ∃ e ∈ es.toList, knd.is k e.2 = true := by rw [← hpm.mem_iff]; exact elem_mem hkf hel k
  have hsz : es.size = ks.length := by rw [← hpm.length_eq, List.length_map, Array.length_toList]
  unfold setAddHashed setAddHashedIn
  refine wpAny_holding (wpAny_bind (wpAny_setState_of ho hd hf ?_))
  dsimp only
  rw [byScan_of hsc hb hel]
  simp only [↓reduceIte]
  unfold setAddByScan
  refine wpAny_bind (wpAny_bind (wpAny_rule (wpAny_bind (wpAny_setScan_of hkey ho hd hf hel ?_))))
  cases hr : List.findIdx? (fun e => knd.is k e.2) es.toList with
  | some j =>
    obtain ⟨hj, hpj, _⟩ := List.findIdx?_eq_some_iff_getElem.mp hr
    have hk : k ∈ ks := hmem.mpr ⟨es.toList[j], List.getElem_mem hj, hpj⟩
    refine wpAny_pure (wpAny_pure ?_)
    have := h s.heap (Heap.SameBut.refl a s.heap) (by rw [if_pos hk]; exact ⟨o, es, ep, t, ho, hex, hd, hf, hb, hel, hpm, htw⟩)
    rw [decide_eq_false (by simpa using hk)] at this
    exact this
  | none =>
    have hk : k ∉ ks := fun z => by
      obtain ⟨e, he, hp⟩ := hmem.mp z
      have := List.findIdx?_eq_none_iff.mp hr e he
      rw [hp] at this; cases this
    have hgw : ∀ (b : Bool) {s₁ : Shared} {Q' : Unit → Shared → Prop}, Q' () s₁ → wpAny (model prog w) A (match b with | true => rule "set.scan.the-table-gave-way" | false => pure ()) Q' E s₁ :=
      fun b s₁ Q' hq => by cases b <;> first | exact wpAny_pure hq | exact wpAny_rule hq
    have hperm := layNew_perm t es (knd.hash k) x
    have hfits := layNew_fits t es (knd.hash k) x
    have htk : TW w (layNew t es (knd.hash k) x).2.1 := by
      rcases htw with z | ⟨z1, z2⟩
      · exact .inl z
      · obtain ⟨b1, b2⟩ := layNew_ok z2 es (knd.hash k) x
        exact .inr ⟨b2.trans z1, b1⟩
    dsimp only
    generalize hL : layNew t es (knd.hash k) x = L at hperm hfits htk ⊢
    obtain ⟨es1, t1, wd, gave⟩ := L
    dsimp only at hperm hfits htk ⊢
    rw [Array.toList_push] at hperm
    have hel1 : ElemsOf knd es1.toList := (hel.push hkey hsc).perm hperm
    have hpm1 : (es1.toList.map fun e => kf e.2).Perm (ks ++ [k]) := by
      refine (hperm.map _).trans ?_
      rw [List.map_append]
      refine hpm.append ?_
      show [kf x].Perm [k]
      rw [hkf k x hkey]
    have hsz1 : es1.size = ks.length + 1 := by rw [← Array.length_toList, hperm.length_eq, List.length_append, Array.length_toList, hsz]; rfl
    have hb1 : es1.size < scanBound := by rw [hsz1]; exact hroom
    have key : ∀ t2 : SetTable, t2.fits es1.size = true → TW w t2 → ∀ (Z : Option Bool → Shared → Prop), (∀ h', Heap.SameBut a s.heap h' → SetK knd kf h' a (ks ++ [k]) → Z (some true) { s with heap := h' }) →
        wpAny (model prog w) A (do
          storeSet a es1 t2
          if (!wd && t2.tooFull) = true then do
              (match (relayAll t2 es1 (SetTable.grown es1.size)).2.2 with | true => rule "set.scan.the-table-gave-way" | false => pure ())
              storeSet a (relayAll t2 es1 (SetTable.grown es1.size)).1 (relayAll t2 es1 (SetTable.grown es1.size)).2.1
              pure (some true)
            else pure (some true)) Z E s := by
      intro t2 f2 w2 Z hZ
      refine wpAny_bind (wpAny_storeSet_of ho hd ?_ (fits_of_scanBound hb1))
      have ho1 := store_k ho hd es1 t2
      have sb1 := Heap.SameBut.update s.heap a (Obj.putSet es1 t2)
      split
      · have hp := relayAll_perm t2 es1 (SetTable.grown es1.size)
        have hfr := relayAll_fits t2 es1 (SetTable.grown es1.size)
        obtain ⟨k1, k2⟩ := relay_ok t2 es1 (SetTable.grown es1.size)
        have wr : TW w (relayAll t2 es1 (SetTable.grown es1.size)).2.1 := by
          rcases w2 with z | ⟨z1, z2⟩
          · exact .inl z
          · exact .inr ⟨k2.trans z1, k1⟩
        generalize relayAll t2 es1 (SetTable.grown es1.size) = Rl at hp hfr wr ⊢
        obtain ⟨es2, t3, g2⟩ := Rl
        dsimp only at hp hfr wr ⊢
        have hb2 : es2.size < scanBound := by rw [← Array.length_toList, hp.length_eq, Array.length_toList]; exact hb1
        refine wpAny_bind (hgw _ (wpAny_bind (wpAny_storeSet_of ho1 rfl ?_ (fits_of_scanBound hb2))))
        exact wpAny_pure (hZ _ (sb1.trans (Heap.SameBut.update _ a _)) ⟨_, es2, _, t3, store_k ho1 rfl es2 t3, hex, rfl, hfr, hb2, hel1.perm hp, (hp.map _).trans hpm1, wr⟩)
      · exact wpAny_pure (hZ _ sb1 ⟨_, es1, _, t2, ho1, hex, rfl, f2, hb1, hel1, hpm1, w2⟩)
    have fin : ∀ h', Heap.SameBut a s.heap h' → SetK knd kf h' a (ks ++ [k]) → Q true { s with heap := h' } := fun h' b1 b2 => by
      have := h h' b1 (by rw [if_neg hk]; exact b2)
      rw [decide_eq_true (by simpa using hk)] at this
      exact this
    refine wpAny_bind (hgw _ ?_)
    split
    · refine wpAny_bind ?_
      rw [hashByValue_scannable 8 hsc]
      refine wpAny_pure ?_
      refine key _ ?_ ?_ _ fun h' b1 b2 => wpAny_pure (fin h' b1 b2)
      · split
        · exact hfits
        · exact SetTable.fits_plain_off hfits
      · split
        · exact htk
        · rcases htk with z | ⟨z1, z2⟩
          · exact .inl z
          · exact .inr ⟨z1, fun z => nomatch z⟩
    · refine wpAny_bind (wpAny_pure ?_)
      simp only [↓reduceIte]
      exact key _ hfits htk _ fun h' b1 b2 => wpAny_pure (fin h' b1 b2)
end
end S0
namespace S0
open PySem PySem.Spec PyProof.Rows
def dstep {K : Type} [DecidableEq K] (acc : List K) (k : K) : List K := if k ∈ acc then acc else acc ++ [k]
def ddT {K : Type} [DecidableEq K] (val : Nat → K) (i : Nat) : List K := ((List.range i).map val).foldl dstep []
theorem ddT_succ {K : Type} [DecidableEq K] (val : Nat → K) (i : Nat) : ddT val (i + 1) = dstep (ddT val i) (val i) := by
  unfold ddT; rw [List.range_succ, List.map_append, List.foldl_append]; rfl
theorem ddT_len {K : Type} [DecidableEq K] (val : Nat → K) : ∀ i, (ddT val i).length ≤ i
  | 0 => Nat.le_refl _
  | i + 1 => by
    rw [ddT_succ]; unfold dstep
    have := ddT_len val i
    split
    · omega
    · rw [List.length_append, List.length_singleton]; omega
def ddL {K : Type} [DecidableEq K] (l : List K) : List K := l.foldl dstep []
theorem ddT_eq {K : Type} [DecidableEq K] [Inhabited K] (l : List K) : ddT (fun i => l.getD i default) l.length = ddL l := by
  unfold ddT ddL
  congr 1
  apply List.ext_getElem
  · simp
  · intro i h1 h2
    simp [List.getD_eq_getElem?_getD, h2]
abbrev frO (led : Bool) : Obj := { cls := .type "set", dict := none, data := .set #[] 0 (.fresh 0 0 led) }
section
variable {prog : Program} {w : World} {K : Type} [DecidableEq K] {knd : PySem.KeyKind prog w K} {kf : Value → K}
theorem fresh_k {h : Heap} {a : Addr} (hg : h.get? a = some (frO (!byT w))) : SetK knd kf h a [] := by
  refine ⟨_, #[], 0, _, hg, ⟨rfl, rfl, rfl⟩, rfl, rfl, by unfold scanBound; simp, (fun e he => nomatch he), List.Perm.nil, ?_⟩
  cases e : byT w with
  | true => exact .inl e
  | false => exact .inr ⟨rfl, fun _ => ⟨List.Pairwise.nil, rfl⟩⟩
section
variable {A : Around} {R : Result → Shared → Prop} {I : Addr} {fp wr : List Addr} {G : Array GenState → Array GenState → Prop} {n : Nat} {P : Nat → Value → Prop} {St : Nat → Shared → Prop}
theorem loop_k (hkf : ∀ k v, knd.is k v = true → kf v = k) (W : WalksS prog w A.in1 I fp wr G n P St) (S : Addr) (hSf : S ∉ fp)
    (val : Nat → K) (hval : ∀ i v, P i v → knd.is (val i) v = true ∧ v.scannable = true) (hb : n + 1 < scanBound) :
    ∀ (k i : Nat) (s : Shared), n - i = k → i ≤ n → St i s → SetK knd kf s.heap S (ddT val i) →
      (∀ s', Moved (S :: wr) G s s' → SetK knd kf s'.heap S (ddT val n) → R (.ok (.ret .none)) s') →
      codeAny (model prog w) A (.builtin "set.update.loop" ⟨[.ref S, .ref I], []⟩) R s := by
  have hSw : S ∉ wr := fun h => hSf (W.sub _ h)
  have hsub : ∀ b ∈ wr, b ∈ S :: wr := fun b hb => List.mem_cons_of_mem _ hb
  intro k
  induction k with
  | zero =>
    intro i s hk hi hst hS hR
    have hin : i = n := by omega
    subst hin
    refine codeAny_builtin PyProof.Rows.F.entry_set_update_loop ?_
    rw [Around.under_plainId PyProof.Rows.F.plain_set_update_loop _]
    show wpAny _ A.in1 (pyNext (.ref I) >>= _) _ _ s
    refine wpAny_bind (W.done s _ _ hst fun s' hm => ?_)
    show wpAny _ A.in1 (ret Value.none) _ _ s'
    exact wpAny_pure (hR s' (hm.mono hsub) (hS.at fun o e => hm.heap S _ hSw e))
  | succ k ih =>
    intro i s hk hi hst hS hR
    have hlt : i < n := by omega
    refine codeAny_builtin PyProof.Rows.F.entry_set_update_loop ?_
    rw [Around.under_plainId PyProof.Rows.F.plain_set_update_loop _]
    show wpAny _ A.in1 (pyNext (.ref I) >>= _) _ _ s
    refine wpAny_bind (W.item i s _ _ hlt hst fun v s' hP hst' hm => ?_)
    obtain ⟨hv1, hv2⟩ := hval i v hP
    have hS' : SetK knd kf s'.heap S (ddT val i) := hS.at fun o e => hm.heap S _ hSw e
    show wpAny _ A.in1 (holding [v] (setAdd S v) >>= _) _ _ s'
    refine wpAny_bind (wpAny_holding ?_)
    unfold setAdd
    refine wpAny_holding (wpAny_bind (knd.pyHash (k := val i) hv1 ?_))
    have := ddT_len val i
    refine add_k (s := { s' with toks := s'.toks + 1 }) hkf hv1 hv2 hS' (by omega) fun h' hsb hS2 => ?_
    have hSi : SetK knd kf h' S (ddT val (i + 1)) := by rw [ddT_succ]; exact hS2
    refine wpAny_pure ⟨plainId_quiet PyProof.Rows.F.plain_set_update_loop _, ih (i + 1) _ (by omega) hlt (W.frame _ s' _ _ hst' (Nat.le_succ _) fun b hb o e => ?_) hSi fun s'' hm'' hS'' => ?_⟩
    · rw [hsb.2 b (fun h : b = S => hSf (by rw [← h]; exact hb))]; exact e
    · refine hR s'' (Moved.trans W.gtrans ((hm.mono hsub).then_heap (Nat.le_succ _) fun b o hb e => ?_) hm'') hS''
      rw [hsb.2 b (fun h : b = S => hb (by rw [h]; exact List.mem_cons_self))]; exact e
end
variable {A : Around} {E : Value → Shared → Prop} {s : Shared}
theorem new_k (a : Value) {Q₁ : Value → Shared → Prop} (h : Q₁ (.ref s.heap.objs.size) { s with heap := s.heap.push (frO (!byT w)) }) :
    codeAny (model prog w) A (.call (.builtin "set.__new__") ⟨[.type "set", a], []⟩) (wants Q₁ E) s := by
  refine codeAny_of_tree ?_
  show wpAny _ A.in1 (do checkBuiltinCall "set.__new__" ⟨[.type "set", a], []⟩; again (.builtin "set.__new__" ⟨[.type "set", a], []⟩)) _ _ s
  refine wpAny_bind (wpAny_of_eq (PySem.F.newCall_set_1 a) (wpAny_pure ⟨plainId_quiet PySem.F.plain_set_new _, codeAny_builtin PySem.F.entry_set_new ?_⟩))
  rw [Around.under_plainId PySem.F.plain_set_new _]
  unfold Builtin.«set.__new__» Builtin.Frozenset.newClass
  have hsub := sub_set_self
  obtain ⟨hp, g, d, tk, os⟩ := s
  dsimp only
  wp_walk
  refine wpAny_askSetting (wpAny_pure ?_)
  dsimp only
  simp only [newObj]
  refine wpAny_bind (wpAny_alloc (wpAny_pure ?_))
  exact wpAny_pure h
def SetMd (knd : PySem.KeyKind prog w K) (kf : Value → K) (s : Shared) (ks : List K) (r : Value) (s₂ : Shared) : Prop :=
  r = .none ∧ ∃ h' tk, s₂ = { s with heap := h', toks := tk } ∧ SetK knd kf h' s.heap.objs.size ks ∧ ∀ b o, b < s.heap.objs.size → s.heap.get? b = some o → h'.get? b = some o
theorem init_k (hkf : ∀ k v, knd.is k v = true → kf v = k) {t : Addr} {items : Array Value} {val : Nat → K} (hh : A.handled = none) (ht : s.heap.IsList t items)
    (hv : ∀ i v, items[i]? = some v → knd.is (val i) v = true ∧ v.scannable = true) (hb : items.size + 1 < scanBound) :
    wpAny (model prog w) A.in1.in1 (Builtin.«set.__init__» ⟨[.ref s.heap.objs.size, .ref t], []⟩) (fun fin s' => ∃ v, fin = .done (.ret v) ∧ SetMd knd kf s (ddT val items.size) v s') E { s with heap := s.heap.push (frO (!byT w)) } := by
  obtain ⟨⟨oc, od, ot, os⟩, e1, e2, n, e3⟩ := ht
  simp only at e2 e3
  subst e2 e3
  have e1' : (s.heap.push (frO (!byT w))).get? t = some ⟨.type "list", od, .seq items n, os⟩ := Heap.get?_push_of_some _ e1
  have f1 := PySem.F.sub_list_set
  have f2 := PySem.F.sub_list_frozenset
  have f3 : (Value.type "list" == Value.type "dict") = false := by decide
  have t1 : (s.heap.push (frO (!byT w))).IsList t items := ⟨_, e1', rfl, n, rfl⟩
  have hS : (s.heap.push (frO (!byT w))).get? s.heap.objs.size = some (frO (!byT w)) := Heap.get?_push_size _ rfl
  unfold Builtin.«set.__init__» noKeywords Builtin.Frozenset.updateFrom
  generalize hPI : pyIter = PI
  wp_walk
  subst hPI
  refine wpAny_pyIter_list t1 (wpAny_bind (wpAny_runValue ?_))
  have lt : t < s.heap.objs.size := Heap.lt_size e1
  have sz : (s.heap.push (frO (!byT w))).objs.size = s.heap.objs.size + 1 := Heap.size_push ..
  have h3 : A.in1.in1.in1.handled = none := by simp [hh]
  have ni : t ≠ (s.heap.push (frO (!byT w))).objs.size := by rw [sz]; exact Nat.ne_of_lt (Nat.lt_succ_of_lt lt)
  have nS : s.heap.objs.size ∉ [(s.heap.push (frO (!byT w))).objs.size, t] := by
    rw [sz]
    simp only [List.mem_cons, List.not_mem_nil, or_false, not_or]
    exact ⟨Nat.ne_of_lt (Nat.lt_succ_self _), Nat.ne_of_gt lt⟩
  refine loop_k hkf ((Walks.list h3 _ t ni items).toS) s.heap.objs.size nS val hv hb items.size 0 _ (by omega) (Nat.zero_le _) ⟨⟨_, Heap.get?_push_size _ rfl, rfl, rfl⟩, t1.push _⟩ (fresh_k (Heap.get?_push_of_some _ hS)) fun s' mv hS' => ?_
  obtain ⟨h', g', d', tk', os'⟩ := s'
  obtain rfl : g' = s.gens := mv.gens
  obtain rfl : d' = s.drawn := mv.drawn
  obtain rfl : os' = s.os := mv.os
  show wpAny _ _ _ _ _ _
  refine wpAny_pure ?_
  show wpAny _ _ (ret Value.none) _ _ _
  refine wpAny_pure ⟨_, rfl, rfl, h', tk', rfl, hS', fun b o hb' e => mv.heap b o ?_ (Heap.get?_push_of_some _ (Heap.get?_push_of_some _ e))⟩
  rw [sz]
  simp only [List.mem_cons, List.not_mem_nil, or_false, not_or]
  exact ⟨Nat.ne_of_lt hb', Nat.ne_of_lt (Nat.lt_succ_of_lt hb')⟩
theorem call_k (hkf : ∀ k v, knd.is k v = true → kf v = k) {t : Addr} {items : Array Value} {val : Nat → K} {Q : Value → Shared → Prop} (hh : A.handled = none) (ht : s.heap.IsList t items)
    (hv : ∀ i v, items[i]? = some v → knd.is (val i) v = true ∧ v.scannable = true) (hb : items.size + 1 < scanBound)
    (h : ∀ (h' : Heap) (tk : Nat), SetK knd kf h' s.heap.objs.size (ddT val items.size) → (∀ b o, s.heap.get? b = some o → h'.get? b = some o) → Q (.ref s.heap.objs.size) { s with heap := h', toks := tk }) :
    wpAny (model prog w) A (call (.type "set") [.ref t]) Q E s := by
  obtain ⟨c, tl, hmro⟩ := PySem.F.called_set.mro
  have m1 := PySem.F.called_set.made
  have m2 := PySem.F.called_set.sub
  have m3 := PySem.F.called_set.notType
  have m4 := PySem.F.called_set.canCreate
  have m5 := PySem.F.typeCall_set_1 (.ref t)
  refine wpAny_call (codeAny_of_tree ?_)
  show wpAny _ _ (callAny (.type "set") _) _ _ _
  refine wpAny_pure ⟨Code.quiet_builtin _ (by decide +kernel), codeAny_builtin PySem.F.entry_type_call ?_⟩
  rw [Around.under_plain (weight_type_call_type "set" [.ref t] []) rfl]
  repeat (any_goals (first | assumption | wp_step))
  refine codeAny_mono (new_k (.ref t) (E := E) (Q₁ := fun obj s₁ => obj = .ref s.heap.objs.size ∧ s₁ = { s with heap := s.heap.push (frO (!byT w)) }) ⟨rfl, rfl⟩) fun r s₁ hr => ?_
  cases r with
  | error e => exact hr
  | ok fl =>
    cases fl with
    | ret obj =>
      obtain ⟨rfl, rfl⟩ := hr
      have hT : Shared.TypeIs { s with heap := s.heap.push (frO (!byT w)) } (.ref s.heap.objs.size) "set" := ⟨_, Heap.get?_push_size _ rfl, rfl⟩
      have n1 := PySem.F.called_set.init.lookup
      have n2 := PySem.F.called_set.init.bind (.ref s.heap.objs.size)
      repeat (any_goals (first | assumption | wp_step))
      refine codeAny_mono (codeAny_call_builtin (R := wants (SetMd knd kf s (ddT val items.size)) E) PySem.F.called_set.init.plain PySem.F.entry_set_init (check_set_init_1 hT (wpAny_mono (init_k hkf hh ht hv hb) (fun fin s' ⟨v, e, d⟩ => by subst e; exact d) fun _ _ z => z))) fun r₂ s₂ hr₂ => ?_
      cases r₂ with
      | error e => exact hr₂
      | ok fl₂ =>
        cases fl₂ with
        | ret r =>
          obtain ⟨rfl, h', tk, rfl, hS', hk'⟩ := hr₂
          repeat (any_goals (first | assumption | wp_step))
          exact h _ _ hS' fun b o e => hk' b o (Heap.lt_size e) e
        | _ => exact hr₂.elim
    | _ => exact hr.elim
end
end S0
namespace S0
open PySem PySem.Spec PyProof.Rows
theorem erase_perm {α : Type} : ∀ (l : List α) (i : Nat) (x : α), l[i]? = some x → (x :: l.eraseIdx i).Perm l
  | [], i, x, h => by simp at h
  | y :: l, 0, x, h => by simp at h; subst h; exact List.Perm.refl _
  | y :: l, i + 1, x, h => by
    have ih := erase_perm l i x (by simpa using h)
    rw [List.eraseIdx_cons_succ]
    exact (List.Perm.swap y x _).trans (ih.cons y)
theorem go_perm {α : Type} (next : Nat → Nat) : ∀ (f k : Nat) (l : List α) (out : Array α), l.length = f → (pickOrder.go next f k l out).toList.Perm (out.toList ++ l)
  | 0, k, l, out, h => by
    have e : l = [] := List.length_eq_zero_iff.mp h
    subst e; unfold pickOrder.go; simp
  | f + 1, k, l, out, h => by
    unfold pickOrder.go
    have hm : next k % l.length < l.length := Nat.mod_lt _ (by omega)
    have hg := List.getElem?_eq_getElem hm
    rw [hg]
    dsimp only
    have hp := erase_perm l _ _ hg
    refine (go_perm next f (k + 1) _ _ (by rw [List.length_eraseIdx, if_pos hm]; omega)).trans ?_
    rw [Array.toList_push, List.append_assoc]
    exact List.Perm.append_left _ hp
theorem pick_perm {α : Type} (next : Nat → Nat) (xs : Array α) : (pickOrder next xs).toList.Perm xs.toList := by
  have := go_perm next xs.size 0 xs.toList #[] (by simp)
  simpa [pickOrder] using this
section
variable {M : Model} {A : Around} {E : Value → Shared → Prop}
theorem wpAny_choose {s : Shared} {src : Source} {n : Nat} {Q : Nat → Shared → Prop} (hn : n ≠ 0) (h : ∀ i, i < n → Q i { s with drawn := s.drawn.bump src }) : wpAny M A (choose src n) Q E s :=
  fun _ _ _ => ⟨hn, h _ (Nat.mod_lt _ (Nat.pos_of_ne_zero hn))⟩
theorem wpAny_draw {α : Type} : ∀ (n : Nat) (xs : List α) {s : Shared} {Q : List α → Shared → Prop}, xs.length ≤ n → (∀ ys d, ys.Perm xs → Q ys { s with drawn := d }) → wpAny M A (drawOrder n xs) Q E s
  | 0, xs, s, Q, hl, h => by
    have e : xs = [] := List.length_eq_zero_iff.mp (by omega)
    subst e
    exact wpAny_pure (h [] s.drawn (List.Perm.refl _))
  | n + 1, [], s, Q, hl, h => wpAny_pure (h [] s.drawn (List.Perm.refl _))
  | n + 1, x :: xs, s, Q, hl, h => by
    show wpAny M A (do
      let i ← choose .order (x :: xs).length
      match (x :: xs)[i]? with
      | some y => return y :: (← drawOrder n ((x :: xs).eraseIdx i))
      | none => unsupported "internal:drawOrder") Q E s
    refine wpAny_bind (wpAny_choose (by simp) fun i hi => ?_)
    have hg := List.getElem?_eq_getElem hi
    rw [hg]
    dsimp only
    refine wpAny_bind (wpAny_draw n _ (by rw [List.length_eraseIdx, if_pos hi]; simp at hl ⊢; omega) fun ys d hp => wpAny_pure (h _ d ?_))
    exact (hp.cons _).trans (erase_perm _ _ _ hg)
end
abbrev itO (f : Value) (i : Nat) (a : Addr) (n ep : Nat) : Obj := { cls := .type "set_iterator", data := .fields #[f, .int i 0, .ref a, .int n 0, .int ep 0] }
def Way (w : World) (a T : Addr) (es : Array (Int × Value)) (ep : Nat) (t : SetTable) (vs : List Value) (i : Nat) (f : Value) (h : Heap) : Prop :=
  (byT w = true ∧ (∃ z : Nat, f = .int z 0) ∧ vs = (pickOrder (w.params.setOrder a ep) es).toList.map (·.2)) ∨
  (byT w = false ∧ (!t.plain && decide (es.size > 1)) = false ∧ t.led = true ∧ Rs t.place ∧ (∃ z : Nat, f = .int z 0 ∧ SetTable.below t.place z = i) ∧ vs = es.toList.map (·.2)) ∨
  (∃ ps : List Nat, f = .ref T ∧ h.IsTuple T (ps.map fun p : Nat => Value.int (p : Int) 0).toArray ∧ vs.map some = ps.map fun p => es[p]?.map (·.2))
theorem Way.keep {w : World} {a T : Addr} {es : Array (Int × Value)} {ep : Nat} {t : SetTable} {vs : List Value} {i : Nat} {f : Value} {h h' : Heap} (x : Way w a T es ep t vs i f h)
    (e : ∀ o, h.get? T = some o → h'.get? T = some o) : Way w a T es ep t vs i f h' := by
  rcases x with x | x | ⟨ps, x1, ⟨o, x2, x3⟩, x4⟩
  · exact .inl x
  · exact .inr (.inl x)
  · exact .inr (.inr ⟨ps, x1, ⟨o, e _ x2, x3⟩, x4⟩)
theorem setNext_is (a : Addr) (sl gv ep : Nat) : setNext a sl gv ep = (do
  let (es, ec, t) ← setState a
  if ← setsByText then
    if ec != ep then unsupported "set_iterator.__next__:elements-changed"
    return ((← setWalk a)[gv]?).map fun e => (e.2, sl)
  if !t.plain && es.size > 1 then unsupported "set_iterator.__next__:the-table-is-plain-no-more"
  (do if !t.led && !es.isEmpty then unsupported "set:maker-not-led" : Sem Unit)
  let i := SetTable.below t.place sl
  return match es[i]?, t.place[i]? with
    | some (_, x), some j => some (x, j + 1)
    | _, _ => none) := rfl
section
variable {prog : Program} {w : World} {A : Around} {E : Value → Shared → Prop} {s : Shared}
theorem wpAny_byText {Q : Bool → Shared → Prop} (h : Q (byT w) s) : wpAny (model prog w) A setsByText Q E s :=
  wpAny_bind (wpAny_askSetting (wpAny_pure h))
variable {a T : Addr} {o : Obj} {es : Array (Int × Value)} {ep : Nat} {t : SetTable} {vs : List Value} {i : Nat} {f : Value}
theorem next_of {Q : Option (Value × Nat) → Shared → Prop} (ho : s.heap.get? a = some o) (hd : o.data = .set es ep t) (hf : t.fits es.size = true) {z : Nat} (W : Way w a T es ep t vs i (.int z 0) s.heap)
    (h : ∀ r, r.map (·.1) = vs[i]? → (∀ z' : Nat, r.map (·.2) = some z' → Way w a T es ep t vs (i + 1) (.int z' 0) s.heap) → Q r s) : wpAny (model prog w) A (setNext a z i ep) Q E s := by
  rw [setNext_is]
  refine wpAny_bind (wpAny_setState_of ho hd hf ?_)
  dsimp only
  refine wpAny_bind (wpAny_byText ?_)
  rcases W with ⟨w1, ⟨z1, w2⟩, w3⟩ | ⟨w1, w2, w3, w4, ⟨z1, w5, w6⟩, w7⟩ | ⟨ps, w1, _⟩
  · rw [w1, if_pos rfl]
    simp only [bne_self_eq_false, Bool.false_eq_true, if_false]
    refine wpAny_bind ?_
    unfold setWalk
    refine wpAny_bind (wpAny_setState_of ho hd hf ?_)
    dsimp only
    refine wpAny_bind (wpAny_byText ?_)
    rw [w1, if_pos rfl]
    refine wpAny_bind (wpAny_askSetting (wpAny_pure (wpAny_pure (h _ ?_ fun z' _ => .inl ⟨w1, ⟨z', rfl⟩, w3⟩))))
    rw [w3, List.getElem?_map, Option.map_map, Array.getElem?_toList]
    rfl
  · rw [w1, if_neg (by decide), w2]
    simp only [Bool.false_eq_true, if_false, w3, Bool.not_true, Bool.false_and]
    refine wpAny_bind (wpAny_pure ?_)
    have ez : z = z1 := by injection w5 with w5; omega
    subst ez
    rw [w6]
    have hps : t.place.size = es.size := by
      simp only [SetTable.fits, Bool.and_eq_true, beq_iff_eq] at hf
      exact hf.1
    refine wpAny_pure (h _ ?_ fun z' hz => .inr (.inl ⟨w1, w2, w3, w4, ⟨z', rfl, ?_⟩, w7⟩))
    · rw [w7, List.getElem?_map, Array.getElem?_toList]
      by_cases hi : i < es.size
      · rw [getElem?_pos es i hi, getElem?_pos t.place i (by omega)]; rfl
      · rw [Array.getElem?_eq_none (by omega)]; rfl
    · by_cases hi : i < es.size
      · have hi' : i < t.place.size := by omega
        rw [getElem?_pos es i hi, getElem?_pos t.place i hi'] at hz
        simp only [Option.map_some, Option.some.injEq] at hz
        subst hz
        obtain ⟨b1, b2, b3⟩ := below_spec w4 (t.place[i] + 1)
        generalize SetTable.below t.place (t.place[i] + 1) = p at *
        have c1 : ¬ p ≤ i := fun c => by have := b3 i hi' c; omega
        have c2 : ¬ i + 2 ≤ p := fun c => by
          have hj : i + 1 < t.place.size := by omega
          have d1 := b2 (i + 1) hj (by omega)
          have d2 := w4.at hi' hj (by omega)
          omega
        omega
      · rw [Array.getElem?_eq_none (by omega)] at hz; simp at hz
  · cases w1
end
end S0
namespace S0
open PySem PySem.Spec PyProof.Rows
theorem slot_si_next : Slot "set_iterator" "__next__" "set_iterator.__next__" :=
  .of (owner := "set_iterator") (n := "__next__") (by rw [typeLookup_type, builtinLookup_eq_fast]; kernel_rfl) (by decide +kernel) (by decide +kernel) (by decide +kernel)
    (by first | exact .inl (by decide +kernel) | exact .inr (by decide +kernel)) (by rw [isSubtype_type]; kernel_rfl)
theorem entry_si_next : entryFor table "set_iterator.__next__" = some Builtin.«set_iterator.__next__» := entryFor_of_tree (by kernel_rfl)
theorem args_si_next (a : Value) : argsOk "set_iterator.__next__" ⟨[a], []⟩ := by unfold argsOk; kernel_rfl
theorem slot_si_iter : Slot "set_iterator" "__iter__" "set_iterator.__iter__" :=
  .of (owner := "set_iterator") (n := "__iter__") (by rw [typeLookup_type, builtinLookup_eq_fast]; kernel_rfl) (by decide +kernel) (by decide +kernel) (by decide +kernel)
    (by first | exact .inl (by decide +kernel) | exact .inr (by decide +kernel)) (by rw [isSubtype_type]; kernel_rfl)
theorem entry_si_iter : entryFor table "set_iterator.__iter__" = some Builtin.«dict_keyiterator.__iter__» :=
  entryFor_alias (id' := "dict_keyiterator.__iter__") (by kernel_rfl) rfl (by decide +kernel) (by kernel_rfl)
theorem args_si_iter (a : Value) : argsOk "set_iterator.__iter__" ⟨[a], []⟩ := by unfold argsOk; kernel_rfl
theorem entry_set_iter : entryFor table "set.__iter__" = some Builtin.«frozenset.__iter__» :=
  entryFor_alias (id' := "frozenset.__iter__") (by kernel_rfl) rfl (by decide +kernel) (by kernel_rfl)
end S0
namespace S0
open PySem PySem.Spec PyProof.Rows
section
variable {prog : Program} {w : World} {A : Around} {E : Value → Shared → Prop} {s : Shared}
variable {a T : Addr} {o : Obj} {es : Array (Int × Value)} {ep : Nat} {t : SetTable} {vs : List Value} {i : Nat} {f : Value}
theorem fld_upd {h : Heap} {I : Addr} {o : Obj} {xs : Array Value} (ho : h.get? I = some o) (hd : o.data = .fields xs) (k : Nat) (x : Value) :
    (h.update I (Obj.mapFields (·.setIfInBounds k x))).get? I = some { o with data := .fields (xs.setIfInBounds k x) } := by
  rw [Heap.get?_update_self _ ho (Obj.isFreed_of_fields (Obj.data_mapFields hd _))]
  obtain ⟨c, d, dt, sl⟩ := o
  dsimp only at hd
  subst hd
  rfl
theorem si_item {I : Addr} {v : Value} {Q : Option Value → Shared → Prop} (hI : s.heap.get? I = some (itO f i a es.size ep)) (ho : s.heap.get? a = some o) (hd : o.data = .set es ep t) (hf : t.fits es.size = true)
    (W : Way w a T es ep t vs i f s.heap) (nT : T ≠ I) (hv : vs[i]? = some v)
    (hQ : ∀ f' h', Heap.SameBut I s.heap h' → h'.get? I = some (itO f' (i + 1) a es.size ep) → Way w a T es ep t vs (i + 1) f' h' → Q (some v) { s with heap := h' }) :
    wpAny (model prog w) A (pyNext (.ref I)) Q E s := by
  have hT : s.TypeIs (.ref I) "set_iterator" := ⟨_, hI, rfl⟩
  unfold pyNext
  refine wpAny_bind (wpAny_attempt (wpAny_callSpecial?_slot (name := Str.ofString "__next__") hT slot_si_next (wpAny_call_entry slot_si_next hT entry_si_next ?_ (args_si_next _))))
  unfold Builtin.«set_iterator.__next__»
  refine wpAny_bind (wpAny_pure (wpAny_bind (wpAny_fieldsOf hI rfl ?_)))
  dsimp only
  refine wpAny_bind ?_
  unfold setEntries
  refine wpAny_bind (wpAny_setState_of ho hd hf (wpAny_pure ?_))
  dsimp only
  simp only [bne_self_eq_false, Bool.false_eq_true, if_false]
  have keep : ∀ (k : Nat) (x : Value), ∀ (h : Heap), ∀ o, h.get? T = some o → (h.update I (Obj.mapFields (·.setIfInBounds k x))).get? T = some o := fun k x h o e => by
    rw [Heap.get?_update_other _ _ (Ne.symm nT)]; exact e
  have fin : ∀ (E' : Value → Shared → Prop) (z : Nat), f = .int z 0 → wpAny (model prog w) A.in1 (do
      match ← setNext a z i ep with
      | some (x, next) =>
        setField (.ref I) 0 (rawInt next)
        setField (.ref I) 1 (rawInt ((i : Int) + 1))
        ret x
      | none => setField (.ref I) 2 .none; raiseNew (← newExc (.type "StopIteration") [])) (fun fin s' => ∃ v, fin = .done (.ret v) ∧ (wpAny (model prog w) A (pure (some v)) Q E s')) E' s := by
    intro E' z hz
    subst hz
    refine wpAny_bind (next_of ho hd hf W fun r h1 h2 => ?_)
    rw [hv] at h1
    cases r with
    | none => cases h1
    | some p =>
      obtain ⟨x, j⟩ := p
      simp only [Option.map_some, Option.some.injEq] at h1
      subst h1
      dsimp only
      refine wpAny_bind (wpAny_setField hI rfl (by simp) ?_)
      have g1 := fld_upd hI rfl 0 (rawInt (j : Int))
      refine wpAny_bind (wpAny_setField g1 rfl (by simp) ?_)
      have g2 := fld_upd g1 rfl 1 (rawInt ((i : Int) + 1))
      refine wpAny_pure ⟨_, rfl, wpAny_pure (hQ (.int j 0) _ ((Heap.SameBut.update ..).trans (Heap.SameBut.update ..)) ?_ ((h2 j rfl).keep fun o e => keep _ _ _ _ (keep _ _ _ _ e)))⟩
      rw [g2]
      simp [rawInt]
  rcases id W with ⟨_, ⟨z, rfl⟩, _⟩ | ⟨_, _, _, _, ⟨z, rfl, _⟩, _⟩ | ⟨ps, rfl, ⟨oT, k1, k2, n, k3⟩, k4⟩
  · exact fin _ z rfl
  · exact fin _ z rfl
  · dsimp only
    refine wpAny_bind (wpAny_seqItems k1 k3 ?_)
    dsimp only
    have h1 : (vs.map some)[i]? = some (some v) := by rw [List.getElem?_map, hv]; rfl
    rw [k4, List.getElem?_map] at h1
    obtain ⟨p, hp, h2⟩ := Option.map_eq_some_iff.mp h1
    obtain ⟨e, he, h3⟩ := Option.map_eq_some_iff.mp h2
    have h4 : ((ps.map fun p : Nat => Value.int (p : Int) 0).toArray)[((i : Nat) : Int).toNat]? = some (.int (p : Int) 0) := by
      rw [Int.toNat_natCast, List.getElem?_toArray, List.getElem?_map, hp]; rfl
    rw [h4]
    dsimp only
    refine wpAny_bind ?_
    unfold setNextDrawn
    refine wpAny_bind (wpAny_setState_of ho hd hf ?_)
    dsimp only
    rw [Int.toNat_natCast, Int.toNat_natCast, he]
    simp only [bne_self_eq_false, Bool.false_eq_true, if_false]
    refine wpAny_pure (wpAny_bind (wpAny_setField hI rfl (by simp) ?_))
    have g1 := fld_upd hI rfl 1 (rawInt ((i : Int) + 1))
    refine wpAny_pure ⟨_, rfl, wpAny_pure ?_⟩
    rw [h3]
    refine hQ (.ref T) _ (Heap.SameBut.update ..) ?_ (.inr (.inr ⟨ps, rfl, ⟨oT, keep _ _ _ _ k1, k2, n, k3⟩, k4⟩))
    rw [g1]
    simp [rawInt]
theorem stop_k {B : Around} {s : Shared} {Q : Option Value → Shared → Prop} (hh : B.handled = none) (h : ∀ h', (∀ b o, s.heap.get? b = some o → h'.get? b = some o) → Q none { s with heap := h' }) :
    wpAny (model prog w) B.in1 (newExc (.type "StopIteration") [] >>= raiseNew) (fun (fin : Fin) s' => ∃ v, fin = .done (.ret v) ∧ wpAny (model prog w) B (pure (some v)) Q E s')
      (fun e s' => wpAny (model prog w) B (do
          let __do_lift ← isInstance e (Value.type "StopIteration")
          if __do_lift = true then pure none else throw e) Q E s') s := by
  refine wpAny_bind ?_
  simp only [newExc, newTuple]
  refine wpAny_bind (wpAny_newObj_type ?_ (by size_fits))
  refine wpAny_bind (m := firstArgMember _ _) (wpAny_of_eq (a := Value.none) (by first | rfl | (simp only [firstArgMember]; rfl)) ?_)
  refine wpAny_newObj_type ?_ (by size_fits)
  simp only [raiseNew]
  refine wpAny_bind (wpAny_handled ?_)
  rw [show B.in1.handled = none from hh]
  refine wpAny_bind (wpAny_pure (wpAny_throw ?_))
  refine wpAny_bind (wpAny_isInstance (T := "StopIteration") (b := true) ⟨_, Heap.get?_push_size _ rfl, rfl⟩ isSubtype_stop ?_)
  exact wpAny_pure (h _ fun b o e => Heap.get?_push_of_some _ (Heap.get?_push_of_some _ e))
theorem si_end {I : Addr} {Q : Option Value → Shared → Prop} (hh : A.handled = none) (hI : s.heap.get? I = some (itO f i a es.size ep)) (ho : s.heap.get? a = some o) (hd : o.data = .set es ep t) (hf : t.fits es.size = true)
    (W : Way w a T es ep t vs i f s.heap) (hv : vs[i]? = none)
    (hQ : ∀ h', (∀ b o, b ≠ I → s.heap.get? b = some o → h'.get? b = some o) → Q none { s with heap := h' }) :
    wpAny (model prog w) A (pyNext (.ref I)) Q E s := by
  have hT : s.TypeIs (.ref I) "set_iterator" := ⟨_, hI, rfl⟩
  unfold pyNext
  refine wpAny_bind (wpAny_attempt (wpAny_callSpecial?_slot (name := Str.ofString "__next__") hT slot_si_next (wpAny_call_entry slot_si_next hT entry_si_next ?_ (args_si_next _))))
  unfold Builtin.«set_iterator.__next__»
  refine wpAny_bind (wpAny_pure (wpAny_bind (wpAny_fieldsOf hI rfl ?_)))
  dsimp only
  refine wpAny_bind ?_
  unfold setEntries
  refine wpAny_bind (wpAny_setState_of ho hd hf (wpAny_pure ?_))
  dsimp only
  simp only [bne_self_eq_false, Bool.false_eq_true, if_false]
  have oth : ∀ (k : Nat) (x : Value) (h : Heap) (b : Addr) (o : Obj), b ≠ I → h.get? b = some o → (h.update I (Obj.mapFields (·.setIfInBounds k x))).get? b = some o := fun k x h b o n e => by
    rw [Heap.get?_update_other _ _ (Ne.symm n)]; exact e
  have fin : ∀ (z : Nat), f = .int z 0 → wpAny (model prog w) A.in1 (do
      match ← setNext a z i ep with
      | some (x, next) =>
        setField (.ref I) 0 (rawInt next)
        setField (.ref I) 1 (rawInt ((i : Int) + 1))
        ret x
      | none => setField (.ref I) 2 .none; raiseNew (← newExc (.type "StopIteration") [])) (fun fin s' => ∃ v, fin = .done (.ret v) ∧ (wpAny (model prog w) A (pure (some v)) Q E s')) (fun e s' => wpAny (model prog w) A (do
          let __do_lift ← isInstance e (Value.type "StopIteration")
          if __do_lift = true then pure none else throw e) Q E s') s := by
    intro z hz
    subst hz
    refine wpAny_bind (next_of ho hd hf W fun r h1 h2 => ?_)
    rw [hv] at h1
    cases r with
    | some p => cases h1
    | none =>
      dsimp only
      refine wpAny_bind (wpAny_setField hI rfl (by simp) ?_)
      exact stop_k hh fun h' hk => hQ h' fun b o n e => hk b o (oth _ _ _ _ _ n e)
  rcases id W with ⟨_, ⟨z, rfl⟩, _⟩ | ⟨_, _, _, _, ⟨z, rfl, _⟩, _⟩ | ⟨ps, rfl, ⟨oT, k1, k2, n, k3⟩, k4⟩
  · exact fin z rfl
  · exact fin z rfl
  · dsimp only
    refine wpAny_bind (wpAny_seqItems k1 k3 ?_)
    dsimp only
    have h1 : (vs.map some)[i]? = none := by rw [List.getElem?_map, hv]; rfl
    rw [k4, List.getElem?_map] at h1
    have h4 : ((ps.map fun p : Nat => Value.int (p : Int) 0).toArray)[((i : Nat) : Int).toNat]? = none := by
      rw [Int.toNat_natCast, List.getElem?_toArray, List.getElem?_map]
      cases hp : ps[i]? with
      | none => rfl
      | some p => rw [hp] at h1; cases h1
    rw [h4]
    dsimp only
    refine wpAny_bind (wpAny_setField hI rfl (by simp) ?_)
    have g1 := fld_upd hI rfl 0 (rawInt 0)
    refine wpAny_bind (wpAny_setField g1 rfl (by simp) ?_)
    exact stop_k hh fun h' hk => hQ h' fun b o n e => hk b o (oth _ _ _ _ _ n (oth _ _ _ _ _ n e))
theorem si_walks {I : Addr} (hh : A.handled = none) (nT : T ≠ I) (na : a ≠ I) (hl : vs.length = es.size) : Walks prog w A I [I, a, T] [I] es.size (fun i v => vs[i]? = some v)
    (fun i h => (∃ o, h.get? a = some o ∧ o.data = .set es ep t ∧ t.fits es.size = true) ∧ ∃ f, h.get? I = some (itO f i a es.size ep) ∧ Way w a T es ep t vs i f h) where
  sub := fun b hb => by simp at hb; simp [hb]
  frame := fun i h h' ⟨⟨o, x1, x2⟩, f, x3, x4⟩ hk => ⟨⟨o, hk a (by simp) o x1, x2⟩, f, hk I (by simp) _ x3, x4.keep fun o e => hk T (by simp) o e⟩
  item := fun i s Q E hi ⟨⟨o, x1, x2, x2'⟩, f, x3, x4⟩ hQ => by
    have hv : vs[i]? = some vs[i] := List.getElem?_eq_getElem (by omega)
    refine si_item x3 x1 x2 x2' x4 nT hv fun f' h' hs h1 h2 => hQ _ h' s.toks hv ⟨⟨o, by rw [hs.2 a na]; exact x1, x2, x2'⟩, f', h1, h2⟩ fun b o hb e => ?_
    rw [hs.2 b (fun h => hb (by simp [h]))]; exact e
  done := fun s Q E ⟨⟨o, x1, x2, x2'⟩, f, x3, x4⟩ hQ => si_end hh x3 x1 x2 x2' x4 (List.getElem?_eq_none (by omega)) fun h' hk => hQ h' s.toks fun b o hb e => hk b o (fun h => hb (by simp [h])) e
  self := fun i s Q E ⟨_, f, x3, _⟩ hQ => by
    have hT : s.TypeIs (.ref I) "set_iterator" := ⟨_, x3, rfl⟩
    refine wpAny_pyIter_slot hT slot_si_iter (wpAny_call_entry slot_si_iter hT entry_si_iter ?_ (args_si_iter _))
    show wpAny _ _ (ret (.ref I)) _ _ s
    exact wpAny_pure ⟨_, rfl, "set_iterator", _, hT, slot_si_next.lookup, hQ⟩
end
end S0
namespace S0
open PySem PySem.Spec PyProof.Rows
section
variable {prog : Program} {w : World} {A : Around} {E : Value → Shared → Prop} {s : Shared}
variable {a : Addr} {o : Obj} {es : Array (Int × Value)} {ep : Nat} {t : SetTable}
theorem below_zero {xs : Array Nat} (h : Rs xs) : SetTable.below xs 0 = 0 := by
  obtain ⟨h1, h2, h3⟩ := below_spec h 0
  generalize SetTable.below xs 0 = p at *
  cases p with
  | zero => rfl
  | succ p => exact absurd (h2 0 (by omega) (by omega)) (Nat.not_lt_zero _)
theorem Rs.few {xs : Array Nat} (h : xs.size ≤ 1) : Rs xs := by
  unfold Rs
  rw [List.pairwise_iff_getElem]
  intro i j hi hj hij
  simp at hi hj
  omega
theorem drawn_vals {ps : List Nat} (hp : ps.Perm (List.range es.size)) : ∃ vs : List Value, vs.map some = (ps.map fun p => es[p]?.map (·.2)) ∧ vs.Perm (es.toList.map (·.2)) := by
  refine ⟨ps.map fun p => (es[p]?.map (·.2)).getD .none, ?_, ?_⟩
  · rw [List.map_map]
    refine List.map_congr_left fun p h => ?_
    have hlt : p < es.size := List.mem_range.mp (hp.mem_iff.mp h)
    show some ((es[p]?.map (·.2)).getD .none) = _
    rw [getElem?_pos es p hlt]; rfl
  · refine (hp.map _).trans (List.Perm.of_eq ?_)
    apply List.ext_getElem
    · simp
    · intro i h1 h2
      simp at h1
      simp [h1]
theorem iter_k {Q : Value → Shared → Prop} (ho : s.heap.get? a = some o) (hex : o.ExactSet) (hd : o.data = .set es ep t) (hf : t.fits es.size = true) (hb : es.size < scanBound) (tw : TW w t)
    (hQ : ∀ (h' : Heap) (d : Drawn) (I T : Addr) (vs : List Value) (f : Value), s.heap.objs.size ≤ I → T ≠ I → a ≠ I → (T = a ∨ s.heap.objs.size ≤ T) → (∀ b o, s.heap.get? b = some o → h'.get? b = some o) → vs.Perm (es.toList.map (·.2)) →
      h'.get? I = some (itO f 0 a es.size ep) → Way w a T es ep t vs 0 f h' → Q (.ref I) { s with heap := h', drawn := d }) :
    wpAny (model prog w) A (pyIter (.ref a)) Q E s := by
  have hT : s.TypeIs (.ref a) "set" := ⟨o, ho, hex.1⟩
  have hlt : a < s.heap.objs.size := Heap.lt_size ho
  refine wpAny_pyIter_slot hT PySem.F.slot_set_iter (wpAny_call_entry PySem.F.slot_set_iter hT entry_set_iter ?_ (PySem.F.args_set_iter_1 _))
  unfold Builtin.«frozenset.__iter__»
  refine wpAny_bind ?_
  show wpAny _ _ (pure a) _ _ _
  refine wpAny_pure (wpAny_bind ?_)
  unfold Builtin.Frozenset.sizeOf setEntries
  refine wpAny_bind (wpAny_bind (wpAny_setState_of ho hd hf (wpAny_pure (wpAny_pure ?_))))
  refine wpAny_bind ?_
  unfold setDrawn
  refine wpAny_bind (wpAny_setState_of ho hd hf ?_)
  dsimp only
  refine wpAny_bind (wpAny_byText (wpAny_pure ?_))
  show wpAny _ _ (if (!byT w && (!t.plain && decide (es.size > 1))) = true then _ else _) _ _ _
  by_cases hdr : (!byT w && (!t.plain && decide (es.size > 1))) = true
  · rw [if_pos hdr]
    refine wpAny_bind (wpAny_draw _ _ (by simp) fun ps d hp => ?_)
    obtain ⟨vs, v1, v2⟩ := drawn_vals hp
    refine wpAny_bind (wpAny_newTuple (items := ps.map fun i : Nat => rawInt (i : Int)) ?_ (by rw [List.length_map, hp.length_eq, List.length_range]; exact fits_of_scanBound hb))
    have hT1 : (s.heap.push { cls := .type "tuple", data := .seq (ps.map fun i : Nat => rawInt (i : Int)).toArray }).get? s.heap.objs.size = some { cls := .type "tuple", data := .seq (ps.map fun i : Nat => rawInt (i : Int)).toArray } := Heap.get?_push_size _ rfl
    have ho1 := Heap.get?_push_of_some { cls := .type "tuple", data := .seq (ps.map fun i : Nat => rawInt (i : Int)).toArray } ho
    unfold setEpoch
    refine wpAny_bind (wpAny_bind (wpAny_setState_of (s := { s with heap := s.heap.push { cls := .type "tuple", data := .seq (ps.map fun i : Nat => rawInt (i : Int)).toArray }, drawn := d }) ho1 hd hf (wpAny_pure ?_)))
    unfold newFields
    refine wpAny_bind (wpAny_newObj_type (wpAny_pure ⟨_, rfl, "set_iterator", _, ⟨_, Heap.get?_push_size _ rfl, rfl⟩, slot_si_next.lookup, ?_⟩))
    refine hQ _ d _ s.heap.objs.size vs (.ref s.heap.objs.size) (by rw [Heap.size_push]; exact Nat.le_succ _) (by rw [Heap.size_push]; exact Nat.ne_of_lt (Nat.lt_succ_self _)) (by rw [Heap.size_push]; exact Nat.ne_of_lt (Nat.lt_succ_of_lt hlt)) (.inr (Nat.le_refl _))
      (fun b o e => Heap.get?_push_of_some _ (Heap.get?_push_of_some _ e)) v2 (Heap.get?_push_size _ rfl) (.inr (.inr ⟨ps, rfl, ?_, v1⟩))
    exact ⟨_, Heap.get?_push_of_some _ hT1, rfl, 0, rfl⟩
  · rw [if_neg hdr]
    refine wpAny_bind (wpAny_pure ?_)
    unfold setEpoch
    refine wpAny_bind (wpAny_bind (wpAny_setState_of ho hd hf (wpAny_pure ?_)))
    unfold newFields
    refine wpAny_bind (wpAny_newObj_type (wpAny_pure ⟨_, rfl, "set_iterator", _, ⟨_, Heap.get?_push_size _ rfl, rfl⟩, slot_si_next.lookup, ?_⟩))
    have go : ∀ vs : List Value, vs.Perm (es.toList.map (·.2)) → Way w a a es ep t vs 0 (.int (0 : Nat) 0) (s.heap.push (itO (.int (0 : Nat) 0) 0 a es.size ep)) → Q (.ref s.heap.objs.size) { s with heap := s.heap.push (itO (.int (0 : Nat) 0) 0 a es.size ep) } := fun vs b1 b2 =>
      hQ _ s.drawn _ a vs (.int (0 : Nat) 0) (Nat.le_refl _) (Nat.ne_of_lt hlt) (Nat.ne_of_lt hlt) (.inl rfl) (fun b o e => Heap.get?_push_of_some _ e) b1 (Heap.get?_push_size _ rfl) b2
    cases hbt : byT w with
    | true => exact go _ ((pick_perm _ es).map _) (.inl ⟨hbt, ⟨0, rfl⟩, rfl⟩)
    | false =>
      rw [hbt] at hdr
      have hdr' : (!t.plain && decide (es.size > 1)) = false := by simpa using hdr
      rcases tw with z | ⟨z1, z2⟩
      · rw [hbt] at z; cases z
      · have hRs : Rs t.place := by
          cases hp : t.plain with
          | true => exact (z2 hp).1
          | false =>
            rw [hp] at hdr'
            refine Rs.few ?_
            simp only [SetTable.fits, Bool.and_eq_true, beq_iff_eq] at hf
            simp at hdr'
            omega
        exact go _ (List.Perm.refl _) (.inr (.inl ⟨hbt, hdr', z1, hRs, ⟨0, rfl, below_zero hRs⟩, rfl⟩))
theorem hint_set {Q : Bool → Shared → Prop} (hT : s.TypeIs (.ref a) "set") (h : Q false s) : wpAny (model prog w) A (Builtin.List.listLengthHint (.ref a)) Q E s := by
  unfold Builtin.List.listLengthHint
  refine wpAny_bind (wpAny_specialOf hT PySem.F.slot_set_len.lookup ?_)
  generalize hid : ("set.__len__" : String) = id0
  wp_delta
  rw [show splitId id0 = some ("set", "__len__") from by subst hid; decide +kernel]
  subst hid
  refine wpAny_bind (wpAny_isInstance (T := "set") (b := true) hT (by rw [isSubtype_type]; kernel_rfl) ?_)
  refine wpAny_ite_split (fun hab => absurd hab (by decide)) (fun _ => ?_)
  refine wpAny_ite_split (fun _ => ?_) (fun hab => absurd (by decide +kernel) hab)
  exact wpAny_bind (wpAny_typeOf hT (wpAny_pure h))
theorem collect_k {Q : List Value → Shared → Prop} (hh : A.handled = none) (ho : s.heap.get? a = some o) (hex : o.ExactSet) (hd : o.data = .set es ep t) (hf : t.fits es.size = true) (hb : es.size < scanBound) (tw : TW w t)
    (h : ∀ (vs : List Value) (h' : Heap) (tk : Nat) (d : Drawn), (∀ b o, s.heap.get? b = some o → h'.get? b = some o) → s.heap.objs.size ≤ h'.objs.size → vs.Perm (es.toList.map (·.2)) → Q vs { s with heap := h', toks := tk, drawn := d }) :
    wpAny (model prog w) A (collect (.ref a)) Q E s := by
  unfold collect
  refine wpAny_bind (wpAny_runValue (codeAny_builtin entry_proto_collect' ?_))
  show wpAny _ _ (do again (.builtin "list.__iadd__" ⟨[← newList [], .ref a], []⟩)) _ _ s
  refine wpAny_bind (wpAny_newList (wpAny_pure ⟨Code.quiet_builtin _ (by decide +kernel), codeAny_builtin entry_list_iadd' ?_⟩))
  rw [Around.under_plainId PySem.F.plain_list_iadd _]
  have hlt : a < s.heap.objs.size := Heap.lt_size ho
  have hLs : (s.heap.push (seqObj "list" #[] 0)).get? s.heap.objs.size = some (seqObj "list" #[] 0) := Heap.get?_push_size _ rfl
  have ho1 := Heap.get?_push_of_some (seqObj "list" #[] 0) ho
  show wpAny _ _ (Builtin.List.listExtendWith (.ref s.heap.objs.size) (.ref a) (.ref s.heap.objs.size)) _ _ { s with heap := s.heap.push (seqObj "list" #[] 0) }
  unfold Builtin.List.listExtendWith
  have hT1 : Shared.TypeIs { s with heap := s.heap.push (seqObj "list" #[] 0) } (.ref a) "set" := ⟨o, ho1, hex.1⟩
  refine wpAny_bind (wpAny_typeOf hT1 ?_)
  have e1 : Builtin.List.listSameRef (.ref s.heap.objs.size) (.ref a) = false := by
    simp [Builtin.List.listSameRef, Nat.ne_of_gt hlt]
  have e2 : (Value.type "set" == Value.type "list") = false := by decide
  have e3 : (Value.type "set" == Value.type "tuple") = false := by decide
  simp only [e1, e2, e3, Bool.or_false, Bool.false_eq_true, if_false]
  refine wpAny_bind (iter_k ho1 hex hd hf hb tw fun h1 d I T vs f b1 b2 b3 b4 b5 b6 b7 b8 => ?_)
  have sz : (s.heap.push (seqObj "list" #[] 0)).objs.size = s.heap.objs.size + 1 := Heap.size_push ..
  dsimp only at b1 b4
  rw [sz] at b1 b4
  have hT2 : Shared.TypeIs { s with heap := h1, drawn := d } (.ref a) "set" := ⟨o, b5 _ _ ho1, hex.1⟩
  refine wpAny_bind (wpAny_holding (hint_set hT2 ?_))
  have hL1 := b5 _ _ hLs
  have hvl : vs.length = es.size := by rw [b6.length_eq, List.length_map, Array.length_toList]
  have W := si_walks (prog := prog) (w := w) (A := A.in1) (ep := ep) (t := t) (by simp [hh]) b2 b3 hvl
  have nL : s.heap.objs.size ∉ [I, a, T] := by
    simp only [List.mem_cons, List.not_mem_nil, or_false, not_or]
    refine ⟨by omega, Nat.ne_of_gt hlt, ?_⟩
    rcases b4 with z | z
    · rw [z]; exact Nat.ne_of_gt hlt
    · omega
  have key : ∀ (h : Heap) (c₁ : Nat), (∀ b o, b ≠ s.heap.objs.size → h1.get? b = some o → h.get? b = some o) → h.get? s.heap.objs.size = some { cls := .type "list", data := .seq #[] c₁ } →
      ∀ R : Result → Shared → Prop, (∀ (vs' : Array Value) (h' : Heap) (tk c' : Nat), vs'.toList = vs → (∀ b o, s.heap.get? b = some o → h'.get? b = some o) → h'.get? s.heap.objs.size = some { cls := .type "list", dict := none, data := .seq vs' c', slots := #[] } →
        R (.ok (.ret (.ref s.heap.objs.size))) { s with heap := h', toks := tk, drawn := d }) →
      codeAny (model prog w) A (.builtin "list.extend.loop" ⟨[.ref s.heap.objs.size, .ref I, .ref s.heap.objs.size], []⟩) R { s with heap := h, drawn := d } := by
    intro h c₁ hk hS₁ R hR
    have nI : I ≠ s.heap.objs.size := Nat.ne_of_gt b1
    refine codeAny_extend_loopS W.toS (fits_of_scanBound hb) s.heap.objs.size nL _ es.size 0 _ #[] c₁ (by omega) (Nat.zero_le _) ⟨⟨o, hk _ _ (Nat.ne_of_lt hlt) (b5 _ _ ho1), hd, hf⟩, f, hk _ _ nI b7, b8.keep fun o e => hk _ _ ?_ e⟩ hS₁ (ItemsOf.nil _) fun s' acc' c' hm hS' hacc => ?_
    · rcases b4 with z | z
      · rw [z]; exact Nat.ne_of_lt hlt
      · omega
    · rw [Moved.eq_with hm]
      refine hR acc' s'.heap s'.toks c' ?_ (fun b o e => hm.heap b o (fun hmem => ?_) (hk b o (Nat.ne_of_lt (Heap.lt_size e)) (b5 _ _ (Heap.get?_push_of_some _ e)))) hS'
      · apply List.ext_getElem?
        intro j
        rw [Array.getElem?_toList]
        by_cases hj : j < es.size
        · have hj' : j < acc'.size := by rw [hacc.1]; exact hj
          have := hacc.2 j acc'[j] (getElem?_pos acc' j hj')
          rw [getElem?_pos acc' j hj', this]
        · rw [Array.getElem?_eq_none (by rw [hacc.1]; omega), List.getElem?_eq_none (by omega)]
      · have hb' := Heap.lt_size e
        rcases List.mem_cons.mp hmem with z | z
        · exact absurd z (Nat.ne_of_lt hb')
        · exact absurd (List.mem_singleton.mp z) (Nat.ne_of_lt (Nat.lt_trans hb' b1))
  have fin : ∀ (vs' : Array Value) (h' : Heap) (tk c' : Nat), vs'.toList = vs → (∀ b o, s.heap.get? b = some o → h'.get? b = some o) → h'.get? s.heap.objs.size = some { cls := .type "list", dict := none, data := .seq vs' c', slots := #[] } →
      wpAny (model prog w) A (do
        let o ← load s.heap.objs.size
        match o.data with
        | .seq xs _ => pure xs.toList
        | _ => unsupported "internal:collect") Q E { s with heap := h', toks := tk, drawn := d } := by
    intro vs' h' tk c' c1 c2 c3
    refine wpAny_bind (wpAny_load c3 (wpAny_pure (h _ h' tk d c2 (Nat.le_of_lt (Heap.lt_size c3)) ?_)))
    rw [c1]
    exact b6
  refine wpAny_ite_split (fun _ => ?_) (fun _ => wpAny_pure ⟨plainId_quiet PySem.F.plain_extend_loop _, key h1 0 (fun _ _ _ e => e) hL1 _ fin⟩)
  refine wpAny_bind (wpAny_rule (wpAny_bind ?_))
  show wpAny _ _ (updateSeq s.heap.objs.size (·.push .none) >>= fun _ => updateSeq s.heap.objs.size (·.pop)) _ _ _
  refine wpAny_bind (wpAny_updateSeq hL1 rfl ?_)
  have hL2 := Heap.get?_update_self (Obj.mapSeq (·.push Value.none)) hL1 rfl
  refine wpAny_updateSeq (hz := by seq_fits) hL2 rfl ?_
  have hL3 := Heap.get?_update_self (Obj.mapSeq (·.pop)) hL2 rfl
  refine wpAny_pure ⟨plainId_quiet PySem.F.plain_extend_loop _, key _ _ (fun b o hb e => ?_) hL3 _ fin⟩
  exact (Heap.get?_update_other _ _ (Ne.symm hb)).trans ((Heap.get?_update_other _ _ (Ne.symm hb)).trans e)
end
section
variable {prog : Program} {w : World} {A : Around} {E : Value → Shared → Prop} {s : Shared}
theorem sorted_k {a : Addr} {ks : List Int} {Q : Value → Shared → Prop} (hh : A.handled = none) (hS : SetK (PySem.intKind prog w) numOf s.heap a ks)
    (h : ∀ (h' : Heap) (tk : Nat) (d : Drawn) (l : Addr) (its : List Value) (n : Nat) (ns : List Int), s.heap.objs.size ≤ l → (∀ b o, s.heap.get? b = some o → h'.get? b = some o) → h'.get? l = some (seqObj "list" its.toArray n) →
      IntsAre its ns → ns.Perm ks → ns.Pairwise (· ≤ ·) → Q (.ref l) { s with heap := h', toks := tk, drawn := d }) :
    wpAny (model prog w) A (call (.builtin "sorted") [.ref a]) Q E s := by
  obtain ⟨o, es, ep, t, ho, hex, hd, hf, hb, hel, hpm, htw⟩ := hS
  refine Calls.call_function_entry kind_sorted plain_sorted entry_sorted (args_sorted1 _) ?_
  unfold Builtin.«sorted»
  refine wpAny_bind (m := checkCount "sorted" 1 1 _) (wpAny_pure ?_)
  refine wpAny_bind (collect_k hh ho hex hd hf hb htw fun vs h' tk d hk hz hp => ?_)
  have hI : IntsAre vs (vs.map numOf) := by
    refine intsAre_map vs fun v hv => ?_
    obtain ⟨e, he, rfl⟩ := List.mem_map.mp (hp.mem_iff.mp hv)
    obtain ⟨⟨k, h1, _⟩, _⟩ := hel e he
    obtain ⟨tt, h2⟩ := Value.isInt_shape h1
    exact ⟨k, tt, h2⟩
  have hvk : (vs.map numOf).Perm ks := by
    refine (hp.map numOf).trans ?_
    rw [List.map_map]; exact hpm
  have hvl : vs.length ≤ sizeLine := by
    rw [hp.length_eq, List.length_map, Array.length_toList]; exact fits_of_scanBound hb
  refine wpAny_bind (wpAny_newList ?_ hvl)
  have hoL : (h'.push (seqObj "list" vs.toArray 0)).get? h'.objs.size = some (seqObj "list" vs.toArray 0) := Heap.get?_push_size _ rfl
  show wpAny _ _ _ _ _ { s with heap := h'.push (seqObj "list" vs.toArray 0), toks := tk, drawn := d }
  refine wpAny_bind (wpAny_holding (wpAny_call_entry slot_list_sort ⟨_, hoL, rfl⟩ entry_list_sort (sort_ints hoL hI hvl fun out ns d1 d2 d3 => ⟨_, rfl, ?_⟩) (args_list_sort _)))
  obtain ⟨n', hn'⟩ : ∃ n', (sortedHeap (h'.push (seqObj "list" vs.toArray 0)) h'.objs.size vs out).get? h'.objs.size = some (seqObj "list" out n') := sortedHeap_at hoL
  refine wpAny_pure ⟨_, rfl, h _ tk d h'.objs.size out.toList n' ns hz (fun b o e => ?_) (by rw [hn']) d1 (d2.trans hvk) d3⟩
  have e' := hk b o e
  have hb' : b < h'.objs.size := Heap.lt_size e'
  rw [sortedHeap_old (Nat.ne_of_lt hb') (by rw [Heap.size_push]; exact Nat.lt_succ_of_lt hb')]
  exact Heap.get?_push_of_some _ e'
end
end S0
namespace L3
open PySem PySem.Spec PyProof.Rows L2 S0
def SetI (prog : Program) (w : World) (a : Addr) (ks : List Int) : HO := .ext fun h => SetK (PySem.intKind prog w) numOf h a ks
theorem kf_int (prog : Program) (w : World) : ∀ k v, (PySem.intKind prog w).is k v = true → numOf v = k := fun k v h => by
  obtain ⟨t, rfl⟩ := Value.isInt_shape h
  rfl
theorem _root_.L2.Inv.drw {X : Cx} {pins : List (Addr × Obj)} {σ : List (Option V)} {H : Hp} {s : Shared} (I : Inv X pins σ H s) (d : Drawn) : Inv X pins σ H { s with drawn := d } :=
  ⟨I.ok, I.os, I.bare, I.base, I.loc, I.cell, I.free, I.freeC, I.pin, I.hok, I.len⟩
section
variable {X : Cx}
theorem call_setLI (hc : X.calm = true) : CallR X (.type "set") (fun xs H Q => ∃ (p : Addr) (ns : List Int), xs = [.ref p] ∧ SqL X.K H p (ns.map V.int) ∧ ns.length + 1 < scanBound ∧ ∀ l, H l = none → Q (.ref l) (upd H l (SetI X.prog X.w l (ddL ns)))) := by
  intro pins s σ H xs us Q I r h
  obtain ⟨p, ns, rfl, hp, hb, q⟩ := h
  obtain ⟨u, rfl, ru⟩ := vals1 r
  cases ru
  obtain ⟨its, rv, pt, _⟩ := I.list hp
  have hl := rv.length
  rw [List.length_map] at hl
  have hI : IntsAre its ns := intsAre_of rv
  refine call_k (knd := PySem.intKind X.prog X.w) (kf := numOf) (val := fun i => ns.getD i default) (kf_int _ _) (I.ok.hd hc) pt.isList (fun i v hv => ?_) (by rw [List.size_toArray]; omega) fun h' tk hS kp => ?_
  · obtain ⟨t, rfl⟩ := IntsAre.int_at hI i v (by rw [List.getElem?_toArray] at hv; exact hv)
    exact ⟨intKind_is _ _ _ _, rfl⟩
  · have e : its.toArray.size = ns.length := by rw [List.size_toArray]; exact hl.symm
    rw [e, ddT_eq] at hS
    refine ⟨.ref s.heap.objs.size, _, I.laid (t' := tk) (o := SetI X.prog X.w s.heap.objs.size (ddL ns)) kp (Nat.le_refl _) ⟨hS, ?_, fun h1 h2 z1 z2 => z1.at z2⟩, rfl, q _ (I.hok.fresh (Nat.le_refl _))⟩
    obtain ⟨o, _, _, _, e, _⟩ := hS
    exact ⟨o, e⟩
theorem call_sortedS (hc : X.calm = true) : CallR X (.builtin "sorted") (fun xs H Q => ∃ (p : Addr) (ks : List Int), xs = [.ref p] ∧ H p = some (SetI X.prog X.w p ks) ∧
    ∀ l (ms : List Int), H l = none → ms.Perm ks → ms.Pairwise (· ≤ ·) → Q (.ref l) (upd H l (.lst (ms.map V.int)))) := by
  intro pins s σ H xs us Q I r h
  obtain ⟨p, ks, rfl, hp, q⟩ := h
  obtain ⟨u, rfl, ru⟩ := vals1 r
  cases ru
  obtain ⟨hS, _⟩ := I.hok p _ hp
  have hkl := SetK.len hS
  refine sorted_k (I.ok.hd hc) hS fun h' tk d l its n ns hl hk hL b1 b2 b3 => ?_
  refine ⟨.ref l, _, (I.laid (a := l) (o := .lst (ns.map V.int)) (t' := tk) hk hl ?_).drw d, rfl, q l ns (I.hok.fresh hl) b2 b3⟩
  refine ⟨?_, its, n, vals_ints b1, hL⟩
  rw [List.length_map, b2.length_eq]
  exact fits_of_scanBound hkl
end
end L3
namespace Lw
open PySem L2 L3
def top (i : Nat) : Stmt := PySem.Challenge.pw_rollcode_k12_writes_that_were_torn.main.body.getD i (.Pass ⟨0, 0, 0, 0⟩)
abbrev s_coded : Stmt := top 6
abbrev s_letter_digits : Stmt := top 10
abbrev s_key_of : Stmt := top 11
abbrev s_count_digits : Stmt := top 12
abbrev s_press_of : Stmt := top 13
abbrev s_Button___init : Stmt := inClass (top 15) 0
abbrev s_Button_is_worn : Stmt := inClass (top 15) 2
abbrev s_Button_must_write : Stmt := inClass (top 15) 3
abbrev s_Button_spare_cell : Stmt := inClass (top 15) 4
abbrev s_Button_write_bound : Stmt := inClass (top 15) 5
abbrev s_Button_press_once : Stmt := inClass (top 15) 1
abbrev s_Button_cell_out : Stmt := inClass (top 15) 6
abbrev s_Button_cell_torn : Stmt := inClass (top 15) 7
abbrev s_Button_count_now : Stmt := inClass (top 15) 11
abbrev s_Button_cells_now : Stmt := inClass (top 15) 12
abbrev s_law_box : Stmt := top 17
abbrev s_law_take : Stmt := top 18
abbrev s_law_table : Stmt := top 19
abbrev s_law_key : Stmt := top 20
abbrev s_law_name : Stmt := top 21
abbrev s_law_begun : Stmt := top 22
abbrev s_law_pressed : Stmt := top 23
abbrev s_law_out : Stmt := top 24
abbrev s_law_torn : Stmt := top 25
abbrev s_law_alike : Stmt := top 26
abbrev s_law_lost : Stmt := top 27
abbrev s_law : Stmt := top 28
theorem sc_coded : FnScope (["table", "key", "digits", "row", "shift", "place", "ahead"] : List Str) (["table", "key", "digits"] : List Str) (defScope s_coded) := ⟨rfl, rfl, rfl, by decide +kernel, rfl, by decide +kernel, by decide +kernel⟩
theorem sc_letter_digits : FnScope (["name", "digits", "letter", "place"] : List Str) (["name"] : List Str) (defScope s_letter_digits) := ⟨rfl, rfl, rfl, by decide +kernel, rfl, by decide +kernel, by decide +kernel⟩
theorem sc_key_of : FnScope (["table", "key", "name", "sums", "place", "digit"] : List Str) (["table", "key", "name"] : List Str) (defScope s_key_of) := ⟨rfl, rfl, rfl, by decide +kernel, rfl, by decide +kernel, by decide +kernel⟩
theorem sc_count_digits : FnScope (["count"] : List Str) (["count"] : List Str) (defScope s_count_digits) := ⟨rfl, rfl, rfl, by decide +kernel, rfl, by decide +kernel, by decide +kernel⟩
theorem sc_press_of : FnScope (["table", "key", "name", "age", "count", "deed", "four", "five"] : List Str) (["table", "key", "name", "age", "count", "deed"] : List Str) (defScope s_press_of) := ⟨rfl, rfl, rfl, by decide +kernel, rfl, by decide +kernel, by decide +kernel⟩
theorem sc_Button___init : FnScope (["self", "name", "table", "key", "age", "step"] : List Str) (["self", "name", "table", "key", "age", "step"] : List Str) (defScope s_Button___init) := ⟨rfl, rfl, rfl, by decide +kernel, rfl, by decide +kernel, by decide +kernel⟩
theorem sc_Button_is_worn : FnScope (["self"] : List Str) (["self"] : List Str) (defScope s_Button_is_worn) := ⟨rfl, rfl, rfl, by decide +kernel, rfl, by decide +kernel, by decide +kernel⟩
theorem sc_Button_must_write : FnScope (["self"] : List Str) (["self"] : List Str) (defScope s_Button_must_write) := ⟨rfl, rfl, rfl, by decide +kernel, rfl, by decide +kernel, by decide +kernel⟩
theorem sc_Button_spare_cell : FnScope (["self"] : List Str) (["self"] : List Str) (defScope s_Button_spare_cell) := ⟨rfl, rfl, rfl, by decide +kernel, rfl, by decide +kernel, by decide +kernel⟩
theorem sc_Button_write_bound : FnScope (["self", "spare"] : List Str) (["self"] : List Str) (defScope s_Button_write_bound) := ⟨rfl, rfl, rfl, by decide +kernel, rfl, by decide +kernel, by decide +kernel⟩
theorem sc_Button_press_once : FnScope (["self", "deed", "press"] : List Str) (["self", "deed"] : List Str) (defScope s_Button_press_once) := ⟨rfl, rfl, rfl, by decide +kernel, rfl, by decide +kernel, by decide +kernel⟩
theorem sc_Button_cell_out : FnScope (["self", "greatest"] : List Str) (["self"] : List Str) (defScope s_Button_cell_out) := ⟨rfl, rfl, rfl, by decide +kernel, rfl, by decide +kernel, by decide +kernel⟩
theorem sc_Button_cell_torn : FnScope (["self"] : List Str) (["self"] : List Str) (defScope s_Button_cell_torn) := ⟨rfl, rfl, rfl, by decide +kernel, rfl, by decide +kernel, by decide +kernel⟩
theorem sc_Button_count_now : FnScope (["self"] : List Str) (["self"] : List Str) (defScope s_Button_count_now) := ⟨rfl, rfl, rfl, by decide +kernel, rfl, by decide +kernel, by decide +kernel⟩
theorem sc_Button_cells_now : FnScope (["self"] : List Str) (["self"] : List Str) (defScope s_Button_cells_now) := ⟨rfl, rfl, rfl, by decide +kernel, rfl, by decide +kernel, by decide +kernel⟩
theorem sc_law_box : FnScope (["_law_script", "_law_k", "_law_cell", "_law_fold", "_law_one"] : List Str) (["_law_script", "_law_k"] : List Str) (defScope s_law_box) := ⟨rfl, rfl, rfl, by decide +kernel, rfl, by decide +kernel, by decide +kernel⟩
theorem sc_law_take : FnScope (["_law_box_here", "_law_many", "_law_digit", "_law_m", "_law_turn"] : List Str) (["_law_box_here", "_law_many"] : List Str) (defScope s_law_take) := ⟨rfl, rfl, rfl, by decide +kernel, rfl, by decide +kernel, by decide +kernel⟩
theorem sc_law_table : FnScope (["_law_box_here", "_law_rest"] : List Str) (["_law_box_here"] : List Str) (defScope s_law_table) := ⟨rfl, rfl, rfl, by decide +kernel, rfl, by decide +kernel, by decide +kernel⟩
theorem sc_law_key : FnScope (["_law_box_here"] : List Str) (["_law_box_here"] : List Str) (defScope s_law_key) := ⟨rfl, rfl, rfl, by decide +kernel, rfl, by decide +kernel, by decide +kernel⟩
theorem sc_law_name : FnScope (["_law_box_here", "_law_some"] : List Str) (["_law_box_here"] : List Str) (defScope s_law_name) := ⟨rfl, rfl, rfl, by decide +kernel, rfl, by decide +kernel, by decide +kernel⟩
theorem sc_law_begun : FnScope (["_law_step"] : List Str) (["_law_step"] : List Str) (defScope s_law_begun) := ⟨rfl, rfl, rfl, by decide +kernel, rfl, by decide +kernel, by decide +kernel⟩
theorem sc_law_pressed : FnScope (["_law_own", "_law_place"] : List Str) (["_law_own"] : List Str) (defScope s_law_pressed) := ⟨rfl, rfl, rfl, by decide +kernel, rfl, by decide +kernel, by decide +kernel⟩
theorem sc_law_out : FnScope (["_law_own"] : List Str) (["_law_own"] : List Str) (defScope s_law_out) := ⟨rfl, rfl, rfl, by decide +kernel, rfl, by decide +kernel, by decide +kernel⟩
theorem sc_law_torn : FnScope (["_law_own"] : List Str) (["_law_own"] : List Str) (defScope s_law_torn) := ⟨rfl, rfl, rfl, by decide +kernel, rfl, by decide +kernel, by decide +kernel⟩
theorem sc_law_alike : FnScope (["_law_found", "_law_due"] : List Str) (["_law_found", "_law_due"] : List Str) (defScope s_law_alike) := ⟨rfl, rfl, rfl, by decide +kernel, rfl, by decide +kernel, by decide +kernel⟩
theorem sc_law_lost : FnScope (["_law_button", "_law_own", "_law_torn_here"] : List Str) (["_law_button", "_law_own", "_law_torn_here"] : List Str) (defScope s_law_lost) := ⟨rfl, rfl, rfl, by decide +kernel, rfl, by decide +kernel, by decide +kernel⟩
theorem sc_law : FnScope (["_law_script", "_law_k", "_law_box_here", "_law_made", "_law_turn", "_law_step", "_law_row", "_law_button", "_law_name_here", "_law_table_here", "_law_key_here", "_law_age", "_law_own", "_law_counts", "_law_way", "_law_deed", "_law_due"] : List Str) (["_law_script"] : List Str) (defScope s_law) := ⟨rfl, rfl, rfl, by decide +kernel, rfl, by decide +kernel, by decide +kernel⟩
structure Txt (K : PySem.W.Frag) (mg : Str → Option Value) (tk : Nat → Tok) : Prop where
  g_DIGITS : mg "DIGITS" = some (.int 16 (tk 0))
  g_KEY_PLACES : mg "KEY_PLACES" = some (.int 4 (tk 1))
  g_COUNTS : mg "COUNTS" = some (.int 4096 (tk 2))
  b_isinstance : mg "isinstance" = none
  b_bool : mg "bool" = none
  b_int : mg "int" = none
  b_tuple : mg "tuple" = none
  b_all : mg "all" = none
  b_len : mg "len" = none
  b_abs : mg "abs" = none
  b_list : mg "list" = none
  b_range : mg "range" = none
  b_str : mg "str" = none
  b_zip : mg "zip" = none
  b_ord : mg "ord" = none
  b_sum : mg "sum" = none
  b_min : mg "min" = none
  b_enumerate : mg "enumerate" = none
  b_max : mg "max" = none
  b_set : mg "set" = none
  b_sorted : mg "sorted" = none
section
variable {P : Program} {w : World} {K : PySem.W.Frag} {mg : Str → Option Value} {base : Heap} {tk : Nat → Tok}
theorem ok_law_take (a : At K mg "_law_take" s_law_take ["_law_box_here", "_law_many"]) (T : Txt K mg tk) : Df P w K mg base "_law_take" ["_law_box_here", "_law_many"] 1 spTake2 := by
  refine a.dq sc_law_take (fun vs H Q E h => ?_) (fun f cdv A outer s H vs Q E hr h => ?_)
  · obtain ⟨b, many, c, rfl, _⟩ := h
    rfl
  · obtain ⟨b, many, c, rfl, ⟨n, m, k, hb, m0, m1, k0, k1⟩, hc, h0, h1, q⟩ := h
    refine ⟨_, (qss_cons (qs_if (qt_cmpR op_gt (qe_ix ix_list (qv 0) qe_int (fun _ _ => rfl)) qe_int (nomark _)) (qss_cons (qs_set (i := 2) sc_law_take.nd rfl (Or.inl rfl) (qe_op op_mod (qe_ix ix_list (qv 0) qe_int (fun _ _ => rfl)) (qv 1)))
      (qss_cons (qs_asg (qe_op op_fdiv (qe_ix ix_list (qv 0) qe_int (fun _ _ => rfl)) (qv 1)) (qg_sub (qv 0) qe_int set_list))
      (qss_one (qs_ret (qv 2))))) qss_nil)
      (qss_cons (qs_asg (qe_op op_add (qe_ix ix_list (qv 0) qe_int (fun _ _ => rfl)) qe_int) (qg_sub (qv 0) qe_int set_list))
      (qss_cons (qs_set (i := 3) sc_law_take.nd rfl (Or.inl rfl) (qe_op op_add (qe_ix ix_list (qv 0) qe_int (fun _ _ => rfl)) (qe_op op_mul qe_int (qe_ix ix_list (qv 0) qe_int (fun _ _ => rfl)))))
      (qss_cons (qs_for PassesOwn.never rfl (qi_range1 rfl T.b_range (qac qe_int qa_nil)) (qg_name (i := 4) sc_law_take.nd rfl (Or.inl rfl))
      (qss_one (qs_set (i := 3) sc_law_take.nd rfl (Or.inl rfl) (qe_op op_mod (qe_op op_add (qe_op op_add (qe_op op_mul (qv 3) (qv 3)) (qe_op op_mul qe_int (qe_ix ix_list (qv 0) qe_int (fun _ _ => rfl)))) qe_int) qe_int))))
      (qss_one (qs_ret (qe_op op_mod (qe_op op_fdiv (qv 3) qe_int) (qv 1)))))))), ?_⟩
    refine ⟨_, rfl, b, _, _, _, rfl, rfl, SqL.of hb, rfl, _, _, rfl, rfl, _, rfl, ?_⟩
    refine ite2 (fun _ => ?_) (fun _ => ?_)
    · refine ⟨_, rfl, b, _, _, _, rfl, rfl, SqL.of hb, rfl, _, rfl, _, _, rfl, rfl, h0, ?_⟩
      refine ⟨_, rfl, b, _, _, _, rfl, rfl, SqL.of hb, rfl, _, rfl, _, _, rfl, rfl, ⟨h0, h1⟩, _, rfl, b, _, _, 0, rfl, rfl, hb, rfl, ?_⟩
      refine ⟨_, rfl, ?_⟩
      refine q _ _ (Int.emod_nonneg _ (by omega)) (Int.emod_lt_of_pos _ h0) ⟨fun c o hc e => ?_, _, _, _, upd_same, m0, m1, k0, by omega⟩
      rw [upd_ne hc]
      exact e
    · refine ⟨_, rfl, b, _, _, _, rfl, rfl, SqL.of hb, rfl, _, _, rfl, rfl, _, rfl, b, _, _, 2, rfl, rfl, hb, rfl, ?_⟩
      have hb2 : (upd H b (BoxL n m (k + 1))) b = some (BoxL n m (k + 1)) := upd_same
      refine ⟨_, rfl, b, _, _, _, rfl, rfl, SqL.of hb2, rfl, _, rfl, b, _, _, _, rfl, rfl, SqL.of hb2, rfl, _, _, rfl, rfl, .inl ⟨by decide, by decide⟩, _, _, rfl, rfl, ?_⟩
      refine ⟨3, rfl, by decide, by decide, for_range (n := 3) (Pv := fun i σ H2 => H2 = upd H b (BoxL n m (k + 1)) ∧ ∃ (z : Int) (o : Option V), σ = [some (.ref b), some (.int many), none, some (.int z), o] ∧ 0 ≤ z ∧ z < 2 ^ 64) ⟨rfl, _, _, rfl, by omega, by omega⟩ ?_ ?_⟩
      · rintro i σ H2 hi ⟨rfl, z, o, rfl, z0, z1⟩
        refine ⟨_, rfl, _, rfl, _, _, rfl, rfl, .inl ⟨by omega, by omega⟩, _, rfl, b, _, _, _, rfl, rfl, SqL.of hb2, rfl, _, _, rfl, rfl, .inl ⟨by decide, by decide⟩, _, _, rfl, rfl, _, _, rfl, rfl, _, _, rfl, rfl, (by decide : (0 : Int) < 2305843009213693951), rfl, _, _, rfl, ?_, ?_⟩
        · exact Int.emod_nonneg _ (by decide)
        · exact Int.lt_trans (Int.emod_lt_of_pos _ (by decide)) (by decide)
      · rintro σ H2 ⟨rfl, z, o, rfl, z0, z1⟩
        refine ⟨_, rfl, _, _, rfl, rfl, ⟨by decide, by decide⟩, _, rfl, _, _, rfl, rfl, h0, ?_⟩
        refine q _ _ (Int.emod_nonneg _ (by omega)) (Int.emod_lt_of_pos _ h0) ⟨fun c o hc e => ?_, _, _, _, upd_same, m0, m1, by omega, by omega⟩
        rw [upd_ne hc]
        exact e
theorem ok_law_box (a : At K mg "_law_box" s_law_box ["_law_script", "_law_k"]) (T : Txt K mg tk) : Df P w K mg base "_law_box" ["_law_script", "_law_k"] 1 (spBox2 K) := by
  refine a.dq sc_law_box (fun vs H Q E h => ?_) (fun f cdv A outer s H vs Q E hr h => ?_)
  · obtain ⟨b, ns, k, rfl, _⟩ := h
    rfl
  · obtain ⟨b, ns, k, rfl, hS, q⟩ := h
    refine ⟨_, (qss_cons (qs_asg (qe_tup (qac qe_int (qac qe_int qa_nil))) (qg_tup rfl (qgs_cons (qg_name (i := 2) sc_law_box.nd rfl (Or.inl rfl)) (qgs_cons (qg_name (i := 3) sc_law_box.nd rfl (Or.inl rfl)) qgs_nil))))
      (qss_cons (qs_if (qt_cmpR op_lt (qv 1) (qe_callB call_len_seq (by rfl) T.b_len PySem.boot_len (qac (qv 0) qa_nil)) (nomark _)) (qss_one (qs_set (i := 2) sc_law_box.nd rfl (Or.inl rfl) (qe_ix ix_list (qv 0) (qv 1) (fun _ _ => rfl)))) qss_nil)
      (qss_cons (qs_for PassesOwn.never rfl (qi_list (qe_slice sl_list (qv 0) qo_none (qo_some qe_int))) (qg_name (i := 4) sc_law_box.nd rfl (Or.inl rfl))
      (qss_one (qs_set (i := 3) sc_law_box.nd rfl (Or.inl rfl) (qe_op op_mod (qe_op op_add (qe_op op_mul (qv 3) qe_int) (qv 4)) qe_int))))
      (qss_one (qs_ret (qe_lst (qac (qe_op op_mul (qe_callB call_abs (by rfl) T.b_abs PyProof.Rows.boot_abs (qac (qv 2) qa_nil)) (qe_callTy call_int1 (by rfl) T.b_int PyProof.Rows.boot_int (qac (qe_cmpR op_ge (qe_callB call_abs (by rfl) T.b_abs PyProof.Rows.boot_abs (qac (qv 2) qa_nil)) (qe_op op_pow qe_int qe_int) (nomark _)) qa_nil))) (qac (qe_op op_mod (qe_op op_add (qe_op op_add (qe_op op_mul (qv 3) qe_int) (qv 2)) (qe_op op_mul qe_int (qv 1))) qe_int) (qac qe_int qa_nil))))))))), ?_⟩
    refine ⟨by show 2 ≤ sizeLine; decide, fun tp htp => ⟨tp, _, rfl, SqT.of upd_same, rfl, _, _, rfl, _, _, rfl, rfl, ?_⟩⟩
    have s1 := Same.upd (o := .tup [.int 0, .int 7]) htp
    refine ⟨_, rfl, _, rfl, b, _, rfl, .inl (s1.seq hS), _, _, rfl, rfl, _, rfl, ?_⟩
    refine ite2 (fun hk => ?_) (fun _ => ?_)
    · have hk' : k < ns.length := by have := of_decide_eq_true hk; rw [List.length_map] at this; omega
      refine ⟨_, rfl, _, rfl, b, _, _, .int ns[k], rfl, rfl, s1.seq hS, atI_nat (by rw [List.getElem?_map, List.getElem?_eq_getElem hk']; rfl), ?_⟩
      refine ⟨_, rfl, _, rfl, b, _, rfl, s1.seq hS, fun l hl => ⟨l, rfl, ⟨_, SqL.of upd_same⟩, ?_⟩⟩
      rw [cut_ints]
      have s2 := s1.trans (Same.upd (o := .lst ((cutI ns none (some 63)).map V.int)) hl)
      refine for_list (K := K) (a := l) (xs := (cutI ns none (some 63)).map V.int) (fun i σ H2 => H2 = upd (upd H tp (.tup [.int 0, .int 7])) l (.lst ((cutI ns none (some 63)).map V.int)) ∧ ∃ (z : Int) (o : Option V), σ = [some (.ref b), some (.int (k : Int)), some (.int ns[k]), some (.int z), o] ∧ 0 ≤ z ∧ z < 2147483647) ⟨rfl, _, _, rfl, by decide, by decide⟩ (fun i σ H2 _ ⟨e, _⟩ => by subst e; exact SqL.of upd_same) ?_ ?_
      · rintro i x σ H2 hx ⟨rfl, z, o, rfl, z0, z1⟩
        obtain ⟨y, rfl, hy⟩ := ints_get hx
        refine ⟨_, rfl, _, _, rfl, rfl, .inr ⟨by decide, by decide⟩, _, rfl, _, _, rfl, rfl, _, _, rfl, rfl, (by decide : (0 : Int) < 2147483647), rfl, _, _, rfl, Int.emod_nonneg _ (by decide), Int.emod_lt_of_pos _ (by decide)⟩
      · rintro σ H2 ⟨rfl, z, o, rfl, z0, z1⟩
        refine ⟨_, rfl, _, rfl, _, rfl, _, rfl, _, _, rfl, rfl, ⟨by decide, by decide, by decide⟩, _, _, rfl, rfl, .inr ⟨_, rfl, ?_⟩⟩
        refine ⟨_, _, rfl, rfl, .inr ⟨b01_lo _, b01_hi _⟩, _, rfl, _, _, rfl, rfl, .inr ⟨by decide, by decide⟩, _, rfl, _, _, rfl, rfl, _, rfl, _, _, rfl, rfl, .inl ⟨by decide, by decide⟩, _, _, rfl, rfl, _, _, rfl, rfl, (by decide : (0 : Int) < 2305843009213693951), ?_⟩
        exact ⟨by show 3 ≤ sizeLine; decide, fun p hp => q _ _ (s2n hp s2) (s2.trans (Same.upd hp)) ⟨_, _, _, upd_same, Int.emod_nonneg _ (by decide), Int.lt_trans (Int.emod_lt_of_pos _ (by decide)) (by decide), by decide, by decide⟩⟩
    · refine ⟨_, rfl, _, rfl, b, _, rfl, s1.seq hS, fun l hl => ⟨l, rfl, ⟨_, SqL.of upd_same⟩, ?_⟩⟩
      rw [cut_ints]
      have s2 := s1.trans (Same.upd (o := .lst ((cutI ns none (some 63)).map V.int)) hl)
      refine for_list (K := K) (a := l) (xs := (cutI ns none (some 63)).map V.int) (fun i σ H2 => H2 = upd (upd H tp (.tup [.int 0, .int 7])) l (.lst ((cutI ns none (some 63)).map V.int)) ∧ ∃ (z : Int) (o : Option V), σ = [some (.ref b), some (.int (k : Int)), some (.int 0), some (.int z), o] ∧ 0 ≤ z ∧ z < 2147483647) ⟨rfl, _, _, rfl, by decide, by decide⟩ (fun i σ H2 _ ⟨e, _⟩ => by subst e; exact SqL.of upd_same) ?_ ?_
      · rintro i x σ H2 hx ⟨rfl, z, o, rfl, z0, z1⟩
        obtain ⟨y, rfl, hy⟩ := ints_get hx
        refine ⟨_, rfl, _, _, rfl, rfl, .inr ⟨by decide, by decide⟩, _, rfl, _, _, rfl, rfl, _, _, rfl, rfl, (by decide : (0 : Int) < 2147483647), rfl, _, _, rfl, Int.emod_nonneg _ (by decide), Int.emod_lt_of_pos _ (by decide)⟩
      · rintro σ H2 ⟨rfl, z, o, rfl, z0, z1⟩
        refine ⟨_, rfl, _, rfl, _, rfl, _, rfl, _, _, rfl, rfl, ⟨by decide, by decide, by decide⟩, _, _, rfl, rfl, .inr ⟨_, rfl, ?_⟩⟩
        refine ⟨_, _, rfl, rfl, .inr ⟨b01_lo _, b01_hi _⟩, _, rfl, _, _, rfl, rfl, .inr ⟨by decide, by decide⟩, _, rfl, _, _, rfl, rfl, _, rfl, _, _, rfl, rfl, .inl ⟨by decide, by decide⟩, _, _, rfl, rfl, _, _, rfl, rfl, (by decide : (0 : Int) < 2305843009213693951), ?_⟩
        exact ⟨by show 3 ≤ sizeLine; decide, fun p hp => q _ _ (s2n hp s2) (s2.trans (Same.upd hp)) ⟨_, _, _, upd_same, Int.emod_nonneg _ (by decide), Int.lt_trans (Int.emod_lt_of_pos _ (by decide)) (by decide), by decide, by decide⟩⟩
end
section
variable {P : Program} {w : World} {K : PySem.W.Frag} {mg : Str → Option Value} {base : Heap} {tk : Nat → Tok}
theorem ok_coded (a : At K mg "coded" s_coded ["table", "key", "digits"]) (T : Txt K mg tk) : Df P w K mg base "coded" ["table", "key", "digits"] 1 (spCoded K) := by
  refine a.dq sc_coded (fun vs H Q E h => ?_) (fun f cdv A outer s H vs Q E hr h => ?_)
  · obtain ⟨a, b, c, t, ks, ds, rfl, _⟩ := h
    rfl
  · obtain ⟨a, b, c, t, ks, ds, rfl, ha, hb, hc, lt, l1, l64, q⟩ := h
    refine ⟨_, (qss_cons (qs_set (i := 3) sc_coded.nd rfl (Or.inl rfl) (qe_callTy call_list_of (by rfl) T.b_list PyProof.Rows.boot_list (qac (qv 2) qa_nil)))
      (qss_cons (qs_for PassesOwn.never rfl (qi_seq (qv 1)) (qg_name (i := 4) sc_coded.nd rfl (Or.inl rfl))
      (qss_one (qs_for PassesOwn.never rfl (qi_range1 rfl T.b_range (qac (qe_callB call_len_seq (by rfl) T.b_len PySem.boot_len (qac (qv 2) qa_nil)) qa_nil)) (qg_name (i := 5) sc_coded.nd rfl (Or.inl rfl))
      (qss_cons (qs_set (i := 6) sc_coded.nd rfl (Or.inl rfl) (qe_ix ix_list (qv 3) (qe_op op_sub (qv 5) qe_int) (fun _ _ => rfl)))
      (qss_one (qs_asg (qe_ix (IxR.or ix_list ix_tup) (qv 0) (qe_op op_mod (qe_op op_add (qe_op op_add (qe_op op_add (qe_ix ix_list (qv 3) (qv 5) (fun _ _ => rfl)) (qv 4)) (qv 5)) (qv 6)) (qe_glob (v := .int 16) rfl T.g_DIGITS ⟨_, rfl⟩)) (fun _ _ => rfl)) (qg_sub (qv 3) (qv 5) set_list)))))))
      (qss_one (qs_ret (qe_callTy call_tuple_of (by rfl) T.b_tuple PyProof.Rows.boot_tuple (qac (qv 3) qa_nil)))))), ?_⟩
    refine ⟨_, rfl, c, _, rfl, hc, fun l hl => ?_⟩
    have s1 : Same H _ := Same.upd (o := .lst (ds.map V.int)) hl
    refine ⟨_, rfl, b, rfl, for_seq (K := K) (H0 := H) hb (fun j σ H2 => Same H H2 ∧ ∃ o4 o5 o6, σ = [some (.ref a), some (.ref b), some (.ref c), some (.ref l), o4, o5, o6] ∧ H2 l = some (.lst ((encK t (ks.take j) ds).map V.int))) ⟨s1, _, _, _, rfl, upd_same⟩ (fun j σ' H' h => h.1) ?_ ?_⟩
    · rintro j x σ H2 hx ⟨s2, o4, o5, o6, rfl, hm⟩
      obtain ⟨shift, rfl, hks⟩ := ints_get hx
      rw [take_succ_ints hks, encK_app]
      have hrl : (encK t (ks.take j) ds).length = ds.length := encK_len
      generalize encK t (ks.take j) ds = r at hm hrl
      refine ⟨_, rfl, c, _, rfl, hc.same s2, _, rfl, ?_, ?_, ?_⟩
      · omega
      · rw [List.length_map]; omega
      rw [show ((((ds.map V.int).length : Nat) : Int)).toNat = ds.length by rw [List.length_map]; rfl]
      refine for_range (n := ds.length) (Pv := fun i σ H3 => Same H H3 ∧ ∃ o5 o6, σ = [some (.ref a), some (.ref b), some (.ref c), some (.ref l), some (.int shift), o5, o6] ∧ H3 l = some (.lst ((encR t shift r i).map V.int))) ⟨s2, _, _, rfl, hm⟩ ?_ ?_
      · rintro i σ H3 hi ⟨s3, o5, o6, rfl, hm3⟩
        have hrl3 : (encR t shift r i).length = ds.length := by rw [encR_len, hrl]
        generalize hr' : encR t shift r i = r' at hm3 hrl3
        have hi' : i < r'.length := by omega
        refine ⟨_, rfl, _, rfl, _, _, rfl, rfl, l, _, _, _, rfl, rfl, SqL.of hm3, atI_ah (i := i) (by omega) hi', ?_⟩
        refine ⟨_, rfl, _, rfl, _, rfl, l, _, _, _, rfl, rfl, SqL.of hm3, atI_getD (i := i) (by omega) hi', _, rfl, _, _, rfl, rfl, _, rfl, _, _, rfl, rfl, _, rfl, _, _, rfl, rfl, _, _, rfl, rfl, (by decide : (0 : Int) < 16), ?_⟩
        have dm := dig_mod (r'.getD i 0 + shift + (0 + (i : Int)) + ah r' i)
        refine (ha.same s3).ix (atI_getD (i := ((r'.getD i 0 + shift + (0 + (i : Int)) + ah r' i) % 16).toNat) (by have := dm.1; omega) (by rw [lt]; have := dm.1; have := dm.2; omega)) ?_
        refine ⟨_, rfl, _, rfl, l, _, _, i, rfl, rfl, hm3, ixN_int (by omega) (by rw [List.length_map]; exact hi'), same_write s3 hl, _, _, rfl, ?_⟩
        rw [upd_same, ints_set, encR, hr', enc1, Int.zero_add]
      · rintro σ H3 ⟨s3, o5, o6, rfl, hm3⟩
        exact ⟨s3, _, _, _, rfl, hm3⟩
    · rintro σ H2 ⟨s2, o4, o5, o6, rfl, hm⟩
      rw [List.length_map, List.take_length] at hm
      exact ⟨_, rfl, l, _, rfl, .inl ⟨SqL.of hm, fun p hp => q p _ (s2.trans (Same.upd hp)) (s2n hp s2) upd_same⟩⟩
end
section
variable {P : Program} {w : World} {K : PySem.W.Frag} {mg : Str → Option Value} {base : Heap} {tk : Nat → Tok}
theorem ok_letter_digits (a : At K mg "letter_digits" s_letter_digits ["name"]) (T : Txt K mg tk) : Df P w K mg base "letter_digits" ["name"] 1 spLetters := by
  refine a.dq sc_letter_digits (fun vs H Q E h => ?_) (fun f cdv A outer s H vs Q E hr h => ?_)
  · obtain ⟨z, rfl, _⟩ := h
    rfl
  · obtain ⟨z, rfl, hz, q⟩ := h
    refine ⟨_, (qss_cons (qs_set (i := 1) sc_letter_digits.nd rfl (Or.inl rfl) (qe_lst qa_nil))
      (qss_cons (qs_for PassesOwn.never rfl (qi_str (qv 0)) (qg_name (i := 2) sc_letter_digits.nd rfl (Or.inl rfl))
      (qss_cons (qs_set (i := 3) sc_letter_digits.nd rfl (Or.inl rfl) (qe_op op_sub (qe_callB call_ord (by rfl) T.b_ord PyProof.Rows.boot_ord (qac (qv 2) qa_nil)) (qe_callB call_ord (by rfl) T.b_ord PyProof.Rows.boot_ord (qac qe_str qa_nil))))
      (qss_cons (qs_expr (qe_bm PySem.F.plainAttrs_list PySem.F.slot_list_append PySem.F.type_list_append mr_append (qv 1) (qac (qe_op op_mod (qv 3) (qe_glob (v := .int 16) rfl T.g_DIGITS ⟨_, rfl⟩)) qa_nil)))
      (qss_one (qs_expr (qe_bm PySem.F.plainAttrs_list PySem.F.slot_list_append PySem.F.type_list_append mr_append (qv 1) (qac (qe_op op_fdiv (qv 3) (qe_glob (v := .int 16) rfl T.g_DIGITS ⟨_, rfl⟩)) qa_nil)))))))
      (qss_one (qs_ret (qv 1))))), ?_⟩
    refine ⟨by show 0 ≤ sizeLine; decide, fun l hl => ?_⟩
    refine ⟨_, rfl, z, rfl, nm_ascii hz, for_str (fun i σ H2 => Same H H2 ∧ ∃ o2 o3, σ = [some (.str z), some (.ref l), o2, o3] ∧ H2 l = some (.lst ((letDs (z.cps.toList.take i)).map V.int))) ⟨Same.upd hl, _, _, rfl, upd_same⟩ ?_ ?_⟩
    · rintro i c σ H2 hc ⟨s2, o2, o3, rfl, hm⟩
      have hc' := cps_get hc
      rw [take_cs hc', letDs_app]
      have hln : (letDs (z.cps.toList.take i)).length ≤ 16 := by rw [letDs_len, List.length_take]; have := hz.2.2; omega
      generalize letDs (z.cps.toList.take i) = ds at hm hln
      have eX : ((((⟨#[c]⟩ : Str).cps.getD 0 0 : Nat) : Int) - ((("a" : Str).cps.getD 0 0 : Nat) : Int)) = (c : Int) - 97 := rfl
      have big : (100 : Nat) < sizeLine := by decide
      refine ⟨_, rfl, _, rfl, rfl, _, rfl, rfl, _, _, rfl, rfl, ?_⟩
      show tSeq _ _ _ [some (V.str z), some (V.ref l), some (V.str ⟨#[c]⟩), some (V.int ((c : Int) - 97))] H2
      refine ⟨_, rfl, .inl ⟨rfl, _, SqL.of hm⟩, _, rfl, _, _, rfl, rfl, (by decide : (0 : Int) < 16), l, _, _, rfl, rfl, hm, by rw [List.length_map]; omega, ?_⟩
      have w1 : Same H (upd H2 l (.lst (ds.map V.int ++ [V.int (((c : Int) - 97) % 16)]))) := same_write s2 hl
      refine ⟨_, rfl, .inl ⟨rfl, _, SqL.of upd_same⟩, _, rfl, _, _, rfl, rfl, ⟨by decide, by decide⟩, l, _, _, rfl, rfl, upd_same, by rw [List.length_append, List.length_map, List.length_singleton]; omega, same_write w1 hl, _, _, rfl, ?_⟩
      rw [upd_same, List.map_append, List.append_assoc]
      rfl
    · rintro σ H2 ⟨s2, o2, o3, rfl, hm⟩
      rw [show z.cps.size = z.cps.toList.length from rfl, List.take_length] at hm
      exact ⟨_, rfl, q l H2 s2 hl hm⟩
theorem ok_key_of (a : At K mg "key_of" s_key_of ["table", "key", "name"]) (T : Txt K mg tk) (D_letter_digits : Df P w K mg base "letter_digits" ["name"] 1 spLetters) (D_coded : Df P w K mg base "coded" ["table", "key", "digits"] 1 (spCoded K)) : Df P w K mg base "key_of" ["table", "key", "name"] 2 (spKeyOf K) := by
  refine a.dq sc_key_of (fun vs H Q E h => ?_) (fun f cdv A outer s H vs Q E hr h => ?_)
  · obtain ⟨a, b, z, t, ks, rfl, _⟩ := h
    rfl
  · obtain ⟨a, b, z, t, ks, rfl, ha, hb, hz, lt, q⟩ := h
    refine ⟨_, (qss_cons (qs_set (i := 3) sc_key_of.nd rfl (Or.inl rfl) (qe_op op_rep (qe_lst (qac qe_int qa_nil)) (qe_glob (v := .int 4) rfl T.g_KEY_PLACES ⟨_, rfl⟩)))
      (qss_cons (qs_for PassesOwn.never rfl (qi_enum rfl T.b_enumerate (qac (qe_def D_letter_digits (hr.mono (by first | decide | omega)) (qac (qv 2) qa_nil)) qa_nil)) (qg_tup rfl (qgs_cons (qg_name (i := 4) sc_key_of.nd rfl (Or.inl rfl)) (qgs_cons (qg_name (i := 5) sc_key_of.nd rfl (Or.inl rfl)) qgs_nil)))
      (qss_one (qs_augS (qv 3) (qe_op op_mod (qv 4) (qe_glob (v := .int 4) rfl T.g_KEY_PLACES ⟨_, rfl⟩)) get_list (qv 5) ip_add set_list)))
      (qss_one (qs_ret (qe_def D_coded (hr.mono (by first | decide | omega)) (qac (qv 0) (qac (qv 1) (qac (qe_comp (own := ["total"]) (fr := []) (js := []) rfl (qi_list (qv 3)) rfl (fun _ _ h => nomatch h) rfl (bsc0 rfl (by decide +kernel) (by decide +kernel) (by decide +kernel)) (fun _ _ _ _ => qg_name (i := 0) (show List.Nodup (["total"] : List Str) from by decide +kernel) rfl (Or.inl rfl) (.inr rfl)) (fun _ _ _ _ => (qe_op op_mod (qv 0) (qe_glob (v := .int 16) rfl T.g_DIGITS ⟨_, rfl⟩)))) qa_nil)))))))), ?_⟩
    refine ⟨by show 1 ≤ sizeLine; decide, fun p0 hp0 => ⟨p0, 4, _, rfl, rfl, upd_same, by decide, by decide, by show 4 ≤ sizeLine; decide, fun l hl => ?_⟩⟩
    have s1 := (Same.upd (o := .lst [V.int 0]) hp0)
    have s2 := s1.trans (Same.upd (o := .lst (List.replicate (4 : Int).toNat [V.int 0]).flatten) hl)
    have hlH : H l = none := s2n hl s1
    refine ⟨_, rfl, z, rfl, hz, fun ld H1 s3 hldn hld => ?_⟩
    have hm1 := s3 _ _ (upd_same (H := upd H p0 (.lst [V.int 0])) (a := l) (o := .lst (List.replicate (4 : Int).toNat [V.int 0]).flatten))
    have ndl : ld ≠ l := fun y => by rw [y, upd_same] at hldn; cases hldn
    generalize hds : letDs z.cps.toList = ds at hld q
    have hdl : ds.length ≤ 16 := by rw [← hds, letDs_len]; have := hz.2.2; omega
    refine ⟨ld, rfl, ⟨_, SqL.of hld⟩, for_enum (K := K) (a := ld) (xs := ds.map V.int) (fun i σ H2 => ∃ (o4 o5 : Option V), σ = [some (.ref a), some (.ref b), some (.str z), some (.ref l), o4, o5] ∧ H2 l = some (.lst ((sumsL ds i).map V.int)) ∧ H2 ld = some (.lst (ds.map V.int)) ∧ Same H H2)
      ⟨none, none, rfl, hm1, hld, s2.trans s3⟩ (fun i σ H2 _ ⟨_, _, _, _, hd, _⟩ => SqL.of hd) ?_ ?_⟩
    · rintro i x σ H2 pp hx ⟨o4, o5, rfl, hm, hd2, sm⟩ hpp
      obtain ⟨dg, rfl, hz'⟩ := ints_get hx
      have hi : i < ds.length := (List.getElem?_eq_some_iff.mp hz').1
      have eg : ds.getD i 0 = dg := by rw [List.getD_eq_getElem?_getD, hz']; rfl
      have sp2 := Same.upd (o := .tup [.int i, .int dg]) hpp
      have hm' := sp2 _ _ hm
      have h4 : i % 4 < (sumsL ds i).length := Nat.mod_lt i (by decide)
      have e4 : (i : Int) % 4 = ((i % 4 : Nat) : Int) := by omega
      refine ⟨pp, _, rfl, SqT.of upd_same, rfl, _, _, rfl, _, _, rfl, rfl, ?_⟩
      refine ⟨_, rfl, _, rfl, _, _, rfl, rfl, (by decide : (0 : Int) < 4), l, _, i % 4, .int ((sumsL ds i).getD (i % 4) 0), rfl, (by show V.int ((i : Int) % 4) = _; rw [e4]), hm', ?_, _, rfl, _, _, rfl, rfl, l, _, _, i % 4, rfl, rfl, hm', ixN_int e4 (by rw [List.length_map]; exact h4), _, _, rfl, ?_, ?_, ?_⟩
      · rw [ints_at h4, List.getD_eq_getElem?_getD, List.getElem?_eq_getElem h4]; rfl
      · rw [upd_same, ints_set, ← eg, sums_step]
      · rw [upd_ne ndl]; exact sp2 _ _ hd2
      · exact same_write (sm.trans sp2) hlH
    · rintro σ H2 ⟨o4, o5, rfl, hm, hd2, sm⟩
      rw [List.length_map] at hm
      refine ⟨_, rfl, _, rfl, _, rfl, l, rfl, ⟨_, SqL.of hm⟩, comp_list (xs := (sumsL ds ds.length).map V.int) (by show 4 ≤ sizeLine; decide) (fun i ys H3 => ys = ((ownK ds).take i).map V.int ∧ H3 = H2) ⟨by simp, rfl⟩ (fun i ys H3 ⟨_, e⟩ => by rw [e]; exact SqL.of hm) ?_ ?_⟩
      · rintro i ys H3 x hx _ ⟨rfl, rfl⟩
        obtain ⟨y, rfl, hy⟩ := ints_get hx
        refine ⟨_, rfl, _, _, rfl, rfl, (by decide : (0 : Int) < 16), ?_, rfl⟩
        have : (ownK ds)[i]? = some (y % 16) := by unfold ownK; rw [List.getElem?_map, hy]; rfl
        rw [List.take_add_one, this]; simp
      · rintro ys H3 hyl ⟨rfl, rfl⟩ p hp
        rw [show (ownK ds).take ((sumsL ds ds.length).map V.int).length = ownK ds from rfl]
        have su := Same.upd (o := .lst ((ownK ds).map V.int)) hp
        exact ⟨a, b, p, t, ks, ownK ds, rfl, (ha.same sm).same su, (hb.same sm).same su, .lst upd_same, lt, by rw [ownK_len]; decide, by rw [ownK_len]; decide, fun p' H' s' hn' hp' => q p' H' ((sm.trans su).trans s') (s2n hn' (sm.trans su)) hp'⟩
end
section
variable {P : Program} {w : World} {K : PySem.W.Frag} {mg : Str → Option Value} {base : Heap} {tk : Nat → Tok}
theorem ok_count_digits (a : At K mg "count_digits" s_count_digits ["count"]) (T : Txt K mg tk) : Df P w K mg base "count_digits" ["count"] 1 spCD := by
  refine a.dq sc_count_digits (fun vs H Q E h => ?_) (fun f cdv A outer s H vs Q E hr h => ?_)
  · obtain ⟨c, rfl, _⟩ := h
    rfl
  · obtain ⟨c, rfl, q⟩ := h
    refine ⟨_, (qss_one (qs_ret (qe_tup (qac (qe_op op_mod (qv 0) (qe_glob (v := .int 16) rfl T.g_DIGITS ⟨_, rfl⟩)) (qac (qe_op op_mod (qe_op op_fdiv (qv 0) (qe_glob (v := .int 16) rfl T.g_DIGITS ⟨_, rfl⟩)) (qe_glob (v := .int 16) rfl T.g_DIGITS ⟨_, rfl⟩)) (qac (qe_op op_fdiv (qv 0) qe_int) qa_nil)))))), ?_⟩
    exact ⟨_, rfl, _, _, rfl, rfl, (by decide : (0 : Int) < 16), _, rfl, _, _, rfl, rfl, ⟨by decide, by decide⟩, _, _, rfl, rfl, (by decide : (0 : Int) < 16), _, rfl, _, _, rfl, rfl, ⟨by decide, by decide⟩, by show 3 ≤ sizeLine; decide, fun p hp => q p _ (Same.upd hp) upd_same⟩
theorem four_bd {c d : Int} (h0 : 0 ≤ c) (h1 : c < 4096) (hd : dig d) : ∀ z ∈ fourI c d, 0 ≤ z ∧ z ≤ 1000000 := fun z hz => by
  have := five_dig h0 h1 hd z (List.mem_append_left _ hz)
  exact ⟨this.1, Int.le_trans (Int.le_of_lt this.2) (by decide)⟩
theorem ok_press_of (a : At K mg "press_of" s_press_of ["table", "key", "name", "age", "count", "deed"]) (T : Txt K mg tk) (D_count_digits : Df P w K mg base "count_digits" ["count"] 1 spCD) (D_key_of : Df P w K mg base "key_of" ["table", "key", "name"] 2 (spKeyOf K)) (D_coded : Df P w K mg base "coded" ["table", "key", "digits"] 1 (spCoded K)) : Df P w K mg base "press_of" ["table", "key", "name", "age", "count", "deed"] 3 (spPress K) := by
  refine a.dq sc_press_of (fun vs H Q E h => ?_) (fun f cdv A outer s H vs Q E hr h => ?_)
  · obtain ⟨a, b, z, age, c, d, t, ks, rfl, _⟩ := h
    rfl
  · obtain ⟨a, b, z, age, c, d, t, ks, rfl, ha, hb, hz, lt, c0, c1, hd, q⟩ := h
    refine ⟨_, (qss_cons (qs_set (i := 6) sc_press_of.nd rfl (Or.inl rfl) (qe_op op_catW (qe_def D_count_digits (hr.mono (by first | decide | omega)) (qac (qv 4) qa_nil)) (qe_tup (qac (qv 5) qa_nil))))
      (qss_cons (qs_set (i := 7) sc_press_of.nd rfl (Or.inl rfl) (qe_op op_catW (qv 6) (qe_tup (qac (qe_op op_mod (qe_callB (call_sumI rfl) (by rfl) T.b_sum PyProof.Rows.boot_sum (qac (qv 6) qa_nil)) (qe_glob (v := .int 16) rfl T.g_DIGITS ⟨_, rfl⟩)) qa_nil))))
      (qss_one (qs_ret (qe_tup (qac (qv 2) (qac (qv 3) (qac (qe_def D_coded (hr.mono (by first | decide | omega)) (qac (qv 0) (qac (qe_def D_key_of (hr.mono (by first | decide | omega)) (qac (qv 0) (qac (qv 1) (qac (qv 2) qa_nil)))) (qac (qv 7) qa_nil)))) qa_nil)))))))), ?_⟩
    refine ⟨_, rfl, c, rfl, fun p1 H1 s1 hp1 => ?_⟩
    refine ⟨_, rfl, by show 1 ≤ sizeLine; decide, fun p2 hp2 => ?_⟩
    have u2 := Same.upd (o := .tup [V.int d]) hp2
    refine ⟨p1, p2, _, _, rfl, rfl, u2 _ _ hp1, upd_same, by show 4 ≤ sizeLine; decide, fun p3 H3 s3 hp3 => ?_⟩
    have hp3' : H3 p3 = some (.tup ((fourI c d).map V.int)) := hp3
    have S3 := (s1.trans u2).trans s3
    refine ⟨_, rfl, _, rfl, p3, fourI c d, rfl, .tup hp3', by show 4 ≤ 1000; decide, four_bd c0 c1 hd, _, _, rfl, rfl, (by decide : (0 : Int) < 16), by show 1 ≤ sizeLine; decide, fun p4 hp4 => ?_⟩
    have u4 := Same.upd (o := .tup [V.int ((fourI c d).sum % 16)]) hp4
    refine ⟨p3, p4, _, _, rfl, rfl, u4 _ _ hp3', upd_same, by show 5 ≤ sizeLine; decide, fun p5 H5 s5 hp5 => ?_⟩
    have hp5' : H5 p5 = some (.tup ((fiveI c d).map V.int)) := hp5
    have S5 := (S3.trans u4).trans s5
    refine ⟨_, rfl, _, rfl, _, rfl, _, rfl, _, rfl, _, rfl, a, b, z, t, ks, rfl, ha.same S5, hb.same S5, hz, lt, fun pk H6 s6 _ hpk => ?_⟩
    refine ⟨_, rfl, a, pk, p5, t, keyZ t ks z, fiveI c d, rfl, (ha.same S5).same s6, .tup hpk, .tup (s6 _ _ hp5'), lt, by rw [five_len]; decide, by rw [five_len]; decide, fun pc H7 s7 _ hpc => ?_⟩
    refine ⟨by show 3 ≤ sizeLine; decide, fun p hp => ?_⟩
    have u8 := Same.upd (o := .tup [V.str z, .int age, .ref pc]) hp
    exact q p pc _ (((S5.trans s6).trans s7).trans u8) upd_same (u8 _ _ hpc)
end
section
variable {P : Program} {w : World} {K : PySem.W.Frag} {mg : Str → Option Value} {base : Heap} {tk : Nat → Tok}
theorem ok_law_table (a : At K mg "_law_table" s_law_table ["_law_box_here"]) (T : Txt K mg tk) (D_law_take : Df P w K mg base "_law_take" ["_law_box_here", "_law_many"] 1 spTake2) : Df P w K mg base "_law_table" ["_law_box_here"] 2 spTable2 := by
  refine a.dq sc_law_table (fun vs H Q E h => ?_) (fun f cdv A outer s H vs Q E hr h => ?_)
  · obtain ⟨x, c, rfl, _⟩ := h
    rfl
  · obtain ⟨b, c, rfl, hb, hc, q⟩ := h
    refine ⟨_, (qss_cons (qs_set (i := 1) sc_law_table.nd rfl (Or.inr rfl) (qe_callTy (call_listR rfl) (by rfl) T.b_list PyProof.Rows.boot_list (qac (qe_callTy call_rng1 (by rfl) T.b_range PyProof.Rows.boot_range (qac qe_int qa_nil)) qa_nil)))
      (qss_one (qs_ret (qe_callTy call_tuple_of (by rfl) T.b_tuple PyProof.Rows.boot_tuple (qac (qe_comp (own := ["_law_k"]) (fr := ["_law_rest", "_law_box_here"]) (js := [1, 0]) rfl (qi_range1 rfl T.b_range (qac qe_int qa_nil)) rfl (clo2 rfl rfl) rfl (bsc2 rfl (by decide +kernel) (by decide +kernel) (by decide +kernel) rfl rfl rfl rfl rfl rfl) (fun _ _ _ _ => qg_name (i := 0) (show List.Nodup (["_law_k", "_law_rest", "_law_box_here"] : List Str) from by decide +kernel) rfl (Or.inl rfl) (.inr rfl)) (fun _ _ _ _ => (qe_bmK (K := K) rfl PySem.F.plainAttrs_list PySem.F.slot_list_pop PySem.F.type_list_pop mr_popAt (qv 1) (qac (qe_def D_law_take (hr.mono (by first | decide | omega)) (qac (qv 2) (qac (qe_callB (call_len_seqK (K := K) rfl) (by rfl) T.b_len PySem.boot_len (qac (qv 1) qa_nil)) qa_nil))) qa_nil)))) qa_nil))))), ?_⟩
    refine ⟨_, rfl, fun r hr0 => ⟨r, 16, rfl, upd_same, by decide, fun l hl => ?_⟩⟩
    rw [digs_V]
    have s1 := (Same.upd (o := .rng 0 16) hr0).trans (Same.upd (o := .lst (digs.map V.int)) hl)
    have nlb : l ≠ b := boxc_fresh ((Same.upd hr0).grc hb).bx hl
    refine ⟨_, rfl, by decide, by decide, comp_range (n := 16) (by decide) (fun i ys H2 => GrC b (c + i) H H2 ∧ ∃ ms zs : List Int, H2 l = some (.lst (ms.map V.int)) ∧ ys = zs.map V.int ∧ ms.length + i = 16 ∧ (zs ++ ms).Perm digs) ⟨s1.grc hb, digs, [], upd_same, rfl, by rw [digs_len], .refl _⟩ ?_ ?_⟩
    · rintro i ys H2 hi hl2 ⟨G2, ms, zs, hm, rfl, hml, pm⟩
      refine ⟨_, rfl, .inl ⟨rfl, _, SqL.of hm⟩, ?_⟩
      refine ⟨_, rfl, _, rfl, l, _, rfl, .inl (SqL.of hm), b, _, _, rfl, G2.bx, by omega, by rw [List.length_map]; omega, by rw [List.length_map]; omega, fun x H3 x0 x1 g3 => ?_⟩
      rw [List.length_map] at x1
      obtain ⟨k, rfl⟩ : ∃ k : Nat, x = (k : Int) := ⟨x.toNat, by omega⟩
      have hk : k < ms.length := by omega
      have hm3 := g3.kp _ _ nlb hm
      refine ⟨l, _, _, k, .int ms[k], rfl, rfl, hm3, by omega, by omega, ?_, ?_, ?_⟩
      · rw [List.length_map]; exact seqIndex_nat hk
      · rw [List.getElem?_map, List.getElem?_eq_getElem hk]; rfl
      · refine ⟨⟨fun c o hcb e => ?_, ?_⟩, ms.eraseIdx k, zs ++ [ms[k]], ?_, by simp, ?_, ?_⟩
        · by_cases z : c = l
          · subst z
            rw [Same.upd hr0 _ _ e] at hl; cases hl
          · rw [upd_ne z]; exact g3.kp _ _ hcb (G2.kp _ _ hcb e)
        · obtain ⟨n, m, k', e, r⟩ := g3.bx
          exact ⟨n, m, k', by rw [upd_ne nlb.symm]; exact e, r⟩
        · rw [upd_same, erase_ints]
        · rw [List.length_eraseIdx_of_lt hk]; omega
        · exact (perm_pop hk).trans pm
    · rintro ys H2 hyl ⟨G2, ms, zs, hm, rfl, hml, pm⟩ p hp
      have e0 : ms = [] := List.eq_nil_of_length_eq_zero (by omega)
      subst e0
      rw [List.append_nil] at pm
      refine ⟨p, _, rfl, .inl ⟨SqL.of upd_same, fun t ht => ?_⟩⟩
      have G3 := G2.same (Same.upd (o := .lst (zs.map V.int)) hp)
      exact q t zs _ (G3.same (Same.upd ht)) (G3.fresh (hb.mono (by omega)) ht) upd_same pm
theorem ok_law_key (a : At K mg "_law_key" s_law_key ["_law_box_here"]) (T : Txt K mg tk) (D_law_take : Df P w K mg base "_law_take" ["_law_box_here", "_law_many"] 1 spTake2) : Df P w K mg base "_law_key" ["_law_box_here"] 2 spKeyT2 := by
  refine a.dq sc_law_key (fun vs H Q E h => ?_) (fun f cdv A outer s H vs Q E hr h => ?_)
  · obtain ⟨x, c, rfl, _⟩ := h
    rfl
  · obtain ⟨b, c, rfl, hb, hc, q⟩ := h
    refine ⟨_, (qss_one (qs_ret (qe_callTy call_tuple_of (by rfl) T.b_tuple PyProof.Rows.boot_tuple (qac (qe_comp (own := ["_law_k"]) (fr := ["_law_box_here"]) (js := [0]) rfl (qi_range1 rfl T.b_range (qac (qe_op op_add qe_int (qe_def D_law_take (hr.mono (by first | decide | omega)) (qac (qv 0) (qac qe_int qa_nil)))) qa_nil)) rfl (clo1 rfl) rfl (bsc1 rfl (by decide +kernel) (by decide +kernel) (by decide +kernel) rfl rfl rfl) (fun _ _ _ _ => qg_name (i := 0) (show List.Nodup (["_law_k", "_law_box_here"] : List Str) from by decide +kernel) rfl (Or.inl rfl) (.inr rfl)) (fun _ _ _ _ => (qe_def D_law_take (hr.mono (by first | decide | omega)) (qac (qv 1) (qac qe_int qa_nil))))) qa_nil)))), ?_⟩
    refine ⟨_, rfl, b, _, _, rfl, hb, by omega, by decide, by decide, fun r H1 r0 r1 g1 => ⟨_, _, rfl, rfl, _, rfl, by omega, by omega, ?_⟩⟩
    obtain ⟨n, rfl, n8⟩ : ∃ n : Nat, r = (n : Int) ∧ n < 8 := ⟨r.toNat, by omega, by omega⟩
    have en : (1 + (n : Int)).toNat = n + 1 := by omega
    rw [en]
    refine comp_range (n := n + 1) (Nat.le_trans (by omega : n + 1 ≤ 8) (by decide)) (fun i ys H2 => GrC b (c + 1 + i) H H2 ∧ ∃ ks : List Int, ys = ks.map V.int ∧ digR ks) ⟨g1, [], rfl, fun _ h => nomatch h⟩ ?_ ?_
    · rintro i ys H2 hi hl2 ⟨G2, ks, rfl, hk⟩
      refine ⟨_, rfl, b, _, _, rfl, G2.bx, by omega, by decide, by decide, fun x H3 x0 x1 g3 => ⟨G2.trans g3, ks ++ [x], by simp, fun z hz => ?_⟩⟩
      rcases List.mem_append.mp hz with y | y
      · exact hk z y
      · rw [List.mem_singleton.mp y]; exact ⟨x0, x1⟩
    · rintro ys H2 hyl ⟨G2, ks, rfl, hk⟩ p hp
      rw [List.length_map] at hyl
      refine ⟨p, _, rfl, .inl ⟨SqL.of upd_same, fun t ht => ?_⟩⟩
      have G3 := G2.same (Same.upd (o := .lst (ks.map V.int)) hp)
      exact q t ks _ ((G3.same (Same.upd ht)).mono (by omega)) (G3.fresh (hb.mono (by omega)) ht) upd_same hk (by omega) (by omega)
theorem ok_law_name (a : At K mg "_law_name" s_law_name ["_law_box_here"]) (T : Txt K mg tk) (D_law_take : Df P w K mg base "_law_take" ["_law_box_here", "_law_many"] 1 spTake2) : Df P w K mg base "_law_name" ["_law_box_here"] 2 spName2 := by
  refine a.dq sc_law_name (fun vs H Q E h => ?_) (fun f cdv A outer s H vs Q E hr h => ?_)
  · obtain ⟨x, c, rfl, _⟩ := h
    rfl
  · obtain ⟨b, c, rfl, hb, hc, q⟩ := h
    refine ⟨_, (qss_cons (qs_set (i := 1) sc_law_name.nd rfl (Or.inl rfl) (qe_lst (qac qe_str (qac qe_str (qac qe_str (qac qe_str (qac qe_str (qac qe_str (qac qe_str (qac qe_str (qac qe_str (qac qe_str (qac qe_str (qac qe_str qa_nil))))))))))))))
      (qss_one (qs_ret (qe_ix ix_list (qv 1) (qe_def D_law_take (hr.mono (by first | decide | omega)) (qac (qv 0) (qac qe_int qa_nil))) (fun _ _ => rfl))))), ?_⟩
    refine ⟨by show 12 ≤ sizeLine; decide, fun l hl => ⟨_, rfl, _, rfl, b, _, _, rfl, ((Same.upd hl).grc hb).bx, by omega, by decide, by decide, fun r H2 r0 r1 g2 => ?_⟩⟩
    obtain ⟨v, hv, hvm⟩ := draw_at (xs := [V.str "a", .str "b", .str "ab", .str "ba", .str "aaaaaaaa", .str "aaaaaaab", .str "door", .str "gate", .str "x", .str "xy", .str "yx", .str "zz"]) r0 r1
    refine ⟨l, _, r, v, rfl, rfl, SqL.of (g2.kp l _ (boxc_fresh hb hl) upd_same), hv, ?_⟩
    have G := ((Same.upd (o := .lst [V.str "a", .str "b", .str "ab", .str "ba", .str "aaaaaaaa", .str "aaaaaaab", .str "door", .str "gate", .str "x", .str "xy", .str "yx", .str "zz"]) hl).grc hb).trans g2
    simp only [List.mem_cons, List.not_mem_nil, or_false] at hvm
    rcases hvm with rfl | rfl | rfl | rfl | rfl | rfl | rfl | rfl | rfl | rfl | rfl | rfl
    all_goals exact q _ _ G ⟨by decide +kernel, by decide +kernel, by decide +kernel⟩
end
section
variable {P : Program} {w : World} {K : PySem.W.Frag} {mg : Str → Option Value} {base : Heap} {tk : Nat → Tok}
theorem ok_law_alike (a : At K mg "_law_alike" s_law_alike ["_law_found", "_law_due"]) (T : Txt K mg tk) : ∀ n : Nat, n ≤ 8 → Df P w K mg base "_law_alike" ["_law_found", "_law_due"] (n + 1) (spAl n)
  | 0, _ => by
    refine a.dq sc_law_alike (fun vs H Q E h => ?_) (fun f cdv A outer s H vs Q E hr h => ?_)
    · obtain ⟨x, y, rfl, _⟩ := h
      rfl
    · obtain ⟨x, y, rfl, e, q⟩ := h
      refine ⟨_, (qss_cons (qs_if (qt_val (qe_callB call_isiB (by rfl) T.b_isinstance PyProof.Rows.boot_isinstance (qac (qv 1) (qac (qe_tup (qac (qe_bltn (v := .ty "list") rfl T.b_list PyProof.Rows.boot_list rfl) (qac (qe_bltn (v := .ty "tuple") rfl T.b_tuple PyProof.Rows.boot_tuple rfl) qa_nil))) qa_nil)))) qss_never qss_nil)
      (qss_cons (qs_if (QW.pt (qw_or (qt_val (qe_callB call_isiA (by rfl) T.b_isinstance PyProof.Rows.boot_isinstance (qac (qv 1) (qac (qe_bltn (v := .ty "str") rfl T.b_str PyProof.Rows.boot_str rfl) qa_nil)))) (qw_or1 (qt_cmpR op_isN (qv 1) qe_non (nomark _))))) (qss_one (qs_ret (qe_cmpR op_eq (qv 0) (qv 1) (nomark _)))) qss_nil)
      (qss_one (qs_ret (qe_and (qe_callB call_isiA (by rfl) T.b_isinstance PyProof.Rows.boot_isinstance (qac (qv 0) (qac (qe_bltn (v := .ty "int") rfl T.b_int PyProof.Rows.boot_int rfl) qa_nil))) (qe_and (qe_not (qe_callB call_isiA (by rfl) T.b_isinstance PyProof.Rows.boot_isinstance (qac (qv 0) (qac (qe_bltn (v := .ty "bool") rfl T.b_bool PyProof.Rows.boot_bool rfl) qa_nil)))) (qe_one (qe_cmpR op_eq (qv 0) (qv 1) (nomark _))))))))), ?_⟩
      cases e with
      | int _ i =>
        refine ⟨_, rfl, by show 2 ≤ sizeLine; decide, fun p hp => ⟨_, p, ["list", "tuple"], "int", rfl, upd_same, .int i, by simp, _, rfl, ?_⟩⟩
        rw [show (["list", "tuple"].any (subT "int")) = false from by decide]
        refine iteF ⟨_, rfl, _, "str", "int", rfl, .int i, by simp, _, rfl, ?_⟩
        rw [show subT "int" "str" = false from by decide]
        refine iteF ⟨_, rfl, rfl, _, rfl, ?_⟩
        refine ite2 (fun z => nomatch (of_decide_eq_true z)) (fun _ => ⟨_, rfl, _, "int", "int", rfl, .int i, by simp, _, rfl, ?_⟩)
        rw [show subT "int" "int" = true from by decide]
        refine iteT ⟨_, rfl, _, "bool", "int", rfl, .int i, by simp, _, rfl, ?_⟩
        rw [show subT "int" "bool" = false from by decide]
        refine ⟨_, rfl, iteT ⟨_, rfl, _, rfl, rfl, ?_⟩⟩
        rw [decide_eq_true rfl]
        exact q _ (Same.upd hp)
      | str _ z =>
        refine ⟨_, rfl, by show 2 ≤ sizeLine; decide, fun p hp => ⟨_, p, ["list", "tuple"], "str", rfl, upd_same, .str z, by simp, _, rfl, ?_⟩⟩
        rw [show (["list", "tuple"].any (subT "str")) = false from by decide]
        refine iteF ⟨_, rfl, _, "str", "str", rfl, .str z, by simp, _, rfl, ?_⟩
        rw [show subT "str" "str" = true from by decide]
        refine iteT (iteT ⟨_, rfl, _, rfl, rfl, ?_⟩)
        rw [decide_eq_true rfl]
        exact q _ (Same.upd hp)
      | non _ =>
        refine ⟨_, rfl, by show 2 ≤ sizeLine; decide, fun p hp => ⟨_, p, ["list", "tuple"], "NoneType", rfl, upd_same, .non, by simp, _, rfl, ?_⟩⟩
        rw [show (["list", "tuple"].any (subT "NoneType")) = false from by decide]
        refine iteF ⟨_, rfl, _, "str", "NoneType", rfl, .non, by simp, _, rfl, ?_⟩
        rw [show subT "NoneType" "str" = false from by decide]
        refine iteF ⟨_, rfl, rfl, _, rfl, ?_⟩
        refine ite2 (fun _ => ⟨_, rfl, _, rfl, rfl, ?_⟩) (fun z => absurd (decide_eq_true rfl) z)
        rw [decide_eq_true rfl]
        exact q _ (Same.upd hp)
  | n + 1, hn => by
    have D_law_alike := ok_law_alike a T n (by omega)
    refine a.dq sc_law_alike (fun vs H Q E h => ?_) (fun f cdv A outer s H vs Q E hr h => ?_)
    · obtain ⟨x, y, rfl, _⟩ := h
      rfl
    · obtain ⟨x, y, rfl, e, q⟩ := h
      cases e with
      | int _ i =>
        refine ⟨_, (qss_cons (qs_if (qt_val (qe_callB call_isiB (by rfl) T.b_isinstance PyProof.Rows.boot_isinstance (qac (qv 1) (qac (qe_tup (qac (qe_bltn (v := .ty "list") rfl T.b_list PyProof.Rows.boot_list rfl) (qac (qe_bltn (v := .ty "tuple") rfl T.b_tuple PyProof.Rows.boot_tuple rfl) qa_nil))) qa_nil)))) qss_never qss_nil)
      (qss_cons (qs_if (QW.pt (qw_or (qt_val (qe_callB call_isiA (by rfl) T.b_isinstance PyProof.Rows.boot_isinstance (qac (qv 1) (qac (qe_bltn (v := .ty "str") rfl T.b_str PyProof.Rows.boot_str rfl) qa_nil)))) (qw_or1 (qt_cmpR op_isN (qv 1) qe_non (nomark _))))) (qss_one (qs_ret (qe_cmpR op_eq (qv 0) (qv 1) (nomark _)))) qss_nil)
      (qss_one (qs_ret (qe_and (qe_callB call_isiA (by rfl) T.b_isinstance PyProof.Rows.boot_isinstance (qac (qv 0) (qac (qe_bltn (v := .ty "int") rfl T.b_int PyProof.Rows.boot_int rfl) qa_nil))) (qe_and (qe_not (qe_callB call_isiA (by rfl) T.b_isinstance PyProof.Rows.boot_isinstance (qac (qv 0) (qac (qe_bltn (v := .ty "bool") rfl T.b_bool PyProof.Rows.boot_bool rfl) qa_nil)))) (qe_one (qe_cmpR op_eq (qv 0) (qv 1) (nomark _))))))))), ?_⟩
        refine ⟨_, rfl, by show 2 ≤ sizeLine; decide, fun p hp => ⟨_, p, ["list", "tuple"], "int", rfl, upd_same, .int i, by simp, _, rfl, ?_⟩⟩
        rw [show (["list", "tuple"].any (subT "int")) = false from by decide]
        refine iteF ⟨_, rfl, _, "str", "int", rfl, .int i, by simp, _, rfl, ?_⟩
        rw [show subT "int" "str" = false from by decide]
        refine iteF ⟨_, rfl, rfl, _, rfl, ?_⟩
        refine ite2 (fun z => nomatch (of_decide_eq_true z)) (fun _ => ⟨_, rfl, _, "int", "int", rfl, .int i, by simp, _, rfl, ?_⟩)
        rw [show subT "int" "int" = true from by decide]
        refine iteT ⟨_, rfl, _, "bool", "int", rfl, .int i, by simp, _, rfl, ?_⟩
        rw [show subT "int" "bool" = false from by decide]
        refine ⟨_, rfl, iteT ⟨_, rfl, _, rfl, rfl, ?_⟩⟩
        rw [decide_eq_true rfl]
        exact q _ (Same.upd hp)
      | str _ z =>
        refine ⟨_, (qss_cons (qs_if (qt_val (qe_callB call_isiB (by rfl) T.b_isinstance PyProof.Rows.boot_isinstance (qac (qv 1) (qac (qe_tup (qac (qe_bltn (v := .ty "list") rfl T.b_list PyProof.Rows.boot_list rfl) (qac (qe_bltn (v := .ty "tuple") rfl T.b_tuple PyProof.Rows.boot_tuple rfl) qa_nil))) qa_nil)))) qss_never qss_nil)
      (qss_cons (qs_if (QW.pt (qw_or (qt_val (qe_callB call_isiA (by rfl) T.b_isinstance PyProof.Rows.boot_isinstance (qac (qv 1) (qac (qe_bltn (v := .ty "str") rfl T.b_str PyProof.Rows.boot_str rfl) qa_nil)))) (qw_or1 (qt_cmpR op_isN (qv 1) qe_non (nomark _))))) (qss_one (qs_ret (qe_cmpR op_eq (qv 0) (qv 1) (nomark _)))) qss_nil)
      (qss_one (qs_ret (qe_and (qe_callB call_isiA (by rfl) T.b_isinstance PyProof.Rows.boot_isinstance (qac (qv 0) (qac (qe_bltn (v := .ty "int") rfl T.b_int PyProof.Rows.boot_int rfl) qa_nil))) (qe_and (qe_not (qe_callB call_isiA (by rfl) T.b_isinstance PyProof.Rows.boot_isinstance (qac (qv 0) (qac (qe_bltn (v := .ty "bool") rfl T.b_bool PyProof.Rows.boot_bool rfl) qa_nil)))) (qe_one (qe_cmpR op_eq (qv 0) (qv 1) (nomark _))))))))), ?_⟩
        refine ⟨_, rfl, by show 2 ≤ sizeLine; decide, fun p hp => ⟨_, p, ["list", "tuple"], "str", rfl, upd_same, .str z, by simp, _, rfl, ?_⟩⟩
        rw [show (["list", "tuple"].any (subT "str")) = false from by decide]
        refine iteF ⟨_, rfl, _, "str", "str", rfl, .str z, by simp, _, rfl, ?_⟩
        rw [show subT "str" "str" = true from by decide]
        refine iteT (iteT ⟨_, rfl, _, rfl, rfl, ?_⟩)
        rw [decide_eq_true rfl]
        exact q _ (Same.upd hp)
      | non _ =>
        refine ⟨_, (qss_cons (qs_if (qt_val (qe_callB call_isiB (by rfl) T.b_isinstance PyProof.Rows.boot_isinstance (qac (qv 1) (qac (qe_tup (qac (qe_bltn (v := .ty "list") rfl T.b_list PyProof.Rows.boot_list rfl) (qac (qe_bltn (v := .ty "tuple") rfl T.b_tuple PyProof.Rows.boot_tuple rfl) qa_nil))) qa_nil)))) qss_never qss_nil)
      (qss_cons (qs_if (QW.pt (qw_or (qt_val (qe_callB call_isiA (by rfl) T.b_isinstance PyProof.Rows.boot_isinstance (qac (qv 1) (qac (qe_bltn (v := .ty "str") rfl T.b_str PyProof.Rows.boot_str rfl) qa_nil)))) (qw_or1 (qt_cmpR op_isN (qv 1) qe_non (nomark _))))) (qss_one (qs_ret (qe_cmpR op_eq (qv 0) (qv 1) (nomark _)))) qss_nil)
      (qss_one (qs_ret (qe_and (qe_callB call_isiA (by rfl) T.b_isinstance PyProof.Rows.boot_isinstance (qac (qv 0) (qac (qe_bltn (v := .ty "int") rfl T.b_int PyProof.Rows.boot_int rfl) qa_nil))) (qe_and (qe_not (qe_callB call_isiA (by rfl) T.b_isinstance PyProof.Rows.boot_isinstance (qac (qv 0) (qac (qe_bltn (v := .ty "bool") rfl T.b_bool PyProof.Rows.boot_bool rfl) qa_nil)))) (qe_one (qe_cmpR op_eq (qv 0) (qv 1) (nomark _))))))))), ?_⟩
        refine ⟨_, rfl, by show 2 ≤ sizeLine; decide, fun p hp => ⟨_, p, ["list", "tuple"], "NoneType", rfl, upd_same, .non, by simp, _, rfl, ?_⟩⟩
        rw [show (["list", "tuple"].any (subT "NoneType")) = false from by decide]
        refine iteF ⟨_, rfl, _, "str", "NoneType", rfl, .non, by simp, _, rfl, ?_⟩
        rw [show subT "NoneType" "str" = false from by decide]
        refine iteF ⟨_, rfl, rfl, _, rfl, ?_⟩
        refine ite2 (fun _ => ⟨_, rfl, _, rfl, rfl, ?_⟩) (fun z => absurd (decide_eq_true rfl) z)
        rw [decide_eq_true rfl]
        exact q _ (Same.upd hp)
      | @tup _ c d xs ys h1 h2 hl hz hi =>
        refine ⟨_, (qss_cons (qs_if (qt_val (qe_callB call_isiB (by rfl) T.b_isinstance PyProof.Rows.boot_isinstance (qac (qv 1) (qac (qe_tup (qac (qe_bltn (v := .ty "list") rfl T.b_list PyProof.Rows.boot_list rfl) (qac (qe_bltn (v := .ty "tuple") rfl T.b_tuple PyProof.Rows.boot_tuple rfl) qa_nil))) qa_nil)))) (qss_cons (qs_if (QW.pt (qw_or (qt_cmpR op_ne (qe_callB call_isiA (by rfl) T.b_isinstance PyProof.Rows.boot_isinstance (qac (qv 0) (qac (qe_bltn (v := .ty "list") rfl T.b_list PyProof.Rows.boot_list rfl) qa_nil))) (qe_callB call_isiA (by rfl) T.b_isinstance PyProof.Rows.boot_isinstance (qac (qv 1) (qac (qe_bltn (v := .ty "list") rfl T.b_list PyProof.Rows.boot_list rfl) qa_nil))) (nomark _)) (qw_or1 (qt_cmpR op_ne (qe_callB call_isiA (by rfl) T.b_isinstance PyProof.Rows.boot_isinstance (qac (qv 0) (qac (qe_bltn (v := .ty "tuple") rfl T.b_tuple PyProof.Rows.boot_tuple rfl) qa_nil))) (qe_callB call_isiA (by rfl) T.b_isinstance PyProof.Rows.boot_isinstance (qac (qv 1) (qac (qe_bltn (v := .ty "tuple") rfl T.b_tuple PyProof.Rows.boot_tuple rfl) qa_nil))) (nomark _))))) (qss_one (qs_ret qe_bl)) qss_nil)
      (qss_cons (qs_if (qt_cmpR op_ne (qe_callB call_len_seq (by rfl) T.b_len PySem.boot_len (qac (qv 0) qa_nil)) (qe_callB call_len_seq (by rfl) T.b_len PySem.boot_len (qac (qv 1) qa_nil)) (nomark _)) (qss_one (qs_ret qe_bl)) qss_nil)
      (qss_one (qs_ret (qe_callB (call_allB rfl) (by rfl) T.b_all PyProof.Rows.boot_all (qac (qe_comp (own := ["_law_part", "_law_more"]) (fr := []) (js := []) rfl (qi_zip rfl T.b_zip (qac (qv 0) (qac (qv 1) qa_nil))) rfl (fun _ _ h => nomatch h) rfl (bsc0 rfl (by decide +kernel) (by decide +kernel) (by decide +kernel)) (fun _ _ _ _ => qg_tupK (K := K) rfl 2 rfl (qgs_cons (qg_name (i := 0) (show List.Nodup (["_law_part", "_law_more"] : List Str) from by decide +kernel) rfl (Or.inl rfl) (.inr rfl)) (qgs_cons (qg_name (i := 1) (show List.Nodup (["_law_part", "_law_more"] : List Str) from by decide +kernel) rfl (Or.inl rfl) (.inr rfl)) qgs_nil))) (fun _ _ _ _ => (qe_def D_law_alike (hr.mono (by first | decide | omega)) (qac (qv 0) (qac (qv 1) qa_nil))))) qa_nil)))))) qss_nil)
      (qss_cons (qs_if (QW.pt (qw_or (qt_val (qe_callB call_isiA (by rfl) T.b_isinstance PyProof.Rows.boot_isinstance (qac (qv 1) (qac (qe_bltn (v := .ty "str") rfl T.b_str PyProof.Rows.boot_str rfl) qa_nil)))) (qw_or1 (qt_cmpR op_isN (qv 1) qe_non (nomark _))))) (qss_one (qs_ret (qe_cmpR op_eq (qv 0) (qv 1) (nomark _)))) qss_nil)
      (qss_one (qs_ret (qe_and (qe_callB call_isiA (by rfl) T.b_isinstance PyProof.Rows.boot_isinstance (qac (qv 0) (qac (qe_bltn (v := .ty "int") rfl T.b_int PyProof.Rows.boot_int rfl) qa_nil))) (qe_and (qe_not (qe_callB call_isiA (by rfl) T.b_isinstance PyProof.Rows.boot_isinstance (qac (qv 0) (qac (qe_bltn (v := .ty "bool") rfl T.b_bool PyProof.Rows.boot_bool rfl) qa_nil)))) (qe_one (qe_cmpR op_eq (qv 0) (qv 1) (nomark _))))))))), ?_⟩
        refine ⟨_, rfl, by show 2 ≤ sizeLine; decide, fun p hp => ⟨_, p, ["list", "tuple"], "tuple", rfl, upd_same, .tup (Rd.same (Same.upd hp) h2), by simp, _, rfl, ?_⟩⟩
        rw [show (["list", "tuple"].any (subT "tuple")) = true from by decide]
        have s1 : Same H _ := Same.upd (o := .tup (["list", "tuple"].map V.ty)) hp
        have k1 := Rd.same s1 h1
        have k2 := Rd.same s1 h2
        refine iteT ⟨_, rfl, _, "list", "tuple", rfl, .tup k1, by simp, _, rfl, _, "list", "tuple", rfl, .tup k2, by simp, rfl, _, rfl, ?_⟩
        refine iteNS rfl ⟨_, rfl, _, "tuple", "tuple", rfl, .tup k1, by simp, _, rfl, _, "tuple", "tuple", rfl, .tup k2, by simp, rfl, _, rfl, ?_⟩
        refine iteNS rfl ?_
        refine ⟨_, rfl, c, _, rfl, .inr (.inl k1), _, rfl, d, _, rfl, .inr (.inl k2), rfl, _, rfl, ?_⟩
        refine iteNS (by rw [hl]) ?_
        refine ⟨_, rfl, _, rfl, c, d, xs, ys, rfl, k1, k2, comp_zip hl hz (fun i zs H2 => zs = (List.replicate i true).map V.bl ∧ Same H H2) ⟨rfl, s1⟩ (fun i zs H2 ⟨_, s2⟩ => ⟨Rd.same s2 h1, Rd.same s2 h2⟩) ?_ ?_⟩
        · rintro i zs H2 pp x y hx hy hzl ⟨rfl, s2⟩ hpp
          have s3 := s2.trans (Same.upd (o := .tup [x, y]) hpp)
          refine ⟨_, rfl, _, rfl, x, y, rfl, (hi i x y hx hy).same s3, fun H4 s4 => ⟨?_, s3.trans s4⟩⟩
          rw [List.replicate_succ', List.map_append]; rfl
        · rintro zs H2 hzl ⟨rfl, s2⟩ p2 hp2
          refine ⟨p2, _, rfl, SqL.of upd_same, ?_⟩
          rw [show (List.replicate xs.length true).all id = true from by simp]
          exact q _ (s2.trans (Same.upd hp2))
      | @lst _ c d xs ys h1 h2 hl hz hi =>
        refine ⟨_, (qss_cons (qs_if (qt_val (qe_callB call_isiB (by rfl) T.b_isinstance PyProof.Rows.boot_isinstance (qac (qv 1) (qac (qe_tup (qac (qe_bltn (v := .ty "list") rfl T.b_list PyProof.Rows.boot_list rfl) (qac (qe_bltn (v := .ty "tuple") rfl T.b_tuple PyProof.Rows.boot_tuple rfl) qa_nil))) qa_nil)))) (qss_cons (qs_if (QW.pt (qw_or (qt_cmpR op_ne (qe_callB call_isiA (by rfl) T.b_isinstance PyProof.Rows.boot_isinstance (qac (qv 0) (qac (qe_bltn (v := .ty "list") rfl T.b_list PyProof.Rows.boot_list rfl) qa_nil))) (qe_callB call_isiA (by rfl) T.b_isinstance PyProof.Rows.boot_isinstance (qac (qv 1) (qac (qe_bltn (v := .ty "list") rfl T.b_list PyProof.Rows.boot_list rfl) qa_nil))) (nomark _)) (qw_or1 (qt_cmpR op_ne (qe_callB call_isiA (by rfl) T.b_isinstance PyProof.Rows.boot_isinstance (qac (qv 0) (qac (qe_bltn (v := .ty "tuple") rfl T.b_tuple PyProof.Rows.boot_tuple rfl) qa_nil))) (qe_callB call_isiA (by rfl) T.b_isinstance PyProof.Rows.boot_isinstance (qac (qv 1) (qac (qe_bltn (v := .ty "tuple") rfl T.b_tuple PyProof.Rows.boot_tuple rfl) qa_nil))) (nomark _))))) (qss_one (qs_ret qe_bl)) qss_nil)
      (qss_cons (qs_if (qt_cmpR op_ne (qe_callB call_len_seq (by rfl) T.b_len PySem.boot_len (qac (qv 0) qa_nil)) (qe_callB call_len_seq (by rfl) T.b_len PySem.boot_len (qac (qv 1) qa_nil)) (nomark _)) (qss_one (qs_ret qe_bl)) qss_nil)
      (qss_one (qs_ret (qe_callB (call_allB rfl) (by rfl) T.b_all PyProof.Rows.boot_all (qac (qe_comp (own := ["_law_part", "_law_more"]) (fr := []) (js := []) rfl (qi_zipL rfl T.b_zip (qac (qv 0) (qac (qv 1) qa_nil))) rfl (fun _ _ h => nomatch h) rfl (bsc0 rfl (by decide +kernel) (by decide +kernel) (by decide +kernel)) (fun _ _ _ _ => qg_tupK (K := K) rfl 2 rfl (qgs_cons (qg_name (i := 0) (show List.Nodup (["_law_part", "_law_more"] : List Str) from by decide +kernel) rfl (Or.inl rfl) (.inr rfl)) (qgs_cons (qg_name (i := 1) (show List.Nodup (["_law_part", "_law_more"] : List Str) from by decide +kernel) rfl (Or.inl rfl) (.inr rfl)) qgs_nil))) (fun _ _ _ _ => (qe_def D_law_alike (hr.mono (by first | decide | omega)) (qac (qv 0) (qac (qv 1) qa_nil))))) qa_nil)))))) qss_nil)
      (qss_cons (qs_if (QW.pt (qw_or (qt_val (qe_callB call_isiA (by rfl) T.b_isinstance PyProof.Rows.boot_isinstance (qac (qv 1) (qac (qe_bltn (v := .ty "str") rfl T.b_str PyProof.Rows.boot_str rfl) qa_nil)))) (qw_or1 (qt_cmpR op_isN (qv 1) qe_non (nomark _))))) (qss_one (qs_ret (qe_cmpR op_eq (qv 0) (qv 1) (nomark _)))) qss_nil)
      (qss_one (qs_ret (qe_and (qe_callB call_isiA (by rfl) T.b_isinstance PyProof.Rows.boot_isinstance (qac (qv 0) (qac (qe_bltn (v := .ty "int") rfl T.b_int PyProof.Rows.boot_int rfl) qa_nil))) (qe_and (qe_not (qe_callB call_isiA (by rfl) T.b_isinstance PyProof.Rows.boot_isinstance (qac (qv 0) (qac (qe_bltn (v := .ty "bool") rfl T.b_bool PyProof.Rows.boot_bool rfl) qa_nil)))) (qe_one (qe_cmpR op_eq (qv 0) (qv 1) (nomark _))))))))), ?_⟩
        refine ⟨_, rfl, by show 2 ≤ sizeLine; decide, fun p hp => ⟨_, p, ["list", "tuple"], "list", rfl, upd_same, .lst (Same.upd hp _ _ h2), by simp, _, rfl, ?_⟩⟩
        rw [show (["list", "tuple"].any (subT "list")) = true from by decide]
        have s1 : Same H _ := Same.upd (o := .tup (["list", "tuple"].map V.ty)) hp
        have k1 := s1 _ _ h1
        have k2 := s1 _ _ h2
        refine iteT ⟨_, rfl, _, "list", "list", rfl, .lst k1, by simp, _, rfl, _, "list", "list", rfl, .lst k2, by simp, rfl, _, rfl, ?_⟩
        refine iteNS rfl ⟨_, rfl, _, "tuple", "list", rfl, .lst k1, by simp, _, rfl, _, "tuple", "list", rfl, .lst k2, by simp, rfl, _, rfl, ?_⟩
        refine iteNS rfl ?_
        refine ⟨_, rfl, c, _, rfl, .inl (SqL.of k1), _, rfl, d, _, rfl, .inl (SqL.of k2), rfl, _, rfl, ?_⟩
        refine iteNS (by rw [hl]) ?_
        refine ⟨_, rfl, _, rfl, c, d, xs, ys, rfl, .inl k1, .inl k2, comp_zipL hl hz (fun i zs H2 => zs = (List.replicate i true).map V.bl ∧ Same H H2) ⟨rfl, s1⟩ (fun i zs H2 ⟨_, s2⟩ => ⟨.inl (s2 _ _ h1), .inl (s2 _ _ h2)⟩) ?_ ?_⟩
        · rintro i zs H2 pp x y hx hy hzl ⟨rfl, s2⟩ hpp
          have s3 := s2.trans (Same.upd (o := .tup [x, y]) hpp)
          refine ⟨_, rfl, _, rfl, x, y, rfl, (hi i x y hx hy).same s3, fun H4 s4 => ⟨?_, s3.trans s4⟩⟩
          rw [List.replicate_succ', List.map_append]; rfl
        · rintro zs H2 hzl ⟨rfl, s2⟩ p2 hp2
          refine ⟨p2, _, rfl, SqL.of upd_same, ?_⟩
          rw [show (List.replicate xs.length true).all id = true from by simp]
          exact q _ (s2.trans (Same.upd hp2))
end
end Lw
namespace Lw
open PySem L2 L3
section
variable {P : Program} {w : World} {K : PySem.W.Frag} {mg : Str → Option Value} {base : Heap} {tk : Nat → Tok} {C : Addr}
theorem ok_Button___init (a : AtM K C "__init__" "Button.__init__" s_Button___init ["self", "name", "table", "key", "age", "step"]) (T : Txt K mg tk) (U : BCx K C) : Mf P w K mg base C "__init__" ["self", "name", "table", "key", "age", "step"] 1 (spBInit K C) := by
  refine a.mq sc_Button___init (fun vs H Q E h => ?_) (fun f cdv A outer s H vs Q E hr h => ?_)
  · obtain ⟨_, _, _, _, _, _, _, _, _, rfl, _⟩ := h
    rfl
  · obtain ⟨p, a, b, dx, nm, age, step, t, ks, rfl, hp, ha, hb, q⟩ := h
    refine ⟨_, (qss_cons (qs_fld (qv 0) (qv 1))
      (qss_cons (qs_fld (qv 0) (qe_callTy call_tupleQ (by rfl) T.b_tuple PyProof.Rows.boot_tuple (qac (qv 2) qa_nil)))
      (qss_cons (qs_fld (qv 0) (qe_callTy call_tupleQ (by rfl) T.b_tuple PyProof.Rows.boot_tuple (qac (qv 3) qa_nil)))
      (qss_cons (qs_fld (qv 0) (qv 4))
      (qss_cons (qs_fld (qv 0) (qv 5))
      (qss_cons (qs_fld (qv 0) qe_int)
      (qss_cons (qs_fld (qv 0) qe_int)
      (qss_one (qs_fld (qv 0) (qe_lst (qac qe_int (qac qe_non qa_nil)))))))))))), ?_⟩
    refine ⟨_, rfl, _, rfl, p, _, rfl, put_new U.cl hp U.n_name 0, ?_⟩
    refine ⟨_, rfl, a, _, rfl, sq_upd hp ha, fun ta H2 s2 ht => ⟨_, rfl, p, _, rfl, put_new U.cl (s2 _ _ upd_same) U.n_table 1, ?_⟩⟩
    have e2 := s2 _ _ upd_same
    refine ⟨_, rfl, b, _, rfl, sq_upd e2 ((sq_upd hp hb).same s2), fun ka H3 s3 hk => ⟨_, rfl, p, _, rfl, put_new U.cl (s3 _ _ upd_same) U.n_key 2, ?_⟩⟩
    have e3 := s3 _ _ upd_same
    have ht3 := sqt_upd (o := .ins C dx [("name", .str nm), ("table", .ref ta), ("key", .ref ka)]) e3 (Same.sqt s3 (sqt_upd e2 ht))
    have hk3 := sqt_upd (o := .ins C dx [("name", .str nm), ("table", .ref ta), ("key", .ref ka)]) e3 hk
    refine ⟨_, rfl, _, rfl, p, _, rfl, put_new U.cl upd_same U.n_age 3, ?_⟩
    refine ⟨_, rfl, _, rfl, p, _, rfl, put_new U.cl upd_same U.n_step 4, ?_⟩
    refine ⟨_, rfl, p, _, rfl, put_new U.cl upd_same U.n_next_count 5, ?_⟩
    refine ⟨_, rfl, p, _, rfl, put_new U.cl upd_same U.n_bound 6, ?_⟩
    refine ⟨by show 2 ≤ sizeLine; decide, fun ce hce => ⟨_, rfl, p, _, rfl, put_new U.cl (by rw [upd_ne (ne_of_none upd_same hce)]; exact upd_same) U.n_cells 7, ?_⟩⟩
    have nce := ne_of_none upd_same hce
    have m2 : Mv [p] H H2 := Mv.upd1.trans s2.mv
    have m3 : Mv [p] H H3 := (m2.trans Mv.upd1).trans s3.mv
    have m8 : ∀ o4 o5 o6 o7 o8, Mv [p] H (upd (upd (upd (upd (upd H3 p o4) p o5) p o6) p o7) p o8) := fun o4 o5 o6 o7 o8 => ((((m3.trans Mv.upd1).trans Mv.upd1).trans Mv.upd1).trans Mv.upd1).trans Mv.upd1
    have hcH : H ce = none := by
      cases e : H ce with
      | none => rfl
      | some o => exact absurd (hce.symm.trans (m8 _ _ _ _ _ ce o (fun z => nce (List.mem_singleton.mp z).symm) e)) (by intro h; cases h)
    refine q ta ka ce _ hcH (((m8 _ _ _ _ _).trans (Same.upd hce).mv).trans Mv.upd1) ⟨⟨dx, upd_same⟩, ?_, ?_, ?_⟩
    · exact sqt_upd (by rw [upd_ne nce]; exact upd_same) (Same.sqt (Same.upd hce) (sqt_upd upd_same (sqt_upd upd_same (sqt_upd upd_same (sqt_upd upd_same ht3)))))
    · exact sqt_upd (by rw [upd_ne nce]; exact upd_same) (Same.sqt (Same.upd hce) (sqt_upd upd_same (sqt_upd upd_same (sqt_upd upd_same (sqt_upd upd_same hk3)))))
    · rw [upd_ne nce.symm]; exact upd_same
theorem ok_Button_is_worn (a : AtM K C "is_worn" "Button.is_worn" s_Button_is_worn ["self"]) (T : Txt K mg tk) (U : BCx K C) : Mf P w K mg base C "is_worn" ["self"] 1 (spBWorn K C) := by
  refine a.mq sc_Button_is_worn (fun vs H Q E h => ?_) (fun f cdv A outer s H vs Q E hr h => ?_)
  · obtain ⟨_, _, _, _, _, rfl, _⟩ := h
    rfl
  · obtain ⟨p, ta, ka, ce, B, rfl, b, q⟩ := h
    refine ⟨_, (qss_one (qs_ret (qe_cmpR op_ge (qe_fld (qv 0)) (qe_glob (v := .int 4096) rfl T.g_COUNTS ⟨_, rfl⟩) (nomark _)))), ?_⟩
    exact ⟨_, rfl, p, _, rfl, b.h_next_count U, _, _, rfl, rfl, q⟩
theorem ok_Button_must_write (a : AtM K C "must_write" "Button.must_write" s_Button_must_write ["self"]) (T : Txt K mg tk) (U : BCx K C) (D_Button_is_worn : Mf P w K mg base C "is_worn" ["self"] 1 (spBWorn K C)) : Mf P w K mg base C "must_write" ["self"] 2 (spBMust K C) := by
  refine a.mq sc_Button_must_write (fun vs H Q E h => ?_) (fun f cdv A outer s H vs Q E hr h => ?_)
  · obtain ⟨_, _, _, _, _, rfl, _⟩ := h
    rfl
  · obtain ⟨p, ta, ka, ce, B, rfl, b, q⟩ := h
    refine ⟨_, (qss_one (qs_ret (qe_and (qe_cmpR op_eq (qe_fld (qv 0)) (qe_fld (qv 0)) (nomark _)) (qe_one (qe_not (qe_meth0 D_Button_is_worn U.cl (hr.mono (by first | decide | omega)) (qv 0))))))), ?_⟩
    refine ⟨_, rfl, p, _, rfl, b.h_next_count U, _, rfl, p, _, rfl, b.h_bound U, rfl, _, rfl, ?_⟩
    unfold Bt.mw at q
    refine ite2 (fun z => ?_) (fun z => ?_)
    · refine ⟨_, rfl, p, rfl, b.no, p, ta, ka, ce, B, rfl, b, _, rfl, ?_⟩
      have z' : B.cnt = B.bnd := by have := of_decide_eq_true z; injection this
      rw [decide_eq_true z'] at q
      exact q
    · have z' : ¬ B.cnt = B.bnd := fun e => z (decide_eq_true (by rw [e]))
      rw [decide_eq_false z'] at q
      exact q
theorem ok_Button_spare_cell (a : AtM K C "spare_cell" "Button.spare_cell" s_Button_spare_cell ["self"]) (T : Txt K mg tk) (U : BCx K C) : Mf P w K mg base C "spare_cell" ["self"] 1 (spBSpare K C) := by
  refine a.mq sc_Button_spare_cell (fun vs H Q E h => ?_) (fun f cdv A outer s H vs Q E hr h => ?_)
  · obtain ⟨_, _, _, _, _, rfl, _⟩ := h
    rfl
  · obtain ⟨p, ta, ka, ce, B, rfl, b, q⟩ := h
    refine ⟨_, (qss_cons (qs_if (qt_cmpR op_eq (qe_ix ix_list (qe_fld (qv 0)) qe_int (fun _ _ => rfl)) (qe_fld (qv 0)) (nomark _)) (qss_one (qs_ret qe_int)) qss_nil)
      (qss_one (qs_ret qe_int))), ?_⟩
    refine ⟨_, rfl, p, _, rfl, b.h_cells U, ce, _, _, _, rfl, rfl, SqL.of b.cs, rfl, _, rfl, p, _, rfl, b.h_bound U, oV_scal _ _, _, rfl, ?_⟩
    rw [oV_dec]
    unfold Bt.sp at q
    refine ite2 (fun z => ?_) (fun z => ?_)
    · rw [if_pos (of_decide_eq_true z)] at q; exact q
    · rw [if_neg (fun e => z (decide_eq_true e))] at q; exact q
theorem ok_Button_write_bound (a : AtM K C "write_bound" "Button.write_bound" s_Button_write_bound ["self"]) (T : Txt K mg tk) (U : BCx K C) (D_Button_spare_cell : Mf P w K mg base C "spare_cell" ["self"] 1 (spBSpare K C)) : Mf P w K mg base C "write_bound" ["self"] 2 (spBWrite K C) := by
  refine a.mq sc_Button_write_bound (fun vs H Q E h => ?_) (fun f cdv A outer s H vs Q E hr h => ?_)
  · obtain ⟨_, _, _, _, _, rfl, _⟩ := h
    rfl
  · obtain ⟨p, ta, ka, ce, B, rfl, b, q⟩ := h
    obtain ⟨dx, ep⟩ := b.ob
    refine ⟨_, (qss_cons (qs_set (i := 1) sc_Button_write_bound.nd rfl (Or.inl rfl) (qe_meth0 D_Button_spare_cell U.cl (hr.mono (by first | decide | omega)) (qv 0)))
      (qss_cons (qs_fld (qv 0) (qe_callB (call_min2 rfl) (by rfl) T.b_min PyProof.Rows.boot_min (qac (qe_op op_add (qe_fld (qv 0)) (qe_fld (qv 0))) (qac (qe_glob (v := .int 4096) rfl T.g_COUNTS ⟨_, rfl⟩) qa_nil))))
      (qss_one (qs_asg (qe_fld (qv 0)) (qg_sub (qe_fld (qv 0)) (qv 1) set_list))))), ?_⟩
    refine ⟨_, rfl, p, rfl, b.no, p, ta, ka, ce, B, rfl, b, ?_⟩
    refine ⟨_, rfl, p, _, rfl, b.h_bound U, _, rfl, p, _, rfl, b.h_step U, _, _, rfl, rfl, _, _, rfl, _, rfl, p, _, rfl, BtnAt.put U ep 6 _ rfl U.n_bound, ?_⟩
    have b1 : BtnAt K C (upd H p (.ins C dx (bF { B with bnd := B.nb } ta ka ce))) p ta ka ce { B with bnd := B.nb } := b.to (B' := { B with bnd := B.nb }) (Mv.upd1.mono (fun c h z => h (by rw [List.mem_singleton.mp z]; exact List.mem_cons_self ..))) rfl rfl upd_same (by rw [upd_ne b.ne.symm]; exact b.cs)
    refine ⟨_, rfl, p, _, rfl, b1.h_bound U, _, rfl, p, _, rfl, b1.h_cells U, _, rfl, ?_⟩
    unfold Bt.sp Bt.wr at *
    have mv : ∀ o o', Mv [p, ce] H (upd (upd H p o) ce o') := fun o o' c u hc e => by
      rw [upd_ne (fun z => hc (by rw [z]; exact List.mem_cons_of_mem _ (List.mem_cons_self ..))), upd_ne (fun z => hc (by rw [z]; exact List.mem_cons_self ..))]; exact e
    by_cases hx : B.x = some B.bnd
    · rw [if_pos hx]
      rw [if_pos hx] at q
      refine ⟨ce, _, _, 1, rfl, rfl, b1.cs, rfl, ?_⟩
      exact q _ (mv _ _) (b.to (B' := { B with bnd := B.nb, y := some B.nb }) (mv _ _) rfl rfl (by rw [upd_ne b.ne]; exact upd_same) upd_same)
    · rw [if_neg hx]
      rw [if_neg hx] at q
      refine ⟨ce, _, _, 0, rfl, rfl, b1.cs, rfl, ?_⟩
      exact q _ (mv _ _) (b.to (B' := { B with bnd := B.nb, x := some B.nb }) (mv _ _) rfl rfl (by rw [upd_ne b.ne]; exact upd_same) upd_same)
theorem ok_Button_press_once (a : AtM K C "press_once" "Button.press_once" s_Button_press_once ["self", "deed"]) (T : Txt K mg tk) (U : BCx K C) (D_Button_is_worn : Mf P w K mg base C "is_worn" ["self"] 1 (spBWorn K C)) (D_Button_must_write : Mf P w K mg base C "must_write" ["self"] 2 (spBMust K C))
    (D_Button_write_bound : Mf P w K mg base C "write_bound" ["self"] 2 (spBWrite K C)) (D_press_of : Df P w K mg base "press_of" ["table", "key", "name", "age", "count", "deed"] 3 (spPress K)) : Mf P w K mg base C "press_once" ["self", "deed"] 4 (spBPress K C) := by
  refine a.mq sc_Button_press_once (fun vs H Q E h => ?_) (fun f cdv A outer s H vs Q E hr h => ?_)
  · obtain ⟨_, _, _, _, _, _, rfl, _⟩ := h
    rfl
  · obtain ⟨p, ta, ka, ce, B, d, rfl, b, hn, hl, c0, c1, hd, q⟩ := h
    refine ⟨_, (qss_cons (qs_if (qt_val (qe_meth0 D_Button_is_worn U.cl (hr.mono (by first | decide | omega)) (qv 0))) qss_never qss_nil)
      (qss_cons (qs_if (qt_val (qe_meth0 D_Button_must_write U.cl (hr.mono (by first | decide | omega)) (qv 0))) (qss_one (qs_expr (qe_meth0 D_Button_write_bound U.cl (hr.mono (by first | decide | omega)) (qv 0)))) qss_nil)
      (qss_cons (qs_set (i := 2) sc_Button_press_once.nd rfl (Or.inl rfl) (qe_def D_press_of (hr.mono (by first | decide | omega)) (qac (qe_fld (qv 0)) (qac (qe_fld (qv 0)) (qac (qe_fld (qv 0)) (qac (qe_fld (qv 0)) (qac (qe_fld (qv 0)) (qac (qv 1) qa_nil))))))))
      (qss_cons (qs_fldaug in_add (qv 0) qe_int)
      (qss_one (qs_ret (qv 2))))))), ?_⟩
    refine ⟨_, rfl, p, rfl, b.no, p, ta, ka, ce, B, rfl, b, _, rfl, ?_⟩
    refine ite2 (fun z => absurd (of_decide_eq_true z) (by omega)) (fun _ => ?_)
    refine ⟨_, rfl, p, rfl, b.no, p, ta, ka, ce, B, rfl, b, _, rfl, ?_⟩
    refine ite2 (fun z => ?_) (fun z => ?_)
    · refine ⟨_, rfl, p, rfl, b.no, p, ta, ka, ce, B, rfl, b, fun H1 m1 b1 => ?_⟩
      have e0 : ({ B.wr with cnt := B.wr.cnt + 1 } : Bt) = B.pr := by unfold Bt.pr; rw [if_pos z, wr_cnt]
      have e1 := wr_nm B
      have e2 := wr_t B
      have e3 := wr_ks B
      have e4 := wr_age B
      have e5 := wr_cnt B
      generalize B.wr = B1 at b1 e0 e1 e2 e3 e4 e5
      refine ⟨_, rfl, p, _, rfl, b1.h_table U, _, rfl, p, _, rfl, b1.h_key U, _, rfl, p, _, rfl, b1.h_name U, _, rfl, p, _, rfl, b1.h_age U, _, rfl, p, _, rfl, b1.h_next_count U, _, rfl, ta, ka, B1.nm, B1.age, B1.cnt, d, B1.t, B1.ks, rfl, .inr b1.tb, .inr b1.ky, by rw [e1]; exact hn, by rw [e2]; exact hl, by rw [e5]; exact c0, by rw [e5]; exact c1, hd, fun q1 pc H2 s2 h1 h2 => ?_⟩
      have b2 := b1.same s2
      obtain ⟨dx, ep⟩ := b2.ob
      refine ⟨_, rfl, p, _, rfl, b2.h_next_count U, _, _, rfl, rfl, (fun _ e => e), _, BtnAt.put U ep 5 _ rfl U.n_next_count, ?_⟩
      have n1 : q1 ≠ p := ne_of h1 ep (by intro z; cases z)
      have n2 : pc ≠ p := ne_of h2 ep (by intro z; cases z)
      have m3 : Mv [p, ce] H2 (upd H2 p (.ins C dx (bF { B1 with cnt := B1.cnt + 1 } ta ka ce))) := Mv.upd1.mono (fun c h z => h (by rw [List.mem_singleton.mp z]; exact List.mem_cons_self ..))
      have b3 : BtnAt K C (upd H2 p (.ins C dx (bF { B1 with cnt := B1.cnt + 1 } ta ka ce))) p ta ka ce B.pr := by
        have b3' := b2.to (B' := { B1 with cnt := B1.cnt + 1 }) m3 rfl rfl upd_same (by rw [upd_ne b2.ne.symm]; exact b2.cs)
        rw [e0] at b3' ⊢
        exact b3'
      refine ⟨_, rfl, q q1 pc _ ((m1.trans s2.mv).trans m3) b3 ?_ ?_⟩
      · rw [upd_ne n1, h1, e1, e4]
      · rw [upd_ne n2, h2, e1, e2, e3, e5]
    · have b1 := b
      have m1 : Mv [p, ce] H H := Mv.refl
      have e0 : ({ B with cnt := B.cnt + 1 } : Bt) = B.pr := by unfold Bt.pr; rw [if_neg z]
      obtain ⟨B1, hB⟩ : ∃ B1, B1 = B := ⟨B, rfl⟩
      have e1 : B1.nm = B.nm := by rw [hB]
      have e2 : B1.t = B.t := by rw [hB]
      have e3 : B1.ks = B.ks := by rw [hB]
      have e4 : B1.age = B.age := by rw [hB]
      have e5 : B1.cnt = B.cnt := by rw [hB]
      have e0 : ({ B1 with cnt := B1.cnt + 1 } : Bt) = B.pr := by rw [hB]; exact e0
      have b1 : BtnAt K C H p ta ka ce B1 := by rw [hB]; exact b
      refine ⟨_, rfl, p, _, rfl, b1.h_table U, _, rfl, p, _, rfl, b1.h_key U, _, rfl, p, _, rfl, b1.h_name U, _, rfl, p, _, rfl, b1.h_age U, _, rfl, p, _, rfl, b1.h_next_count U, _, rfl, ta, ka, B1.nm, B1.age, B1.cnt, d, B1.t, B1.ks, rfl, .inr b1.tb, .inr b1.ky, by rw [e1]; exact hn, by rw [e2]; exact hl, by rw [e5]; exact c0, by rw [e5]; exact c1, hd, fun q1 pc H2 s2 h1 h2 => ?_⟩
      have b2 := b1.same s2
      obtain ⟨dx, ep⟩ := b2.ob
      refine ⟨_, rfl, p, _, rfl, b2.h_next_count U, _, _, rfl, rfl, (fun _ e => e), _, BtnAt.put U ep 5 _ rfl U.n_next_count, ?_⟩
      have n1 : q1 ≠ p := ne_of h1 ep (by intro z; cases z)
      have n2 : pc ≠ p := ne_of h2 ep (by intro z; cases z)
      have m3 : Mv [p, ce] H2 (upd H2 p (.ins C dx (bF { B1 with cnt := B1.cnt + 1 } ta ka ce))) := Mv.upd1.mono (fun c h z => h (by rw [List.mem_singleton.mp z]; exact List.mem_cons_self ..))
      have b3 : BtnAt K C (upd H2 p (.ins C dx (bF { B1 with cnt := B1.cnt + 1 } ta ka ce))) p ta ka ce B.pr := by
        have b3' := b2.to (B' := { B1 with cnt := B1.cnt + 1 }) m3 rfl rfl upd_same (by rw [upd_ne b2.ne.symm]; exact b2.cs)
        rw [e0] at b3' ⊢
        exact b3'
      refine ⟨_, rfl, q q1 pc _ ((m1.trans s2.mv).trans m3) b3 ?_ ?_⟩
      · rw [upd_ne n1, h1, e1, e4]
      · rw [upd_ne n2, h2, e1, e2, e3, e5]
end
section
variable {P : Program} {w : World} {K : PySem.W.Frag} {mg : Str → Option Value} {base : Heap} {tk : Nat → Tok} {C : Addr}
theorem ok_Button_count_now (a : AtM K C "count_now" "Button.count_now" s_Button_count_now ["self"]) (T : Txt K mg tk) (U : BCx K C) : Mf P w K mg base C "count_now" ["self"] 1 (spBCount K C) := by
  refine a.mq sc_Button_count_now (fun vs H Q E h => ?_) (fun f cdv A outer s H vs Q E hr h => ?_)
  · obtain ⟨_, _, _, _, _, rfl, _⟩ := h
    rfl
  · obtain ⟨p, ta, ka, ce, B, rfl, b, q⟩ := h
    refine ⟨_, (qss_one (qs_ret (qe_fld (qv 0)))), ?_⟩
    exact ⟨_, rfl, p, _, rfl, b.h_next_count U, q⟩
end
section
variable {P : Program} {w : World} {K : PySem.W.Frag} {mg : Str → Option Value} {base : Heap} {tk : Nat → Tok} {C : Addr}
theorem ok_Button_cells_now (a : AtM K C "cells_now" "Button.cells_now" s_Button_cells_now ["self"]) (T : Txt K mg tk) (U : BCx K C) : Mf P w K mg base C "cells_now" ["self"] 1 (spBCells K C) := by
  refine a.mq sc_Button_cells_now (fun vs H Q E h => ?_) (fun f cdv A outer s H vs Q E hr h => ?_)
  · obtain ⟨_, _, _, _, _, rfl, _⟩ := h
    rfl
  · obtain ⟨p, ta, ka, ce, B, rfl, b, q⟩ := h
    refine ⟨_, (qss_one (qs_ret (qe_callTy call_tuple_of (by rfl) T.b_tuple PyProof.Rows.boot_tuple (qac (qe_fld (qv 0)) qa_nil)))), ?_⟩
    exact ⟨_, rfl, p, _, rfl, b.h_cells U, ce, _, rfl, .inl ⟨SqL.of b.cs, fun l hl => q l _ (Same.upd hl) upd_same⟩⟩
end
section
variable {P : Program} {w : World} {K : PySem.W.Frag} {mg : Str → Option Value} {base : Heap} {tk : Nat → Tok}
theorem ok_law_begun (a : At K mg "_law_begun" s_law_begun ["_law_step"]) (T : Txt K mg tk) : Df P w K mg base "_law_begun" ["_law_step"] 1 spBegun := by
  refine a.dq sc_law_begun (fun vs H Q E h => ?_) (fun f cdv A outer s H vs Q E hr h => ?_)
  · obtain ⟨_, rfl, _⟩ := h
    rfl
  · obtain ⟨st, rfl, q⟩ := h
    refine ⟨_, (qss_one (qs_ret (qe_disp (qps_cons qe_str qe_int (qps_cons qe_str qe_int (qps_cons qe_str (qe_lst (qac qe_int (qac qe_non qa_nil))) (qps_cons qe_str (qv 0) qps_nil))))))), ?_⟩
    refine fun d hd => ⟨by show 2 ≤ sizeLine; decide, fun lc hlc => ⟨_, rfl, ?_⟩⟩
    have nd : d ≠ lc := ne_of_none upd_same hlc
    refine ⟨(upd_ne nd).trans upd_same, lawD (zB st) lc, rfl, by show 4 ≤ 15; decide, ?_⟩
    rw [merge_law]
    have hl : H lc = none := by rw [upd_ne nd.symm] at hlc; exact hlc
    refine q d lc _ hd hl (fun c o e => ?_) ⟨upd_same, ?_⟩
    · rw [upd_ne (ne_of_none e hd), upd_ne (ne_of_none e hl), upd_ne (ne_of_none e hd)]; exact e
    · rw [upd_ne nd.symm]; exact upd_same
theorem ok_law_pressed (a : At K mg "_law_pressed" s_law_pressed ["_law_own"]) (T : Txt K mg tk) : Df P w K mg base "_law_pressed" ["_law_own"] 1 spPressed := by
  refine a.dq sc_law_pressed (fun vs H Q E h => ?_) (fun f cdv A outer s H vs Q E hr h => ?_)
  · obtain ⟨_, _, _, rfl, _⟩ := h
    rfl
  · obtain ⟨d, lc, B, rfl, l, hc, q⟩ := h
    refine ⟨_, (qss_cons (qs_if (qt_cmpR op_eq (qe_dget hr (qv 0) qe_str) qe_int (nomark _)) (qss_one (qs_ret qe_non)) qss_nil)
      (qss_cons (qs_if (qt_cmpR op_eq (qe_dget hr (qv 0) qe_str) (qe_dget hr (qv 0) qe_str) (nomark _)) (qss_cons (qs_set (i := 1) sc_law_pressed.nd rfl (Or.inl rfl) (qe_ifExp (qt_cmpR op_eq (qe_ix ix_list (qe_dget hr (qv 0) qe_str) qe_int (fun _ _ => rfl)) (qe_dget hr (qv 0) qe_str) (nomark _)) qe_int qe_int))
      (qss_cons (qs_dputK hr (qv 0) qe_str (qe_callB (call_min2 rfl) (by rfl) T.b_min PyProof.Rows.boot_min (qac qe_int (qac (qe_op op_add (qe_dget hr (qv 0) qe_str) (qe_dget hr (qv 0) qe_str)) qa_nil))))
      (qss_one (qs_asg (qe_dget hr (qv 0) qe_str) (qg_sub (qe_dget hr (qv 0) qe_str) (qv 1) set_list))))) qss_nil)
      (qss_cons (qs_dputK hr (qv 0) qe_str (qe_op op_add (qe_dget hr (qv 0) qe_str) qe_int))
      (qss_one (qs_ret (qe_op op_sub (qe_dget hr (qv 0) qe_str) qe_int)))))), ?_⟩
    refine ⟨_, rfl, d, _, rfl, l.g_count, rfl, _, rfl, ?_⟩
    refine ite2 (fun z => absurd (of_decide_eq_true z) (fun y => by injection y with y; omega)) (fun _ => ?_)
    refine ⟨_, rfl, d, _, rfl, l.g_count, _, rfl, d, _, rfl, l.g_bound, rfl, _, rfl, ?_⟩
    refine ite2 (fun z => ?_) (fun z => ?_)
    · have e : B.cnt = B.bnd := by have := of_decide_eq_true z; injection this
      have hm : B.mw = true := by unfold Bt.mw; rw [decide_eq_true e, decide_eq_false (by omega : ¬ 4096 ≤ B.cnt)]; rfl
      refine ⟨_, rfl, d, _, rfl, l.g_cells, lc, _, _, _, rfl, rfl, SqL.of l.cs, rfl, _, rfl, d, _, rfl, l.g_bound, oV_scal _ _, _, rfl, ?_⟩
      have nb' : (if B.bnd + B.step < 4096 then B.bnd + B.step else 4096) = B.nb := by unfold Bt.nb; split <;> split <;> omega
      have fin : ∀ (B2 : Bt), B2 = B.wr → ∀ H2, Mv [d, lc] H H2 → LawAt H2 d lc B2 → LawAt (upd H2 d (.dK (lawD { B2 with cnt := B2.cnt + 1 } lc))) d lc B.pr ∧ Mv [d, lc] H (upd H2 d (.dK (lawD { B2 with cnt := B2.cnt + 1 } lc))) ∧ B2.cnt = B.cnt := fun B2 e2 H2 m2 l2 => by
        subst e2
        have e3 : ({ B.wr with cnt := B.wr.cnt + 1 } : Bt) = B.pr := by unfold Bt.pr; rw [if_pos hm, wr_cnt]
        have l3 := l2.upd_d { B.wr with cnt := B.wr.cnt + 1 } rfl rfl
        refine ⟨?_, m2.trans (Mv.upd1.mono fun c h y => h (by rw [List.mem_singleton.mp y]; exact List.mem_cons_self ..)), wr_cnt B⟩
        rw [e3] at l3 ⊢
        exact l3
      have mset : ∀ o o', Mv [d, lc] H (upd (upd H d o) lc o') := fun o o' c u hc' e => by
        rw [upd_ne (fun y => hc' (by rw [y]; exact List.mem_cons_of_mem _ (List.mem_cons_self ..))), upd_ne (fun y => hc' (by rw [y]; exact List.mem_cons_self ..))]; exact e
      rw [oV_dec]
      by_cases hx : B.x = some B.bnd
      · refine iteD (decide_eq_true hx) ?_
        refine ⟨_, rfl, d, _, rfl, l.g_bound, _, rfl, d, _, rfl, l.g_step, _, _, rfl, rfl, _, _, rfl, _, rfl, d, _, rfl, l.p_bound _, ?_⟩
        rw [nb']
        have l1 := l.upd_d { B with bnd := B.nb } rfl rfl
        refine ⟨_, rfl, d, _, rfl, l1.g_bound, _, rfl, d, _, rfl, l1.g_cells, _, rfl, lc, _, _, 1, rfl, rfl, l1.cs, rfl, ?_⟩
        have l2 : LawAt (upd (upd H d (.dK (lawD { B with bnd := B.nb } lc))) lc (.lst [oV B.x, .int B.nb])) d lc { B with bnd := B.nb, y := some B.nb } := ⟨by rw [upd_ne l.ne]; exact upd_same, upd_same⟩
        refine ⟨_, rfl, d, _, rfl, l2.g_count, _, _, rfl, rfl, _, rfl, d, _, rfl, l2.p_count _, ?_⟩
        obtain ⟨f1, f2, f3⟩ := fin { B with bnd := B.nb, y := some B.nb } (by unfold Bt.wr; rw [if_pos hx]) _ (mset _ _) l2
        have l3 := l2.upd_d { B with bnd := B.nb, y := some B.nb, cnt := B.cnt + 1 } rfl rfl
        refine ⟨_, rfl, d, _, rfl, l3.g_count, _, _, rfl, rfl, ?_⟩
        show Q (.int (B.cnt + 1 - 1)) _
        rw [show B.cnt + 1 - 1 = B.cnt from by omega]
        exact q _ f2 f1
      · refine iteE (decide_eq_false hx) ?_
        refine ⟨_, rfl, d, _, rfl, l.g_bound, _, rfl, d, _, rfl, l.g_step, _, _, rfl, rfl, _, _, rfl, _, rfl, d, _, rfl, l.p_bound _, ?_⟩
        rw [nb']
        have l1 := l.upd_d { B with bnd := B.nb } rfl rfl
        refine ⟨_, rfl, d, _, rfl, l1.g_bound, _, rfl, d, _, rfl, l1.g_cells, _, rfl, lc, _, _, 0, rfl, rfl, l1.cs, rfl, ?_⟩
        have l2 : LawAt (upd (upd H d (.dK (lawD { B with bnd := B.nb } lc))) lc (.lst [.int B.nb, oV B.y])) d lc { B with bnd := B.nb, x := some B.nb } := ⟨by rw [upd_ne l.ne]; exact upd_same, upd_same⟩
        refine ⟨_, rfl, d, _, rfl, l2.g_count, _, _, rfl, rfl, _, rfl, d, _, rfl, l2.p_count _, ?_⟩
        obtain ⟨f1, f2, f3⟩ := fin { B with bnd := B.nb, x := some B.nb } (by unfold Bt.wr; rw [if_neg hx]) _ (mset _ _) l2
        have l3 := l2.upd_d { B with bnd := B.nb, x := some B.nb, cnt := B.cnt + 1 } rfl rfl
        refine ⟨_, rfl, d, _, rfl, l3.g_count, _, _, rfl, rfl, ?_⟩
        show Q (.int (B.cnt + 1 - 1)) _
        rw [show B.cnt + 1 - 1 = B.cnt from by omega]
        exact q _ f2 f1
    · have e : ¬ B.cnt = B.bnd := fun y => z (decide_eq_true (by rw [y]))
      have hm : ¬ B.mw = true := fun y => e (by unfold Bt.mw at y; rw [Bool.and_eq_true] at y; exact of_decide_eq_true y.1)
      refine ⟨_, rfl, d, _, rfl, l.g_count, _, _, rfl, rfl, _, rfl, d, _, rfl, l.p_count _, ?_⟩
      have l3 := l.upd_d { B with cnt := B.cnt + 1 } rfl rfl
      refine ⟨_, rfl, d, _, rfl, l3.g_count, _, _, rfl, rfl, ?_⟩
      show Q (.int (B.cnt + 1 - 1)) _
      rw [show B.cnt + 1 - 1 = B.cnt from by omega]
      have e3 : ({ B with cnt := B.cnt + 1 } : Bt) = B.pr := by unfold Bt.pr; rw [if_neg hm]
      refine q _ (Mv.upd1.mono fun c h y => h (by rw [List.mem_singleton.mp y]; exact List.mem_cons_self ..)) ?_
      rw [e3] at l3 ⊢
      exact l3
end
section
variable {P : Program} {w : World} {K : PySem.W.Frag} {mg : Str → Option Value} {base : Heap} {tk : Nat → Tok} {C : Addr}
theorem ok_Button_cell_out (a : AtM K C "cell_out" "Button.cell_out" s_Button_cell_out ["self"]) (T : Txt K mg tk) (U : BCx K C) : Mf P w K mg base C "cell_out" ["self"] 1 (spBOut K C) := by
  refine a.mq sc_Button_cell_out (fun vs H Q E h => ?_) (fun f cdv A outer s H vs Q E hr h => ?_)
  · obtain ⟨_, _, _, _, _, rfl, _⟩ := h
    rfl
  · obtain ⟨p, ta, ka, ce, B, rfl, b, ok, q⟩ := h
    refine ⟨_, (qss_cons (qs_set (i := 1) sc_Button_cell_out.nd rfl (Or.inl rfl) (qe_callB (call_maxL rfl) (by rfl) T.b_max PyProof.Rows.boot_max (qac (qe_compF (own := ["cell"]) (fr := []) (js := []) rfl (qi_list (qe_fld (qv 0))) rfl (fun _ _ h => nomatch h) rfl (bsc0 rfl (by decide +kernel) (by decide +kernel) (by decide +kernel)) (fun _ _ _ _ => qg_name (i := 0) (show List.Nodup (["cell"] : List Str) from by decide +kernel) rfl (Or.inl rfl) (.inr rfl)) (fun _ _ _ _ => (qt_cmpR op_notN (qv 0) qe_non (nomark _))) (fun _ _ _ _ => (qv 0))) qa_nil)))
      (qss_cons (qs_fld (qv 0) (qv 1))
      (qss_one (qs_fld (qv 0) (qv 1))))), ?_⟩
    refine ⟨_, rfl, p, _, rfl, b.h_cells U, ce, rfl, ⟨_, SqL.of b.cs⟩, compF_list (K := K) (xs := [oV B.x, oV B.y]) (by show 2 ≤ sizeLine; decide) (fun i ys H2 => H2 = H ∧ ys = ([oV B.x, oV B.y].take i).filter notN) ⟨rfl, rfl⟩ (fun i ys H2 ⟨e, _⟩ => by subst e; exact SqL.of b.cs) ?_ ?_⟩
    · rintro i ys H2 v hv ⟨rfl, rfl⟩
      refine ⟨_, rfl, rfl, _, rfl, ?_⟩
      rw [filt_step hv]
      by_cases e : notN v = true
      · exact iteD e ⟨_, rfl, rfl, by rw [if_pos e]⟩
      · exact iteE (Bool.eq_false_iff.mpr e) ⟨rfl, by rw [if_neg e]⟩
    · rintro ys H2 ⟨rfl, rfl⟩ pm hpm
      obtain ⟨k1, k2, k3⟩ := ok.ok
      refine ⟨pm, okC B.x B.y, rfl, ?_, k2, fun M hM1 hM2 => ?_⟩
      · show upd H2 pm (.lst ([oV B.x, oV B.y].filter notN)) pm = _
        rw [upd_same, notN_cells]
      · have hM : M = B.bnd := by have h1 := hM2 _ k1; have h2 := k3 _ hM1; omega
        subst hM
        have s1 : Same H2 _ := Same.upd (o := .lst ([oV B.x, oV B.y].filter notN)) hpm
        have b1 := b.same s1
        obtain ⟨dx, ep⟩ := b1.ob
        refine ⟨_, rfl, _, rfl, p, _, rfl, BtnAt.put U ep 5 _ rfl U.n_next_count, ?_⟩
        have mp : ∀ (H : Hp) (o : HO), Mv [p, ce] H (upd H p o) := fun H o => Mv.upd1.mono (fun c h z => h (by rw [List.mem_singleton.mp z]; exact List.mem_cons_self ..))
        have b2 := b1.to (B' := { B with cnt := B.bnd }) (mp _ (.ins C dx (bF { B with cnt := B.bnd } ta ka ce))) rfl rfl upd_same (by rw [upd_ne b1.ne.symm]; exact b1.cs)
        refine ⟨_, rfl, _, rfl, p, _, rfl, BtnAt.put (B := { B with cnt := B.bnd }) (ta := ta) (ka := ka) (ce := ce) (dx := dx) U upd_same 6 (.int B.bnd) rfl U.n_bound, ?_⟩
        have b3 := b2.to (B' := { B with cnt := B.bnd }) (mp _ (.ins C dx (bF { B with cnt := B.bnd } ta ka ce))) rfl rfl upd_same (by rw [upd_ne b1.ne.symm]; exact b2.cs)
        exact q _ ((s1.mv.trans (mp _ _)).trans (mp _ _)) b3
theorem ok_law_out (a : At K mg "_law_out" s_law_out ["_law_own"]) (T : Txt K mg tk) : Df P w K mg base "_law_out" ["_law_own"] 1 spOut := by
  refine a.dq sc_law_out (fun vs H Q E h => ?_) (fun f cdv A outer s H vs Q E hr h => ?_)
  · obtain ⟨_, _, _, rfl, _⟩ := h
    rfl
  · obtain ⟨d, lc, B, rfl, l, ok, q⟩ := h
    refine ⟨_, (qss_cons (qs_dputK hr (qv 0) qe_str (qe_callB (call_maxL rfl) (by rfl) T.b_max PyProof.Rows.boot_max (qac (qe_compF (own := ["_law_cell"]) (fr := []) (js := []) rfl (qi_list (qe_dget hr (qv 0) qe_str)) rfl (fun _ _ h => nomatch h) rfl (bsc0 rfl (by decide +kernel) (by decide +kernel) (by decide +kernel)) (fun _ _ _ _ => qg_name (i := 0) (show List.Nodup (["_law_cell"] : List Str) from by decide +kernel) rfl (Or.inl rfl) (.inr rfl)) (fun _ _ _ _ => (qt_cmpR op_notN (qv 0) qe_non (nomark _))) (fun _ _ _ _ => (qv 0))) qa_nil)))
      (qss_one (qs_dputK hr (qv 0) qe_str (qe_dget hr (qv 0) qe_str)))), ?_⟩
    refine ⟨_, rfl, d, _, rfl, l.g_cells, lc, rfl, ⟨_, SqL.of l.cs⟩, compF_list (K := K) (xs := [oV B.x, oV B.y]) (by show 2 ≤ sizeLine; decide) (fun i ys H2 => H2 = H ∧ ys = ([oV B.x, oV B.y].take i).filter notN) ⟨rfl, rfl⟩ (fun i ys H2 ⟨e, _⟩ => by subst e; exact SqL.of l.cs) ?_ ?_⟩
    · rintro i ys H2 v hv ⟨rfl, rfl⟩
      refine ⟨_, rfl, rfl, _, rfl, ?_⟩
      rw [filt_step hv]
      by_cases e : notN v = true
      · exact iteD e ⟨_, rfl, rfl, by rw [if_pos e]⟩
      · exact iteE (Bool.eq_false_iff.mpr e) ⟨rfl, by rw [if_neg e]⟩
    · rintro ys H2 ⟨rfl, rfl⟩ pm hpm
      obtain ⟨k1, k2, k3⟩ := ok.ok
      refine ⟨pm, okC B.x B.y, rfl, ?_, k2, fun M hM1 hM2 => ?_⟩
      · show upd H2 pm (.lst ([oV B.x, oV B.y].filter notN)) pm = _
        rw [upd_same, notN_cells]
      · have hM : M = B.bnd := by have h1 := hM2 _ k1; have h2 := k3 _ hM1; omega
        subst hM
        have s1 : Same H2 _ := Same.upd (o := .lst ([oV B.x, oV B.y].filter notN)) hpm
        have l1 := l.same s1
        refine ⟨_, rfl, d, _, rfl, l1.p_bound _, ?_⟩
        have l2 := l1.upd_d { B with bnd := B.bnd } rfl rfl
        have mp : ∀ (H : Hp) (o : HO), Mv [d, lc] H (upd H d o) := fun H o => Mv.upd1.mono (fun c h z => h (by rw [List.mem_singleton.mp z]; exact List.mem_cons_self ..))
        refine ⟨_, rfl, d, _, rfl, l2.g_bound, _, rfl, d, _, rfl, l2.p_count _, ?_⟩
        have l3 := l2.upd_d { B with cnt := B.bnd } rfl rfl
        exact q _ ((s1.mv.trans (mp _ _)).trans (mp _ _)) l3
end
end Lw
namespace Lw
open PySem L2 L3
section
variable {P : Program} {w : World} {K : PySem.W.Frag} {mg : Str → Option Value} {base : Heap} {tk : Nat → Tok} {C : Addr}
theorem ok_Button_cell_torn (a : AtM K C "cell_torn" "Button.cell_torn" s_Button_cell_torn ["self"]) (T : Txt K mg tk) (U : BCx K C) (D_Button_must_write : Mf P w K mg base C "must_write" ["self"] 2 (spBMust K C)) (D_Button_spare_cell : Mf P w K mg base C "spare_cell" ["self"] 1 (spBSpare K C)) (D_Button_cell_out : Mf P w K mg base C "cell_out" ["self"] 1 (spBOut K C)) : Mf P w K mg base C "cell_torn" ["self"] 3 (spBTorn K C) := by
  refine a.mq sc_Button_cell_torn (fun vs H Q E h => ?_) (fun f cdv A outer s H vs Q E hr h => ?_)
  · obtain ⟨_, _, _, _, _, rfl, _⟩ := h
    rfl
  · obtain ⟨p, ta, ka, ce, B, rfl, b, ok, q⟩ := h
    refine ⟨_, (qss_cons (qs_if (qt_val (qe_meth0 D_Button_must_write U.cl (hr.mono (by first | decide | omega)) (qv 0))) (qss_one (qs_asg qe_non (qg_sub (qe_fld (qv 0)) (qe_meth0 D_Button_spare_cell U.cl (hr.mono (by first | decide | omega)) (qv 0)) set_list))) qss_nil)
      (qss_one (qs_expr (qe_meth0 D_Button_cell_out U.cl (hr.mono (by first | decide | omega)) (qv 0))))), ?_⟩
    refine ⟨_, rfl, p, rfl, b.no, p, ta, ka, ce, B, rfl, b, _, rfl, ?_⟩
    unfold Bt.tn at q
    refine ite2 (fun z => ?_) (fun z => ?_)
    · rw [if_pos z] at q
      obtain ⟨dx, ep⟩ := b.ob
      have mc : ∀ o, Mv [p, ce] H (upd H ce o) := fun o => Mv.upd1.mono (fun c h z => h (by rw [List.mem_singleton.mp z]; exact List.mem_cons_of_mem _ (List.mem_cons_self ..)))
      by_cases e : B.x = some B.bnd
      · rw [if_pos e] at q
        have hsp : B.sp = 1 := by unfold Bt.sp; rw [if_pos e]
        refine ⟨_, rfl, p, _, rfl, b.h_cells U, _, rfl, p, rfl, b.no, p, ta, ka, ce, B, rfl, b, ce, _, _, 1, rfl, rfl, b.cs, by rw [hsp]; rfl, ?_⟩
        have b1 : BtnAt K C (upd H ce (.lst [oV B.x, .non])) p ta ka ce { B with y := none } := b.to (dx := dx) (mc _) rfl rfl (by rw [upd_ne b.ne]; exact ep) upd_same
        refine ⟨_, rfl, p, rfl, b1.no, p, ta, ka, ce, _, rfl, b1, ⟨ok.c0, ok.cb, ok.bm, ok.s1, .inl e, ok.hx, fun v q => by cases q⟩, fun H2 m2 b2 => q H2 ((mc _).trans m2) b2⟩
      · rw [if_neg e] at q
        have hsp : B.sp = 0 := by unfold Bt.sp; rw [if_neg e]
        refine ⟨_, rfl, p, _, rfl, b.h_cells U, _, rfl, p, rfl, b.no, p, ta, ka, ce, B, rfl, b, ce, _, _, 0, rfl, rfl, b.cs, by rw [hsp]; rfl, ?_⟩
        have b1 : BtnAt K C (upd H ce (.lst [.non, oV B.y])) p ta ka ce { B with x := none } := b.to (dx := dx) (mc _) rfl rfl (by rw [upd_ne b.ne]; exact ep) upd_same
        refine ⟨_, rfl, p, rfl, b1.no, p, ta, ka, ce, _, rfl, b1, ⟨ok.c0, ok.cb, ok.bm, ok.s1, .inr (ok.eq.resolve_left e), (fun v q => by cases q), ok.hy⟩, fun H2 m2 b2 => q H2 ((mc _).trans m2) b2⟩
    · rw [if_neg z] at q
      exact ⟨_, rfl, p, rfl, b.no, p, ta, ka, ce, _, rfl, b, ok, q⟩
theorem ok_law_torn (a : At K mg "_law_torn" s_law_torn ["_law_own"]) (T : Txt K mg tk) (D_law_out : Df P w K mg base "_law_out" ["_law_own"] 1 spOut) : Df P w K mg base "_law_torn" ["_law_own"] 2 spTorn := by
  refine a.dq sc_law_torn (fun vs H Q E h => ?_) (fun f cdv A outer s H vs Q E hr h => ?_)
  · obtain ⟨_, _, _, rfl, _⟩ := h
    rfl
  · obtain ⟨d, lc, B, rfl, l, ok, q⟩ := h
    refine ⟨_, (qss_cons (qs_if (QW.pt (qw_and (qt_cmpR op_eq (qe_dget hr (qv 0) qe_str) (qe_dget hr (qv 0) qe_str) (nomark _)) (qw_and1 (qt_cmpR op_lt (qe_dget hr (qv 0) qe_str) qe_int (nomark _))))) (qss_one (qs_asg qe_non (qg_sub (qe_dget hr (qv 0) qe_str) (qe_ifExp (qt_cmpR op_eq (qe_ix ix_list (qe_dget hr (qv 0) qe_str) qe_int (fun _ _ => rfl)) (qe_dget hr (qv 0) qe_str) (nomark _)) qe_int qe_int) set_list))) qss_nil)
      (qss_one (qs_expr (qe_def D_law_out (hr.mono (by first | decide | omega)) (qac (qv 0) qa_nil))))), ?_⟩
    unfold Bt.tn at q
    refine ⟨_, rfl, d, _, rfl, l.g_count, _, rfl, d, _, rfl, l.g_bound, rfl, _, rfl, ?_⟩
    have no : B.mw = false → (∀ H', Mv [d, lc] H H' → LawAt H' d lc B.ou → Q .non H') := fun z => by
      rw [if_neg (by rw [z]; intro y; cases y)] at q
      exact q
    refine ite2 (fun z => ?_) (fun z => ?_)
    · have e0 : B.cnt = B.bnd := by have := of_decide_eq_true z; injection this
      refine ⟨_, rfl, d, _, rfl, l.g_count, _, _, rfl, rfl, _, rfl, ?_⟩
      refine ite2 (fun y => ?_) (fun y => ?_)
      · have hlt : B.cnt < 4096 := of_decide_eq_true y
        have hm : B.mw = true := by unfold Bt.mw; rw [decide_eq_true e0, decide_eq_false (by omega : ¬ 4096 ≤ B.cnt)]; rfl
        rw [if_pos hm] at q
        have mc : ∀ o, Mv [d, lc] H (upd H lc o) := fun o => Mv.upd1.mono (fun c h z => h (by rw [List.mem_singleton.mp z]; exact List.mem_cons_of_mem _ (List.mem_cons_self ..)))
        have ndl : d ≠ lc := ne_of l.di l.cs (by intro z; cases z)
        refine ⟨_, rfl, d, _, rfl, l.g_cells, _, rfl, d, _, rfl, l.g_cells, lc, _, _, _, rfl, rfl, SqL.of l.cs, rfl, _, rfl, d, _, rfl, l.g_bound, oV_scal _ _, _, rfl, ?_⟩
        rw [oV_dec]
        by_cases e : B.x = some B.bnd
        · rw [if_pos e] at q
          refine iteD (decide_eq_true e) ?_
          refine ⟨lc, _, _, 1, rfl, rfl, l.cs, rfl, ?_⟩
          have l1 : LawAt (upd H lc (.lst [oV B.x, .non])) d lc { B with y := none } := ⟨by rw [upd_ne ndl]; exact l.di, upd_same⟩
          exact ⟨_, rfl, d, lc, _, rfl, l1, ⟨ok.c0, ok.cb, ok.bm, ok.s1, .inl e, ok.hx, fun v q => by cases q⟩, fun H2 m2 l2 => q H2 ((mc _).trans m2) l2⟩
        · rw [if_neg e] at q
          refine iteE (decide_eq_false e) ?_
          refine ⟨lc, _, _, 0, rfl, rfl, l.cs, rfl, ?_⟩
          have l1 : LawAt (upd H lc (.lst [.non, oV B.y])) d lc { B with x := none } := ⟨by rw [upd_ne ndl]; exact l.di, upd_same⟩
          exact ⟨_, rfl, d, lc, _, rfl, l1, ⟨ok.c0, ok.cb, ok.bm, ok.s1, .inr (ok.eq.resolve_left e), (fun v q => by cases q), ok.hy⟩, fun H2 m2 l2 => q H2 ((mc _).trans m2) l2⟩
      · have hlt : 4096 ≤ B.cnt := by have : ¬ B.cnt < 4096 := fun w => y (decide_eq_true w); omega
        exact ⟨_, rfl, d, lc, B, rfl, l, ok, no (by unfold Bt.mw; rw [decide_eq_true hlt]; simp)⟩
    · have e0 : ¬ B.cnt = B.bnd := fun e => z (decide_eq_true (by rw [e]))
      exact ⟨_, rfl, d, lc, B, rfl, l, ok, no (by unfold Bt.mw; rw [decide_eq_false e0]; rfl)⟩
theorem ok_law_lost (a : At K mg "_law_lost" s_law_lost ["_law_button", "_law_own", "_law_torn_here"]) (T : Txt K mg tk) (U : BCx K C) (D_law_torn : Df P w K mg base "_law_torn" ["_law_own"] 2 spTorn) (D_law_out : Df P w K mg base "_law_out" ["_law_own"] 1 spOut) (D_Button_cell_torn : Mf P w K mg base C "cell_torn" ["self"] 3 (spBTorn K C)) (D_Button_cell_out : Mf P w K mg base C "cell_out" ["self"] 1 (spBOut K C)) : Df P w K mg base "_law_lost" ["_law_button", "_law_own", "_law_torn_here"] 4 (spLost K C) := by
  refine a.dq sc_law_lost (fun vs H Q E h => ?_) (fun f cdv A outer s H vs Q E hr h => ?_)
  · obtain ⟨_, _, _, rfl, _⟩ := h
    rfl
  · obtain ⟨o, B, b, rfl, on, q⟩ := h
    refine ⟨_, (qss_cons (qs_if (qt_val (qv 2)) (qss_cons (qs_expr (qe_def D_law_torn (hr.mono (by first | decide | omega)) (qac (qv 1) qa_nil)))
      (qss_one (qs_ret (qe_meth0 D_Button_cell_torn U.cl (hr.mono (by first | decide | omega)) (qv 0))))) qss_nil)
      (qss_cons (qs_expr (qe_def D_law_out (hr.mono (by first | decide | omega)) (qac (qv 1) qa_nil)))
      (qss_one (qs_ret (qe_meth0 D_Button_cell_out U.cl (hr.mono (by first | decide | omega)) (qv 0)))))), ?_⟩
    refine ⟨_, rfl, _, rfl, ?_⟩
    refine ite2 (fun z => ?_) (fun z => ?_)
    · rw [if_pos z] at q
      refine ⟨_, rfl, o.d, o.lc, B, rfl, on.la, on.ok, fun H1 m1 l1 => ?_⟩
      have b1 := on.btn m1
      exact ⟨_, rfl, o.p, rfl, b1.no, o.p, o.ta, o.ka, o.ce, B, rfl, b1, on.ok, fun H2 m2 b2 => q _ (m1.o3d.trans m2.o3p) (on.two m1 l1 m2 b2 (tn_nm B) (tn_t B) on.ok.tn)⟩
    · rw [if_neg z] at q
      refine ⟨_, rfl, o.d, o.lc, B, rfl, on.la, on.ok, fun H1 m1 l1 => ?_⟩
      have b1 := on.btn m1
      exact ⟨_, rfl, o.p, rfl, b1.no, o.p, o.ta, o.ka, o.ce, B, rfl, b1, on.ok, fun H2 m2 b2 => q _ (m1.o3d.trans m2.o3p) (on.two m1 l1 m2 b2 rfl rfl on.ok.ou)⟩
end
end Lw
namespace L3
open PySem PySem.Spec PyProof.Rows L2 S0
structure O4 where
  r : Addr
  w : Addr
  rt : Addr
  rk : Addr
  cl : Addr
  o : O3
  B : Bt
  cs : List Int
def O4.as (e : O4) : List Addr := e.cl :: e.o.as
structure On4 (K : PySem.W.Frag) (C : Addr) (H : Hp) (e : O4) : Prop where
  on : On3 K C H e.o e.B
  tr : Rd H e.r (.tup [.ref e.o.p, .ref e.w, .ref e.o.d, .ref e.cl])
  tw : Rd H e.w (.tup [.str e.B.nm, .ref e.rt, .ref e.rk, .int e.B.age])
  rt : SqT K H e.rt (e.B.t.map V.int)
  rk : SqT K H e.rk (e.B.ks.map V.int)
  cl : H e.cl = some (.lst (e.cs.map V.int))
  nc : e.cl ∉ e.o.as
  up : e.cs.Pairwise (· < ·)
  lo : ∀ c ∈ e.cs, c < e.B.cnt
section
variable {K : PySem.W.Frag} {C : Addr} {H H' : Hp} {e : O4} {b L : Addr} {n n' : Nat} {es : List O4}
theorem On4.nt (h : On4 K C H e) : NT e.as H := fun c hc => by
  rcases List.mem_cons.mp hc with rfl | hc
  · exact ⟨_, h.cl, trivial⟩
  · exact h.on.nt c hc
theorem On4.mv {S : List Addr} (h : On4 K C H e) (m : Mv S H H') (nt : NT S H) (ne : ∀ c ∈ e.as, c ∉ S) : On4 K C H' e :=
  ⟨h.on.mv m nt (ne _ (by simp [O4.as, O3.as])) (ne _ (by simp [O4.as, O3.as])) (ne _ (by simp [O4.as, O3.as])) (ne _ (by simp [O4.as, O3.as])), m.rd nt h.tr, m.rd nt h.tw, m.sqt nt h.rt, m.sqt nt h.rk, m _ _ (ne _ (by simp [O4.as])) h.cl, h.nc, h.up, h.lo⟩
structure W4 (K : PySem.W.Frag) (C : Addr) (H : Hp) (b L : Addr) (n : Nat) (es : List O4) : Prop where
  bx : BoxC H b n
  ls : H L = some (.lst (es.map fun e => V.ref e.r))
  on : ∀ (i : Nat) (e : O4), es[i]? = some e → On4 K C H e
  ow : ∃ ow : Addr → Nat, ow b = 0 ∧ ow L = 1 ∧ ∀ (i : Nat) (e : O4), es[i]? = some e → ∀ y ∈ e.as, ow y = i + 2
theorem W4.nL (h : W4 K C H b L n es) : L ≠ b := fun z => by
  obtain ⟨ow, h1, h2, _⟩ := h.ow
  rw [z, h1] at h2; cases h2
theorem W4.nb (h : W4 K C H b L n es) {i : Nat} (hi : es[i]? = some e) : b ∉ e.as ∧ L ∉ e.as := by
  obtain ⟨ow, h1, h2, h3⟩ := h.ow
  exact ⟨fun z => by have := h3 i e hi b z; omega, fun z => by have := h3 i e hi L z; omega⟩
theorem W4.box (h : W4 K C H b L n es) (m : Mv [b] H H') (hb : BoxC H' b n') : W4 K C H' b L n' es := by
  obtain ⟨_, _, _, eb, _⟩ := h.bx
  exact ⟨hb, m _ _ (nin1 h.nL) h.ls, fun i e hi => (h.on i e hi).mv m (NT.one eb trivial) fun c hc z => (h.nb hi).1 (List.mem_singleton.mp z ▸ hc), h.ow⟩
theorem W4.grc (h : W4 K C H b L n es) (g : GrC b n' H H') : W4 K C H' b L n' es := h.box g.mv g.bx
theorem W4.same (h : W4 K C H b L n es) (g : Same H H') : W4 K C H' b L n es := h.box g.mv (g.grc h.bx).bx
theorem W4.mono (h : W4 K C H b L n es) (l : n ≤ n') : W4 K C H b L n' es := ⟨h.bx.mono l, h.ls, h.on, h.ow⟩
theorem W4.step (h : W4 K C H b L n es) {x : Nat} (hx : es[x]? = some e) {e' : O4} (m : Mv (b :: e.as) H H') (hb : BoxC H' b n') (ho : On4 K C H' e') (ha : e'.as = e.as) (hr : e'.r = e.r) : W4 K C H' b L n' (es.set x e') := by
  obtain ⟨ow, w1, w2, w3⟩ := h.ow
  have zo := h.on x e hx
  obtain ⟨_, _, _, eb, _⟩ := h.bx
  have nt : NT (b :: e.as) H := fun c hc => by
    rcases List.mem_cons.mp hc with rfl | hc
    · exact ⟨_, eb, trivial⟩
    · exact zo.nt c hc
  have nL : L ∉ b :: e.as := fun z => by
    rcases List.mem_cons.mp z with z | z
    · exact h.nL z
    · exact (h.nb hx).2 z
  refine ⟨hb, ?_, fun i a ei => ?_, ow, w1, w2, fun i a ei y hy => ?_⟩
  · rw [m _ _ nL h.ls]
    congr 2
    apply List.ext_getElem?
    intro i
    rw [List.getElem?_map, List.getElem?_map]
    by_cases q : x = i
    · subst q; rw [List.getElem?_set_self (List.getElem?_eq_some_iff.mp hx).1, hx]; simp [hr]
    · rw [List.getElem?_set_ne q]
  · rcases set_get hx ei with ⟨_, rfl⟩ | ⟨ni, ei⟩
    · exact ho
    · refine (h.on i a ei).mv m nt fun c hc z => ?_
      have c1 := w3 i a ei c hc
      rcases List.mem_cons.mp z with rfl | z
      · omega
      · have := w3 x e hx c z; omega
  · rcases set_get hx ei with ⟨rfl, rfl⟩ | ⟨ni, ei⟩
    · exact w3 i e hx y (by rw [← ha]; exact hy)
    · exact w3 i a ei y hy
theorem W4.add (h : W4 K C H b L n es) (ho : On4 K C H e) (hf : ∀ y ∈ e.as, y ≠ b ∧ y ≠ L ∧ ∀ (i : Nat) (a : O4), es[i]? = some a → y ∉ a.as) : W4 K C (upd H L (.lst ((es.map fun e => V.ref e.r) ++ [.ref e.r]))) b L n (es ++ [e]) := by
  obtain ⟨ow, w1, w2, w3⟩ := h.ow
  have key : ∀ a : O4, L ∉ a.as → On4 K C H a → On4 K C (upd H L (.lst ((es.map fun e => V.ref e.r) ++ [.ref e.r]))) a := fun a nl z =>
    z.mv (Mv.upd1 (a := L)) (NT.one h.ls trivial) fun c hc q => nl (List.mem_singleton.mp q ▸ hc)
  refine ⟨?_, by rw [upd_same, List.map_append]; rfl, fun i a ei => ?_, fun y => if y ∈ e.as then es.length + 2 else ow y, ?_, ?_, fun i a ei y hy => ?_⟩
  · obtain ⟨n1, n2, n3, eb, r⟩ := h.bx
    exact ⟨n1, n2, n3, by rw [upd_ne h.nL.symm]; exact eb, r⟩
  · rcases app_get ei with ⟨_, rfl⟩ | ⟨_, ei⟩
    · exact key _ (fun z => (hf L z).2.1 rfl) ho
    · exact key _ (h.nb ei).2 (h.on i a ei)
  · show (if b ∈ e.as then es.length + 2 else ow b) = 0
    rw [if_neg fun z => (hf b z).1 rfl]; exact w1
  · show (if L ∈ e.as then es.length + 2 else ow L) = 1
    rw [if_neg fun z => (hf L z).2.1 rfl]; exact w2
  · rcases app_get ei with ⟨q, rfl⟩ | ⟨_, ei⟩
    · show (if y ∈ a.as then es.length + 2 else ow y) = i + 2
      rw [if_pos hy, q]
    · show (if y ∈ e.as then es.length + 2 else ow y) = i + 2
      rw [if_neg fun z => (hf y z).2.2 i a ei hy]; exact w3 i a ei y hy
def Fr4 (H : Hp) (es : List O4) : Prop := ∀ (i : Nat) (e : O4), es[i]? = some e → ∀ y ∈ e.as, H y = none
theorem Fr4.set (f : Fr4 H es) {x : Nat} (hx : es[x]? = some e) {e' : O4} (ha : e'.as = e.as) : Fr4 H (es.set x e') := fun i a ei y hy => by
  rcases set_get hx ei with ⟨rfl, rfl⟩ | ⟨_, ei⟩
  · exact f i e hx y (by rw [← ha]; exact hy)
  · exact f i a ei y hy
theorem Fr4.add (f : Fr4 H es) (h : ∀ y ∈ e.as, H y = none) : Fr4 H (es ++ [e]) := fun i a ei y hy => by
  rcases app_get ei with ⟨_, rfl⟩ | ⟨_, ei⟩
  · exact h y hy
  · exact f i a ei y hy
theorem refs4 {es : List O4} {y : Nat} {x : V} (h : (es.map fun e => V.ref e.r)[y]? = some x) : ∃ e, es[y]? = some e ∧ x = .ref e.r := by
  rw [List.getElem?_map] at h
  obtain ⟨e, h1, h2⟩ := Option.map_eq_some_iff.mp h
  exact ⟨e, h1, h2.symm⟩
theorem ddL_nodup {l : List Int} (h : l.Nodup) : ddL l = l := by
  have key : ∀ (l acc : List Int), (acc ++ l).Nodup → l.foldl dstep acc = acc ++ l := by
    intro l
    induction l with
    | nil => intro acc _; simp
    | cons x r ih =>
      intro acc hn
      rw [List.foldl_cons]
      have hx : x ∉ acc := fun z => by
        have := List.nodup_append.mp hn
        exact this.2.2 x z x (List.mem_cons_self ..) rfl
      have e : dstep acc x = acc ++ [x] := by unfold dstep; rw [if_neg hx]
      rw [e, ih (acc ++ [x]) (by rw [List.append_assoc]; exact hn), List.append_assoc]; rfl
  exact key l [] (by simpa using h)
theorem sorted_self {cs ms : List Int} (up : cs.Pairwise (· < ·)) (p : ms.Perm (ddL cs)) (s : ms.Pairwise (· ≤ ·)) : ms = cs := by
  rw [ddL_nodup (up.imp fun h => by omega)] at p
  exact sorted_unique p s (up.imp fun h => by omega)
theorem name_key2 {i : Nat} {v : V} {σ : L2.St} {H : Hp} {t u : TS} {D : Ends} {rt : VK} {bk ct : L2.St → Hp → Prop} (G : L2.St → Hp → Prop) (h : ∀ D' : Ends, D'.rt = D.rt → (∀ σ' H', G σ' H' → D'.nx σ' H') → t D' (σ.set i (some v)) H) (hG : ∀ σ' H', G σ' H' → u D σ' H') : gName i v σ H (Ends.nx { nx := tSeq t u D, rt := rt, bk := bk, ct := ct }) := h { D with nx := u D } rfl hG
theorem On4.lost {f : Bool} (z : On4 K C H e) (m : Mv e.o.as H H') (on : On3 K C H' e.o (if f then e.B.tn else e.B.ou)) : On4 K C H' { e with B := if f then e.B.tn else e.B.ou } := by
  have nt := z.on.nt
  have cb := z.on.ok.cb
  refine ⟨on, m.rd nt z.tr, ?_, ?_, ?_, m _ _ z.nc z.cl, z.nc, z.up, fun c hc => ?_⟩
  · have := m.rd nt z.tw
    cases f
    · exact this
    · show Rd H' e.w (.tup [.str e.B.tn.nm, .ref e.rt, .ref e.rk, .int e.B.tn.age])
      rw [tn_nm, tn_age]; exact this
  · have := m.sqt nt z.rt
    cases f
    · exact this
    · show SqT K H' e.rt (e.B.tn.t.map V.int)
      rw [tn_t]; exact this
  · have := m.sqt nt z.rk
    cases f
    · exact this
    · show SqT K H' e.rk (e.B.tn.ks.map V.int)
      rw [tn_ks]; exact this
  · have := z.lo c hc
    cases f
    · show c < e.B.bnd; omega
    · show c < e.B.tn.cnt; rw [tn_cnt]; omega
theorem On4.press (z : On4 K C H e) (m : Mv (b :: e.as) H H') (hb : BoxC H b n) (on : On3 K C H' e.o e.B.pr) (hcl : H' e.cl = some (.lst ((e.cs ++ [e.B.cnt]).map V.int))) : On4 K C H' { e with B := e.B.pr, cs := e.cs ++ [e.B.cnt] } := by
  obtain ⟨_, _, _, eb, _⟩ := hb
  have nt : NT (b :: e.as) H := fun c hc => by
    rcases List.mem_cons.mp hc with rfl | hc
    · exact ⟨_, eb, trivial⟩
    · exact z.nt c hc
  refine ⟨on, m.rd nt z.tr, ?_, ?_, ?_, hcl, z.nc, ?_, fun c hc => ?_⟩
  · show Rd H' e.w (.tup [.str e.B.pr.nm, .ref e.rt, .ref e.rk, .int e.B.pr.age])
    rw [pr_nm, pr_age]; exact m.rd nt z.tw
  · show SqT K H' e.rt (e.B.pr.t.map V.int)
    rw [pr_t]; exact m.sqt nt z.rt
  · show SqT K H' e.rk (e.B.pr.ks.map V.int)
    rw [pr_ks]; exact m.sqt nt z.rk
  · refine List.pairwise_append.mpr ⟨z.up, List.pairwise_singleton .., fun x hx y hy => ?_⟩
    rw [List.mem_singleton.mp hy]; exact z.lo x hx
  · show c < e.B.pr.cnt
    rw [pr_cnt]
    rcases List.mem_append.mp hc with hc | hc
    · have := z.lo c hc; omega
    · rw [List.mem_singleton.mp hc]; omega
end
end L3
namespace Lw
open PySem L2 L3
section
variable {P : Program} {w : World} {K : PySem.W.Frag} {mg : Str → Option Value} {base : Heap} {tk : Nat → Tok} {C : Addr}
theorem ok_law {f : Addr} {fd : FuncData} (F : Fun K "law" "law" s_law f fd) (T : Txt K mg tk) (U : BCx K C) (I_Button : Mi P w K mg base C "Button" ["self", "name", "table", "key", "age", "step"] 1 (spBInit K C))
    (D_Button_press_once : Mf P w K mg base C "press_once" ["self", "deed"] 4 (spBPress K C)) (D_Button_count_now : Mf P w K mg base C "count_now" ["self"] 1 (spBCount K C)) (D_Button_cells_now : Mf P w K mg base C "cells_now" ["self"] 1 (spBCells K C))
    (D_press_of : Df P w K mg base "press_of" ["table", "key", "name", "age", "count", "deed"] 3 (spPress K)) (D_law_box : Df P w K mg base "_law_box" ["_law_script", "_law_k"] 1 (spBox2 K)) (D_law_take : Df P w K mg base "_law_take" ["_law_box_here", "_law_many"] 1 spTake2)
    (D_law_table : Df P w K mg base "_law_table" ["_law_box_here"] 2 spTable2) (D_law_key : Df P w K mg base "_law_key" ["_law_box_here"] 2 spKeyT2) (D_law_name : Df P w K mg base "_law_name" ["_law_box_here"] 2 spName2)
    (D_law_begun : Df P w K mg base "_law_begun" ["_law_step"] 1 spBegun) (D_law_pressed : Df P w K mg base "_law_pressed" ["_law_own"] 1 spPressed)
    (D_all : ∀ n : Nat, n ≤ 8 → Df P w K mg base "_law_alike" ["_law_found", "_law_due"] (n + 1) (spAl n)) (D_law_lost : Df P w K mg base "_law_lost" ["_law_button", "_law_own", "_law_torn_here"] 4 (spLost K C)) : FnOk P w K mg base CX0 6 f fd ["_law_script"] (spLaw K) := by
  have D_law_alike := D_all 2 (by decide)
  refine F.dq sc_law (fun vs H Q E h => ?_) (fun cdv A outer s H vs Q E hr h => ?_)
  · obtain ⟨x, ns, rfl, _⟩ := h
    rfl
  · obtain ⟨sc, ns, rfl, hS, hlen, q⟩ := h
    refine ⟨_, (qss_cons (qs_for PassesOwn.never rfl (qi_range1 rfl T.b_range (qac (qe_op op_add qe_int (qe_callB call_len_seq (by rfl) T.b_len PySem.boot_len (qac (qe_slice sl_list (qv 0) qo_none (qo_some qe_int)) qa_nil))) qa_nil)) (qg_name (i := 1) sc_law.nd rfl (Or.inl rfl))
      (qss_cons (qs_set (i := 2) sc_law.nd rfl (Or.inl rfl) (qe_def D_law_box (hr.mono (by first | decide | omega)) (qac (qv 0) (qac (qv 1) qa_nil))))
      (qss_cons (qs_set (i := 3) sc_law.nd rfl (Or.inl rfl) (qe_lst qa_nil))
      (qss_cons (qs_for PassesOwn.never rfl (qi_range1 rfl T.b_range (qac qe_int qa_nil)) (qg_name (i := 4) sc_law.nd rfl (Or.inl rfl))
      (qss_cons (qs_set (i := 5) sc_law.nd rfl (Or.inl rfl) (qe_ix ix_list (qe_lst (qac qe_int (qac qe_int (qac qe_int (qac qe_int (qac qe_int (qac (qe_op op_add qe_int (qe_def D_law_take (hr.mono (by first | decide | omega)) (qac (qv 2) (qac qe_int qa_nil)))) qa_nil))))))) (qe_def D_law_take (hr.mono (by first | decide | omega)) (qac (qv 2) (qac qe_int qa_nil))) (fun _ _ => rfl)))
      (qss_cons (qs_set (i := 6) sc_law.nd rfl (Or.inl rfl) (qe_tup (qac (qe_def D_law_name (hr.mono (by first | decide | omega)) (qac (qv 2) qa_nil)) (qac (qe_def D_law_table (hr.mono (by first | decide | omega)) (qac (qv 2) qa_nil)) (qac (qe_slice sl_tupW (qe_def D_law_key (hr.mono (by first | decide | omega)) (qac (qv 2) qa_nil)) qo_none (qo_some qe_int)) (qac (qe_def D_law_take (hr.mono (by first | decide | omega)) (qac (qv 2) (qac qe_int qa_nil))) qa_nil))))))
      (qss_one (qs_expr (qe_bm PySem.F.plainAttrs_list PySem.F.slot_list_append PySem.F.type_list_append mr_append (qv 3) (qac (qe_tup (qac (qe_make I_Button (hr.mono (by first | decide | omega)) (qac (qe_ix ix_tup (qv 6) qe_int (fun _ _ => rfl)) (qac (qe_ix ix_tup (qv 6) qe_int (fun _ _ => rfl)) (qac (qe_ix ix_tup (qv 6) qe_int (fun _ _ => rfl)) (qac (qe_ix ix_tup (qv 6) qe_int (fun _ _ => rfl)) (qac (qv 5) qa_nil)))))) (qac (qv 6) (qac (qe_def D_law_begun (hr.mono (by first | decide | omega)) (qac (qv 5) qa_nil)) (qac (qe_lst qa_nil) qa_nil))))) qa_nil)))))))
      (qss_one (qs_for PassesOwn.never rfl (qi_range1 rfl T.b_range (qac (qe_ix ix_list (qe_lst (qac qe_int (qac (qe_op op_add qe_int (qe_def D_law_take (hr.mono (by first | decide | omega)) (qac (qv 2) (qac qe_int qa_nil)))) qa_nil))) (qe_callTy call_int1 (by rfl) T.b_int PyProof.Rows.boot_int (qac (qe_cmpR op_eq (qe_def D_law_take (hr.mono (by first | decide | omega)) (qac (qv 2) (qac qe_int qa_nil))) qe_int (nomark _)) qa_nil)) (fun _ _ => rfl)) qa_nil)) (qg_name (i := 4) sc_law.nd rfl (Or.inl rfl))
      (qss_cons (qs_asg (qe_ix ix_list (qv 3) (qe_def D_law_take (hr.mono (by first | decide | omega)) (qac (qv 2) (qac qe_int qa_nil))) (fun _ _ => rfl)) (qg_seq rfl (qgs_cons (qg_name (i := 7) sc_law.nd rfl (Or.inl rfl)) (qgs_cons (qg_seq rfl (qgs_cons (qg_name (i := 8) sc_law.nd rfl (Or.inl rfl)) (qgs_cons (qg_name (i := 9) sc_law.nd rfl (Or.inl rfl)) (qgs_cons (qg_name (i := 10) sc_law.nd rfl (Or.inl rfl)) (qgs_cons (qg_name (i := 11) sc_law.nd rfl (Or.inl rfl)) qgs_nil))))) (qgs_cons (qg_name (i := 12) sc_law.nd rfl (Or.inl rfl)) (qgs_cons (qg_name (i := 13) sc_law.nd rfl (Or.inl rfl)) qgs_nil))))))
      (qss_cons (qs_set (i := 14) sc_law.nd rfl (Or.inl rfl) (qe_def D_law_take (hr.mono (by first | decide | omega)) (qac (qv 2) (qac qe_int qa_nil))))
      (qss_cons (qs_if (qt_cmpR op_lt (qv 14) qe_int (nomark _)) (qss_one (qs_if (qt_cmpR op_notN (qe_def D_law_lost (hr.mono (by first | decide | omega)) (qac (qv 7) (qac (qv 12) (qac (qe_cmpR op_eq (qv 14) qe_int (nomark _)) qa_nil)))) qe_non (nomark _)) (qss_one (qs_ret qe_bl)) qss_nil)) (qss_one (qs_if (qt_cmpR op_lt (qe_dget hr (qv 12) qe_str) qe_int (nomark _)) (qss_cons (qs_set (i := 15) sc_law.nd rfl (Or.inl rfl) (qe_def D_law_take (hr.mono (by first | decide | omega)) (qac (qv 2) (qac qe_int qa_nil))))
      (qss_cons (qs_expr (qe_bm PySem.F.plainAttrs_list PySem.F.slot_list_append PySem.F.type_list_append mr_append (qv 13) (qac (qe_def D_law_pressed (hr.mono (by first | decide | omega)) (qac (qv 12) qa_nil)) qa_nil)))
      (qss_cons (qs_set (i := 16) sc_law.nd rfl (Or.inl rfl) (qe_def D_press_of (hr.mono (by first | decide | omega)) (qac (qv 9) (qac (qv 10) (qac (qv 8) (qac (qv 11) (qac (qe_ix ix_list (qv 13) (qe_un un_neg qe_int) (fun _ _ => rfl)) (qac (qv 15) qa_nil))))))))
      (qss_one (qs_if (qt_not (qt_val (qe_def D_law_alike (hr.mono (by first | decide | omega)) (qac (qe_meth D_Button_press_once U.cl (hr.mono (by first | decide | omega)) (qv 7) (qac (qv 15) qa_nil)) (qac (qv 16) qa_nil))))) (qss_one (qs_ret qe_bl)) qss_nil))))) qss_nil)))
      (qss_one (qs_for PassesOwn.never rfl (qi_list (qv 3)) (qg_seq rfl (qgs_cons (qg_name (i := 7) sc_law.nd rfl (Or.inl rfl)) (qgs_cons (qg_name (i := 6) sc_law.nd rfl (Or.inl rfl)) (qgs_cons (qg_name (i := 12) sc_law.nd rfl (Or.inl rfl)) (qgs_cons (qg_name (i := 13) sc_law.nd rfl (Or.inl rfl)) qgs_nil)))))
      (qss_cons (qs_if (qt_not (qt_val (qe_def D_law_alike (hr.mono (by first | decide | omega)) (qac (qe_lst (qac (qe_meth0 D_Button_cells_now U.cl (hr.mono (by first | decide | omega)) (qv 7)) (qac (qe_meth0 D_Button_count_now U.cl (hr.mono (by first | decide | omega)) (qv 7)) qa_nil))) (qac (qe_lst (qac (qe_callTy call_tuple_of (by rfl) T.b_tuple PyProof.Rows.boot_tuple (qac (qe_dget hr (qv 12) qe_str) qa_nil)) (qac (qe_dget hr (qv 12) qe_str) qa_nil))) qa_nil))))) (qss_one (qs_ret qe_bl)) qss_nil)
      (qss_one (qs_if (qt_cmpR (op_neL (hu_of hr)) (qe_callB (call_sortedS rfl) (by rfl) T.b_sorted PyProof.Rows.boot_sorted (qac (qe_callTy (call_setLI rfl) (by rfl) T.b_set PyProof.Rows.boot_set (qac (qv 13) qa_nil)) qa_nil)) (qv 13) (nomark _)) (qss_one (qs_ret qe_bl)) qss_nil))))))))))))))
      (qss_one (qs_ret qe_bl))), ?_⟩
    refine ⟨_, rfl, _, rfl, sc, _, rfl, hS, fun p hp => ⟨p, _, rfl, .inl (SqL.of upd_same), _, _, rfl, rfl, _, rfl, ?_, ?_, ?_⟩⟩
    · omega
    · rw [cut_ints, List.length_map, cutI_len]; omega
    have s1 : Same H _ := Same.upd (o := .lst (cutV (ns.map V.int) none (some 2))) hp
    refine for_range (Pv := fun i σ H2 => Same H H2 ∧ ∃ o1 o2 o3 o4 o5 o6 o7 o8 o9 o10 o11 o12 o13 o14 o15 o16, σ = [some (.ref sc), o1, o2, o3, o4, o5, o6, o7, o8, o9, o10, o11, o12, o13, o14, o15, o16]) ⟨s1, _, _, _, _, _, _, _, _, _, _, _, _, _, _, _, _, rfl⟩ ?_ ?_
    · rintro k σ H2 hk ⟨s2, o1, o2, o3, o4, o5, o6, o7, o8, o9, o10, o11, o12, o13, o14, o15, o16, rfl⟩
      refine ⟨_, rfl, _, rfl, sc, ns, k, (by simp), s2.seq hS, fun b H3 hb s3 bx => ?_⟩
      refine ⟨by show 0 ≤ sizeLine; decide, fun L hL => ?_⟩
      have fL := s2n hL s3
      have nbL := boxc_fresh bx hL
      have W0 : W4 K C (upd H3 L (.lst [])) b L 0 [] := ⟨bx.upd nbL, upd_same, fun i o e => by (cases e), fun y => if y = L then 1 else 0, if_neg (fun z => nbL z.symm), if_pos rfl, fun i o e => by (cases e)⟩
      refine ⟨2, rfl, by decide, by decide, for_range (n := 2) (Pv := fun i σ H4 => Same H2 H4 ∧ ∃ (es : List O4) (o4 o5 o6 o7 o8 o9 o10 o11 o12 o13 o14 o15 o16 : Option V), Fr4 H2 es ∧ W4 K C H4 b L (40 * i) es ∧ es.length = i ∧ (∀ (j : Nat) (e : O4), es[j]? = some e → e.cs = []) ∧ σ = [some (.ref sc), some (.int (0 + (k : Int))), some (.ref b), some (.ref L), o4, o5, o6, o7, o8, o9, o10, o11, o12, o13, o14, o15, o16])
        ⟨s3.trans (Same.upd hL), [], _, _, _, _, _, _, _, _, _, _, _, _, _, fun i o e => by (cases e), W0, rfl, fun j e h => by (cases h), rfl⟩ ?_ ?_⟩
      · rintro i σ H4 hi ⟨s4, es, o4, o5, o6, o7, o8, o9, o10, o11, o12, o13, o14, o15, o16, fr, W, hos, hcs, rfl⟩
        refine ⟨_, rfl, b, _, _, rfl, W.bx, by omega, by decide, by decide, fun r1 Ha r10 r11 ga => ⟨_, _, rfl, rfl, by show 6 ≤ sizeLine; decide, fun l hl => ?_⟩⟩
        have ul := Same.upd (o := .lst [.int 1, .int 2, .int 3, .int 4, .int 64, .int (1 + r1)]) hl
        refine ⟨_, rfl, b, _, _, rfl, (ul.grc ga.bx).bx, by omega, by decide, by decide, fun r2 Hb r20 r21 gb => ?_⟩
        obtain ⟨v5, hv5, hm5⟩ := draw_at (xs := [V.int 1, .int 2, .int 3, .int 4, .int 64, .int (1 + r1)]) r20 r21
        obtain ⟨step, rfl, st1⟩ : ∃ z : Int, v5 = .int z ∧ 1 ≤ z := by
          simp only [List.mem_cons, List.not_mem_nil, or_false] at hm5
          rcases hm5 with rfl | rfl | rfl | rfl | rfl | rfl <;> exact ⟨_, rfl, by omega⟩
        refine ⟨l, _, _, _, rfl, rfl, SqL.of (gb.kp _ _ (boxc_fresh ga.bx hl) upd_same), hv5, ?_⟩
        have m1 : Mv [b] H4 Hb := (ga.mv.trans ul.mv).trans gb.mv
        refine ⟨_, rfl, b, _, rfl, gb.bx, by omega, fun nm Hc gc hnm => ⟨_, rfl, b, _, rfl, gc.bx, by omega, fun rt t Hd gd frt hrt pt => ?_⟩⟩
        have lt : t.length = 16 := tab_len pt
        refine ⟨_, rfl, b, _, rfl, gd.bx, by omega, fun rk0 ks0 He ge frk hrk dk k1 k8 => ⟨_, rfl, rk0, _, rfl, hrk, fun rk Hf sf hrk2 _ => ?_⟩⟩
        rw [cut_ints] at hrk2
        generalize cutI ks0 none (some 3) = ks at hrk2
        have m2 : Mv [b] H4 Hf := ((m1.trans (gc.trans gd).mv).trans ge.mv).trans sf.mv
        have b2 := (sf.grc ge.bx).bx
        have nrt : rt ≠ b := fun z => by obtain ⟨_, _, _, e, _⟩ := gd.bx; rw [← z, hrt] at e; cases e
        have nrk : rk ≠ b := fun z => by obtain ⟨_, _, _, e, _⟩ := b2; rw [← z, hrk2] at e; cases e
        have frt2 : Hf rt = some (.tup (t.map V.int)) := sf _ _ (ge.kp _ _ nrt hrt)
        refine ⟨_, rfl, b, _, _, rfl, b2, by omega, by decide, by decide, fun age Hg' a0 a1 gg => ⟨by show 4 ≤ sizeLine; decide, fun w hw => ?_⟩⟩
        have uw := Same.upd (o := .tup [.str nm, .ref rt, .ref rk, .int age]) hw
        have m3 := (m2.trans gg.mv).trans uw.mv
        have b3 := (uw.grc gg.bx).bx
        have ert := uw _ _ (gg.kp _ _ nrt frt2)
        have erk := uw _ _ (gg.kp _ _ nrk hrk2)
        have ew : _ = some (HO.tup [.str nm, .ref rt, .ref rk, .int age]) := upd_same (H := Hg') (a := w) (o := .tup [.str nm, .ref rt, .ref rk, .int age])
        generalize upd Hg' w (.tup [.str nm, .ref rt, .ref rk, .int age]) = Hg at uw m3 b3 ert erk ew ⊢
        have W3 := W.box m3 b3
        refine ⟨_, rfl, .inl ⟨rfl, _, SqL.of W3.ls⟩, _, rfl, w, _, _, _, rfl, rfl, SqT.of ew, rfl, _, rfl, w, _, _, _, rfl, rfl, SqT.of ew, rfl, _, rfl, w, _, _, _, rfl, rfl, SqT.of ew, rfl, _, rfl, w, _, _, _, rfl, rfl, SqT.of ew, rfl, _, rfl, fun x dx nx ndx nex => ?_⟩
        have sJ : Same Hg (upd (upd Hg dx (.own x)) x (.ins C dx [])) := (Same.upd ndx).trans (Same.upd (by rw [upd_ne nex.symm]; exact nx))
        refine ⟨x, rt, rk, dx, nm, age, step, t, ks, rfl, upd_same, .tup (sJ _ _ ert), .tup (sJ _ _ erk), fun ta ka ce Hk hce mk bk => ⟨rfl, ?_⟩⟩
        have sK : Same Hg Hk := fun c o e => mk c o (nin1 (ne_of_none e nx)) (sJ c o e)
        have fx : H4 x = none := m3.free b3 nx
        have fce : H4 ce = none := m3.free b3 (s2n hce sJ)
        have m4 := m3.trans sK.mv
        have b4 := (sK.grc b3).bx
        have W4' := W.box m4 b4
        refine ⟨_, rfl, _, rfl, step, rfl, fun d lc Hl hd hlc sl la => ⟨by show 0 ≤ sizeLine; decide, fun cl hcl => ⟨by show 4 ≤ sizeLine; decide, fun r hr' => ?_⟩⟩⟩
        have ucl := Same.upd (o := .lst []) hcl
        have u7 := Same.upd (o := .tup [.ref x, .ref w, .ref d, .ref cl]) hr'
        have s7 := (sl.trans ucl).trans u7
        have W7 := W4'.same s7
        have fd : H4 d = none := m4.free b4 hd
        have flc : H4 lc = none := m4.free b4 hlc
        have fcl : H4 cl = none := m4.free b4 (s2n hcl sl)
        refine ⟨L, _, _, rfl, rfl, W7.ls, by rw [List.length_map]; exact small _, ?_⟩
        have on3 : On3 K C (upd (upd Hl cl (.lst [])) r (.tup [.ref x, .ref w, .ref d, .ref cl])) ⟨x, ta, ka, ce, d, lc⟩ ⟨nm, t, ks, age, step, 0, 0, some 0, none⟩ :=
          ⟨bk.same s7, (la.same (ucl.trans u7)).eqv rfl rfl rfl rfl rfl, hnm, lt, BtOk.new st1, ne_of_none bk.cs hlc⟩
        have ncl : cl ∉ (⟨x, ta, ka, ce, d, lc⟩ : O3).as := fun z => by
          obtain ⟨dy, ey⟩ := bk.ob
          simp only [O3.as, List.mem_cons, List.not_mem_nil, or_false] at z
          rcases z with z | z | z | z
          · exact ne_of_none (sl _ _ ey) hcl z.symm
          · exact ne_of_none (sl _ _ bk.cs) hcl z.symm
          · exact ne_of_none la.di hcl z.symm
          · exact ne_of_none la.cs hcl z.symm
        have on : On4 K C (upd (upd Hl cl (.lst [])) r (.tup [.ref x, .ref w, .ref d, .ref cl])) ⟨r, w, rt, rk, cl, ⟨x, ta, ka, ce, d, lc⟩, ⟨nm, t, ks, age, step, 0, 0, some 0, none⟩, []⟩ :=
          ⟨on3, .inl upd_same, .inl (s7 _ _ (sK _ _ ew)), SqT.of (s7 _ _ (sK _ _ ert)), SqT.of (s7 _ _ (sK _ _ erk)), u7 _ _ upd_same, ncl, List.Pairwise.nil, fun c hc => nomatch hc⟩
        have fr5 : ∀ y ∈ (⟨r, w, rt, rk, cl, ⟨x, ta, ka, ce, d, lc⟩, ⟨nm, t, ks, age, step, 0, 0, some 0, none⟩, []⟩ : O4).as, H4 y = none := fun y hy => by
          simp only [O4.as, O3.as, List.mem_cons, List.not_mem_nil, or_false] at hy
          rcases hy with rfl | rfl | rfl | rfl | rfl <;> assumption
        have W8 := W7.add on fun y hy => ⟨(fun z => by
            subst z
            obtain ⟨_, _, _, e, _⟩ := W.bx
            rw [fr5 _ hy] at e; cases e), (fun z => by
            subst z
            have e := W.ls
            rw [fr5 _ hy] at e; cases e), fun j a ea z => by
            obtain ⟨o, e, _⟩ := (W.on j a ea).nt y z
            rw [fr5 y hy] at e; cases e⟩
        refine ⟨Same.mv_of (Same.mv_of s4 (m4.trans s7.mv) (fun c hc => by rw [List.mem_singleton.mp hc]; exact hb)) (Mv.upd1 (a := L)) (fun c hc => by rw [List.mem_singleton.mp hc]; exact fL), _, _, _, _, _, _, _, _, _, _, _, _, _, _, fr.add fun y hy => s2n (fr5 y hy) s4, W8.mono (by omega), by rw [List.length_append, hos]; rfl, fun j e he => ?_, rfl⟩
        rcases app_get he with ⟨_, rfl⟩ | ⟨_, he⟩
        · rfl
        · exact hcs j e he
      · rintro σ H4 ⟨s4, es, o4, o5, o6, o7, o8, o9, o10, o11, o12, o13, o14, o15, o16, fr, W, hos, hcs, rfl⟩
        refine ⟨_, rfl, b, _, _, rfl, W.bx, by omega, by decide, by decide, fun m2 Hb m20 m21 gb => ⟨_, _, rfl, rfl, by show 2 ≤ sizeLine; decide, fun l hl => ?_⟩⟩
        have ul := Same.upd (o := .lst [.int 24, .int (24 + m2)]) hl
        refine ⟨_, rfl, b, _, _, rfl, (ul.grc gb.bx).bx, by omega, by decide, by decide, fun m3 Hc m30 m31 gc => ⟨rfl, .inr ⟨_, rfl, ?_⟩⟩⟩
        have hl' : Hc l = some (.lst [.int 24, .int (24 + m2)]) := gc.kp _ _ (boxc_fresh gb.bx hl) upd_same
        have W1 := ((W.grc gb).same ul).grc gc
        have s5 : Same H2 Hc := Same.mv_of (Same.mv_of (Same.mv_of s4 gb.mv (fun c hc => by rw [List.mem_singleton.mp hc]; exact hb)) (S := []) ul.mv (fun c hc => by cases hc)) gc.mv (fun c hc => by rw [List.mem_singleton.mp hc]; exact hb)
        obtain ⟨many, hmany, hm30⟩ : ∃ many : Nat, atI [V.int 24, .int (24 + m2)] (if decide (V.int m3 = V.int 5) = true then (1 : Int) else 0) = some (.int (many : Int)) ∧ many ≤ 80 := by
          by_cases e : decide (V.int m3 = V.int 5) = true
          · rw [if_pos e]
            exact ⟨(24 + m2).toNat, by rw [show (((24 + m2).toNat : Nat) : Int) = 24 + m2 from by omega]; rfl, by omega⟩
          · rw [if_neg e]
            exact ⟨24, rfl, by omega⟩
        refine ⟨l, _, _, _, rfl, rfl, SqL.of hl', hmany, _, rfl, by omega, by omega, ?_⟩
        rw [Int.toNat_natCast]
        refine for_range (n := many) (Pv := fun i σ H5 => Same H2 H5 ∧ ∃ (es : List O4) (o4 o5 o6 o7 o8 o9 o10 o11 o12 o13 o14 o15 o16 : Option V), Fr4 H2 es ∧ W4 K C H5 b L (90 + 3 * i) es ∧ es.length = 2 ∧ (∀ (j : Nat) (e : O4), es[j]? = some e → e.cs.length ≤ i) ∧ σ = [some (.ref sc), some (.int (0 + (k : Int))), some (.ref b), some (.ref L), o4, o5, o6, o7, o8, o9, o10, o11, o12, o13, o14, o15, o16])
          ⟨s5, es, _, _, _, _, _, _, _, _, _, _, _, _, _, fr, W1.mono (by omega), hos, fun j e he => by rw [hcs j e he]; exact Nat.le_refl 0, rfl⟩ ?_ ?_
        · rintro i σ H5 hi ⟨s5, es, o4, o5, o6, o7, o8, o9, o10, o11, o12, o13, o14, o15, o16, fr, W, hos, hcl, rfl⟩
          refine ⟨_, rfl, _, rfl, b, _, _, rfl, W.bx, by omega, by decide, by decide, fun x Ha x0 x1 ga => ?_⟩
          obtain ⟨j, rfl⟩ : ∃ j : Nat, x = (j : Int) := ⟨x.toNat, by omega⟩
          have hj : j < es.length := by omega
          have W1 := W.grc ga
          have hoj : es[j]? = some es[j] := List.getElem?_eq_getElem hj
          generalize es[j] = o at hoj
          have z1 := W1.on j o hoj
          refine ⟨L, _, _, .ref o.r, rfl, rfl, SqL.of W1.ls, atI_nat (by rw [List.getElem?_map, hoj]; rfl), o.r, _, rfl, .rd z1.tr, rfl, _, _, rfl, _, _, rfl, o.w, _, rfl, .rd z1.tw, rfl, _, _, rfl, _, _, rfl, _, _, rfl, _, _, rfl, rfl, _, _, rfl, _, _, rfl, rfl, ?_⟩
          refine ⟨_, rfl, b, _, _, rfl, W1.bx, by omega, by decide, by decide, fun c3 Hb c30 c31 gb => ?_⟩
          have W2 := W1.grc gb
          have z2 := W2.on j o hoj
          have nb := W2.nb hoj
          have fro := fr j o hoj
          have s50 : Same H2 Hb := Same.mv_of s5 (ga.trans gb).mv (fun c hc => by rw [List.mem_singleton.mp hc]; exact hb)
          have lno := hcl j o hoj
          have subA : ∀ {c : Addr}, c ∉ b :: o.as → c ∉ o.o.as := fun h z => h (List.mem_cons_of_mem _ (List.mem_cons_of_mem _ z))
          refine name_key2 (fun σ' H' => Same H2 H' ∧ ∃ (es : List O4) (o4 o5 o6 o7 o8 o9 o10 o11 o12 o13 o14 o15 o16 : Option V), Fr4 H2 es ∧ W4 K C H' b L (90 + 3 * (i + 1)) es ∧ es.length = 2 ∧ (∀ (j : Nat) (e : O4), es[j]? = some e → e.cs.length ≤ i + 1) ∧ σ' = [some (.ref sc), some (.int (0 + (k : Int))), some (.ref b), some (.ref L), o4, o5, o6, o7, o8, o9, o10, o11, o12, o13, o14, o15, o16]) (fun D' hD' hn => ?_) ?_
          · refine ⟨_, rfl, _, _, rfl, rfl, _, rfl, ?_⟩
            refine ite2 (fun _ => ?_) (fun _ => ?_)
            · -- its cell goes out, or is torn
              refine ⟨_, rfl, _, rfl, _, rfl, rfl, o.o, o.B, _, rfl, z2.on, fun Hc mc onc => ⟨rfl, _, rfl, ?_⟩⟩
              refine ite2 (fun y => absurd y (by decide)) (fun _ => ?_)
              have W5 := W2.step hoj (mc.mono fun c h => subA h) (W2.bx.o3 mc (fun z => nb.1 (List.mem_cons_of_mem _ z))) (z2.lost mc onc) rfl rfl
              refine hn _ _ ⟨Same.mv_of s50 mc (fun c hc => fro c (List.mem_cons_of_mem _ hc)), es.set j { o with B := if decide (V.int c3 = V.int 0) = true then o.B.tn else o.B.ou }, _, _, _, _, _, _, _, _, _, _, _, _, _, fr.set hoj rfl, W5.mono (show 90 + 3 * i + 1 + 1 ≤ 90 + 3 * (i + 1) by omega), by rw [List.length_set]; exact hos, fun y e he => ?_, rfl⟩
              rcases set_get hoj he with ⟨_, rfl⟩ | ⟨_, he⟩
              · show o.cs.length ≤ i + 1; omega
              · have := hcl y e he; omega
            · refine ⟨_, rfl, o.o.d, _, rfl, z2.on.la.g_count, _, _, rfl, rfl, _, rfl, ?_⟩
              refine ite2 (fun hlt => ?_) (fun _ => ?_)
              · -- a press
                have hc4 : o.B.cnt < 4096 := of_decide_eq_true hlt
                refine ⟨_, rfl, b, _, _, rfl, W2.bx, by omega, by decide, by decide, fun d Hc d0 d1 gc => ?_⟩
                have W3 := W2.grc gc
                have z3 := W3.on j o hoj
                obtain ⟨a1, a2, a3, a4, a5, a6⟩ := z3.on.apart
                have nco := z3.nc
                simp only [O3.as, List.mem_cons, List.not_mem_nil, or_false, not_or] at nco
                obtain ⟨c1, c2, c3', c4⟩ := nco
                refine ⟨_, rfl, .inl ⟨rfl, _, SqL.of z3.cl⟩, _, rfl, o.o.d, o.o.lc, o.B, rfl, z3.on.la, hc4, fun Hd md ld => ?_⟩
                have hcd := md _ _ (nin2 c3' c4) z3.cl
                refine ⟨o.cl, _, _, rfl, rfl, hcd, by rw [List.length_map, sizeLine_eq]; omega, ?_⟩
                have bt3 := (z3.on.btn md).mv (Mv.upd1 (a := o.cl) (o := .lst (o.cs.map V.int ++ [.int o.B.cnt]))) (NT.one hcd trivial) (nin1 (Ne.symm c1)) (nin1 (Ne.symm c2))
                have le := ld.mv (Mv.upd1 (a := o.cl) (o := .lst (o.cs.map V.int ++ [.int o.B.cnt]))) (nin1 (Ne.symm c3')) (nin1 (Ne.symm c4))
                have hce : upd Hd o.cl (.lst (o.cs.map V.int ++ [.int o.B.cnt])) o.cl = some (.lst (o.cs.map V.int ++ [.int o.B.cnt])) := upd_same
                have mde : Mv o.as Hc (upd Hd o.cl (.lst (o.cs.map V.int ++ [.int o.B.cnt]))) := (md.o3d.mono fun c h z => h (List.mem_cons_of_mem _ z)).trans (Mv.upd1.mono fun c h z => h (by rw [List.mem_singleton.mp z]; exact List.mem_cons_self ..))
                generalize upd Hd o.cl (.lst (o.cs.map V.int ++ [.int o.B.cnt])) = He at bt3 le hce mde ⊢
                refine ⟨_, rfl, _, rfl, _, rfl, _, rfl, _, rfl, _, rfl, o.cl, _, -1, _, rfl, rfl, SqL.of hce, atI_last _ _, _, rfl, o.rt, o.rk, o.B.nm, o.B.age, o.B.cnt, d, o.B.t, o.B.ks, rfl, .inr (mde.sqt z3.nt z3.rt), .inr (mde.sqt z3.nt z3.rk), z3.on.nm, z3.on.tl, z3.on.ok.c0, hc4, ⟨d0, d1⟩, fun q2 pc2 Hf sf hq2 hpc2 => ?_⟩
                have bt4 := bt3.same sf
                refine ⟨_, rfl, o.o.p, rfl, bt4.no, _, rfl, o.o.p, o.o.ta, o.o.ka, o.o.ce, o.B, d, rfl, bt4, z3.on.nm, z3.on.tl, z3.on.ok.c0, hc4, ⟨d0, d1⟩, fun q1 pc1 Hg mg' bg hq1 hpc1 => ?_⟩
                have cl : (codeI o.B.t o.B.ks o.B.nm o.B.cnt d).length ≤ sizeLine := by unfold codeI; rw [encK_len, five_len]; decide
                refine ⟨_, rfl, _, _, rfl, Eqw.three (.inl hq1) (mg'.rd bt4.nt (.inl hq2)) (.str _ _) (.int _ _) (Eqw.ints (n := 0) (.inl hpc1) (mg'.rd bt4.nt (.inl hpc2)) cl), fun Hk sk => ⟨_, rfl, iteF ?_⟩⟩
                have M0 : Mv o.as Hc Hk := ((mde.trans sf.mv).trans (mg'.o3p.mono fun c h z => h (List.mem_cons_of_mem _ z))).trans sk.mv
                have M : Mv (b :: o.as) Hc Hk := M0.mono fun c h z => h (List.mem_cons_of_mem _ z)
                have on : On3 K C Hk o.o o.B.pr := ⟨bg.same sk, ((le.same sf).mv mg' (nin2 a1 a2) (nin2 a3 a4)).same sk, by rw [pr_nm]; exact z3.on.nm, by rw [pr_t]; exact z3.on.tl, z3.on.ok.pr hc4, z3.on.ne⟩
                have hck : Hk o.cl = some (.lst ((o.cs ++ [o.B.cnt]).map V.int)) := by
                  rw [List.map_append]
                  exact sk _ _ (mg' _ _ (nin2 c1 c2) (sf _ _ hce))
                have bx5 : BoxC Hk b _ := W3.bx.mv M0 nb.1
                have W5 := W3.step hoj M bx5 (z3.press M W3.bx on hck) rfl rfl
                refine hn _ _ ⟨Same.mv_of (Same.mv_of s50 gc.mv (fun c hc => by rw [List.mem_singleton.mp hc]; exact hb)) M0 fro, es.set j { o with B := o.B.pr, cs := o.cs ++ [o.B.cnt] }, _, _, _, _, _, _, _, _, _, _, _, _, _, fr.set hoj rfl, W5.mono (show 90 + 3 * i + 1 + 1 + 1 ≤ 90 + 3 * (i + 1) by omega), by rw [List.length_set]; exact hos, fun y e he => ?_, rfl⟩
                rcases set_get hoj he with ⟨_, rfl⟩ | ⟨_, he⟩
                · show (o.cs ++ [o.B.cnt]).length ≤ i + 1
                  rw [List.length_append, List.length_singleton]; omega
                · have := hcl y e he; omega
              · exact hn _ _ ⟨s50, es, _, _, _, _, _, _, _, _, _, _, _, _, _, fr, W2.mono (by omega), hos, fun y e he => by have := hcl y e he; omega, rfl⟩
          · rintro σ' Hf ⟨s6, es3, o4, o5, o6, o7, o8, o9, o10, o11, o12, o13, o14, o15, o16, fr3, W5, hos3, hcl3, rfl⟩
            refine ⟨_, rfl, L, rfl, ⟨_, SqL.of W5.ls⟩, for_list (K := K) (a := L) (xs := es3.map fun e => V.ref e.r) (fun i σ Hi => Same Hf Hi ∧ ∃ (p4 p5 p6 p7 p8 p9 p10 p11 p12 p13 p14 p15 p16 : Option V), σ = [some (.ref sc), some (.int (0 + (k : Int))), some (.ref b), some (.ref L), p4, p5, p6, p7, p8, p9, p10, p11, p12, p13, p14, p15, p16]) ⟨Same.refl _, _, _, _, _, _, _, _, _, _, _, _, _, _, rfl⟩ (fun i σ Hi _ ⟨si, _⟩ => si.seq (SqL.of W5.ls)) ?_ ?_⟩
            · rintro y x σ Hi hx ⟨si, p4, p5, p6, p7, p8, p9, p10, p11, p12, p13, p14, p15, p16, rfl⟩
              obtain ⟨e', he', rfl⟩ := refs4 hx
              have z := (W5.same si).on y e' he'
              refine ⟨e'.r, _, rfl, .rd z.tr, rfl, _, _, rfl, _, _, rfl, _, _, rfl, _, _, rfl, rfl, ?_⟩
              refine ⟨_, rfl, e'.o.p, rfl, z.on.bt.no, e'.o.p, e'.o.ta, e'.o.ka, e'.o.ce, e'.B, rfl, z.on.bt, fun t1 Hj sj ht1 => ?_⟩
              have zb := z.on.bt.same sj
              refine ⟨_, rfl, e'.o.p, rfl, zb.no, e'.o.p, e'.o.ta, e'.o.ka, e'.o.ce, e'.B, rfl, zb, by show 2 ≤ sizeLine; decide, fun l1 hl1 => ?_⟩
              have v1 := Same.upd (o := .lst [.ref t1, .int e'.B.cnt]) hl1
              have zl := z.on.la.same (sj.trans v1)
              refine ⟨_, rfl, e'.o.d, _, rfl, zl.g_cells, e'.o.lc, _, rfl, .inl ⟨SqL.of zl.cs, fun t2 ht2 => ?_⟩⟩
              have v2 := Same.upd (o := .tup [oV e'.B.x, oV e'.B.y]) ht2
              have zl2 := zl.same v2
              refine ⟨_, rfl, e'.o.d, _, rfl, zl2.g_count, by show 2 ≤ sizeLine; decide, fun l2 hl2 => ?_⟩
              have v3 := Same.upd (o := .lst [.ref t2, .int e'.B.cnt]) hl2
              refine ⟨_, _, rfl, Eqw.ltwo (v3 _ _ (v2 _ _ upd_same)) upd_same (Eqw.two (.inl (v3 _ _ (v2 _ _ (v1 _ _ ht1)))) (.inl (v3 _ _ upd_same)) (Eqw.cell (n := 0) _) (Eqw.cell _)) (.int _ _), fun Hm sm => ⟨_, rfl, iteF ?_⟩⟩
              have sM := ((((sj.trans v1).trans v2).trans v3).trans sm)
              have hcm := sM _ _ z.cl
              have hl3 := hcl3 y e' he'
              refine ⟨_, rfl, e'.cl, e'.cs, rfl, SqL.of hcm, by show _ < 4096; omega, fun ls hls => ⟨ls, _, rfl, upd_same, fun l3 ms hl3' pm ps => ?_⟩⟩
              obtain rfl := sorted_self z.up pm ps
              have v4 := Same.upd (o := SetI P w ls (S0.ddL e'.cs)) hls
              have v5 := Same.upd (o := .lst (e'.cs.map V.int)) hl3'
              refine ⟨_, rfl, l3, e'.cl, e'.cs, e'.cs, rfl, rfl, SqL.of upd_same, SqL.of (v5 _ _ (v4 _ _ hcm)), _, rfl, ?_⟩
              refine iteE (by simp) ?_
              exact ⟨((si.trans sM).trans v4).trans v5, _, _, _, _, _, _, _, _, _, _, _, _, _, rfl⟩
            · rintro σ Hi ⟨si, p4, p5, p6, p7, p8, p9, p10, p11, p12, p13, p14, p15, p16, rfl⟩
              exact ⟨s6.trans si, es3, _, _, _, _, _, _, _, _, _, _, _, _, _, fr3, (W5.same si).mono (by omega), hos3, hcl3, rfl⟩
        · rintro σ H5 ⟨s5, es, o4, o5, o6, o7, o8, o9, o10, o11, o12, o13, o14, o15, o16, fr, W, hos, hcl, rfl⟩
          exact ⟨s2.trans s5, _, _, _, _, _, _, _, _, _, _, _, _, _, _, _, _, rfl⟩
    · rintro σ H2 ⟨s2, o1, o2, o3, o4, o5, o6, o7, o8, o9, o10, o11, o12, o13, o14, o15, o16, rfl⟩
      exact q _
end
theorem all_mk {l : PySem.W.OpenLaw} {w : World} {K : PySem.W.Frag} {h : Heap} {mg : Str → Option Value} {fa : Addr} (X : K.In h) (G : h.Ns mainGlobals mg) (hfa : mg "law" = some (.ref fa))
    {C : Addr} (aC : PySem.W.nsIn K mainGlobals "Button" = some (some (.ref C))) (pg : PySem.W.plainGet K C Str.empty = true) (hd : PySem.W.hasDictIn K C = true) (po : PySem.W.plainOver K C = true) (sa : PySem.W.findIn K (.ref C) "__setattr__" = some (some (.builtin "object.__setattr__"))) (mk : PySem.W.makesIn K C = true) (kc : PySem.W.keepIn K (.ref C) = true)
    (n_name : PySem.W.findIn K (.ref C) "name" = some none)
    (n_table : PySem.W.findIn K (.ref C) "table" = some none)
    (n_key : PySem.W.findIn K (.ref C) "key" = some none)
    (n_age : PySem.W.findIn K (.ref C) "age" = some none)
    (n_step : PySem.W.findIn K (.ref C) "step" = some none)
    (n_next_count : PySem.W.findIn K (.ref C) "next_count" = some none)
    (n_bound : PySem.W.findIn K (.ref C) "bound" = some none)
    (n_cells : PySem.W.findIn K (.ref C) "cells" = some none)
    {f0 : Addr} {od0 an0 : Option Addr} {sl0 : Array (Option Value)} {oc0 kV0 dc0 pm0 cd0 ct0 : Value}
    (a0 : PySem.W.nsIn K mainGlobals "coded" = some (some (.ref f0))) (l0 : K.lookup f0 = some ⟨oc0, od0, .func (PySem.W.fnOf "coded" "coded" (defArgs s_coded) (defBody s_coded) (defScope s_coded) .none kV0 dc0 pm0 an0 cd0 ct0), sl0⟩) (c0 : PySem.W.codeIn K cd0 "coded" = true) (k0 : PySem.W.keepIn K (.ref f0) = true)
    {f1 : Addr} {od1 an1 : Option Addr} {sl1 : Array (Option Value)} {oc1 kV1 dc1 pm1 cd1 ct1 : Value}
    (a1 : PySem.W.nsIn K mainGlobals "letter_digits" = some (some (.ref f1))) (l1 : K.lookup f1 = some ⟨oc1, od1, .func (PySem.W.fnOf "letter_digits" "letter_digits" (defArgs s_letter_digits) (defBody s_letter_digits) (defScope s_letter_digits) .none kV1 dc1 pm1 an1 cd1 ct1), sl1⟩) (c1 : PySem.W.codeIn K cd1 "letter_digits" = true) (k1 : PySem.W.keepIn K (.ref f1) = true)
    {f2 : Addr} {od2 an2 : Option Addr} {sl2 : Array (Option Value)} {oc2 kV2 dc2 pm2 cd2 ct2 : Value}
    (a2 : PySem.W.nsIn K mainGlobals "key_of" = some (some (.ref f2))) (l2 : K.lookup f2 = some ⟨oc2, od2, .func (PySem.W.fnOf "key_of" "key_of" (defArgs s_key_of) (defBody s_key_of) (defScope s_key_of) .none kV2 dc2 pm2 an2 cd2 ct2), sl2⟩) (c2 : PySem.W.codeIn K cd2 "key_of" = true) (k2 : PySem.W.keepIn K (.ref f2) = true)
    {f3 : Addr} {od3 an3 : Option Addr} {sl3 : Array (Option Value)} {oc3 kV3 dc3 pm3 cd3 ct3 : Value}
    (a3 : PySem.W.nsIn K mainGlobals "count_digits" = some (some (.ref f3))) (l3 : K.lookup f3 = some ⟨oc3, od3, .func (PySem.W.fnOf "count_digits" "count_digits" (defArgs s_count_digits) (defBody s_count_digits) (defScope s_count_digits) .none kV3 dc3 pm3 an3 cd3 ct3), sl3⟩) (c3 : PySem.W.codeIn K cd3 "count_digits" = true) (k3 : PySem.W.keepIn K (.ref f3) = true)
    {f4 : Addr} {od4 an4 : Option Addr} {sl4 : Array (Option Value)} {oc4 kV4 dc4 pm4 cd4 ct4 : Value}
    (a4 : PySem.W.nsIn K mainGlobals "press_of" = some (some (.ref f4))) (l4 : K.lookup f4 = some ⟨oc4, od4, .func (PySem.W.fnOf "press_of" "press_of" (defArgs s_press_of) (defBody s_press_of) (defScope s_press_of) .none kV4 dc4 pm4 an4 cd4 ct4), sl4⟩) (c4 : PySem.W.codeIn K cd4 "press_of" = true) (k4 : PySem.W.keepIn K (.ref f4) = true)
    {f5 : Addr} {od5 an5 : Option Addr} {sl5 : Array (Option Value)} {oc5 kV5 dc5 pm5 cd5 ct5 : Value}
    (a5 : PySem.W.findIn K (.ref C) "__init__" = some (some (.ref f5))) (i5 : PySem.W.isFn K (.ref f5) = true) (l5 : K.lookup f5 = some ⟨oc5, od5, .func (PySem.W.fnOf "__init__" "Button.__init__" (defArgs s_Button___init) (defBody s_Button___init) (defScope s_Button___init) .none kV5 dc5 pm5 an5 cd5 ct5), sl5⟩) (c5 : PySem.W.codeIn K cd5 "Button.__init__" = true) (k5 : PySem.W.keepIn K (.ref f5) = true)
    {f6 : Addr} {od6 an6 : Option Addr} {sl6 : Array (Option Value)} {oc6 kV6 dc6 pm6 cd6 ct6 : Value}
    (a6 : PySem.W.findIn K (.ref C) "is_worn" = some (some (.ref f6))) (i6 : PySem.W.isFn K (.ref f6) = true) (l6 : K.lookup f6 = some ⟨oc6, od6, .func (PySem.W.fnOf "is_worn" "Button.is_worn" (defArgs s_Button_is_worn) (defBody s_Button_is_worn) (defScope s_Button_is_worn) .none kV6 dc6 pm6 an6 cd6 ct6), sl6⟩) (c6 : PySem.W.codeIn K cd6 "Button.is_worn" = true) (k6 : PySem.W.keepIn K (.ref f6) = true)
    {f7 : Addr} {od7 an7 : Option Addr} {sl7 : Array (Option Value)} {oc7 kV7 dc7 pm7 cd7 ct7 : Value}
    (a7 : PySem.W.findIn K (.ref C) "must_write" = some (some (.ref f7))) (i7 : PySem.W.isFn K (.ref f7) = true) (l7 : K.lookup f7 = some ⟨oc7, od7, .func (PySem.W.fnOf "must_write" "Button.must_write" (defArgs s_Button_must_write) (defBody s_Button_must_write) (defScope s_Button_must_write) .none kV7 dc7 pm7 an7 cd7 ct7), sl7⟩) (c7 : PySem.W.codeIn K cd7 "Button.must_write" = true) (k7 : PySem.W.keepIn K (.ref f7) = true)
    {f8 : Addr} {od8 an8 : Option Addr} {sl8 : Array (Option Value)} {oc8 kV8 dc8 pm8 cd8 ct8 : Value}
    (a8 : PySem.W.findIn K (.ref C) "spare_cell" = some (some (.ref f8))) (i8 : PySem.W.isFn K (.ref f8) = true) (l8 : K.lookup f8 = some ⟨oc8, od8, .func (PySem.W.fnOf "spare_cell" "Button.spare_cell" (defArgs s_Button_spare_cell) (defBody s_Button_spare_cell) (defScope s_Button_spare_cell) .none kV8 dc8 pm8 an8 cd8 ct8), sl8⟩) (c8 : PySem.W.codeIn K cd8 "Button.spare_cell" = true) (k8 : PySem.W.keepIn K (.ref f8) = true)
    {f9 : Addr} {od9 an9 : Option Addr} {sl9 : Array (Option Value)} {oc9 kV9 dc9 pm9 cd9 ct9 : Value}
    (a9 : PySem.W.findIn K (.ref C) "write_bound" = some (some (.ref f9))) (i9 : PySem.W.isFn K (.ref f9) = true) (l9 : K.lookup f9 = some ⟨oc9, od9, .func (PySem.W.fnOf "write_bound" "Button.write_bound" (defArgs s_Button_write_bound) (defBody s_Button_write_bound) (defScope s_Button_write_bound) .none kV9 dc9 pm9 an9 cd9 ct9), sl9⟩) (c9 : PySem.W.codeIn K cd9 "Button.write_bound" = true) (k9 : PySem.W.keepIn K (.ref f9) = true)
    {f10 : Addr} {od10 an10 : Option Addr} {sl10 : Array (Option Value)} {oc10 kV10 dc10 pm10 cd10 ct10 : Value}
    (a10 : PySem.W.findIn K (.ref C) "press_once" = some (some (.ref f10))) (i10 : PySem.W.isFn K (.ref f10) = true) (l10 : K.lookup f10 = some ⟨oc10, od10, .func (PySem.W.fnOf "press_once" "Button.press_once" (defArgs s_Button_press_once) (defBody s_Button_press_once) (defScope s_Button_press_once) .none kV10 dc10 pm10 an10 cd10 ct10), sl10⟩) (c10 : PySem.W.codeIn K cd10 "Button.press_once" = true) (k10 : PySem.W.keepIn K (.ref f10) = true)
    {f11 : Addr} {od11 an11 : Option Addr} {sl11 : Array (Option Value)} {oc11 kV11 dc11 pm11 cd11 ct11 : Value}
    (a11 : PySem.W.findIn K (.ref C) "cell_out" = some (some (.ref f11))) (i11 : PySem.W.isFn K (.ref f11) = true) (l11 : K.lookup f11 = some ⟨oc11, od11, .func (PySem.W.fnOf "cell_out" "Button.cell_out" (defArgs s_Button_cell_out) (defBody s_Button_cell_out) (defScope s_Button_cell_out) .none kV11 dc11 pm11 an11 cd11 ct11), sl11⟩) (c11 : PySem.W.codeIn K cd11 "Button.cell_out" = true) (k11 : PySem.W.keepIn K (.ref f11) = true)
    {f12 : Addr} {od12 an12 : Option Addr} {sl12 : Array (Option Value)} {oc12 kV12 dc12 pm12 cd12 ct12 : Value}
    (a12 : PySem.W.findIn K (.ref C) "cell_torn" = some (some (.ref f12))) (i12 : PySem.W.isFn K (.ref f12) = true) (l12 : K.lookup f12 = some ⟨oc12, od12, .func (PySem.W.fnOf "cell_torn" "Button.cell_torn" (defArgs s_Button_cell_torn) (defBody s_Button_cell_torn) (defScope s_Button_cell_torn) .none kV12 dc12 pm12 an12 cd12 ct12), sl12⟩) (c12 : PySem.W.codeIn K cd12 "Button.cell_torn" = true) (k12 : PySem.W.keepIn K (.ref f12) = true)
    {f13 : Addr} {od13 an13 : Option Addr} {sl13 : Array (Option Value)} {oc13 kV13 dc13 pm13 cd13 ct13 : Value}
    (a13 : PySem.W.findIn K (.ref C) "count_now" = some (some (.ref f13))) (i13 : PySem.W.isFn K (.ref f13) = true) (l13 : K.lookup f13 = some ⟨oc13, od13, .func (PySem.W.fnOf "count_now" "Button.count_now" (defArgs s_Button_count_now) (defBody s_Button_count_now) (defScope s_Button_count_now) .none kV13 dc13 pm13 an13 cd13 ct13), sl13⟩) (c13 : PySem.W.codeIn K cd13 "Button.count_now" = true) (k13 : PySem.W.keepIn K (.ref f13) = true)
    {f14 : Addr} {od14 an14 : Option Addr} {sl14 : Array (Option Value)} {oc14 kV14 dc14 pm14 cd14 ct14 : Value}
    (a14 : PySem.W.findIn K (.ref C) "cells_now" = some (some (.ref f14))) (i14 : PySem.W.isFn K (.ref f14) = true) (l14 : K.lookup f14 = some ⟨oc14, od14, .func (PySem.W.fnOf "cells_now" "Button.cells_now" (defArgs s_Button_cells_now) (defBody s_Button_cells_now) (defScope s_Button_cells_now) .none kV14 dc14 pm14 an14 cd14 ct14), sl14⟩) (c14 : PySem.W.codeIn K cd14 "Button.cells_now" = true) (k14 : PySem.W.keepIn K (.ref f14) = true)
    {f15 : Addr} {od15 an15 : Option Addr} {sl15 : Array (Option Value)} {oc15 kV15 dc15 pm15 cd15 ct15 : Value}
    (a15 : PySem.W.nsIn K mainGlobals "_law_box" = some (some (.ref f15))) (l15 : K.lookup f15 = some ⟨oc15, od15, .func (PySem.W.fnOf "_law_box" "_law_box" (defArgs s_law_box) (defBody s_law_box) (defScope s_law_box) .none kV15 dc15 pm15 an15 cd15 ct15), sl15⟩) (c15 : PySem.W.codeIn K cd15 "_law_box" = true) (k15 : PySem.W.keepIn K (.ref f15) = true)
    {f16 : Addr} {od16 an16 : Option Addr} {sl16 : Array (Option Value)} {oc16 kV16 dc16 pm16 cd16 ct16 : Value}
    (a16 : PySem.W.nsIn K mainGlobals "_law_take" = some (some (.ref f16))) (l16 : K.lookup f16 = some ⟨oc16, od16, .func (PySem.W.fnOf "_law_take" "_law_take" (defArgs s_law_take) (defBody s_law_take) (defScope s_law_take) .none kV16 dc16 pm16 an16 cd16 ct16), sl16⟩) (c16 : PySem.W.codeIn K cd16 "_law_take" = true) (k16 : PySem.W.keepIn K (.ref f16) = true)
    {f17 : Addr} {od17 an17 : Option Addr} {sl17 : Array (Option Value)} {oc17 kV17 dc17 pm17 cd17 ct17 : Value}
    (a17 : PySem.W.nsIn K mainGlobals "_law_table" = some (some (.ref f17))) (l17 : K.lookup f17 = some ⟨oc17, od17, .func (PySem.W.fnOf "_law_table" "_law_table" (defArgs s_law_table) (defBody s_law_table) (defScope s_law_table) .none kV17 dc17 pm17 an17 cd17 ct17), sl17⟩) (c17 : PySem.W.codeIn K cd17 "_law_table" = true) (k17 : PySem.W.keepIn K (.ref f17) = true)
    {f18 : Addr} {od18 an18 : Option Addr} {sl18 : Array (Option Value)} {oc18 kV18 dc18 pm18 cd18 ct18 : Value}
    (a18 : PySem.W.nsIn K mainGlobals "_law_key" = some (some (.ref f18))) (l18 : K.lookup f18 = some ⟨oc18, od18, .func (PySem.W.fnOf "_law_key" "_law_key" (defArgs s_law_key) (defBody s_law_key) (defScope s_law_key) .none kV18 dc18 pm18 an18 cd18 ct18), sl18⟩) (c18 : PySem.W.codeIn K cd18 "_law_key" = true) (k18 : PySem.W.keepIn K (.ref f18) = true)
    {f19 : Addr} {od19 an19 : Option Addr} {sl19 : Array (Option Value)} {oc19 kV19 dc19 pm19 cd19 ct19 : Value}
    (a19 : PySem.W.nsIn K mainGlobals "_law_name" = some (some (.ref f19))) (l19 : K.lookup f19 = some ⟨oc19, od19, .func (PySem.W.fnOf "_law_name" "_law_name" (defArgs s_law_name) (defBody s_law_name) (defScope s_law_name) .none kV19 dc19 pm19 an19 cd19 ct19), sl19⟩) (c19 : PySem.W.codeIn K cd19 "_law_name" = true) (k19 : PySem.W.keepIn K (.ref f19) = true)
    {f20 : Addr} {od20 an20 : Option Addr} {sl20 : Array (Option Value)} {oc20 kV20 dc20 pm20 cd20 ct20 : Value}
    (a20 : PySem.W.nsIn K mainGlobals "_law_begun" = some (some (.ref f20))) (l20 : K.lookup f20 = some ⟨oc20, od20, .func (PySem.W.fnOf "_law_begun" "_law_begun" (defArgs s_law_begun) (defBody s_law_begun) (defScope s_law_begun) .none kV20 dc20 pm20 an20 cd20 ct20), sl20⟩) (c20 : PySem.W.codeIn K cd20 "_law_begun" = true) (k20 : PySem.W.keepIn K (.ref f20) = true)
    {f21 : Addr} {od21 an21 : Option Addr} {sl21 : Array (Option Value)} {oc21 kV21 dc21 pm21 cd21 ct21 : Value}
    (a21 : PySem.W.nsIn K mainGlobals "_law_pressed" = some (some (.ref f21))) (l21 : K.lookup f21 = some ⟨oc21, od21, .func (PySem.W.fnOf "_law_pressed" "_law_pressed" (defArgs s_law_pressed) (defBody s_law_pressed) (defScope s_law_pressed) .none kV21 dc21 pm21 an21 cd21 ct21), sl21⟩) (c21 : PySem.W.codeIn K cd21 "_law_pressed" = true) (k21 : PySem.W.keepIn K (.ref f21) = true)
    {f22 : Addr} {od22 an22 : Option Addr} {sl22 : Array (Option Value)} {oc22 kV22 dc22 pm22 cd22 ct22 : Value}
    (a22 : PySem.W.nsIn K mainGlobals "_law_out" = some (some (.ref f22))) (l22 : K.lookup f22 = some ⟨oc22, od22, .func (PySem.W.fnOf "_law_out" "_law_out" (defArgs s_law_out) (defBody s_law_out) (defScope s_law_out) .none kV22 dc22 pm22 an22 cd22 ct22), sl22⟩) (c22 : PySem.W.codeIn K cd22 "_law_out" = true) (k22 : PySem.W.keepIn K (.ref f22) = true)
    {f23 : Addr} {od23 an23 : Option Addr} {sl23 : Array (Option Value)} {oc23 kV23 dc23 pm23 cd23 ct23 : Value}
    (a23 : PySem.W.nsIn K mainGlobals "_law_torn" = some (some (.ref f23))) (l23 : K.lookup f23 = some ⟨oc23, od23, .func (PySem.W.fnOf "_law_torn" "_law_torn" (defArgs s_law_torn) (defBody s_law_torn) (defScope s_law_torn) .none kV23 dc23 pm23 an23 cd23 ct23), sl23⟩) (c23 : PySem.W.codeIn K cd23 "_law_torn" = true) (k23 : PySem.W.keepIn K (.ref f23) = true)
    {f24 : Addr} {od24 an24 : Option Addr} {sl24 : Array (Option Value)} {oc24 kV24 dc24 pm24 cd24 ct24 : Value}
    (a24 : PySem.W.nsIn K mainGlobals "_law_alike" = some (some (.ref f24))) (l24 : K.lookup f24 = some ⟨oc24, od24, .func (PySem.W.fnOf "_law_alike" "_law_alike" (defArgs s_law_alike) (defBody s_law_alike) (defScope s_law_alike) .none kV24 dc24 pm24 an24 cd24 ct24), sl24⟩) (c24 : PySem.W.codeIn K cd24 "_law_alike" = true) (k24 : PySem.W.keepIn K (.ref f24) = true)
    {f25 : Addr} {od25 an25 : Option Addr} {sl25 : Array (Option Value)} {oc25 kV25 dc25 pm25 cd25 ct25 : Value}
    (a25 : PySem.W.nsIn K mainGlobals "_law_lost" = some (some (.ref f25))) (l25 : K.lookup f25 = some ⟨oc25, od25, .func (PySem.W.fnOf "_law_lost" "_law_lost" (defArgs s_law_lost) (defBody s_law_lost) (defScope s_law_lost) .none kV25 dc25 pm25 an25 cd25 ct25), sl25⟩) (c25 : PySem.W.codeIn K cd25 "_law_lost" = true) (k25 : PySem.W.keepIn K (.ref f25) = true)
    {f26 : Addr} {od26 an26 : Option Addr} {sl26 : Array (Option Value)} {oc26 kV26 dc26 pm26 cd26 ct26 : Value}
    (a26 : PySem.W.nsIn K mainGlobals "law" = some (some (.ref f26))) (l26 : K.lookup f26 = some ⟨oc26, od26, .func (PySem.W.fnOf "law" "law" (defArgs s_law) (defBody s_law) (defScope s_law) .none kV26 dc26 pm26 an26 cd26 ct26), sl26⟩) (c26 : PySem.W.codeIn K cd26 "law" = true) (k26 : PySem.W.keepIn K (.ref f26) = true)
    {t0 : Tok} (yg0 : PySem.W.nsIn K mainGlobals "DIGITS" = some (some (.int 16 t0)))
    {t1 : Tok} (yg1 : PySem.W.nsIn K mainGlobals "KEY_PLACES" = some (some (.int 4 t1)))
    {t2 : Tok} (yg2 : PySem.W.nsIn K mainGlobals "COUNTS" = some (some (.int 4096 t2)))
    (z0 : PySem.W.nsIn K mainGlobals "isinstance" = some none)
    (z1 : PySem.W.nsIn K mainGlobals "bool" = some none)
    (z2 : PySem.W.nsIn K mainGlobals "int" = some none)
    (z3 : PySem.W.nsIn K mainGlobals "tuple" = some none)
    (z4 : PySem.W.nsIn K mainGlobals "all" = some none)
    (z5 : PySem.W.nsIn K mainGlobals "len" = some none)
    (z6 : PySem.W.nsIn K mainGlobals "abs" = some none)
    (z7 : PySem.W.nsIn K mainGlobals "list" = some none)
    (z8 : PySem.W.nsIn K mainGlobals "range" = some none)
    (z9 : PySem.W.nsIn K mainGlobals "str" = some none)
    (z10 : PySem.W.nsIn K mainGlobals "zip" = some none)
    (z11 : PySem.W.nsIn K mainGlobals "ord" = some none)
    (z12 : PySem.W.nsIn K mainGlobals "sum" = some none)
    (z13 : PySem.W.nsIn K mainGlobals "min" = some none)
    (z14 : PySem.W.nsIn K mainGlobals "enumerate" = some none)
    (z15 : PySem.W.nsIn K mainGlobals "max" = some none)
    (z16 : PySem.W.nsIn K mainGlobals "set" = some none)
    (z17 : PySem.W.nsIn K mainGlobals "sorted" = some none) :
    ∃ fd : FuncData, (∀ (s : Shared) (v : Value), BindsTo s fd ⟨[v], []⟩ [("_law_script", v)]) ∧ ∀ base : Heap, K.In base → base.Ns mainGlobals mg → FnOk l.prog w K mg base CX0 6 fa fd ["_law_script"] (spLaw K) := by
  have e := hfa.symm.trans (PySem.W.mg_of X G a26)
  cases e
  have T : Txt K mg (fun i => if i = 0 then t0 else if i = 1 then t1 else if i = 2 then t2 else 0) := ⟨PySem.W.mg_of X G yg0, PySem.W.mg_of X G yg1, PySem.W.mg_of X G yg2, PySem.W.mg_none_of X G z0, PySem.W.mg_none_of X G z1, PySem.W.mg_none_of X G z2, PySem.W.mg_none_of X G z3, PySem.W.mg_none_of X G z4, PySem.W.mg_none_of X G z5, PySem.W.mg_none_of X G z6, PySem.W.mg_none_of X G z7, PySem.W.mg_none_of X G z8, PySem.W.mg_none_of X G z9, PySem.W.mg_none_of X G z10, PySem.W.mg_none_of X G z11, PySem.W.mg_none_of X G z12, PySem.W.mg_none_of X G z13, PySem.W.mg_none_of X G z14, PySem.W.mg_none_of X G z15, PySem.W.mg_none_of X G z16, PySem.W.mg_none_of X G z17⟩
  have F0 := fun_mk (st := s_coded) l0 c0 k0
  have b0 := F0.binds (ps := ["table", "key", "digits"]) fun _ _ _ _ _ _ us hl => match us, hl with | [_, _, _], _ => rfl
  have A0 : At K mg "coded" s_coded ["table", "key", "digits"] := at_mk F0 (PySem.W.mg_of X G a0) b0
  have F1 := fun_mk (st := s_letter_digits) l1 c1 k1
  have b1 := F1.binds (ps := ["name"]) fun _ _ _ _ _ _ us hl => match us, hl with | [_], _ => rfl
  have A1 : At K mg "letter_digits" s_letter_digits ["name"] := at_mk F1 (PySem.W.mg_of X G a1) b1
  have F2 := fun_mk (st := s_key_of) l2 c2 k2
  have b2 := F2.binds (ps := ["table", "key", "name"]) fun _ _ _ _ _ _ us hl => match us, hl with | [_, _, _], _ => rfl
  have A2 : At K mg "key_of" s_key_of ["table", "key", "name"] := at_mk F2 (PySem.W.mg_of X G a2) b2
  have F3 := fun_mk (st := s_count_digits) l3 c3 k3
  have b3 := F3.binds (ps := ["count"]) fun _ _ _ _ _ _ us hl => match us, hl with | [_], _ => rfl
  have A3 : At K mg "count_digits" s_count_digits ["count"] := at_mk F3 (PySem.W.mg_of X G a3) b3
  have F4 := fun_mk (st := s_press_of) l4 c4 k4
  have b4 := F4.binds (ps := ["table", "key", "name", "age", "count", "deed"]) fun _ _ _ _ _ _ us hl => match us, hl with | [_, _, _, _, _, _], _ => rfl
  have A4 : At K mg "press_of" s_press_of ["table", "key", "name", "age", "count", "deed"] := at_mk F4 (PySem.W.mg_of X G a4) b4
  have F5 := fun_mk (st := s_Button___init) l5 c5 k5
  have b5 := F5.binds (ps := ["self", "name", "table", "key", "age", "step"]) fun _ _ _ _ _ _ us hl => match us, hl with | [_, _, _, _, _, _], _ => rfl
  have A5 : AtM K C "__init__" "Button.__init__" s_Button___init ["self", "name", "table", "key", "age", "step"] := ⟨_, _, F5, ⟨a5, i5, k5⟩, b5⟩
  have F6 := fun_mk (st := s_Button_is_worn) l6 c6 k6
  have b6 := F6.binds (ps := ["self"]) fun _ _ _ _ _ _ us hl => match us, hl with | [_], _ => rfl
  have A6 : AtM K C "is_worn" "Button.is_worn" s_Button_is_worn ["self"] := ⟨_, _, F6, ⟨a6, i6, k6⟩, b6⟩
  have F7 := fun_mk (st := s_Button_must_write) l7 c7 k7
  have b7 := F7.binds (ps := ["self"]) fun _ _ _ _ _ _ us hl => match us, hl with | [_], _ => rfl
  have A7 : AtM K C "must_write" "Button.must_write" s_Button_must_write ["self"] := ⟨_, _, F7, ⟨a7, i7, k7⟩, b7⟩
  have F8 := fun_mk (st := s_Button_spare_cell) l8 c8 k8
  have b8 := F8.binds (ps := ["self"]) fun _ _ _ _ _ _ us hl => match us, hl with | [_], _ => rfl
  have A8 : AtM K C "spare_cell" "Button.spare_cell" s_Button_spare_cell ["self"] := ⟨_, _, F8, ⟨a8, i8, k8⟩, b8⟩
  have F9 := fun_mk (st := s_Button_write_bound) l9 c9 k9
  have b9 := F9.binds (ps := ["self"]) fun _ _ _ _ _ _ us hl => match us, hl with | [_], _ => rfl
  have A9 : AtM K C "write_bound" "Button.write_bound" s_Button_write_bound ["self"] := ⟨_, _, F9, ⟨a9, i9, k9⟩, b9⟩
  have F10 := fun_mk (st := s_Button_press_once) l10 c10 k10
  have b10 := F10.binds (ps := ["self", "deed"]) fun _ _ _ _ _ _ us hl => match us, hl with | [_, _], _ => rfl
  have A10 : AtM K C "press_once" "Button.press_once" s_Button_press_once ["self", "deed"] := ⟨_, _, F10, ⟨a10, i10, k10⟩, b10⟩
  have F11 := fun_mk (st := s_Button_cell_out) l11 c11 k11
  have b11 := F11.binds (ps := ["self"]) fun _ _ _ _ _ _ us hl => match us, hl with | [_], _ => rfl
  have A11 : AtM K C "cell_out" "Button.cell_out" s_Button_cell_out ["self"] := ⟨_, _, F11, ⟨a11, i11, k11⟩, b11⟩
  have F12 := fun_mk (st := s_Button_cell_torn) l12 c12 k12
  have b12 := F12.binds (ps := ["self"]) fun _ _ _ _ _ _ us hl => match us, hl with | [_], _ => rfl
  have A12 : AtM K C "cell_torn" "Button.cell_torn" s_Button_cell_torn ["self"] := ⟨_, _, F12, ⟨a12, i12, k12⟩, b12⟩
  have F13 := fun_mk (st := s_Button_count_now) l13 c13 k13
  have b13 := F13.binds (ps := ["self"]) fun _ _ _ _ _ _ us hl => match us, hl with | [_], _ => rfl
  have A13 : AtM K C "count_now" "Button.count_now" s_Button_count_now ["self"] := ⟨_, _, F13, ⟨a13, i13, k13⟩, b13⟩
  have F14 := fun_mk (st := s_Button_cells_now) l14 c14 k14
  have b14 := F14.binds (ps := ["self"]) fun _ _ _ _ _ _ us hl => match us, hl with | [_], _ => rfl
  have A14 : AtM K C "cells_now" "Button.cells_now" s_Button_cells_now ["self"] := ⟨_, _, F14, ⟨a14, i14, k14⟩, b14⟩
  have F15 := fun_mk (st := s_law_box) l15 c15 k15
  have b15 := F15.binds (ps := ["_law_script", "_law_k"]) fun _ _ _ _ _ _ us hl => match us, hl with | [_, _], _ => rfl
  have A15 : At K mg "_law_box" s_law_box ["_law_script", "_law_k"] := at_mk F15 (PySem.W.mg_of X G a15) b15
  have F16 := fun_mk (st := s_law_take) l16 c16 k16
  have b16 := F16.binds (ps := ["_law_box_here", "_law_many"]) fun _ _ _ _ _ _ us hl => match us, hl with | [_, _], _ => rfl
  have A16 : At K mg "_law_take" s_law_take ["_law_box_here", "_law_many"] := at_mk F16 (PySem.W.mg_of X G a16) b16
  have F17 := fun_mk (st := s_law_table) l17 c17 k17
  have b17 := F17.binds (ps := ["_law_box_here"]) fun _ _ _ _ _ _ us hl => match us, hl with | [_], _ => rfl
  have A17 : At K mg "_law_table" s_law_table ["_law_box_here"] := at_mk F17 (PySem.W.mg_of X G a17) b17
  have F18 := fun_mk (st := s_law_key) l18 c18 k18
  have b18 := F18.binds (ps := ["_law_box_here"]) fun _ _ _ _ _ _ us hl => match us, hl with | [_], _ => rfl
  have A18 : At K mg "_law_key" s_law_key ["_law_box_here"] := at_mk F18 (PySem.W.mg_of X G a18) b18
  have F19 := fun_mk (st := s_law_name) l19 c19 k19
  have b19 := F19.binds (ps := ["_law_box_here"]) fun _ _ _ _ _ _ us hl => match us, hl with | [_], _ => rfl
  have A19 : At K mg "_law_name" s_law_name ["_law_box_here"] := at_mk F19 (PySem.W.mg_of X G a19) b19
  have F20 := fun_mk (st := s_law_begun) l20 c20 k20
  have b20 := F20.binds (ps := ["_law_step"]) fun _ _ _ _ _ _ us hl => match us, hl with | [_], _ => rfl
  have A20 : At K mg "_law_begun" s_law_begun ["_law_step"] := at_mk F20 (PySem.W.mg_of X G a20) b20
  have F21 := fun_mk (st := s_law_pressed) l21 c21 k21
  have b21 := F21.binds (ps := ["_law_own"]) fun _ _ _ _ _ _ us hl => match us, hl with | [_], _ => rfl
  have A21 : At K mg "_law_pressed" s_law_pressed ["_law_own"] := at_mk F21 (PySem.W.mg_of X G a21) b21
  have F22 := fun_mk (st := s_law_out) l22 c22 k22
  have b22 := F22.binds (ps := ["_law_own"]) fun _ _ _ _ _ _ us hl => match us, hl with | [_], _ => rfl
  have A22 : At K mg "_law_out" s_law_out ["_law_own"] := at_mk F22 (PySem.W.mg_of X G a22) b22
  have F23 := fun_mk (st := s_law_torn) l23 c23 k23
  have b23 := F23.binds (ps := ["_law_own"]) fun _ _ _ _ _ _ us hl => match us, hl with | [_], _ => rfl
  have A23 : At K mg "_law_torn" s_law_torn ["_law_own"] := at_mk F23 (PySem.W.mg_of X G a23) b23
  have F24 := fun_mk (st := s_law_alike) l24 c24 k24
  have b24 := F24.binds (ps := ["_law_found", "_law_due"]) fun _ _ _ _ _ _ us hl => match us, hl with | [_, _], _ => rfl
  have A24 : At K mg "_law_alike" s_law_alike ["_law_found", "_law_due"] := at_mk F24 (PySem.W.mg_of X G a24) b24
  have F25 := fun_mk (st := s_law_lost) l25 c25 k25
  have b25 := F25.binds (ps := ["_law_button", "_law_own", "_law_torn_here"]) fun _ _ _ _ _ _ us hl => match us, hl with | [_, _, _], _ => rfl
  have A25 : At K mg "_law_lost" s_law_lost ["_law_button", "_law_own", "_law_torn_here"] := at_mk F25 (PySem.W.mg_of X G a25) b25
  have F26 := fun_mk (st := s_law) l26 c26 k26
  refine ⟨PySem.W.fnOf "law" "law" (defArgs s_law) (defBody s_law) (defScope s_law) .none kV26 dc26 pm26 an26 cd26 ct26, fun s v => .of_eq rfl, fun base _ _ => ?_⟩
  have U : BCx K C := ⟨⟨pg, hd, po, sa⟩, n_name, n_table, n_key, n_age, n_step, n_next_count, n_bound, n_cells⟩
  have D_coded := ok_coded (P := l.prog) (w := w) (base := base) A0 T
  have D_letter_digits := ok_letter_digits (P := l.prog) (w := w) (base := base) A1 T
  have D_key_of := ok_key_of (P := l.prog) (w := w) (base := base) A2 T D_letter_digits D_coded
  have D_count_digits := ok_count_digits (P := l.prog) (w := w) (base := base) A3 T
  have D_press_of := ok_press_of (P := l.prog) (w := w) (base := base) A4 T D_count_digits D_key_of D_coded
  have D_Button___init := ok_Button___init (P := l.prog) (w := w) (base := base) A5 T U
  have I_Button := D_Button___init.mi mk kc (PySem.W.mg_of X G aC)
  have D_Button_is_worn := ok_Button_is_worn (P := l.prog) (w := w) (base := base) A6 T U
  have D_Button_must_write := ok_Button_must_write (P := l.prog) (w := w) (base := base) A7 T U D_Button_is_worn
  have D_Button_spare_cell := ok_Button_spare_cell (P := l.prog) (w := w) (base := base) A8 T U
  have D_Button_write_bound := ok_Button_write_bound (P := l.prog) (w := w) (base := base) A9 T U D_Button_spare_cell
  have D_Button_press_once := ok_Button_press_once (P := l.prog) (w := w) (base := base) A10 T U D_Button_is_worn D_Button_must_write D_Button_write_bound D_press_of
  have D_Button_cell_out := ok_Button_cell_out (P := l.prog) (w := w) (base := base) A11 T U
  have D_Button_cell_torn := ok_Button_cell_torn (P := l.prog) (w := w) (base := base) A12 T U D_Button_must_write D_Button_spare_cell D_Button_cell_out
  have D_Button_count_now := ok_Button_count_now (P := l.prog) (w := w) (base := base) A13 T U
  have D_Button_cells_now := ok_Button_cells_now (P := l.prog) (w := w) (base := base) A14 T U
  have D_law_box := ok_law_box (P := l.prog) (w := w) (base := base) A15 T
  have D_law_take := ok_law_take (P := l.prog) (w := w) (base := base) A16 T
  have D_law_table := ok_law_table (P := l.prog) (w := w) (base := base) A17 T D_law_take
  have D_law_key := ok_law_key (P := l.prog) (w := w) (base := base) A18 T D_law_take
  have D_law_name := ok_law_name (P := l.prog) (w := w) (base := base) A19 T D_law_take
  have D_law_begun := ok_law_begun (P := l.prog) (w := w) (base := base) A20 T
  have D_law_pressed := ok_law_pressed (P := l.prog) (w := w) (base := base) A21 T
  have D_law_out := ok_law_out (P := l.prog) (w := w) (base := base) A22 T
  have D_law_torn := ok_law_torn (P := l.prog) (w := w) (base := base) A23 T D_law_out
  have D_law_alike := ok_law_alike (P := l.prog) (w := w) (base := base) A24 T
  have D_law_lost := ok_law_lost (P := l.prog) (w := w) (base := base) A25 T U D_law_torn D_law_out D_Button_cell_torn D_Button_cell_out
  exact ok_law F26 T U I_Button D_Button_press_once D_Button_count_now D_Button_cells_now D_press_of D_law_box D_law_take D_law_table D_law_key D_law_name D_law_begun D_law_pressed D_law_alike D_law_lost
theorem walk {l : PySem.W.OpenLaw} {q : Program} {loose : List Str} {XP : (Str → Option Value) → Heap → Prop} {YP : World → Heap → Prop} {d : DefRec} {K : Params → PySem.W.Frag} (hn : l.most = some 63) (hdf : d.params.defaults = [])
    (hY : ∀ (w : World) (h : Heap), YP w h → (K w.params).In h)
    (F : ∀ (w : World) (mg : Str → Option Value) (fa : Addr) (h : Heap), (K w.params).In h → h.Ns mainGlobals mg → mg d.name = some (.ref fa) →
      ∃ fd : FuncData, (∀ (s : Shared) (u : Value), BindsTo s fd ⟨[u], []⟩ [("_law_script", u)]) ∧ ∀ base : Heap, (K w.params).In base → base.Ns mainGlobals mg → FnOk l.prog w (K w.params) mg base CX0 6 fa fd ["_law_script"] (spLaw (K w.params))) :
    PySem.W.WalkO q loose XP YP l.row.toRowW d [] (fun f vs => PySem.call f vs) :=
  L2.walk_of (n := 63) (k := 6) (x := "_law_script") (CX := fun _ => CX0) (sp := fun w => spLaw (K w.params)) hn (by decide) hdf ⟨rfl, by decide, by decide⟩ hY F (fun _ _ a ns hl _ hS => ⟨a, ns, rfl, hS, hl, fun _ => rfl⟩) fun _ _ _ _ _ z => z
end Lw
namespace PySem.W.Fast
def tw6025639977652170354 := ()
def tw5396822104989458371 := ()
def tw4886331886925487746 := ()
def tw6691655218510449079 := ()
def tw16674976433516325300 := ()
def tw9966130156947390589 := ()
def tw6578681712454197403 := ()
def tw18150706186670214716 := ()
def tw16283456259359114524 := ()
def tw9280543358076785123 := ()
def tw12991044442787162107 := ()
def tw12434974991617608451 := ()
def tw16810443944568715330 := ()
def tw1291116839542527769 := ()
def tw18347130603329642980 := ()
def tw10794546307025684632 := ()
def tw12851635022543197951 := ()
def tw3804233445406023760 := ()
def tw1006092701028762590 := ()
def tw4181579115505635175 := ()
def tw2189272800638688700 := ()
def tw13212303895327105022 := ()
def tw4610774437159816464 := ()
def tw14408661503818699597 := ()
def tw13181735252138870089 := ()
def tw15861166013204212471 := ()
def tw1902690152032253450 := ()
def tw5359834857431406855 := ()
def tw14075155821409863838 := ()
def tw9926458646106822957 := ()
def tw15890385244173643182 := ()
def tw658309651421869990 := ()
def tw9090756857708097921 := ()
def tw6062812945382782917 := ()
def tw57175086648304949 := ()
def tw18147125372341006759 := ()
def tw16318251866854273616 := ()
def tw7121263978629541351 := ()
def tw5230722110101143036 := ()
def tw11275740106392119290 := ()
def tw531911587902754725 := ()
def tw10586404312915123280 := ()
def tw3024246913720915591 := ()
def tw253303167763626719 := ()
def tw15237059957207785986 := ()
def tw17390646191729977271 := ()
def tw3148211114616422333 := ()
def tw4805239938110045598 := ()
def tw14165972914506560491 := ()
def tw148573041803396962 := ()
def tw4402045929003645698 := ()
def tw5513405977996844215 := ()
def tw18322599319666686385 := ()
def tw15195826552119853310 := ()
def tw14121611965318675811 := ()
def tw3933084005022492390 := ()
def tw9749364829528172269 := ()
def tw18127750211318180989 := ()
def tw16114055270688652217 := ()
def tw10273221881043077401 := ()
def tw2139452874134447087 := ()
def tw8046601763451130373 := ()
def tw7869015618010424638 := ()
def tw329789899948173467 := ()
def tw13714924465278490155 := ()
def tw15446123953203415446 := ()
def tw13976235748547611580 := ()
def tw18305415966023514083 := ()
def tw15877011440120728358 := ()
def tw7584604295394336603 := ()
def tw4563862425263076107 := ()
def tw8267613922705189441 := ()
def tw8933183314703511219 := ()
def tw10683057500378114023 := ()
def tw17846097201398690081 := ()
def tw13803310493441939252 := ()
def tw2529943588166986008 := ()
def tw12346109299662630771 := ()
def tw6805512989580862934 := ()
def tw8753667465169922332 := ()
def tw11394765834087988416 := ()
def tw6086456674525890858 := ()
def tw4563851188925124775 := ()
def tw9933173928898164599 := ()
def tw12414630002573987037 := ()
def tw11837095243233147047 := ()
def tw13523141713805593468 := ()
def tw6963354573478656913 := ()
def tw18138603329313179444 := ()
def tw18408320076224924314 := ()
def tw15554762623619544269 := ()
def tw1821135842649784373 := ()
def tw15198414661444188063 := ()
def tw7780634064743643090 := ()
def tw5666682517000448878 := ()
def tw17339213501429405252 := ()
def tw11012402804508497755 := ()
def tw12684361713651941719 := ()
def tw4069034134082120881 := ()
def tw17328224928750500104 := ()
def tw16401342910248434545 := ()
def tw6521069433458897317 := ()
def tw2252121424020468395 := ()
def tw2540566362363933273 := ()
def tw15729950111034286974 := ()
def tw15437294677527829637 := ()
def tw5768924095234296903 := ()
def tw16449714630093979537 := ()
def tw10667220781870756502 := ()
def tw18072283485465563126 := ()
def tw13992722055730621197 := ()
def tw17694021054747705568 := ()
def tw9811916514346055066 := ()
def tw13921306631585579387 := ()
def tw6986857634943227622 := ()
def tw2965549881256601356 := ()
def tw14307066298051589622 := ()
def tw4909606706209468098 := ()
def tw14389953931024180124 := ()
def tw7830433558403238441 := ()
def tw3483787552875543663 := ()
def tw14655311651765945168 := ()
def tw14078985282993943621 := ()
def tw18168206988001290767 := ()
def tw10742548648017084636 := ()
def tw3466977594956148286 := ()
def tw17799443409534394570 := ()
def tw7221244785338212780 := ()
def tw5887579623197757577 := ()
def tw1998811752118772773 := ()
end PySem.W.Fast
open PySem PySem.W PyProof.Rows
set_option maxRecDepth 100000 in
set_option maxHeartbeats 0 in
theorem PySem.Challenge.cw_rollcode_k12_writes_that_were_torn_holds : PySem.Challenge.rw_rollcode_k12_writes_that_were_torn.Holds := by
  w_on; o_law; k_head; (case hw => w_witness2)
  k_fill
  refine Lw.walk (l := PySem.Challenge.rw_rollcode_k12_writes_that_were_torn) rfl rfl (fun w h Y => PySem.W.kIn_of Y) ?F
  case F =>
    intro w mg fa h KX G hmg
    refine' Lw.all_mk KX G hmg ?aC ?pg ?hd ?po ?sa ?mk ?kc ?n_name ?n_table ?n_key ?n_age ?n_step ?n_next_count ?n_bound ?n_cells ?a0 ?l0 ?c0 ?k0 ?a1 ?l1 ?c1 ?k1 ?a2 ?l2 ?c2 ?k2 ?a3 ?l3 ?c3 ?k3 ?a4 ?l4 ?c4 ?k4 ?a5 ?i5 ?l5 ?c5 ?k5 ?a6 ?i6 ?l6 ?c6 ?k6 ?a7 ?i7 ?l7 ?c7 ?k7 ?a8 ?i8 ?l8 ?c8 ?k8 ?a9 ?i9 ?l9 ?c9 ?k9 ?a10 ?i10 ?l10 ?c10 ?k10 ?a11 ?i11 ?l11 ?c11 ?k11 ?a12 ?i12 ?l12 ?c12 ?k12 ?a13 ?i13 ?l13 ?c13 ?k13 ?a14 ?i14 ?l14 ?c14 ?k14 ?a15 ?l15 ?c15 ?k15 ?a16 ?l16 ?c16 ?k16 ?a17 ?l17 ?c17 ?k17 ?a18 ?l18 ?c18 ?k18 ?a19 ?l19 ?c19 ?k19 ?a20 ?l20 ?c20 ?k20 ?a21 ?l21 ?c21 ?k21 ?a22 ?l22 ?c22 ?k22 ?a23 ?l23 ?c23 ?k23 ?a24 ?l24 ?c24 ?k24 ?a25 ?l25 ?c25 ?k25 ?a26 ?l26 ?c26 ?k26 ?yg0 ?yg1 ?yg2 ?z0 ?z1 ?z2 ?z3 ?z4 ?z5 ?z6 ?z7 ?z8 ?z9 ?z10 ?z11 ?z12 ?z13 ?z14 ?z15 ?z16 ?z17
    (case aC => k_is)
    (case pg => k_is)
    (case hd => k_is)
    (case po => k_is)
    (case sa => k_is)
    (case mk => k_is)
    (case kc => k_is)
    (case n_name => k_is)
    (case n_table => k_is)
    (case n_key => k_is)
    (case n_age => k_is)
    (case n_step => k_is)
    (case n_next_count => k_is)
    (case n_bound => k_is)
    (case n_cells => k_is)
    (case a0 => k_is)
    (case l0 => k_is)
    (case c0 => k_is)
    (case k0 => k_is)
    (case a1 => k_is)
    (case l1 => k_is)
    (case c1 => k_is)
    (case k1 => k_is)
    (case a2 => k_is)
    (case l2 => k_is)
    (case c2 => k_is)
    (case k2 => k_is)
    (case a3 => k_is)
    (case l3 => k_is)
    (case c3 => k_is)
    (case k3 => k_is)
    (case a4 => k_is)
    (case l4 => k_is)
    (case c4 => k_is)
    (case k4 => k_is)
    (case a5 => k_is)
    (case i5 => k_is)
    (case l5 => k_is)
    (case c5 => k_is)
    (case k5 => k_is)
    (case a6 => k_is)
    (case i6 => k_is)
    (case l6 => k_is)
    (case c6 => k_is)
    (case k6 => k_is)
    (case a7 => k_is)
    (case i7 => k_is)
    (case l7 => k_is)
    (case c7 => k_is)
    (case k7 => k_is)
    (case a8 => k_is)
    (case i8 => k_is)
    (case l8 => k_is)
    (case c8 => k_is)
    (case k8 => k_is)
    (case a9 => k_is)
    (case i9 => k_is)
    (case l9 => k_is)
    (case c9 => k_is)
    (case k9 => k_is)
    (case a10 => k_is)
    (case i10 => k_is)
    (case l10 => k_is)
    (case c10 => k_is)
    (case k10 => k_is)
    (case a11 => k_is)
    (case i11 => k_is)
    (case l11 => k_is)
    (case c11 => k_is)
    (case k11 => k_is)
    (case a12 => k_is)
    (case i12 => k_is)
    (case l12 => k_is)
    (case c12 => k_is)
    (case k12 => k_is)
    (case a13 => k_is)
    (case i13 => k_is)
    (case l13 => k_is)
    (case c13 => k_is)
    (case k13 => k_is)
    (case a14 => k_is)
    (case i14 => k_is)
    (case l14 => k_is)
    (case c14 => k_is)
    (case k14 => k_is)
    (case a15 => k_is)
    (case l15 => k_is)
    (case c15 => k_is)
    (case k15 => k_is)
    (case a16 => k_is)
    (case l16 => k_is)
    (case c16 => k_is)
    (case k16 => k_is)
    (case a17 => k_is)
    (case l17 => k_is)
    (case c17 => k_is)
    (case k17 => k_is)
    (case a18 => k_is)
    (case l18 => k_is)
    (case c18 => k_is)
    (case k18 => k_is)
    (case a19 => k_is)
    (case l19 => k_is)
    (case c19 => k_is)
    (case k19 => k_is)
    (case a20 => k_is)
    (case l20 => k_is)
    (case c20 => k_is)
    (case k20 => k_is)
    (case a21 => k_is)
    (case l21 => k_is)
    (case c21 => k_is)
    (case k21 => k_is)
    (case a22 => k_is)
    (case l22 => k_is)
    (case c22 => k_is)
    (case k22 => k_is)
    (case a23 => k_is)
    (case l23 => k_is)
    (case c23 => k_is)
    (case k23 => k_is)
    (case a24 => k_is)
    (case l24 => k_is)
    (case c24 => k_is)
    (case k24 => k_is)
    (case a25 => k_is)
    (case l25 => k_is)
    (case c25 => k_is)
    (case k25 => k_is)
    (case a26 => k_is)
    (case l26 => k_is)
    (case c26 => k_is)
    (case k26 => k_is)
    (case yg0 => k_is)
    (case yg1 => k_is)
    (case yg2 => k_is)
    (case z0 => k_is)
    (case z1 => k_is)
    (case z2 => k_is)
    (case z3 => k_is)
    (case z4 => k_is)
    (case z5 => k_is)
    (case z6 => k_is)
    (case z7 => k_is)
    (case z8 => k_is)
    (case z9 => k_is)
    (case z10 => k_is)
    (case z11 => k_is)
    (case z12 => k_is)
    (case z13 => k_is)
    (case z14 => k_is)
    (case z15 => k_is)
    (case z16 => k_is)
    (case z17 => k_is)
