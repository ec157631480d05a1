import PyProof.Rows.All
import Wide.All
import OpenK.AllK
import Wide.FinOn
import Lean
import PyProof.EqAt
import PyProof.EqKinds
import PyProof.TupleCall
import PyProof.NeKinds
import PyProof.Rows.SortShellK
import KE.KSortTup
import PyProof.EnumStmt
import PyProof.EnumMake
import PyProof.EnumFor
import KE.KSortKey
import PyProof.StationsW
import KE.KTryOn
import PyProof.ZipIter
import PyProof.ListNew
import KE.LcSums
import KE.KRevIter
import PyProof.ListRange
import PyProof.Rows.SumAny
import PyProof.Rows.SortRunsK
import PyProof.Rows.SortKeyStr
import KE.KLam
import PySem.Challenge.RW_gridframe_k14_whole_bands_in_order
set_option Elab.async false
set_option linter.all false
set_option maxRecDepth 100000
/-! THE HAND LAYER, for ints, bools, texts, own classes, LISTS and tuples (index, slices, in, append, pop ..), calls, loops. Paste it whole ahead of your own text; what your proof does not reach may be deleted. -/
namespace L2
open PySem PySem.Spec PyProof.Rows

/-- a key: an int or a str -/
noncomputable abbrev Key := Sum Int Str
noncomputable def keyIs : Key → Value → Bool
  | .inl k, v => Value.isInt k v
  | .inr x, v => Value.isStrOf x v
noncomputable def keyH (w : World) : Key → Int
  | .inl k => hashInt k
  | .inr x => hashStr w x
theorem keyIs_shape : ∀ {k : Key} {v : Value}, keyIs k v = true → (∃ i t, k = Sum.inl i ∧ v = Value.int i t) ∨ (∃ x t, k = Sum.inr x ∧ v = Value.str x t)
  | .inl i, v, h => by
    obtain ⟨t, e⟩ := Value.isInt_shape (k := i) (v := v) h
    exact .inl ⟨i, t, rfl, e⟩
  | .inr x, v, h => by
    obtain ⟨t, e⟩ := Value.isStrOf_shape (x := x) (v := v) h
    exact .inr ⟨x, t, rfl, e⟩
theorem keyIs_int (i : Int) (t : Tok) : keyIs (.inl i) (.int i t) = true := by simp [keyIs, Value.isInt]
theorem keyIs_str (x : Str) (t : Tok) : keyIs (.inr x) (.str x t) = true := by simp [keyIs, Value.isStrOf]
theorem key_ll (a b : Int) : decide ((Sum.inl a : Key) = Sum.inl b) = (a == b) := by
  by_cases e : a = b
  · subst e; simp
  · have h : ¬ (Sum.inl a : Key) = Sum.inl b := fun q => e (Sum.inl.inj q)
    rw [decide_eq_false h]
    exact (beq_eq_false_iff_ne.mpr e).symm
theorem key_rr (a b : Str) : decide ((Sum.inr a : Key) = Sum.inr b) = decide (a = b) := by
  by_cases e : a = b
  · subst e; simp
  · have h : ¬ (Sum.inr a : Key) = Sum.inr b := fun q => e (Sum.inr.inj q)
    rw [decide_eq_false h, decide_eq_false e]
theorem key_lr (a : Int) (b : Str) : decide ((Sum.inl a : Key) = Sum.inr b) = false := decide_eq_false (fun q => nomatch q)
theorem key_rl (a : Str) (b : Int) : decide ((Sum.inr a : Key) = Sum.inl b) = false := decide_eq_false (fun q => nomatch q)

noncomputable def mixKind (prog : Program) (w : World) : PySem.KeyKind prog w Key where
  is := keyIs
  hash := keyH w
  inj := fun v a b ha hb => by
    rcases keyIs_shape ha with ⟨i, t, rfl, rfl⟩ | ⟨x, t, rfl, rfl⟩
    · rcases keyIs_shape hb with ⟨j, u, rfl, e⟩ | ⟨y, u, rfl, e⟩
      · injection e with e1 _; rw [e1]
      · exact nomatch e
    · rcases keyIs_shape hb with ⟨j, u, rfl, e⟩ | ⟨y, u, rfl, e⟩
      · exact nomatch e
      · injection e with e1 _; rw [e1]
  byValue := fun k v h => by
    rcases keyIs_shape h with ⟨i, t, rfl, rfl⟩ | ⟨x, t, rfl, rfl⟩ <;> rfl
  pyHash := fun hv h => by
    rcases keyIs_shape hv with ⟨i, t, rfl, rfl⟩ | ⟨x, t, rfl, rfl⟩
    · exact wpAny_pyHash_int h
    · exact wpAny_pyHash_str h
  eqBool := fun hu hv h => by
    rcases keyIs_shape hu with ⟨i, t, rfl, rfl⟩ | ⟨x, t, rfl, rfl⟩
    · rcases keyIs_shape hv with ⟨j, u, rfl, rfl⟩ | ⟨y, u, rfl, rfl⟩
      · rw [key_ll] at h; exact wpAny_eqBool_int h
      · rw [key_lr] at h; exact SeqAt.EqAt.int_str i t y u _ _ _ _ h
    · rcases keyIs_shape hv with ⟨j, u, rfl, rfl⟩ | ⟨y, u, rfl, rfl⟩
      · rw [key_rl] at h; exact SeqAt.EqAt.str_int x t j u _ _ _ _ h
      · rw [key_rr] at h; exact wpAny_eqBool_str h
  «strs» := fun k x t v h => by
    rcases keyIs_shape h with ⟨i, u, rfl, e⟩ | ⟨y, u, rfl, e⟩
    · exact nomatch e
    · injection e with e1 _
      subst e1
      cases v <;> rfl

theorem mixKind_int (prog : Program) (w : World) (i : Int) (t : Tok) : (mixKind prog w).is (.inl i) (.int i t) = true := keyIs_int i t
theorem mixKind_str (prog : Program) (w : World) (x : Str) (t : Tok) : (mixKind prog w).is (.inr x) (.str x t) = true := keyIs_str x t
end L2

namespace L2
open PySem PySem.Spec PyProof.Rows

/-- a value, without the heap -/
inductive V where
  | non | bl (b : Bool) | int (i : Int) | str (x : Str) | byt (b : Array UInt8) | flt (b : UInt64) | ref (a : Addr) | ty (n : String)
  deriving DecidableEq

noncomputable def RelV : V → Value → Prop
  | .non, u => u = Value.none
  | .bl b, u => u = Value.bool b
  | .int i, u => ∃ t, u = Value.int i t
  | .str x, u => ∃ t, u = Value.str x t
  | .byt b, u => ∃ t, u = Value.bytes b t
  | .flt b, u => ∃ t, u = Value.float b t
  | .ref a, u => u = Value.ref a
  | .ty n, u => u = Value.type n

noncomputable abbrev Vals : List V → List Value → Prop := Paired RelV
theorem Vals.length {xs : List V} {us : List Value} (r : Vals xs us) : xs.length = us.length := Paired.length r
theorem Vals.get : ∀ {xs : List V} {us : List Value} {i : Nat} {x : V}, Vals xs us → xs[i]? = some x → ∃ u, us[i]? = some u ∧ RelV x u
  | _, _, _, _, .nil, e => by simp at e
  | _, _, 0, _, .cons r _, e => by simp at e; subst e; exact ⟨_, rfl, r⟩
  | _, _, i + 1, x, .cons _ t, e => by
    obtain ⟨u, h1, h2⟩ := Vals.get (i := i) (x := x) t (by simpa using e)
    exact ⟨u, by simpa using h1, h2⟩
theorem Vals.append : ∀ {xs ys : List V} {us ws : List Value}, Vals xs us → Vals ys ws → Vals (xs ++ ys) (us ++ ws)
  | _, _, _, _, .nil, s => s
  | _, _, _, _, .cons r t, s => .cons r (Vals.append t s)
theorem Vals.take : ∀ {xs : List V} {us : List Value} (n : Nat), Vals xs us → Vals (xs.take n) (us.take n)
  | _, _, 0, _ => .nil
  | _, _, _ + 1, .nil => .nil
  | _, _, n + 1, .cons r t => .cons r (Vals.take n t)
theorem Vals.drop : ∀ {xs : List V} {us : List Value} (n : Nat), Vals xs us → Vals (xs.drop n) (us.drop n)
  | _, _, 0, r => r
  | _, _, _ + 1, .nil => .nil
  | _, _, n + 1, .cons _ t => Vals.drop n t

noncomputable def RelO : Option V → Option Value → Prop
  | some v, some u => RelV v u
  | none, none => True
  | _, _ => False
noncomputable def KV {κ : Type} : List (κ × V) → List (κ × Value) → Prop := Paired fun (p : κ × V) (q : κ × Value) => p.1 = q.1 ∧ RelV p.2 q.2

/-- a key of a dict (00_mix): an int or a text -/
noncomputable def kV : Key → V
  | .inl i => .int i
  | .inr x => .str x

/-- what stands at a tracked address -/
inductive HO where
  /-- a list -/
  | lst (xs : List V)
  /-- a tuple (never changes) -/
  | tup (xs : List V)
  /-- a dict whose keys are ints and texts; one whose keys are tuples of ints and texts (the empty one is both) -/
  | dK (kvs : List (Key × V)) | dT (kvs : List (List Key × V))
  /-- a set of ints: its members, its size -/
  | set (S : Int → Bool) (n : Nat)
  /-- an instance of the class at C, its dict at dx, its attributes -/
  | ins (C dx : Addr) (fs : List (Str × V))
  /-- the dict of the instance at x -/
  | own (x : Addr)
  /-- the dict of an exception -/
  | xd (fs : List (Str × V))
  /-- a bound method, f of x -/
  | met (f x : Addr)
  /-- a range object lo, lo + 1, .. below hi -/
  | rng (lo hi : Int)
  /-- a thing that is known to the object (the script; a dict while a loop walks it): read, never written while it is so -/
  | frz (o : Obj) (u : HO)
  /-- a code object's table -/
  | tbl (ps : Array Value)
  /-- any other thing, by what is true of its one object (a def of one's own: SetO a S n := HO.ext fun h => ..) -/
  | ext (φ : Heap → Prop)

noncomputable abbrev Hp := Addr → Option HO
noncomputable def upd (H : Hp) (a : Addr) (o : HO) : Hp := fun b => if b = a then some o else H b
theorem upd_same {H : Hp} {a : Addr} {o : HO} : upd H a o a = some o := by unfold upd; rw [if_pos rfl]
theorem upd_ne {H : Hp} {a b : Addr} {o : HO} (h : b ≠ a) : upd H a o b = H b := by unfold upd; rw [if_neg h]
/-- two objects of different content stand apart -/
theorem ne_of {H : Hp} {a b : Addr} {o u : HO} (h : H a = some o) (h' : H b = some u) (d : o ≠ u) : a ≠ b := by
  intro e; subst e; rw [h] at h'; exact d (Option.some.inj h')
theorem ne_of_none {H : Hp} {a b : Addr} {o : HO} (h : H a = some o) (h' : H b = none) : a ≠ b := by
  intro e; subst e; rw [h] at h'; cases h'

section
variable (P : Program) (w : World)
noncomputable def ObjOk (H : Hp) (h : Heap) (a : Addr) : HO → Prop
  | .lst xs => xs.length ≤ sizeLine ∧ ∃ (its : List Value) (n : Nat), Vals xs its ∧ h.get? a = some { cls := .type "list", data := .seq its.toArray n }
  | .tup xs => xs.length ≤ sizeLine ∧ ∃ its : List Value, Vals xs its ∧ IsTup h a its.toArray
  | .dK kvs => kvs.length ≤ sizeLine ∧ (a == sysModules) = false ∧ ∃ vs, KV kvs vs ∧ h.DictOf (mixKind P w) a vs
  | .dT kvs => kvs.length ≤ sizeLine ∧ (a == sysModules) = false ∧ ∃ xs : List (List Key × Addr × Value),
      Paired (fun (p : List Key × V) (q : List Key × Addr × Value) => p.1 = q.1 ∧ H q.2.1 = some (.tup (p.1.map kV)) ∧ RelV p.2 q.2.2) kvs xs ∧
      ∃ o es ep, h.get? a = some o ∧ o.ExactDict ∧ o.data = .dict es ep ∧ es.toList = xs.map (entryOfKey (tupleKind (mixKind P w))) ∧ (xs.map (·.1)).Nodup
  | .set S n => h.SetOf (intKind P w) a S n
  | .ins C dx fs => H dx = some (.own a) ∧ fs.length ≤ 1000 ∧ dx ≠ a ∧ h.get? a = some (PySem.W.instObj C dx) ∧
      ∃ mA, h.Ns1 dx mA ∧ (∀ f, RelO (fs.lookup f) (mA f)) ∧ PySem.Within mA (fs.map (·.1))
  | .own _ => ∃ o, h.get? a = some o
  | .xd fs => ∃ mA, h.Ns1 a mA ∧ ∀ f, RelO (fs.lookup f) (mA f)
  | .rng lo hi => ∃ t u v, h.get? a = some { cls := .type "range", data := .fields #[.int lo t, .int hi u, .int 1 v] }
  | .frz o u => h.get? a = some o ∧ ObjOk H h a u
  | .tbl ps => h.get? a = some { cls := .none, data := .fields ps }
  | .met f x => h.get? a = some (PySem.W.methodObj (.ref f) (.ref x))
  | .ext φ => φ h ∧ (∃ o, h.get? a = some o) ∧ ∀ h1 h2 : Heap, φ h1 → (∀ o, h1.get? a = some o → h2.get? a = some o) → φ h2
/-- the abstract heap is held -/
noncomputable def HOk (H : Hp) (h : Heap) : Prop := ∀ a o, H a = some o → ObjOk P w H h a o
end

section
variable {P : Program} {w : World} {H H' : Hp} {h h' : Heap} {a : Addr} {o : HO}
theorem ObjOk.lt (x : ObjOk P w H h a o) : a < h.objs.size := by
  cases o with
  | lst xs => obtain ⟨_, _, _, _, e⟩ := x; exact Heap.lt_size e
  | tup xs => obtain ⟨_, _, _, p⟩ := x; exact p.lt
  | dK kvs => obtain ⟨_, _, _, _, o, _, _, e, _⟩ := x; exact Heap.lt_size e
  | dT kvs => obtain ⟨_, _, _, _, o, _, _, e, _⟩ := x; exact Heap.lt_size e
  | set S n => obtain ⟨o, _, _, _, e, _⟩ := x; exact Heap.lt_size e
  | ins C dx fs => obtain ⟨_, _, _, e, _⟩ := x; exact Heap.lt_size e
  | own y => obtain ⟨_, e⟩ := x; exact Heap.lt_size e
  | xd fs => obtain ⟨_, ⟨_, _, _, e, _⟩, _⟩ := x; exact Heap.lt_size e
  | rng lo hi => obtain ⟨_, _, _, e⟩ := x; exact Heap.lt_size e
  | frz ob u => obtain ⟨e, _⟩ := x; exact Heap.lt_size e
  | tbl ps => exact Heap.lt_size (show h.get? a = some _ from x)
  | met f y => exact Heap.lt_size (show h.get? a = some _ from x)
  | ext φ => obtain ⟨_, ⟨_, e⟩, _⟩ := x; exact Heap.lt_size e
theorem Paired.mapP {α β : Type} {F G : α → β → Prop} : ∀ {l₁ : List α} {l₂ : List β}, Paired F l₁ l₂ → (∀ a b, F a b → G a b) → Paired G l₁ l₂
  | _, _, .nil, _ => .nil
  | _, _, .cons r t, f => .cons (f _ _ r) (Paired.mapP t f)
/-- what an object's description leans on: its own object, its own dict, the tuples -/
theorem ObjOk.stay (x : ObjOk P w H h a o) (k : ∀ b u, (b = a ∨ H b = some (.own a)) → h.get? b = some u → h'.get? b = some u)
    (ho : ∀ b, H b = some (.own a) → H' b = some (.own a)) (ht : ∀ b xs, H b = some (.tup xs) → H' b = some (.tup xs)) : ObjOk P w H' h' a o := by
  induction o with
  | lst xs => obtain ⟨z, its, n, r, e⟩ := x; exact ⟨z, its, n, r, k _ _ (.inl rfl) e⟩
  | tup xs => obtain ⟨z, its, r, ob, e, c⟩ := x; exact ⟨z, its, r, ob, k _ _ (.inl rfl) e, c⟩
  | dK kvs => obtain ⟨z, y, vs, r, ob, es, ep, e, c⟩ := x; exact ⟨z, y, vs, r, ob, es, ep, k _ _ (.inl rfl) e, c⟩
  | dT kvs =>
    obtain ⟨z, y, xs, r, ob, es, ep, e, c⟩ := x
    exact ⟨z, y, xs, Paired.mapP r fun p q z => ⟨z.1, ht _ _ z.2.1, z.2.2⟩, ob, es, ep, k _ _ (.inl rfl) e, c⟩
  | set S n => obtain ⟨ob, es, ep, t, e, c⟩ := x; exact ⟨ob, es, ep, t, k _ _ (.inl rfl) e, c⟩
  | ins C dx fs =>
    obtain ⟨d, z, ne, e, mA, ⟨od, es, ep, e2, c⟩, r⟩ := x
    exact ⟨ho _ d, z, ne, k _ _ (.inl rfl) e, mA, ⟨od, es, ep, k _ _ (.inr d) e2, c⟩, r⟩
  | own y => obtain ⟨ob, e⟩ := x; exact ⟨ob, k _ _ (.inl rfl) e⟩
  | xd fs => obtain ⟨mA, ⟨od, es, ep, e, c⟩, r⟩ := x; exact ⟨mA, ⟨od, es, ep, k _ _ (.inl rfl) e, c⟩, r⟩
  | rng lo hi => obtain ⟨t, u, v, e⟩ := x; exact ⟨t, u, v, k _ _ (.inl rfl) e⟩
  | frz ob u ih => obtain ⟨e, q⟩ := x; exact ⟨k _ _ (.inl rfl) e, ih q⟩
  | tbl ps =>
    have e : h.get? a = some { cls := .none, data := .fields ps } := x
    show h'.get? a = some { cls := .none, data := .fields ps }
    exact k a _ (.inl rfl) e
  | met f y =>
    have e : h.get? a = some (PySem.W.methodObj (.ref f) (.ref y)) := x
    show h'.get? a = some (PySem.W.methodObj (.ref f) (.ref y))
    exact k a _ (.inl rfl) e
  | ext φ => obtain ⟨p, ⟨o, e⟩, st⟩ := x; exact ⟨st _ _ p fun o q => k _ _ (.inl rfl) q, ⟨o, k _ _ (.inl rfl) e⟩, st⟩
theorem HOk.lt (x : HOk P w H h) (e : H a = some o) : a < h.objs.size := (x a o e).lt
theorem HOk.fresh (x : HOk P w H h) (e : h.objs.size ≤ a) : H a = none := by
  cases q : H a with
  | none => rfl
  | some u => exact absurd (Nat.lt_of_lt_of_le (x.lt q) e) (Nat.lt_irrefl _)
/-- every object of the heap is kept -/
theorem HOk.kept (x : HOk P w H h) (k : ∀ b u, h.get? b = some u → h'.get? b = some u) : HOk P w H h' := fun a o e =>
  (x a o e).stay (fun b u _ q => k b u q) (fun _ q => q) fun _ _ q => q
/-- a new object is laid and tracked -/
theorem HOk.laid (x : HOk P w H h) (k : ∀ b u, h.get? b = some u → h'.get? b = some u) (hp : h.objs.size ≤ a) (new : ObjOk P w (upd H a o) h' a o) : HOk P w (upd H a o) h' := fun b u e => by
  have hn := x.fresh hp
  by_cases hb : b = a
  · subst hb; rw [upd_same] at e; cases e; exact new
  · rw [upd_ne hb] at e
    exact (x b u e).stay (fun c v _ q => k c v q) (fun c q => by rw [upd_ne (ne_of_none q hn)]; exact q) fun c xs q => by rw [upd_ne (ne_of_none q hn)]; exact q
end

/-- what may be read as u: it is u, or a known u -/
noncomputable def Rd (H : Hp) (a : Addr) (u : HO) : Prop := H a = some u ∨ ∃ o, H a = some (.frz o u)
theorem Rd.ok {P : Program} {w : World} {H : Hp} {h : Heap} {a : Addr} {u : HO} (r : Rd H a u) (x : HOk P w H h) : ObjOk P w H h a u := by
  rcases r with r | ⟨o, r⟩
  · exact x a u r
  · obtain ⟨_, q⟩ := x a _ r
    exact q
/-- what may be written -/
noncomputable def Mut : Option HO → Prop
  | some (.lst _) => True
  | some (.dK _) => True
  | some (.dT _) => True
  | some (.set _ _) => True
  | some (.ins _ _ _) => True
  | some (.ext _) => True
  | _ => False
section
variable {P : Program} {w : World} {H : Hp} {h h' : Heap} {x e : Addr} {o' : HO}
/-- the object at e is changed: x itself, or the dict of the instance x -/
theorem HOk.write (ok : HOk P w H h) (mu : Mut (H x)) (he : e = x ∨ H e = some (.own x)) (k : ∀ b u, b ≠ e → h.get? b = some u → h'.get? b = some u) (heo : ∃ u, h'.get? e = some u)
    (new : ObjOk P w (upd H x o') h' x o') : HOk P w (upd H x o') h' := fun b u q => by
  have nown : ∀ c y, H c = some (.own y) → c ≠ x := fun c y r z => by subst z; rw [r] at mu; exact mu
  have ntup : ∀ c xs, H c = some (.tup xs) → c ≠ x := fun c xs r z => by subst z; rw [r] at mu; exact mu
  by_cases hb : b = x
  · subst hb; rw [upd_same] at q; cases q; exact new
  · rw [upd_ne hb] at q
    by_cases hbe : b = e
    · have q' : H b = some (.own x) := by
        rcases he with z | z
        · exact absurd (hbe.trans z) hb
        · rw [hbe]; exact z
      rw [q] at q'; cases q'
      obtain ⟨v, hv⟩ := heo
      exact ⟨v, by rw [hbe]; exact hv⟩
    · refine (ok b u q).stay (fun c v hc r => k c v ?_ r) (fun c r => by rw [upd_ne (nown c b r)]; exact r) fun c xs r => by rw [upd_ne (ntup c xs r)]; exact r
      rcases hc with rfl | hc
      · exact hbe
      · rintro rfl
        rcases he with z | z
        · exact nown c b hc z
        · rw [hc] at z; cases z; exact hb rfl
end

/-! ### kept unless tracked; of the frames at fs (the callers') the slots may change (an exception that passes writes there); of the records at ex (iterators) nothing is said -/
structure Un (fs ex : List Addr) (H H' : Hp) (h h' : Heap) : Prop where
  keep : ∀ b o, h.get? b = some o → H b = none → b ∉ fs → b ∉ ex → h'.get? b = some o
  slot : ∀ b o, h.get? b = some o → H b = none → b ∈ fs → b ∉ ex → ∃ sl, h'.get? b = some { o with slots := sl }
  free : ∀ b o, h.get? b = some o → H b = none → b ∉ ex → H' b = none
  there : ∀ b o, h.get? b = some o → b ∉ ex → ∃ o', h'.get? b = some o'
  tups : ∀ b xs, H b = some (.tup xs) → H' b = some (.tup xs)
  frzs : ∀ b o u, H b = some (.frz o u) → H' b = some (.frz o u)
  tbls : ∀ b ps, H b = some (.tbl ps) → ∃ more, H' b = some (.tbl (ps ++ more))
section
variable {fs fs' ex ex' : List Addr} {H H1 H2 : Hp} {h h1 h2 h' : Heap} {a x e : Addr} {o : HO}
theorem Un.any (u : Un fs ex H H1 h h1) {b : Addr} {ob : Obj} (q : h.get? b = some ob) (n : H b = none) (hx : b ∉ ex) : ∃ sl, h1.get? b = some { ob with slots := sl } := by
  by_cases hb : b ∈ fs
  · exact u.slot b ob q n hb hx
  · exact ⟨ob.slots, u.keep b ob q n hb hx⟩
theorem Un.kept (k : ∀ b u, h.get? b = some u → h'.get? b = some u) : Un fs ex H H h h' :=
  ⟨fun b ob q _ _ _ => k b ob q, fun b ob q _ _ _ => ⟨ob.slots, k b ob q⟩, fun _ _ _ n _ => n, fun b ob q _ => ⟨ob, k b ob q⟩, fun _ _ q => q, fun _ _ _ q => q, fun _ ps q => ⟨#[], by rw [q]; simp⟩⟩
theorem Un.refl : Un fs ex H H h h := Un.kept fun _ _ q => q
theorem Un.laid (k : ∀ b u, h.get? b = some u → h'.get? b = some u) (hp : h.objs.size ≤ a) (hn : H a = none) : Un fs ex H (upd H a o) h h' where
  keep := fun b u q _ _ _ => k b u q
  slot := fun b u q _ _ _ => ⟨u.slots, k b u q⟩
  free := fun b u q n _ => by rw [upd_ne (Nat.ne_of_lt (Nat.lt_of_lt_of_le (Heap.lt_size q) hp))]; exact n
  there := fun b u q _ => ⟨u, k b u q⟩
  tups := fun b xs q => by rw [upd_ne (ne_of_none q hn)]; exact q
  frzs := fun b u xs q => by rw [upd_ne (ne_of_none q hn)]; exact q
  tbls := fun b ps q => ⟨#[], by rw [upd_ne (ne_of_none q hn), q]; simp⟩
theorem Un.write (mu : Mut (H x)) (he : e = x ∨ H e = some (.own x)) (k : ∀ b u, b ≠ e → h.get? b = some u → h'.get? b = some u) (heo : ∃ u, h'.get? e = some u) : Un fs ex H (upd H x o) h h' := by
  have hx : ∀ b, H b = none → b ≠ x := fun b n z => by subst z; rw [n] at mu; exact mu
  have hb : ∀ b, H b = none → b ≠ e := fun b n z => by
    subst z
    rcases he with r | r
    · exact hx b n r
    · rw [n] at r; cases r
  have hm : ∀ b u, H b = some u → ¬ Mut (some u) → b ≠ x := fun b u q nm z => by subst z; rw [q] at mu; exact nm mu
  refine ⟨fun b u q n _ _ => k b u (hb b n) q, fun b u q n _ _ => ⟨u.slots, k b u (hb b n) q⟩, fun b u q n _ => by rw [upd_ne (hx b n)]; exact n, fun b u q _ => ?_,
    fun b xs q => by rw [upd_ne (hm b _ q fun z => z)]; exact q, fun b u xs q => by rw [upd_ne (hm b _ q fun z => z)]; exact q, fun b ps q => ⟨#[], by rw [upd_ne (hm b _ q fun z => z), q]; simp⟩⟩
  by_cases hbe : b = e
  · subst hbe; exact heo
  · exact ⟨u, k b u hbe q⟩
end

/-! ### the heap without what is tracked -/
noncomputable def trk (h : Heap) (H : Hp) : List Addr := (List.range h.objs.size).filter fun a => (H a).isSome
noncomputable def hidT (h : Heap) (H : Hp) : Heap := PySem.W.hideAll h (trk h H)
theorem hidT_size (h : Heap) (H : Hp) : (hidT h H).objs.size = h.objs.size := PySem.W.hideAll_size _ _
theorem hidT_get {h : Heap} {H : Hp} {b : Addr} {o : Obj} (e : h.get? b = some o) (n : H b = none) : (hidT h H).get? b = some o :=
  PySem.W.hideAll_get _ e fun hm => by
    have q : (H b).isSome = true := (List.mem_filter.mp hm).2
    rw [n] at q; simp at q
theorem of_hidT {h : Heap} {H : Hp} {b : Addr} {o : Obj} (e : (hidT h H).get? b = some o) : h.get? b = some o ∧ H b = none := by
  have e' : h.get? b = some o := PySem.W.of_hideAll (trk h H) e
  refine ⟨e', ?_⟩
  cases q : H b with
  | none => rfl
  | some x =>
    have hm : b ∈ trk h H := List.mem_filter.mpr ⟨List.mem_range.mpr (Heap.lt_size e'), by simp [q]⟩
    have z : (hidT h H).get? b = none := PySem.W.hideAll_none (trk h H) hm
    rw [z] at e; cases e

/-! ### OpenK's ledger, filled with every new object but one -/
end L2

namespace L2
open PySem PySem.Spec PyProof.Rows

/-- the module's facts, over the base: the heap at the law's entry without what is tracked there -/
structure Mod (K : PySem.W.Frag) (mg : Str → Option Value) (base : Heap) : Prop where
  kin : K.In base
  glob : base.Ns mainGlobals mg
  blt : ∃ mb, base.Ns builtinsNs mb ∧ ∀ x : Str, x ≠ "__name__" → mb x = bootBuiltins x
  nolimit : base.NoLimit

/-- the context: a def's body (or a comprehension's block) running. base: fixed through the whole law; s₀, H₀: the entry; outer: the frames whose slots others may change (a def's callers); stack: all frames that run;
   ex: iterators that were made ahead of the entry and are walked here (a comprehension's); fn: the names whose cells were made at the entry (a def: all; a comprehension's block: its own); calm: not within an except suite; pn: pins that every state bears; xe: what is wanted of an exception that leaves the code -/
structure Cx where
  prog : Program
  w : World
  K : PySem.W.Frag
  mg : Str → Option Value
  base : Heap
  A : Around
  N : List Str
  s₀ : Shared
  H₀ : Hp
  env : Env
  outer : List Env
  stack : List Env
  ex : List Addr
  fn : Str → Bool
  calm : Bool
  pn : List (Addr × Obj)
  xe : Value → Shared → Prop
/-- the callers' frames -/
noncomputable def frs (l : List Env) : List Addr := l.filterMap (·.frame)
noncomputable abbrev Cx.fs (X : Cx) : List Addr := frs X.outer

noncomputable def Vis (sc : Scope) (x : Str) : Prop := sc.names.lookup x = some .local ∨ sc.names.lookup x = some .cell ∨ sc.names.lookup x = some .free
noncomputable def Loc (sc : Scope) (x : Str) : Prop := sc.names.lookup x = some .local ∨ sc.names.lookup x = some .cell
noncomputable def Look (env : Env) (h : Heap) (m : Str → Option Value) (x : Str) (u : Value) : Prop :=
  (env.kindOf x = some .local ∧ m x = some u) ∨ ((env.kindOf x = some .cell ∨ env.kindOf x = some .free) ∧ ∃ c, env.cells.lookup x = some c ∧ h.IsCell c (some u))

structure Cx.Ok (X : Cx) : Prop where
  mod : Mod X.K X.mg X.base
  kind : X.env.scope.kind = .function
  glob : X.env.globals = mainGlobals
  blt : X.env.builtins = builtinsNs
  above : X.s₀.heap.objs.size ≤ X.env.locals
  inj : ∀ x y c, X.env.cells.lookup x = some c → X.env.cells.lookup y = some c → x = y
  has : ∀ x, (X.env.kindOf x = some .cell ∨ X.env.kindOf x = some .free) → ∃ c, X.env.cells.lookup x = some c
  cab : ∀ x c, X.fn x = true → X.env.cells.lookup x = some c → X.s₀.heap.objs.size ≤ c
  hd : X.calm = true → X.A.handled = none
  frames : X.A.frames = some X.stack
  stk : X.stack = X.outer ∨ (X.stack = X.env :: X.outer ∧ X.env.frame = some X.env.locals)
  exf : ∀ b ∈ X.ex, b ≠ X.env.locals ∧ ∀ x c, X.env.cells.lookup x = some c → c ≠ b
  bs : ∀ b o, X.base.get? b = some o → X.s₀.heap.get? b = some o ∧ X.H₀ b = none
  bsz : X.base.objs.size ≤ X.s₀.heap.objs.size
  noex : ∀ b o, X.base.get? b = some o → b ∉ X.ex
  exfs : ∀ b ∈ X.ex, b ∉ X.fs
  funs : X.s₀.heap.FunFrames X.base X.outer
  frf : ∀ b ∈ X.fs, X.H₀ b = none

structure Inv (X : Cx) (pins : List (Addr × Obj)) (σ : List (Option V)) (H : Hp) (s : Shared) : Prop where
  ok : X.Ok
  os : s.os = X.s₀.os
  bare : AllBare s.gens
  base : Un X.fs X.ex X.H₀ H X.s₀.heap s.heap
  loc : ∃ m, s.heap.Ns X.env.locals m ∧ ∀ (i : Nat) (x : Str) (v : V), X.N[i]? = some x → σ[i]? = some (some v) → Vis X.env.scope x → ∃ u, RelV v u ∧ Look X.env s.heap m x u
  cell : ∀ x c, X.env.cells.lookup x = some c → ∃ v, s.heap.IsCell c v
  free : H X.env.locals = none
  freeC : ∀ x c, X.env.cells.lookup x = some c → H c = none
  pin : ∀ p ∈ X.pn ++ pins, s.heap.get? p.1 = some p.2 ∧ H p.1 = none ∧ p.1 ≠ X.env.locals ∧ p.1 ∉ X.fs ∧ ∀ v, p.2.data ≠ .cell v
  hok : HOk X.prog X.w H s.heap
  len : σ.length = X.N.length

section
variable {X : Cx} {pins : List (Addr × Obj)} {σ : List (Option V)} {H H' : Hp} {s : Shared} {h' : Heap}

theorem Cx.Ok.nofr (ok : X.Ok) {b : Addr} {o : Obj} (e : X.base.get? b = some o) : b ∉ X.fs := fun hb => by
  have := (ok.funs.mem hb).1
  rw [e] at this; cases this
theorem Inv.bs (I : Inv X pins σ H s) : ∀ b o, X.base.get? b = some o → s.heap.get? b = some o ∧ H b = none := fun b o e =>
  ⟨I.base.keep b o (I.ok.bs b o e).1 (I.ok.bs b o e).2 (I.ok.nofr e) (I.ok.noex b o e), I.base.free b o (I.ok.bs b o e).1 (I.ok.bs b o e).2 (I.ok.noex b o e)⟩
theorem Inv.bk (I : Inv X pins σ H s) : ∀ b o, X.base.get? b = some o → s.heap.get? b = some o := fun b o e => (I.bs b o e).1
theorem Inv.mod (I : Inv X pins σ H s) : Mod X.K X.mg X.base := I.ok.mod
theorem Inv.kIn (I : Inv X pins σ H s) : X.K.In s.heap := I.ok.mod.kin.keeps I.bk
theorem Inv.lt (I : Inv X pins σ H s) : X.env.locals < s.heap.objs.size := let ⟨_, hn, _⟩ := I.loc; hn.lt
theorem Inv.sz (I : Inv X pins σ H s) : X.s₀.heap.objs.size ≤ s.heap.objs.size := Nat.le_trans I.ok.above (Nat.le_of_lt I.lt)
theorem Inv.nofs (I : Inv X pins σ H s) {a : Addr} (h : s.heap.objs.size ≤ a) : a ∉ X.fs := fun hb => by
  obtain ⟨_, o, ho, _⟩ := I.ok.funs.mem hb
  exact absurd (Nat.lt_of_lt_of_le (Heap.lt_size ho) (Nat.le_trans I.sz h)) (Nat.lt_irrefl _)
theorem Inv.cne (I : Inv X pins σ H s) : ∀ x c, X.env.cells.lookup x = some c → c ≠ X.env.locals := fun x c e z => by
  obtain ⟨v, o, ho, hd⟩ := I.cell x c e
  obtain ⟨m, ⟨o', es, ep, ho', hd', _⟩, _⟩ := I.loc
  rw [z, ho'] at ho; cases ho; rw [hd'] at hd; cases hd
theorem Inv.funs (I : Inv X pins σ H s) : s.heap.FunFrames X.base X.outer := by
  have all : ∀ (l : List Env), (∀ b ∈ frs l, b ∈ X.fs) → X.s₀.heap.FunFrames X.base l → s.heap.FunFrames X.base l := by
    intro l
    induction l with
    | nil => intro _ _; trivial
    | cons env r ih =>
      intro hs hl
      obtain ⟨hk, ⟨L, o, hf, hn, ho, hd⟩, hr⟩ := hl
      have hL : L ∈ X.fs := hs L (by unfold frs; rw [List.filterMap_cons, hf]; exact List.mem_cons_self)
      obtain ⟨sl, e⟩ := I.base.slot L o ho (I.ok.frf L hL) hL fun z => I.ok.exfs L z hL
      exact ⟨hk, ⟨L, _, hf, hn, e, hd⟩, ih (fun b hb => hs b (by unfold frs; rw [List.filterMap_cons, hf]; exact List.mem_cons_of_mem _ hb)) hr⟩
  exact all X.outer (fun _ hb => hb) I.ok.funs

/-- the frames that run, for a call -/
theorem Inv.stack (I : Inv X pins σ H s) : s.heap.FunFrames X.base X.stack := by
  rcases I.ok.stk with e | ⟨e, hf⟩
  · rw [e]; exact I.funs
  · rw [e]
    obtain ⟨m, hn, _⟩ := I.loc
    refine .cons (by rw [I.ok.kind]; decide) hf hn ?_ I.funs
    exact Heap.get?_none_of_le (Nat.le_trans I.ok.bsz I.ok.above)
theorem Inv.stkSub (I : Inv X pins σ H s) : ∀ b ∈ frs X.stack, b ∈ X.env.locals :: X.fs := fun b hb => by
  rcases I.ok.stk with e | ⟨e, hf⟩
  · rw [e] at hb; exact List.mem_cons_of_mem _ hb
  · rw [e] at hb
    unfold frs at hb
    rw [List.filterMap_cons, hf] at hb
    exact hb
theorem Inv.stkFree (I : Inv X pins σ H s) : ∀ b ∈ frs X.stack, H b = none := fun b hb => by
  rcases List.mem_cons.mp (I.stkSub b hb) with e | hb
  · rw [e]; exact I.free
  · obtain ⟨_, o, ho, _⟩ := I.ok.funs.mem hb
    exact I.base.free b o ho (I.ok.frf b hb) fun z => I.ok.exfs b z hb

/-- THE STEP: the untracked objects but the frame and the records at ch are kept (the callers' frames up to slots), the frame's map is kept, the new abstract heap is held -/
theorem Inv.step {g' : Array GenState} {t' : Nat} {d' : Drawn} {ch : List Addr} (I : Inv X pins σ H s)
    (hch : ∀ b ∈ ch, (b ∈ X.ex ∨ X.s₀.heap.objs.size ≤ b) ∧ b ≠ X.env.locals ∧ (∀ x c, X.env.cells.lookup x = some c → c ≠ b) ∧ ∀ p ∈ X.pn ++ pins, p.1 ≠ b)
    (keep : ∀ b o, b ≠ X.env.locals → b ∉ X.fs → b ∉ ch → s.heap.get? b = some o → H b = none → h'.get? b = some o)
    (slot : ∀ b o, b ≠ X.env.locals → b ∈ X.fs → b ∉ ch → s.heap.get? b = some o → H b = none → ∃ sl, h'.get? b = some { o with slots := sl }) (free : ∀ b o, b ∉ ch → s.heap.get? b = some o → H b = none → H' b = none)
    (there : ∀ b o, b ∉ ch → s.heap.get? b = some o → ∃ o', h'.get? b = some o')
    (tups : ∀ b xs, H b = some (.tup xs) → H' b = some (.tup xs)) (frzs : ∀ b o u, H b = some (.frz o u) → H' b = some (.frz o u)) (tbls : ∀ b ps, H b = some (.tbl ps) → ∃ more, H' b = some (.tbl (ps ++ more)))
    (ns : ∀ m, s.heap.Ns X.env.locals m → h'.Ns X.env.locals m) (hok : HOk X.prog X.w H' h') (hg : AllBare g') :
    Inv X pins σ H' { s with heap := h', gens := g', drawn := d', toks := t' } := by
  have neL : ∀ b o, X.s₀.heap.get? b = some o → b ≠ X.env.locals := fun b o e => Nat.ne_of_lt (Nat.lt_of_lt_of_le (Heap.lt_size e) I.ok.above)
  have neC : ∀ b o, X.s₀.heap.get? b = some o → b ∉ X.ex → b ∉ ch := fun b o e hx hb => by
    rcases (hch b hb).1 with z | z
    · exact hx z
    · exact absurd (Nat.lt_of_lt_of_le (Heap.lt_size e) z) (Nat.lt_irrefl _)
  have cellK : ∀ x c, X.env.cells.lookup x = some c → ∀ v, s.heap.IsCell c v → h'.IsCell c v := fun x c e v ⟨o, ho, hd⟩ => by
    have nch : c ∉ ch := fun z => (hch c z).2.2.1 x c e rfl
    by_cases hc : c ∈ X.fs
    · obtain ⟨sl, q⟩ := slot c o (I.cne x c e) hc nch ho (I.freeC x c e)
      exact ⟨_, q, hd⟩
    · exact ⟨o, keep c o (I.cne x c e) hc nch ho (I.freeC x c e), hd⟩
  refine ⟨I.ok, I.os, hg, ⟨fun b o e n hb hx => ?_, fun b o e n hb hx => ?_, fun b o e n hx => ?_, fun b o e hx => ?_, fun b xs e => tups b xs (I.base.tups b xs e), fun b o xs e => frzs b o xs (I.base.frzs b o xs e), fun b ps e => ?_⟩, ?_, fun x c e => ?_, ?_, fun x c e => ?_, fun p hp => ?_, hok, I.len⟩
  · exact keep b o (neL b o e) hb (neC b o e hx) (I.base.keep b o e n hb hx) (I.base.free b o e n hx)
  · obtain ⟨sl, e1⟩ := I.base.slot b o e n hb hx
    obtain ⟨sl', e2⟩ := slot b _ (neL b o e) hb (neC b o e hx) e1 (I.base.free b o e n hx)
    exact ⟨sl', e2⟩
  · obtain ⟨o', e1⟩ := I.base.there b o e hx
    exact free b o' (neC b o e hx) e1 (I.base.free b o e n hx)
  · obtain ⟨o', e1⟩ := I.base.there b o e hx
    exact there b o' (neC b o e hx) e1
  · obtain ⟨m1, e1⟩ := I.base.tbls b ps e
    obtain ⟨m2, e2⟩ := tbls b _ e1
    exact ⟨m1 ++ m2, by rw [e2, Array.append_assoc]⟩
  · obtain ⟨m, hn, hl⟩ := I.loc
    refine ⟨m, ns m hn, fun i x v e1 e2 e3 => ?_⟩
    obtain ⟨u, r, l⟩ := hl i x v e1 e2 e3
    refine ⟨u, r, ?_⟩
    rcases l with l | ⟨k, c, e, z⟩
    · exact .inl l
    · exact .inr ⟨k, c, e, cellK x c e _ z⟩
  · obtain ⟨v, z⟩ := I.cell x c e
    exact ⟨v, cellK x c e v z⟩
  · obtain ⟨m, ⟨o, _, _, ho, _⟩, _⟩ := I.loc
    exact free _ o (fun z => (hch _ z).2.1 rfl) ho I.free
  · obtain ⟨v, o, ho, hd⟩ := I.cell x c e
    exact free c o (fun z => (hch c z).2.2.1 x c e rfl) ho (I.freeC x c e)
  · obtain ⟨e, n, ne, nf, d⟩ := I.pin p hp
    have nch : p.1 ∉ ch := fun z => (hch p.1 z).2.2.2 p hp rfl
    exact ⟨keep p.1 p.2 ne nf nch e n, free p.1 p.2 nch e n, ne, nf, d⟩
/-- .. where the frame's own object is kept too -/
theorem Inv.un {t' : Nat} (I : Inv X pins σ H s) (u : Un X.fs [] H H' s.heap h') (hok : HOk X.prog X.w H' h') : Inv X pins σ H' { s with heap := h', toks := t' } := by
  obtain ⟨m, ⟨o, es, ep, ho, r⟩, _⟩ := id I.loc
  obtain ⟨sl, hL⟩ := u.any ho I.free (by simp)
  exact I.step (g' := s.gens) (d' := s.drawn) (ch := []) (fun _ z => nomatch z) (fun b o _ hb _ e n => u.keep b o e n hb (by simp)) (fun b o _ hb _ e n => u.slot b o e n hb (by simp)) (fun b o _ e n => u.free b o e n (by simp)) (fun b o _ e => u.there b o e (by simp)) u.tups u.frzs u.tbls (fun m' hm => by
    obtain ⟨o', es', ep', ho', r'⟩ := hm
    rw [ho] at ho'; cases ho'
    exact ⟨_, es', ep', hL, r'⟩) hok I.bare
/-- behind a call (or a comprehension's block): the slots of this frame may have changed too, the records at ch may have turned -/
theorem Inv.call {g' : Array GenState} {t' : Nat} {d' : Drawn} {ch : List Addr} (I : Inv X pins σ H s) (u : Un (frs X.stack) ch H H' s.heap h') (hok : HOk X.prog X.w H' h') (hg : AllBare g')
    (hch : ∀ b ∈ ch, (b ∈ X.ex ∨ X.s₀.heap.objs.size ≤ b) ∧ b ≠ X.env.locals ∧ (∀ x c, X.env.cells.lookup x = some c → c ≠ b) ∧ ∀ p ∈ X.pn ++ pins, p.1 ≠ b) :
    Inv X pins σ H' { s with heap := h', gens := g', drawn := d', toks := t' } := by
  obtain ⟨m, ⟨o, es, ep, ho, r⟩, _⟩ := id I.loc
  obtain ⟨sl, hL⟩ := u.any ho I.free fun z => (hch _ z).2.1 rfl
  exact I.step (ch := ch) hch (fun b o hL hb hc e n => u.keep b o e n (fun z => (List.mem_cons.mp (I.stkSub b z)).elim hL hb) hc) (fun b o _ _ hc e n => u.any e n hc) (fun b o hc e n => u.free b o e n hc) (fun b o hc e => u.there b o e hc) u.tups u.frzs u.tbls (fun m' hm => by
    obtain ⟨o', es', ep', ho', r'⟩ := hm
    rw [ho] at ho'; cases ho'
    exact ⟨_, es', ep', hL, r'⟩) hok hg
/-- an untracked record of ours (an iterator) has turned -/
theorem Inv.turned {t' : Nat} {it : Addr} (I : Inv X pins σ H s) (k : ∀ b o, b ≠ it → s.heap.get? b = some o → h'.get? b = some o) (hn : H it = none) (hL : it ≠ X.env.locals)
    (h1 : it ∈ X.ex ∨ X.s₀.heap.objs.size ≤ it) (h2 : ∀ x c, X.env.cells.lookup x = some c → c ≠ it) (h3 : ∀ p ∈ X.pn ++ pins, p.1 ≠ it) : Inv X pins σ H { s with heap := h', toks := t' } := by
  have nit : ∀ b u, H b = some u → b ≠ it := fun b u e z => by rw [z, hn] at e; cases e
  refine I.step (g' := s.gens) (d' := s.drawn) (ch := [it]) (fun b hb => ?_) (fun b o _ _ hc e _ => k b o (fun z => hc (by simp [z])) e) (fun b o _ _ hc e _ => ⟨o.slots, k b o (fun z => hc (by simp [z])) e⟩) (fun _ _ _ _ n => n)
    (fun b o hc e => ⟨o, k b o (fun z => hc (by simp [z])) e⟩) (fun _ _ e => e) (fun _ _ _ e => e) (fun b ps e => ⟨#[], by rw [e]; simp⟩) (fun m hm => ?_) (fun b u e => ?_) I.bare
  · have e : b = it := by simpa using hb
    subst e
    exact ⟨h1, hL, h2, h3⟩
  · obtain ⟨o, es, ep, ho, r⟩ := hm
    exact ⟨o, es, ep, k _ o (Ne.symm hL) ho, r⟩
  · refine (I.hok b u e).stay (fun c v hc q => k c v ?_ q) (fun _ q => q) fun _ _ q => q
    rcases hc with z | z
    · rw [z]; exact nit b u e
    · exact nit c _ z
theorem Inv.tok (I : Inv X pins σ H s) (t : Nat) : Inv X pins σ H { s with toks := t } := I.un (h' := s.heap) (t' := t) Un.refl I.hok
/-- all objects kept -/
theorem Inv.kept {t' : Nat} (I : Inv X pins σ H s) (k : ∀ b u, s.heap.get? b = some u → h'.get? b = some u) : Inv X pins σ H { s with heap := h', toks := t' } := I.un (Un.kept k) (I.hok.kept k)
/-- a new object laid and tracked -/
theorem Inv.laid {a : Addr} {o : HO} {t' : Nat} (I : Inv X pins σ H s) (k : ∀ b u, s.heap.get? b = some u → h'.get? b = some u) (hp : s.heap.objs.size ≤ a) (new : ObjOk X.prog X.w (upd H a o) h' a o) :
    Inv X pins σ (upd H a o) { s with heap := h', toks := t' } := I.un (Un.laid k hp (I.hok.fresh hp)) (I.hok.laid k hp new)
/-- an object written -/
theorem Inv.write {x e : Addr} {o : HO} {t' : Nat} (I : Inv X pins σ H s) (mu : Mut (H x)) (he : e = x ∨ H e = some (.own x)) (k : ∀ b u, b ≠ e → s.heap.get? b = some u → h'.get? b = some u) (heo : ∃ u, h'.get? e = some u)
    (new : ObjOk X.prog X.w (upd H x o) h' x o) : Inv X pins σ (upd H x o) { s with heap := h', toks := t' } := I.un (Un.write mu he k heo) (I.hok.write mu he k heo new)
theorem Inv.pins_of {pins' : List (Addr × Obj)} (I : Inv X pins σ H s) (h : ∀ p ∈ pins', s.heap.get? p.1 = some p.2 ∧ H p.1 = none ∧ p.1 ≠ X.env.locals ∧ p.1 ∉ X.fs ∧ ∀ v, p.2.data ≠ .cell v) : Inv X pins' σ H s :=
  ⟨I.ok, I.os, I.bare, I.base, I.loc, I.cell, I.free, I.freeC, fun p hp => (List.mem_append.mp hp).elim (fun z => I.pin p (List.mem_append_left _ z)) (h p), I.hok, I.len⟩

theorem nodup_ix {N : List Str} (hN : N.Nodup) {i j : Nat} {x : Str} (a : N[i]? = some x) (b : N[j]? = some x) : i = j := by
  obtain ⟨h1, e1⟩ := List.getElem?_eq_some_iff.mp a
  obtain ⟨h2, e2⟩ := List.getElem?_eq_some_iff.mp b
  exact (List.getElem_inj hN).mp (e1.trans e2.symm)

/-- a name is stored; what changed -/
theorem store_ok2 {M : Model} {A : Around} {E : Value → Shared → Prop} {i : Nat} {x : Str} {v : V} {u : Value} {Q : Unit → Shared → Prop} (I : Inv X pins σ H s) (hN : X.N.Nodup) (hi : X.N[i]? = some x) (hx : Loc X.env.scope x) (r : RelV v u)
    (h : ∀ s', Inv X pins (σ.set i (some v)) H s' → (∃ a, Heap.SameBut a s.heap s'.heap ∧ (a = X.env.locals ∨ X.env.cells.lookup x = some a)) → Q () s') (hf : X.fn x = true ∨ X.env.scope.names.lookup x = some .local := by first | exact .inl rfl | exact .inr rfl | assumption) : wpAny M A (storeName X.env x u) Q E s := by
  obtain ⟨m, hn, hl⟩ := id I.loc
  have hcls : (X.env.scope.kind == .class || (X.env.scope.kind == .module && X.env.locals != X.env.globals)) = false := by rw [I.ok.kind]; rfl
  have hiσ : i < σ.length := by rw [I.len]; exact (List.getElem?_eq_some_iff.mp hi).1
  have cne := I.cne
  have tracked : ∀ {a : Addr} {h' : Heap}, (∃ o, s.heap.get? a = some o ∧ H a = none) → Heap.SameBut a s.heap h' → HOk X.prog X.w H h' := fun {a h'} ha hs b ob e => by
    obtain ⟨_, _, hfree⟩ := ha
    refine (I.hok b ob e).stay (fun c w' hc q => (hs.2 c ?_).trans q) (fun _ q => q) fun _ _ q => q
    rintro rfl
    rcases hc with rfl | hc
    · rw [hfree] at e; cases e
    · rw [hfree] at hc; cases hc
  rcases hx with hk | hk
  · refine wpAny_storeName_local hk hn (fun h' hn' hs => ?_) hcls
    obtain ⟨oL, _, _, hoL, _⟩ := id hn
    refine h _ ⟨I.ok, I.os, I.bare, ⟨fun b o e n hb hx => ?_, fun b o e n hb hx => ?_, I.base.free, fun b o e hx => ?_, I.base.tups, I.base.frzs, I.base.tbls⟩, ⟨_, hn', fun j y v' e1 e2 e3 => ?_⟩, fun y c e => ?_, I.free, I.freeC, fun p hp => ?_, tracked ⟨oL, hoL, I.free⟩ hs, by simpa using I.len⟩ ⟨_, hs, .inl rfl⟩
    · exact (hs.2 b (Nat.ne_of_lt (Nat.lt_of_lt_of_le (Heap.lt_size e) I.ok.above))).trans (I.base.keep b o e n hb hx)
    · obtain ⟨sl, e1⟩ := I.base.slot b o e n hb hx
      exact ⟨sl, (hs.2 b (Nat.ne_of_lt (Nat.lt_of_lt_of_le (Heap.lt_size e) I.ok.above))).trans e1⟩
    · obtain ⟨o', e1⟩ := I.base.there b o e hx
      exact ⟨o', (hs.2 b (Nat.ne_of_lt (Nat.lt_of_lt_of_le (Heap.lt_size e) I.ok.above))).trans e1⟩
    · by_cases hj : j = i
      · subst hj
        rw [hi] at e1; cases e1
        rw [List.getElem?_set_self hiσ] at e2
        cases e2
        exact ⟨u, r, .inl ⟨hk, by simp⟩⟩
      · rw [List.getElem?_set_ne (Ne.symm hj)] at e2
        obtain ⟨u', r', q⟩ := hl j y v' e1 e2 e3
        refine ⟨u', r', ?_⟩
        rcases q with ⟨k, e⟩ | ⟨k, c, e, z⟩
        · refine .inl ⟨k, ?_⟩
          have : y ≠ x := fun e => hj (nodup_ix hN e1 (e ▸ hi))
          simp [this, e]
        · exact .inr ⟨k, c, e, z.sameBut hs (cne y c e)⟩
    · obtain ⟨w', z⟩ := I.cell y c e
      exact ⟨w', z.sameBut hs (cne y c e)⟩
    · obtain ⟨e, n, ne, nf, d⟩ := I.pin p hp
      exact ⟨(hs.2 p.1 ne).trans e, n, ne, nf, d⟩
  · have hfn : X.fn x = true := by
      rcases hf with z | z
      · exact z
      · rw [z] at hk; cases hk
    obtain ⟨c, hc⟩ := I.ok.has x (.inl hk)
    obtain ⟨w', z⟩ := I.cell x c hc
    refine wpAny_storeName_cell I.ok.kind hk hc z (fun h' hc' hs => ?_)
    obtain ⟨oc, hoc, hocd⟩ := id z
    refine h { s with heap := h' } ⟨I.ok, I.os, I.bare, ⟨fun b o e n hb hx => ?_, fun b o e n hb hx => ?_, I.base.free, fun b o e hx => ?_, I.base.tups, I.base.frzs, I.base.tbls⟩, ⟨m, hn.sameBut hs (Ne.symm (cne x c hc)), fun j y v' e1 e2 e3 => ?_⟩, fun y c' e => ?_, I.free, I.freeC, fun p hp => ?_, tracked ⟨oc, hoc, I.freeC x c hc⟩ hs, by simpa using I.len⟩ ⟨c, hs, .inr hc⟩
    · exact (hs.2 b (Nat.ne_of_lt (Nat.lt_of_lt_of_le (Heap.lt_size e) (I.ok.cab x c hfn hc)))).trans (I.base.keep b o e n hb hx)
    · obtain ⟨sl, e1⟩ := I.base.slot b o e n hb hx
      exact ⟨sl, (hs.2 b (Nat.ne_of_lt (Nat.lt_of_lt_of_le (Heap.lt_size e) (I.ok.cab x c hfn hc)))).trans e1⟩
    · obtain ⟨o', e1⟩ := I.base.there b o e hx
      exact ⟨o', (hs.2 b (Nat.ne_of_lt (Nat.lt_of_lt_of_le (Heap.lt_size e) (I.ok.cab x c hfn hc)))).trans e1⟩
    · by_cases hj : j = i
      · subst hj
        rw [hi] at e1; cases e1
        rw [List.getElem?_set_self hiσ] at e2
        cases e2
        exact ⟨u, r, .inr ⟨.inl hk, c, hc, hc'⟩⟩
      · rw [List.getElem?_set_ne (Ne.symm hj)] at e2
        obtain ⟨u', r', q⟩ := hl j y v' e1 e2 e3
        refine ⟨u', r', ?_⟩
        rcases q with q | ⟨k, c', e, z'⟩
        · exact .inl q
        · refine .inr ⟨k, c', e, z'.sameBut hs ?_⟩
          rintro rfl
          exact hj (nodup_ix hN e1 (I.ok.inj _ _ _ e hc ▸ hi))
    · by_cases hcc : c' = c
      · subst hcc; exact ⟨_, hc'⟩
      · obtain ⟨w2, z2⟩ := I.cell y c' e
        exact ⟨w2, z2.sameBut hs hcc⟩
    · obtain ⟨e, n, ne, nf, d⟩ := I.pin p hp
      refine ⟨(hs.2 p.1 ?_).trans e, n, ne, nf, d⟩
      intro q
      rw [q, hoc] at e
      have q' : oc = p.2 := Option.some.inj e
      exact d w' (by rw [← q']; exact hocd)
theorem store_ok {M : Model} {A : Around} {E : Value → Shared → Prop} {i : Nat} {x : Str} {v : V} {u : Value} {Q : Unit → Shared → Prop} (I : Inv X pins σ H s) (hN : X.N.Nodup) (hi : X.N[i]? = some x) (hx : Loc X.env.scope x) (r : RelV v u)
    (h : ∀ s', Inv X pins (σ.set i (some v)) H s' → Q () s') (hf : X.fn x = true ∨ X.env.scope.names.lookup x = some .local := by first | exact .inl rfl | exact .inr rfl | assumption) : wpAny M A (storeName X.env x u) Q E s :=
  store_ok2 I hN hi hx r (fun s' I' _ => h s' I') hf
/-- behind a call or a block, the state as it is -/
theorem Inv.call' {s' : Shared} {ch : List Addr} (I : Inv X pins σ H s) (ho : s'.os = s.os) (u : Un (frs X.stack) ch H H' s.heap s'.heap) (hok : HOk X.prog X.w H' s'.heap) (hg : AllBare s'.gens)
    (hch : ∀ b ∈ ch, (b ∈ X.ex ∨ X.s₀.heap.objs.size ≤ b) ∧ b ≠ X.env.locals ∧ (∀ x c, X.env.cells.lookup x = some c → c ≠ b) ∧ ∀ p ∈ X.pn ++ pins, p.1 ≠ b) : Inv X pins σ H' s' := by
  obtain ⟨h', g', d', t', o'⟩ := s'
  have e : o' = s.os := ho
  subst e
  exact I.call (g' := g') (t' := t') (d' := d') u hok hg hch
end

/-! ### the judgements -/
/-- an exception: its class, its own dict's address (where it has one), the abstract heap behind it -/
noncomputable abbrev XK := Value → Option Addr → Hp → Prop
noncomputable abbrev St := List (Option V)
noncomputable abbrev VK := V → Hp → Prop
/-- an expression's reading; a test's; an argument list's -/
noncomputable abbrev TE := St → Hp → VK → Prop
noncomputable abbrev TT := St → Hp → (Bool → Hp → Prop) → Prop
noncomputable abbrev TA := St → Hp → (List V → Hp → Prop) → Prop
/-- what is wanted behind a statement -/
structure Ends where
  nx : St → Hp → Prop
  rt : VK
  bk : St → Hp → Prop := fun _ _ => False
  ct : St → Hp → Prop := fun _ _ => False
noncomputable abbrev TS := Ends → St → Hp → Prop

noncomputable def EP (X : Cx) (pins : List (Addr × Obj)) (σ : St) (Q : VK) (u : Value) (s' : Shared) : Prop := ∃ v H', Inv X pins σ H' s' ∧ RelV v u ∧ Q v H'
noncomputable def TP (X : Cx) (pins : List (Addr × Obj)) (σ : St) (Q : Bool → Hp → Prop) (b : Bool) (s' : Shared) : Prop := ∃ H', Inv X pins σ H' s' ∧ Q b H'
noncomputable def AP (X : Cx) (pins : List (Addr × Obj)) (σ : St) (Q : List V → Hp → Prop) (us : List Value) (s' : Shared) : Prop := ∃ vs H', Inv X pins σ H' s' ∧ Vals vs us ∧ Q vs H'
noncomputable def SP (X : Cx) (pins : List (Addr × Obj)) (D : Ends) (f : Flow) (s' : Shared) : Prop :=
  match f with
  | .next => ∃ σ' H', Inv X pins σ' H' s' ∧ D.nx σ' H'
  | .brk => ∃ σ' H', Inv X pins σ' H' s' ∧ D.bk σ' H'
  | .cont => ∃ σ' H', Inv X pins σ' H' s' ∧ D.ct σ' H'
  | .ret u => ∃ v σ' H', Inv X pins σ' H' s' ∧ RelV v u ∧ D.rt v H'

noncomputable def PE (X : Cx) (e : Expr) (t : TE) : Prop :=
  ∀ (pins : List (Addr × Obj)) (s : Shared) (σ : St) (H : Hp) (Q : VK), Inv X pins σ H s → t σ H Q → wpAny (model X.prog X.w) X.A (eval e X.env) (EP X pins σ Q) X.xe s
noncomputable def PT (X : Cx) (e : Expr) (t : TT) : Prop :=
  ∀ (pins : List (Addr × Obj)) (s : Shared) (σ : St) (H : Hp) (Q : Bool → Hp → Prop), Inv X pins σ H s → t σ H Q → wpAny (model X.prog X.w) X.A (isTrue e X.env (eval e X.env)) (TP X pins σ Q) X.xe s
/-- a test whatever its 'whole' is (and, or) -/
noncomputable def PW (X : Cx) (e : Expr) (t : TT) : Prop :=
  ∀ (whole : Sem Value) (pins : List (Addr × Obj)) (s : Shared) (σ : St) (H : Hp) (Q : Bool → Hp → Prop), Inv X pins σ H s → t σ H Q → wpAny (model X.prog X.w) X.A (isTrue e X.env whole) (TP X pins σ Q) X.xe s
theorem PW.pt {X : Cx} {e : Expr} {t : TT} (h : PW X e t) : PT X e t := h _
/-- an argument list (no star), from the left -/
noncomputable def PA (X : Cx) (es : List Expr) (t : TA) : Prop :=
  ∀ (pos : Pos) (pins : List (Addr × Obj)) (s : Shared) (σ : St) (H : Hp) (Q : List V → Hp → Prop), Inv X pins σ H s → t σ H Q → wpAny (model X.prog X.w) X.A (spliced (backTo pos (starEach es X.env))) (AP X pins σ Q) X.xe s
noncomputable def PS (X : Cx) (st : Stmt) (t : TS) : Prop :=
  ∀ (pins : List (Addr × Obj)) (s : Shared) (σ : St) (H : Hp) (D : Ends), Inv X pins σ H s → t D σ H → wpAny (model X.prog X.w) X.A (exec st X.env) (SP X pins D) X.xe s
noncomputable def PSs (X : Cx) (st : List Stmt) (t : TS) : Prop :=
  ∀ (pins : List (Addr × Obj)) (s : Shared) (σ : St) (H : Hp) (D : Ends), Inv X pins σ H s → t D σ H → wpAny (model X.prog X.w) X.A (execs st X.env) (SP X pins D) X.xe s
/-- weaken the end -/
theorem thn {α : Type} {t : Sem α} {Q Q' : α → Shared → Prop} {M : Model} {A : Around} {E : Value → Shared → Prop} {s : Shared} (h : wpAny M A t Q E s) (hQ : ∀ a s, Q a s → Q' a s) : wpAny M A t Q' E s := wpAny_mono h hQ fun _ _ x => x
end L2

namespace L2
open PySem PySem.Spec PyProof.Rows
section
variable {X : Cx}

/-! ### names and constants -/
noncomputable def tVar (i : Nat) : TE := fun σ H Q => ∃ v, σ[i]? = some (some v) ∧ Q v H
noncomputable def tC (v : V) : TE := fun _ H Q => Q v H
theorem pe_var {i : Nat} {x : Str} {pos : Pos} (hN : X.N[i]? = some x) (hv : Vis X.env.scope x) (hd : (x == ("__debug__" : Str)) = false := by decide) (hcd : (x == ("__classdict__" : Str)) = false := by decide) : PE X (.Name x pos) (tVar i) := by
  intro pins s σ H Q I h
  obtain ⟨v, e, h⟩ := h
  obtain ⟨m, hn, hl⟩ := I.loc
  obtain ⟨u, r, l⟩ := hl i x v hN e hv
  have fin : EP X pins σ Q u s := ⟨v, H, I, r, h⟩
  rcases l with ⟨hk, hm⟩ | ⟨hk, c, hc, hcell⟩
  · exact wpAny_Name (wpAny_loadName_local I.ok.kind hk hn hm fin) hd
  · rcases hk with hk | hk
    · exact wpAny_Name (wpAny_loadName_cell I.ok.kind hk hc hcell fin) hd
    · exact wpAny_Name (wpAny_loadName_free I.ok.kind hk hc hcell fin hcd) hd
theorem pe_int {i j pos} : PE X (.Constant (.int i) j pos) (tC (.int i)) := fun _ _ _ H _ I h => wpAny_Constant_int ⟨.int i, H, I.tok _, ⟨_, rfl⟩, h⟩
theorem pe_bl {b j pos} : PE X (.Constant (.bool b) j pos) (tC (.bl b)) := fun _ _ _ H _ I h => Constant_bool ⟨.bl b, H, I, rfl, h⟩
theorem pe_non {j pos} : PE X (.Constant .none j pos) (tC .non) := fun _ _ _ H _ I h => Constant_none ⟨.non, H, I, rfl, h⟩
theorem pe_str {x j pos} : PE X (.Constant (.str x) j pos) (tC (.str x)) := fun _ _ _ H _ I h => Calls.Constant_str ⟨.str x, H, I.tok _, ⟨_, rfl⟩, h⟩

/-- a global name of the def -/
noncomputable def Gl (X : Cx) (x : Str) : Prop := X.env.kindOf x = some .globalImplicit
theorem ld_glob {E : Value → Shared → Prop} {pins : List (Addr × Obj)} {s : Shared} {σ : St} {H : Hp} {x : Str} {u : Value} {pos : Pos} {Q : Value → Shared → Prop} (I : Inv X pins σ H s) (hg : Gl X x) (hm : X.mg x = some u) (h : Q u s)
    (hd : (x == ("__debug__" : Str)) = false := by decide) : wpAny (model X.prog X.w) X.A (eval (.Name x pos) X.env) Q E s :=
  Calls.Name_function_global I.ok.kind hg (Calls.loadGlobal_global (by rw [I.ok.glob]; exact I.mod.glob.keeps I.bk) hm h) hd
theorem ld_blt {E : Value → Shared → Prop} {pins : List (Addr × Obj)} {s : Shared} {σ : St} {H : Hp} {x : Str} {u : Value} {pos : Pos} {Q : Value → Shared → Prop} (I : Inv X pins σ H s) (hg : Gl X x) (hm : X.mg x = none) (hv : bootBuiltins x = some u) (h : Q u s)
    (hn : x ≠ "__name__" := by decide) (hd : (x == ("__debug__" : Str)) = false := by decide) : wpAny (model X.prog X.w) X.A (eval (.Name x pos) X.env) Q E s := by
  obtain ⟨mb, h1, h2⟩ := I.mod.blt
  exact Calls.Name_function_global I.ok.kind hg (Calls.loadGlobal_builtin (by rw [I.ok.glob]; exact I.mod.glob.keeps I.bk) hm (by rw [I.ok.blt]; exact h1.keeps I.bk) ((h2 x hn).trans hv) h) hd
theorem pe_bltn {x : Str} {v : V} {u : Value} {pos : Pos} (hg : Gl X x) (hm : X.mg x = none) (hv : bootBuiltins x = some u) (r : RelV v u) (hn : x ≠ "__name__" := by decide) (hd : (x == ("__debug__" : Str)) = false := by decide) : PE X (.Name x pos) (tC v) :=
  fun _ _ _ H _ I h => ld_blt I hg hm hv ⟨v, H, I, r, h⟩ hn hd

/-! ### arithmetic -/
variable {a b : Expr} {ta tb : TE} {pos : Pos}

/-! ### comparisons -/
noncomputable def PC (X : Cx) (op : CmpOp) (a b : Expr) (t : TE) : Prop :=
  ∀ (pins : List (Addr × Obj)) (s : Shared) (σ : St) (H : Hp) (Q : VK), Inv X pins σ H s → t σ H Q →
    wpAny (model X.prog X.w) X.A (eval a X.env) (fun v s₁ => wpAny (model X.prog X.w) X.A (eval b X.env) (fun u s₂ => wpAny (model X.prog X.w) X.A (compareOp op v u) (EP X pins σ Q) X.xe s₂) X.xe s₁) X.xe s
/-- a comparison as a value, as a test -/
noncomputable def tB (t : TE) : TT := fun σ H Q => t σ H fun x H1 => ∃ c, x = .bl c ∧ Q c H1
theorem pt_cmp {op : CmpOp} {t : TE} (h : PC X op a b t) (h1 : behindInMarks op b = false := by first | exact nobehind _ (by decide) (by decide) | rfl) : PT X (.Compare a [op] [b] pos) (tB t) := by
  intro pins s σ H Q I hw
  refine wpAny_isTrue_Compare1 (thn (h pins s σ H _ I hw) fun v s1 h1 => thn h1 fun u s2 h2 => thn h2 fun c s3 ⟨x, H1, I1, r1, q1⟩ => ?_) h1
  obtain ⟨d, rfl, q⟩ := q1
  cases r1
  exact wpAny_truthy_bool ⟨H1, I1, q⟩
/-- an expression whose value is a bool, as a test -/
theorem pt_val {e : Expr} {t : TE} (h : PE X e t) (he : ∀ whole, isTrue e X.env whole = (do let v ← whole; standAt e.pos; holding [v] (truthy v)) := by intro _; rfl) : PT X e (tB t) := by
  intro pins s σ H Q I hw
  refine isTrue_plain (thn (h pins s σ H _ I hw) fun v s1 ⟨x, H1, I1, r1, q1⟩ => ?_) (he _)
  obtain ⟨d, rfl, q⟩ := q1
  cases r1
  exact wpAny_truthy_bool ⟨H1, I1, q⟩

/-! ### and, or, not -/
variable {tA tB' : TT} {rest : List Expr}
noncomputable def tAnd (t u : TT) : TT := fun σ H Q => t σ H fun c H1 => if c = true then u σ H1 Q else Q false H1
noncomputable def tOr (t u : TT) : TT := fun σ H Q => t σ H fun c H1 => if c = true then Q true H1 else u σ H1 Q
noncomputable def tNot (t : TT) : TT := fun σ H Q => t σ H fun c H1 => Q (!c) H1
theorem pw_and1 (ha : PT X a tA) : PW X (.BoolOp .And [a] pos) tA := by
  intro wh pins s σ H Q I h
  refine isTrue_and (thn (ha pins s σ H Q I h) fun c s1 e => ?_)
  cases c with
  | true => exact isTrue_and_nil e
  | false => exact e
theorem pw_or1 (ha : PT X a tA) : PW X (.BoolOp .Or [a] pos) tA := by
  intro wh pins s σ H Q I h
  refine isTrue_or (thn (ha pins s σ H Q I h) fun c s1 e => ?_)
  cases c with
  | false => exact isTrue_or_nil e
  | true => exact e
theorem pw_and (ha : PT X a tA) (hb : PW X (.BoolOp .And (b :: rest) pos) tB') : PW X (.BoolOp .And (a :: b :: rest) pos) (tAnd tA tB') := by
  intro wh pins s σ H Q I h
  refine isTrue_and (thn (ha pins s σ H _ I h) fun c s1 ⟨H1, I1, q1⟩ => ?_)
  cases c with
  | true => exact hb wh pins s1 σ H1 Q I1 q1
  | false => exact ⟨H1, I1, q1⟩
theorem pw_or (ha : PT X a tA) (hb : PW X (.BoolOp .Or (b :: rest) pos) tB') : PW X (.BoolOp .Or (a :: b :: rest) pos) (tOr tA tB') := by
  intro wh pins s σ H Q I h
  refine isTrue_or (thn (ha pins s σ H _ I h) fun c s1 ⟨H1, I1, q1⟩ => ?_)
  cases c with
  | true => exact ⟨H1, I1, q1⟩
  | false => exact hb wh pins s1 σ H1 Q I1 q1
theorem pt_not (ha : PT X a tA) : PT X (.UnaryOp .Not a pos) (tNot tA) := by
  intro pins s σ H Q I h
  exact isTrue_not (ha pins s σ H (fun c H1 => Q (!c) H1) I h)
/-- .. as values (bools) -/
noncomputable def tAndV (ta tb : TE) : TE := fun σ H Q => ta σ H fun x H1 => ∃ c, x = .bl c ∧ if c = true then tb σ H1 Q else Q (.bl false) H1
noncomputable def tNotV (ta : TE) : TE := fun σ H Q => ta σ H fun x H1 => ∃ c, x = .bl c ∧ Q (.bl (!c)) H1
theorem pe_one {op} {t : TE} (h : PE X a t) : PE X (.BoolOp op [a] pos) t := fun pins s σ H Q I hw => BoolOp_one (h pins s σ H Q I hw)
theorem pe_and (ha : PE X a ta) (hb : PE X (.BoolOp .And (b :: rest) pos) tb) : PE X (.BoolOp .And (a :: b :: rest) pos) (tAndV ta tb) := by
  intro pins s σ H Q I h
  refine BoolOp_and (thn (ha pins s σ H _ I h) fun v s1 ⟨x, H1, I1, r1, q1⟩ => ?_)
  obtain ⟨c, rfl, q1⟩ := q1
  cases r1
  refine wpAny_truthy_bool ?_
  cases c with
  | true => exact hb pins s1 σ H1 Q I1 q1
  | false => exact ⟨.bl false, H1, I1, rfl, q1⟩
theorem pe_not (ha : PE X a ta) : PE X (.UnaryOp .Not a pos) (tNotV ta) := by
  intro pins s σ H Q I h
  refine UnaryOp_ (thn (ha pins s σ H _ I h) fun v s1 ⟨x, H1, I1, r1, q1⟩ => ?_)
  obtain ⟨c, rfl, q1⟩ := q1
  cases r1
  exact not_of (wpAny_truthy_bool ⟨.bl (!c), H1, I1, rfl, q1⟩)
end
end L2

namespace L2
open PySem PySem.Spec PyProof.Rows

/-! ### a list, a tuple that is read: tracked, frozen, or an object of the module -/
noncomputable def SqL (K : PySem.W.Frag) (H : Hp) (a : Addr) (xs : List V) : Prop :=
  Rd H a (.lst xs) ∨
    ∃ (o : Obj) (its : Array Value) (n : Nat), K.lookup a = some o ∧ o.cls = .type "list" ∧ o.dict = none ∧ o.data = .seq its n ∧ its.size ≤ sizeLine ∧ Vals xs its.toList
noncomputable def SqT (K : PySem.W.Frag) (H : Hp) (a : Addr) (xs : List V) : Prop :=
  Rd H a (.tup xs) ∨
    ∃ (o : Obj) (its : Array Value) (n : Nat), K.lookup a = some o ∧ o.cls = .type "tuple" ∧ o.data = .seq its n ∧ its.size ≤ sizeLine ∧ Vals xs its.toList
noncomputable def absV : Value → Option V
  | .none => some .non
  | .bool b => some (.bl b)
  | .int i _ => some (.int i)
  | .str x _ => some (.str x)
  | .bytes b _ => some (.byt b)
  | .float b _ => some (.flt b)
  | .ref a => some (.ref a)
  | .type n => some (.ty n)
  | _ => none
theorem RelV.abs {x : V} {u : Value} (r : RelV x u) : absV u = some x := by
  cases x with
  | non => cases r; rfl
  | bl _ => cases r; rfl
  | int _ => obtain ⟨t, rfl⟩ := r; rfl
  | str _ => obtain ⟨t, rfl⟩ := r; rfl
  | byt _ => obtain ⟨t, rfl⟩ := r; rfl
  | flt _ => obtain ⟨t, rfl⟩ := r; rfl
  | ref _ => cases r; rfl
  | ty _ => cases r; rfl
theorem RelV.inj {x y : V} {u : Value} (r : RelV x u) (q : RelV y u) : x = y := Option.some.inj (r.abs.symm.trans q.abs)
theorem Vals.inj : ∀ {xs ys : List V} {us : List Value}, Vals xs us → Vals ys us → xs = ys
  | _, _, _, .nil, .nil => rfl
  | _, _, _, .cons r t, .cons r' t' => by rw [r.inj r', Vals.inj t t']
section
variable {X : Cx} {pins : List (Addr × Obj)} {σ : St} {H : Hp} {s : Shared} {a : Addr} {xs ys : List V}
theorem SqL.of {K : PySem.W.Frag} (h : H a = some (.lst xs)) : SqL K H a xs := .inl (.inl h)
theorem SqT.of {K : PySem.W.Frag} (h : H a = some (.tup xs)) : SqT K H a xs := .inl (.inl h)
theorem Inv.list (I : Inv X pins σ H s) (h : SqL X.K H a xs) : ∃ its : List Value, Vals xs its ∧ PlainL s.heap a its.toArray ∧ xs.length ≤ sizeLine := by
  rcases h with h | ⟨o, its, n, hk, hc, hd, hs, hz, r⟩
  · obtain ⟨z, its, n, r, e⟩ := h.ok I.hok
    exact ⟨its, r, ⟨_, n, e, rfl, rfl, rfl⟩, z⟩
  · refine ⟨its.toList, r, ⟨o, n, I.kIn a o hk, hc, hd, by simpa using hs⟩, ?_⟩
    have e := r.length
    simp only [Array.length_toList] at e
    omega
theorem Inv.tuple (I : Inv X pins σ H s) (h : SqT X.K H a xs) : ∃ its : List Value, Vals xs its ∧ IsTup s.heap a its.toArray ∧ xs.length ≤ sizeLine := by
  rcases h with h | ⟨o, its, n, hk, hc, hs, hz, r⟩
  · obtain ⟨z, its, r, p⟩ := h.ok I.hok
    exact ⟨its, r, p, z⟩
  · refine ⟨its.toList, r, ⟨o, I.kIn a o hk, hc, n, by simpa using hs⟩, ?_⟩
    have e := r.length
    simp only [Array.length_toList] at e
    omega
theorem Inv.list_inj (I : Inv X pins σ H s) (h : SqL X.K H a xs) (h' : SqL X.K H a ys) : xs = ys := by
  obtain ⟨its, r, ⟨o, n, e, _, _, d⟩, _⟩ := I.list h
  obtain ⟨its', r', ⟨o', n', e', _, _, d'⟩, _⟩ := I.list h'
  rw [e] at e'; cases e'
  rw [d] at d'
  injection d' with d1 _
  have : its = its' := by simpa using congrArg Array.toList d1
  subst this
  exact r.inj r'
theorem Inv.tuple_inj (I : Inv X pins σ H s) (h : SqT X.K H a xs) (h' : SqT X.K H a ys) : xs = ys := by
  obtain ⟨its, r, ⟨o, e, _, n, d⟩, _⟩ := I.tuple h
  obtain ⟨its', r', ⟨o', e', _, n', d'⟩, _⟩ := I.tuple h'
  rw [e] at e'; cases e'
  rw [d] at d'
  injection d' with d1 _
  have : its = its' := by simpa using congrArg Array.toList d1
  subst this
  exact r.inj r'
end

/-! ### another wish about exceptions -/
noncomputable abbrev Cx.wish (X : Cx) (E : Value → Shared → Prop) : Cx := { X with xe := E }
/-- no exception leaves -/
noncomputable abbrev Cx.nox (X : Cx) : Cx := X.wish fun _ _ => False
theorem Cx.Ok.wish {X : Cx} (ok : X.Ok) (E : Value → Shared → Prop) : (X.wish E).Ok :=
  ⟨ok.mod, ok.kind, ok.glob, ok.blt, ok.above, ok.inj, ok.has, ok.cab, ok.hd, ok.frames, ok.stk, ok.exf, ok.bs, ok.bsz, ok.noex, ok.exfs, ok.funs, ok.frf⟩
theorem Cx.Ok.unwish {X : Cx} {E : Value → Shared → Prop} (ok : (X.wish E).Ok) : X.Ok :=
  ⟨ok.mod, ok.kind, ok.glob, ok.blt, ok.above, ok.inj, ok.has, ok.cab, ok.hd, ok.frames, ok.stk, ok.exf, ok.bs, ok.bsz, ok.noex, ok.exfs, ok.funs, ok.frf⟩
section
variable {X : Cx} {pins : List (Addr × Obj)} {σ : St} {H : Hp} {s : Shared} {E : Value → Shared → Prop}
theorem Inv.wish (I : Inv X pins σ H s) (E : Value → Shared → Prop) : Inv (X.wish E) pins σ H s := ⟨I.ok.wish E, I.os, I.bare, I.base, I.loc, I.cell, I.free, I.freeC, I.pin, I.hok, I.len⟩
theorem Inv.unwish (I : Inv (X.wish E) pins σ H s) : Inv X pins σ H s := ⟨I.ok.unwish, I.os, I.bare, I.base, I.loc, I.cell, I.free, I.freeC, I.pin, I.hok, I.len⟩
theorem SP.unwish {D : Ends} {f : Flow} {s' : Shared} (h : SP (X.wish E) pins D f s') : SP X pins D f s' := by
  cases f with
  | next => obtain ⟨σ', H', I, q⟩ := h; exact ⟨σ', H', I.unwish, q⟩
  | brk => obtain ⟨σ', H', I, q⟩ := h; exact ⟨σ', H', I.unwish, q⟩
  | cont => obtain ⟨σ', H', I, q⟩ := h; exact ⟨σ', H', I.unwish, q⟩
  | ret u => obtain ⟨v, σ', H', I, r, q⟩ := h; exact ⟨v, σ', H', I.unwish, r, q⟩
theorem PSs.nox {st : List Stmt} {t : TS} (h : PSs X.nox st t) : PSs X st t := fun pins s σ H D I hw =>
  wpAny_mono (h pins s σ H D (I.wish _) hw) (fun _ _ q => q.unwish) fun _ _ z => False.elim z
end

/-! ### blocks and small statements -/
section
variable {X : Cx} {st : Stmt} {rest : List Stmt} {t u : TS} {e : Expr} {te : TE} {pos : Pos}
noncomputable def tNext : TS := fun D σ H => D.nx σ H
noncomputable def tSeq (t u : TS) : TS := fun D σ H => t { D with nx := u D } σ H
theorem pss_nil : PSs X [] tNext := fun _ _ σ H _ I h => wpAny_execs_nil ⟨σ, H, I, h⟩
theorem pss_cons (h1 : PS X st t) (h2 : PSs X rest u) : PSs X (st :: rest) (tSeq t u) := by
  intro pins s σ H D I h
  refine wpAny_execs_cons (thn (h1 pins s σ H { D with nx := u D } I h) fun f s1 q => ?_)
  cases f with
  | next =>
    obtain ⟨σ', H', I', q⟩ := q
    exact h2 pins s1 σ' H' D I' q
  | ret v => exact q
  | brk => exact q
  | cont => exact q
theorem pss_one (h1 : PS X st t) : PSs X [st] t := by
  intro pins s σ H D I h
  refine wpAny_execs_cons (thn (h1 pins s σ H D I h) fun f s1 q => ?_)
  cases f with
  | next => exact wpAny_execs_nil q
  | ret v => exact q
  | brk => exact q
  | cont => exact q
/-- in a def's body nothing is shown -/
theorem Inv.quiet {pins : List (Addr × Obj)} {σ : St} {H : Hp} {s : Shared} (I : Inv X pins σ H s) : interactive X.env = false := by simp [interactive, I.ok.kind]
/-- an expression whose value is dropped -/
noncomputable def tDrop (te : TE) : TS := fun D σ H => te σ H fun _ H1 => D.nx σ H1
theorem ps_expr (he : PE X e te) (hs : swapsWith e none pos.line X.env = pure false := by rfl) : PS X (.Expr e pos) (tDrop te) := by
  intro pins s σ H D I h
  exact wpAny_Expr_any (thn (he pins s σ H _ I h) fun v s1 ⟨x, H1, I1, r1, q1⟩ => ⟨σ, H1, I1, q1⟩) I.quiet hs
noncomputable def tRet (te : TE) : TS := fun D σ H => te σ H D.rt
theorem ps_ret (he : PE X e te) : PS X (.Return (some e) pos) (tRet te) := by
  intro pins s σ H D I h
  exact wpAny_Return_some (thn (he pins s σ H _ I h) fun v s1 ⟨x, H1, I1, r1, q1⟩ => ⟨x, σ, H1, I1, r1, q1⟩)
noncomputable def tIfS (c : TT) (t u : TS) : TS := fun D σ H => c σ H fun b H1 => if b = true then t D σ H1 else u D σ H1
theorem ps_if {c : Expr} {a b : List Stmt} {tc : TT} (hc : PT X c tc) (ha : PSs X a t) (hb : PSs X b u) : PS X (.If c a b pos) (tIfS tc t u) := by
  intro pins s σ H D I h
  refine wpAny_If (thn (hc pins s σ H _ I h) fun d s1 ⟨H1, I1, q1⟩ => ?_)
  cases d with
  | true => exact ha pins s1 σ H1 D I1 q1
  | false => exact hb pins s1 σ H1 D I1 q1
/-- code that the proof never comes to -/
noncomputable def tNever : TS := fun _ _ _ => False
theorem ps_never : PS X st tNever := fun _ _ _ _ _ _ h => h.elim
end

/-! ### targets -/
noncomputable abbrev TG := V → St → Hp → (St → Hp → Prop) → Prop
noncomputable abbrev TGs := List V → St → Hp → (St → Hp → Prop) → Prop
noncomputable def PG (X : Cx) (target : Expr) (t : TG) : Prop :=
  ∀ (pins : List (Addr × Obj)) (s : Shared) (σ : St) (H : Hp) (v : V) (u : Value) (Q : St → Hp → Prop), Inv X pins σ H s → RelV v u → t v σ H Q →
    wpAny (model X.prog X.w) X.A (assign target X.env u) (fun _ s' => ∃ σ' H', Inv X pins σ' H' s' ∧ Q σ' H') X.xe s
/-- several targets, one after another -/
noncomputable def PGs (X : Cx) (ts : List Expr) (t : TGs) : Prop :=
  ∀ (pins : List (Addr × Obj)) (s : Shared) (σ : St) (H : Hp) (vs : List V) (us : List Value) (Q : St → Hp → Prop), Inv X pins σ H s → Vals vs us → t vs σ H Q →
    wpAny (model X.prog X.w) X.A (assignInOrder ((assignEach ts X.env).map (·.2)) us) (fun _ s' => ∃ σ' H', Inv X pins σ' H' s' ∧ Q σ' H') X.xe s
section
variable {X : Cx} {pos : Pos}
noncomputable def gName (i : Nat) : TG := fun v σ H Q => Q (σ.set i (some v)) H
theorem pg_name {i : Nat} {x : Str} (hN : X.N.Nodup) (hi : X.N[i]? = some x) (hx : Loc X.env.scope x) (hf : X.fn x = true ∨ X.env.scope.names.lookup x = some .local := by first | exact .inl rfl | exact .inr rfl | assumption) : PG X (.Name x pos) (gName i) := by
  intro pins s σ H v u Q I r h
  exact wpAny_assign_Name (store_ok I hN hi hx r (fun s' I' => ⟨_, H, I', h⟩) hf)
noncomputable def gNil : TGs := fun vs σ H Q => vs = [] ∧ Q σ H
noncomputable def gCons (t : TG) (u : TGs) : TGs := fun vs σ H Q => ∃ v r, vs = v :: r ∧ t v σ H fun σ' H' => u r σ' H' Q
theorem pgs_nil : PGs X [] gNil := by
  intro pins s σ H vs us Q I r h
  obtain ⟨e, h⟩ := h
  subst e
  cases r
  exact assignInOrder_nil ⟨σ, H, I, h⟩
theorem pgs_cons {e : Expr} {es : List Expr} {t : TG} {u : TGs} (h1 : PG X e t) (h2 : PGs X es u)
    (hs : (assignEach (e :: es) X.env).map (·.2) = assign e X.env :: (assignEach es X.env).map (·.2) := by rfl) : PGs X (e :: es) (gCons t u) := by
  intro pins s σ H vs us Q I r h
  obtain ⟨v, vr, e1, h⟩ := h
  subst e1
  cases r with
  | cons r rr =>
    rw [hs]
    refine assignInOrder_cons (thn (h1 pins s σ H _ _ _ I r h) fun _ s1 ⟨σ1, H1, I1, q1⟩ => ?_)
    exact h2 pins s1 σ1 H1 _ _ Q I1 rr q1
/-- (a, b, ..) = a tuple of that length -/
noncomputable def gTup (K : PySem.W.Frag) (n : Nat) (t : TGs) : TG := fun v σ H Q => ∃ a xs, v = .ref a ∧ SqT K H a xs ∧ xs.length = n ∧ t xs σ H Q
theorem pg_tup {es : List Expr} {k : Nat} {t : TGs} {n : Nat} (hc : X.calm = true) (h : PGs X es t)
    (hn : (assignEach es X.env).length = n := by rfl) (hst : (assignEach es X.env).findIdx? (·.1) = none := by rfl) : PG X (.Tuple es k pos) (gTup X.K n t) := by
  intro pins s σ H v u Q I r hw
  obtain ⟨a, xs, e1, hq, hl, hw⟩ := hw
  subst e1
  cases r
  obtain ⟨its, rv, ht, hz⟩ := I.tuple hq
  refine assign_Tuple_tuple (I.ok.hd hc) ht (by simp [hn, ← hl, rv.length]) hst fun h' hx => ?_
  have I1 : Inv X pins σ H { s with heap := h' } := I.kept (t' := s.toks) fun b o e => hx b o (Nat.ne_of_lt (Heap.lt_size e)) e
  exact h pins _ σ H xs _ Q I1 (by simpa using rv) hw
/-- target = value -/
noncomputable def tAsg (te : TE) (g : TG) : TS := fun D σ H => te σ H fun x H1 => g x σ H1 D.nx
/-- name = value -/
theorem ps_set {i : Nat} {x : Str} {e : Expr} {te : TE} {pos' : Pos} (hN : X.N.Nodup) (hi : X.N[i]? = some x) (hx : Loc X.env.scope x) (he : PE X e te) (hs : swapsWith e (some (.Name x pos')) pos.line X.env = pure false := by rfl) (hf : X.fn x = true ∨ X.env.scope.names.lookup x = some .local := by first | exact .inl rfl | exact .inr rfl | assumption) :
    PS X (.Assign [.Name x pos'] e pos) (tAsg te (gName i)) := by
  intro pins s σ H D I h
  refine wpAny_Assign_Name (thn (he pins s σ H _ I h) fun v s1 ⟨y, H1, I1, r1, q1⟩ => ?_) hs
  exact store_ok I1 hN hi hx r1 (fun s2 I2 => ⟨_, H1, I2, q1⟩) hf
end

/-! ### while -/
section
variable {X : Cx} {pos : Pos}
end

/-! ### what a loop or a comprehension walks -/
/-- at turn i: it yields x (the heap may grow), or it stops -/
structure It where
  go : Nat → Hp → Prop
  yld : Nat → Hp → V → Hp → Prop
  stop : Nat → Hp → Prop
/-- the iterator's own objects may turn: they are not the frame's, not pinned, younger than the entry (or a comprehension's own) -/
noncomputable def FpOk (X : Cx) (pins : List (Addr × Obj)) (H : Hp) (b : Addr) : Prop :=
  H b = none ∧ b ≠ X.env.locals ∧ b ∉ X.fs ∧ (b ∈ X.ex ∨ X.s₀.heap.objs.size ≤ b) ∧ (∀ x c, X.env.cells.lookup x = some c → c ≠ b) ∧ ∀ p ∈ X.pn ++ pins, p.1 ≠ b
theorem Inv.fpOk {X : Cx} {pins : List (Addr × Obj)} {σ : St} {H H' : Hp} {s : Shared} {b : Addr} (I : Inv X pins σ H s) (hb : s.heap.objs.size ≤ b) (hn : H' b = none) : FpOk X pins H' b := by
  refine ⟨hn, Nat.ne_of_gt (Nat.lt_of_lt_of_le I.lt hb), I.nofs hb, .inr (Nat.le_trans I.sz hb), fun x c e z => ?_, fun p hp z => ?_⟩
  · obtain ⟨v, q⟩ := I.cell x c e
    exact absurd (Nat.lt_of_lt_of_le q.lt (by rw [z]; exact hb)) (Nat.lt_irrefl _)
  · exact absurd (Nat.lt_of_lt_of_le (Heap.lt_size (I.pin p hp).1) (by rw [z]; exact hb)) (Nat.lt_irrefl _)
structure Turn (P : Program) (w : World) (K : PySem.W.Frag) (tg : Expr) (J : It) (fp : List Addr) (it : Addr) (tn : Nat → Heap → Prop) : Prop where
  mem : it ∈ fp
  obj : ∀ i h, tn i h → ∀ b ∈ fp, ∃ o, h.get? b = some o ∧ ∀ v, o.data ≠ .cell v
  keep : ∀ i h h', tn i h → (∀ b ∈ fp, ∀ o, h.get? b = some o → h'.get? b = some o) → tn i h'
  item : ∀ (X : Cx), X.prog = P → X.w = w → X.K = K → X.calm = true → ∀ (i : Nat) (pins : List (Addr × Obj)) (s : Shared) (σ : St) (H : Hp) (E : Value → Shared → Prop), Inv X pins σ H s → (∀ b ∈ fp, FpOk X pins H b) → tn i s.heap → J.go i H →
    wpAny (model P w) X.A (pyNext (.ref it)) (fun r s1 => ∃ u, r = some u ∧
      wpAny (model P w) X.A (letOwnedTupleGo tg (.ref it) u) (fun _ s2 => ∃ x H', Inv X pins σ H' s2 ∧ RelV x u ∧ J.yld i H x H' ∧ tn (i + 1) s2.heap ∧ ∀ b ∈ fp, H' b = none) E s1) E s
  done : ∀ (X : Cx), X.prog = P → X.w = w → X.K = K → X.calm = true → ∀ (i : Nat) (pins : List (Addr × Obj)) (s : Shared) (σ : St) (H : Hp) (E : Value → Shared → Prop), Inv X pins σ H s → (∀ b ∈ fp, FpOk X pins H b) → tn i s.heap → J.stop i H →
    wpAny (model P w) X.A (pyNext (.ref it)) (fun r s1 => r = none ∧ Inv X pins σ H s1) E s
  self : ∀ (A : Around) (i : Nat) (s : Shared) (Q : Value → Shared → Prop) (E : Value → Shared → Prop), tn i s.heap → Q (.ref it) s → wpAny (model P w) A (pyIter (.ref it)) Q E s
noncomputable abbrev TI := St → Hp → (It → Hp → Prop) → Prop
/-- an iterator has come -/
noncomputable def PIE (X : Cx) (pins : List (Addr × Obj)) (σ : St) (tg : Expr) (R : It → Hp → Prop) (itv : Value) (s2 : Shared) : Prop :=
  ∃ (it : Addr) (fp : List Addr) (tn : Nat → Heap → Prop) (J : It) (H' : Hp), itv = .ref it ∧ Inv X pins σ H' s2 ∧ Turn X.prog X.w X.K tg J fp it tn ∧ tn 0 s2.heap ∧ (∀ b ∈ fp, FpOk X pins H' b) ∧ R J H'
noncomputable def PI (X : Cx) (tg iter : Expr) (wi : TI) : Prop :=
  ∀ (pins : List (Addr × Obj)) (s : Shared) (σ : St) (H : Hp) (R : It → Hp → Prop), Inv X pins σ H s → wi σ H R →
    wpAny (model X.prog X.w) X.A (eval iter X.env) (fun v s1 => wpAny (model X.prog X.w) X.A (pyIter v) (PIE X pins σ tg R) X.xe s1) X.xe s

/-- the step ahead of the store is nothing for an iterator that keeps no tuple -/
theorem go_of {M : Model} {A : Around} {E : Value → Shared → Prop} {s : Shared} {tg : Expr} {it : Addr} {u : Value} {o : Obj} {n : String} {vs : Array Value} {Q : Unit → Shared → Prop} (ho : s.heap.get? it = some o) (hc : o.cls = .type n) (hd : o.data = .fields vs)
    (hn : ["enumerate", "zip", "dict_itemiterator", "dict_reverseitemiterator", "odict_iterator", "itertools.zip_longest", "itertools.pairwise"].contains n = false) (hQ : Q () s) : wpAny M A (letOwnedTupleGo tg (.ref it) u) Q E s := by
  unfold letOwnedTupleGo
  cases tg <;> first
    | exact wpAny_pure hQ
    | (cases u <;> first
        | exact wpAny_pure hQ
        | (refine wpAny_bind (wpAny_load ho ?_)
           rw [hc, hd]
           show wpAny M A (if (["enumerate", "zip", "dict_itemiterator", "dict_reverseitemiterator", "odict_iterator", "itertools.zip_longest", "itertools.pairwise"].contains n && vs[0]? == some (rawInt _)) = true then _ else _) Q E s
           rw [if_neg (by intro h; rw [hn, Bool.false_and] at h; cases h)]
           exact wpAny_pure hQ))

/-- the list at a, as it stands at each turn (a loop may append to it) -/
noncomputable def Itl (K : PySem.W.Frag) (a : Addr) : It :=
  ⟨fun i H => ∃ xs x, SqL K H a xs ∧ xs[i]? = some x, fun i H x H' => H' = H ∧ ∀ xs, SqL K H a xs → xs[i]? = some x, fun i H => ∃ xs, SqL K H a xs ∧ xs.length ≤ i⟩
noncomputable def Itt (K : PySem.W.Frag) (a : Addr) : It :=
  ⟨fun i H => ∃ xs x, SqT K H a xs ∧ xs[i]? = some x, fun i H x H' => H' = H ∧ ∀ xs, SqT K H a xs → xs[i]? = some x, fun i H => ∃ xs, SqT K H a xs ∧ xs.length ≤ i⟩
/-- lo, lo + 1, .. (n of them) -/
noncomputable def Itr (lo : Int) (n : Nat) : It := ⟨fun i _ => i < n, fun i H x H' => H' = H ∧ x = .int (lo + i), fun i _ => n ≤ i⟩
theorem turn_list {P : Program} {w : World} {K : PySem.W.Frag} {tg : Expr} (a it : Addr) : Turn P w K tg (Itl K a) [it] it (fun i h => h.IsListIter it a i) where
  mem := by simp
  obj := fun i h st b hb => by
    have e : b = it := by simpa using hb
    subst e
    obtain ⟨o, e, c, d⟩ := st
    exact ⟨o, e, fun v z => by rw [d] at z; cases z⟩
  keep := fun i h h' st k => st.at fun o e => k it (by simp) o e
  item := by
    intro X hP hw hK hc i pins s σ H E I hf st hg
    subst hP hw hK
    obtain ⟨xs, x, hq, hx⟩ := hg
    obtain ⟨its, rv, p, hz⟩ := I.list hq
    obtain ⟨u, hu, ru⟩ := rv.get hx
    obtain ⟨f0, f1, f2, f3, f4, f5⟩ := hf it (by simp)
    refine wpAny_pyNext_list_item st p.isList (x := u) (by simpa using hu) fun h' st' sb => ?_
    have I1 : Inv X pins σ H { s with heap := h' } := I.turned (t' := s.toks) (fun b o hb e => (sb.2 b hb).trans e) f0 f1 f3 f4 f5
    obtain ⟨o, e, c, d⟩ := id st'
    exact ⟨u, rfl, go_of (s := { s with heap := h' }) e c d (by decide) ⟨x, H, I1, ru, ⟨rfl, fun ys hy => by rw [I.list_inj hy hq]; exact hx⟩, st', fun b hb => (hf b hb).1⟩⟩
  done := by
    intro X hP hw hK hc i pins s σ H E I hf st hg
    subst hP hw hK
    obtain ⟨xs, hq, hx⟩ := hg
    obtain ⟨its, rv, p, hz⟩ := I.list hq
    obtain ⟨f0, f1, f2, f3, f4, f5⟩ := hf it (by simp)
    have hl := rv.length
    exact wpAny_pyNext_list_end (I.ok.hd hc) st p.isList (by simp; omega) fun h' eb => ⟨rfl, I.turned (t' := s.toks) (fun b o hb e => eb b o hb e) f0 f1 f3 f4 f5⟩
  self := fun _ _ _ _ _ st h => wpAny_pyIter_listiter st h
theorem turn_tuple {P : Program} {w : World} {K : PySem.W.Frag} {tg : Expr} (a it : Addr) : Turn P w K tg (Itt K a) [it] it (fun i h => h.IsTupleIter it a i) where
  mem := by simp
  obj := fun i h st b hb => by
    have e : b = it := by simpa using hb
    subst e
    obtain ⟨o, e, c, d⟩ := st
    exact ⟨o, e, fun v z => by rw [d] at z; cases z⟩
  keep := fun i h h' st k => st.at fun o e => k it (by simp) o e
  item := by
    intro X hP hw hK hc i pins s σ H E I hf st hg
    subst hP hw hK
    obtain ⟨xs, x, hq, hx⟩ := hg
    obtain ⟨its, rv, p, hz⟩ := I.tuple hq
    obtain ⟨u, hu, ru⟩ := rv.get hx
    obtain ⟨f0, f1, f2, f3, f4, f5⟩ := hf it (by simp)
    refine wpAny_pyNext_tuple_item st (show s.heap.IsTuple a its.toArray from p) (x := u) (by simpa using hu) fun h' st' sb => ?_
    have I1 : Inv X pins σ H { s with heap := h' } := I.turned (t' := s.toks) (fun b o hb e => (sb.2 b hb).trans e) f0 f1 f3 f4 f5
    obtain ⟨o, e, c, d⟩ := id st'
    exact ⟨u, rfl, go_of (s := { s with heap := h' }) e c d (by decide) ⟨x, H, I1, ru, ⟨rfl, fun ys hy => by rw [I.tuple_inj hy hq]; exact hx⟩, st', fun b hb => (hf b hb).1⟩⟩
  done := by
    intro X hP hw hK hc i pins s σ H E I hf st hg
    subst hP hw hK
    obtain ⟨xs, hq, hx⟩ := hg
    obtain ⟨its, rv, p, hz⟩ := I.tuple hq
    obtain ⟨f0, f1, f2, f3, f4, f5⟩ := hf it (by simp)
    have hl := rv.length
    exact wpAny_pyNext_tuple_end (I.ok.hd hc) st (show s.heap.IsTuple a its.toArray from p) (by simp; omega) fun h' eb => ⟨rfl, I.turned (t' := s.toks) (fun b o hb e => eb b o hb e) f0 f1 f3 f4 f5⟩
  self := fun _ _ _ _ _ st h => wpAny_pyIter_tupleiter st h
theorem turn_range {P : Program} {w : World} {K : PySem.W.Frag} {tg : Expr} (it : Addr) (lo : Int) (n : Nat) : Turn P w K tg (Itr lo n) [it] it (fun i h => IsRangeIter h it (lo + (i : Nat) * 1) ((n : Int) - (i : Nat)) 1) where
  mem := by simp
  obj := fun i h st b hb => by
    have e : b = it := by simpa using hb
    subst e
    exact ⟨_, st, fun v z => by
      have z' : Data.fields _ = Data.cell v := z
      cases z'⟩
  keep := fun i h h' st k => k it (by simp) _ st
  item := by
    intro X hP hw hK hc i pins s σ H E I hf st hg
    subst hP hw hK
    obtain ⟨f0, f1, f2, f3, f4, f5⟩ := hf it (by simp)
    have W := Walks.range (prog := X.prog) (w := X.w) (I.ok.hd hc) it lo 1 n
    refine W.item i s _ _ hg st fun v h' tk hv st' kk => ?_
    obtain ⟨t, rfl⟩ := hv
    have I1 : Inv X pins σ H { s with heap := h', toks := tk } := I.turned (fun b o hb e => kk b o (by simpa using hb) e) f0 f1 f3 f4 f5
    refine ⟨_, rfl, go_of (s := { s with heap := h', toks := tk }) (n := "range_iterator") st' rfl rfl (by decide) ⟨.int (lo + i), H, I1, ⟨t, ?_⟩, ⟨rfl, rfl⟩, st', fun b hb => (hf b hb).1⟩⟩
    rw [Int.mul_one]
  done := by
    intro X hP hw hK hc i pins s σ H E I hf st hg
    subst hP hw hK
    obtain ⟨f0, f1, f2, f3, f4, f5⟩ := hf it (by simp)
    exact wpAny_pyNext_range_end (I.ok.hd hc) st (by have : n ≤ i := hg; omega) fun h' eb => ⟨rfl, I.turned (t' := s.toks) (fun b o hb e => eb b o hb e) f0 f1 f3 f4 f5⟩
  self := fun _ _ _ _ _ st h => wpAny_pyIter_rangeiter st h
end L2

namespace L2
open PySem PySem.Spec PyProof.Rows
section
variable {X : Cx} {tg : Expr}
noncomputable def iList (K : PySem.W.Frag) (tl : TE) : TI := fun σ H R => tl σ H fun x H1 => ∃ a, x = .ref a ∧ (∃ xs, SqL K H1 a xs) ∧ R (Itl K a) H1
noncomputable def iTup (K : PySem.W.Frag) (tl : TE) : TI := fun σ H R => tl σ H fun x H1 => ∃ a, x = .ref a ∧ (∃ xs, SqT K H1 a xs) ∧ R (Itt K a) H1
theorem pi_list {l : Expr} {tl : TE} (hl : PE X l tl) : PI X tg l (iList X.K tl) := by
  intro pins s σ H R I h
  refine thn (hl pins s σ H _ I h) fun v s1 ⟨x, H1, I1, r1, q1⟩ => ?_
  obtain ⟨a, e, ⟨xs, hq⟩, q⟩ := q1
  subst e
  cases r1
  obtain ⟨its, rv, p, hz⟩ := I1.list hq
  refine wpAny_pyIter_list p.isList ?_
  refine ⟨s1.heap.objs.size, [s1.heap.objs.size], _, _, H1, rfl, I1.kept (t' := s1.toks) fun b o e => Heap.get?_push_of_some _ e, turn_list a _, ⟨_, Heap.get?_push_size _ rfl, rfl, rfl⟩, fun b hb => ?_, q⟩
  have e : b = s1.heap.objs.size := by simpa using hb
  subst e
  exact I1.fpOk (Nat.le_refl _) (I1.hok.fresh (Nat.le_refl _))
theorem pi_tup {l : Expr} {tl : TE} (hl : PE X l tl) : PI X tg l (iTup X.K tl) := by
  intro pins s σ H R I h
  refine thn (hl pins s σ H _ I h) fun v s1 ⟨x, H1, I1, r1, q1⟩ => ?_
  obtain ⟨a, e, ⟨xs, hq⟩, q⟩ := q1
  subst e
  cases r1
  obtain ⟨its, rv, p, hz⟩ := I1.tuple hq
  refine wpAny_pyIter_tuple (show s1.heap.IsTuple a its.toArray from p) ?_
  refine ⟨s1.heap.objs.size, [s1.heap.objs.size], _, _, H1, rfl, I1.kept (t' := s1.toks) fun b o e => Heap.get?_push_of_some _ e, turn_tuple a _, ⟨_, Heap.get?_push_size _ rfl, rfl, rfl⟩, fun b hb => ?_, q⟩
  have e : b = s1.heap.objs.size := by simpa using hb
  subst e
  exact I1.fpOk (Nat.le_refl _) (I1.hok.fresh (Nat.le_refl _))
/-- a range object just made, walked -/
theorem range_it {pins : List (Addr × Obj)} {σ : St} {H : Hp} {s : Shared} {R : It → Hp → Prop} {E : Value → Shared → Prop} {lo hi : Int} {t u v : Tok} {tk : Nat} (I : Inv X pins σ H s) (h1 : -(2 ^ 62) ≤ lo) (h2 : lo < 2 ^ 62) (h3 : -(2 ^ 62) ≤ hi) (h4 : hi < 2 ^ 62)
    (q : R (Itr lo (hi - lo).toNat) H) : wpAny (model X.prog X.w) X.A (pyIter (.ref s.heap.objs.size)) (PIE X pins σ tg R) E { s with heap := s.heap.push { cls := .type "range", data := .fields #[.int lo t, .int hi u, .int 1 v] }, toks := tk } := by
  refine wpAny_pyIter_range (IsRange.new ..) (small_one h1 h2 h3 h4) ?_
  have I1 : Inv X pins σ H { s with heap := s.heap.push { cls := .type "range", data := .fields #[.int lo t, .int hi u, .int 1 v] }, toks := tk } := I.kept fun b o e => Heap.get?_push_of_some _ e
  refine ⟨(s.heap.push { cls := .type "range", data := .fields #[.int lo t, .int hi u, .int 1 v] }).objs.size, [(s.heap.push { cls := .type "range", data := .fields #[.int lo t, .int hi u, .int 1 v] }).objs.size], _, _, H, rfl,
    I1.kept (t' := tk) fun b o e => Heap.get?_push_of_some _ e, turn_range _ lo (hi - lo).toNat, ?_, fun b hb => ?_, q⟩
  · have e1 : lo + ((0 : Nat) : Int) * 1 = lo := by simp
    have e2 : (((hi - lo).toNat : Nat) : Int) - ((0 : Nat) : Int) = Builtin.Range.rangeSize lo hi 1 := by rw [rangeSize_one]; split <;> omega
    show IsRangeIter _ _ (lo + ((0 : Nat) : Int) * 1) ((((hi - lo).toNat : Nat) : Int) - ((0 : Nat) : Int)) 1
    rw [e1, e2]
    exact Heap.get?_push_size _ rfl
  · have e : b = (s.heap.push { cls := .type "range", data := .fields #[.int lo t, .int hi u, .int 1 v] }).objs.size := by simpa using hb
    subst e
    exact I1.fpOk (Nat.le_refl _) (I1.hok.fresh (Nat.le_refl _))
noncomputable def iRng1 (ta : TA) : TI := fun σ H R => ta σ H fun vs H1 => ∃ j : Int, vs = [.int j] ∧ -(2 ^ 62) ≤ j ∧ j < 2 ^ 62 ∧ R (Itr 0 j.toNat) H1
noncomputable def iRng2 (ta : TA) : TI := fun σ H R => ta σ H fun vs H1 => ∃ i j : Int, vs = [.int i, .int j] ∧ (-(2 ^ 62) ≤ i ∧ i < 2 ^ 62 ∧ -(2 ^ 62) ≤ j ∧ j < 2 ^ 62) ∧ R (Itr i (j - i).toNat) H1
theorem pi_range1 {a : Expr} {ta : TA} {p pos : Pos} (hg : Gl X "range") (hm : X.mg "range" = none) (ha : PA X [a] ta) (hs : starEach [a] X.env = [(false, eval a X.env)] := by rfl) : PI X tg (.Call (.Name "range" p) [a] [] pos) (iRng1 ta) := by
  intro pins s σ H R I h
  refine Call_ (ld_blt I hg hm boot_range (PyProof.Rows.callWith_type1 (thn (ha pos pins s σ H _ I h) fun us s1 ⟨vs, H1, I1, r1, q1⟩ => ?_) hs rfl))
  obtain ⟨j, e, q1, q2, q⟩ := q1
  subst e
  cases r1 with
  | cons r rr =>
    cases rr
    obtain ⟨t, rfl⟩ := r
    exact call_range_1 (range_it I1 (by omega) (by omega) q1 q2 (by simpa using q))
theorem pi_range2 {a b : Expr} {ta : TA} {p pos : Pos} (hg : Gl X "range") (hm : X.mg "range" = none) (ha : PA X [a, b] ta) (hs : starEach [a, b] X.env = [(false, eval a X.env), (false, eval b X.env)] := by rfl) (hs2 : starEach [b] X.env = [(false, eval b X.env)] := by rfl) :
    PI X tg (.Call (.Name "range" p) [a, b] [] pos) (iRng2 ta) := by
  intro pins s σ H R I h
  refine Call_ (ld_blt I hg hm boot_range (PyProof.Rows.callWith_type1 (thn (ha pos pins s σ H _ I h) fun us s1 ⟨vs, H1, I1, r1, q1⟩ => ?_) (by rw [hs, hs2]) (by rw [hs2]; rfl)))
  obtain ⟨i, j, e, ⟨q1, q2, q3, q4⟩, q⟩ := q1
  subst e
  cases r1 with
  | cons r rr =>
    cases rr with
    | cons r' rr =>
      cases rr
      obtain ⟨t, rfl⟩ := r
      obtain ⟨t', rfl⟩ := r'
      exact call_range_2 (range_it I1 q1 q2 q3 q4 q)

/-! ### for -/
/-- W: the invariant by the turn and a measure; N: what the body is to reach -/
noncomputable def tFor (wi : TI) (g : TG) (tb : TS) : TS := fun D σ H => wi σ H fun J H1 => ∃ W : Nat → Nat → St → Hp → Prop, (∃ m, W 0 m σ H1) ∧ ∀ i m σ H, W i m σ H →
  (J.stop i H ∧ D.nx σ H) ∨ (J.go i H ∧ ∃ N : St → Hp → Prop, (∀ σ' H', N σ' H' → ∃ m', m' < m ∧ W (i + 1) m' σ' H') ∧ ∀ x H', J.yld i H x H' → g x σ H' fun σ2 H2 => tb { D with nx := N, ct := N, bk := D.nx } σ2 H2)
/-- the records at fp as they stand -/
noncomputable def pinsAt (fp : List Addr) (h : Heap) : List (Addr × Obj) := fp.filterMap fun b => (h.get? b).map fun o => (b, o)
theorem mem_pinsAt {fp : List Addr} {h : Heap} {b : Addr} {o : Obj} (hb : b ∈ fp) (e : h.get? b = some o) : (b, o) ∈ pinsAt fp h := List.mem_filterMap.mpr ⟨b, hb, by rw [e]; rfl⟩
theorem of_pinsAt {fp : List Addr} {h : Heap} {p : Addr × Obj} (hp : p ∈ pinsAt fp h) : p.1 ∈ fp ∧ h.get? p.1 = some p.2 := by
  obtain ⟨b, hb, e⟩ := List.mem_filterMap.mp hp
  cases q : h.get? b with
  | none => rw [q] at e; cases e
  | some o =>
    rw [q] at e
    have e' : (b, o) = p := Option.some.inj e
    subst e'
    exact ⟨hb, q⟩
theorem Inv.pinned {pins : List (Addr × Obj)} {σ : St} {H : Hp} {s : Shared} {fp : List Addr} (I : Inv X pins σ H s) (hf : ∀ b ∈ fp, FpOk X pins H b) (ho : ∀ b ∈ fp, ∃ o, s.heap.get? b = some o ∧ ∀ v, o.data ≠ .cell v) : Inv X (pins ++ pinsAt fp s.heap) σ H s :=
  I.pins_of fun p hp => (List.mem_append.mp hp).elim (fun z => I.pin p (List.mem_append_right _ z)) fun z => by
    obtain ⟨hb, e⟩ := of_pinsAt z
    obtain ⟨f0, f1, f2, _⟩ := hf p.1 hb
    obtain ⟨o, e', d⟩ := ho p.1 hb
    rw [e] at e'; cases e'
    exact ⟨e, f0, f1, f2, d⟩
theorem Inv.unpinned {pins pl : List (Addr × Obj)} {σ : St} {H : Hp} {s : Shared} (I : Inv X (pins ++ pl) σ H s) : Inv X pins σ H s := I.pins_of fun p hp => I.pin p (List.mem_append_right _ (List.mem_append_left _ hp))
theorem ps_for {iter : Expr} {body : List Stmt} {wi : TI} {g : TG} {tb : TS} {pos : Pos} (hp : PassesOwn (model X.prog X.w) X.A X.env X.xe) (hc : X.calm = true) (hi : PI X tg iter wi) (hg : PG X tg g) (hb : PSs X body tb)
    (hs : ∀ x, foldedSetIterable iter X.env x = pure x := by intro _; rfl) : PS X (.For tg iter body [] pos) (tFor wi g tb) := by
  intro pins s σ H D I h
  refine wpAny_For (thn (hi pins s σ H _ I h) fun v s1 h1 => thn h1 fun itv s2 h2 => ?_) hs
  obtain ⟨it, fp, tn, J, H2, e, I2, T, st2, f2, W, ⟨m0, w0⟩, turn⟩ := h2
  subst e
  -- what stays true of the iterator's objects through the loop
  have stat : ∀ {H' : Hp}, (∀ b ∈ fp, H' b = none) → ∀ b ∈ fp, FpOk X pins H' b := fun hn b hb => ⟨hn b hb, (f2 b hb).2⟩
  refine codeAny_forLoop_any (fun n s' => ∃ i σ' H', Inv X pins σ' H' s' ∧ tn i s'.heap ∧ (∀ b ∈ fp, H' b = none) ∧ W i n σ' H') ?_ m0 ⟨0, σ, H2, I2, st2, fun b hb => (f2 b hb).1, w0⟩
  rintro n s3 ⟨i, σ3, H3, I3, st3, fr3, w3⟩
  rcases turn i n σ3 H3 w3 with ⟨stop, qn⟩ | ⟨go, N, hN, step⟩
  · refine wpAny_passesOwn hp (thn (T.done X rfl rfl rfl hc i pins s3 σ3 H3 X.xe I3 (stat fr3) st3 stop) fun r s4 ⟨hr, I4⟩ => ?_)
    subst hr
    exact wpAny_execs_nil ⟨σ3, H3, I4, qn⟩
  · refine wpAny_passesOwn hp (thn (T.item X rfl rfl rfl hc i pins s3 σ3 H3 X.xe I3 (stat fr3) st3 go) fun r s4 ⟨u, hr, h4⟩ => ?_)
    subst hr
    refine wpAny_passesOwn hp (thn h4 fun _ s5 ⟨x, H5, I5, r5, y5, st5, fr5⟩ => ?_)
    have I5' := I5.pinned (stat fr5) (T.obj _ _ st5)
    refine wpAny_passesOwn hp (thn (hg _ s5 σ3 H5 x u _ I5' r5 (step x H5 y5)) fun _ s6 ⟨σ6, H6, I6, q6⟩ => ?_)
    refine wpAny_passesOwn hp (thn (hb _ s6 σ6 H6 _ I6 q6) fun f s7 q7 => ?_)
    have again : ∀ {σ7 : St} {H7 : Hp}, Inv X (pins ++ pinsAt fp s5.heap) σ7 H7 s7 → N σ7 H7 → ∃ m, m < n ∧ ∃ i σ' H', Inv X pins σ' H' s7 ∧ tn i s7.heap ∧ (∀ b ∈ fp, H' b = none) ∧ W i m σ' H' := fun {σ7 H7} I7 n7 => by
      obtain ⟨m', hm, w7⟩ := hN σ7 H7 n7
      refine ⟨m', hm, i + 1, σ7, H7, I7.unpinned, T.keep _ _ _ st5 fun b hb o e => (I7.pin (b, o) (List.mem_append_right _ (List.mem_append_right _ (mem_pinsAt hb e)))).1, fun b hb => ?_, w7⟩
      obtain ⟨o, e, d⟩ := T.obj _ _ st5 b hb
      exact (I7.pin (b, o) (List.mem_append_right _ (List.mem_append_right _ (mem_pinsAt hb e)))).2.1
    cases f with
    | next => obtain ⟨σ7, H7, I7, n7⟩ := q7; exact again I7 n7
    | cont => obtain ⟨σ7, H7, I7, n7⟩ := q7; exact again I7 n7
    | brk => obtain ⟨σ7, H7, I7, q7⟩ := q7; exact ⟨σ7, H7, I7.unpinned, q7⟩
    | ret v => obtain ⟨x7, σ7, H7, I7, r7, q7⟩ := q7; exact ⟨x7, σ7, H7, I7.unpinned, r7, q7⟩
end

/-! ### the forms one uses -/
/-- over a list that the body leaves as it is -/
theorem for_list {K : PySem.W.Frag} {a : Addr} {xs : List V} {g : TG} {tb : TS} {D : Ends} {σ : St} {H : Hp} (Pv : Nat → St → Hp → Prop) (h0 : Pv 0 σ H) (hl : ∀ i σ H, i ≤ xs.length → Pv i σ H → SqL K H a xs)
    (hs : ∀ i x σ H, xs[i]? = some x → Pv i σ H → g x σ H fun σ2 H2 => tb { D with nx := Pv (i + 1), ct := Pv (i + 1), bk := D.nx } σ2 H2) (hd : ∀ σ H, Pv xs.length σ H → D.nx σ H) :
    ∃ W : Nat → Nat → St → Hp → Prop, (∃ m, W 0 m σ H) ∧ ∀ i m σ H, W i m σ H →
      ((Itl K a).stop i H ∧ D.nx σ H) ∨ ((Itl K a).go i H ∧ ∃ N : St → Hp → Prop, (∀ σ' H', N σ' H' → ∃ m', m' < m ∧ W (i + 1) m' σ' H') ∧ ∀ x H', (Itl K a).yld i H x H' → g x σ H' fun σ2 H2 => tb { D with nx := N, ct := N, bk := D.nx } σ2 H2) := by
  refine ⟨fun i m σ H => m = xs.length - i ∧ i ≤ xs.length ∧ Pv i σ H, ⟨xs.length, by simp, Nat.zero_le _, h0⟩, ?_⟩
  rintro i m σ H ⟨rfl, hi, p⟩
  have q := hl i σ H hi p
  by_cases hlt : i < xs.length
  · refine .inr ⟨⟨xs, xs[i], q, by simp [hlt]⟩, Pv (i + 1), fun σ' H' p' => ⟨xs.length - (i + 1), by omega, rfl, hlt, p'⟩, fun x H' y => ?_⟩
    obtain ⟨e, y⟩ := y
    subst e
    exact hs i x σ _ (y xs q) p
  · have e : i = xs.length := by omega
    subst e
    exact .inl ⟨⟨xs, q, Nat.le_refl _⟩, hd σ H p⟩
theorem for_tup {K : PySem.W.Frag} {a : Addr} {xs : List V} {g : TG} {tb : TS} {D : Ends} {σ : St} {H : Hp} (Pv : Nat → St → Hp → Prop) (h0 : Pv 0 σ H) (hl : ∀ i σ H, i ≤ xs.length → Pv i σ H → SqT K H a xs)
    (hs : ∀ i x σ H, xs[i]? = some x → Pv i σ H → g x σ H fun σ2 H2 => tb { D with nx := Pv (i + 1), ct := Pv (i + 1), bk := D.nx } σ2 H2) (hd : ∀ σ H, Pv xs.length σ H → D.nx σ H) :
    ∃ W : Nat → Nat → St → Hp → Prop, (∃ m, W 0 m σ H) ∧ ∀ i m σ H, W i m σ H →
      ((Itt K a).stop i H ∧ D.nx σ H) ∨ ((Itt K a).go i H ∧ ∃ N : St → Hp → Prop, (∀ σ' H', N σ' H' → ∃ m', m' < m ∧ W (i + 1) m' σ' H') ∧ ∀ x H', (Itt K a).yld i H x H' → g x σ H' fun σ2 H2 => tb { D with nx := N, ct := N, bk := D.nx } σ2 H2) := by
  refine ⟨fun i m σ H => m = xs.length - i ∧ i ≤ xs.length ∧ Pv i σ H, ⟨xs.length, by simp, Nat.zero_le _, h0⟩, ?_⟩
  rintro i m σ H ⟨rfl, hi, p⟩
  have q := hl i σ H hi p
  by_cases hlt : i < xs.length
  · refine .inr ⟨⟨xs, xs[i], q, by simp [hlt]⟩, Pv (i + 1), fun σ' H' p' => ⟨xs.length - (i + 1), by omega, rfl, hlt, p'⟩, fun x H' y => ?_⟩
    obtain ⟨e, y⟩ := y
    subst e
    exact hs i x σ _ (y xs q) p
  · have e : i = xs.length := by omega
    subst e
    exact .inl ⟨⟨xs, q, Nat.le_refl _⟩, hd σ H p⟩
theorem for_range {lo : Int} {n : Nat} {g : TG} {tb : TS} {D : Ends} {σ : St} {H : Hp} (Pv : Nat → St → Hp → Prop) (h0 : Pv 0 σ H)
    (hs : ∀ i σ H, i < n → Pv i σ H → g (.int (lo + i)) σ H fun σ2 H2 => tb { D with nx := Pv (i + 1), ct := Pv (i + 1), bk := D.nx } σ2 H2) (hd : ∀ σ H, Pv n σ H → D.nx σ H) :
    ∃ W : Nat → Nat → St → Hp → Prop, (∃ m, W 0 m σ H) ∧ ∀ i m σ H, W i m σ H →
      ((Itr lo n).stop i H ∧ D.nx σ H) ∨ ((Itr lo n).go i H ∧ ∃ N : St → Hp → Prop, (∀ σ' H', N σ' H' → ∃ m', m' < m ∧ W (i + 1) m' σ' H') ∧ ∀ x H', (Itr lo n).yld i H x H' → g x σ H' fun σ2 H2 => tb { D with nx := N, ct := N, bk := D.nx } σ2 H2) := by
  refine ⟨fun i m σ H => m = n - i ∧ i ≤ n ∧ Pv i σ H, ⟨n, by simp, Nat.zero_le _, h0⟩, ?_⟩
  rintro i m σ H ⟨rfl, hi, p⟩
  by_cases hlt : i < n
  · refine .inr ⟨hlt, Pv (i + 1), fun σ' H' p' => ⟨n - (i + 1), by omega, rfl, hlt, p'⟩, fun x H' y => ?_⟩
    obtain ⟨e, y⟩ := y
    subst e y
    exact hs i σ _ hlt p
  · have e : i = n := by omega
    subst e
    exact .inl ⟨Nat.le_refl _, hd σ H p⟩
end L2

namespace L2
open PySem PySem.Spec PyProof.Rows

noncomputable abbrev R2 := V → V → Hp → VK → Prop
/-- a two-place operation on values: f is binaryOp op, inplaceOp op or compareOp op -/
noncomputable def OpR (X : Cx) (f : Value → Value → Sem Value) (r : R2) : Prop :=
  ∀ (pins : List (Addr × Obj)) (s : Shared) (σ : St) (H : Hp) (x y : V) (v u : Value) (Q : VK), Inv X pins σ H s → RelV x v → RelV y u → r x y H Q →
    wpAny (model X.prog X.w) X.A (f v u) (EP X pins σ Q) X.xe s
/-- a one-place operation -/
noncomputable def UnR (X : Cx) (f : Value → Sem Value) (r : V → Hp → VK → Prop) : Prop :=
  ∀ (pins : List (Addr × Obj)) (s : Shared) (σ : St) (H : Hp) (x : V) (v : Value) (Q : VK), Inv X pins σ H s → RelV x v → r x H Q →
    wpAny (model X.prog X.w) X.A (f v) (EP X pins σ Q) X.xe s
/-- a call of a value that is known (a builtin, a type) with values -/
noncomputable def CallR (X : Cx) (f : Value) (r : List V → Hp → VK → Prop) : Prop :=
  ∀ (pins : List (Addr × Obj)) (s : Shared) (σ : St) (H : Hp) (xs : List V) (us : List Value) (Q : VK), Inv X pins σ H s → Vals xs us → r xs H Q →
    wpAny (model X.prog X.w) X.A (call f us) (EP X pins σ Q) X.xe s

noncomputable def tOp (r : R2) (ta tb : TE) : TE := fun σ H Q => ta σ H fun x H1 => tb σ H1 fun y H2 => r x y H2 Q
noncomputable def tUn (r : V → Hp → VK → Prop) (ta : TE) : TE := fun σ H Q => ta σ H fun x H1 => r x H1 Q
/-- ints in, under C, and a value out -/
noncomputable def rI (C : Int → Int → Prop) (g : Int → Int → V) : R2 := fun x y H Q => ∃ i j, x = .int i ∧ y = .int j ∧ C i j ∧ Q (g i j) H
noncomputable def rI0 (g : Int → Int → V) : R2 := fun x y H Q => ∃ i j, x = .int i ∧ y = .int j ∧ Q (g i j) H
noncomputable def rU (g : Int → V) : V → Hp → VK → Prop := fun x H Q => ∃ i, x = .int i ∧ Q (g i) H

section
variable {X : Cx} {a b c : Expr} {ta tb tc : TE} {pos : Pos}

theorem binT (ha : PE X a ta) (hb : PE X b tb) {pins : List (Addr × Obj)} {s : Shared} {σ : St} {H : Hp} {R : V → V → Hp → Prop} (I : Inv X pins σ H s)
    (h : ta σ H fun x H1 => tb σ H1 fun y H2 => R x y H2) {Q : Value → Shared → Prop} {f : Value → Value → Sem Value}
    (hf : ∀ v u s2 x y H2, Inv X pins σ H2 s2 → RelV x v → RelV y u → R x y H2 → wpAny (model X.prog X.w) X.A (f v u) Q X.xe s2) :
    wpAny (model X.prog X.w) X.A (eval a X.env) (fun v s₁ => wpAny (model X.prog X.w) X.A (eval b X.env) (fun u s₂ => wpAny (model X.prog X.w) X.A (f v u) Q X.xe s₂) X.xe s₁) X.xe s := by
  refine thn (ha pins s σ H _ I h) fun v s1 ⟨x, H1, I1, r1, q1⟩ => ?_
  refine thn (hb pins s1 σ H1 _ I1 q1) fun u s2 ⟨y, H2, I2, r2, q2⟩ => ?_
  exact hf v u s2 x y H2 I2 r1 r2 q2

theorem pe_op {op : Operator} {r : R2} (ho : OpR X (binaryOp op) r) (ha : PE X a ta) (hb : PE X b tb) : PE X (.BinOp a op b pos) (tOp r ta tb) := by
  intro pins s σ H Q I h
  exact wpAny_BinOp (binT ha hb I h fun v u s2 x y H2 I2 rx ry q => ho pins s2 σ H2 x y v u Q I2 rx ry q)
theorem pe_un {op : UnaryOp} {r : V → Hp → VK → Prop} (ho : UnR X (unaryOp op) r) (ha : PE X a ta) : PE X (.UnaryOp op a pos) (tUn r ta) := by
  intro pins s σ H Q I h
  exact UnaryOp_ (thn (ha pins s σ H _ I h) fun v s1 ⟨x, H1, I1, r1, q1⟩ => ho pins s1 σ H1 x v Q I1 r1 q1)

/-! ### ints -/
theorem opI {f : Value → Value → Sem Value} {C : Int → Int → Prop} {g : Int → Int → Int}
    (rule : ∀ (i j : Int) (t u : Tok) (s : Shared) (Q : Value → Shared → Prop) (E : Value → Shared → Prop), C i j → Q (.int (g i j) s.toks) { s with toks := s.toks + 1 } → wpAny (model X.prog X.w) X.A (f (.int i t) (.int j u)) Q E s) :
    OpR X f (rI C fun i j => .int (g i j)) := by
  intro pins s σ H x y v u Q I rx ry h
  obtain ⟨i, j, rfl, rfl, hc, q⟩ := h
  obtain ⟨t, rfl⟩ := rx
  obtain ⟨t', rfl⟩ := ry
  exact rule i j t t' s _ _ hc ⟨.int (g i j), H, I.tok _, ⟨_, rfl⟩, q⟩
theorem opI0 {f : Value → Value → Sem Value} {g : Int → Int → Int}
    (rule : ∀ (i j : Int) (t u : Tok) (s : Shared) (Q : Value → Shared → Prop) (E : Value → Shared → Prop), Q (.int (g i j) s.toks) { s with toks := s.toks + 1 } → wpAny (model X.prog X.w) X.A (f (.int i t) (.int j u)) Q E s) :
    OpR X f (rI0 fun i j => .int (g i j)) := by
  intro pins s σ H x y v u Q I rx ry h
  obtain ⟨i, j, rfl, rfl, q⟩ := h
  obtain ⟨t, rfl⟩ := rx
  obtain ⟨t', rfl⟩ := ry
  exact rule i j t t' s _ _ ⟨.int (g i j), H, I.tok _, ⟨_, rfl⟩, q⟩
theorem opB0 {f : Value → Value → Sem Value} {g : Int → Int → Bool}
    (rule : ∀ (i j : Int) (t u : Tok) (s : Shared) (Q : Value → Shared → Prop) (E : Value → Shared → Prop), Q (.bool (g i j)) s → wpAny (model X.prog X.w) X.A (f (.int i t) (.int j u)) Q E s) :
    OpR X f (rI0 fun i j => .bl (g i j)) := by
  intro pins s σ H x y v u Q I rx ry h
  obtain ⟨i, j, rfl, rfl, q⟩ := h
  obtain ⟨t, rfl⟩ := rx
  obtain ⟨t', rfl⟩ := ry
  exact rule i j t t' s _ _ ⟨.bl (g i j), H, I, rfl, q⟩

noncomputable def CDiv (i j : Int) : Prop := 0 < j ∧ j < 1073741824
noncomputable def CMul (i j : Int) : Prop := (-(2 ^ 64) < i ∧ i < 2 ^ 64) ∨ (-(2 ^ 64) < j ∧ j < 2 ^ 64)
theorem CMul.ok {i j : Int} (h : CMul i j) : IntMulOk i j := by
  rcases h with ⟨h1, h2⟩ | ⟨h1, h2⟩
  · exact .of_left (intBits_le_64 h1 h2)
  · exact .of_right (intBits_le_64 h1 h2)

theorem op_add : OpR X (binaryOp .Add) (rI0 fun i j => .int (i + j)) := opI0 fun _ _ _ _ _ _ _ q => add_int q
theorem op_sub : OpR X (binaryOp .Sub) (rI0 fun i j => .int (i - j)) := opI0 fun _ _ _ _ _ _ _ q => sub_int q
theorem op_mul : OpR X (binaryOp .Mult) (rI CMul fun i j => .int (i * j)) := opI fun _ _ _ _ _ _ _ hc q => mul_int q hc.ok
/-- // by a positive divisor -/
theorem op_fdiv : OpR X (binaryOp .FloorDiv) (rI CDiv fun i j => .int (i / j)) := opI fun i j _ _ _ _ _ hc q => by
  have h1 : (0 : Int) < j := hc.1
  have h2 : j < 1073741824 := hc.2
  exact floordiv_int (by omega) (by rw [Int.fdiv_eq_ediv_of_nonneg i (by omega)]; exact q) (.inl (PyProof.noPylong_small (by omega)))
/-- % by a positive divisor of any size -/
theorem op_mod : OpR X (binaryOp .Mod) (rI (fun _ j => 0 < j) fun i j => .int (i % j)) := opI fun i j _ _ _ _ _ hc q => by
  have h1 : (0 : Int) < j := hc
  exact mod_int' (by omega) (by rw [Int.fmod_eq_emod_of_nonneg i (by omega)]; exact q)

theorem unI {f : Value → Sem Value} {g : Int → Int}
    (rule : ∀ (i : Int) (t : Tok) (s : Shared) (Q : Value → Shared → Prop) (E : Value → Shared → Prop), Q (.int (g i) s.toks) { s with toks := s.toks + 1 } → wpAny (model X.prog X.w) X.A (f (.int i t)) Q E s) :
    UnR X f (rU fun i => .int (g i)) := by
  intro pins s σ H x v Q I rx h
  obtain ⟨i, rfl, q⟩ := h
  obtain ⟨t, rfl⟩ := rx
  exact rule i t s _ _ ⟨.int (g i), H, I.tok _, ⟨_, rfl⟩, q⟩
theorem un_neg : UnR X (unaryOp .USub) (rU fun i => .int (-i)) := unI fun _ _ _ _ _ q => neg_int q

/-! ### bools among ints: n += (a < b) -/
end

/-! ### comparisons -/
/-- the scalars that == tells apart as data does -/
noncomputable def scal : V → V → Bool
  | .non, .non => true | .non, .int _ => true | .int _, .non => true | .non, .bl _ => true | .bl _, .non => true | .non, .str _ => true | .str _, .non => true
  | .int _, .int _ => true | .bl _, .bl _ => true | .str _, .str _ => true | .byt _, .byt _ => true
  | .int _, .str _ => true | .str _, .int _ => true | .bl _, .str _ => true | .str _, .bl _ => true
  | _, _ => false
noncomputable def rEq : R2 := fun x y H Q => scal x y = true ∧ Q (.bl (decide (x = y))) H
noncomputable def rNe : R2 := fun x y H Q => scal x y = true ∧ Q (.bl (!decide (x = y))) H

theorem dec_int {i j : Int} : decide (V.int i = V.int j) = (i == j) := by
  rw [Bool.eq_iff_iff]
  simp
theorem dec_bl {i j : Bool} : decide (V.bl i = V.bl j) = (i == j) := by
  rw [Bool.eq_iff_iff]
  simp
theorem dec_str {i j : Str} : decide (V.str i = V.str j) = (i == j) := by
  rw [Bool.eq_iff_iff]
  simp
theorem dec_byt {i j : Array UInt8} : decide (V.byt i = V.byt j) = (i.toList == j.toList) := by
  rw [Bool.eq_iff_iff]
  cases i
  cases j
  simp

section
variable {X : Cx} {a b c : Expr} {ta tb tc : TE} {pos : Pos}
theorem fin_bl {pins : List (Addr × Obj)} {σ : St} {H : Hp} {s : Shared} {Q : VK} {k k' : Bool} (I : Inv X pins σ H s) (q : Q (.bl k) H) (e : k = k') : EP X pins σ Q (.bool k') s := by
  subst e
  exact ⟨.bl k, H, I, rfl, q⟩
theorem op_eq : OpR X (compareOp .Eq) rEq := by
  intro pins s σ H x y v u Q I rx ry h
  obtain ⟨hs, q⟩ := h
  cases x with
  | non =>
    cases rx
    cases y with
    | non => cases ry; exact PySem.EqNone.eq_none_none (fin_bl I q (by simp))
    | bl j => cases ry; exact PySem.EqNone.eq_none_bool (fin_bl I q (by simp))
    | int j => obtain ⟨t', rfl⟩ := ry; exact PySem.EqNone.eq_none_int (fin_bl I q (by simp))
    | str j => obtain ⟨t', rfl⟩ := ry; exact PySem.EqNone.eq_none_str (fin_bl I q (by simp))
    | _ => exact absurd (show false = true from hs) Bool.false_ne_true
  | bl i =>
    cases rx
    cases y with
    | non => cases ry; exact PySem.EqNone.eq_bool_none (fin_bl I q (by simp))
    | bl j => cases ry; exact eq_bool (fin_bl I q dec_bl)
    | str j => obtain ⟨t', rfl⟩ := ry; exact PySem.EqMixed.eq_bool_str (fin_bl I q (by simp))
    | _ => exact absurd (show false = true from hs) Bool.false_ne_true
  | int i =>
    obtain ⟨t, rfl⟩ := rx
    cases y with
    | non => cases ry; exact PySem.EqNone.eq_int_none (fin_bl I q (by simp))
    | int j => obtain ⟨t', rfl⟩ := ry; exact eq_int (fin_bl I q dec_int)
    | str j => obtain ⟨t', rfl⟩ := ry; exact PySem.EqMixed.eq_int_str (fin_bl I q (by simp))
    | _ => exact absurd (show false = true from hs) Bool.false_ne_true
  | str i =>
    obtain ⟨t, rfl⟩ := rx
    cases y with
    | non => cases ry; exact PySem.EqNone.eq_str_none (fin_bl I q (by simp))
    | bl j => cases ry; exact PySem.EqMixed.eq_str_bool (fin_bl I q (by simp))
    | int j => obtain ⟨t', rfl⟩ := ry; exact PySem.EqMixed.eq_str_int (fin_bl I q (by simp))
    | str j => obtain ⟨t', rfl⟩ := ry; exact eq_str (fin_bl I q dec_str)
    | _ => exact absurd (show false = true from hs) Bool.false_ne_true
  | byt i =>
    obtain ⟨t, rfl⟩ := rx
    cases y with
    | byt j => obtain ⟨t', rfl⟩ := ry; exact PySem.W.eq_bytes (fin_bl I q dec_byt)
    | _ => exact absurd (show false = true from hs) Bool.false_ne_true
  | _ => cases y <;> exact absurd (show false = true from hs) Bool.false_ne_true
theorem op_ne : OpR X (compareOp .NotEq) rNe := by
  intro pins s σ H x y v u Q I rx ry h
  obtain ⟨hs, q⟩ := h
  cases x with
  | non =>
    cases rx
    cases y with
    | non => cases ry; exact PySem.EqNone.ne_none_none (fin_bl I q (by simp))
    | bl j => cases ry; exact PySem.EqNone.ne_none_bool (fin_bl I q (by simp))
    | int j => obtain ⟨t', rfl⟩ := ry; exact PySem.EqNone.ne_none_int (fin_bl I q (by simp))
    | str j => obtain ⟨t', rfl⟩ := ry; exact PySem.EqNone.ne_none_str (fin_bl I q (by simp))
    | _ => exact absurd (show false = true from hs) Bool.false_ne_true
  | bl i =>
    cases rx
    cases y with
    | non => cases ry; exact PySem.EqNone.ne_bool_none (fin_bl I q (by simp))
    | bl j => cases ry; exact ne_bool (fin_bl I q (congrArg not dec_bl))
    | str j => obtain ⟨t', rfl⟩ := ry; exact PySem.EqMixed.ne_bool_str (fin_bl I q (by simp))
    | _ => exact absurd (show false = true from hs) Bool.false_ne_true
  | int i =>
    obtain ⟨t, rfl⟩ := rx
    cases y with
    | non => cases ry; exact PySem.EqNone.ne_int_none (fin_bl I q (by simp))
    | int j => obtain ⟨t', rfl⟩ := ry; exact ne_int (fin_bl I q (congrArg not dec_int))
    | str j => obtain ⟨t', rfl⟩ := ry; exact PySem.EqMixed.ne_int_str (fin_bl I q (by simp))
    | _ => exact absurd (show false = true from hs) Bool.false_ne_true
  | str i =>
    obtain ⟨t, rfl⟩ := rx
    cases y with
    | non => cases ry; exact PySem.EqNone.ne_str_none (fin_bl I q (by simp))
    | bl j => cases ry; exact PySem.EqMixed.ne_str_bool (fin_bl I q (by simp))
    | int j => obtain ⟨t', rfl⟩ := ry; exact PySem.EqMixed.ne_str_int (fin_bl I q (by simp))
    | str j => obtain ⟨t', rfl⟩ := ry; exact ne_str (fin_bl I q (congrArg not dec_str))
    | _ => exact absurd (show false = true from hs) Bool.false_ne_true
  | byt i =>
    obtain ⟨t, rfl⟩ := rx
    cases y with
    | byt j => obtain ⟨t', rfl⟩ := ry; exact PySem.W.ne_bytes (fin_bl I q (congrArg not dec_byt))
    | _ => exact absurd (show false = true from hs) Bool.false_ne_true
  | _ => cases y <;> exact absurd (show false = true from hs) Bool.false_ne_true

theorem op_lt : OpR X (compareOp .Lt) (rI0 fun i j => .bl (decide (i < j))) := opB0 fun _ _ _ _ _ _ _ q => lt_int q
theorem op_le : OpR X (compareOp .LtE) (rI0 fun i j => .bl (decide (i ≤ j))) := opB0 fun _ _ _ _ _ _ _ q => le_int q
theorem op_gt : OpR X (compareOp .Gt) (rI0 fun i j => .bl (decide (j < i))) := opB0 fun _ _ _ _ _ _ _ q => gt_int q
theorem op_ge : OpR X (compareOp .GtE) (rI0 fun i j => .bl (decide (j ≤ i))) := opB0 fun _ _ _ _ _ _ _ q => ge_int q

theorem nomark (b : Expr) {op : CmpOp} (h : op ≠ .In := by decide) (h2 : op ≠ .NotIn := by decide) : behindInMarks op b = false := by
  have e1 : (op == CmpOp.In) = false := by cases op <;> first | rfl | exact absurd rfl h
  have e2 : (op == CmpOp.NotIn) = false := by cases op <;> first | rfl | exact absurd rfl h2
  cases b <;> simp [behindInMarks, e1, e2]
/-- a comparison as a value; hm: nomark b, or (for in, not in) by with_unfolding_all rfl -/
theorem pe_cmpR {op : CmpOp} {r : R2} (ho : OpR X (compareOp op) r) (ha : PE X a ta) (hb : PE X b tb) (hm : behindInMarks op b = false) : PE X (.Compare a [op] [b] pos) (tOp r ta tb) := by
  intro pins s σ H Q I h
  exact wpAny_Compare1 (binT ha hb I h fun v u s2 x y H2 I2 rx ry q => ho pins s2 σ H2 x y v u Q I2 rx ry q) hm
/-- a reading of a value as a test -/
noncomputable def tTest (t : TE) : TT := fun σ H Q => t σ H fun x H' => ∃ k, x = .bl k ∧ Q k H'
theorem pt_cmpR {op : CmpOp} {r : R2} (ho : OpR X (compareOp op) r) (ha : PE X a ta) (hb : PE X b tb) (hm : behindInMarks op b = false) : PT X (.Compare a [op] [b] pos) (tTest (tOp r ta tb)) := by
  intro pins s σ H Q I h
  refine wpAny_isTrue_Compare1 (thn (ha pins s σ H _ I h) fun v s1 ⟨x, H1, I1, r1, q1⟩ => thn (hb pins s1 σ H1 _ I1 q1) fun u s2 ⟨y, H2, I2, r2, q2⟩ =>
    thn (ho pins s2 σ H2 x y v u _ I2 r1 r2 q2) fun c s3 ⟨z, H3, I3, r3, k, e, q3⟩ => ?_) hm
  subst e
  cases r3
  exact wpAny_truthy_bool ⟨H3, I3, q3⟩
/-- a op1 b op2 c -/
noncomputable def tChain (r r' : R2) (ta tb tc : TE) : TE := fun σ H Q => ta σ H fun x H1 => tb σ H1 fun y H2 => r x y H2 fun z H3 => ∃ k, z = .bl k ∧
  (if k = true then tc σ H3 fun w' H4 => r' y w' H4 Q else Q (.bl false) H3)
theorem pe_chain {op op' : CmpOp} {r r' : R2} (ho : OpR X (compareOp op) r) (ho' : OpR X (compareOp op') r') (ha : PE X a ta) (hb : PE X b tb) (hc : PE X c tc)
    (hm : lastMarks [op, op'] [b, c] = false := by with_unfolding_all rfl) : PE X (.Compare a [op, op'] [b, c] pos) (tChain r r' ta tb tc) := by
  intro pins s σ H Q I h
  refine Compare_chain (thn (ha pins s σ H _ I h) fun v s1 ⟨x, H1, I1, r1, q1⟩ => chain_link (thn (hb pins s1 σ H1 _ I1 q1) fun u s2 ⟨y, H2, I2, r2, q2⟩ =>
    thn (ho pins s2 σ H2 x y v u _ I2 r1 r2 q2) fun d s3 ⟨z, H3, I3, r3, k, e, q3⟩ => ?_)) hm
  subst e
  cases r3
  refine wpAny_truthy_bool ?_
  cases k with
  | false => exact ite_ff ⟨.bl false, H3, I3, rfl, q3⟩
  | true => exact ite_tt (chain_last (thn (hc pins s3 σ H3 _ I3 q3) fun w' s4 ⟨z', H4, I4, r4, q4⟩ => ho' pins s4 σ H4 y z' u w' Q I4 r2 r4 q4))
theorem pt_chain {op op' : CmpOp} {r r' : R2} (ho : OpR X (compareOp op) r) (ho' : OpR X (compareOp op') r') (ha : PE X a ta) (hb : PE X b tb) (hc : PE X c tc)
    (hm : lastMarks [op, op'] [b, c] = false := by with_unfolding_all rfl) : PT X (.Compare a [op, op'] [b, c] pos) (tTest (tChain r r' ta tb tc)) := by
  intro pins s σ H Q I h
  refine isTrue_chain (thn (ha pins s σ H _ I h) fun v s1 ⟨x, H1, I1, r1, q1⟩ => test_link (thn (hb pins s1 σ H1 _ I1 q1) fun u s2 ⟨y, H2, I2, r2, q2⟩ =>
    thn (ho pins s2 σ H2 x y v u _ I2 r1 r2 q2) fun d s3 ⟨z, H3, I3, r3, k, e, q3⟩ => ?_)) hm
  subst e
  cases r3
  refine wpAny_truthy_bool ?_
  cases k with
  | false =>
    obtain ⟨k', e', q'⟩ := q3
    cases e'
    exact ite_ff ⟨H3, I3, q'⟩
  | true =>
    refine ite_tt (test_last (thn (hc pins s3 σ H3 _ I3 q3) fun w' s4 ⟨z', H4, I4, r4, q4⟩ => thn (ho' pins s4 σ H4 y z' u w' _ I4 r2 r4 q4) fun d' s5 ⟨z2, H5, I5, r5, k2, e2, q5⟩ => ?_))
    subst e2
    cases r5
    exact wpAny_truthy_bool ⟨H5, I5, q5⟩

/-! ### truth -/
theorem line63 : (sizeLine : Nat) < 2 ^ 63 := by rw [sizeLine_eq]; decide

/-! ### strs and bytes -/

/-! ### scalar builtins, by CallR -/
theorem vals1 {x : V} {us : List Value} (r : Vals [x] us) : ∃ u, us = [u] ∧ RelV x u := by
  cases r with
  | cons r1 r2 => cases r2; exact ⟨_, rfl, r1⟩
theorem vals2 {x y : V} {us : List Value} (r : Vals [x, y] us) : ∃ u w', us = [u, w'] ∧ RelV x u ∧ RelV y w' := by
  cases r with
  | cons r1 r2 =>
    cases r2 with
    | cons r3 r4 => cases r4; exact ⟨_, _, rfl, r1, r3⟩
end
end L2

namespace L2
open PySem PySem.Spec PyProof.Rows

/-! ### an instance, its attributes a map -/
structure ObjM (h : Heap) (x dx C : Addr) (mA : Str → Option Value) : Prop where
  obj : h.get? x = some (PySem.W.instObj C dx)
  ns : h.Ns1 dx mA
  ne : dx ≠ x

theorem lookIn_ns {h : Heap} {dx : Addr} {mA : Str → Option Value} (n : h.Ns1 dx mA) : ∃ od, h.get? dx = some od ∧ ∀ name, PySem.W.lookIn name od = some (mA name) := by
  obtain ⟨o, es, ep, ho, hd, hk, _, hm⟩ := n
  refine ⟨o, ho, fun name => ?_⟩
  have e := hm name
  unfold nsFind findBy at e
  rw [← Array.find?_toList] at e
  unfold PySem.W.lookIn
  rw [hd]
  dsimp only
  split
  · rename_i y q
    rw [q] at e
    exact congrArg some e
  · rename_i q
    rw [q] at e
    have a : es.toList.any (·.refKey) = false := by
      rw [List.any_eq_false]
      intro y hy
      obtain ⟨z, t, hkey⟩ := hk y (Array.mem_toList_iff.mp hy)
      simp [DictEntry.refKey, hkey]
    have a' : ¬ es.toList.any (·.refKey) = true := by rw [a]; exact Bool.false_ne_true
    rw [if_neg a']
    exact congrArg some e

theorem ObjM.look {h : Heap} {x dx C : Addr} {mA : Str → Option Value} (I : ObjM h x dx C mA) : ∃ od, PySem.W.InstAt h x (PySem.W.instObj C dx) C (some od) ∧ ∀ name, PySem.W.lookIn name od = some (mA name) :=
  let ⟨od, ho, hl⟩ := lookIn_ns I.ns
  ⟨od, ⟨I.obj, rfl, rfl, ho⟩, hl⟩

section
variable {prog : Program} {w : World} {A : Around} {E : Value → Shared → Prop} {s : Shared} {K : PySem.W.Frag} {x dx C f : Addr} {mA : Str → Option Value} {name : Str} {v : Value}

end

/-! ### the attributes as a list of pairs -/

section
variable {P : Program} {w : World} {H H' : Hp} {h h' : Heap} {a C dx : Addr} {fs fs' : List (Str × V)}
theorem ins_get (hok : HOk P w H h) (e : H a = some (.ins C dx fs)) : ∃ mA, ObjM h a dx C mA ∧ (∀ f, RelO (fs.lookup f) (mA f)) ∧ PySem.Within mA (fs.map (·.1)) ∧ fs.length ≤ 1000 ∧ H dx = some (.own a) := by
  obtain ⟨d, z, ne, ob, mA, n, r, q⟩ := (show ObjOk P w H h a (.ins C dx fs) from hok a _ e)
  exact ⟨mA, ⟨ob, n, ne⟩, r, q, z, d⟩
end

/-! ### what of the text a class must have -/
structure Cls (K : PySem.W.Frag) (C : Addr) : Prop where
  pg : PySem.W.plainGet K C Str.empty = true
  hd : PySem.W.hasDictIn K C = true
  po : PySem.W.plainOver K C = true
  sa : PySem.W.findIn K (.ref C) "__setattr__" = some (some (.builtin "object.__setattr__"))
theorem Cls.get {K : PySem.W.Frag} {C : Addr} (c : Cls K C) (f : Str) : PySem.W.plainGet K C f = true := c.pg

section
variable {X : Cx} {pins : List (Addr × Obj)} {σ : St} {H : Hp} {s : Shared} {a C dx : Addr} {fs : List (Str × V)} {f : Str} {v : V} {A : Around} {E : Value → Shared → Prop}

end

/-! ### readings and rules -/

section
variable {X : Cx} {o e value : Expr} {f : Str} {pos pos' tpos : Pos} {ta tv : TE}

end

/-! ### isinstance -/
section
variable {X : Cx} {pins : List (Addr × Obj)} {σ : St} {H : Hp} {s : Shared} {A : Around} {E : Value → Shared → Prop} {Q : Value → Shared → Prop} {c : Value} {b : Bool}
/-- the type of a value, as the fragment's deciders take it; for an instance its class -/
inductive TyOf (K : PySem.W.Frag) (H : Hp) : V → Value → Prop where
  | non : TyOf K H .non (.type "NoneType")
  | bl (x : Bool) : TyOf K H (.bl x) (.type "bool")
  | int (i : Int) : TyOf K H (.int i) (.type "int")
  | str (x : Str) : TyOf K H (.str x) (.type "str")
  | flt (x : UInt64) : TyOf K H (.flt x) (.type "float")
  | lst {a : Addr} {xs : List V} (e : H a = some (.lst xs)) : TyOf K H (.ref a) (.type "list")
  | frz {a : Addr} {o : Obj} {xs : List V} (e : H a = some (.frz o (.lst xs))) : TyOf K H (.ref a) (.type "list")
  | tup {a : Addr} {xs : List V} (e : H a = some (.tup xs)) : TyOf K H (.ref a) (.type "tuple")
  | dK {a : Addr} {kvs : List (Key × V)} (e : H a = some (.dK kvs)) : TyOf K H (.ref a) (.type "dict")
  | dT {a : Addr} {kvs : List (List Key × V)} (e : H a = some (.dT kvs)) : TyOf K H (.ref a) (.type "dict")
  | ins {a C dx : Addr} {fs : List (Str × V)} (e : H a = some (.ins C dx fs)) (cl : Cls K C) (ha : PySem.W.findIn K (.ref C) "__class__" = some (some (.builtin "object.__class__")))
      (hn : PySem.W.specialIn K (.builtin "object.__class__") "__get__" = some (some (.builtin "getset_descriptor.__get__"))) (htk : PySem.W.takesIn K (.builtin "object.__class__") = some true)
      (hm : PySem.W.mroIn K C (.type "object") = some true) : TyOf K H (.ref a) (.ref C)
/-- isinstance(x, c) for one class c, a built-in or an own one: kitOne's answer -/
theorem isinst_ok {x : V} {u t : Value} (I : Inv X pins σ H s) (rx : RelV x u) (ty : TyOf X.K H x t) (e : PySem.W.kitOne X.K t c = some b) (h : ∀ tk, Q (.bool b) { s with toks := tk }) :
    wpAny (model X.prog X.w) A (call (.builtin "isinstance") [u, c]) Q E s := by
  cases ty with
  | non => cases (show u = Value.none from rx); exact PySem.W.kia_one PySem.W.kitx_none I.kIn True.intro e (fun z => nomatch z) h
  | bl y => cases (show u = Value.bool y from rx); exact PySem.W.kia_one PySem.W.kitx_bool I.kIn True.intro e (fun z => nomatch z) h
  | int i => obtain ⟨t, q⟩ := (show ∃ t, u = Value.int i t from rx); cases q; exact PySem.W.kia_one PySem.W.kitx_int I.kIn True.intro e (fun z => nomatch z) h
  | str y => obtain ⟨t, q⟩ := (show ∃ t, u = Value.str y t from rx); cases q; exact PySem.W.kia_one PySem.W.kitx_str I.kIn True.intro e (fun z => nomatch z) h
  | flt y => obtain ⟨t, q⟩ := (show ∃ t, u = Value.float y t from rx); cases q; exact PySem.W.kia_one PySem.W.kitx_float I.kIn True.intro e (fun z => nomatch z) h
  | @lst a xs ea =>
    cases (show u = Value.ref a from rx)
    obtain ⟨_, _, n, _, h1⟩ := (show ObjOk X.prog X.w H s.heap a (.lst xs) from I.hok a _ ea)
    exact PySem.W.kia_one PySem.W.kitx_list I.kIn ⟨_, h1, rfl⟩ e (fun z => nomatch z) h
  | @frz a ob xs ea =>
    cases (show u = Value.ref a from rx)
    obtain ⟨_, _, _, n, _, h1⟩ := (show ObjOk X.prog X.w H s.heap a (.frz ob (.lst xs)) from I.hok a _ ea)
    exact PySem.W.kia_one PySem.W.kitx_list I.kIn ⟨_, h1, rfl⟩ e (fun z => nomatch z) h
  | @tup a xs ea =>
    cases (show u = Value.ref a from rx)
    obtain ⟨_, _, _, p⟩ := (show ObjOk X.prog X.w H s.heap a (.tup xs) from I.hok a _ ea)
    obtain ⟨o, h1, h2, _⟩ := p
    exact PySem.W.kia_one PySem.W.kitx_tuple I.kIn ⟨o, h1, h2⟩ e (fun z => nomatch z) h
  | @dK a kvs ea =>
    cases (show u = Value.ref a from rx)
    obtain ⟨_, _, vs, _, p⟩ := (show ObjOk X.prog X.w H s.heap a (.dK kvs) from I.hok a _ ea)
    obtain ⟨o, es, ep, h1, h2, _⟩ := p
    exact PySem.W.kia_one PySem.W.kitx_dict I.kIn ⟨o, h1, h2.1⟩ e (fun z => nomatch z) h
  | @dT a kvs ea =>
    cases (show u = Value.ref a from rx)
    obtain ⟨_, _, xs, _, o, es, ep, h1, h2, _⟩ := (show ObjOk X.prog X.w H s.heap a (.dT kvs) from I.hok a _ ea)
    exact PySem.W.kia_one PySem.W.kitx_dict I.kIn ⟨o, h1, h2.1⟩ e (fun z => nomatch z) h
  | @ins a C dx fs ea cl ha hn htk hm =>
    cases (show u = Value.ref a from rx)
    obtain ⟨mA, O, _⟩ := ins_get I.hok ea
    obtain ⟨od, J, _⟩ := O.look
    exact PySem.W.kia_one (PySem.W.kitx_own (cl.get _) cl.hd ha hn htk hm) I.kIn J e (fun z => nomatch z) h
end
end L2

namespace L2
open PySem PySem.Spec PyProof.Rows

/-! ### room -/
structure Room (k : Nat) (A : Around) : Prop where
  hd : A.handled = none
  dp : A.depth + 3 * k + 5 < recursionLimit
  un : A.units + 16 * k + 200 < cLine
theorem Room.mono {j k : Nat} {A : Around} (r : Room k A) (h : j ≤ k) : Room j A := ⟨r.hd, by have := r.dp; omega, by have := r.un; omega⟩
theorem Room.deeper {k : Nat} {A : Around} (r : Room (k + 1) A) (env : Env) : Room k (A.deeper env) :=
  ⟨r.hd, by have := r.dp; show A.depth + 1 + 3 * k + 5 < _; omega, by have := r.un; show A.units + 3 + 16 * k + 200 < _; omega⟩
theorem Room.in1 {k : Nat} {A : Around} (r : Room (k + 1) A) : Room k A.in1 :=
  ⟨r.hd, by have := r.dp; show A.depth + 3 * k + 5 < _; omega, by have := r.un; show A.units + 1 + 16 * k + 200 < _; omega⟩
theorem Room.depth {k : Nat} {A : Around} (r : Room k A) : A.depth < recursionLimit := by have := r.dp; omega
theorem Room.units {k : Nat} {A : Around} (r : Room k A) : A.units + 64 < cLine := by have := r.un; omega

/-! ### argument lists and displays -/
noncomputable def tNil : TA := fun _ H Q => Q [] H
noncomputable def tCons (ta : TE) (tr : TA) : TA := fun σ H Q => ta σ H fun x H1 => tr σ H1 fun xs H2 => Q (x :: xs) H2
section
variable {X : Cx} {e : Expr} {es : List Expr} {te : TE} {t : TA} {pos : Pos}
theorem pa_nil : PA X [] tNil := fun _ _ _ _ H Q I h => Calls.spliced_nil ⟨[], H, I, .nil, h⟩
theorem pa_cons (ha : PE X e te) (hr : PA X es t) (hs : starEach (e :: es) X.env = (false, eval e X.env) :: starEach es X.env := by rfl) : PA X (e :: es) (tCons te t) := by
  intro pos pins s σ H Q I h
  rw [hs]
  show wpAny _ _ (spliced ((false, eval e X.env) :: backTo pos (starEach es X.env))) _ _ s
  refine Calls.spliced_cons (thn (ha pins s σ H _ I h) fun u s1 ⟨x, H1, I1, r1, q1⟩ => ?_)
  exact thn (hr pos pins s1 σ H1 _ I1 q1) fun us s2 ⟨xs, H2, I2, r2, q2⟩ => ⟨x :: xs, H2, I2, .cons r1 r2, q2⟩

/-- a tuple, a list of written items -/
noncomputable def tTup (t : TA) : TE := fun σ H Q => t σ H fun xs H1 => xs.length ≤ sizeLine ∧ ∀ p, H1 p = none → Q (.ref p) (upd H1 p (.tup xs))
noncomputable def tLst (t : TA) : TE := fun σ H Q => t σ H fun xs H1 => xs.length ≤ sizeLine ∧ ∀ p, H1 p = none → Q (.ref p) (upd H1 p (.lst xs))
theorem pe_tup {x1} (h : PA X es t) : PE X (.Tuple es x1 pos) (tTup t) := by
  intro pins s σ H Q I hq
  refine wpAny_Tuple_spliced (thn (h pos pins s σ H _ I hq) fun us s1 ⟨xs, H1, I1, r, z, q⟩ => ⟨by rw [← r.length]; exact z, ?_⟩)
  have hf : H1 s1.heap.objs.size = none := I1.hok.fresh (Nat.le_refl _)
  refine ⟨.ref s1.heap.objs.size, upd H1 s1.heap.objs.size (.tup xs), I1.laid (t' := s1.toks) (fun b u e => Heap.get?_push_of_some _ e) (Nat.le_refl _) ?_, rfl, q _ hf⟩
  exact ⟨z, us, r, ⟨_, Heap.get?_push_size _ rfl, rfl, _, rfl⟩⟩
theorem pe_lst (h : PA X es t) : PE X (.List es pos) (tLst t) := by
  intro pins s σ H Q I hq
  refine wpAny_List_spliced (thn (h pos pins s σ H _ I hq) fun us s1 ⟨xs, H1, I1, r, z, q⟩ => ⟨by rw [← r.length]; exact z, ?_⟩)
  have hf : H1 s1.heap.objs.size = none := I1.hok.fresh (Nat.le_refl _)
  refine ⟨.ref s1.heap.objs.size, upd H1 s1.heap.objs.size (.lst xs), I1.laid (t' := s1.toks) (fun b u e => Heap.get?_push_of_some _ e) (Nat.le_refl _) ?_, rfl, q _ hf⟩
  exact ⟨z, us, 0, r, Heap.get?_push_size _ rfl⟩
end

/-! ### what a def promises -/
/-- a def's promise: the bound arguments in the parameters' order, the heap, the wanted end, the wanted exception -/
noncomputable abbrev Sp := List V → Hp → VK → XK → Prop
/-- how an exception lies behind a call (file 08 gives it): the callers' frames, abstract heap and state ahead of the call, the wish, the exception, the state -/
noncomputable abbrev CXT := List Env → Hp → Shared → XK → Value → Shared → Prop

/-- the state at a call -/
structure Env0 (P : Program) (w : World) (K : PySem.W.Frag) (mg : Str → Option Value) (base : Heap) (A : Around) (outer : List Env) (s : Shared) (H : Hp) : Prop where
  frames : A.frames = some outer
  mod : Mod K mg base
  bs : ∀ b o, base.get? b = some o → s.heap.get? b = some o ∧ H b = none
  bsz : base.objs.size ≤ s.heap.objs.size
  funs : s.heap.FunFrames base outer
  frf : ∀ b ∈ frs outer, H b = none
  hok : HOk P w H s.heap
  bare : AllBare s.gens
/-- a call's end -/
noncomputable def CE (outer : List Env) (P : Program) (w : World) (H : Hp) (s : Shared) (Q : VK) (u : Value) (s' : Shared) : Prop :=
  ∃ v H', s'.os = s.os ∧ AllBare s'.gens ∧ Un (frs outer) [] H H' s.heap s'.heap ∧ HOk P w H' s'.heap ∧ RelV v u ∧ Q v H'
noncomputable def CR (CX : CXT) (outer : List Env) (P : Program) (w : World) (H : Hp) (s : Shared) (Q : VK) (E : XK) (r : Result) (s' : Shared) : Prop :=
  match r with
  | .ok (.ret u) => CE outer P w H s Q u s'
  | .ok _ => False
  | .error e => CX outer H s E e s'
structure FnOk (P : Program) (w : World) (K : PySem.W.Frag) (mg : Str → Option Value) (base : Heap) (CX : CXT) (k : Nat) (f : Addr) (fd : FuncData) (ps : List Str) (sp : Sp) : Prop where
  len : ∀ vs H Q E, sp vs H Q E → vs.length = ps.length
  run : ∀ (A : Around) (outer : List Env) (s : Shared) (H : Hp) (args : Args) (us : List Value) (vs : List V) (Q : VK) (E : XK), Room k A → Env0 P w K mg base A outer s H → BindsTo s fd args (ps.zip us) → Vals vs us → sp vs H Q E →
    codeAny (model P w) A (.call (.ref f) args) (CR CX outer P w H s Q E) s

theorem Env0.in1 {P : Program} {w : World} {K : PySem.W.Frag} {mg : Str → Option Value} {base : Heap} {A : Around} {outer : List Env} {s : Shared} {H : Hp} (e : Env0 P w K mg base A outer s H) :
    Env0 P w K mg base A.in1 outer s H := ⟨e.frames, e.mod, e.bs, e.bsz, e.funs, e.frf, e.hok, e.bare⟩

section
variable {X : Cx} {pins : List (Addr × Obj)} {σ : St} {H : Hp} {s s' : Shared}
/-- from a body: what a callee wants -/
theorem Inv.env0 (I : Inv X pins σ H s) : Env0 X.prog X.w X.K X.mg X.base X.A X.stack s H :=
  ⟨I.ok.frames, I.ok.mod, I.bs, Nat.le_trans I.ok.bsz I.sz, I.stack, I.stkFree, I.hok, I.bare⟩
/-- behind a call -/
theorem Inv.after {Q : VK} {u : Value} (I : Inv X pins σ H s) (h : CE X.stack X.prog X.w H s Q u s') : EP X pins σ Q u s' := by
  obtain ⟨v, H', os, bare, un, hok, r, q⟩ := h
  obtain ⟨hh, g, d, t, os'⟩ := s'
  obtain rfl : os' = s.os := os
  exact ⟨v, H', I.call (h' := hh) (g' := g) (d' := d) (t' := t) (ch := []) un hok bare (fun b z => absurd z (by simp)), r, q⟩
end

/-! ### calls -/
/-- f(..): the written arguments, then the defaults dvs; E: what is wanted of an exception -/
noncomputable def tCall (sp : Sp) (dvs : List V) (E : XK) (t : TA) : TE := fun σ H Q => t σ H fun vs H1 => sp (vs ++ dvs) H1 Q E

/-- how the parameters are bound: us the positional arguments, kw the keywords' values by name, ds the defaults that fill up -/
noncomputable def Binds (K : PySem.W.Frag) (fd : FuncData) (ps : List Str) (ds : List Value) : Prop :=
  ∀ (s : Shared) (us : List Value), K.In s.heap → (us ++ ds).length = ps.length → BindsTo s fd ⟨us, []⟩ (ps.zip (us ++ ds))
/-- every parameter is given -/
theorem Binds.all {K : PySem.W.Frag} {fd : FuncData} {ps : List Str} (h : ∀ us : List Value, us.length = ps.length → bindArgs fd ⟨us, []⟩ = pure (ps.zip us)) : Binds K fd ps [] := fun s us _ hl => by
  rw [List.append_nil] at hl ⊢
  exact .of_eq (h us hl)

/-- an exception of a callee reaches what this body wants of exceptions -/
noncomputable def Passes (CX : CXT) (X : Cx) (E : XK) : Prop := ∀ (pins : List (Addr × Obj)) (σ : St) (H : Hp) (s : Shared) (e : Value) (s' : Shared), Inv X pins σ H s → CX X.stack H s E e s' → X.xe e s'

section
variable {X : Cx} {CX : CXT} {k : Nat} {f C : Addr} {fd : FuncData} {ps : List Str} {sp : Sp} {dvs : List V} {ds : List Value} {E : XK} {x m : Str} {p pos apos : Pos} {e o : Expr} {es : List Expr} {ta : TE} {t : TA}

/-- the callee runs -/
theorem run_fn {pins : List (Addr × Obj)} {σ : St} {H : Hp} {s : Shared} {Q : VK} {us : List Value} {vs : List V} (F : FnOk X.prog X.w X.K X.mg X.base CX k f fd ps sp) (hr : Room k X.A) (hb : Binds X.K fd ps ds) (hd : Vals dvs ds) (hx : Passes CX X E)
    (I : Inv X pins σ H s) (r : Vals vs us) (h : sp (vs ++ dvs) H Q E) : wpAny (model X.prog X.w) X.A (call (.ref f) us) (EP X pins σ Q) X.xe s := by
  have r2 : Vals (vs ++ dvs) (us ++ ds) := r.append hd
  have hl : (us ++ ds).length = ps.length := by rw [← r2.length]; exact F.len _ _ _ _ h
  refine wpAny_call (codeAny_mono (F.run X.A X.stack s H ⟨us, []⟩ (us ++ ds) (vs ++ dvs) Q E hr I.env0 (hb s us I.kIn hl) r2 h) fun r s' hq => ?_)
  cases r with
  | error e => exact hx pins σ H s e s' I hq
  | ok fl =>
    cases fl with
    | ret u => exact I.after hq
    | next => exact False.elim hq
    | brk => exact False.elim hq
    | cont => exact False.elim hq

theorem pe_call (F : FnOk X.prog X.w X.K X.mg X.base CX k f fd ps sp) (hr : Room k X.A) (hg : Gl X x) (hm : X.mg x = some (.ref f)) (hk : PySem.W.keepIn X.K (.ref f) = true) (hb : Binds X.K fd ps ds) (hd : Vals dvs ds) (hx : Passes CX X E)
    (ha : PA X (e :: es) t) (hdb : (x == ("__debug__" : Str)) = false := by decide) (he : starEach (e :: es) X.env = (false, eval e X.env) :: starEach es X.env := by rfl) (hpl : (backTo pos (starEach es X.env)).any (·.1) = false := by rfl) :
    PE X (.Call (.Name x p) (e :: es) [] pos) (tCall sp dvs E t) := by
  intro pins s σ H Q I h
  refine wpAny_Call_Name_kw (ld_glob I hg hm ?_ hdb)
  refine PySem.W.callWith_K (h₀ := X.base) I.ok.mod.kin hk (thn (ha pos pins s σ H _ I h) fun us s1 ⟨vs, H1, I1, r, q⟩ => ⟨I1.kIn, ?_⟩) he hpl
  exact run_fn F hr hb hd hx I1 r q

end

/-! ### keywords -/
section
variable {X : Cx} {CX : CXT} {k : Nat} {f C : Addr} {fd : FuncData} {ps ks : List Str} {sp : Sp} {E : XK} {x m : Str} {p pos apos kpos : Pos} {e o : Expr} {es : List Expr} {kws : List Keyword} {te ta : TE} {t tk : TA} {nm : Option Str}

variable {g : List Value → List Value → List Value} {gV : List V → List V → List V}
end

/-! ### a def's body keeps its promise -/
/-- names: the parameters first -/
structure FnScope (N P : List Str) (sc : Scope) : Prop where
  kind : sc.kind = .function
  co : sc.isCoroutine = false
  gen : sc.isGenerator = false
  nd : N.Nodup
  pre : N.take P.length = P
  par : ∀ x ∈ P, sc.names.lookup x = some .local ∨ sc.names.lookup x = some .cell
  nofree : ∀ y ∈ sc.names, y.2 ≠ .free

theorem bindL_out {kindOf : Str → Option NameKind} {x : Str} : ∀ {binds : List (Str × Value)} {m : Str → Option Value}, (∀ v, (x, v) ∉ binds) → bindL kindOf binds m x = m x
  | [], _, _ => rfl
  | (n, v) :: r, m, h => by
    unfold bindL
    rw [bindL_out fun w hw => h w (List.mem_cons_of_mem _ hw)]
    split
    · have : x ≠ n := by rintro rfl; exact h v List.mem_cons_self
      simp [this]
    · rfl
theorem bindC_out {kindOf : Str → Option NameKind} {x : Str} : ∀ {binds : List (Str × Value)} {m : Str → Option Value}, (∀ v, (x, v) ∉ binds) → bindC kindOf binds m x = m x
  | [], _, _ => rfl
  | (n, v) :: r, m, h => by
    unfold bindC
    rw [bindC_out fun w hw => h w (List.mem_cons_of_mem _ hw)]
    split
    · rfl
    · have : x ≠ n := by rintro rfl; exact h v List.mem_cons_self
      simp [this]
theorem bindL_get {kindOf : Str → Option NameKind} {x : Str} {v : Value} : ∀ {P : List Str} {vs : List Value} {i : Nat} {m : Str → Option Value}, P.Nodup → P[i]? = some x → vs[i]? = some v → kindOf x = some .local →
    bindL kindOf (P.zip vs) m x = some v
  | [], _, _, _, _, h, _, _ => by simp at h
  | _ :: _, [], _, _, _, _, h, _ => by simp at h
  | p :: P, w :: vs, 0, m, nd, h1, h2, hk => by
    simp at h1 h2; subst h1; subst h2
    show bindL kindOf ((p, w) :: P.zip vs) m p = _
    unfold bindL
    rw [bindL_out fun v hv => (List.nodup_cons.mp nd).1 (List.of_mem_zip hv).1, if_pos hk]
    simp
  | p :: P, w :: vs, i + 1, m, nd, h1, h2, hk => by
    show bindL kindOf ((p, w) :: P.zip vs) m x = _
    unfold bindL
    exact bindL_get (i := i) (List.nodup_cons.mp nd).2 (by simpa using h1) (by simpa using h2) hk
theorem bindC_get {kindOf : Str → Option NameKind} {x : Str} {v : Value} : ∀ {P : List Str} {vs : List Value} {i : Nat} {m : Str → Option Value}, P.Nodup → P[i]? = some x → vs[i]? = some v → kindOf x ≠ some .local →
    bindC kindOf (P.zip vs) m x = some v
  | [], _, _, _, _, h, _, _ => by simp at h
  | _ :: _, [], _, _, _, _, h, _ => by simp at h
  | p :: P, w :: vs, 0, m, nd, h1, h2, hk => by
    simp at h1 h2; subst h1; subst h2
    show bindC kindOf ((p, w) :: P.zip vs) m p = _
    unfold bindC
    rw [bindC_out fun v hv => (List.nodup_cons.mp nd).1 (List.of_mem_zip hv).1, if_neg hk]
    simp
  | p :: P, w :: vs, i + 1, m, nd, h1, h2, hk => by
    show bindC kindOf ((p, w) :: P.zip vs) m x = _
    unfold bindC
    exact bindC_get (i := i) (List.nodup_cons.mp nd).2 (by simpa using h1) (by simpa using h2) hk

/-- the names' values at the entry -/
noncomputable def start (N : List Str) (vs : List V) : St := vs.map some ++ List.replicate (N.length - vs.length) none

/-- the context of a def's body, at its entry; an exception leaves the frame, then lies as CX says -/
noncomputable def cxOf (CX : CXT) (P : Program) (w : World) (K : PySem.W.Frag) (mg : Str → Option Value) (base : Heap) (N : List Str) (qual : Str) (scope : Scope) (f : Addr) (cd : Value) (A : Around) (outer : List Env) (s : Shared) (H : Hp) (E : XK) : Cx where
  prog := P
  w := w
  K := K
  mg := mg
  base := base
  A := A.deeper (envOfC qual scope s.heap.objs.size f cd)
  N := N
  s₀ := s
  H₀ := H
  env := envOfC qual scope s.heap.objs.size f cd
  outer := outer
  stack := envOfC qual scope s.heap.objs.size f cd :: outer
  ex := []
  calm := true
  fn := fun _ => true
  pn := []
  xe := fun e s' => wpAny (model P w) (A.deeper (envOfC qual scope s.heap.objs.size f cd)) (leaving (envOfC qual scope s.heap.objs.size f cd) e) (fun _ s'' => CX outer H s E e s'') (fun e' s'' => CX outer H s E e' s'') s'

theorem cell_has {sc : Scope} {n : Nat} {x : Str} (h : sc.names.lookup x = some .cell) : ∃ c, (cellsFrom n sc.names []).lookup x = some c := by
  have q := PySem.W.cellsFrom_some sc.names n [] (.inl h)
  exact Option.isSome_iff_exists.mp q

theorem inv_start {CX : CXT} {P : Program} {w : World} {K : PySem.W.Frag} {mg : Str → Option Value} {base : Heap} {N ps : List Str} {qual : Str} {scope : Scope} {f : Addr} {cd : Value} {A : Around} {outer : List Env} {s s1 : Shared} {H : Hp} {E : XK} {us : List Value} {vs : List V}
    (S : FnScope N ps scope) (hd : A.handled = none) (e0 : Env0 P w K mg base A outer s H) (hl : vs.length = ps.length) (r : Vals vs us)
    (x : InCallC s s.heap.objs.size (bindL (envOfC qual scope s.heap.objs.size f cd).kindOf (ps.zip us) fun _ => none) (cellsFrom (s.heap.objs.size + 1) scope.names []) (bindC (envOfC qual scope s.heap.objs.size f cd).kindOf (ps.zip us) fun _ => none) s1) :
    Inv (cxOf CX P w K mg base N qual scope f cd A outer s H E) [] (start N vs) H s1 := by
  have hpl : ps.length ≤ N.length := by have := congrArg List.length S.pre; rw [List.length_take] at this; omega
  obtain ⟨h1, tk, rfl, hk⟩ := x.done
  have noA : ∀ b : Addr, b ∉ (cxOf CX P w K mg base N qual scope f cd A outer s H E).ex := fun b z => absurd (show b ∈ ([] : List Addr) from z) (by simp)
  refine ⟨⟨e0.mod, S.kind, rfl, rfl, Nat.le_refl _, fun y z c h1 h2 => ?_, fun y hy => ?_, fun y c _ h => ?_, fun _ => hd, Around.frames_deeper e0.frames, .inr ⟨rfl, rfl⟩, fun b z => absurd z (noA b), e0.bs, e0.bsz, fun b _ _ => noA b, fun b z => absurd z (noA b), e0.funs, e0.frf⟩,
    rfl, e0.bare, Un.kept hk, ⟨_, x.toInCall.ns, fun i y v h1 h2 h3 => ?_⟩, fun y c h => ⟨_, x.cell y c h⟩, e0.hok.fresh (Nat.le_refl _), fun y c h => ?_, fun p hp => absurd (show p ∈ ([] : List (Addr × Obj)) from hp) (by simp), e0.hok.kept hk, ?_⟩
  · exact name_of_addr x.apart (PySem.mem_of_lookup h1) (PySem.mem_of_lookup h2)
  · have hy : scope.names.lookup y = some .cell ∨ scope.names.lookup y = some .free := hy
    rcases hy with hy | hy
    · exact cell_has hy
    · exact absurd rfl (S.nofree _ (PySem.mem_of_lookup hy))
  · exact Nat.le_of_lt (x.above y c (PySem.mem_of_lookup h))
  · have hi : i < vs.length := by
      unfold start at h2
      by_cases hi : i < vs.length
      · exact hi
      · rw [List.getElem?_append_right (by simpa using hi)] at h2
        rw [List.getElem?_replicate] at h2
        split at h2 <;> cases h2
    have ha : vs[i]? = some v := by
      unfold start at h2
      rw [List.getElem?_append_left (by simpa using hi), List.getElem?_map] at h2
      cases e : vs[i]? with
      | none => rw [e] at h2; cases h2
      | some a => rw [e] at h2; cases h2; rfl
    obtain ⟨u, hu, rv⟩ := r.get ha
    have hp : ps[i]? = some y := by
      rw [← S.pre, List.getElem?_take_of_lt (by omega)]; exact h1
    have ndP : ps.Nodup := by rw [← S.pre]; exact S.nd.sublist (List.take_sublist _ _)
    refine ⟨u, rv, ?_⟩
    rcases S.par y (List.mem_of_getElem? hp) with k | k
    · exact .inl ⟨k, bindL_get ndP hp hu k⟩
    · obtain ⟨c, e⟩ := cell_has (n := s.heap.objs.size + 1) k
      refine .inr ⟨.inl k, c, e, ?_⟩
      have q := x.cell y c e
      rw [bindC_get ndP hp hu (by show scope.names.lookup y ≠ _; rw [k]; decide)] at q
      exact q
  · exact e0.hok.fresh (Nat.le_of_lt (x.above y c (PySem.mem_of_lookup h)))
  · unfold start
    show _ = N.length
    rw [List.length_append, List.length_map, List.length_replicate]
    omega

/-- THE RULE: a def (or a method) of the text, by its body. The body's reading t is chosen for each entry; it is run at the parameters' values -/
theorem fn_of {CX : CXT} {P : Program} {w : World} {K : PySem.W.Frag} {mg : Str → Option Value} {base : Heap} {k : Nat} {f : Addr} {name qual : Str} {params : Arguments} {body : List Stmt} {scope : Scope} {dV kV doc pm cdv ct oc : Value} {an od : Option Addr}
    {osl : Array (Option Value)} {N ps : List Str} {sp : Sp} (lk : K.lookup f = some ⟨oc, od, .func (PySem.W.fnOf name qual params body scope dV kV doc pm an cdv ct), osl⟩) (hcd : PySem.W.codeIn K cdv qual = true) (S : FnScope N ps scope)
    (len : ∀ vs H Q E, sp vs H Q E → vs.length = ps.length)
    (hbody : ∀ (A : Around) (outer : List Env) (s : Shared) (H : Hp) (vs : List V) (Q : VK) (E : XK), Room k (A.deeper (envOfC qual scope s.heap.objs.size f cdv)) → sp vs H Q E →
      ∃ t, PSs (cxOf CX P w K mg base N qual scope f cdv A outer s H E) body t ∧ t { nx := fun _ H' => Q .non H', rt := Q } (start N vs) H) :
    FnOk P w K mg base CX (k + 1) f (PySem.W.fnOf name qual params body scope dV kV doc pm an cdv ct) ps sp := by
  refine ⟨len, fun A outer s H args us vs Q E hr e0 hb r hsp => ?_⟩
  have hl := len _ _ _ _ hsp
  have KX : K.In s.heap := e0.mod.kin.keeps fun b o e => (e0.bs b o e).1
  have lim : s.heap.NoLimit := e0.mod.nolimit.keeps fun b o e => (e0.bs b o e).1
  have hkind : ∀ y ∈ ps.zip us, scope.names.lookup y.1 = some .local ∨ (scope.names.lookup y.1 = some .cell ∧ ((cellsFrom (s.heap.objs.size + 1) scope.names []).lookup y.1).isSome = true) := fun ⟨n, v⟩ hy => by
    rcases S.par n (List.of_mem_zip hy).1 with q | q
    · exact .inl q
    · exact .inr ⟨q, PySem.W.cellsFrom_some _ _ _ (.inl q)⟩
  refine codeAny_call_function hr.depth (KX _ _ lk) rfl S.co S.gen rfl (PySem.W.codeRec_of KX hcd) (hb _ _ _ _ ?_)
  refine wpAny_newFunctionEnv_cells S.kind hkind fun env he s1 x => ?_
  subst he
  refine ⟨lim.keeps x.toInCall.keep, codeAny_func ?_⟩
  obtain ⟨t, ht, hq⟩ := hbody A outer s H vs Q E (hr.deeper _) hsp
  have I : Inv (cxOf CX P w K mg base N qual scope f cdv A outer s H E) [] (start N vs) H s1 := inv_start S hr.hd e0 hl r x
  refine wpAny_mono (ht [] s1 (start N vs) H _ I hq) (fun fl s' hs => ?_) fun e s' hs => hs
  have fin : ∀ {σ' : St} {H' : Hp} {v : V} {u : Value}, Inv (cxOf CX P w K mg base N qual scope f cdv A outer s H E) [] σ' H' s' → RelV v u → Q v H' → CE outer P w H s Q u s' :=
    fun {σ' H' v u} J rv q => ⟨v, H', J.os, J.bare, J.base, J.hok, rv, q⟩
  cases fl with
  | ret u =>
    obtain ⟨v, σ', H', J, rv, q⟩ := hs
    exact fin J rv q
  | next =>
    obtain ⟨σ', H', J, q⟩ := hs
    exact fin (v := V.non) (u := Value.none) J rfl q
  | brk =>
    obtain ⟨_, _, _, q⟩ := hs
    exact False.elim q
  | cont =>
    obtain ⟨_, _, _, q⟩ := hs
    exact False.elim q
end L2

namespace L2
open PySem PySem.Spec PyProof.Rows
section
variable {X : Cx} {x : Str} {p pos : Pos} {e : Expr} {es : List Expr} {t : TA} {id T : String} {r : List V → Hp → VK → Prop}

noncomputable def tCB (r : List V → Hp → VK → Prop) (t : TA) : TE := fun σ H Q => t σ H fun vs H1 => r vs H1 Q
/-- f(e, ..), f a built-in function -/
theorem pe_callB (hc : CallR X (.builtin id) r) (hg : Gl X x) (hm : X.mg x = none) (hv : bootBuiltins x = some (.builtin id)) (ha : PA X (e :: es) t) (hn : x ≠ "__name__" := by decide) (hdb : (x == ("__debug__" : Str)) = false := by decide)
    (he : starEach (e :: es) X.env = (false, eval e X.env) :: starEach es X.env := by rfl) (hpl : (backTo pos (starEach es X.env)).any (·.1) = false := by rfl) : PE X (.Call (.Name x p) (e :: es) [] pos) (tCB r t) := by
  intro pins s σ H Q I h
  refine wpAny_Call_Name_kw (ld_blt I hg hm hv ?_ hn hdb)
  exact PyProof.Rows.callWith_builtin1 (thn (ha pos pins s σ H _ I h) fun us s1 ⟨vs, H1, I1, r1, q1⟩ => hc pins s1 σ H1 vs us Q I1 r1 q1) he hpl
/-- T(e, ..), T a built-in type -/
theorem pe_callTy (hc : CallR X (.type T) r) (hg : Gl X x) (hm : X.mg x = none) (hv : bootBuiltins x = some (.type T)) (ha : PA X (e :: es) t) (hn : x ≠ "__name__" := by decide) (hdb : (x == ("__debug__" : Str)) = false := by decide)
    (he : starEach (e :: es) X.env = (false, eval e X.env) :: starEach es X.env := by rfl) (hpl : (backTo pos (starEach es X.env)).any (·.1) = false := by rfl) : PE X (.Call (.Name x p) (e :: es) [] pos) (tCB r t) := by
  intro pins s σ H Q I h
  refine wpAny_Call_Name_kw (ld_blt I hg hm hv ?_ hn hdb)
  exact PyProof.Rows.callWith_type1 (thn (ha pos pins s σ H _ I h) fun us s1 ⟨vs, H1, I1, r1, q1⟩ => hc pins s1 σ H1 vs us Q I1 r1 q1) he hpl
end
end L2

namespace HT
open PySem PyProof.Rows

section
open PySem.SeqAt
open PySem.AutoSeq1 (wpAny_loadPart')
open PySem.MeetsSeq PySem.MeetsSeq2 PySem.MeetsSeq3

end

section
variable {prog : Program} {w : World} {A : Around} {E : Value → Shared → Prop} {s : Shared}

/-- t + u, t not empty -/
theorem cat_tup {t b : Addr} {vs ws : List Value} {Q : Value → Shared → Prop} (ht : IsTup s.heap t vs.toArray) (hb : IsTup s.heap b ws.toArray) (hv : vs ≠ [])
    (h1 : ws = [] → Q (.ref t) s) (h2 : ws ≠ [] → Q (.ref s.heap.objs.size) { s with heap := s.heap.push { cls := .type "tuple", data := .seq (vs ++ ws).toArray } })
    (hsz : vs.length + ws.length ≤ sizeLine) : wpAny (model prog w) A (binaryOp .Add (.ref t) (.ref b)) Q E s := by
  obtain ⟨⟨cls, dd, data, sl⟩, ho, hc, n, hd⟩ := id ht
  obtain ⟨⟨cls2, dd2, data2, sl2⟩, ho2, hc2, n2, hd2⟩ := id hb
  simp only at hc hd hc2 hd2
  subst hc hd hc2 hd2
  have e : vs.toArray ++ ws.toArray = (vs ++ ws).toArray := by simp
  by_cases hw : ws = []
  · exact concat_meets ⟨_, ho, rfl⟩ ⟨_, ho2, rfl⟩ noFill_tuple_add seq_tuple_add PySem.F.slot_tuple_add PySem.F.entry_tuple_add (PySem.F.args_tuple_add_2 _ _)
      (tuple_addW1 t b vs.toArray ws.toArray n n2 dd dd2 sl sl2 (by simpa using hv) (by simp [hw])) ⟨ho, ho2, h1 hw⟩
  · refine concat_meets ⟨_, ho, rfl⟩ ⟨_, ho2, rfl⟩ noFill_tuple_add seq_tuple_add PySem.F.slot_tuple_add PySem.F.entry_tuple_add (PySem.F.args_tuple_add_2 _ _)
      (tuple_addW2 t b vs.toArray ws.toArray n n2 dd dd2 sl sl2 (by simpa using hv) (by simpa using hw) (by rw [List.size_toArray, List.size_toArray]; exact hsz)) ⟨ho, ho2, ?_⟩
    rw [e]
    exact h2 hw

/-! ### t[a:b], not the whole -/
/-- a slice's bound as a place among n (d where it is left out) -/
noncomputable def sIx (n d : Nat) : Option Int → Nat
  | none => d
  | some v => if v < 0 then (v + (n : Int)).toNat else min v.toNat n
theorem sIx_nat (n d k : Nat) : sIx n d (some (k : Int)) = min k n := by
  show (if (k : Int) < 0 then ((k : Int) + (n : Int)).toNat else min (k : Int).toNat n) = min k n
  rw [if_neg (by omega), Int.toNat_natCast]
theorem sIx_le (n d : Nat) (hd : d ≤ n) (o : Option Int) : sIx n d o ≤ n := by
  cases o with
  | none => exact hd
  | some v =>
    show (if v < 0 then (v + (n : Int)).toNat else min v.toNat n) ≤ n
    by_cases hv : v < 0
    · rw [if_pos hv]; omega
    · rw [if_neg hv]; exact Nat.min_le_right _ _
theorem clip_eq (v : Int) (n d : Nat) : (if v < 0 then max (v + (n : Int)) 0 else min v (n : Int)) = ((sIx n d (some v) : Nat) : Int) := by
  show (if v < 0 then max (v + (n : Int)) 0 else min v (n : Int)) = (((if v < 0 then (v + (n : Int)).toNat else min v.toNat n) : Nat) : Int)
  by_cases hv : v < 0
  · simp only [if_pos hv]; omega
  · simp only [if_neg hv]; omega
theorem adjust_gen (lo hi : Option Int) (n : Nat) : Builtin.Slice.sliceAdjust lo hi 1 (n : Int) = (((sIx n 0 lo : Nat) : Int), ((sIx n n hi : Nat) : Int)) := by
  have h1 : ¬ ((1 : Int) < 0) := by omega
  unfold Builtin.Slice.sliceAdjust
  simp only [h1, if_false]
  refine Prod.ext ?_ ?_
  · cases lo with
    | none => rfl
    | some v => exact clip_eq v n 0
  · cases hi with
    | none => rfl
    | some v => exact clip_eq v n n
theorem places_gen (i j : Nat) : Builtin.Slice.slicePlaces (i : Int) (j : Int) 1 = j - i := by
  unfold Builtin.Slice.slicePlaces
  have h1 : (1 : Int) > 0 := by omega
  simp only [h1, if_true, Int.ediv_one]
  split <;> omega
theorem slicePart_ {v : Value} {o : Option Int} {Q : Option Int → Shared → Prop} (p : IsPart v o) (h : Q o s) : wpAny (model prog w) A (Builtin.Slice.slicePartIndex v) Q E s := by
  cases p with
  | none => exact slicePart_none h
  | int i t => exact slicePart_int h
theorem sliceApplied_gen {sl : Addr} {vl vu : Value} {lo hi : Option Int} {n : Nat} {Q : Int × Int × Nat → Shared → Prop} (hs : s.heap.IsSliceOf sl vl vu .none) (pl : IsPart vl lo) (pu : IsPart vu hi)
    (h : Q (((sIx n 0 lo : Nat) : Int), 1, sIx n n hi - sIx n 0 lo) s) : wpAny (model prog w) A (Builtin.Slice.sliceApplied (.ref sl) (pure (n : Int))) Q E s := by
  obtain ⟨os, hos, hcs, hds⟩ := id hs
  unfold Builtin.Slice.sliceApplied Builtin.Slice.sliceFields
  refine wpAny_bind (wpAny_bind (wpAny_field hos hds (x := vl) rfl (wpAny_bind (wpAny_field hos hds (x := vu) rfl (wpAny_bind (wpAny_field hos hds (x := .none) rfl (wpAny_pure ?_)))))))
  refine wpAny_bind (slicePart_none ?_)
  show wpAny _ _ (if ((1 : Int) == 0) = true then _ else _) _ _ s
  rw [if_neg (by decide)]
  refine wpAny_bind (slicePart_ pl (wpAny_bind (slicePart_ pu (wpAny_bind (wpAny_pure ?_)))))
  show wpAny _ _ (match Builtin.Slice.sliceAdjust lo hi 1 (n : Int) with | (lo, hi) => pure (lo, (1 : Int), Builtin.Slice.slicePlaces lo hi 1)) _ _ s
  rw [adjust_gen lo hi n]
  show wpAny _ _ (pure (((sIx n 0 lo : Nat) : Int), (1 : Int), Builtin.Slice.slicePlaces ((sIx n 0 lo : Nat) : Int) ((sIx n n hi : Nat) : Int) 1)) _ _ s
  rw [places_gen]
  exact wpAny_pure h
theorem pick_gen (xs : Array Value) (i k : Nat) : ((List.range k).filterMap fun (m : Nat) => xs[((i : Int) + (m : Int) * 1).toNat]?).toArray = ((xs.toList.drop i).take k).toArray := by
  have e : (fun (m : Nat) => xs[((i : Int) + (m : Int) * 1).toNat]?) = fun m => xs[i + m]? := by
    funext m
    have : ((i : Int) + (m : Int) * 1).toNat = i + m := by omega
    rw [this]
  rw [e]
  have := pick_run xs i k
  rw [List.filterMap_map] at this
  have e2 : ((fun x => xs[x]?) ∘ fun x => i + x) = fun m => xs[i + m]? := rfl
  rw [e2] at this
  rw [this]

theorem getItem_tuple_cut {t sl : Addr} {items : Array Value} {vl vu : Value} {lo hi : Option Int} {Q : Value → Shared → Prop} (ht : IsTup s.heap t items) (hs : s.heap.IsSliceOf sl vl vu .none) (pl : IsPart vl lo) (pu : IsPart vu hi)
    (hw : ¬ (sIx items.size 0 lo = 0 ∧ sIx items.size items.size hi = items.size))
    (h : Q (.ref s.heap.objs.size) { s with heap := s.heap.push { cls := .type "tuple", data := .seq ((items.toList.drop (sIx items.size 0 lo)).take (sIx items.size items.size hi - sIx items.size 0 lo)).toArray } })
    (hsz : items.size ≤ sizeLine) : wpAny (model prog w) A (getItem (.ref t) (.ref sl)) Q E s := by
  have htake : sizeOk (.seq ((items.toList.drop (sIx items.size 0 lo)).take (sIx items.size items.size hi - sIx items.size 0 lo)).toArray) := by
    show ((items.toList.drop (sIx items.size 0 lo)).take (sIx items.size items.size hi - sIx items.size 0 lo)).toArray.size ≤ sizeLine
    rw [List.size_toArray, List.length_take, List.length_drop, Array.length_toList]
    omega
  have hj : sIx items.size items.size hi ≤ items.size := sIx_le _ _ (Nat.le_refl _) hi
  obtain ⟨os, hos, hcs, hds⟩ := id hs
  have hTs : s.TypeIs (.ref sl) "slice" := ⟨os, hos, hcs⟩
  unfold getItem
  try with_reducible refine wpAny_holding ?_
  first | refine wpAny_bind (wpAny_pure ?_) | skip
  refine wpAny_bind (wpAny_sequenceKey ht.typeIs (by decide) ?_)
  refine wpAny_bind (wpAny_callSpecial?_slot (name := Str.ofString "__getitem__") ht.typeIs PyProof.Rows.slot_tuple_getitem
    (wpAny_call_entry PyProof.Rows.slot_tuple_getitem ht.typeIs entry_tuple_getitem ?_ (args_tuple_getitem _ _)))
  show wpAny _ _ (Builtin.Tuple.tupleItemsOf (.ref t) >>= _) _ _ s
  refine wpAny_bind (tupleItemsOf_ ht ?_)
  refine wpAny_bind (wpAny_typeOf hTs ?_)
  rw [if_pos (by decide)]
  refine wpAny_bind (sliceApplied_gen hs pl pu ?_)
  have hno : ¬ ((((sIx items.size 0 lo : Nat) : Int) == 0 && (1 : Int) == 1 && (sIx items.size items.size hi - sIx items.size 0 lo) == items.size) = true) := by
    intro q
    rw [Bool.and_eq_true, Bool.and_eq_true] at q
    have q1 : ((sIx items.size 0 lo : Nat) : Int) = 0 := eq_of_beq q.1.1
    have q2 : sIx items.size items.size hi - sIx items.size 0 lo = items.size := eq_of_beq q.2
    exact hw ⟨by omega, by omega⟩
  show wpAny _ _ (if (((sIx items.size 0 lo : Nat) : Int) == 0 && (1 : Int) == 1 && (sIx items.size items.size hi - sIx items.size 0 lo) == items.size) = true then _ else _) _ _ s
  rw [if_neg hno, pick_gen]
  first
    | exact wpAny_bind (m := Builtin.Tuple.tupleExact _) (wpAny_newObj_type (wpAny_pure ⟨_, rfl, wpAny_pure h⟩) htake)
    | exact wpAny_bind (m := Builtin.Tuple.tupleExact _) (wpAny_newObj_type (wpAny_bind (wpAny_pure (wpAny_pure ⟨_, rfl, wpAny_pure h⟩))) htake)
    | exact wpAny_bind (wpAny_bind (m := Builtin.Tuple.tupleExact _) (wpAny_newObj_type (wpAny_pure (wpAny_pure ⟨_, rfl, wpAny_pure h⟩)) htake))
    | exact wpAny_bind (wpAny_bind (m := Builtin.Tuple.tupleExact _) (wpAny_newObj_type (wpAny_pure ⟨_, rfl, wpAny_pure h⟩) htake))
end
end HT

namespace L2
open PySem PySem.Spec PyProof.Rows

/-! ### the parts of a slice -/
noncomputable abbrev TO := St → Hp → (Option Int → Hp → Prop) → Prop
/-- a slice's part (left out, or an int) -/
noncomputable def PO (X : Cx) (e : Option Expr) (t : TO) : Prop :=
  ∀ (pins : List (Addr × Obj)) (s : Shared) (σ : St) (H : Hp) (Q : Option Int → Hp → Prop), Inv X pins σ H s → t σ H Q →
    wpAny (model X.prog X.w) X.A (evalPart e X.env) (fun u s' => ∃ o H', Inv X pins σ H' s' ∧ IsPart u o ∧ Q o H') X.xe s
noncomputable def tNoPart : TO := fun _ H Q => Q none H
noncomputable def tPart (t : TE) : TO := fun σ H Q => t σ H fun x H1 => ∃ i, x = .int i ∧ Q (some i) H1

section
variable {X : Cx} {e : Expr} {te : TE} {lo hi : Option Expr} {tl th : TO} {pos p2 : Pos}

theorem po_none : PO X none tNoPart := by
  intro pins s σ H Q I h
  rw [evalPart_none]
  exact wpAny_pure ⟨none, H, I, .none, h⟩
theorem po_some (h : PE X e te) : PO X (some e) (tPart te) := by
  intro pins s σ H Q I hw
  rw [evalPart_some]
  refine thn (h pins s σ H _ I hw) fun u s1 ⟨x, H1, I1, r1, q1⟩ => ?_
  obtain ⟨i, rfl, q⟩ := q1
  obtain ⟨t, rfl⟩ := r1
  exact ⟨some i, H1, I1, .int i t, q⟩

/-- what a slice of a value is, by values: the slice object stands at sl -/
noncomputable def SlR (X : Cx) (r : V → Option Int → Option Int → Hp → VK → Prop) : Prop :=
  ∀ (pins : List (Addr × Obj)) (s : Shared) (σ : St) (H : Hp) (x : V) (v vl vu : Value) (lo hi : Option Int) (sl : Addr) (Q : VK), Inv X pins σ H s → RelV x v → s.heap.IsSliceOf sl vl vu .none → IsPart vl lo → IsPart vu hi → r x lo hi H Q →
    ∃ T id, typeLookup (.type T) "__getitem__" = pure (some (.builtin id)) ∧ s.TypeIs v T ∧ wpAny (model X.prog X.w) X.A (getItem v (.ref sl)) (EP X pins σ Q) X.xe s
noncomputable def tSl (r : V → Option Int → Option Int → Hp → VK → Prop) (te : TE) (tl th : TO) : TE := fun σ H Q => te σ H fun x H1 => tl σ H1 fun l H2 => th σ H2 fun u H3 => r x l u H3 Q
/-- a[lo:hi], any a -/
theorem pe_slice {r : V → Option Int → Option Int → Hp → VK → Prop} (hr : SlR X r) (he : PE X e te) (hl : PO X lo tl) (hu : PO X hi th) : PE X (.Subscript e (.Slice lo hi none p2) pos) (tSl r te tl th) := by
  intro pins s σ H Q I h
  refine Subscript_ (thn (he pins s σ H _ I h) fun v s1 ⟨x, H1, I1, r1, q1⟩ => ?_)
  refine wpAny_Slice (thn (hl pins s1 σ H1 _ I1 q1) fun vl s2 ⟨l, H2, I2, pl, q2⟩ => thn (hu pins s2 σ H2 _ I2 q2) fun vu s3 ⟨u, H3, I3, pu, q3⟩ => ?_)
  rw [evalPart_none]
  refine wpAny_pure ?_
  have I4 : Inv X pins σ H3 { s3 with heap := s3.heap.push { cls := .type "slice", data := .fields #[vl, vu, .none] } } := I3.kept (t' := s3.toks) fun b ob q => Heap.get?_push_of_some _ q
  obtain ⟨T, id, hT, ht, hg⟩ := hr pins { s3 with heap := s3.heap.push { cls := .type "slice", data := .fields #[vl, vu, .none] } } σ H3 x v vl vu l u s3.heap.objs.size Q I4 r1 (Heap.IsSliceOf.new ..) pl pu q3
  show wpAny (model X.prog X.w) X.A (subscriptTail e (.Slice lo hi none p2) v (.ref s3.heap.objs.size)) (EP X pins σ Q) X.xe { s3 with heap := s3.heap.push { cls := .type "slice", data := .fields #[vl, vu, .none] } }
  exact tail_any (ops := [.ref s3.heap.objs.size, v]) ht hT hg (by with_unfolding_all rfl)

/-- the items of xs[lo:hi] -/
noncomputable def cutV (xs : List V) (lo hi : Option Int) : List V := (xs.drop (HT.sIx xs.length 0 lo)).take (HT.sIx xs.length xs.length hi - HT.sIx xs.length 0 lo)
theorem cutV_length (xs : List V) (lo hi : Option Int) : (cutV xs lo hi).length ≤ xs.length := by
  unfold cutV
  rw [List.length_take, List.length_drop]
  omega
/-- t[lo:hi], not the whole of it (the whole would be t itself) -/
noncomputable def rSlT (K : PySem.W.Frag) : V → Option Int → Option Int → Hp → VK → Prop := fun x lo hi H Q => ∃ a xs, x = .ref a ∧ SqT K H a xs ∧
  ¬ (HT.sIx xs.length 0 lo = 0 ∧ HT.sIx xs.length xs.length hi = xs.length) ∧ ∀ p, H p = none → Q (.ref p) (upd H p (.tup (cutV xs lo hi)))
theorem sl_tup : SlR X (rSlT X.K) := by
  intro pins s σ H x v vl vu lo hi sl Q I rx hs pl pu h
  obtain ⟨a, xs, rfl, hx, hw, q⟩ := h
  cases rx
  obtain ⟨its, r, ht, hz⟩ := I.tuple hx
  have hlen : its.toArray.size = xs.length := by rw [List.size_toArray]; exact r.length.symm
  refine ⟨"tuple", _, PyProof.Rows.slot_tuple_getitem.lookup, ht.typeIs, ?_⟩
  refine HT.getItem_tuple_cut ht hs pl pu (by rw [hlen]; exact hw) ?_ (by rw [hlen]; exact hz)
  rw [hlen]
  refine ⟨.ref s.heap.objs.size, _, I.laid (t' := s.toks) (o := .tup (cutV xs lo hi)) (fun b ob q => Heap.get?_push_of_some _ q) (Nat.le_refl _) ?_, rfl, q _ (I.hok.fresh (Nat.le_refl _))⟩
  exact ⟨Nat.le_trans (cutV_length xs lo hi) hz, _, (r.drop (HT.sIx xs.length 0 lo)).take (HT.sIx xs.length xs.length hi - HT.sIx xs.length 0 lo), IsTup.new _ _⟩

/-! ### t < u, t + u -/
/-- t + u, t not empty: u empty gives t itself -/
noncomputable def rCatT (K : PySem.W.Frag) : R2 := fun x y H Q => ∃ a b xs ys, x = .ref a ∧ y = .ref b ∧ SqT K H a xs ∧ SqT K H b ys ∧ xs ≠ [] ∧ xs.length + ys.length ≤ sizeLine ∧
  (ys = [] → Q (.ref a) H) ∧ (ys ≠ [] → ∀ p, H p = none → Q (.ref p) (upd H p (.tup (xs ++ ys))))
theorem Vals.nil_iff {xs : List V} {us : List Value} (r : Vals xs us) : us = [] ↔ xs = [] := by
  cases r with
  | nil => simp
  | cons _ _ => simp
theorem op_catT : OpR X (binaryOp .Add) (rCatT X.K) := by
  intro pins s σ H x y v u Q I rx ry h
  obtain ⟨a, b, xs, ys, rfl, rfl, ha, hb, hx, hz, q1, q2⟩ := h
  cases rx
  cases ry
  obtain ⟨its, r1, p1, _⟩ := I.tuple ha
  obtain ⟨its2, r2, p2, _⟩ := I.tuple hb
  refine HT.cat_tup p1 p2 (fun z => hx (r1.nil_iff.mp z)) (fun z => ⟨.ref a, H, I, rfl, q1 (r2.nil_iff.mp z)⟩) (fun z => ?_) (by rw [← r1.length, ← r2.length]; exact hz)
  refine ⟨.ref s.heap.objs.size, _, I.laid (t' := s.toks) (o := .tup (xs ++ ys)) (fun b ob q => Heap.get?_push_of_some _ q) (Nat.le_refl _) ?_, rfl, q2 (fun w => z (r2.nil_iff.mpr w)) _ (I.hok.fresh (Nat.le_refl _))⟩
  exact ⟨by rw [List.length_append]; exact hz, _, r1.append r2, IsTup.new _ _⟩
end
end L2

namespace L2
open PySem PySem.Spec PyProof.Rows

/-! ### places -/
/-- the place that an index of any sign means -/
noncomputable def ixN (n : Nat) (i : Int) : Option Nat := if 0 ≤ i then (if i < n then some i.toNat else none) else if -(n : Int) ≤ i then some (i + n).toNat else none
noncomputable def atI {α : Type} (xs : List α) (i : Int) : Option α := (ixN xs.length i).bind fun j => xs[j]?
theorem ixN_seq {n : Nat} {i : Int} {j : Nat} (h : ixN n i = some j) : seqIndex? i n = some j ∧ j < n ∧ -(n : Int) ≤ i ∧ i < n := by
  unfold ixN at h
  by_cases h0 : 0 ≤ i
  · rw [if_pos h0] at h
    by_cases h1 : i < n
    · rw [if_pos h1] at h
      have e : i.toNat = j := Option.some.inj h
      exact ⟨by rw [seqIndex_of h0 h1, e], by omega, by omega, h1⟩
    · rw [if_neg h1] at h; cases h
  · rw [if_neg h0] at h
    by_cases h1 : -(n : Int) ≤ i
    · rw [if_pos h1] at h
      have e : (i + n).toNat = j := Option.some.inj h
      exact ⟨by rw [seqIndex_neg (by omega) h1, e], by omega, h1, by omega⟩
    · rw [if_neg h1] at h; cases h
theorem atI_get {α : Type} {xs : List α} {i : Int} {v : α} (h : atI xs i = some v) : ∃ j, seqIndex? i xs.length = some j ∧ xs[j]? = some v ∧ j < xs.length ∧ -(xs.length : Int) ≤ i ∧ i < xs.length := by
  unfold atI at h
  cases e : ixN xs.length i with
  | none => rw [e] at h; cases h
  | some j =>
    rw [e] at h
    obtain ⟨h1, h2, h3, h4⟩ := ixN_seq e
    exact ⟨j, h1, h, h2, h3, h4⟩
theorem atI_nat {α : Type} {xs : List α} {j : Nat} {v : α} (h : xs[j]? = some v) : atI xs (j : Int) = some v := by
  have hj : j < xs.length := (List.getElem?_eq_some_iff.mp h).1
  have e : ixN xs.length (j : Int) = some j := by
    unfold ixN
    rw [if_pos (by omega), if_pos (by omega)]; simp
  unfold atI; rw [e]; exact h

/-! ### what may be subscripted -/
/-- what stands as an index of a plain subscript -/
noncomputable def PlainIx (b : Expr) : Prop := ∀ o i, subscripted b false o i = operate [o, i] (getItem o i)
/-- a subscript by values -/
noncomputable def IxR (X : Cx) (r : R2) : Prop :=
  ∀ (value slice : Expr) (pins : List (Addr × Obj)) (s : Shared) (σ : St) (H : Hp) (x y : V) (v u : Value) (Q : VK), Inv X pins σ H s → RelV x v → RelV y u → r x y H Q →
    subscripted slice false v u = operate [v, u] (getItem v u) → wpAny (model X.prog X.w) X.A (subscriptTail value slice v u) (EP X pins σ Q) X.xe s
/-- a call of a builtin's method by values: the receiver, the arguments -/
noncomputable def MtR (X : Cx) (id : String) (r : V → List V → Hp → VK → Prop) : Prop :=
  ∀ (pins : List (Addr × Obj)) (s : Shared) (σ : St) (H : Hp) (x : V) (xs : List V) (v : Value) (us : List Value) (Q : VK), Inv X pins σ H s → RelV x v → Vals xs us → r x xs H Q →
    wpAny (model X.prog X.w) X.A (call (.builtin id) (v :: us)) (EP X pins σ Q) X.xe s
section
variable {X : Cx} {a b : Expr} {ta tb : TE} {pos : Pos}
/-- a[b] -/
theorem pe_ix {r : R2} (hr : IxR X r) (ha : PE X a ta) (hb : PE X b tb) (hs : PlainIx b) : PE X (.Subscript a b pos) (tOp r ta tb) := by
  intro pins s σ H Q I h
  exact Subscript_ (binT ha hb I h fun v u s2 x y H2 I2 rx ry q => hr a b pins s2 σ H2 x y v u Q I2 rx ry q (hs _ _))

noncomputable def rIxL (K : PySem.W.Frag) : R2 := fun x y H Q => ∃ p xs i v, x = .ref p ∧ y = .int i ∧ SqL K H p xs ∧ atI xs i = some v ∧ Q v H
noncomputable def rIxT (K : PySem.W.Frag) : R2 := fun x y H Q => ∃ p xs i v, x = .ref p ∧ y = .int i ∧ SqT K H p xs ∧ atI xs i = some v ∧ Q v H
noncomputable def rIxS : R2 := fun x y H Q => ∃ z i c, x = .str z ∧ y = .int i ∧ z.length ≤ sizeLine ∧ atI z.cps.toList i = some c ∧ Q (.str ⟨#[c]⟩) H
theorem ix_list : IxR X (rIxL X.K) := by
  intro value slice pins s σ H x y v u Q I rx ry h hs
  obtain ⟨p, xs, i, z, rfl, rfl, hq, he, q⟩ := h
  cases rx
  obtain ⟨t, rfl⟩ := ry
  obtain ⟨its, r, pl, hz⟩ := I.list hq
  obtain ⟨j, h1, h2, h3, h4, h5⟩ := atI_get he
  obtain ⟨w, ew, rw'⟩ := r.get h2
  have hl := r.length
  have hn := line63
  have fin : EP X pins σ Q w s := ⟨z, H, I, rw', q⟩
  by_cases h0 : 0 ≤ i
  · have hj : i.toNat = j := by
      rw [seqIndex_of h0 h5] at h1
      exact Option.some.inj h1
    exact item_listR pl.isList h0 (by omega) (by rw [hj]; simpa using ew) fin hs
  · have hj : (i + (its.toArray.size : Int)).toNat = j := by
      rw [seqIndex_neg (by omega) h4] at h1
      rw [List.size_toArray, ← hl]
      exact Option.some.inj h1
    exact subscriptTail_builtinR (x := w) pl.isList.typeIs slot_list_getitem.lookup
      (wpAny_getItem_list_neg (Q := fun r s' => r = w ∧ EP X pins σ Q r s') pl.isList (by omega) (by rw [List.size_toArray] <;> omega) (by omega) (by rw [hj]; simpa using ew) ⟨rfl, fin⟩) hs
theorem ix_tup : IxR X (rIxT X.K) := by
  intro value slice pins s σ H x y v u Q I rx ry h hs
  obtain ⟨p, xs, i, z, rfl, rfl, hq, he, q⟩ := h
  cases rx
  obtain ⟨t, rfl⟩ := ry
  obtain ⟨its, r, pl, hz⟩ := I.tuple hq
  obtain ⟨j, h1, h2, h3, h4, h5⟩ := atI_get he
  obtain ⟨w, ew, rw'⟩ := r.get h2
  have hl := r.length
  have hn := line63
  have fin : EP X pins σ Q w s := ⟨z, H, I, rw', q⟩
  exact subscriptTail_builtinR (x := w) pl.typeIs slot_tuple_getitem.lookup
    (getItem_tuple (j := j) (Q := fun r s' => r = w ∧ EP X pins σ Q r s') pl (by omega) (by omega) (by rw [List.size_toArray, ← hl]; exact h1) (by simpa using ew) ⟨rfl, fin⟩) hs
theorem ix_str : IxR X rIxS := by
  intro value slice pins s σ H x y v u Q I rx ry h hs
  obtain ⟨z, i, c, rfl, rfl, hz, he, q⟩ := h
  obtain ⟨t, rfl⟩ := rx
  obtain ⟨t', rfl⟩ := ry
  obtain ⟨j, h1, h2, h3, h4, h5⟩ := atI_get he
  have hl : z.cps.toList.length = z.length := by simp [Str.length]
  rw [hl] at h1 h4 h5
  have hn := line63
  exact tail_any (typeIs_str s z t) slot_str_getitem.lookup (getItem_str (c := c) (by
    have e1 : decide (i < -(2 ^ 63 : Int)) = false := decide_eq_false (by omega)
    have e2 : decide (i ≥ 2 ^ 63) = false := decide_eq_false (by omega)
    rw [e1, e2, Bool.or_false]) (by rw [h1]; simpa using h2) ⟨.str ⟨#[c]⟩, H, I.tok _, ⟨_, rfl⟩, q⟩) hs

/-! ### xs[i] = v, any sign -/

/-! ### slices -/
theorem slice_bounds (lo hi : Option Int) (n : Nat) : (sliceBounds lo hi none n).1 = ((HT.sIx n 0 lo : Nat) : Int) ∧ (sliceBounds lo hi none n).2.1 = ((HT.sIx n n hi : Nat) : Int) ∧ (sliceBounds lo hi none n).2.2 = 1 := by
  refine ⟨?_, ?_, rfl⟩
  · cases lo with
    | none => simp [sliceBounds, HT.sIx]
    | some i =>
      simp only [sliceBounds, HT.sIx, Option.getD_none, show (1 : Int) > 0 by decide, if_true]
      by_cases h : i < 0
      · simp only [h, if_true] <;> omega
      · simp only [h, if_false] <;> omega
  · cases hi with
    | none => simp [sliceBounds, HT.sIx]
    | some i =>
      simp only [sliceBounds, HT.sIx, Option.getD_none, show (1 : Int) > 0 by decide, if_true]
      by_cases h : i < 0
      · simp only [h, if_true] <;> omega
      · simp only [h, if_false] <;> omega
theorem slicePick_cut (its : List Value) (lo hi : Option Int) : slicePick its.toArray lo hi none = ((its.drop (HT.sIx its.length 0 lo)).take (HT.sIx its.length its.length hi - HT.sIx its.length 0 lo)).toArray := by
  obtain ⟨h1, h2, h3⟩ := slice_bounds lo hi its.toArray.size
  unfold slicePick
  rw [h1, h2, h3]
  simp only [sliceRange_one, pick_run, List.size_toArray] <;> rfl
/-- xs[lo:hi] of a list: a new list -/
noncomputable def rSlL (K : PySem.W.Frag) : V → Option Int → Option Int → Hp → VK → Prop := fun x lo hi H Q => ∃ a xs, x = .ref a ∧ SqL K H a xs ∧ ∀ p, H p = none → Q (.ref p) (upd H p (.lst (cutV xs lo hi)))
theorem sl_list : SlR X (rSlL X.K) := by
  intro pins s σ H x v vl vu lo hi sl Q I rx hs pl pu h
  obtain ⟨a, xs, rfl, hx, q⟩ := h
  cases rx
  obtain ⟨its, r, ht, hz⟩ := I.list hx
  have hlen := r.length
  refine ⟨"list", _, slot_list_getitem.lookup, ht.isList.typeIs, ?_⟩
  refine wpAny_getItem_list_slice ht.isList hs pl pu .none (by simp) ?_ (by rw [List.size_toArray] <;> omega)
  rw [slicePick_cut, ← hlen]
  refine ⟨.ref s.heap.objs.size, _, I.laid (t' := s.toks) (o := .lst (cutV xs lo hi)) (fun b ob q => Heap.get?_push_of_some _ q) (Nat.le_refl _) ?_, rfl, q _ (I.hok.fresh (Nat.le_refl _))⟩
  exact ⟨Nat.le_trans (cutV_length xs lo hi) hz, _, 0, (r.drop (HT.sIx xs.length 0 lo)).take (HT.sIx xs.length xs.length hi - HT.sIx xs.length 0 lo), Heap.get?_push_size _ rfl⟩

/-! ### in, not in: flat items -/

/-! ### len, list(x), tuple(x) of any list or tuple that is read -/
theorem call_len_seq : CallR X (.builtin "len") (fun xs H Q => ∃ p ys, xs = [.ref p] ∧ (SqL X.K H p ys ∨ SqT X.K H p ys) ∧ Q (.int ys.length) H) := by
  intro pins s σ H xs us Q I r h
  obtain ⟨p, ys, rfl, hq, q⟩ := h
  obtain ⟨u, rfl, rx⟩ := vals1 r
  cases rx
  have hn := line63
  rcases hq with hq | hq
  · obtain ⟨its, r', pl, hz⟩ := I.list hq
    have hlen := r'.length
    exact Calls.call_len_list pl.isList (by simp only [List.size_toArray] <;> omega) ⟨.int ys.length, H, I.tok _, ⟨s.toks + 1, by rw [List.size_toArray, hlen]⟩, q⟩
  · obtain ⟨its, r', pl, hz⟩ := I.tuple hq
    have hlen := r'.length
    exact len_tuple pl (by simp only [List.size_toArray] <;> omega) ⟨.int ys.length, H, I.tok _, ⟨s.toks + 1, by rw [List.size_toArray, hlen]⟩, q⟩
theorem call_list_of : CallR X (.type "list") (fun xs H Q => ∃ p ys, xs = [.ref p] ∧ (SqL X.K H p ys ∨ SqT X.K H p ys) ∧ ∀ l, H l = none → Q (.ref l) (upd H l (.lst ys))) := by
  intro pins s σ H xs us Q I r h
  obtain ⟨p, ys, rfl, hq, q⟩ := h
  obtain ⟨u, rfl, rx⟩ := vals1 r
  cases rx
  have fin : ∀ (its : List Value), Vals ys its → ys.length ≤ sizeLine → ∀ (h' : Heap) (c' : Nat), (∀ b o', s.heap.get? b = some o' → h'.get? b = some o') →
      h'.get? s.heap.objs.size = some { cls := .type "list", dict := none, data := .seq its.toArray c', slots := #[] } → EP X pins σ Q (.ref s.heap.objs.size) { s with heap := h' } := fun its r' hz h' c' kp e =>
    ⟨.ref s.heap.objs.size, _, I.laid (t' := s.toks) kp (Nat.le_refl _) (show ObjOk X.prog X.w _ h' _ (.lst ys) from ⟨hz, its, c', r', e⟩), rfl, q _ (I.hok.fresh (Nat.le_refl _))⟩
  rcases hq with hq | hq
  · obtain ⟨its, r', pl, hz⟩ := I.list hq
    have hlen := r'.length
    obtain ⟨o, ho, hc, n, hd⟩ := pl.isList
    exact call_list_seq p (.inl rfl) ho hc hd (fun h' c' kp e => fin its r' hz h' c' kp e) (by simp only [List.size_toArray] <;> omega)
  · obtain ⟨its, r', pl, hz⟩ := I.tuple hq
    have hlen := r'.length
    obtain ⟨o, ho, hc, n, hd⟩ := pl
    exact call_list_seq p (.inr rfl) ho hc hd (fun h' c' kp e => fin its r' hz h' c' kp e) (by simp only [List.size_toArray] <;> omega)
theorem call_tuple_of : CallR X (.type "tuple") (fun xs H Q => ∃ p ys, xs = [.ref p] ∧ ((SqL X.K H p ys ∧ ∀ l, H l = none → Q (.ref l) (upd H l (.tup ys))) ∨ (SqT X.K H p ys ∧ Q (.ref p) H))) := by
  intro pins s σ H xs us Q I r h
  obtain ⟨p, ys, rfl, h⟩ := h
  obtain ⟨u, rfl, rx⟩ := vals1 r
  cases rx
  rcases h with ⟨hq, q⟩ | ⟨hq, q⟩
  · obtain ⟨its, r', pl, hz⟩ := I.list hq
    have hlen := r'.length
    refine call_tuple_list pl.isList (fun h' kp => ?_) (by simp only [List.size_toArray] <;> omega)
    have I1 : Inv X pins σ H { s with heap := h' } := I.kept (t' := s.toks) kp
    have I2 : Inv X pins σ (upd H h'.objs.size (.tup ys)) { s with heap := h'.push { cls := .type "tuple", data := .seq its.toArray } } :=
      I1.laid (t' := s.toks) (fun b o e => Heap.get?_push_of_some _ e) (Nat.le_refl _) (show ObjOk X.prog X.w _ _ _ (.tup ys) from ⟨hz, its, r', IsTup.new _ _⟩)
    exact ⟨.ref h'.objs.size, _, I2, rfl, q _ (I1.hok.fresh (Nat.le_refl _))⟩
  · obtain ⟨its, r', pl, hz⟩ := I.tuple hq
    exact call_tuple_same pl ⟨.ref p, H, I, rfl, q⟩

/-! ### the call of a builtin's method: o.m(..) -/
/-- the value is of that builtin type -/
noncomputable def tyV (K : PySem.W.Frag) (T : String) (x : V) (H : Hp) : Prop := match x with
  | .str _ => T = "str"
  | .int _ => T = "int"
  | .ref p => (T = "list" ∧ ∃ xs, SqL K H p xs) ∨ (T = "tuple" ∧ ∃ o, K.lookup p = some o ∧ o.cls = .type "tuple" ∧ o.dict = none) ∨
      (T = "dict" ∧ ((∃ kvs, H p = some (.dK kvs)) ∨ ∃ kvs, H p = some (.dT kvs))) ∨ (T = "set" ∧ ∃ S n, H p = some (.set S n))
  | _ => False
theorem tyV_is {pins : List (Addr × Obj)} {σ : St} {H : Hp} {s : Shared} {T : String} {x : V} {v : Value} (I : Inv X pins σ H s) (r : RelV x v) (ty : tyV X.K T x H) :
    s.TypeIs v T ∧ ∀ a, v = .ref a → ∃ ob, s.heap.get? a = some ob ∧ ob.dict = none := by
  cases x with
  | str z =>
    obtain ⟨t, rfl⟩ := r
    cases (show T = "str" from ty)
    exact ⟨typeIs_str s z t, fun _ e => nomatch e⟩
  | int i =>
    obtain ⟨t, rfl⟩ := r
    cases (show T = "int" from ty)
    exact ⟨typeIs_int s i t, fun _ e => nomatch e⟩
  | ref p =>
    cases r
    rcases ty with ⟨rfl, xs, hq⟩ | ⟨rfl, o, hk, hc, hd⟩ | ⟨rfl, hk⟩ | ⟨rfl, S, n, hk⟩
    · obtain ⟨its, _, pl, _⟩ := I.list hq
      refine ⟨pl.isList.typeIs, fun a e => ?_⟩
      cases e
      obtain ⟨o, n, e, c, hd, _⟩ := pl
      exact ⟨o, e, hd⟩
    · refine ⟨⟨o, I.kIn p o hk, hc⟩, fun a e => ?_⟩
      cases e
      exact ⟨o, I.kIn _ o hk, hd⟩
    · have z : ∃ o, s.heap.get? p = some o ∧ o.ExactDict := by
        rcases hk with ⟨kvs, hk⟩ | ⟨kvs, hk⟩
        · obtain ⟨_, _, _, _, o, _, _, e, ex, _⟩ := I.hok p _ hk
          exact ⟨o, e, ex⟩
        · obtain ⟨_, _, _, _, o, _, _, e, ex, _⟩ := I.hok p _ hk
          exact ⟨o, e, ex⟩
      obtain ⟨o, e, ex⟩ := z
      refine ⟨⟨o, e, ex.1⟩, fun a e2 => ?_⟩
      cases e2
      exact ⟨o, e, ex.2.1⟩
    · obtain ⟨o, _, _, _, e, ex, _⟩ := I.hok p _ hk
      refine ⟨⟨o, e, ex.1⟩, fun a e2 => ?_⟩
      cases e2
      exact ⟨o, e, ex.2.1⟩
  | _ => exact False.elim ty
noncomputable def tBM (K : PySem.W.Frag) (T : String) (r : V → List V → Hp → VK → Prop) (to : TE) (t : TA) : TE := fun σ H Q => to σ H fun x H1 => tyV K T x H1 ∧ t σ H1 fun xs H2 => r x xs H2 Q
variable {o e : Expr} {es : List Expr} {to : TE} {t : TA} {name : Str} {apos cpos : Pos} {T id : String} {r : V → List V → Hp → VK → Prop}
theorem pe_bm (pa : PlainAttrs T) (slot : Slot T name id) (hty : typeOf (.builtin id) = pure (.type "method_descriptor")) (hm : MtR X id r) (ho : PE X o to) (ha : PA X (e :: es) t)
    (hbase : attributeBase o name X.env (eval o X.env) = eval o X.env := by rfl)
    (hfew : ((backTo cpos (starEach (e :: es) X.env)).all (fun x => !x.1) && (backToKw cpos (keywordEach [] X.env)).all (fun x => x.1.isSome)
      && decide ((e :: es).length + ([] : List Keyword).length + (if ([] : List Keyword).isEmpty then 0 else 1) < 30)) = true := by rfl)
    (hline : (apos.endLine == cpos.line) = true := by rfl) (hs : starEach (e :: es) X.env = (false, eval e X.env) :: starEach es X.env := by rfl) (hplain : (backTo cpos (starEach es X.env)).any (·.1) = false := by rfl) :
    PE X (.Call (.Attribute o name apos) (e :: es) [] cpos) (tBM X.K T r to t) := by
  intro pins s σ H Q I h
  refine wpAny_Call_method_late hbase hfew hline rfl (thn (ho pins s σ H _ I h) fun v s1 ⟨x, H1, I1, r1, ty, q1⟩ => ?_)
  obtain ⟨h1, h2⟩ := tyV_is I1 r1 ty
  refine ⟨T, id, pa, slot, hty, h1, h2, ?_⟩
  have hA := ha cpos pins s1 σ H1 _ I1 q1
  rw [hs] at hA ⊢
  refine Calls.callWith_builtin (by show (false || (backTo cpos (starEach es X.env)).any (·.1)) = false; rw [hplain] <;> rfl) (Calls.evalArgs_plain ?_)
  exact thn hA fun us s2 ⟨vs, H2, I2, r2, q2⟩ => hm pins s2 σ H2 x vs v us Q I2 r1 r2 q2
/- xs.append(e), list.index on a module's tuple .. are MtR facts of 06m -/
end
end L2

namespace L2
open PySem PySem.Spec PyProof.Rows

noncomputable def MtM (X : Cx) (id : String) (r : V → List V → Hp → VK → Prop) : Prop :=
  ∀ (pins : List (Addr × Obj)) (s : Shared) (σ : St) (H : Hp) (x : V) (xs : List V) (v : Value) (us : List Value) (Q : VK), Inv X pins σ H s → RelV x v → Vals xs us → r x xs H Q →
    wpAny (model X.prog X.w) X.A (call (.builtin id) (v :: us)) (EP X pins σ Q) X.xe s

/-! ### lists of values -/
theorem Vals.one : ∀ {x : V} {us : List Value}, Vals [x] us → ∃ u, us = [u] ∧ RelV x u
  | _, _, .cons r .nil => ⟨_, rfl, r⟩
theorem Vals.two : ∀ {x y : V} {us : List Value}, Vals [x, y] us → ∃ u v, us = [u, v] ∧ RelV x u ∧ RelV y v
  | _, _, _, .cons r (.cons q .nil) => ⟨_, _, rfl, r, q⟩

section
variable {X : Cx} {pins : List (Addr × Obj)} {σ : St} {H : Hp} {s : Shared} {l b : Addr} {xs ys zs : List V}

/-! ### the two steps: a tracked list is rewritten, a new list is laid -/
theorem Inv.lset {its its' : List Value} {n : Nat} {f : Array Value → Array Value} {t' : Nat} (I : Inv X pins σ H s) (hH : H l = some (.lst xs))
    (e : s.heap.get? l = some { cls := .type "list", data := .seq its.toArray n }) (hf : f its.toArray = its'.toArray) (hv : Vals ys its') (hz : ys.length ≤ sizeLine) :
    Inv X pins σ (upd H l (.lst ys)) { s with heap := s.heap.update l (Obj.mapSeq f), toks := t' } := by
  have q := PySem.IsL.update e f
  rw [hf] at q
  refine I.write (x := l) (e := l) (by rw [hH]; exact trivial) (.inl rfl) (fun b' u hb hu => (Heap.get?_update_other s.heap (Obj.mapSeq f) (Ne.symm hb)).trans hu) ⟨_, q⟩ ?_
  exact ⟨hz, its', _, hv, q⟩
theorem Inv.lnew {its : List Value} {t' : Nat} (I : Inv X pins σ H s) (hv : Vals ys its) (hz : ys.length ≤ sizeLine) :
    Inv X pins σ (upd H s.heap.objs.size (.lst ys)) { s with heap := s.heap.push { cls := .type "list", data := .seq its.toArray }, toks := t' } :=
  I.laid (fun _ _ q => Heap.get?_push_of_some _ q) (Nat.le_refl _) ⟨hz, its, 0, hv, Heap.get?_push_size _ rfl⟩
theorem Inv.fresh (I : Inv X pins σ H s) : H s.heap.objs.size = none := I.hok.fresh (Nat.le_refl _)
theorem Inv.lstM (I : Inv X pins σ H s) (hH : H l = some (.lst xs)) : xs.length ≤ sizeLine ∧ ∃ (its : List Value) (n : Nat), Vals xs its ∧ xs.length = its.length ∧ s.heap.get? l = some { cls := .type "list", data := .seq its.toArray n } := by
  obtain ⟨z, its, n, r, e⟩ := I.hok l _ hH
  exact ⟨z, its, n, r, r.length, e⟩

theorem notLongL {n : Nat} (h : n ≤ sizeLine) : Builtin.List.listTooLong n = false := by
  unfold Builtin.List.listTooLong
  exact decide_eq_false (by omega)
end

section
variable {X : Cx}

/-! ### methods -/
noncomputable def rAppend : V → List V → Hp → VK → Prop := fun x vs H Q => ∃ l xs y, x = .ref l ∧ vs = [y] ∧ H l = some (.lst xs) ∧ xs.length < sizeLine ∧ Q .non (upd H l (.lst (xs ++ [y])))
theorem mt_append : MtM X "list.append" rAppend := by
  intro pins s σ H x vs v us Q I rx rv h
  obtain ⟨l, xs, y, rfl, rfl, hH, hz, q⟩ := h
  cases rx
  obtain ⟨u, rfl, ru⟩ := rv.one
  obtain ⟨z, its, n, r, hl, e⟩ := I.lstM hH
  refine call_meets F.slot_list_append ⟨_, e, rfl⟩ F.entry_list_append (F.args_list_append_2 _ _) (PySem.list_append l its.toArray n u (by rw [List.size_toArray]; omega)) ⟨e, ?_⟩
  refine ⟨.non, _, I.lset (its' := its ++ [u]) hH e (by simp) (r.append (.cons ru .nil)) ?_, rfl, q⟩
  rw [List.length_append, List.length_singleton]
  omega

noncomputable def rExtend : V → List V → Hp → VK → Prop := fun x vs H Q => ∃ l b xs zs, x = .ref l ∧ vs = [.ref b] ∧ H l = some (.lst xs) ∧ H b = some (.lst zs) ∧ xs.length + zs.length ≤ sizeLine ∧ Q .non (upd H l (.lst (xs ++ zs)))
theorem mt_extend : MtM X "list.extend" rExtend := by
  intro pins s σ H x vs v us Q I rx rv h
  obtain ⟨l, b, xs, zs, rfl, rfl, hH, hB, hz, q⟩ := h
  cases rx
  obtain ⟨u, rfl, ru⟩ := rv.one
  cases ru
  obtain ⟨z, its, n, r, hl, e⟩ := I.lstM hH
  obtain ⟨z2, its2, n2, r2, hl2, e2⟩ := I.lstM hB
  have hsz : its.toArray.size + its2.toArray.size ≤ sizeLine := by rw [List.size_toArray, List.size_toArray]; omega
  have hlong : ¬ (!its.toArray.isEmpty && Builtin.List.listTooLong (its.toArray.size + its2.toArray.size)) = true := by
    rw [notLongL hsz, Bool.and_false]
    exact Bool.false_ne_true
  refine call_meets F.slot_list_extend ⟨_, e, rfl⟩ F.entry_list_extend (F.args_list_extend_2 _ _)
    (AutoSeq1.list_extend_list_list_0 l its.toArray n b its2.toArray n2 hlong (by rw [List.size_toArray]; omega) (by omega)) ⟨e, e2, ?_⟩
  refine ⟨.non, _, I.lset (its' := its ++ its2) hH e (by simp) (r.append r2) ?_, rfl, q⟩
  rw [List.length_append]
  omega

/-! ### list + list, list += list, list * int -/
noncomputable def rCat : R2 := fun x y H Q => ∃ l b xs zs, x = .ref l ∧ y = .ref b ∧ H l = some (.lst xs) ∧ H b = some (.lst zs) ∧ xs.length + zs.length ≤ sizeLine ∧ ∀ p, H p = none → Q (.ref p) (upd H p (.lst (xs ++ zs)))
theorem op_cat : OpR X (binaryOp .Add) rCat := by
  intro pins s σ H x y v u Q I rx ry h
  obtain ⟨l, b, xs, zs, rfl, rfl, hH, hB, hz, q⟩ := h
  cases rx
  cases ry
  obtain ⟨z, its, n, r, hl, e⟩ := I.lstM hH
  obtain ⟨z2, its2, n2, r2, hl2, e2⟩ := I.lstM hB
  refine PySem.P.add_list e e2 ?_ (by rw [List.size_toArray, List.size_toArray]; omega)
  have ea : its.toArray ++ its2.toArray = (its ++ its2).toArray := by simp
  rw [ea]
  exact ⟨.ref _, _, I.lnew (t' := s.toks) (r.append r2) (by rw [List.length_append]; omega), rfl, q _ I.fresh⟩

/-! ### del xs[i] -/
end

/-! ### xs[a:b] = ys -/
section
variable {prog : Program} {w : World} {A : Around} {E : Value → Shared → Prop} {s : Shared}
end

section
variable {X : Cx}
end
end L2

namespace L2
open PySem PySem.Spec PyProof.Rows

/-! ### lists of pairs as tables -/
section
variable {κ : Type} [DecidableEq κ]
noncomputable def valV (kvs : List (κ × V)) (k : κ) : Option V := (kvs.find? fun kv => decide (kv.1 = k)).map (·.2)
/-- in its place, or at the end -/
noncomputable def putK (kvs : List (κ × V)) (k : κ) (v : V) : List (κ × V) :=
  if (kvs.any fun kv => decide (kv.1 = k)) = true then kvs.map (fun kv => if kv.1 = k then (kv.1, v) else kv) else kvs ++ [(k, v)]

theorem valV_pos {p : κ × V} {r : List (κ × V)} {k : κ} (e : p.1 = k) : valV (p :: r) k = some p.2 := by simp [valV, List.find?_cons, e]
theorem valV_neg {p : κ × V} {r : List (κ × V)} {k : κ} (e : ¬ p.1 = k) : valV (p :: r) k = valV r k := by simp [valV, List.find?_cons, e]
theorem valV_any (k : κ) : ∀ kvs : List (κ × V), (kvs.any fun kv => decide (kv.1 = k)) = (valV kvs k).isSome
  | [] => rfl
  | p :: r => by
    rw [List.any_cons]
    by_cases e : p.1 = k
    · simp only [valV_pos e, decide_eq_true e, Bool.true_or, Option.isSome_some]
    · rw [valV_neg e, decide_eq_false e, Bool.false_or]; exact valV_any k r
theorem valV_map (k j : κ) (y : V) : ∀ kvs : List (κ × V), valV (kvs.map fun kv => if kv.1 = k then (kv.1, y) else kv) j = (valV kvs j).map fun x => if j = k then y else x
  | [] => rfl
  | p :: r => by
    have ih := valV_map k j y r
    rw [List.map_cons]
    by_cases h : p.1 = k
    · rw [if_pos h]
      by_cases e : p.1 = j
      · rw [valV_pos (p := (p.1, y)) e, valV_pos e, Option.map_some, if_pos (e.symm.trans h)]
      · rw [valV_neg (p := (p.1, y)) e, valV_neg e, ih]
    · rw [if_neg h]
      by_cases e : p.1 = j
      · rw [valV_pos (p := p) e, valV_pos e, Option.map_some, if_neg (fun z => h (e.trans z))]
      · rw [valV_neg (p := p) e, valV_neg e, ih]
theorem valV_snoc (k j : κ) (y : V) : ∀ kvs : List (κ × V), valV kvs k = none → valV (kvs ++ [(k, y)]) j = if j = k then some y else valV kvs j
  | [], _ => by
    by_cases e : k = j
    · rw [if_pos e.symm]; exact valV_pos (p := (k, y)) e
    · rw [if_neg (fun z => e z.symm)]; exact valV_neg (p := (k, y)) e
  | p :: r, hn => by
    rw [List.cons_append]
    have hk : ¬ p.1 = k := fun z => by rw [valV_pos z] at hn; cases hn
    rw [valV_neg hk] at hn
    have ih := valV_snoc k j y r hn
    by_cases e : p.1 = j
    · rw [valV_pos e, valV_pos e, if_neg (fun z => hk (e.trans z))]
    · rw [valV_neg e, valV_neg e, ih]
theorem valV_put (kvs : List (κ × V)) (k j : κ) (y : V) : valV (putK kvs k y) j = if j = k then some y else valV kvs j := by
  unfold putK
  by_cases a : (kvs.any fun kv => decide (kv.1 = k)) = true
  · rw [if_pos a, valV_map]
    rw [valV_any] at a
    by_cases e : j = k
    · obtain ⟨x, hx⟩ := Option.isSome_iff_exists.mp a
      rw [if_pos e, e, hx, Option.map_some, if_pos rfl]
    · rw [if_neg e]
      cases valV kvs j with
      | none => rfl
      | some x => rw [Option.map_some, if_neg e]
  · rw [if_neg a]
    refine valV_snoc k j y kvs ?_
    rw [valV_any] at a
    cases q : valV kvs k with
    | none => rfl
    | some x => rw [q] at a; exact (a rfl).elim
theorem length_putK (kvs : List (κ × V)) (k : κ) (v : V) : (putK kvs k v).length ≤ kvs.length + 1 := by
  unfold putK
  split
  · rw [List.length_map]; omega
  · rw [List.length_append, List.length_cons, List.length_nil]; omega

theorem RelO.isSome_eq {o : Option V} {u : Option Value} (r : RelO o u) : o.isSome = u.isSome := by
  cases o with
  | none => cases u with
    | none => rfl
    | some _ => exact (show False from r).elim
  | some _ => cases u with
    | none => exact (show False from r).elim
    | some _ => rfl

/-- raw tables of the same keys -/
theorem KV.val {kvs : List (κ × V)} {vs : List (κ × Value)} (r : KV kvs vs) (k : κ) : RelO (valV kvs k) (valueAt vs k) := by
  unfold KV at r
  induction r with
  | nil => exact True.intro
  | @cons p q ps qs h t ih =>
    obtain ⟨h1, h2⟩ := h
    by_cases e : p.1 = k
    · have e' : q.1 = k := h1.symm.trans e
      have b : valueAt (q :: qs) k = some q.2 := by simp [valueAt, List.find?_cons, e']
      rw [valV_pos e, b]; exact h2
    · have e' : ¬ q.1 = k := fun z => e (h1.trans z)
      have b : valueAt (q :: qs) k = valueAt qs k := by simp [valueAt, List.find?_cons, e']
      rw [valV_neg e, b]; exact ih
theorem KV.any {kvs : List (κ × V)} {vs : List (κ × Value)} (r : KV kvs vs) (k : κ) : (kvs.any fun kv => decide (kv.1 = k)) = vs.any fun kv => decide (kv.1 = k) := by
  unfold KV at r
  induction r with
  | nil => rfl
  | cons h t ih => rw [List.any_cons, List.any_cons, ih, h.1]
theorem KV.repl {kvs : List (κ × V)} {vs : List (κ × Value)} (r : KV kvs vs) (k : κ) {y : V} {u : Value} (ry : RelV y u) :
    KV (kvs.map fun kv => if kv.1 = k then (kv.1, y) else kv) (vs.map fun kv => if kv.1 = k then (kv.1, u) else kv) := by
  unfold KV at r ⊢
  induction r with
  | nil => exact .nil
  | @cons p q ps qs h t ih =>
    rw [List.map_cons, List.map_cons]
    refine .cons ?_ ih
    obtain ⟨h1, h2⟩ := h
    by_cases e : p.1 = k
    · rw [if_pos e, if_pos (h1.symm.trans e)]; exact ⟨h1, ry⟩
    · rw [if_neg e, if_neg (fun z => e (h1.trans z))]; exact ⟨h1, h2⟩
theorem KV.put {kvs : List (κ × V)} {vs : List (κ × Value)} (r : KV kvs vs) (k : κ) {y : V} {u : Value} (ry : RelV y u) : KV (putK kvs k y) (stored vs k u) := by
  unfold putK stored
  rw [r.any k]
  by_cases e : (vs.any fun kv => decide (kv.1 = k)) = true
  · rw [if_pos e, if_pos e]; exact r.repl k ry
  · rw [if_neg e, if_neg e]; exact Paired.snoc r ⟨rfl, ry⟩
theorem KV.length {kvs : List (κ × V)} {vs : List (κ × Value)} (r : KV kvs vs) : kvs.length = vs.length := Paired.length r
end

/-! ### a tracked dict, its keys ints and texts or tuples of these -/
theorem kV_is {P : Program} {w : World} {k : Key} {u : Value} (r : RelV (kV k) u) : (mixKind P w).is k u = true := by
  cases k with
  | inl i => obtain ⟨t, e⟩ := (show ∃ t, u = Value.int i t from r); subst e; exact mixKind_int P w i t
  | inr x => obtain ⟨t, e⟩ := (show ∃ t, u = Value.str x t from r); subst e; exact mixKind_str P w x t
theorem items_are {P : Program} {w : World} : ∀ {ks : List Key} {us : List Value}, Vals (ks.map kV) us → ItemsAre (mixKind P w) ks us
  | [], _, r => by rw [List.map_nil] at r; cases r; exact .nil
  | k :: ks, _, r => by
    rw [List.map_cons] at r
    cases r with
    | cons h t => exact .cons (kV_is h) (items_are t)

/-- raw entries of a dict with tuple keys -/
noncomputable abbrev KT (H : Hp) : List (List Key × V) → List (List Key × Addr × Value) → Prop := Paired fun p q => p.1 = q.1 ∧ H q.2.1 = some (.tup (p.1.map kV)) ∧ RelV p.2 q.2.2
theorem KT.val {H : Hp} {kvs : List (List Key × V)} {xs : List (List Key × Addr × Value)} (r : KT H kvs xs) (k : List Key) : RelO (valV kvs k) ((atKey xs k).map (·.2)) := by
  induction r with
  | nil => exact True.intro
  | @cons p q ps qs h t ih =>
    obtain ⟨h1, _, h2⟩ := h
    by_cases e : p.1 = k
    · have e' : q.1 = k := h1.symm.trans e
      have b : atKey (q :: qs) k = some q.2 := by simp [atKey, List.find?_cons, e']
      rw [valV_pos e, b]; exact h2
    · have e' : ¬ q.1 = k := fun z => e (h1.trans z)
      have b : atKey (q :: qs) k = atKey qs k := by simp [atKey, List.find?_cons, e']
      rw [valV_neg e, b]; exact ih
theorem KT.repl {H : Hp} {kvs : List (List Key × V)} {xs : List (List Key × Addr × Value)} (r : KT H kvs xs) (k : List Key) {y : V} {u : Value} (ry : RelV y u) :
    KT H (kvs.map fun kv => if kv.1 = k then (kv.1, y) else kv) (xs.map (putAt k u)) := by
  induction r with
  | nil => exact .nil
  | @cons p q ps qs h t ih =>
    rw [List.map_cons, List.map_cons]
    refine .cons ?_ ih
    obtain ⟨h1, h2, h3⟩ := h
    unfold putAt
    by_cases e : p.1 = k
    · rw [if_pos e, if_pos (h1.symm.trans e)]; exact ⟨h1, h2, ry⟩
    · rw [if_neg e, if_neg (fun z => e (h1.trans z))]; exact ⟨h1, h2, h3⟩
theorem KT.put {H : Hp} {kvs : List (List Key × V)} {xs : List (List Key × Addr × Value)} (r : KT H kvs xs) (k : List Key) {b : Addr} {y : V} {u : Value} (hb : H b = some (.tup (k.map kV))) (ry : RelV y u) :
    KT H (putK kvs k y) (storedH xs k b u) := by
  have e : (kvs.any fun kv => decide (kv.1 = k)) = (atKey xs k).isSome := by
    rw [valV_any, (r.val k).isSome_eq, Option.isSome_map]
  unfold putK storedH
  rw [e]
  by_cases q : (atKey xs k).isSome = true
  · rw [if_pos q, if_pos q]; exact r.repl k ry
  · rw [if_neg q, if_neg q]; exact Paired.snoc r ⟨rfl, hb, ry⟩
theorem KT.keeps {H H' : Hp} {kvs : List (List Key × V)} {xs : List (List Key × Addr × Value)} (r : KT H kvs xs) (ht : ∀ b ys, H b = some (.tup ys) → H' b = some (.tup ys)) : KT H' kvs xs :=
  Paired.mapP r fun _ _ z => ⟨z.1, ht _ _ z.2.1, z.2.2⟩

section
variable {P : Program} {w : World} {H : Hp} {h : Heap} {a : Addr}
theorem rd_of {u : HO} (ok : HOk P w H h) (e : Rd H a u) : ObjOk P w H h a u := e.ok ok
theorem dk_rd {kvs : List (Key × V)} (ok : HOk P w H h) (e : Rd H a (.dK kvs)) : kvs.length ≤ sizeLine ∧ (a == sysModules) = false ∧ ∃ vs, KV kvs vs ∧ h.DictOf (mixKind P w) a vs :=
  show ObjOk P w H h a (.dK kvs) from rd_of ok e
theorem dk_of {kvs : List (Key × V)} (ok : HOk P w H h) (e : H a = some (.dK kvs)) : kvs.length ≤ sizeLine ∧ (a == sysModules) = false ∧ ∃ vs, KV kvs vs ∧ h.DictOf (mixKind P w) a vs := dk_rd ok (.inl e)
/-- a tracked tuple of ints and texts is a key -/
theorem key_of {ks : List Key} (ok : HOk P w H h) (e : H a = some (.tup (ks.map kV))) : (tupleKind (mixKind P w)).is h ks a := by
  obtain ⟨_, its, r, o, h1, h2, n, h3⟩ := (show ObjOk P w H h a (.tup (ks.map kV)) from ok a _ e)
  exact ⟨o, its.toArray, n, h1, h2, h3, by simpa using items_are r⟩
theorem dt_rd {kvs : List (List Key × V)} (ok : HOk P w H h) (e : Rd H a (.dT kvs)) : kvs.length ≤ sizeLine ∧ (a == sysModules) = false ∧
    ∃ xs, KT H kvs xs ∧ h.DictOfH (tupleKind (mixKind P w)) a xs := by
  obtain ⟨z, y, xs, r, o, es, ep, h1, h2, h3, h4, h5⟩ := (show ObjOk P w H h a (.dT kvs) from rd_of ok e)
  refine ⟨z, y, xs, r, o, es, ep, h1, h2, h3, h4, fun x hx => ?_, h5⟩
  have all : ∀ {l : List (List Key × V)} {m : List (List Key × Addr × Value)}, KT H l m → ∀ x ∈ m, (tupleKind (mixKind P w)).is h x.1 x.2.1 := by
    intro l m q
    induction q with
    | nil => intro x hx; exact nomatch hx
    | @cons p q ps qs hq t ih =>
      intro x hx
      rcases List.mem_cons.mp hx with e | hx
      · subst e
        exact key_of ok (by rw [← hq.1]; exact hq.2.1)
      · exact ih x hx
  exact all r x hx
theorem dt_of {kvs : List (List Key × V)} (ok : HOk P w H h) (e : H a = some (.dT kvs)) : kvs.length ≤ sizeLine ∧ (a == sysModules) = false ∧
    ∃ xs, KT H kvs xs ∧ h.DictOfH (tupleKind (mixKind P w)) a xs := dt_rd ok (.inl e)
end

/-- what the dict at a holds at the key y -/
noncomputable def DGet (H : Hp) (a : Addr) (y : V) (r : Option V) : Prop :=
  (∃ kvs k, Rd H a (.dK kvs) ∧ y = kV k ∧ r = valV kvs k) ∨ ∃ kvs k b, Rd H a (.dT kvs) ∧ y = .ref b ∧ H b = some (.tup (k.map kV)) ∧ r = valV kvs k
/-- the heap behind a[y] = v -/
noncomputable def DPut (H : Hp) (a : Addr) (y v : V) (H' : Hp) : Prop :=
  (∃ kvs k, H a = some (.dK kvs) ∧ y = kV k ∧ kvs.length < sizeLine ∧ H' = upd H a (.dK (putK kvs k v))) ∨
  ∃ kvs k b, H a = some (.dT kvs) ∧ y = .ref b ∧ H b = some (.tup (k.map kV)) ∧ kvs.length < sizeLine ∧ H' = upd H a (.dT (putK kvs k v))
theorem DGet.t {H : Hp} {a b : Addr} {kvs : List (List Key × V)} {k : List Key} (e : H a = some (.dT kvs)) (eb : H b = some (.tup (k.map kV))) : DGet H a (.ref b) (valV kvs k) := .inr ⟨kvs, k, b, .inl e, rfl, eb, rfl⟩
theorem DPut.t {H : Hp} {a b : Addr} {kvs : List (List Key × V)} {k : List Key} {v : V} (e : H a = some (.dT kvs)) (eb : H b = some (.tup (k.map kV))) (hl : kvs.length < sizeLine) :
    DPut H a (.ref b) v (upd H a (.dT (putK kvs k v))) := .inr ⟨kvs, k, b, e, rfl, eb, hl, rfl⟩

section
variable {X : Cx} {pins : List (Addr × Obj)} {σ : St} {H : Hp} {s : Shared} {a : Addr} {y v : V} {u r : Value} {o : Option V} {A : Around} {E : Value → Shared → Prop}

theorem Inv.big (I : Inv X pins σ H s) : sysModules < s.heap.objs.size := by
  have h : mainGlobals < s.heap.objs.size := (I.mod.glob.keeps I.bk).lt
  exact Nat.lt_trans (by decide) h

/-- y in d -/
theorem d_in {Q : Value → Shared → Prop} (hu : A.units + 1 < cLine) (I : Inv X pins σ H s) (g : DGet H a y o) (ry : RelV y u) (h : ∀ s', Inv X pins σ H s' → Q (.bool o.isSome) s') :
    wpAny (model X.prog X.w) A (compareOp .In u (.ref a)) Q E s := by
  rcases g with ⟨kvs, k, e, ey, l⟩ | ⟨kvs, k, b, e, ey, eb, l⟩
  · subst ey
    obtain ⟨z, hd, vs, rel, dd⟩ := dk_rd I.hok e
    refine wpAny_in_of (kV_is ry) hd dd.mapOf ?_
    rw [← (rel.val k).isSome_eq, ← l]
    exact h _ (I.tok _)
  · subst ey
    cases (show u = Value.ref b from ry)
    obtain ⟨z, hd, xs, rel, dd⟩ := dt_rd I.hok e
    refine wpAny_in_heap (tupleKind_room_in1 hu) (key_of I.hok eb) hd dd ?_
    have q := (rel.val k).isSome_eq
    rw [Option.isSome_map] at q
    rw [← q, ← l]
    exact h _ (I.tok _)
theorem d_notIn {Q : Value → Shared → Prop} (hu : A.units + 1 < cLine) (I : Inv X pins σ H s) (g : DGet H a y o) (ry : RelV y u) (h : ∀ s', Inv X pins σ H s' → Q (.bool (!o.isSome)) s') :
    wpAny (model X.prog X.w) A (compareOp .NotIn u (.ref a)) Q E s := by
  rcases g with ⟨kvs, k, e, ey, l⟩ | ⟨kvs, k, b, e, ey, eb, l⟩
  · subst ey
    obtain ⟨z, hd, vs, rel, dd⟩ := dk_rd I.hok e
    refine wpAny_notIn_of (kV_is ry) hd dd.mapOf ?_
    rw [← (rel.val k).isSome_eq, ← l]
    exact h _ (I.tok _)
  · subst ey
    cases (show u = Value.ref b from ry)
    obtain ⟨z, hd, xs, rel, dd⟩ := dt_rd I.hok e
    refine wpAny_notIn_heap (tupleKind_room_in1 hu) (key_of I.hok eb) hd dd ?_
    have q := (rel.val k).isSome_eq
    rw [Option.isSome_map] at q
    rw [← q, ← l]
    exact h _ (I.tok _)
/-- a dict's object is replaced -/
theorem d_write {h' : Heap} {t' : Nat} {ob : HO} (I : Inv X pins σ H s) (mu : Mut (H a)) (hs : Heap.SameBut a s.heap h') (he : ∃ q, h'.get? a = some q) (new : ObjOk X.prog X.w (upd H a ob) h' a ob) :
    Inv X pins σ (upd H a ob) { s with heap := h', toks := t' } :=
  I.write (x := a) (e := a) mu (.inl rfl) (fun b q hb z => (hs.2 b hb).trans z) he new
theorem dk_new {P : Program} {w : World} {H' : Hp} {h' : Heap} {kvs : List (Key × V)} {vs : List (Key × Value)} (z : kvs.length ≤ sizeLine) (hd : (a == sysModules) = false) (rel : KV kvs vs) (dd : h'.DictOf (mixKind P w) a vs) :
    ObjOk P w H' h' a (.dK kvs) := ⟨z, hd, vs, rel, dd⟩
/-- d[y] = v -/
theorem d_setItem {H' : Hp} {Q : Unit → Shared → Prop} (hu : A.units + 1 < cLine) (I : Inv X pins σ H s) (g : DPut H a y v H') (ry : RelV y u) (rv : RelV v r) (h : ∀ s', Inv X pins σ H' s' → Q () s') :
    wpAny (model X.prog X.w) A (setItem (.ref a) u r) Q E s := by
  rcases g with ⟨kvs, k, e, ey, l, eH⟩ | ⟨kvs, k, b, e, ey, eb, l, eH⟩
  · subst ey eH
    obtain ⟨z, hd, vs, rel, dd⟩ := dk_of I.hok e
    have hz : vs.length ≤ sizeLine := by rw [← rel.length]; exact z
    have hl : (putK kvs k v).length ≤ sizeLine := by have := length_putK kvs k v; omega
    refine wpAny_setItem_pairs (hsz := hz) (kV_is ry) dd fun h' dd' hs => h _ ?_
    have he : ∃ q, h'.get? a = some q := let ⟨q, _, _, hq, _⟩ := dd'; ⟨q, hq⟩
    exact d_write I (by rw [e]; exact True.intro) hs he (dk_new hl hd (rel.put k rv) dd')
  · subst ey eH
    cases (show u = Value.ref b from ry)
    obtain ⟨z, hd, xs, rel, dd⟩ := dt_of I.hok e
    have hz : xs.length ≤ sizeLine := by rw [← Paired.length rel]; exact z
    have hl : (putK kvs k v).length ≤ sizeLine := by have := length_putK kvs k v; omega
    refine wpAny_setItem_heap (hsz := hz) (tupleKind_room_in1 hu) (key_of I.hok eb) dd fun h' dd' hs => h _ ?_
    obtain ⟨q, es, ep, hq, h2, h3, h4, _, h5⟩ := dd'
    refine d_write I (by rw [e]; exact True.intro) hs ⟨q, hq⟩ ⟨hl, hd, _, (rel.put k eb rv).keeps fun c ys ec => ?_, q, es, ep, hq, h2, h3, h4, h5⟩
    rw [upd_ne (ne_of ec e (fun z => nomatch z))]
    exact ec
end

section
variable {X : Cx} {pins : List (Addr × Obj)} {σ : St} {H : Hp} {s : Shared} {a : Addr} {kvs : List (Key × V)} {k : Key} {u : Value} {A : Around} {E : Value → Shared → Prop}
end

/-! ### readings and rules -/

/-- y in d, y not in d -/
noncomputable def tDIn (ty td : TE) : TE := fun σ H Q => ty σ H fun y H1 => td σ H1 fun x H2 => ∃ a o, x = .ref a ∧ DGet H2 a y o ∧ Q (.bl o.isSome) H2
noncomputable def tDNotIn (ty td : TE) : TE := fun σ H Q => ty σ H fun y H1 => td σ H1 fun x H2 => ∃ a o, x = .ref a ∧ DGet H2 a y o ∧ Q (.bl (!o.isSome)) H2
/-- d[y] = v -/
noncomputable def sDPut (td ty tv : TE) : TS := fun D σ H => tv σ H fun v H1 => td σ H1 fun x H2 => ty σ H2 fun y H3 => ∃ a H4, x = .ref a ∧ DPut H3 a y v H4 ∧ D.nx σ H4

section
variable {X : Cx} {o i e value : Expr} {pos pos' tpos : Pos} {td ty tv : TE}
theorem pc_din (hu : X.A.units + 1 < cLine) (hi : PE X i ty) (ho : PE X o td) : PC X .In i o (tDIn ty td) := by
  intro pins s σ H Q I h
  refine thn (hi pins s σ H _ I h) fun iv s1 ⟨y, H1, I1, ry, q1⟩ => thn (ho pins s1 σ H1 _ I1 q1) fun u s2 ⟨x, H2, I2, rx, a, ov, ex, g, q2⟩ => ?_
  subst ex
  obtain rfl : u = Value.ref a := rx
  exact d_in hu I2 g ry fun s3 I3 => ⟨.bl ov.isSome, H2, I3, rfl, q2⟩
theorem pc_dnotin (hu : X.A.units + 1 < cLine) (hi : PE X i ty) (ho : PE X o td) : PC X .NotIn i o (tDNotIn ty td) := by
  intro pins s σ H Q I h
  refine thn (hi pins s σ H _ I h) fun iv s1 ⟨y, H1, I1, ry, q1⟩ => thn (ho pins s1 σ H1 _ I1 q1) fun u s2 ⟨x, H2, I2, rx, a, ov, ex, g, q2⟩ => ?_
  subst ex
  obtain rfl : u = Value.ref a := rx
  exact d_notIn hu I2 g ry fun s3 I3 => ⟨.bl (!ov.isSome), H2, I3, rfl, q2⟩
theorem ps_dput (hu : X.A.units + 1 < cLine) (ho : PE X o td) (hi : PE X i ty) (hv : PE X value tv) (hs : swapsWith value (some (.Subscript o i pos')) pos.line X.env = pure false) :
    PS X (.Assign [.Subscript o i pos'] value pos) (sDPut td ty tv) := by
  intro pins s σ H D I h
  refine wpAny_Assign_Subscript (thn (hv pins s σ H _ I h) fun r s1 ⟨v, H1, I1, rv, q1⟩ => thn (ho pins s1 σ H1 _ I1 q1) fun u s2 ⟨x, H2, I2, rx, q2⟩ => thn (hi pins s2 σ H2 _ I2 q2) fun iv s3 ⟨y, H3, I3, ry, a, H4, ex, g, q3⟩ => ?_) hs
  subst ex
  obtain rfl : u = Value.ref a := rx
  exact d_setItem hu I3 g ry rv fun s4 I4 => ⟨σ, H4, I4, q3⟩
end

/-! ### displays -/
theorem dt_empty {P : Program} {w : World} {H : Hp} (h : Heap) (hb : sysModules < h.objs.size) : ObjOk P w H (h.push { cls := .type "dict", data := .dict #[] }) h.objs.size (.dT []) :=
  ⟨Nat.zero_le _, beq_eq_false_iff_ne.mpr (Ne.symm (Nat.ne_of_lt hb)), [], .nil, _, #[], 0, Heap.get?_push_size _ rfl, ⟨rfl, rfl, rfl⟩, rfl, rfl, List.nodup_nil⟩
noncomputable def tDNewT : TE := fun _ H Q => ∀ p, H p = none → Q (.ref p) (upd H p (.dT []))
section
variable {X : Cx} {pos : Pos}
theorem pe_dnewT : PE X (.Dict [] [] pos) tDNewT := fun pins s σ H Q I h =>
  wpAny_Dict_empty ⟨.ref s.heap.objs.size, _, I.laid (a := s.heap.objs.size) (o := .dT []) (t' := s.toks) (fun _ _ q => Heap.get?_push_of_some _ q) (Nat.le_refl _) (dt_empty s.heap I.big), rfl, h _ (I.hok.fresh (Nat.le_refl _))⟩
end

/-! ### methods -/

section
variable {X : Cx} {pins : List (Addr × Obj)} {σ : St} {H : Hp} {s : Shared} {a : Addr} {y d : V} {u r : Value} {o : Option V} {A : Around} {E : Value → Shared → Prop}
end

section
variable {X : Cx} {o e f : Expr} {apos cpos : Pos} {td ty tx : TE}
end

/-! ### dict(d): a copy -/
section
variable {X : Cx} {pins : List (Addr × Obj)} {σ : St} {H : Hp} {s : Shared} {a : Addr} {kvs : List (Key × V)} {A : Around} {E : Value → Shared → Prop}
end

section
variable {X : Cx} {pins : List (Addr × Obj)} {σ : St} {H : Hp} {s : Shared} {a : Addr} {y : V} {u : Value} {A : Around} {E : Value → Shared → Prop}
end
end L2

namespace Att
open PySem PySem.W PySem.Calls PyProof.Rows

/-! ### the script -/
theorem ints_of_wellAll {P : Params} {h : Heap} : ∀ (ns : List Int) (vs : List Value), WellAll P h vs (ns.map WData.int) → IntsAre vs ns := by
  intro ns
  induction ns with
  | nil =>
    intro vs w
    rw [List.map_nil] at w
    cases w
    exact .nil
  | cons n ns ih =>
    intro vs w
    rw [List.map_cons] at w
    cases w with
    | cons a b =>
      cases a
      exact .cons _ _ (ih _ b)

theorem script_of {l : OpenLaw} {n : Nat} (hn : l.most = some n) {P : Params} {h : Heap} {args : List WData} {vals : List Value}
    (hpre : l.row.toRowW.claim.pre args = true) (hwl : WellAll P h vals args) :
    ∃ a vs ns, vals = [Value.ref a] ∧ args = [WData.list (ns.map WData.int)] ∧ h.get? a = some { cls := .type "list", data := .seq vs.toArray } ∧ IntsAre vs ns ∧ ns.length ≤ n := by
  have hsh : WShape.hasAll [] args [.list .int] = true := (pre_splitW hpre).1
  have hc : l.pre.holds [] { args := args } = true := (pre_splitW hpre).2
  obtain ⟨d, r, rfl, h1, h2⟩ := hasAllW_cons hsh
  obtain rfl := hasAllW_nil h2
  obtain ⟨xs, rfl, h3⟩ := hasW_list h1
  obtain ⟨ns, rfl⟩ := items_int h3
  have hlen : ns.length ≤ n := by
    unfold OpenLaw.pre at hc
    have h4 : (WTm.not (.lt (.lit (.int (n : Int))) (.len (.arg 0)))).holds [] { args := [.list (ns.map .int)] } = true := by
      have h4 := (holds_andW hc).1
      rw [hn] at h4
      exact h4
    have h5 := condW_of h4 (w_not (w_lt w_lit (w_len_list (w_arg rfl))))
    rw [List.length_map] at h5
    refine Nat.le_of_not_lt fun q => ?_
    have q' : (n : Int) < ((ns.length : Nat) : Int) := by omega
    first
      | (rw [decide_eq_true q'] at h5; exact absurd h5 (by decide))
      | (simp at h5; omega)
  cases hwl with
  | cons w1 w2 =>
    cases w2
    cases w1 with
    | list ho hall => exact ⟨_, _, ns, rfl, rfl, ho, ints_of_wellAll ns _ hall, hlen⟩

theorem post_true (l : OpenLaw) (args : List WData) : l.row.toRowW.claim.post args (.bool true) args = true :=
  postW_of (r := l.row.toRowW) (X := (true == true))
    (show WShape.has [] (.bool true) .bool = true by first | rfl | decide | simp [WShape.has, WShape.arms, WShape.armsAll])
    (show (WTm.eq .res (.lit (.bool true))).value [] { args := args, res := some (.bool true), after := args } = some (.bool (true == true)) from w_eq_bool (w_res rfl) w_lit) rfl

/-! ### the attachment: holds_open's last premise (the goal 'hc' behind k_head) from a wpAny of the law's body -/

/-- the same from a codeAny of the CALL (for a layer whose function contracts speak of calls) -/
theorem attach_call {l : OpenLaw} {n : Nat} {q : Program} {loose : List Str} {XP : (Str → Option Value) → Heap → Prop} {YP : World → Heap → Prop} {d : DefRec}
    (hn : l.most = some n) (hdf : d.params.defaults = [])
    (call : ∀ (w : World) (s₀ s₁ : Shared) (mg mb : Str → Option Value) (fa : Addr) (o : Obj) (pm cd doc : Value) (a : Addr) (vs : List Value) (ns : List Int),
      Ground q loose [] XP w s₀ mg mb s₁.heap → YP w s₁.heap →
      s₁.heap.get? fa = some o → o.data = .func (docDef d.name d.params d.body d.scope pm cd doc) → s₁.heap.CodeRec cd d.name → mg d.name = some (.ref fa) →
      s₁.heap.get? a = some { cls := .type "list", data := .seq vs.toArray } → IntsAre vs ns → ns.length ≤ n → s₁.gens = #[] →
      codeAny (model l.prog w) callerA (.call (.ref fa) ⟨[.ref a], []⟩) (fun r s' => r = .ok (.ret (.bool true)) ∧ OldK s₁.heap s'.heap ∧ s'.os = s₁.os ∧ AllBare s'.gens) s₁) :
    WalkO q loose XP YP l.row.toRowW d [] (fun f vs => PySem.call f vs) := by
  intro w s₀ s₁ mg mb G Y fa o pm cd doc dV kV ho hd hcd hD hmg hg args vals as hpre hlay hrd hwl hlo
  obtain rfl : dV = .none := Dflts.none hD hdf
  obtain rfl : kV = .none := Dflts.noKw hD
  obtain ⟨a, vs, ns, rfl, rfl, hobj, hints, hlen⟩ := script_of hn hpre hwl
  refine enter_call (codeAny_mono (call w s₀ s₁ mg mb fa o pm cd doc a vs ns G Y ho (fd_plain hd) hcd hmg hobj hints hlen hg) fun r s' hq => ?_)
  obtain ⟨rfl, h2, h3, h4⟩ := hq
  exact ⟨.inl ⟨.bool true, .bool true, [], rfl, fun _ => rfl, .bool true, post_true l _, fun _ => ⟨List.Pairwise.nil, fun _ hm => (nomatch hm)⟩⟩, h2, h3, h4⟩

/-! ### rules over ANY heap (no ledger) from facts about the written part K: the library's own take a ledger (News) for what they write -/
section
variable {prog : Program} {w : World} {A : Around} {E : Value → Shared → Prop} {s : Shared} {K : Frag}

/-! the whole heap as the ledger: makes every rule that writes through a ledger a rule over any heap -/

end
end Att

namespace L2
open PySem PySem.Spec PyProof.Rows

theorem vals_ints : ∀ {vs : List Value} {ns : List Int}, IntsAre vs ns → Vals (ns.map V.int) vs
  | _, _, .nil => .nil
  | _, _, .cons n t h => .cons ⟨t, rfl⟩ (vals_ints h)

end L2

namespace L2
open PySem PySem.Spec PyProof.Rows

end L2

/- THE LAST THEOREM (shape; LID, My.* are yours):
   My.Adr: a structure of the addresses that your layer names (classes, functions); My.Txt K t: a structure (Prop) of the equations over K;
   My.txt_mk : {K} {implicit addresses ..} (e1 : nsIn K mainGlobals "law" = some (some (.ref f))) (e2 : K.lookup f = some ⟨oc, od, .func (fnOf "law" "law" params body scope dV kV doc pm an cdv ct), sl⟩) (e3 : codeIn K cdv "law" = true) .. : ∃ t, My.Txt K t

set_option maxRecDepth 100000 in
set_option maxHeartbeats 0 in
theorem PySem.Challenge.cw_LID_holds : PySem.Challenge.rw_LID.Holds := by
  w_on; o_law; k_head; (case hw => w_witness2)
  k_fill
  refine L2.walk_of (l := PySem.Challenge.rw_LID) (n := 63) (k := 40) (x := "script") (CX := fun w => ..) (sp := fun _ => My.sp_law) rfl (by decide) rfl ⟨rfl, by decide, by decide⟩ (fun w h Y => PySem.W.kIn_of Y) ?F ?S ?C
  case F =>
    intro w mg fa h KX G hmg
    have T : ∃ t, My.Txt (L2.KOf KX) t := by
      dsimp only [L2.KOf]                          -- K must stand as «<heap const> w.params» for k_is
      refine' My.txt_mk ?e1 ?e2 ?e3 ..
      (case e1 => PySem.W.k_is)                    -- in the order: a name -> its address -> its object -> its parts
      (case e2 => PySem.W.k_is)
      ..
    obtain ⟨t, T⟩ := T
    have e0 := hmg.symm.trans (PySem.W.mg_of KX G T.law)
    cases e0                                       -- fa is the law's own address
    exact ⟨_, fun s u => .of_eq rfl, fun base kb nb => My.law_fn T kb nb⟩     -- if «.of_eq rfl» comes too early: refine' ⟨_, ?b, fun base kb nb => My.law_fn T kb nb⟩; exact fun s u => .of_eq rfl
  case S => exact fun w H a ns hl hO hS => ..
  case C => exact ..
(the tactic k_is has no namespace: write k_is) -/

/-! SHORT WORDS over the layer: a def of the text, its body, what a loop and a test want. -/
namespace L2
open PySem PySem.Spec PyProof.Rows

/-! ### the text by places -/
noncomputable def defArgs (s : Stmt) : Arguments := match s with
  | .FunctionDef _ a _ _ _ _ _ _ _ _ => a
  | _ => { posonlyargs := [], args := [], vararg := none, kwonlyargs := [], kw_defaults := [], kwarg := none, defaults := [] }
noncomputable def defBody (s : Stmt) : List Stmt := match s with
  | .FunctionDef _ _ b _ _ _ _ _ _ _ => b
  | _ => []
noncomputable def defScope (s : Stmt) : Scope := match s with
  | .FunctionDef _ _ _ _ _ _ sc _ _ _ => sc
  | _ => { kind := .function, names := [], isGenerator := false, isCoroutine := false }

/-! ### no exception leaves a def -/
noncomputable abbrev CX0 : CXT := fun _ _ _ _ _ _ => False
noncomputable abbrev E0 : XK := fun _ _ _ => False
theorem pass0 {X : Cx} : Passes CX0 X E0 := fun _ _ _ _ _ _ _ h => h.elim

/-! ### a def (or method) of the text as it stands behind the top -/
structure Fun (K : PySem.W.Frag) (x qual : Str) (st : Stmt) (f : Addr) (fd : FuncData) : Prop where
  ex : ∃ (oc : Value) (od : Option Addr) (kV doc pm : Value) (an : Option Addr) (cdv ct : Value) (osl : Array (Option Value)),
    fd = PySem.W.fnOf x qual (defArgs st) (defBody st) (defScope st) .none kV doc pm an cdv ct ∧ K.lookup f = some ⟨oc, od, .func fd, osl⟩ ∧ PySem.W.codeIn K cdv qual = true
  kp : PySem.W.keepIn K (.ref f) = true
section
variable {P : Program} {w : World} {K : PySem.W.Frag} {mg : Str → Option Value} {base : Heap}
/-- THE RULE for a def: its body as a term of rules, and the reading of that term -/
theorem Fun.ok {x qual : Str} {st : Stmt} {f : Addr} {fd : FuncData} {N ps : List Str} {k : Nat} {sp : Sp} (F : Fun K x qual st f fd) (S : FnScope N ps (defScope st)) (len : ∀ vs H Q E, sp vs H Q E → vs.length = ps.length)
    (hbody : ∀ (cdv : Value) (A : Around) (outer : List Env) (s : Shared) (H : Hp) (vs : List V) (Q : VK) (E : XK), Room k (A.deeper (envOfC qual (defScope st) s.heap.objs.size f cdv)) → sp vs H Q E →
      ∃ t, PSs (cxOf CX0 P w K mg base N qual (defScope st) f cdv A outer s H E).nox (defBody st) t ∧ t { nx := fun _ H' => Q .non H', rt := Q } (start N vs) H) : FnOk P w K mg base CX0 (k + 1) f fd ps sp := by
  obtain ⟨oc, od, kV, doc, pm, an, cdv, ct, osl, rfl, lk, hcd⟩ := F.ex
  refine fn_of lk hcd S len fun A outer s H vs Q E hr hsp => ?_
  obtain ⟨t, h, q⟩ := hbody cdv A outer s H vs Q E hr hsp
  exact ⟨t, h.nox, q⟩
/-- how its arguments bind (no defaults): h is «fun _ _ _ _ _ _ us hl => match us, hl with | [_, _], _ => rfl», one _ a parameter -/
theorem Fun.binds {x qual : Str} {st : Stmt} {f : Addr} {fd : FuncData} {ps : List Str} (F : Fun K x qual st f fd)
    (h : ∀ (kV doc pm : Value) (an : Option Addr) (cdv ct : Value) (us : List Value), us.length = ps.length → bindArgs (PySem.W.fnOf x qual (defArgs st) (defBody st) (defScope st) .none kV doc pm an cdv ct) ⟨us, []⟩ = pure (ps.zip us)) : Binds K fd ps [] := by
  obtain ⟨oc, od, kV, doc, pm, an, cdv, ct, osl, rfl, lk, hcd⟩ := F.ex
  exact .all (h kV doc pm an cdv ct)
theorem fun_mk {x qual : Str} {st : Stmt} {f : Addr} {oc : Value} {od an : Option Addr} {osl : Array (Option Value)} {kV doc pm cdv ct : Value} (l : K.lookup f = some ⟨oc, od, .func (PySem.W.fnOf x qual (defArgs st) (defBody st) (defScope st) .none kV doc pm an cdv ct), osl⟩)
    (c : PySem.W.codeIn K cdv qual = true) (k : PySem.W.keepIn K (.ref f) = true) : Fun K x qual st f (PySem.W.fnOf x qual (defArgs st) (defBody st) (defScope st) .none kV doc pm an cdv ct) := ⟨⟨oc, od, kV, doc, pm, an, cdv, ct, osl, rfl, l, c⟩, k⟩
end
theorem hu_of {A : Around} {k : Nat} (hr : Room k A) : A.units + 1 < cLine := Nat.lt_of_le_of_lt (Nat.add_le_add_left (by decide : 1 ≤ 64) _) hr.units
theorem small1000 {n : Nat} (h : n ≤ 1000) : n < sizeLine := Nat.lt_of_le_of_lt h (by decide)

/-! ### expressions in short: the name that stands in the i-th slot -/
section
variable {X : Cx}
theorem pv (i : Nat) {x : Str} {pos : Pos} (hN : X.N[i]? = some x := by rfl) (hv : Vis X.env.scope x := by first | exact Or.inl rfl | exact Or.inr (Or.inl rfl) | exact Or.inr (Or.inr rfl)) (hd : (x == ("__debug__" : Str)) = false := by decide)
    (hcd : (x == ("__classdict__" : Str)) = false := by decide) : PE X (.Name x pos) (tVar i) := pe_var hN hv hd hcd
end

/-! ### tests -/
theorem iteF {A B : Prop} (h : B) : if false = true then A else B := by
  rw [if_neg Bool.false_ne_true]
  exact h
theorem iteT {A B : Prop} (h : A) : if true = true then A else B := by
  rw [if_pos rfl]
  exact h
theorem ite2 {c A B : Prop} [Decidable c] (h1 : c → A) (h2 : ¬ c → B) : if c then A else B := by
  by_cases h : c
  · rw [if_pos h]
    exact h1 h
  · rw [if_neg h]
    exact h2 h
theorem iteNS {c A B : Prop} [Decidable c] (hc : c) (h : B) : if (!decide c) = true then A else B := by
  rw [decide_eq_true hc]
  exact iteF h

/-! ### heaps -/
/-- all that was tracked is as it was -/
noncomputable def Same (H H' : Hp) : Prop := ∀ b o, H b = some o → H' b = some o
theorem Same.trans {H H1 H2 : Hp} (a : Same H H1) (b : Same H1 H2) : Same H H2 := fun c o h => b c o (a c o h)
theorem Same.free {H H' : Hp} (e : Same H H') {l : Addr} (h : H' l = Option.none) : H l = Option.none := by
  cases q : H l with
  | none => rfl
  | some o =>
    rw [e l o q] at h
    cases h
theorem Same.seq {K : PySem.W.Frag} {H H' : Hp} {a : Addr} {xs : List V} (e : Same H H') (h : SqL K H a xs) : SqL K H' a xs := by
  rcases h with (h | ⟨o, h⟩) | h
  · exact .inl (.inl (e _ _ h))
  · exact .inl (.inr ⟨o, e _ _ h⟩)
  · exact .inr h

/-! ### a dict's pairs: keys that differ -/
section
variable {κ : Type} [DecidableEq κ]
end
end L2

set_option Elab.async false
set_option linter.all false
set_option maxRecDepth 100000
/-! Comprehensions over the hand layer: a list comprehension of one clause, with or without tests, as an expression and as the value of a name. -/
namespace L2
open PySem PySem.Spec PyProof.Rows

/-! ### the loop's turn, the step ahead of the store among it -/
section
variable {prog : Program} {w : World} {A : Around} {R : Result → Shared → Prop} {s : Shared}
theorem compLoop_go {elt target iter : Expr} {ifs : List Expr} {scope : Scope} {pos : Pos} {it acc : Value} {env : Env} (I : Nat → Shared → Prop)
    (turn : ∀ n s, I n s → wpAny (model prog w) A (pyNext it) (fun r s1 => match r with
      | none => R (.ok .next) s1
      | some v => wpAny (model prog w) A (letOwnedTupleGo target it v) (fun _ s2 => wpAny (model prog w) A (assign target env v) (fun _ s3 =>
          wpAny (model prog w) A (forIn ifs true fun c r => if r = true then do let ok ← isTrue c env (eval c env); pure (ForInStep.yield ok) else pure (ForInStep.yield r)) (fun ok s4 =>
            if ok = true then wpAny (model prog w) A (eval elt env) (fun x s5 =>
              wpAny (model prog w) A (call (.builtin "list.append") [acc, x]) (fun _ s6 => ∃ m, m < n ∧ I m s6) (fun _ _ => False) s5) (fun _ _ => False) s4
            else ∃ m, m < n ∧ I m s4) (fun _ _ => False) s3) (fun _ _ => False) s2) (fun _ _ => False) s1) (fun _ _ => False) s)
    (n : Nat) (h : I n s) :
    codeAny (model prog w) A (.compLoop (.ListComp elt [⟨target, iter, ifs, 0⟩] scope pos) 0 it acc env) R s := by
  refine codeAny_loop rfl I (fun n s hI => ?_) n h
  show wpAny _ A ((compTurn (.ListComp elt [⟨target, iter, ifs, 0⟩] scope pos) 0 it acc env).onRaise (fun x => do noteFrame x env; theTreesLotGoes x)) _ _ s
  refine wpAny_noted ?_
  rw [compTurn_list]
  refine wpAny_bind (wpAny_standAt (wpAny_bind (wpAny_mono (turn n s hI) (fun r s1 h1 => ?_) fun _ _ h' => h'.elim)))
  cases r with
  | none => exact wpAny_pure h1
  | some v =>
    refine wpAny_bind (wpAny_mono h1 (fun _ s2 h2 => wpAny_bind (wpAny_mono h2 (fun _ s3 h3 => wpAny_bind (wpAny_mono h3 (fun ok s4 h4 => ?_) fun _ _ h' => h'.elim)) fun _ _ h' => h'.elim)) fun _ _ h' => h'.elim)
    cases ok with
    | false => exact wpAny_pure ⟨rfl, h4⟩
    | true =>
      exact wpAny_bind (wpAny_bind (wpAny_mono h4 (fun x s5 h5 => wpAny_bind (wpAny_mono h5 (fun _ s6 h6 => wpAny_pure (wpAny_pure ⟨rfl, h6⟩)) fun _ _ h' => h'.elim)) fun _ _ h' => h'.elim))
end

/-! ### the context of a comprehension's block -/
noncomputable def compCx (X : Cx) (N1 : List Str) (scope : Scope) (cl : List (Str × Addr)) (C : Addr) (s0 : Shared) (H0 : Hp) (fp : List Addr) : Cx where
  prog := X.prog
  w := X.w
  K := X.K
  mg := X.mg
  base := X.base
  A := X.A
  N := N1
  s₀ := s0
  H₀ := H0
  env := compEnvC scope cl C X.env
  outer := X.stack
  stack := X.stack
  ex := fp
  fn := fun _ => false
  calm := X.calm
  pn := []
  xe := fun _ _ => False

/-- what must be seen of the text: cap gives for each name of the block the slot of the enclosing def that it takes, if any -/
structure CompOk (X : Cx) (scope : Scope) (cl : List (Str × Addr)) (N1 : List Str) (cap : List (Option Nat)) : Prop where
  clos : closureFor scope X.env = pure cl
  sub : ∀ x c, cl.lookup x = some c → X.env.cells.lookup x = some c
  kind : scope.kind = .function
  nocell : ∀ y ∈ scope.names, y.2 ≠ .cell
  names : ∀ y ∈ scope.names, y.2 = .local → scope.names.lookup y.1 = some .local
  has : ∀ x, ((relabel scope X.env).names.lookup x = some .cell ∨ (relabel scope X.env).names.lookup x = some .free) → ∃ c, cl.lookup x = some c
  len : cap.length = N1.length
  caps : ∀ (i : Nat) (x : Str) (j : Nat), N1[i]? = some x → cap[i]? = some (some j) → X.N[j]? = some x ∧ Vis X.env.scope x ∧ X.env.kindOf x ≠ some .local ∧ ((relabel scope X.env).names.lookup x = some .cell ∨ (relabel scope X.env).names.lookup x = some .free)

/-- the block's names at its start -/
noncomputable def capSt (cap : List (Option Nat)) (σ : St) : St := cap.map fun o => match o with
  | some j => (σ[j]?).getD none
  | none => none

noncomputable def PIf (X : Cx) (ifs : List Expr) (t : TT) : Prop :=
  ∀ (pins : List (Addr × Obj)) (s : Shared) (σ : St) (H : Hp) (Q : Bool → Hp → Prop), Inv X pins σ H s → t σ H Q →
    wpAny (model X.prog X.w) X.A (forIn ifs true fun c r => if r = true then do let ok ← isTrue c X.env (eval c X.env); pure (ForInStep.yield ok) else pure (ForInStep.yield r)) (TP X pins σ Q) X.xe s
theorem pif_nil {X : Cx} : PIf X [] (fun _ H Q => Q true H) := fun _ _ σ H Q I h => wpAny_tests_nil ⟨H, I, h⟩
theorem pif_one {X : Cx} {c : Expr} {t : TT} (h : PT X c t) : PIf X [c] t := fun pins s σ H Q I q => wpAny_tests_one (h pins s σ H Q I q)

/-- what a comprehension wants of its walk -/
noncomputable def CompW (J : It) (g : TG) (tt : TT) (te : TE) (acc : Addr) (σ0 : St) (H1 : Hp) (Q : VK) : Prop :=
  ∃ W : Nat → Nat → St → Hp → Prop, (∃ m, W 0 m σ0 (upd H1 acc (.lst []))) ∧ ∀ i m σ1 H2, W i m σ1 H2 →
    (J.stop i H2 ∧ Q (.ref acc) H2) ∨ (J.go i H2 ∧ ∃ N : St → Hp → Prop, (∀ σ' H', N σ' H' → ∃ m', m' < m ∧ W (i + 1) m' σ' H') ∧ ∀ x H3, J.yld i H2 x H3 → g x σ1 H3 fun σ4 H4 => tt σ4 H4 fun b H5 =>
      if b = true then te σ4 H5 fun y H6 => ∃ xs, H6 acc = some (.lst xs) ∧ xs.length < sizeLine ∧ N σ4 (upd H6 acc (.lst (xs ++ [y])))
      else N σ4 H5)
/-- a comprehension's reading -/
noncomputable def tComp (wi : TI) (g : TG) (tt : TT) (te : TE) (cap : List (Option Nat)) : TE := fun σ H Q => wi σ H fun J H1 => ∀ acc, H1 acc = none → CompW J g tt te acc (capSt cap σ) H1 Q

section
variable {X : Cx} {tg elt iter : Expr} {ifs : List Expr} {scope : Scope} {cl : List (Str × Addr)} {N1 : List Str} {cap : List (Option Nat)} {g : TG} {tt : TT} {te : TE} {pos : Pos}
  {pins : List (Addr × Obj)} {σ : St} {H1 : Hp} {s2 : Shared}

theorem comp_ok (K : CompOk X scope cl N1 cap) {fp : List Addr} {s : Shared} {H : Hp} (I : Inv X pins σ H s) (hf : ∀ b ∈ fp, FpOk X pins H b) (hlt : ∀ b ∈ fp, b < s.heap.objs.size) :
    (compCx X N1 scope cl s.heap.objs.size s H fp).Ok where
  mod := I.ok.mod
  kind := K.kind
  glob := I.ok.glob
  blt := I.ok.blt
  above := Nat.le_refl _
  inj := fun x y c h1 h2 => I.ok.inj x y c (K.sub x c h1) (K.sub y c h2)
  has := fun x h => K.has x h
  cab := fun x c h => by cases (show false = true from h)
  hd := I.ok.hd
  frames := I.ok.frames
  stk := .inl rfl
  exf := fun b hb => ⟨Nat.ne_of_lt (hlt b hb), fun x c h => (hf b hb).2.2.2.2.1 x c (K.sub x c h)⟩
  bs := I.bs
  bsz := Nat.le_trans I.ok.bsz I.sz
  noex := fun b o e hb => by
    rcases (hf b hb).2.2.2.1 with z | z
    · exact I.ok.noex b o e z
    · exact absurd (Nat.lt_of_lt_of_le (Heap.lt_size (I.ok.bs b o e).1) z) (Nat.lt_irrefl _)
  exfs := fun b hb z => by
    rcases List.mem_cons.mp (I.stkSub b z) with q | q
    · exact (hf b hb).2.1 q
    · exact (hf b hb).2.2.1 q
  funs := I.stack
  frf := I.stkFree

/-- the block, from the iterator on; RR as the surrounding rule wants it -/
theorem comp_run {J : It} {fp : List Addr} {it : Addr} {tn : Nat → Heap → Prop} {Q : VK} {RR : Value → Addr → Result → Shared → Prop} {E : Value → Shared → Prop}
    (K : CompOk X scope cl N1 cap) (hc : X.calm = true) (I : Inv X pins σ H1 s2) (T : Turn X.prog X.w X.K tg J fp it tn) (st2 : tn 0 s2.heap) (f2 : ∀ b ∈ fp, FpOk X pins H1 b)
    (hg : ∀ C s0 H0 fp, PG (compCx X N1 scope cl C s0 H0 fp) tg g) (ht : ∀ C s0 H0 fp, PIf (compCx X N1 scope cl C s0 H0 fp) ifs tt) (he : ∀ C s0 H0 fp, PE (compCx X N1 scope cl C s0 H0 fp) elt te)
    (h : ∀ acc, H1 acc = none → CompW J g tt te acc (capSt cap σ) H1 Q)
    (hRR : ∀ D C H' s', Inv X pins σ H' s' → (∃ m, s'.heap.Ns C m) → FpOk X pins H' C → Q (.ref D) H' → RR (.ref D) C (.ok .next) s') :
    wpAny (model X.prog X.w) X.A (newList []) (fun acc s3 => wpAny (model X.prog X.w) X.A (newFunctionEnv scope X.env.globals cl [] X.env.qual none .none (some X.env)) (fun cenv s4 =>
      codeAny (model X.prog X.w) X.A (.compStart (.ListComp elt [⟨tg, iter, ifs, 0⟩] scope pos) 0 (.ref it) acc { cenv with scope := relabel scope X.env }) (RR acc cenv.locals) s4) E s3) E s2 := by
  have fr := I.hok.fresh (Nat.le_refl s2.heap.objs.size)
  obtain ⟨W, ⟨m0, w0⟩, turn⟩ := h _ fr
  have objs := T.obj 0 _ st2
  have lt2 : ∀ b ∈ fp, b < s2.heap.objs.size := fun b hb => let ⟨o, e, _⟩ := objs b hb; Heap.lt_size e
  refine wpAny_newObj_type ?_
  -- the list is there, tracked
  have I3 : Inv X pins σ (upd H1 s2.heap.objs.size (.lst [])) { s2 with heap := s2.heap.push { cls := .type "list", data := .seq ([] : List Value).toArray }, toks := s2.toks } :=
    I.lnew (its := []) (t' := s2.toks) .nil (Nat.zero_le _)
  have old3 : ∀ b o, s2.heap.get? b = some o → (s2.heap.push { cls := .type "list", data := .seq ([] : List Value).toArray }).get? b = some o := fun b o e => Heap.get?_push_of_some _ e
  have f3 : ∀ b ∈ fp, FpOk X pins (upd H1 s2.heap.objs.size (.lst [])) b := fun b hb => by
    obtain ⟨z, r⟩ := f2 b hb
    exact ⟨by rw [upd_ne (Nat.ne_of_lt (lt2 b hb))]; exact z, r⟩
  have st3 : tn 0 (s2.heap.push { cls := .type "list", data := .seq ([] : List Value).toArray }) := T.keep _ _ _ st2 fun b _ o e => old3 b o e
  show wpAny _ _ _ _ _ { s2 with heap := s2.heap.push { cls := .type "list", data := .seq ([] : List Value).toArray }, toks := s2.toks }
  generalize hs3 : ({ s2 with heap := s2.heap.push { cls := .type "list", data := .seq ([] : List Value).toArray }, toks := s2.toks } : Shared) = s3 at *
  have hh3 : s3.heap = s2.heap.push { cls := .type "list", data := .seq ([] : List Value).toArray } := by rw [← hs3]
  rw [← hh3] at st3
  have lt3 : ∀ b ∈ fp, b < s3.heap.objs.size := fun b hb => by rw [hh3, Heap.size_push]; exact Nat.lt_succ_of_lt (lt2 b hb)
  generalize hD : s2.heap.objs.size = D at *
  generalize hH3 : upd H1 D (HO.lst []) = H3 at *
  refine wpAny_newFunctionEnv K.nocell (by intro y hy; simp at hy) (fun h1 hns sb => ?_) K.kind
  have old4 : ∀ b o, s3.heap.get? b = some o → h1.get? b = some o := fun b o e => sb.extBut b o (Nat.ne_of_lt (Heap.lt_size e)) (Heap.get?_push_of_some _ e)
  -- the block's own context
  have ok := comp_ok K I3 f3 lt3
  have I4 : Inv (compCx X N1 scope cl s3.heap.objs.size s3 H3 fp) [] (capSt cap σ) H3 { s3 with heap := h1, toks := s3.toks + ([] : List (Str × Value)).length } := by
    refine ⟨ok, rfl, I3.bare, Un.kept old4, ⟨_, hns, fun i x v e1 e2 e3 => ?_⟩, fun x c e => ?_, I3.hok.fresh (Nat.le_refl _), fun x c e => I3.freeC x c (K.sub x c e), fun p hp => absurd (show p ∈ ([] : List (Addr × Obj)) from hp) (by simp), I3.hok.kept old4, ?_⟩
    · obtain ⟨j, ej, ev⟩ : ∃ j, cap[i]? = some (some j) ∧ (σ[j]?).getD none = some v := by
        unfold capSt at e2
        rw [List.getElem?_map] at e2
        cases q : cap[i]? with
        | none => rw [q] at e2; cases e2
        | some o =>
          rw [q] at e2
          cases o with
          | none => cases e2
          | some j => exact ⟨j, rfl, Option.some.inj e2⟩
      obtain ⟨k1, k2, k3, k4⟩ := K.caps i x j e1 ej
      have ev' : σ[j]? = some (some v) := by
        cases q : σ[j]? with
        | none => rw [q] at ev; cases ev
        | some o => rw [q] at ev; exact congrArg some ev
      obtain ⟨m, hn, hl⟩ := I3.loc
      obtain ⟨u, ru, lk⟩ := hl j x v k1 ev' k2
      refine ⟨u, ru, .inr ⟨k4, ?_⟩⟩
      rcases lk with ⟨z, _⟩ | ⟨_, c, e, hcell⟩
      · exact absurd z k3
      · obtain ⟨c', e'⟩ := K.has x k4
        have ec := K.sub x c' e'
        rw [e] at ec; cases ec
        obtain ⟨o, ho, hd⟩ := hcell
        exact ⟨c, e', o, old4 _ _ ho, hd⟩
    · obtain ⟨v, o, ho, hd⟩ := I3.cell x c (K.sub x c e)
      exact ⟨v, o, old4 _ _ ho, hd⟩
    · unfold capSt
      rw [List.length_map]
      exact K.len
  have loop : ∀ s5 : Shared, s5 = { s3 with heap := h1, toks := s3.toks + ([] : List (Str × Value)).length } →
      codeAny (model X.prog X.w) X.A (.compLoop (.ListComp elt [⟨tg, iter, ifs, 0⟩] scope pos) 0 (.ref it) (.ref D) (compEnvC scope cl s3.heap.objs.size X.env)) (RR (.ref D) s3.heap.objs.size) s5 := by
    rintro s5 rfl
    have st4 : tn 0 h1 := T.keep _ _ _ st3 fun b _ o e => old4 b o e
    have stat : ∀ {H' : Hp}, (∀ b ∈ fp, H' b = none) → ∀ b ∈ fp, FpOk (compCx X N1 scope cl s3.heap.objs.size s3 H3 fp) [] H' b := fun {H'} hn b hb =>
      ⟨hn b hb, (ok.exf b hb).1, ok.exfs b hb, .inl hb, (ok.exf b hb).2, fun p hp => absurd (show p ∈ ([] : List (Addr × Obj)) from hp) (by simp)⟩
    refine compLoop_go (fun n s' => ∃ i σ' H', Inv (compCx X N1 scope cl s3.heap.objs.size s3 H3 fp) [] σ' H' s' ∧ tn i s'.heap ∧ (∀ b ∈ fp, H' b = none) ∧ W i n σ' H') ?_ m0
      ⟨0, _, H3, I4, st4, fun b hb => (f3 b hb).1, w0⟩
    rintro n s6 ⟨i, σ6, H6, I6, st6, fr6, w6⟩
    rcases turn i n σ6 H6 w6 with ⟨stop, q⟩ | ⟨go, N, hN, step⟩
    · refine thn (T.done (compCx X N1 scope cl s3.heap.objs.size s3 H3 fp) rfl rfl rfl hc i [] s6 σ6 H6 _ I6 (stat fr6) st6 stop) fun r s7 ⟨hr, I7⟩ => ?_
      subst hr
      have I8 : Inv X pins σ H6 s7 := I3.call' (ch := fp) I7.os I7.base I7.hok I7.bare fun b hb => ⟨(f3 b hb).2.2.2.1, (f3 b hb).2.1, (f3 b hb).2.2.2.2.1, (f3 b hb).2.2.2.2.2⟩
      have hC : FpOk X pins H6 s3.heap.objs.size := I3.fpOk (Nat.le_refl _) I7.free
      obtain ⟨m, hn, _⟩ := I7.loc
      exact hRR D _ H6 s7 I8 ⟨m, hn⟩ hC q
    · refine thn (T.item (compCx X N1 scope cl s3.heap.objs.size s3 H3 fp) rfl rfl rfl hc i [] s6 σ6 H6 _ I6 (stat fr6) st6 go) fun r s7 ⟨u, hr, h7⟩ => ?_
      subst hr
      refine thn h7 fun _ s8 ⟨x, H8, I8, r8, y8, st8, fr8⟩ => ?_
      have I8' := I8.pinned (stat fr8) (T.obj _ _ st8)
      have keepT : ∀ {σ' : St} {H' : Hp} {s' : Shared}, Inv (compCx X N1 scope cl s3.heap.objs.size s3 H3 fp) ([] ++ pinsAt fp s8.heap) σ' H' s' → tn (i + 1) s'.heap ∧ ∀ b ∈ fp, H' b = none := fun {σ' H' s'} I' =>
        ⟨T.keep _ _ _ st8 fun b hb o e => (I'.pin (b, o) (List.mem_append_right _ (List.mem_append_right _ (mem_pinsAt hb e)))).1, fun b hb => by
          obtain ⟨o, e, d⟩ := T.obj _ _ st8 b hb
          exact (I'.pin (b, o) (List.mem_append_right _ (List.mem_append_right _ (mem_pinsAt hb e)))).2.1⟩
      refine thn (hg _ s3 H3 fp _ s8 σ6 H8 x u _ I8' r8 (step x H8 y8)) fun _ s9 ⟨σ9, H9, I9, q9⟩ => ?_
      refine thn (ht _ s3 H3 fp _ s9 σ9 H9 _ I9 q9) fun b s10 ⟨H10, I10, q10⟩ => ?_
      cases b with
      | false =>
        rw [if_neg Bool.false_ne_true] at q10 ⊢
        obtain ⟨m', hm, w'⟩ := hN _ _ q10
        obtain ⟨k1, k2⟩ := keepT I10
        exact ⟨m', hm, i + 1, σ9, H10, I10.unpinned, k1, k2, w'⟩
      | true =>
        rw [if_pos rfl] at q10 ⊢
        refine thn (he _ s3 H3 fp _ s10 σ9 H10 _ I10 q10) fun v s11 ⟨y, H11, I11, r11, xs, hx, hz, n11⟩ => ?_
        obtain ⟨m', hm, w'⟩ := hN _ _ n11
        refine thn (mt_append (X := compCx X N1 scope cl s3.heap.objs.size s3 H3 fp) _ s11 σ9 H11 (.ref D) [y] (.ref D) [v] (fun _ H' => H' = upd H11 D (.lst (xs ++ [y]))) I11 rfl (.cons r11 .nil) ⟨D, xs, y, rfl, rfl, hx, hz, rfl⟩) fun v' s12 ⟨y', H12, I12, r12, q12⟩ => ?_
        subst q12
        obtain ⟨k1, k2⟩ := keepT I12
        exact ⟨m', hm, i + 1, σ9, _, I12.unpinned, k1, k2, w'⟩
  have st4 : tn 0 h1 := T.keep _ _ _ st3 fun b _ o e => old4 b o e
  exact codeAny_compStart_list (loop _ rfl) (T.self X.A 0 _ _ _ st4 (loop _ rfl))

/-- the frame of the block let go -/
theorem Inv.letgo {H : Hp} {s' : Shared} {C : Addr} (I : Inv X pins σ H s') (f : FpOk X pins H C) {h' : Heap} (sb : Heap.SameBut C s'.heap h') : Inv X pins σ H { s' with heap := h' } :=
  I.turned (t' := s'.toks) (fun b o hb e => (sb.2 b hb).trans e) f.1 f.2.1 f.2.2.2.1 f.2.2.2.2.1 f.2.2.2.2.2

/-- [elt for tg in iter if ..] -/
theorem pe_comp {wi : TI} (K : CompOk X scope cl N1 cap) (hc : X.calm = true) (hi : PI X tg iter wi) (hg : ∀ C s0 H0 fp, PG (compCx X N1 scope cl C s0 H0 fp) tg g) (ht : ∀ C s0 H0 fp, PIf (compCx X N1 scope cl C s0 H0 fp) ifs tt)
    (he : ∀ C s0 H0 fp, PE (compCx X N1 scope cl C s0 H0 fp) elt te) (hs : ∀ x, foldedSetIterable iter X.env x = pure x := by intro _; rfl) :
    PE X (.ListComp elt [⟨tg, iter, ifs, 0⟩] scope pos) (tComp wi g tt te cap) := by
  intro pins s σ H Q I h
  rw [eval_ListComp]
  refine wpAny_comprehension_free (use := none) rfl hs K.clos K.kind K.names (thn (hi pins s σ H _ I h) fun v s1 h1 => thn h1 fun itv s2 h2 => ?_)
  obtain ⟨it, fp, tn, J, H2, e, I2, T, st2, f2, hq⟩ := h2
  subst e
  refine comp_run (RR := fun acc C => compPost (model X.prog X.w) X.A X.xe none (EP X pins σ Q) acc C) K hc I2 T st2 f2 hg ht he hq ?_
  rintro D C H' s' I' ⟨m, hn⟩ f q
  exact ⟨m, hn, fun h' sb => ⟨.ref D, H', I'.letgo f sb, rfl, q⟩⟩

end
/-! ### the forms one uses -/
theorem comp_range {lo : Int} {n : Nat} {g : TG} {tt : TT} {te : TE} {σ0 : St} {H1 : Hp} {acc : Addr} {Q : VK} (Pv : Nat → St → Hp → Prop) (h0 : Pv 0 σ0 (upd H1 acc (.lst [])))
    (hs : ∀ i σ H, i < n → Pv i σ H → g (.int (lo + i)) σ H fun σ4 H4 => tt σ4 H4 fun b H5 =>
      if b = true then te σ4 H5 fun y H6 => ∃ xs, H6 acc = some (.lst xs) ∧ xs.length < sizeLine ∧ Pv (i + 1) σ4 (upd H6 acc (.lst (xs ++ [y]))) else Pv (i + 1) σ4 H5)
    (hd : ∀ σ H, Pv n σ H → Q (.ref acc) H) : CompW (Itr lo n) g tt te acc σ0 H1 Q := by
  refine ⟨fun i m σ H => m = n - i ∧ i ≤ n ∧ Pv i σ H, ⟨n, by simp, Nat.zero_le _, h0⟩, ?_⟩
  rintro i m σ H ⟨rfl, hi, p⟩
  by_cases hlt : i < n
  · refine .inr ⟨hlt, Pv (i + 1), fun σ' H' p' => ⟨n - (i + 1), by omega, rfl, hlt, p'⟩, fun x H' y => ?_⟩
    obtain ⟨e, y⟩ := y
    subst e y
    exact hs i σ _ hlt p
  · have e : i = n := by omega
    subst e
    exact .inl ⟨Nat.le_refl _, hd σ H p⟩
theorem comp_list {K : PySem.W.Frag} {a : Addr} {xs : List V} {g : TG} {tt : TT} {te : TE} {σ0 : St} {H1 : Hp} {acc : Addr} {Q : VK} (Pv : Nat → St → Hp → Prop) (h0 : Pv 0 σ0 (upd H1 acc (.lst [])))
    (hl : ∀ i σ H, i ≤ xs.length → Pv i σ H → SqL K H a xs)
    (hs : ∀ i x σ H, xs[i]? = some x → Pv i σ H → g x σ H fun σ4 H4 => tt σ4 H4 fun b H5 =>
      if b = true then te σ4 H5 fun y H6 => ∃ ys, H6 acc = some (.lst ys) ∧ ys.length < sizeLine ∧ Pv (i + 1) σ4 (upd H6 acc (.lst (ys ++ [y]))) else Pv (i + 1) σ4 H5)
    (hd : ∀ σ H, Pv xs.length σ H → Q (.ref acc) H) : CompW (Itl K a) g tt te acc σ0 H1 Q := by
  refine ⟨fun i m σ H => m = xs.length - i ∧ i ≤ xs.length ∧ Pv i σ H, ⟨xs.length, by simp, Nat.zero_le _, h0⟩, ?_⟩
  rintro i m σ H ⟨rfl, hi, p⟩
  have q := hl i σ H hi p
  by_cases hlt : i < xs.length
  · refine .inr ⟨⟨xs, xs[i], q, by simp [hlt]⟩, Pv (i + 1), fun σ' H' p' => ⟨xs.length - (i + 1), by omega, rfl, hlt, p'⟩, fun x H' y => ?_⟩
    obtain ⟨e, y⟩ := y
    subst e
    exact hs i x σ _ (y xs q) p
  · have e : i = xs.length := by omega
    subst e
    exact .inl ⟨⟨xs, q, Nat.le_refl _⟩, hd σ H p⟩
noncomputable def clOf (cells : List (Str × Addr)) : List (Str × NameKind) → List (Str × Addr) → List (Str × Addr)
  | [], acc => acc
  | (n, k) :: r, acc => clOf cells r (if k == .free then (n, (cells.lookup n).getD 0) :: acc else acc)
theorem clos_loop {env : Env} : ∀ (names : List (Str × NameKind)) (acc : List (Str × Addr)), (∀ y ∈ names, y.2 = .free → (env.cells.lookup y.1).isSome = true) →
    (forIn names acc fun x (cs : List (Str × Addr)) => if (x.2 == NameKind.free) = true then do let c ← cellOf env x.1; pure (ForInStep.yield ((x.1, c) :: cs)) else (pure (ForInStep.yield cs) : Sem (ForInStep (List (Str × Addr))))) = pure (clOf env.cells names acc)
  | [], acc, _ => by rw [List.forIn_nil]; rfl
  | (n, k) :: r, acc, h => by
    rw [List.forIn_cons]
    by_cases hk : (k == NameKind.free) = true
    · obtain ⟨c, hc⟩ := Option.isSome_iff_exists.mp (h (n, k) List.mem_cons_self (by simpa using hk))
      have hc : env.cells.lookup n = some c := hc
      have e : cellOf env n = pure c := by unfold cellOf; rw [hc]
      simp only [hk, if_true, e, pure_bind]
      unfold clOf
      rw [if_pos hk, hc]
      exact clos_loop r _ fun y hy => h y (List.mem_cons_of_mem _ hy)
    · simp only [hk, if_false, pure_bind, Bool.false_eq_true]
      unfold clOf
      rw [if_neg hk]
      exact clos_loop r _ fun y hy => h y (List.mem_cons_of_mem _ hy)
theorem clos_of {env : Env} {scope : Scope} (h : ∀ y ∈ scope.names, y.2 = .free → (env.cells.lookup y.1).isSome = true) : closureFor scope env = pure (clOf env.cells scope.names []) := by
  unfold closureFor
  rw [← clos_loop scope.names [] h]
  simp only [bind_pure]
theorem clOf_mem {cells : List (Str × Addr)} : ∀ (names : List (Str × NameKind)) (acc : List (Str × Addr)), (∀ y ∈ names, y.2 = .free → (cells.lookup y.1).isSome = true) → (∀ p ∈ acc, cells.lookup p.1 = some p.2) →
    ∀ p ∈ clOf cells names acc, cells.lookup p.1 = some p.2
  | [], acc, _, ha, p, hp => ha p hp
  | (n, k) :: r, acc, h, ha, p, hp => by
    unfold clOf at hp
    refine clOf_mem r _ (fun y hy => h y (List.mem_cons_of_mem _ hy)) ?_ p hp
    by_cases hk : (k == NameKind.free) = true
    · rw [if_pos hk]
      intro q hq
      rcases List.mem_cons.mp hq with rfl | hq
      · obtain ⟨c, hc⟩ := Option.isSome_iff_exists.mp (h (n, k) List.mem_cons_self (by simpa using hk))
        have hc : cells.lookup n = some c := hc
        rw [hc]; rfl
      · exact ha q hq
    · rw [if_neg hk]; exact ha
theorem clOf_has {cells : List (Str × Addr)} (x : Str) : ∀ (names : List (Str × NameKind)) (acc : List (Str × Addr)), ((∃ y ∈ names, y.1 = x ∧ y.2 = .free) ∨ (acc.lookup x).isSome = true) → ((clOf cells names acc).lookup x).isSome = true
  | [], acc, h => by
    rcases h with ⟨y, hy, _⟩ | h
    · simp at hy
    · exact h
  | (n, k) :: r, acc, h => by
    unfold clOf
    refine clOf_has x r _ ?_
    rcases h with ⟨y, hy, e1, e2⟩ | h
    · rcases List.mem_cons.mp hy with rfl | hy
      · refine .inr ?_
        have hk : (k == NameKind.free) = true := by simpa using e2
        rw [if_pos hk]
        have e1 : n = x := e1
        subst e1
        simp [List.lookup_cons]
      · exact .inl ⟨y, hy, e1, e2⟩
    · refine .inr ?_
      split
      · rw [List.lookup_cons]
        split
        · rfl
        · exact h
      · exact h
theorem lookup_relabel {env : Env} {k : NameKind} : ∀ {names : List (Str × NameKind)} {x : Str}, (∀ y ∈ names, y.2 ≠ .cell) → k = .cell ∨ k = .free →
    (names.map fun (n, k) => if (k == NameKind.free && env.scope.kind == .function && env.kindOf n == some .cell) then (n, NameKind.cell) else (n, k)).lookup x = some k → ∃ y ∈ names, y.1 = x ∧ y.2 = .free
  | [], x, _, _, h => by simp at h
  | (n, j) :: r, x, hn, hk, h => by
    have ih := @lookup_relabel env k r x (fun y hy => hn y (List.mem_cons_of_mem _ hy)) hk
    rw [List.map_cons, List.lookup_cons] at h
    have e1 : ∀ (c : Bool), ((if c = true then (n, NameKind.cell) else (n, j)) : Str × NameKind).1 = n := by intro c; cases c <;> rfl
    by_cases hx : (x == n) = true
    · have hxn : n = x := (by simpa using hx : x = n).symm
      refine ⟨(n, j), List.mem_cons_self, hxn, ?_⟩
      by_cases hc : (j == NameKind.free && env.scope.kind == .function && env.kindOf n == some .cell) = true
      · simp only [Bool.and_eq_true] at hc
        simpa using hc.1.1
      · simp only [e1, hx] at h
        simp only [hc] at h
        have h : j = k := by simpa using h
        rcases hk with rfl | rfl
        · exact absurd h (hn _ List.mem_cons_self)
        · exact h
    · have hx' : (x == n) = false := by simpa using hx
      simp only [e1, hx'] at h
      obtain ⟨y, hy, r⟩ := ih h
      exact ⟨y, List.mem_cons_of_mem _ hy, r⟩
theorem relabel_free_aux {env : Env} : ∀ {names : List (Str × NameKind)} {x : Str}, names.lookup x = some .free →
    (names.map fun (n, k) => if (k == NameKind.free && env.scope.kind == .function && env.kindOf n == some .cell) then (n, NameKind.cell) else (n, k)).lookup x = some .cell ∨
    (names.map fun (n, k) => if (k == NameKind.free && env.scope.kind == .function && env.kindOf n == some .cell) then (n, NameKind.cell) else (n, k)).lookup x = some .free
  | [], _, h => by simp at h
  | (n, k) :: r, x, h => by
    have ih := @relabel_free_aux env r x
    show List.lookup x ((if (k == NameKind.free && env.scope.kind == .function && env.kindOf n == some .cell) = true then (n, NameKind.cell) else (n, k)) :: _) = _ ∨
      List.lookup x ((if (k == NameKind.free && env.scope.kind == .function && env.kindOf n == some .cell) = true then (n, NameKind.cell) else (n, k)) :: _) = _
    cases hx : x == n with
    | true =>
      simp only [List.lookup_cons, hx] at h
      cases h
      by_cases hc : (NameKind.free == NameKind.free && env.scope.kind == .function && env.kindOf n == some .cell) = true
      · rw [if_pos hc]; exact .inl (by simp only [List.lookup_cons, hx])
      · rw [if_neg hc]; exact .inr (by simp only [List.lookup_cons, hx])
    | false =>
      simp only [List.lookup_cons, hx] at h
      by_cases hc : (k == NameKind.free && env.scope.kind == .function && env.kindOf n == some .cell) = true
      · rw [if_pos hc]; simp only [List.lookup_cons, hx]; exact ih h
      · rw [if_neg hc]; simp only [List.lookup_cons, hx]; exact ih h
theorem relabel_free {scope : Scope} {env : Env} {x : Str} (h : scope.names.lookup x = some .free) : (relabel scope env).names.lookup x = some .cell ∨ (relabel scope env).names.lookup x = some .free := relabel_free_aux h

/-- a comprehension in a def's body, by what is seen of the two scopes -/
theorem compOk_def {X : Cx} {scope sc : Scope} {N1 : List Str} {cap : List (Option Nat)} (n : Nat) (hsc : X.env.scope = sc) (hcells : X.env.cells = cellsFrom n sc.names []) (kind : scope.kind = .function)
    (nocell : ∀ y ∈ scope.names, y.2 ≠ .cell) (names : ∀ y ∈ scope.names, y.2 = .local → scope.names.lookup y.1 = some .local) (free : ∀ y ∈ scope.names, y.2 = .free → sc.names.lookup y.1 = some .cell)
    (len : cap.length = N1.length)
    (caps : ∀ i, i < N1.length → ∀ x j, N1[i]? = some x → cap[i]? = some (some j) → X.N[j]? = some x ∧ sc.names.lookup x = some .cell ∧ scope.names.lookup x = some .free) :
    CompOk X scope (clOf X.env.cells scope.names []) N1 cap := by
  have fr : ∀ y ∈ scope.names, y.2 = .free → (X.env.cells.lookup y.1).isSome = true := fun y hy e => by
    rw [hcells]
    exact PySem.W.cellsFrom_some _ _ _ (.inl (free y hy e))
  have mem : ∀ p ∈ clOf X.env.cells scope.names [], X.env.cells.lookup p.1 = some p.2 := clOf_mem scope.names [] fr fun p hp => absurd hp (by simp)
  have has : ∀ x, ((relabel scope X.env).names.lookup x = some .cell ∨ (relabel scope X.env).names.lookup x = some .free) → ∃ c, (clOf X.env.cells scope.names []).lookup x = some c := fun x h => by
    have q : ∃ y ∈ scope.names, y.1 = x ∧ y.2 = .free := by
      rcases h with h | h
      · exact lookup_relabel nocell (.inl rfl) h
      · exact lookup_relabel nocell (.inr rfl) h
    exact Option.isSome_iff_exists.mp (clOf_has x scope.names [] (.inl q))
  refine ⟨clos_of fr, fun x c h => mem (x, c) (PySem.mem_of_lookup h), kind, nocell, names, has, len, fun i x j e1 e2 => ?_⟩
  have hi : i < N1.length := (List.getElem?_eq_some_iff.mp e1).1
  obtain ⟨k1, k2, k3⟩ := caps i hi x j e1 e2
  refine ⟨k1, .inr (.inl (by rw [hsc]; exact k2)), ?_, ?_⟩
  · show X.env.scope.names.lookup x ≠ _
    rw [hsc, k2]
    intro z; cases z
  · exact relabel_free k3
end L2

set_option Elab.async false
set_option linter.all false
set_option maxRecDepth 100000
/-! Data of any depth in the abstract heap: ints, texts, tuples and lists of them; == and != of two such things; isinstance. -/
namespace L2
open PySem PySem.Spec PyProof.Rows

inductive Dd where
  | int (i : Int) | str (x : Str) | tup (ds : List Dd) | lst (ds : List Dd)

/-- the thing d stands at the value v -/
inductive At (H : Hp) : Dd → V → Prop where
  | int (i : Int) : At H (.int i) (.int i)
  | str (x : Str) : At H (.str x) (.str x)
  | tup {a : Addr} {xs : List V} {ds : List Dd} (h : H a = some (.tup xs)) (r : Paired (At H) ds xs) : At H (.tup ds) (.ref a)
  | lst {a : Addr} {xs : List V} {ds : List Dd} (h : H a = some (.lst xs)) (r : Paired (At H) ds xs) : At H (.lst ds) (.ref a)
noncomputable abbrev AtL (H : Hp) : List Dd → List V → Prop := Paired (At H)

theorem At.int_inv {H : Hp} {i : Int} {v : V} (h : At H (.int i) v) : v = .int i := by cases h; rfl
theorem At.str_inv {H : Hp} {i : Str} {v : V} (h : At H (.str i) v) : v = .str i := by cases h; rfl
theorem At.tup_inv {H : Hp} {ds : List Dd} {v : V} (h : At H (.tup ds) v) : ∃ a xs, v = .ref a ∧ H a = some (.tup xs) ∧ AtL H ds xs := by
  cases h with
  | tup h r => exact ⟨_, _, rfl, h, r⟩
theorem At.lst_inv {H : Hp} {ds : List Dd} {v : V} (h : At H (.lst ds) v) : ∃ a xs, v = .ref a ∧ H a = some (.lst xs) ∧ AtL H ds xs := by
  cases h with
  | lst h r => exact ⟨_, _, rfl, h, r⟩

theorem Paired.get {α β : Type} {F : α → β → Prop} : ∀ {l : List α} {m : List β} {i : Nat} {a : α} {b : β}, Paired F l m → l[i]? = some a → m[i]? = some b → F a b
  | _, _, _, _, _, .nil, e, _ => by simp at e
  | _, _, 0, _, _, .cons r _, e1, e2 => by simp at e1 e2; subst e1 e2; exact r
  | _, _, i + 1, a, b, .cons _ t, e1, e2 => Paired.get (i := i) t (by simpa using e1) (by simpa using e2)
theorem Paired.get1 {α β : Type} {F : α → β → Prop} {l : List α} {m : List β} {i : Nat} {a : α} (p : Paired F l m) (e : l[i]? = some a) : ∃ b, m[i]? = some b ∧ F a b := by
  have hl := p.length
  obtain ⟨hi, _⟩ := List.getElem?_eq_some_iff.mp e
  have : m[i]? = some m[i] := by simp [show i < m.length by omega]
  exact ⟨_, this, Paired.get p e this⟩
theorem Paired.get2 {α β : Type} {F : α → β → Prop} {l : List α} {m : List β} {i : Nat} {b : β} (p : Paired F l m) (e : m[i]? = some b) : ∃ a, l[i]? = some a ∧ F a b := by
  have hl := p.length
  obtain ⟨hi, _⟩ := List.getElem?_eq_some_iff.mp e
  have : l[i]? = some l[i] := by simp [show i < l.length by omega]
  exact ⟨_, this, Paired.get p this e⟩
theorem Paired.app {α β : Type} {F : α → β → Prop} : ∀ {l l' : List α} {m m' : List β}, Paired F l m → Paired F l' m' → Paired F (l ++ l') (m ++ m')
  | _, _, _, _, .nil, q => q
  | _, _, _, _, .cons r t, q => .cons r (Paired.app t q)
theorem Paired.impM {α β : Type} {F G : α → β → Prop} : ∀ {l : List α} {m : List β}, Paired F l m → (∀ a b, a ∈ l → F a b → G a b) → Paired G l m
  | _, _, .nil, _ => .nil
  | _, _, .cons r t, f => .cons (f _ _ List.mem_cons_self r) (Paired.impM t fun a b h => f a b (List.mem_cons_of_mem _ h))

theorem Same.upd_new {H : Hp} {a : Addr} {o : HO} (n : H a = none) : Same H (upd H a o) := fun b u e => by rw [upd_ne (ne_of_none e n)]; exact e

theorem At.same {H H' : Hp} (e : Same H H') : ∀ (n : Nat) {d : Dd} {v : V}, sizeOf d ≤ n → At H d v → At H' d v
  | 0, d, v, hn, _ => by cases d <;> simp at hn
  | n + 1, d, v, hn, h => by
    have lt : ∀ {ds : List Dd} {d' : Dd}, d' ∈ ds → sizeOf ds < n + 1 → sizeOf d' ≤ n := fun hm hs => by
      have := List.sizeOf_lt_of_mem hm
      omega
    cases h with
    | int i => exact .int i
    | str x => exact .str x
    | tup h r => exact .tup (e _ _ h) (Paired.impM r fun a b hm q => At.same e n (lt hm (by simp at hn; omega)) q)
    | lst h r => exact .lst (e _ _ h) (Paired.impM r fun a b hm q => At.same e n (lt hm (by simp at hn; omega)) q)
theorem At.mono {H H' : Hp} {d : Dd} {v : V} (h : At H d v) (e : Same H H') : At H' d v := At.same e _ (Nat.le_refl _) h
theorem AtL.mono {H H' : Hp} {d : List Dd} {v : List V} (h : AtL H d v) (e : Same H H') : AtL H' d v := Paired.impM h fun _ _ _ q => q.mono e

/-- things without lists lean on tuples alone, which never change -/
inductive NoL : Dd → Prop where
  | int (i : Int) : NoL (.int i)
  | str (x : Str) : NoL (.str x)
  | tup {ds : List Dd} (h : ∀ d ∈ ds, NoL d) : NoL (.tup ds)
noncomputable def SameT (H H' : Hp) : Prop := ∀ a xs, H a = some (.tup xs) → H' a = some (.tup xs)
theorem Same.t {H H' : Hp} (h : Same H H') : SameT H H' := fun a xs e => h a _ e
theorem SameT.trans {H H1 H2 : Hp} (a : SameT H H1) (b : SameT H1 H2) : SameT H H2 := fun c xs e => b c xs (a c xs e)
theorem SameT.put {H : Hp} {l : Addr} {xs : List V} {o : HO} (h : H l = some (.lst xs)) : SameT H (upd H l o) := fun a ys e => by
  rw [upd_ne (ne_of e h (fun z => by cases z))]; exact e
theorem At.sameT {H H' : Hp} (e : SameT H H') : ∀ (n : Nat) {d : Dd} {v : V}, sizeOf d ≤ n → NoL d → At H d v → At H' d v
  | 0, d, v, hn, _, _ => by cases d <;> simp at hn
  | n + 1, d, v, hn, hl, h => by
    cases h with
    | int i => exact .int i
    | str x => exact .str x
    | @tup a xs ds h r =>
      cases hl with
      | tup hl =>
        refine .tup (e _ _ h) (Paired.impM r fun d' b hm q => At.sameT e n ?_ (hl d' hm) q)
        have := List.sizeOf_lt_of_mem hm
        simp at hn
        omega
    | lst h r => cases hl
theorem At.monoT {H H' : Hp} {d : Dd} {v : V} (h : At H d v) (l : NoL d) (e : SameT H H') : At H' d v := At.sameT e _ (Nat.le_refl _) l h
theorem AtL.monoT {H H' : Hp} {d : List Dd} {v : List V} (h : AtL H d v) (l : ∀ x ∈ d, NoL x) (e : SameT H H') : AtL H' d v := Paired.impM h fun _ _ m q => q.monoT (l _ m) e
theorem Paired.snoc' {α β : Type} {F : α → β → Prop} {l : List α} {m : List β} {a : α} {b : β} (h : Paired F l m) (q : F a b) : Paired F (l ++ [a]) (m ++ [b]) := Paired.app h (.cons q .nil)

/-- no deeper than n -/
noncomputable def fits : Nat → Dd → Prop
  | _, .int _ => True
  | _, .str _ => True
  | 0, _ => False
  | n + 1, .tup ds => ∀ d ∈ ds, fits n d
  | n + 1, .lst ds => ∀ d ∈ ds, fits n d

section
variable {X : Cx} {pins : List (Addr × Obj)} {σ : St} {H : Hp} {s : Shared}
/-- what stands at a value is one thing -/
theorem At.inj {H : Hp} : ∀ (n : Nat) {d d' : Dd} {v : V}, sizeOf d ≤ n → At H d v → At H d' v → d = d'
  | 0, d, _, _, hn, _, _ => by cases d <;> simp at hn
  | n + 1, d, d', v, hn, h, h' => by
    have rec' : ∀ {ds es : List Dd} {xs : List V}, sizeOf ds ≤ n → AtL H ds xs → AtL H es xs → ds = es := by
      intro ds es xs hs r
      induction r generalizing es with
      | nil => intro q; cases q; rfl
      | @cons a b l1 l2 q t ih =>
        intro q'
        cases q' with
        | @cons a' _ l1' _ q1 t' =>
          have e1 : a = a' := At.inj n (by simp at hs; omega) q q1
          have e2 := ih (by simp at hs; omega) t'
          rw [e1, e2]
    cases h with
    | int i => cases h'; rfl
    | str x => cases h'; rfl
    | @tup a xs ds h r =>
      cases h' with
      | @tup _ ys es h1 r1 =>
        rw [h] at h1; cases h1
        rw [rec' (by simp at hn; omega) r r1]
      | @lst _ ys es h1 r1 => rw [h] at h1; cases h1
    | @lst a xs ds h r =>
      cases h' with
      | @lst _ ys es h1 r1 =>
        rw [h] at h1; cases h1
        rw [rec' (by simp at hn; omega) r r1]
      | @tup _ ys es h1 r1 => rw [h] at h1; cases h1

theorem all_range {n : Nat} {e : Nat → Bool} : ((List.range n).all e) = true ↔ ∀ j, j < n → e j = true := by
  rw [List.all_eq_true]
  exact ⟨fun h j hj => h j (List.mem_range.mpr hj), fun h j hj => h j (List.mem_range.mp hj)⟩

/-- the items' answers -/
theorem items_eq {F : Dd → Dd → Nat → Bool → Prop} {ds es : List Dd} (h : ∀ j d e, ds[j]? = some d → es[j]? = some e → ∃ b, F d e j b ∧ (b = true ↔ d = e)) :
    ∃ f : Nat → Bool, (∀ j d e, ds[j]? = some d → es[j]? = some e → F d e j (f j) ∧ (f j = true ↔ d = e)) := by
  have h' : ∀ j, ∃ b : Bool, ∀ d e, ds[j]? = some d → es[j]? = some e → F d e j b ∧ (b = true ↔ d = e) := fun j => by
    cases hd : ds[j]? with
    | none => exact ⟨true, fun d e q => by cases q⟩
    | some d =>
      cases he : es[j]? with
      | none => exact ⟨true, fun d e _ q => by cases q⟩
      | some e =>
        obtain ⟨b, q⟩ := h j d e hd he
        exact ⟨b, fun d' e' q1 q2 => by cases q1; cases q2; exact q⟩
  exact Classical.skolem.mp h'
theorem arr_at {l : List Value} {j : Nat} {q : Value} (h : j < l.toArray.size) (g : l[j]? = some q) : l.toArray[j] = q := by
  have h' : j < l.length := by simpa using h
  rw [List.getElem?_eq_getElem h'] at g
  simpa using Option.some.inj g

theorem list_ext_iff {ds es : List Dd} (hl : ds.length = es.length) {f : Nat → Bool} (h : ∀ j d e, ds[j]? = some d → es[j]? = some e → (f j = true ↔ d = e)) : (∀ j, j < ds.length → f j = true) ↔ ds = es := by
  constructor
  · intro q
    refine List.ext_getElem hl fun j h1 h2 => ?_
    exact (h j ds[j] es[j] (by simp [h1]) (by simp [h2])).mp (q j h1)
  · rintro rfl j hj
    exact (h j ds[j] ds[j] (by simp [hj]) (by simp [hj])).mpr rfl

/-- == of things -/
theorem Inv.eqAt (I : Inv X pins σ H s) : ∀ (n : Nat) {A : Around} {d e : Dd} {v x : V} {u y : Value}, fits n d → At H d v → At H e x → RelV v u → RelV x y → A.units + n < cLine →
    ∃ b, SeqAt.EqAt A s u y b ∧ (b = true ↔ d = e) := by
  intro n
  induction n with
  | zero =>
    intro A d e v x u y hf h1 h2 r1 r2 hu
    cases h1 with
    | int i =>
      obtain ⟨t, rfl⟩ := r1
      cases h2 with
      | int j => obtain ⟨t', rfl⟩ := r2; exact ⟨_, SeqAt.EqAt.int_int i t j t', by simp⟩
      | str j => obtain ⟨t', rfl⟩ := r2; exact ⟨_, SeqAt.EqAt.int_str i t j t', by simp⟩
      | tup h r => cases r2; obtain ⟨its, _, p, _⟩ := I.tuple (SqT.of (K := X.K) h); exact ⟨_, SeqAt.EqAt.int_tuple i t p (by omega), by simp⟩
      | lst h r => cases r2; obtain ⟨its, _, p, _⟩ := I.list (SqL.of (K := X.K) h); exact ⟨_, SeqAt.EqAt.int_list i t p.isList (by omega), by simp⟩
    | str i =>
      obtain ⟨t, rfl⟩ := r1
      cases h2 with
      | int j => obtain ⟨t', rfl⟩ := r2; exact ⟨_, SeqAt.EqAt.str_int i t j t', by simp⟩
      | str j => obtain ⟨t', rfl⟩ := r2; exact ⟨_, SeqAt.EqAt.str_str i t j t', by simp⟩
      | tup h r => cases r2; obtain ⟨its, _, p, _⟩ := I.tuple (SqT.of (K := X.K) h); exact ⟨_, SeqAt.EqAt.str_tuple i t p (by omega), by simp⟩
      | lst h r => cases r2; obtain ⟨its, _, p, _⟩ := I.list (SqL.of (K := X.K) h); exact ⟨_, SeqAt.EqAt.str_list i t p.isList (by omega), by simp⟩
    | tup h r => exact hf.elim
    | lst h r => exact hf.elim
  | succ n ih =>
    intro A d e v x u y hf h1 h2 r1 r2 hu
    have sub : ∀ {ds es : List Dd} {xs ys : List V} {us ws : List Value}, (∀ d ∈ ds, fits n d) → AtL H ds xs → AtL H es ys → Vals xs us → Vals ys ws →
        ∃ f : Nat → Bool, ∀ j d e, ds[j]? = some d → es[j]? = some e → (∃ p q, us[j]? = some p ∧ ws[j]? = some q ∧ SeqAt.EqAt A.in1 s p q (f j)) ∧ (f j = true ↔ d = e) := by
      intro ds es xs ys us ws hfs a1 a2 v1 v2
      refine items_eq (F := fun d e j b => ∃ p q, us[j]? = some p ∧ ws[j]? = some q ∧ SeqAt.EqAt A.in1 s p q b) fun j d e e1 e2 => ?_
      obtain ⟨x1, g1, t1⟩ := Paired.get1 a1 e1
      obtain ⟨x2, g2, t2⟩ := Paired.get1 a2 e2
      obtain ⟨p, p1, p2⟩ := v1.get g1
      obtain ⟨q, q1, q2⟩ := v2.get g2
      obtain ⟨b, hb, hb'⟩ := ih (A := A.in1) (hfs d (List.mem_of_getElem? e1)) t1 t2 p2 q2 (by show A.units + 1 + n < cLine; omega)
      exact ⟨b, ⟨p, q, p1, q1, hb⟩, hb'⟩
    cases h1 with
    | int i =>
      obtain ⟨t, rfl⟩ := r1
      cases h2 with
      | int j => obtain ⟨t', rfl⟩ := r2; exact ⟨_, SeqAt.EqAt.int_int i t j t', by simp⟩
      | str j => obtain ⟨t', rfl⟩ := r2; exact ⟨_, SeqAt.EqAt.int_str i t j t', by simp⟩
      | tup h r => cases r2; obtain ⟨its, _, p, _⟩ := I.tuple (SqT.of (K := X.K) h); exact ⟨_, SeqAt.EqAt.int_tuple i t p (by omega), by simp⟩
      | lst h r => cases r2; obtain ⟨its, _, p, _⟩ := I.list (SqL.of (K := X.K) h); exact ⟨_, SeqAt.EqAt.int_list i t p.isList (by omega), by simp⟩
    | str i =>
      obtain ⟨t, rfl⟩ := r1
      cases h2 with
      | int j => obtain ⟨t', rfl⟩ := r2; exact ⟨_, SeqAt.EqAt.str_int i t j t', by simp⟩
      | str j => obtain ⟨t', rfl⟩ := r2; exact ⟨_, SeqAt.EqAt.str_str i t j t', by simp⟩
      | tup h r => cases r2; obtain ⟨its, _, p, _⟩ := I.tuple (SqT.of (K := X.K) h); exact ⟨_, SeqAt.EqAt.str_tuple i t p (by omega), by simp⟩
      | lst h r => cases r2; obtain ⟨its, _, p, _⟩ := I.list (SqL.of (K := X.K) h); exact ⟨_, SeqAt.EqAt.str_list i t p.isList (by omega), by simp⟩
    | @tup a xs ds h r =>
      cases r1
      obtain ⟨its, rv, p, _⟩ := I.tuple (SqT.of (K := X.K) h)
      cases h2 with
      | int j => obtain ⟨t', rfl⟩ := r2; exact ⟨_, SeqAt.EqAt.tuple_int j t' p (by omega), by simp⟩
      | str j => obtain ⟨t', rfl⟩ := r2; exact ⟨_, SeqAt.EqAt.tuple_str j t' p (by omega), by simp⟩
      | @lst b ys es h' r' =>
        cases r2
        obtain ⟨its', rv', p', _⟩ := I.list (SqL.of (K := X.K) h')
        exact ⟨_, SeqAt.EqAt.tuple_list p p'.isList (by omega), by simp⟩
      | @tup b ys es h' r' =>
        cases r2
        obtain ⟨its', rv', p', _⟩ := I.tuple (SqT.of (K := X.K) h')
        by_cases hab : a = b
        · subst hab
          have e := At.inj _ (Nat.le_refl _) (At.tup h r) (At.tup h' r')
          exact ⟨true, SeqAt.EqAt.same _, by simp [e]⟩
        · obtain ⟨f, hfj⟩ := sub hf r r' rv rv'
          have l1 := r.length
          have l2 := r'.length
          have l3 := rv.length
          have l4 := rv'.length
          refine ⟨_, SeqAt.EqAt.of_refs hab (SeqAt.RcAt.tuples (e := f) p p' (by omega) fun j h1 h2 => ?_), ?_⟩
          · simp only [List.size_toArray] at h1 h2
            obtain ⟨⟨q1, q2, g1, g2, z⟩, _⟩ := hfj j ds[j] es[j] (by simp [show j < ds.length by omega]) (by simp [show j < es.length by omega])
            rw [arr_at _ g1, arr_at _ g2]
            exact z
          · rw [Bool.and_eq_true, all_range, List.size_toArray, List.size_toArray, beq_iff_eq]
            constructor
            · rintro ⟨q, el⟩
              have hl : ds.length = es.length := by omega
              rw [(list_ext_iff hl fun j d e e1 e2 => (hfj j d e e1 e2).2).mp fun j hj => q j (by omega)]
            · intro e
              injection e with e
              subst e
              refine ⟨fun j hj => ?_, by omega⟩
              exact (hfj j ds[j] ds[j] (by simp [show j < ds.length by omega]) (by simp [show j < ds.length by omega])).2.mpr rfl
    | @lst a xs ds h r =>
      cases r1
      obtain ⟨its, rv, p, _⟩ := I.list (SqL.of (K := X.K) h)
      cases h2 with
      | int j => obtain ⟨t', rfl⟩ := r2; exact ⟨_, SeqAt.EqAt.list_int j t' p.isList (by omega), by simp⟩
      | str j => obtain ⟨t', rfl⟩ := r2; exact ⟨_, SeqAt.EqAt.list_str j t' p.isList (by omega), by simp⟩
      | @tup b ys es h' r' =>
        cases r2
        obtain ⟨its', rv', p', _⟩ := I.tuple (SqT.of (K := X.K) h')
        exact ⟨_, SeqAt.EqAt.list_tuple p.isList p' (by omega), by simp⟩
      | @lst b ys es h' r' =>
        cases r2
        obtain ⟨its', rv', p', _⟩ := I.list (SqL.of (K := X.K) h')
        by_cases hab : a = b
        · subst hab
          have e := At.inj _ (Nat.le_refl _) (At.lst h r) (At.lst h' r')
          exact ⟨true, SeqAt.EqAt.same _, by simp [e]⟩
        · obtain ⟨f, hfj⟩ := sub hf r r' rv rv'
          have l1 := r.length
          have l2 := r'.length
          have l3 := rv.length
          have l4 := rv'.length
          by_cases hl : ds.length = es.length
          · refine ⟨_, SeqAt.EqAt.of_refs hab (SeqAt.RcAt.lists (e := f) p.isList p'.isList (by simp only [List.size_toArray]; omega) (by omega) fun j h1 h2 => ?_), ?_⟩
            · simp only [List.size_toArray] at h1 h2
              obtain ⟨⟨q1, q2, g1, g2, z⟩, _⟩ := hfj j ds[j] es[j] (by simp [show j < ds.length by omega]) (by simp [show j < es.length by omega])
              rw [arr_at _ g1, arr_at _ g2]
              exact z
            · rw [all_range, List.size_toArray]
              constructor
              · intro q
                rw [(list_ext_iff hl fun j d e e1 e2 => (hfj j d e e1 e2).2).mp fun j hj => q j (by omega)]
              · intro e
                injection e with e
                subst e
                intro j hj
                exact (hfj j ds[j] ds[j] (by simp [show j < ds.length by omega]) (by simp [show j < ds.length by omega])).2.mpr rfl
          · refine ⟨_, SeqAt.EqAt.of_refs hab (SeqAt.RcAt.lists_lengths p.isList p'.isList (by simp only [List.size_toArray, bne_iff_ne]; omega) (by omega)), ?_⟩
            constructor
            · intro z; cases z
            · intro e; injection e with e; exact absurd (congrArg List.length e) hl
/-- the items of two sequences, one by one -/
theorem Inv.subs (I : Inv X pins σ H s) {n : Nat} {A : Around} {ds es : List Dd} {xs ys : List V} {us ws : List Value} (hfs : ∀ d ∈ ds, fits n d) (a1 : AtL H ds xs) (a2 : AtL H es ys) (v1 : Vals xs us) (v2 : Vals ys ws) (hu : A.units + n + 1 < cLine) :
    ∃ f : Nat → Bool, (∀ j (h1 : j < us.toArray.size) (h2 : j < ws.toArray.size), SeqAt.EqAt A.in1 s us.toArray[j] ws.toArray[j] (f j)) ∧ ∀ j d e, ds[j]? = some d → es[j]? = some e → (f j = true ↔ d = e) := by
  obtain ⟨f, hf⟩ := items_eq (F := fun d e j b => ∃ p q, us[j]? = some p ∧ ws[j]? = some q ∧ SeqAt.EqAt A.in1 s p q b) fun j d e e1 e2 => by
    obtain ⟨x1, g1, t1⟩ := Paired.get1 a1 e1
    obtain ⟨x2, g2, t2⟩ := Paired.get1 a2 e2
    obtain ⟨p, p1, p2⟩ := v1.get g1
    obtain ⟨q, q1, q2⟩ := v2.get g2
    obtain ⟨b, hb, hb'⟩ := I.eqAt n (A := A.in1) (hfs d (List.mem_of_getElem? e1)) t1 t2 p2 q2 (by show A.units + 1 + n < cLine; omega)
    exact ⟨b, ⟨p, q, p1, q1, hb⟩, hb'⟩
  have l1 := a1.length
  have l2 := a2.length
  have l3 := v1.length
  have l4 := v2.length
  refine ⟨f, fun j h1 h2 => ?_, fun j d e e1 e2 => (hf j d e e1 e2).2⟩
  simp only [List.size_toArray] at h1 h2
  obtain ⟨⟨q1, q2, g1, g2, z⟩, _⟩ := hf j ds[j] es[j] (by simp [show j < ds.length by omega]) (by simp [show j < es.length by omega])
  rw [arr_at _ g1, arr_at _ g2]
  exact z
/-- both tuples, or both lists -/
noncomputable def alikeD : Dd → Dd → Prop
  | .tup _, .tup _ => True
  | .lst _, .lst _ => True
  | _, _ => False
theorem Inv.rcAt (I : Inv X pins σ H s) {n : Nat} {A : Around} {d e : Dd} {v x : V} {u y : Value} (hf : fits (n + 1) d) (hk : alikeD d e) (h1 : At H d v) (h2 : At H e x) (r1 : RelV v u) (r2 : RelV x y) (hu : A.units + n + 1 < cLine) :
    ∃ b, SeqAt.RcAt A s u y b ∧ SeqAt.RcNeAt A s u y (!b) ∧ (b = true ↔ d = e) := by
  cases h1 with
  | int i => exact hk.elim
  | str i => exact hk.elim
  | @tup a xs ds h r =>
    cases r1
    cases h2 with
    | int j => exact hk.elim
    | str j => exact hk.elim
    | lst h' r' => exact hk.elim
    | @tup b ys es h' r' =>
      cases r2
      obtain ⟨its, rv, p, _⟩ := I.tuple (SqT.of (K := X.K) h)
      obtain ⟨its', rv', p', _⟩ := I.tuple (SqT.of (K := X.K) h')
      obtain ⟨f, hfj, hfe⟩ := I.subs hf r r' rv rv' hu
      have l1 := r.length
      have l2 := r'.length
      have l3 := rv.length
      have l4 := rv'.length
      refine ⟨_, SeqAt.RcAt.tuples (e := f) p p' (by omega) hfj, SeqAt.RcNeAt.tuples (e := f) p p' (by omega) hfj, ?_⟩
      rw [Bool.and_eq_true, all_range, List.size_toArray, List.size_toArray, beq_iff_eq]
      constructor
      · rintro ⟨q, el⟩
        have hl : ds.length = es.length := by omega
        rw [(list_ext_iff hl hfe).mp fun j hj => q j (by omega)]
      · intro e
        injection e with e
        subst e
        refine ⟨fun j hj => ?_, by omega⟩
        exact (hfe j ds[j] ds[j] (by simp [show j < ds.length by omega]) (by simp [show j < ds.length by omega])).mpr rfl
  | @lst a xs ds h r =>
    cases r1
    cases h2 with
    | int j => exact hk.elim
    | str j => exact hk.elim
    | tup h' r' => exact hk.elim
    | @lst b ys es h' r' =>
      cases r2
      obtain ⟨its, rv, p, _⟩ := I.list (SqL.of (K := X.K) h)
      obtain ⟨its', rv', p', _⟩ := I.list (SqL.of (K := X.K) h')
      obtain ⟨f, hfj, hfe⟩ := I.subs hf r r' rv rv' hu
      have l1 := r.length
      have l2 := r'.length
      have l3 := rv.length
      have l4 := rv'.length
      by_cases hl : ds.length = es.length
      · refine ⟨_, SeqAt.RcAt.lists (e := f) p.isList p'.isList (by simp only [List.size_toArray]; omega) (by omega) hfj, SeqAt.RcNeAt.lists (e := f) p.isList p'.isList (by simp only [List.size_toArray]; omega) (by omega) hfj, ?_⟩
        rw [all_range, List.size_toArray]
        constructor
        · intro q
          rw [(list_ext_iff hl hfe).mp fun j hj => q j (by omega)]
        · intro e
          injection e with e
          subst e
          intro j hj
          exact (hfe j ds[j] ds[j] (by simp [show j < ds.length by omega]) (by simp [show j < ds.length by omega])).mpr rfl
      · refine ⟨false, SeqAt.RcAt.lists_lengths p.isList p'.isList (by simp only [List.size_toArray, bne_iff_ne]; omega) (by omega), SeqAt.RcNeAt.lists_lengths p.isList p'.isList (by simp only [List.size_toArray, bne_iff_ne]; omega) (by omega), ?_⟩
        constructor
        · intro z; cases z
        · intro e; injection e with e; exact absurd (congrArg List.length e) hl
end

/-- x == y, x != y of two tuples or two lists, no deeper than n + 1 -/
noncomputable def rEqD (n : Nat) : R2 := fun x y H Q => ∃ d e, fits (n + 1) d ∧ alikeD d e ∧ At H d x ∧ At H e y ∧ (d = e → Q (.bl true) H) ∧ (d ≠ e → Q (.bl false) H)
theorem op_eqD {X : Cx} {n : Nat} (hu : X.A.units + n + 1 < cLine) : OpR X (compareOp .Eq) (rEqD n) := by
  intro pins s σ H x y v u Q I rx ry h
  obtain ⟨d, e, hf, hk, h1, h2, q1, q2⟩ := h
  obtain ⟨b, z, _, hb⟩ := I.rcAt hf hk h1 h2 rx ry hu
  refine z X.prog X.w _ _ ?_
  cases b with
  | true => exact ⟨.bl true, H, I, rfl, q1 (hb.mp rfl)⟩
  | false => exact ⟨.bl false, H, I, rfl, q2 fun e => by cases hb.mpr e⟩

/-! ### isinstance(x, T), T a built-in type -/
theorem call_isinst {X : Cx} {K : PySem.W.Frag} (hK : X.K = K) : CallR X (.builtin "isinstance") (fun xs H Q => ∃ x T t b, xs = [x, .ty T] ∧ TyOf K H x t ∧ PySem.W.kitOne K t (.type T) = some b ∧ Q (.bl b) H) := by
  subst hK
  intro pins s σ H xs us Q I r h
  obtain ⟨x, T, t, b, rfl, ty, e, q⟩ := h
  obtain ⟨u, w', rfl, r1, r2⟩ := vals2 r
  cases (show w' = Value.type T from r2)
  exact isinst_ok I r1 ty e fun tk => ⟨.bl b, H, I.tok tk, rfl, q⟩
end L2

set_option Elab.async false
set_option linter.all false
set_option maxRecDepth 100000
/-! Rules with the written part K said outright (for a comprehension's block), and calls of the text's own defs in short. -/
namespace L2
open PySem PySem.Spec PyProof.Rows
section
variable {X : Cx} {K : PySem.W.Frag}
theorem ix_tupK (h : X.K = K) : IxR X (rIxT K) := by subst h; exact ix_tup
theorem ix_listK (h : X.K = K) : IxR X (rIxL K) := by subst h; exact ix_list
theorem sl_tupK (h : X.K = K) : SlR X (rSlT K) := by subst h; exact sl_tup
theorem sl_listK (h : X.K = K) : SlR X (rSlL K) := by subst h; exact sl_list
theorem call_lenK (h : X.K = K) : CallR X (.builtin "len") (fun xs H Q => ∃ p ys, xs = [.ref p] ∧ (SqL K H p ys ∨ SqT K H p ys) ∧ Q (.int ys.length) H) := by subst h; exact call_len_seq
theorem call_listK (h : X.K = K) : CallR X (.type "list") (fun xs H Q => ∃ p ys, xs = [.ref p] ∧ (SqL K H p ys ∨ SqT K H p ys) ∧ ∀ l, H l = none → Q (.ref l) (upd H l (.lst ys))) := by subst h; exact call_list_of
theorem call_tupleK (h : X.K = K) : CallR X (.type "tuple") (fun xs H Q => ∃ p ys, xs = [.ref p] ∧ ((SqL K H p ys ∧ ∀ l, H l = none → Q (.ref l) (upd H l (.tup ys))) ∨ (SqT K H p ys ∧ Q (.ref p) H))) := by subst h; exact call_tuple_of
theorem op_catTK (h : X.K = K) : OpR X (binaryOp .Add) (rCatT K) := by subst h; exact op_catT
theorem pi_listK {tg l : Expr} {tl : TE} (h : X.K = K) (hl : PE X l tl) : PI X tg l (iList K tl) := by subst h; exact pi_list hl
theorem pi_tupK {tg l : Expr} {tl : TE} (h : X.K = K) (hl : PE X l tl) : PI X tg l (iTup K tl) := by subst h; exact pi_tup hl
theorem pg_tupK {es : List Expr} {k : Nat} {t : TGs} {n : Nat} {pos : Pos} (h : X.K = K) (hc : X.calm = true) (hg : PGs X es t)
    (hn : (assignEach es X.env).length = n := by rfl) (hst : (assignEach es X.env).findIdx? (·.1) = none := by rfl) : PG X (.Tuple es k pos) (gTup K n t) := by subst h; exact pg_tup hc hg hn hst
theorem pe_bmK {T : String} {id : String} {name : Str} {r : V → List V → Hp → VK → Prop} {o e : Expr} {es : List Expr} {to : TE} {t : TA} {apos cpos : Pos} (h : X.K = K) (pa : PlainAttrs T) (slot : Slot T name id) (hty : typeOf (.builtin id) = pure (.type "method_descriptor")) (hm : MtM X id r) (ho : PE X o to) (ha : PA X (e :: es) t)
    (hbase : attributeBase o name X.env (eval o X.env) = eval o X.env := by rfl)
    (hfew : ((backTo cpos (starEach (e :: es) X.env)).all (fun x => !x.1) && (backToKw cpos (keywordEach [] X.env)).all (fun x => x.1.isSome)
      && decide ((e :: es).length + ([] : List Keyword).length + (if ([] : List Keyword).isEmpty then 0 else 1) < 30)) = true := by rfl)
    (hline : (apos.endLine == cpos.line) = true := by rfl) (hs : starEach (e :: es) X.env = (false, eval e X.env) :: starEach es X.env := by rfl) (hplain : (backTo cpos (starEach es X.env)).any (·.1) = false := by rfl) :
    PE X (.Call (.Attribute o name apos) (e :: es) [] cpos) (tBM K T r to t) := by subst h; exact pe_bm pa slot hty hm ho ha hbase hfew hline hs hplain
end

/-! ### a def of the text, ready to be called -/
structure Cal (P : Program) (w : World) (K : PySem.W.Frag) (mg : Str → Option Value) (base : Heap) (k : Nat) (x : Str) (ps : List Str) (sp : Sp) : Prop where
  ex : ∃ (f : Addr) (fd : FuncData), FnOk P w K mg base CX0 k f fd ps sp ∧ mg x = some (.ref f) ∧ PySem.W.keepIn K (.ref f) = true ∧ Binds K fd ps []
theorem pe_cal {X : Cx} {k : Nat} {x : Str} {ps : List Str} {sp : Sp} {e : Expr} {es : List Expr} {t : TA} {p pos : Pos} (c : Cal X.prog X.w X.K X.mg X.base k x ps sp) (hr : Room k X.A) (hg : Gl X x) (ha : PA X (e :: es) t)
    (hdb : (x == ("__debug__" : Str)) = false := by decide) (he : starEach (e :: es) X.env = (false, eval e X.env) :: starEach es X.env := by rfl) (hpl : (backTo pos (starEach es X.env)).any (·.1) = false := by rfl) :
    PE X (.Call (.Name x p) (e :: es) [] pos) (tCall sp [] E0 t) := by
  obtain ⟨f, fd, F, hm, hk, hb⟩ := c.ex
  exact pe_call F hr hg hm hk hb .nil pass0 ha hdb he hpl
/-- a def as the top has left it: its name, its object -/
structure At0 (K : PySem.W.Frag) (x : Str) (st : Stmt) : Prop where
  ex : ∃ (f : Addr) (fd : FuncData), Fun K x x st f fd ∧ PySem.W.nsIn K mainGlobals x = some (some (.ref f))
theorem at0_mk {K : PySem.W.Frag} {x : Str} {st : Stmt} {f : Addr} {oc : Value} {od an : Option Addr} {osl : Array (Option Value)} {kV doc pm cdv ct : Value} (a : PySem.W.nsIn K mainGlobals x = some (some (.ref f)))
    (l : K.lookup f = some ⟨oc, od, .func (PySem.W.fnOf x x (defArgs st) (defBody st) (defScope st) .none kV doc pm an cdv ct), osl⟩) (c : PySem.W.codeIn K cdv x = true) (k : PySem.W.keepIn K (.ref f) = true) : At0 K x st :=
  ⟨f, _, fun_mk l c k, a⟩
theorem At0.cal {P : Program} {w : World} {K : PySem.W.Frag} {mg : Str → Option Value} {base h : Heap} {k : Nat} {x : Str} {st : Stmt} {ps : List Str} {sp : Sp} (a : At0 K x st) (X : K.In h) (G : h.Ns mainGlobals mg)
    (hb : ∀ (kV doc pm : Value) (an : Option Addr) (cdv ct : Value) (us : List Value), us.length = ps.length → bindArgs (PySem.W.fnOf x x (defArgs st) (defBody st) (defScope st) .none kV doc pm an cdv ct) ⟨us, []⟩ = pure (ps.zip us))
    (ok : ∀ (f : Addr) (fd : FuncData), Fun K x x st f fd → FnOk P w K mg base CX0 k f fd ps sp) : Cal P w K mg base k x ps sp := by
  obtain ⟨f, fd, F, e⟩ := a.ex
  exact ⟨f, fd, ok f fd F, PySem.W.mg_of X G e, F.kp, F.binds hb⟩
end L2

set_option autoImplicit false
set_option linter.all false
set_option maxRecDepth 100000
/-! The sort of a list of any length, keys of different rank: galloping. -/
namespace GS
open PySem PyProof.Rows
noncomputable def gallop1 : Bool → Keyed → Array Keyed → Nat → Nat → Nat → StateT SortSt Sem (Option Nat) := sortPriv% PySem.Builtin.gallop
structure Cmp (prog : Program) (w : World) (A : Around) (s : Shared) (kind : SortKind) (a0 : List Keyed) (rk : Keyed → Int) : Prop where
  lt : ∀ x y, x ∈ a0 → y ∈ a0 → ∀ (E : Value → Shared → Prop) (Q : Bool → Shared → Prop), Q (decide (rk x < rk y)) s → wpAny (model prog w) A (keyLt' kind x.1 y.1) Q E s
  inj : (a0.map rk).Nodup
section
variable {prog : Program} {w : World} {A : Around} {E : Value → Shared → Prop} {s : Shared} {kind : SortKind} {a0 : List Keyed} {rk : Keyed → Int}
theorem wpS_lt (C : Cmp prog w A s kind a0 rk) {x y : Keyed} {st : SortSt} {Q : Option Bool → SortSt → Prop} (hk : kindOf st = kind) (hx : x ∈ a0) (hy : y ∈ a0) (h : Q (some (decide (rk x < rk y))) st) :
    wpS (model prog w) A E s (lt' x y) Q st := by
  rw [lt'_eq]
  refine wpS_bind (wpS_get ?_)
  rw [hk]
  refine wpS_bind (wpS_lift (wpAny_attempt (C.lt x y hx hy _ _ ⟨rfl, ?_⟩)))
  exact wpS_pure h
theorem wpS_elem {arr : Array Keyed} {i : Nat} {p : Keyed} {st : SortSt} {Q : Keyed → SortSt → Prop} (h : arr[i]? = some p) (q : Q p st) : wpS (model prog w) A E s (elem' arr i) Q st := by
  rw [elem'_eq, h]
  exact wpS_pure q
noncomputable def bey (rk : Keyed → Int) (left : Bool) (key x : Keyed) : Bool := if left = true then decide (rk x < rk key) else !decide (rk key < rk x)
theorem wpS_bey (C : Cmp prog w A s kind a0 rk) {left : Bool} {key x : Keyed} {arr : Array Keyed} {i : Nat} {st : SortSt} {Q : Option Bool → SortSt → Prop} (hk : kindOf st = kind) (hx : arr[i]? = some x) (mx : x ∈ a0) (my : key ∈ a0) (h : Q (some (bey rk left key x)) st) :
    wpS (model prog w) A E s (do let x ← elem' arr i; if left = true then lt' x key else (do let r ← lt' key x; pure (Option.map (fun b => !b) r))) Q st := by
  refine wpS_bind (wpS_elem hx ?_)
  cases left with
  | true =>
    rw [if_pos rfl]
    exact wpS_lt C hk mx my h
  | false =>
    rw [if_neg Bool.false_ne_true]
    exact wpS_bind (wpS_lt C hk my mx (wpS_pure h))

theorem wpS_gallop (C : Cmp prog w A s kind a0 rk) {left : Bool} {key : Keyed} {arr : Array Keyed} {base n hint : Nat} {st : SortSt} {Q : Option Nat → SortSt → Prop} (hk : kindOf st = kind)
    (my : key ∈ a0) (xs : Nat → Keyed) (hx : ∀ i, i < n → arr[base + i]? = some (xs i)) (mx : ∀ i, i < n → xs i ∈ a0) (hh : hint < n)
    (mono : ∀ i j, i ≤ j → j < n → bey rk left key (xs j) = true → bey rk left key (xs i) = true)
    (h : ∀ k, k ≤ n → (∀ i, i < k → bey rk left key (xs i) = true) → (∀ i, k ≤ i → i < n → bey rk left key (xs i) = false) → Q (some k) st) :
    wpS (model prog w) A E s (gallop1 left key arr base n hint) Q st := by
  refine wpS_bind (wpS_bey C hk (hx hint hh) (mx hint hh) my ?_)
  have monoF : ∀ i j, i ≤ j → j < n → bey rk left key (xs i) = false → bey rk left key (xs j) = false := fun i j hij hj hf => by
    cases e : bey rk left key (xs j) with
    | false => rfl
    | true => rw [mono i j hij hj e] at hf; cases hf
  cases hr : bey rk left key (xs hint) with
  | true =>
    dsimp only
    rw [if_pos rfl]
    refine wpS_bind (wpS_mono (wpS_forRange (I := fun i c st' => st' = st ∧ ∃ last ofs, c = (none, last, ofs) ∧ last < ofs ∧ hint + last < n ∧ bey rk left key (xs (hint + last)) = true ∧ i + 1 ≤ ofs)
      (Q := fun c st' => st' = st ∧ ∃ last ofs, c = (none, last, ofs) ∧ last < ofs ∧ hint + last < n ∧ bey rk left key (xs (hint + last)) = true ∧ (n - hint ≤ ofs ∨ (hint + ofs < n ∧ bey rk left key (xs (hint + ofs)) = false))) ?step ?fin ⟨rfl, 0, 1, rfl, by omega, by omega, hr, by omega⟩) ?post)
    case fin =>
      rintro c st' ⟨rfl, last, ofs, rfl, a1, a2, a3, a4⟩
      exact ⟨rfl, last, ofs, rfl, a1, a2, a3, .inl (by omega)⟩
    case step =>
      rintro i c st' _ hi' ⟨rfl, last, ofs, rfl, a1, a2, a3, a4⟩
      dsimp only
      by_cases hge : ofs ≥ n - hint
      · rw [if_pos hge]
        exact wpS_pure ⟨rfl, last, ofs, rfl, a1, a2, a3, .inl hge⟩
      · rw [if_neg hge]
        have hm : hint + ofs < n := by omega
        refine wpS_bind (wpS_bey C hk (hx _ hm) (mx _ hm) my ?_)
        cases e : bey rk left key (xs (hint + ofs)) with
        | true =>
          simp only [Bool.not_true, Bool.false_eq_true, if_false]
          exact wpS_pure ⟨rfl, _, _, rfl, by omega, hm, e, by omega⟩
        | false =>
          simp only [Bool.not_false, if_true]
          exact wpS_pure ⟨rfl, _, _, rfl, a1, a2, a3, .inr ⟨hm, e⟩⟩
    case post =>
      rintro c st' ⟨rfl, last, ofs, rfl, a1, a2, a3, a4⟩
      have F1 : ∀ j, j < hint + last + 1 → bey rk left key (xs j) = true := fun j hj => mono j (hint + last) (by omega) a2 a3
      have F2 : ∀ j, hint + min ofs (n - hint) ≤ j → j < n → bey rk left key (xs j) = false := fun j hj hj' => by
        rcases a4 with a4 | ⟨a4, a5⟩
        · omega
        · exact monoF (hint + ofs) j (by omega) hj' a5
      dsimp only
      refine wpS_bind (wpS_mono (wpS_forRange (I := fun i c st'' => st'' = st' ∧ ∃ lo hi, c = (none, lo, hi) ∧ lo ≤ hi ∧ hi ≤ n ∧ (∀ i, i < lo → bey rk left key (xs i) = true) ∧ (∀ i, hi ≤ i → i < n → bey rk left key (xs i) = false) ∧ hi - lo ≤ n - i)
        (Q := fun c st'' => st'' = st' ∧ ∃ k, c = (none, k, k) ∧ k ≤ n ∧ (∀ i, i < k → bey rk left key (xs i) = true) ∧ (∀ i, k ≤ i → i < n → bey rk left key (xs i) = false)) ?step2 ?fin2 ⟨rfl, hint + last + 1, hint + min ofs (n - hint), rfl, by omega, by omega, F1, F2, by omega⟩) ?post2)
      case post2 =>
        rintro c st'' ⟨rfl, k, rfl, k1, k2, k3⟩
        exact wpS_pure (h k k1 k2 k3)
      case fin2 =>
        rintro c st'' ⟨rfl, l, r, rfl, b1, b2, b3, b4, b5⟩
        have : l = r := by omega
        subst this
        exact ⟨rfl, l, rfl, b2, b3, b4⟩
      case step2 =>
        rintro i c st'' _ hi' ⟨rfl, l, r, rfl, b1, b2, b3, b4, b5⟩
        dsimp only
        by_cases hge : l ≥ r
        · rw [if_pos hge]
          have : l = r := by omega
          subst this
          exact wpS_pure ⟨rfl, l, rfl, b2, b3, b4⟩
        · rw [if_neg hge]
          have hm : l + (r - l) / 2 < n := by omega
          refine wpS_bind (wpS_bey C hk (hx _ hm) (mx _ hm) my ?_)
          cases e : bey rk left key (xs (l + (r - l) / 2)) with
          | true =>
            simp only [if_true]
            refine wpS_pure ⟨rfl, _, _, rfl, by omega, b2, fun j hj => ?_, b4, by omega⟩
            exact mono j (l + (r - l) / 2) (by omega) hm e
          | false =>
            simp only [Bool.false_eq_true, if_false]
            refine wpS_pure ⟨rfl, _, _, rfl, by omega, by omega, b3, fun j hj hj' => ?_, by omega⟩
            exact monoF _ j hj hj' e
  | false =>
    dsimp only
    rw [if_neg Bool.false_ne_true]
    refine wpS_bind (wpS_mono (wpS_forRange (I := fun i c st' => st' = st ∧ ∃ last ofs, c = (none, last, ofs) ∧ last < ofs ∧ last ≤ hint ∧ bey rk left key (xs (hint - last)) = false ∧ i + 1 ≤ ofs)
      (Q := fun c st' => st' = st ∧ ∃ last ofs, c = (none, last, ofs) ∧ last < ofs ∧ last ≤ hint ∧ bey rk left key (xs (hint - last)) = false ∧ (hint + 1 ≤ ofs ∨ (ofs ≤ hint ∧ bey rk left key (xs (hint - ofs)) = true))) ?step ?fin ⟨rfl, 0, 1, rfl, by omega, by omega, hr, by omega⟩) ?post)
    case fin =>
      rintro c st' ⟨rfl, last, ofs, rfl, a1, a2, a3, a4⟩
      exact ⟨rfl, last, ofs, rfl, a1, a2, a3, .inl (by omega)⟩
    case step =>
      rintro i c st' _ hi' ⟨rfl, last, ofs, rfl, a1, a2, a3, a4⟩
      dsimp only
      by_cases hge : ofs ≥ hint + 1
      · rw [if_pos hge]
        exact wpS_pure ⟨rfl, last, ofs, rfl, a1, a2, a3, .inl hge⟩
      · rw [if_neg hge]
        have hm : hint - ofs < n := by omega
        refine wpS_bind (wpS_bey C hk (hx _ hm) (mx _ hm) my ?_)
        cases e : bey rk left key (xs (hint - ofs)) with
        | true =>
          simp only [if_true]
          exact wpS_pure ⟨rfl, _, _, rfl, a1, a2, a3, .inr ⟨by omega, e⟩⟩
        | false =>
          simp only [Bool.false_eq_true, if_false]
          exact wpS_pure ⟨rfl, _, _, rfl, by omega, by omega, e, by omega⟩
    case post =>
      rintro c st' ⟨rfl, last, ofs, rfl, a1, a2, a3, a4⟩
      have F1 : ∀ j, j < hint + 1 - min ofs (hint + 1) → bey rk left key (xs j) = true := fun j hj => by
        rcases a4 with a4 | ⟨a4, a5⟩
        · omega
        · exact mono j (hint - ofs) (by omega) (by omega) a5
      have F2 : ∀ j, hint - last ≤ j → j < n → bey rk left key (xs j) = false := fun j hj hj' => monoF (hint - last) j hj hj' a3
      dsimp only
      refine wpS_bind (wpS_mono (wpS_forRange (I := fun i c st'' => st'' = st' ∧ ∃ lo hi, c = (none, lo, hi) ∧ lo ≤ hi ∧ hi ≤ n ∧ (∀ i, i < lo → bey rk left key (xs i) = true) ∧ (∀ i, hi ≤ i → i < n → bey rk left key (xs i) = false) ∧ hi - lo ≤ n - i)
        (Q := fun c st'' => st'' = st' ∧ ∃ k, c = (none, k, k) ∧ k ≤ n ∧ (∀ i, i < k → bey rk left key (xs i) = true) ∧ (∀ i, k ≤ i → i < n → bey rk left key (xs i) = false)) ?step2 ?fin2 ⟨rfl, hint + 1 - min ofs (hint + 1), hint - last, rfl, by omega, by omega, F1, F2, by omega⟩) ?post2)
      case post2 =>
        rintro c st'' ⟨rfl, k, rfl, k1, k2, k3⟩
        exact wpS_pure (h k k1 k2 k3)
      case fin2 =>
        rintro c st'' ⟨rfl, l, r, rfl, b1, b2, b3, b4, b5⟩
        have : l = r := by omega
        subst this
        exact ⟨rfl, l, rfl, b2, b3, b4⟩
      case step2 =>
        rintro i c st'' _ hi' ⟨rfl, l, r, rfl, b1, b2, b3, b4, b5⟩
        dsimp only
        by_cases hge : l ≥ r
        · rw [if_pos hge]
          have : l = r := by omega
          subst this
          exact wpS_pure ⟨rfl, l, rfl, b2, b3, b4⟩
        · rw [if_neg hge]
          have hm : l + (r - l) / 2 < n := by omega
          refine wpS_bind (wpS_bey C hk (hx _ hm) (mx _ hm) my ?_)
          cases e : bey rk left key (xs (l + (r - l) / 2)) with
          | true =>
            simp only [if_true]
            refine wpS_pure ⟨rfl, _, _, rfl, by omega, b2, fun j hj => ?_, b4, by omega⟩
            exact mono j (l + (r - l) / 2) (by omega) hm e
          | false =>
            simp only [Bool.false_eq_true, if_false]
            refine wpS_pure ⟨rfl, _, _, rfl, by omega, by omega, b3, fun j hj hj' => ?_, by omega⟩
            exact monoF _ j hj hj' e
end
end GS

set_option autoImplicit false
set_option linter.all false
set_option maxRecDepth 100000
/-! Merging two runs: from the left, from the right. -/
namespace GS
open PySem PyProof.Rows
noncomputable def mergeLo1 : Array Keyed → Array Keyed → StateT SortSt Sem (Array Keyed) := sortPriv% PySem.Builtin.mergeLo
noncomputable def mergeHi1 : Array Keyed → Array Keyed → StateT SortSt Sem (Array Keyed) := sortPriv% PySem.Builtin.mergeHi

/-! ### the mathematics -/
section
variable {rk : Keyed → Int} {la lb out : List Keyed} {ia ib k : Nat}
noncomputable def Up (rk : Keyed → Int) (l : List Keyed) : Prop := l.Pairwise fun x y => rk x < rk y
noncomputable def Below (rk : Keyed → Int) (l m : List Keyed) : Prop := ∀ x ∈ l, ∀ y ∈ m, rk x < rk y
structure Mg (rk : Keyed → Int) (la lb out : List Keyed) (ia ib : Nat) : Prop where
  perm : out.Perm (la.take ia ++ lb.take ib)
  up : Up rk out
  loA : Below rk out (la.drop ia)
  loB : Below rk out (lb.drop ib)
structure Good (rk : Keyed → Int) (la lb out : List Keyed) : Prop where
  perm : out.Perm (la ++ lb)
  up : Up rk out
theorem Up.app {l m : List Keyed} (h1 : Up rk l) (h2 : Up rk m) (h : Below rk l m) : Up rk (l ++ m) := List.pairwise_append.mpr ⟨h1, h2, h⟩
theorem Up.drop {l : List Keyed} (h : Up rk l) (i : Nat) : Up rk (l.drop i) := h.sublist (List.drop_sublist i l)
theorem Up.take {l : List Keyed} (h : Up rk l) (i : Nat) : Up rk (l.take i) := h.sublist (List.take_sublist i l)
theorem Up.split {l : List Keyed} (h : Up rk l) (i : Nat) : Below rk (l.take i) (l.drop i) := by
  have q : Up rk (l.take i ++ l.drop i) := by rw [List.take_append_drop]; exact h
  exact (List.pairwise_append.mp q).2.2
theorem Below.left {l l' m : List Keyed} (h : Below rk l m) (s : ∀ x ∈ l', x ∈ l) : Below rk l' m := fun x hx => h x (s x hx)
theorem Below.right {l m m' : List Keyed} (h : Below rk l m) (s : ∀ x ∈ m', x ∈ m) : Below rk l m' := fun x hx y hy => h x hx y (s y hy)
theorem Below.app {l l' m : List Keyed} (h : Below rk l m) (h' : Below rk l' m) : Below rk (l ++ l') m := fun x hx => (List.mem_append.mp hx).elim (h x) (h' x)
theorem Below.nil {l : List Keyed} : Below rk l [] := fun _ _ _ hy => by simp at hy
theorem drop_mem {l : List Keyed} {i j : Nat} (h : i ≤ j) : ∀ x ∈ l.drop j, x ∈ l.drop i := fun x hx => by
  have e : l.drop j = (l.drop i).drop (j - i) := by rw [List.drop_drop]; congr 1; omega
  rw [e] at hx
  exact List.mem_of_mem_drop hx
theorem Mg.bulkA (h : Mg rk la lb out ia ib) (ua : Up rk la) (hb : Below rk ((la.drop ia).take k) (lb.drop ib)) : Mg rk la lb (out ++ (la.drop ia).take k) (ia + k) ib where
  perm := by
    rw [List.take_add]
    refine (h.perm.append_right _).trans ?_
    rw [List.append_assoc, List.append_assoc]
    exact List.Perm.append_left _ List.perm_append_comm
  up := h.up.app ((ua.drop ia).take k) (h.loA.right fun x hx => List.mem_of_mem_take hx)
  loA := Below.app (h.loA.right (drop_mem (by omega))) (by
    have := (ua.drop ia).split k
    rwa [List.drop_drop] at this)
  loB := h.loB.app hb
theorem Mg.bulkB (h : Mg rk la lb out ia ib) (ub : Up rk lb) (hb : Below rk ((lb.drop ib).take k) (la.drop ia)) : Mg rk la lb (out ++ (lb.drop ib).take k) ia (ib + k) where
  perm := by
    rw [List.take_add, ← List.append_assoc]
    exact h.perm.append_right _
  up := h.up.app ((ub.drop ib).take k) (h.loB.right fun x hx => List.mem_of_mem_take hx)
  loA := h.loA.app hb
  loB := Below.app (h.loB.right (drop_mem (by omega))) (by
    have := (ub.drop ib).split k
    rwa [List.drop_drop] at this)
theorem take_one {l : List Keyed} {i : Nat} {x : Keyed} (h : l[i]? = some x) : (l.drop i).take 1 = [x] := by
  obtain ⟨hi, e⟩ := List.getElem?_eq_some_iff.mp h
  rw [List.drop_eq_getElem_cons hi, e]
  rfl
theorem Mg.pushA (h : Mg rk la lb out ia ib) (ua : Up rk la) {x : Keyed} (hx : la[ia]? = some x) (hb : Below rk [x] (lb.drop ib)) : Mg rk la lb (out ++ [x]) (ia + 1) ib := by
  have := h.bulkA (k := 1) ua (by rw [take_one hx]; exact hb)
  rwa [take_one hx] at this
theorem Mg.pushB (h : Mg rk la lb out ia ib) (ub : Up rk lb) {x : Keyed} (hx : lb[ib]? = some x) (hb : Below rk [x] (la.drop ia)) : Mg rk la lb (out ++ [x]) ia (ib + 1) := by
  have := h.bulkB (k := 1) ub (by rw [take_one hx]; exact hb)
  rwa [take_one hx] at this
theorem Mg.goodAB (h : Mg rk la lb out ia ib) (ua : Up rk la) (ub : Up rk lb) (hb : Below rk (la.drop ia) (lb.drop ib)) : Good rk la lb (out ++ la.drop ia ++ lb.drop ib) where
  perm := by
    refine ((h.perm.append_right _).append_right _).trans ?_
    rw [List.append_assoc, List.append_assoc]
    have e1 : (la.take ia ++ (lb.take ib ++ (la.drop ia ++ lb.drop ib))).Perm (la.take ia ++ (la.drop ia ++ (lb.take ib ++ lb.drop ib))) := by
      refine List.Perm.append_left _ ?_
      rw [← List.append_assoc, ← List.append_assoc]
      exact List.perm_append_comm.append_right _
    refine e1.trans ?_
    rw [← List.append_assoc, List.take_append_drop, List.take_append_drop]
  up := (h.up.app (ua.drop ia) h.loA).app (ub.drop ib) (h.loB.app hb)
theorem Mg.goodBA (h : Mg rk la lb out ia ib) (ua : Up rk la) (ub : Up rk lb) (hb : Below rk (lb.drop ib) (la.drop ia)) : Good rk la lb (out ++ lb.drop ib ++ la.drop ia) where
  perm := by
    refine ((h.perm.append_right _).append_right _).trans ?_
    rw [List.append_assoc, List.append_assoc]
    have e1 : (la.take ia ++ (lb.take ib ++ (lb.drop ib ++ la.drop ia))).Perm (la.take ia ++ (la.drop ia ++ (lb.take ib ++ lb.drop ib))) := by
      refine List.Perm.append_left _ ?_
      rw [← List.append_assoc]
      exact List.perm_append_comm
    refine e1.trans ?_
    rw [← List.append_assoc, List.take_append_drop, List.take_append_drop]
  up := (h.up.app (ub.drop ib) h.loB).app (ua.drop ia) (h.loA.app hb)
/-- the head of what is left is the least of it -/
theorem head_below {l : List Keyed} {i : Nat} {x : Keyed} (u : Up rk l) (h : l[i]? = some x) {y : Keyed} (hy : rk y < rk x) : Below rk [y] (l.drop i) := by
  obtain ⟨hi, e⟩ := List.getElem?_eq_some_iff.mp h
  intro z hz t ht
  have hz : z = y := by simpa using hz
  subst hz
  rw [List.drop_eq_getElem_cons hi, e] at ht
  rcases List.mem_cons.mp ht with rfl | ht
  · exact hy
  · have q := u.drop i
    rw [List.drop_eq_getElem_cons hi, e] at q
    exact Int.lt_trans hy ((List.pairwise_cons.mp q).1 t ht)
theorem up_at {l : List Keyed} (u : Up rk l) {i j : Nat} {x y : Keyed} (h : i < j) (hx : l[i]? = some x) (hy : l[j]? = some y) : rk x < rk y := by
  obtain ⟨hi, ex⟩ := List.getElem?_eq_some_iff.mp hx
  obtain ⟨hj, ey⟩ := List.getElem?_eq_some_iff.mp hy
  have := List.pairwise_iff_getElem.mp u i j hi hj h
  rw [ex, ey] at this
  exact this
end
end GS

set_option autoImplicit false
set_option linter.all false
set_option maxRecDepth 100000
namespace GS
open PySem PyProof.Rows
structure Sim (st st' : SortSt) : Prop where
  arr : arrOf st' = arrOf st
  pend : pendingOf st' = pendingOf st
  kind : kindOf st' = kindOf st
  failed : failedOf st' = failedOf st
theorem Sim.refl (st : SortSt) : Sim st st := ⟨rfl, rfl, rfl, rfl⟩
theorem Sim.trans {a b c : SortSt} (h : Sim a b) (k : Sim b c) : Sim a c := ⟨k.arr.trans h.arr, k.pend.trans h.pend, k.kind.trans h.kind, k.failed.trans h.failed⟩
/-- the two runs to be merged -/
structure Two (a0 : List Keyed) (rk : Keyed → Int) (a b : Array Keyed) : Prop where
  ma : ∀ x ∈ a.toList, x ∈ a0
  mb : ∀ x ∈ b.toList, x ∈ a0
  ua : Up rk a.toList
  ub : Up rk b.toList
  dis : ∀ x ∈ a.toList, ∀ y ∈ b.toList, rk x ≠ rk y
  na : 0 < a.size
  nb : 0 < b.size
section
variable {prog : Program} {w : World} {A : Around} {E : Value → Shared → Prop} {s : Shared} {kind : SortKind} {a0 : List Keyed} {rk : Keyed → Int}
theorem arr_get {a : Array Keyed} {i : Nat} (h : i < a.size) : ∃ x, a[i]? = some x ∧ a.toList[i]? = some x ∧ x ∈ a.toList := by
  refine ⟨a[i], by simp [h], by simp [h], by simp⟩
theorem ext_all (a : Array Keyed) (i : Nat) : (a.extract i).toList = a.toList.drop i := by
  rw [Array.toList_extract, List.extract_eq_take_drop, List.take_of_length_le (by simp)]
theorem ext_part (a : Array Keyed) (i k : Nat) : (a.extract i (i + k)).toList = (a.toList.drop i).take k := by
  rw [Array.toList_extract, List.extract_eq_take_drop, show i + k - i = k by omega]
theorem bey_mono {left : Bool} {key x y : Keyed} (h : rk x < rk y) (q : bey rk left key y = true) : bey rk left key x = true := by
  unfold bey at q ⊢
  cases left with
  | true => simp at q ⊢; omega
  | false => simp at q ⊢; omega

/-- galloping within a run, from its i-th item on -/
theorem wpS_gal (C : Cmp prog w A s kind a0 rk) {left : Bool} {key : Keyed} {a : Array Keyed} {i n hint : Nat} {st : SortSt} {Q : Option Nat → SortSt → Prop} (hk : kindOf st = kind)
    (my : key ∈ a0) (ma : ∀ x ∈ a.toList, x ∈ a0) (ua : Up rk a.toList) (hn : i + n ≤ a.size) (hh : hint < n) (dis : ∀ x ∈ a.toList, rk x ≠ rk key)
    (h : ∀ k, k ≤ n → (∀ x ∈ (a.toList.drop i).take k, rk x < rk key) → (∀ x ∈ (a.toList.drop (i + k)).take (n - k), rk key < rk x) → Q (some k) st) :
    wpS (model prog w) A E s (gallop1 left key a i n hint) Q st := by
  have at' : ∀ j, j < n → ∃ x, a[i + j]? = some x ∧ a.toList[i + j]? = some x ∧ x ∈ a.toList := fun j hj => arr_get (by omega)
  obtain ⟨d, hd⟩ : ∃ d : Keyed, d ∈ a.toList := by obtain ⟨x, _, _, m⟩ := at' hint hh; exact ⟨x, m⟩
  have xs : ∀ j, j < n → a[i + j]? = some ((a[i + j]?).getD d) ∧ (a[i + j]?).getD d ∈ a.toList := fun j hj => by
    obtain ⟨x, e, _, m⟩ := at' j hj
    rw [e]
    exact ⟨rfl, m⟩
  have lst : ∀ j, j < n → a.toList[i + j]? = some ((a[i + j]?).getD d) := fun j hj => by
    obtain ⟨x, e, e2, m⟩ := at' j hj
    rw [e, e2]; rfl
  have val : ∀ x ∈ a.toList, bey rk left key x = decide (rk x < rk key) := fun x hx => by
    have := dis x hx
    unfold bey
    cases left with
    | true => rfl
    | false =>
      rw [if_neg Bool.false_ne_true]
      by_cases q : rk x < rk key
      · rw [decide_eq_true q, decide_eq_false (by omega)]; rfl
      · rw [decide_eq_false q, decide_eq_true (by omega)]; rfl
  refine wpS_gallop C hk my (fun j => (a[i + j]?).getD d) (fun j hj => (xs j hj).1) (fun j hj => ma _ (xs j hj).2) hh (fun p q hpq hq hb => ?_) fun k hk1 hk2 hk3 => h k hk1 (fun x hx => ?_) (fun x hx => ?_)
  · rcases Nat.lt_or_eq_of_le hpq with z | z
    · exact bey_mono (up_at ua (by omega) (lst p (by omega)) (lst q hq)) hb
    · subst z; exact hb
  · obtain ⟨j, hj, e⟩ := List.mem_iff_getElem.mp hx
    rw [List.length_take, List.length_drop] at hj
    rw [List.getElem_take, List.getElem_drop] at e
    have q := hk2 j (by omega)
    have e2 := lst j (by omega)
    rw [List.getElem?_eq_getElem (by omega), e] at e2
    have e2 := Option.some.inj e2
    rw [val _ (xs j (by omega)).2, ← e2] at q
    exact of_decide_eq_true q
  · obtain ⟨j, hj, e⟩ := List.mem_iff_getElem.mp hx
    rw [List.length_take, List.length_drop] at hj
    rw [List.getElem_take, List.getElem_drop] at e
    have q := hk3 (k + j) (by omega) (by omega)
    have e2 := lst (k + j) (by omega)
    have eidx : i + (k + j) = i + k + j := by omega
    simp only [eidx] at e2 q
    rw [List.getElem?_eq_getElem (by simp at hj ⊢; omega), e] at e2
    have e2 := Option.some.inj e2
    have mem : x ∈ a.toList := List.mem_of_mem_drop (List.mem_of_mem_take hx)
    rw [← e2, val _ mem] at q
    have q := of_decide_eq_false q
    have := dis x mem
    omega
end
end GS

set_option autoImplicit false
set_option linter.all false
set_option maxRecDepth 100000
namespace GS
open PySem PyProof.Rows
section
variable {prog : Program} {w : World} {A : Around} {E : Value → Shared → Prop} {s : Shared} {kind : SortKind} {a0 : List Keyed} {rk : Keyed → Int}
/-- within a merge: what is still open -/
structure Opn (rk : Keyed → Int) (a b out : Array Keyed) (ia ib : Nat) : Prop where
  mg : Mg rk a.toList b.toList out.toList ia ib
  ha : ia + 1 < a.size
  hb : ib < b.size
theorem gen_nat {G : Prop} (P : Nat → Prop) (h : (∀ m, P m) → G) (k : ∀ m, P m) : G := h k
theorem wpS_ite {α : Type} {c : Prop} [Decidable c] {p q : StateT SortSt Sem α} {Q : α → SortSt → Prop} {st : SortSt} (hp : c → wpS (model prog w) A E s p Q st) (hn : ¬ c → wpS (model prog w) A E s q Q st) : wpS (model prog w) A E s (if c then p else q) Q st := by
  by_cases h : c
  · rw [if_pos h]; exact hp h
  · rw [if_neg h]; exact hn h
theorem ex1 {α : Type} {A B C : α → Prop} {G : Prop} (h : ∃ x, A x ∧ B x ∧ C x) (k : ∀ x, A x → B x → C x → G) : G := by
  obtain ⟨x, a, b, c⟩ := h
  exact k x a b c
theorem exs {α β : Type} {A B C D : α → β → Prop} {G : Prop} (h : ∃ x y, A x y ∧ B x y ∧ C x y ∧ D x y) (k : ∀ x y, A x y → B x y → C x y → D x y → G) : G := by
  obtain ⟨x, y, a, b, c, d⟩ := h
  exact k x y a b c d
theorem ex4 {S : Prop} {α β γ δ : Type} {P Q R : α → β → γ → δ → Prop} {G : Prop} (h : S ∧ ∃ a b c d, P a b c d ∧ Q a b c d ∧ R a b c d) (k : S → ∀ a b c d, P a b c d → Q a b c d → R a b c d → G) : G := by
  obtain ⟨s, a, b, c, d, p, q, r⟩ := h
  exact k s a b c d p q r
theorem ex5 {S : Prop} {α β γ δ ε : Type} {P Q R : α → β → γ → δ → ε → Prop} {G : Prop} (h : S ∧ ∃ a b c d e, P a b c d e ∧ Q a b c d e ∧ R a b c d e) (k : S → ∀ a b c d e, P a b c d e → Q a b c d e → R a b c d e → G) : G := by
  obtain ⟨s, a, b, c, d, e, p, q, r⟩ := h
  exact k s a b c d e p q r
theorem ex6 {S : Prop} {α β γ δ ε ζ : Type} {P Q R : α → β → γ → δ → ε → ζ → Prop} {G : Prop} (h : S ∧ ∃ a b c d e f, P a b c d e f ∧ Q a b c d e f ∧ R a b c d e f) (k : S → ∀ a b c d e f, P a b c d e f → Q a b c d e f → R a b c d e f → G) : G := by
  obtain ⟨s, a, b, c, d, e, f, p, q, r⟩ := h
  exact k s a b c d e f p q r
theorem wpS_mergeLo (C : Cmp prog w A s kind a0 rk) {a b : Array Keyed} {st : SortSt} {Q : Array Keyed → SortSt → Prop} (hk : kindOf st = kind) (T : Two a0 rk a b)
    (first : ∀ x y, a.toList[0]? = some x → b.toList[0]? = some y → rk y < rk x) (last : ∀ x, a.toList[a.size - 1]? = some x → ∀ y ∈ b.toList, rk y < rk x)
    (h : ∀ m st', Sim st st' → Good rk a.toList b.toList m.toList → Q m st') : wpS (model prog w) A E s (mergeLo1 a b) Q st := by
  have ua := T.ua
  have ub := T.ub
  refine ex1 (arr_get T.nb) fun b0 eb eb' mb0 => ?_
  refine ex1 (arr_get T.na) fun x0 ea ea' mx0 => ?_
  have bl : Below rk [b0] (a.toList.drop 0) := head_below ua ea' (first _ _ ea' eb')
  have M0 : Mg rk a.toList b.toList (#[b0] : Array Keyed).toList 0 1 := by
    have z : Mg rk a.toList b.toList [] 0 0 := ⟨by simp, List.Pairwise.nil, fun _ hx => by simp at hx, fun _ hx => by simp at hx⟩
    exact z.pushB ub eb' bl
  -- the last of a is above all of b
  have lastB : ∀ ia ib, ia + 1 = a.size → Below rk (b.toList.drop ib) (a.toList.drop ia) := fun ia ib hi y hy x hx => by
    refine ex1 (arr_get (a := a) (i := ia) (by omega)) fun z ez ez' mz => ?_
    have e : a.toList.drop ia = [z] := by
      obtain ⟨hl, e⟩ := List.getElem?_eq_some_iff.mp ez'
      rw [List.drop_eq_getElem_cons hl, e, List.drop_of_length_le (by simp; omega)]
    rw [e] at hx
    have hx : x = z := by simpa using hx
    subst hx
    exact last _ (by rw [show a.size - 1 = ia by omega]; exact ez') y (List.mem_of_mem_drop hy)
  have endB : ∀ ib, ib = b.size → b.toList.drop ib = [] := fun ib e => List.drop_of_length_le (by simp; omega)
  have endA : ∀ ia, ia = a.size → a.toList.drop ia = [] := fun ib e => List.drop_of_length_le (by simp; omega)
  refine wpS_bind (wpS_lift (wpAny_rule ⟨rfl, ?_⟩))
  refine wpS_bind (wpS_elem eb ?_)
  dsimp only
  apply wpS_ite
  · intro h1
    have h1 : 1 = b.size := by simpa using h1
    refine wpS_pure (h _ _ (Sim.refl _) ?_)
    have q := M0.goodAB ua ub (by rw [endB 1 h1]; exact Below.nil)
    simp only [Array.toList_append, ext_all, Array.toList_push]
    exact q
  · intro h1
    have h1 : ¬ 1 = b.size := by simpa using h1
    have hnb := T.nb
    have hna := T.na
    apply wpS_ite
    · intro h2
      have h2 : 0 + 1 = a.size := by simpa using h2
      refine wpS_pure (h _ _ (Sim.refl _) ?_)
      have q := M0.goodBA ua ub (lastB 0 1 h2)
      simp only [Array.toList_append, ext_all, Array.toList_push]
      exact q
    · intro h2
      have h2 : ¬ 0 + 1 = a.size := by simpa using h2
      refine wpS_bind (wpS_get ?_)
      refine wpS_bind (wpS_mono (wpS_forRange
        (I := fun i c st' => Sim st st' ∧ ∃ out ia ib mg, c = (none, out, ia, ib, mg) ∧ Opn rk a b out ia ib ∧ i + 1 ≤ ia + ib)
        (Q := fun c st' => Sim st st' ∧ ∃ m, c.1 = some m ∧ Good rk a.toList b.toList m.toList) ?step ?fin ⟨Sim.refl _, _, _, _, _, rfl, ⟨M0, by omega, by omega⟩, by omega⟩) ?post)
      case post =>
        rintro ⟨c1, c2⟩ st' ⟨sm, m, e, g⟩
        dsimp only at e ⊢
        subst e
        exact wpS_pure (h m st' sm g)
      case fin =>
        rintro c st' ⟨sm, out, ia, ib, mg, rfl, O, hp⟩
        have := O.ha
        have := O.hb
        omega
      case step =>
        intro i c st1 _ hi hI
        refine ex4 hI fun sm1 out1 ia1 ib1 mg1 ec O1 hp1 => ?_
        clear hI
        subst ec
        dsimp only
        -- one by one
        refine wpS_bind (wpS_mono (wpS_forRange
          (I := fun j c st' => Sim st st' ∧ ∃ out ia ib ac bc, c = (none, out, ia, ib, ac, bc) ∧ Opn rk a b out ia ib ∧ ia1 + ib1 + j ≤ ia + ib)
          (Q := fun c st' => Sim st st' ∧ ((∃ m, c.1 = some m ∧ Good rk a.toList b.toList m.toList) ∨ ∃ out ia ib ac bc, c = (none, out, ia, ib, ac, bc) ∧ Opn rk a b out ia ib ∧ ia1 + ib1 + 1 ≤ ia + ib)) ?s2 ?f2 ⟨sm1, _, _, _, _, _, rfl, O1, by omega⟩) ?p2)
        case f2 =>
          rintro c st' ⟨sm, out, ia, ib, ac, bc, rfl, O, hp⟩
          exact ⟨sm, .inr ⟨out, ia, ib, ac, bc, rfl, O, by omega⟩⟩
        case s2 =>
          intro j c st2 _ hj hI
          refine ex5 hI fun sm2 out ia ib ac bc ec O hp => ?_
          clear hI
          subst ec
          dsimp only
          have M := O.mg
          have hia := O.ha
          have hib := O.hb
          refine ex1 (arr_get (a := a) (i := ia) (by omega)) fun x e1 e2 mx => ?_
          refine ex1 (arr_get O.hb) fun y e3 e4 my => ?_
          refine wpS_bind (wpS_elem e3 (wpS_bind (wpS_elem e1 (wpS_bind (wpS_lt C (sm2.kind.trans hk) (T.mb _ my) (T.ma _ mx) ?_)))))
          have dxy := T.dis x mx y my
          apply wpS_ite
          · intro hw
            have hw : rk y < rk x := of_decide_eq_true hw
            refine wpS_bind (wpS_elem e3 ?_)
            have M' := M.pushB ub e4 (head_below ua e2 hw)
            apply wpS_ite
            · intro h3
              have h3 : ib + 1 = b.size := by simpa using h3
              refine wpS_pure ⟨sm2, .inl ⟨_, rfl, ?_⟩⟩
              have q := M'.goodAB ua ub (by rw [endB _ h3]; exact Below.nil)
              simp only [Array.toList_append, ext_all, Array.toList_push]
              exact q
            · intro h3
              have h3 : ¬ ib + 1 = b.size := by simpa using h3
              have O' : Opn rk a b (out.push y) ia (ib + 1) := ⟨by simpa using M', hia, by omega⟩
              apply wpS_ite
              · intro h4
                exact wpS_pure ⟨sm2, .inr ⟨_, _, _, _, _, rfl, O', by omega⟩⟩
              · intro h4
                exact wpS_pure ⟨sm2, _, _, _, _, _, rfl, O', by omega⟩
          · intro hw
            have hw : ¬ rk y < rk x := fun z => hw (decide_eq_true z)
            refine wpS_bind (wpS_elem e1 ?_)
            have M' := M.pushA ua e2 (head_below ub e4 (by omega))
            apply wpS_ite
            · intro h3
              have h3 : ia + 1 + 1 = a.size := by simpa using h3
              refine wpS_pure ⟨sm2, .inl ⟨_, rfl, ?_⟩⟩
              have q := M'.goodBA ua ub (lastB _ _ h3)
              simp only [Array.toList_append, ext_all, Array.toList_push]
              exact q
            · intro h3
              have h3 : ¬ ia + 1 + 1 = a.size := by simpa using h3
              have O' : Opn rk a b (out.push x) (ia + 1) ib := ⟨by simpa using M', by omega, hib⟩
              apply wpS_ite
              · intro h4
                exact wpS_pure ⟨sm2, .inr ⟨_, _, _, _, _, rfl, O', by omega⟩⟩
              · intro h4
                exact wpS_pure ⟨sm2, _, _, _, _, _, rfl, O', by omega⟩
        case p2 =>
          rintro c st2 ⟨sm2, (⟨m, e, g⟩ | ⟨out2, ia2, ib2, ac2, bc2, rfl, O2, hp2⟩)⟩
          · obtain ⟨c1, c2⟩ := c
            dsimp only at e ⊢
            subst e
            exact wpS_pure ⟨sm2, m, rfl, g⟩
          · dsimp only
            refine wpS_bind (wpS_lift (wpAny_rule ⟨rfl, ?_⟩))
            -- galloping
            refine wpS_bind (wpS_mono (wpS_forRange
              (I := fun j c st' => Sim st st' ∧ ∃ out ia ib mg ac bc, c = (none, out, ia, ib, mg, ac, bc) ∧ Opn rk a b out ia ib ∧ ia1 + ib1 + 1 ≤ ia + ib)
              (Q := fun c st' => Sim st st' ∧ ((∃ m, c.1 = some m ∧ Good rk a.toList b.toList m.toList) ∨ ∃ out ia ib mg ac bc, c = (none, out, ia, ib, mg, ac, bc) ∧ Opn rk a b out ia ib ∧ ia1 + ib1 + 1 ≤ ia + ib)) ?s3 ?f3 ⟨sm2, _, _, _, _, _, _, rfl, O2, hp2⟩) ?p3)
            case f3 =>
              rintro c st' ⟨sm, out, ia, ib, mg, ac, bc, rfl, O, hp⟩
              exact ⟨sm, .inr ⟨out, ia, ib, mg, ac, bc, rfl, O, hp⟩⟩
            case p3 =>
              rintro c st3 ⟨sm3, (⟨m, e, g⟩ | ⟨out, ia, ib, mg, ac, bc, rfl, O, hp⟩)⟩
              · obtain ⟨c1, c2⟩ := c
                dsimp only at e ⊢
                subst e
                exact wpS_pure ⟨sm3, m, rfl, g⟩
              · dsimp only
                refine wpS_bind (wpS_modify ?_)
                exact wpS_pure ⟨sm3.trans ⟨rfl, rfl, rfl, rfl⟩, _, _, _, _, rfl, O, by omega⟩
            case s3 =>
              intro j c st3 _ hj hI
              refine ex6 hI fun sm3 out ia ib mg ac bc ec O hp => ?_
              clear hI
              subst ec
              dsimp only
              have M := O.mg
              have hia := O.ha
              have hib := O.hb
              refine ex1 (arr_get O.hb) fun y e3 e4 my => ?_
              refine gen_nat ?P ?hgA ?hgB
              case hgA =>
                intro key
                apply wpS_ite
                · intro hg
                  generalize mg - 1 = m1
                  exact key m1
                · intro hg
                  exact key mg
              intro mg
              all_goals
                refine wpS_bind (wpS_modify ?_)
                refine wpS_bind (wpS_elem e3 ?_)
                refine wpS_bind (wpS_gal C (by exact sm3.kind.trans hk) (T.mb _ my) T.ma ua (by omega) (by omega) (fun x hx => T.dis x hx y my) fun k hk1 hk2 hk3 => ?_)
                dsimp only
                have Mk := M.bulkA (k := k) ua (fun x hx => head_below ub e4 (hk2 x hx) x (by simp))
                have yA : Below rk [y] (a.toList.drop (ia + k)) := fun z hz t ht => by
                  have hz : z = y := by simpa using hz
                  subst hz
                  refine hk3 t ?_
                  rw [List.take_of_length_le (by simp; omega)]
                  exact ht
                -- k items of a go out, perhaps none
                have stepA : (∃ out' ia', out' = out ++ a.extract ia (ia + k) ∧ ia' = ia + k ∧ Mg rk a.toList b.toList out'.toList ia' ib ∧ Below rk [y] (a.toList.drop ia')) :=
                  ⟨_, _, rfl, rfl, by simpa [ext_part] using Mk, yA⟩
                apply wpS_ite
                case' hp =>
                  intro hk0
                  refine exs stepA fun out' ia' eo ei M' yA' => ?_
                  rw [← eo, ← ei]
                  have hia' : ia' ≤ a.size := by omega
                case' hn =>
                  intro hk0
                  have k0 : k = 0 := by omega
                  subst k0
                  refine exs (show ∃ out' ia', out' = out ∧ ia' = ia ∧ Mg rk a.toList b.toList out'.toList ia' ib ∧ Below rk [y] (a.toList.drop ia') from ⟨_, _, rfl, rfl, M, yA⟩) fun out' ia' eo ei M' yA' => ?_
                  rw [← eo, ← ei]
                  have hia' : ia' + 1 < a.size := by omega
                case' hp =>
                  apply wpS_ite
                  case' hp =>
                    intro h3
                    have h3 : ia' + 1 = a.size := by simpa using h3
                    refine wpS_pure ⟨sm3.trans ⟨rfl, rfl, rfl, rfl⟩, .inl ⟨_, rfl, ?_⟩⟩
                    have q := M'.goodBA ua ub (lastB _ _ h3)
                    simp only [Array.toList_append, ext_all, Array.toList_push]
                    exact q
                  intro h3
                  have h3 : ¬ ia' + 1 = a.size := by simpa using h3
                  apply wpS_ite
                  case' hp =>
                    intro h4
                    have h4 : ia' = a.size := by simpa using h4
                    refine wpS_pure ⟨sm3.trans ⟨rfl, rfl, rfl, rfl⟩, .inl ⟨_, rfl, ?_⟩⟩
                    have q := M'.goodAB ua ub (by rw [endA _ h4]; exact fun _ hx => by simp at hx)
                    simp only [Array.toList_append, ext_all, Array.toList_push]
                    exact q
                  intro h4
                  have h4 : ¬ ia' = a.size := by simpa using h4
                  have hia'' : ia' + 1 < a.size := by omega
                  clear hia'
                  have hia' := hia''
              all_goals
                refine wpS_bind (wpS_elem e3 ?_)
                have M2 := M'.pushB ub e4 yA'
                apply wpS_ite
                case' hp =>
                  intro h5
                  have h5 : ib + 1 = b.size := by simpa using h5
                  refine wpS_pure ⟨sm3.trans ⟨rfl, rfl, rfl, rfl⟩, .inl ⟨_, rfl, ?_⟩⟩
                  have q := M2.goodAB ua ub (by rw [endB _ h5]; exact Below.nil)
                  simp only [Array.toList_append, ext_all, Array.toList_push]
                  exact q
                intro h5
                have h5 : ¬ ib + 1 = b.size := by simpa using h5
                refine ex1 (arr_get (a := a) (i := ia') (by omega)) fun x e1 e2 mx => ?_
                refine wpS_bind (wpS_elem e1 ?_)
                refine wpS_bind (wpS_gal C (by exact sm3.kind.trans hk) (T.ma _ mx) T.mb ub (by omega) (by omega) (fun z hz => (T.dis x mx z hz).symm) fun k' hk1' hk2' hk3' => ?_)
                dsimp only
                have Mk' := M2.bulkB (k := k') ub (fun z hz => head_below ua e2 (hk2' z hz) z (by simp))
                have xB : Below rk [x] (b.toList.drop (ib + 1 + k')) := fun z hz t ht => by
                  have hz : z = x := by simpa using hz
                  subst hz
                  refine hk3' t ?_
                  rw [List.take_of_length_le (by simp; omega)]
                  exact ht
                have e5 : (out'.push y).toList = out'.toList ++ [y] := Array.toList_push
                have stepB : (∃ out3 ib', out3 = out'.push y ++ b.extract (ib + 1) (ib + 1 + k') ∧ ib' = ib + 1 + k' ∧ Mg rk a.toList b.toList out3.toList ia' ib' ∧ Below rk [x] (b.toList.drop ib')) :=
                  ⟨_, _, rfl, rfl, by rw [Array.toList_append, ext_part, e5]; exact Mk', xB⟩
                apply wpS_ite
                case' hp =>
                  intro hk0'
                  refine exs stepB fun out3 ib' eo3 ei3 M3 xB' => ?_
                  rw [← eo3, ← ei3]
                  apply wpS_ite
                  case' hp =>
                    intro h6
                    have h6 : ib' = b.size := by simpa using h6
                    refine wpS_pure ⟨sm3.trans ⟨rfl, rfl, rfl, rfl⟩, .inl ⟨_, rfl, ?_⟩⟩
                    have q := M3.goodAB ua ub (by rw [endB _ h6]; exact Below.nil)
                    simp only [Array.toList_append, ext_all, Array.toList_push]
                    exact q
                  intro h6
                  have h6 : ¬ ib' = b.size := by simpa using h6
                  have hib' : ib' < b.size := by omega
                case' hn =>
                  intro hk0'
                  have k0 : k' = 0 := by omega
                  subst k0
                  refine exs (show ∃ out3 ib', out3 = out'.push y ∧ ib' = ib + 1 ∧ Mg rk a.toList b.toList out3.toList ia' ib' ∧ Below rk [x] (b.toList.drop ib') from ⟨_, _, rfl, rfl, by rw [e5]; exact M2, xB⟩) fun out3 ib' eo3 ei3 M3 xB' => ?_
                  rw [← eo3, ← ei3]
                  have hib' : ib' < b.size := by omega
              all_goals
                refine wpS_bind (wpS_elem e1 ?_)
                have M4 := M3.pushA ua e2 xB'
                apply wpS_ite
                case' hp =>
                  intro h7
                  have h7 : ia' + 1 + 1 = a.size := by simpa using h7
                  refine wpS_pure ⟨sm3.trans ⟨rfl, rfl, rfl, rfl⟩, .inl ⟨_, rfl, ?_⟩⟩
                  have q := M4.goodBA ua ub (lastB _ _ h7)
                  simp only [Array.toList_append, ext_all, Array.toList_push]
                  exact q
                intro h7
                have h7 : ¬ ia' + 1 + 1 = a.size := by simpa using h7
                have O4 : Opn rk a b (out3.push x) (ia' + 1) ib' := ⟨by rw [Array.toList_push]; exact M4, by omega, hib'⟩
                apply wpS_ite <;> intro _
                · exact wpS_pure ⟨sm3.trans ⟨rfl, rfl, rfl, rfl⟩, .inr ⟨_, _, _, _, _, _, rfl, O4, by omega⟩⟩
                · exact wpS_pure ⟨sm3.trans ⟨rfl, rfl, rfl, rfl⟩, _, _, _, _, _, _, rfl, O4, by omega⟩
end
end GS

set_option autoImplicit false
set_option linter.all false
set_option maxRecDepth 100000
namespace GS
open PySem PyProof.Rows
section
variable {rk : Keyed → Int} {la lb R : List Keyed} {na nb k : Nat}
structure Mh (rk : Keyed → Int) (la lb R : List Keyed) (na nb : Nat) : Prop where
  perm : R.Perm (la.drop na ++ lb.drop nb)
  up : Up rk R
  hiA : Below rk (la.take na) R
  hiB : Below rk (lb.take nb) R
theorem Below.appR {l m m' : List Keyed} (h : Below rk l m) (h' : Below rk l m') : Below rk l (m ++ m') := fun x hx y hy => (List.mem_append.mp hy).elim (h x hx y) (h' x hx y)
theorem take_mem {l : List Keyed} {i j : Nat} (h : i ≤ j) : ∀ x ∈ l.take i, x ∈ l.take j := fun x hx => by
  have e : l.take i = (l.take j).take i := by rw [List.take_take]; congr 1; omega
  rw [e] at hx
  exact List.mem_of_mem_take hx
theorem drop_cut {l : List Keyed} {i j : Nat} (h : i ≤ j) : l.drop i = (l.take j).drop i ++ l.drop j := by
  have e : l = l.take j ++ l.drop j := (List.take_append_drop j l).symm
  by_cases hj : j ≤ l.length
  · conv => lhs; rw [e]
    rw [List.drop_append_of_le_length (by rw [List.length_take]; omega)]
  · rw [List.take_of_length_le (by omega), List.drop_of_length_le (i := j) (by omega), List.append_nil]
theorem Mh.bulkA (h : Mh rk la lb R na nb) (ua : Up rk la) (hk : k ≤ na) (hb : Below rk (lb.take nb) ((la.take na).drop k)) : Mh rk la lb ((la.take na).drop k ++ R) k nb where
  perm := by
    rw [drop_cut (l := la) hk, List.append_assoc]
    exact List.Perm.append_left _ h.perm
  up := ((ua.take na).drop k).app h.up (h.hiA.left fun x hx => List.mem_of_mem_drop hx)
  hiA := Below.appR (by
    have := (ua.take na).split k
    rw [List.take_take, show min k na = k by omega] at this
    exact this) (h.hiA.left (take_mem hk))
  hiB := hb.appR h.hiB
theorem Mh.bulkB (h : Mh rk la lb R na nb) (ub : Up rk lb) (hk : k ≤ nb) (hb : Below rk (la.take na) ((lb.take nb).drop k)) : Mh rk la lb ((lb.take nb).drop k ++ R) na k where
  perm := by
    rw [drop_cut (l := lb) hk, ← List.append_assoc]
    refine (List.Perm.append_left _ h.perm).trans ?_
    rw [← List.append_assoc]
    exact List.perm_append_comm.append_right _
  up := ((ub.take nb).drop k).app h.up (h.hiB.left fun x hx => List.mem_of_mem_drop hx)
  hiA := hb.appR h.hiA
  hiB := Below.appR (by
    have := (ub.take nb).split k
    rw [List.take_take, show min k nb = k by omega] at this
    exact this) (h.hiB.left (take_mem hk))
theorem last_one {l : List Keyed} {i : Nat} {x : Keyed} (h : l[i]? = some x) : (l.take (i + 1)).drop i = [x] := by
  rw [List.drop_take, show i + 1 - i = 1 by omega]
  exact take_one h
theorem Mh.pushA (h : Mh rk la lb R (na + 1) nb) (ua : Up rk la) {x : Keyed} (hx : la[na]? = some x) (hb : Below rk (lb.take nb) [x]) : Mh rk la lb (x :: R) na nb := by
  have := h.bulkA (k := na) ua (by omega) (by rw [last_one hx]; exact hb)
  rwa [last_one hx] at this
theorem Mh.pushB (h : Mh rk la lb R na (nb + 1)) (ub : Up rk lb) {x : Keyed} (hx : lb[nb]? = some x) (hb : Below rk (la.take na) [x]) : Mh rk la lb (x :: R) na nb := by
  have := h.bulkB (k := nb) ub (by omega) (by rw [last_one hx]; exact hb)
  rwa [last_one hx] at this
theorem Mh.goodAB (h : Mh rk la lb R na nb) (ua : Up rk la) (ub : Up rk lb) (hb : Below rk (la.take na) (lb.take nb)) : Good rk la lb (la.take na ++ lb.take nb ++ R) where
  perm := by
    refine (List.Perm.append_left _ h.perm).trans ?_
    have e1 : (la.take na ++ lb.take nb ++ (la.drop na ++ lb.drop nb)).Perm (la.take na ++ la.drop na ++ (lb.take nb ++ lb.drop nb)) := by
      rw [List.append_assoc, List.append_assoc]
      refine List.Perm.append_left _ ?_
      rw [← List.append_assoc, ← List.append_assoc]
      exact List.perm_append_comm.append_right _
    rw [List.take_append_drop, List.take_append_drop] at e1
    exact e1
  up := ((ua.take na).app (ub.take nb) hb).app h.up (h.hiA.app h.hiB)
theorem Mh.goodBA (h : Mh rk la lb R na nb) (ua : Up rk la) (ub : Up rk lb) (hb : Below rk (lb.take nb) (la.take na)) : Good rk la lb (lb.take nb ++ la.take na ++ R) where
  perm := by
    refine (List.Perm.append_left _ h.perm).trans ?_
    have e1 : (lb.take nb ++ la.take na ++ (la.drop na ++ lb.drop nb)).Perm (la.take na ++ la.drop na ++ (lb.take nb ++ lb.drop nb)) := by
      rw [List.append_assoc, ← List.append_assoc (la.take na)]
      rw [← List.append_assoc, ← List.append_assoc (la.take na ++ la.drop na)]
      exact List.perm_append_comm.append_right _
    rw [List.take_append_drop, List.take_append_drop] at e1
    exact e1
  up := ((ub.take nb).app (ua.take na) hb).app h.up (h.hiB.app h.hiA)
/-- the last of what is left is the greatest of it -/
theorem last_above {l : List Keyed} {i : Nat} {x : Keyed} (u : Up rk l) (h : l[i]? = some x) {y : Keyed} (hy : rk x < rk y) : Below rk (l.take (i + 1)) [y] := by
  obtain ⟨hi, e⟩ := List.getElem?_eq_some_iff.mp h
  intro z hz t ht
  have ht : t = y := by simpa using ht
  subst ht
  rw [List.take_succ_eq_append_getElem hi, e] at hz
  rcases List.mem_append.mp hz with hz | hz
  · have q := u.split i
    have : x ∈ l.drop i := by rw [List.drop_eq_getElem_cons hi, e]; exact List.mem_cons_self
    exact Int.lt_trans (q z hz x this) hy
  · have hz : z = x := by simpa using hz
    subst hz
    exact hy
end
theorem ext_pre (a : Array Keyed) (n : Nat) : (a.extract 0 n).toList = a.toList.take n := by
  rw [Array.toList_extract, List.extract_eq_take_drop, List.drop_zero, Nat.sub_zero]
theorem ext_mid (a : Array Keyed) (i j : Nat) : (a.extract i j).toList = (a.toList.take j).drop i := by
  rw [Array.toList_extract, List.extract_eq_take_drop, List.drop_take]
section
variable {prog : Program} {w : World} {A : Around} {E : Value → Shared → Prop} {s : Shared} {kind : SortKind} {a0 : List Keyed} {rk : Keyed → Int}
structure Oph (rk : Keyed → Int) (a b out : Array Keyed) (na nb : Nat) : Prop where
  mh : Mh rk a.toList b.toList out.toList.reverse na nb
  ha : 0 < na
  la : na < a.size
  hb : 1 < nb
  lb : nb ≤ b.size
theorem wpS_mergeHi (C : Cmp prog w A s kind a0 rk) {a b : Array Keyed} {st : SortSt} {Q : Array Keyed → SortSt → Prop} (hk : kindOf st = kind) (T : Two a0 rk a b)
    (first : ∀ x, b.toList[0]? = some x → ∀ y ∈ a.toList, rk x < rk y) (last : ∀ x, a.toList[a.size - 1]? = some x → ∀ y ∈ b.toList, rk y < rk x)
    (h : ∀ m st', Sim st st' → Good rk a.toList b.toList m.toList → Q m st') : wpS (model prog w) A E s (mergeHi1 a b) Q st := by
  have ua := T.ua
  have ub := T.ub
  have hna := T.na
  have hnb := T.nb
  refine ex1 (arr_get (a := a) (i := a.size - 1) (by omega)) fun x0 ea ea' mx0 => ?_
  have M0 : Mh rk a.toList b.toList (#[x0] : Array Keyed).toList.reverse (a.size - 1) b.size := by
    have z : Mh rk a.toList b.toList [] (a.size - 1 + 1) b.size := ⟨by rw [List.drop_of_length_le (by simp; omega), List.drop_of_length_le (by simp)]; simp, List.Pairwise.nil, Below.nil, Below.nil⟩
    refine z.pushA ua ea' fun y hy t ht => ?_
    have ht : t = x0 := by simpa using ht
    subst ht
    exact last _ ea' y (List.mem_of_mem_take hy)
  -- the first of b is below all of a
  have firstB : ∀ na nb, nb = 1 → Below rk (b.toList.take nb) (a.toList.take na) := fun na nb hi y hy x hx => by
    subst hi
    refine ex1 (arr_get T.nb) fun z ez ez' mz => ?_
    have e : b.toList.take 1 = [z] := by
      have := take_one ez'
      rwa [List.drop_zero] at this
    rw [e] at hy
    have hy : y = z := by simpa using hy
    subst hy
    exact first _ ez' x (List.mem_of_mem_take hx)
  refine wpS_bind (wpS_lift (wpAny_rule ⟨rfl, ?_⟩))
  refine wpS_bind (wpS_elem ea ?_)
  dsimp only
  apply wpS_ite
  · intro h1
    have h1 : a.size - 1 = 0 := by simpa using h1
    refine wpS_pure (h _ _ (Sim.refl _) ?_)
    have q := M0.goodAB ua ub (by rw [h1]; intro x hx; simp at hx)
    simp only [Array.toList_append, ext_pre, Array.toList_push, Array.toList_reverse]
    exact q
  · intro h1
    have h1 : ¬ a.size - 1 = 0 := by simpa using h1
    apply wpS_ite
    · intro h2
      have h2 : b.size = 1 := by simpa using h2
      refine wpS_pure (h _ _ (Sim.refl _) ?_)
      have q := M0.goodBA ua ub (firstB _ _ h2)
      simp only [Array.toList_append, ext_pre, Array.toList_push, Array.toList_reverse]
      exact q
    · intro h2
      have h2 : ¬ b.size = 1 := by simpa using h2
      refine wpS_bind (wpS_get ?_)
      refine wpS_bind (wpS_mono (wpS_forRange
        (I := fun i c st' => Sim st st' ∧ ∃ na nb out mg, c = (none, na, nb, out, mg) ∧ Oph rk a b out na nb ∧ na + nb + i + 1 ≤ a.size + b.size)
        (Q := fun c st' => Sim st st' ∧ ∃ m, c.1 = some m ∧ Good rk a.toList b.toList m.toList) ?step ?fin ⟨Sim.refl _, _, _, _, _, rfl, ⟨M0, by omega, by omega, by omega, by omega⟩, by omega⟩) ?post)
      case post =>
        rintro ⟨c1, c2⟩ st' ⟨sm, m, e, g⟩
        dsimp only at e ⊢
        subst e
        exact wpS_pure (h m st' sm g)
      case fin =>
        rintro c st' ⟨sm, na, nb, out, mg, rfl, O, hp⟩
        have := O.ha
        have := O.hb
        omega
      case step =>
        intro i c st1 _ hi hI
        refine ex4 hI fun sm1 na1 nb1 out1 mg1 ec O1 hp1 => ?_
        clear hI
        subst ec
        dsimp only
        -- one by one
        refine wpS_bind (wpS_mono (wpS_forRange
          (I := fun j c st' => Sim st st' ∧ ∃ na nb out ac bc, c = (none, na, nb, out, ac, bc) ∧ Oph rk a b out na nb ∧ na + nb + j ≤ na1 + nb1)
          (Q := fun c st' => Sim st st' ∧ ((∃ m, c.1 = some m ∧ Good rk a.toList b.toList m.toList) ∨ ∃ na nb out ac bc, c = (none, na, nb, out, ac, bc) ∧ Oph rk a b out na nb ∧ na + nb + 1 ≤ na1 + nb1)) ?s2 ?f2 ⟨sm1, _, _, _, _, _, rfl, O1, by omega⟩) ?p2)
        case f2 =>
          rintro c st' ⟨sm, na, nb, out, ac, bc, rfl, O, hp⟩
          exact ⟨sm, .inr ⟨na, nb, out, ac, bc, rfl, O, by omega⟩⟩
        case s2 =>
          intro j c st2 _ hj hI
          refine ex5 hI fun sm2 na nb out ac bc ec O hp => ?_
          clear hI
          subst ec
          refine Exists.elim (show ∃ p, na = p + 1 from ⟨na - 1, by have := O.ha; omega⟩) fun p ep => ?_
          subst ep
          refine Exists.elim (show ∃ q, nb = q + 1 from ⟨nb - 1, by have := O.hb; omega⟩) fun q ep => ?_
          subst ep
          dsimp only [Nat.add_one_sub_one]
          have M := O.mh
          have hla := O.la
          have hlb := O.lb
          have hqb := O.hb
          refine ex1 (arr_get (a := a) (i := p) (by omega)) fun x e1 e2 mx => ?_
          refine ex1 (arr_get (a := b) (i := q) (by omega)) fun y e3 e4 my => ?_
          refine wpS_bind (wpS_elem e3 (wpS_bind (wpS_elem e1 (wpS_bind (wpS_lt C (sm2.kind.trans hk) (T.mb _ my) (T.ma _ mx) ?_)))))
          have dxy := T.dis x mx y my
          apply wpS_ite
          · intro hw
            have hw : rk y < rk x := of_decide_eq_true hw
            refine wpS_bind (wpS_elem e1 ?_)
            have M' := M.pushA ua e2 (last_above ub e4 hw)
            apply wpS_ite
            · intro h3
              have h3 : p = 0 := by simpa using h3
              refine wpS_pure ⟨sm2, .inl ⟨_, rfl, ?_⟩⟩
              have q := M'.goodAB ua ub (by rw [h3]; intro x hx; simp at hx)
              simp only [Array.toList_append, ext_pre, Array.toList_push, Array.toList_reverse, List.reverse_append, List.reverse_cons, List.reverse_nil, List.nil_append, List.cons_append]
              exact q
            · intro h3
              have h3 : ¬ p = 0 := by simpa using h3
              have O' : Oph rk a b (out.push x) p (q + 1) := ⟨by simpa using M', by omega, by omega, hqb, hlb⟩
              apply wpS_ite
              · intro h4
                exact wpS_pure ⟨sm2, .inr ⟨_, _, _, _, _, rfl, O', by omega⟩⟩
              · intro h4
                exact wpS_pure ⟨sm2, _, _, _, _, _, rfl, O', by omega⟩
          · intro hw
            have hw : ¬ rk y < rk x := fun z => hw (decide_eq_true z)
            refine wpS_bind (wpS_elem e3 ?_)
            have M' := M.pushB ub e4 (last_above ua e2 (by omega))
            apply wpS_ite
            · intro h3
              have h3 : q = 1 := by simpa using h3
              refine wpS_pure ⟨sm2, .inl ⟨_, rfl, ?_⟩⟩
              have q := M'.goodBA ua ub (firstB _ _ h3)
              simp only [Array.toList_append, ext_pre, Array.toList_push, Array.toList_reverse, List.reverse_append, List.reverse_cons, List.reverse_nil, List.nil_append, List.cons_append]
              exact q
            · intro h3
              have h3 : ¬ q = 1 := by simpa using h3
              have O' : Oph rk a b (out.push y) (p + 1) q := ⟨by simpa using M', by omega, hla, by omega, by omega⟩
              apply wpS_ite
              · intro h4
                exact wpS_pure ⟨sm2, .inr ⟨_, _, _, _, _, rfl, O', by omega⟩⟩
              · intro h4
                exact wpS_pure ⟨sm2, _, _, _, _, _, rfl, O', by omega⟩
        case p2 =>
          rintro c st2 ⟨sm2, (⟨m, e, g⟩ | ⟨na2, nb2, out2, ac2, bc2, rfl, O2, hp2⟩)⟩
          · obtain ⟨c1, c2⟩ := c
            dsimp only at e ⊢
            subst e
            exact wpS_pure ⟨sm2, m, rfl, g⟩
          · dsimp only
            refine wpS_bind (wpS_lift (wpAny_rule ⟨rfl, ?_⟩))
            -- galloping
            refine wpS_bind (wpS_mono (wpS_forRange
              (I := fun j c st' => Sim st st' ∧ ∃ na nb out mg ac bc, c = (none, na, nb, out, mg, ac, bc) ∧ Oph rk a b out na nb ∧ na + nb + 1 ≤ na1 + nb1)
              (Q := fun c st' => Sim st st' ∧ ((∃ m, c.1 = some m ∧ Good rk a.toList b.toList m.toList) ∨ ∃ na nb out mg ac bc, c = (none, na, nb, out, mg, ac, bc) ∧ Oph rk a b out na nb ∧ na + nb + 1 ≤ na1 + nb1)) ?s3 ?f3 ⟨sm2, _, _, _, _, _, _, rfl, O2, hp2⟩) ?p3)
            case f3 =>
              rintro c st' ⟨sm, na, nb, out, mg, ac, bc, rfl, O, hp⟩
              exact ⟨sm, .inr ⟨na, nb, out, mg, ac, bc, rfl, O, hp⟩⟩
            case p3 =>
              rintro c st3 ⟨sm3, (⟨m, e, g⟩ | ⟨na, nb, out, mg, ac, bc, rfl, O, hp⟩)⟩
              · obtain ⟨c1, c2⟩ := c
                dsimp only at e ⊢
                subst e
                exact wpS_pure ⟨sm3, m, rfl, g⟩
              · dsimp only
                refine wpS_bind (wpS_modify ?_)
                exact wpS_pure ⟨sm3.trans ⟨rfl, rfl, rfl, rfl⟩, _, _, _, _, rfl, O, by omega⟩
            case s3 =>
              intro j c st3 _ hj hI
              refine ex6 hI fun sm3 na nb out mg ac bc ec O hp => ?_
              clear hI
              subst ec
              refine Exists.elim (show ∃ q, nb = q + 1 from ⟨nb - 1, by have := O.hb; omega⟩) fun q ep => ?_
              subst ep
              dsimp only [Nat.add_one_sub_one]
              have M := O.mh
              have hha := O.ha
              have hla := O.la
              have hlb := O.lb
              have hqb := O.hb
              refine ex1 (arr_get (a := b) (i := q) (by omega)) fun y e3 e4 my => ?_
              refine gen_nat ?P ?hgA ?hgB
              case hgA =>
                intro key
                apply wpS_ite
                · intro hg
                  generalize mg - 1 = m1
                  exact key m1
                · intro hg
                  exact key mg
              intro mg
              all_goals
                refine wpS_bind (wpS_modify ?_)
                refine wpS_bind (wpS_elem e3 ?_)
                refine wpS_bind (wpS_gal C (by exact sm3.kind.trans hk) (T.mb _ my) T.ma ua (by omega) (by omega) (fun x hx => T.dis x hx y my) fun k hk1 hk2 hk3 => ?_)
                dsimp only
                rw [List.drop_zero] at hk2
                rw [Nat.zero_add, ← List.drop_take] at hk3
                have Mk := M.bulkA (k := k) ua hk1 (fun x hx t ht => last_above ub e4 (hk3 t ht) x hx t (by simp))
                have yA : Below rk (a.toList.take k) [y] := fun z hz t ht => by
                  have ht : t = y := by simpa using ht
                  subst ht
                  exact hk2 z hz
                have stepA : (∃ out' na', out' = out ++ (a.extract k na).reverse ∧ na' = k ∧ Mh rk a.toList b.toList out'.toList.reverse na' (q + 1) ∧ Below rk (a.toList.take na') [y]) :=
                  ⟨_, _, rfl, rfl, by rw [Array.toList_append, Array.toList_reverse, List.reverse_append, List.reverse_reverse, ext_mid]; exact Mk, yA⟩
                apply wpS_ite
                case' hp =>
                  intro hk0
                  refine exs stepA fun out' na' eo ei M' yA' => ?_
                  subst ei
                  rw [← eo]
                  apply wpS_ite
                  case' hp =>
                    intro h3
                    have h3 : na' = 0 := by simpa using h3
                    refine wpS_pure ⟨sm3.trans ⟨rfl, rfl, rfl, rfl⟩, .inl ⟨_, rfl, ?_⟩⟩
                    have g := M'.goodAB ua ub (by rw [h3]; intro x hx; simp at hx)
                    simp only [Array.toList_append, ext_pre, Array.toList_push, Array.toList_reverse]
                    exact g
                  intro h3
                  have h3 : ¬ na' = 0 := by simpa using h3
                  have hna' : 0 < na' ∧ na' ≤ na := by omega
                case' hn =>
                  intro hk0
                  have k0 : k = na := by omega
                  subst k0
                  refine exs (show ∃ out' na', out' = out ∧ na' = k ∧ Mh rk a.toList b.toList out'.toList.reverse na' (q + 1) ∧ Below rk (a.toList.take na') [y] from ⟨_, _, rfl, rfl, M, yA⟩) fun out' na' eo ei M' yA' => ?_
                  subst ei
                  rw [← eo]
                  have hna' : 0 < na' ∧ na' ≤ na' := by omega
              all_goals
                refine Exists.elim (show ∃ p, na' = p + 1 from ⟨na' - 1, by omega⟩) fun p ep => ?_
                subst ep
                dsimp only [Nat.add_one_sub_one]
                refine wpS_bind (wpS_elem e3 ?_)
                have M2 := M'.pushB ub e4 yA'
                apply wpS_ite
                case' hp =>
                  intro h5
                  have h5 : q = 1 := by simpa using h5
                  refine wpS_pure ⟨sm3.trans ⟨rfl, rfl, rfl, rfl⟩, .inl ⟨_, rfl, ?_⟩⟩
                  have g := M2.goodBA ua ub (firstB _ _ h5)
                  simp only [Array.toList_append, ext_pre, Array.toList_push, Array.toList_reverse, List.reverse_append, List.reverse_cons, List.reverse_nil, List.nil_append, List.cons_append]
                  exact g
                intro h5
                have h5 : ¬ q = 1 := by simpa using h5
                refine ex1 (arr_get (a := a) (i := p) (by omega)) fun x e1 e2 mx => ?_
                refine wpS_bind (wpS_elem e1 ?_)
                refine wpS_bind (wpS_gal C (by exact sm3.kind.trans hk) (T.ma _ mx) T.mb ub (by omega) (by omega) (fun z hz => (T.dis x mx z hz).symm) fun k' hk1' hk2' hk3' => ?_)
                dsimp only
                rw [List.drop_zero] at hk2'
                rw [Nat.zero_add, ← List.drop_take] at hk3'
                have Mk' := M2.bulkB (k := k') ub hk1' (fun z hz t ht => last_above ua e2 (hk3' t ht) z hz t (by simp))
                have xB : Below rk (b.toList.take k') [x] := fun z hz t ht => by
                  have ht : t = x := by simpa using ht
                  subst ht
                  exact hk2' z hz
                have e5 : (out'.push y).toList.reverse = y :: out'.toList.reverse := by simp
                have stepB : (∃ out3 nb', out3 = out'.push y ++ (b.extract k' q).reverse ∧ nb' = k' ∧ Mh rk a.toList b.toList out3.toList.reverse (p + 1) nb' ∧ Below rk (b.toList.take nb') [x]) :=
                  ⟨_, _, rfl, rfl, by rw [Array.toList_append, Array.toList_reverse, List.reverse_append, List.reverse_reverse, ext_mid, e5]; exact Mk', xB⟩
                apply wpS_ite
                case' hp =>
                  intro hk0'
                  refine exs stepB fun out3 nb' eo3 ei3 M3 xB' => ?_
                  subst ei3
                  rw [← eo3]
                  apply wpS_ite
                  case' hp =>
                    intro h6
                    have h6 : nb' = 1 := by simpa using h6
                    refine wpS_pure ⟨sm3.trans ⟨rfl, rfl, rfl, rfl⟩, .inl ⟨_, rfl, ?_⟩⟩
                    have g := M3.goodBA ua ub (firstB _ _ h6)
                    simp only [Array.toList_append, ext_pre, Array.toList_push, Array.toList_reverse]
                    exact g
                  intro h6
                  have h6 : ¬ nb' = 1 := by simpa using h6
                  apply wpS_ite
                  case' hp =>
                    intro h8
                    have h8 : nb' = 0 := by simpa using h8
                    refine wpS_pure ⟨sm3.trans ⟨rfl, rfl, rfl, rfl⟩, .inl ⟨_, rfl, ?_⟩⟩
                    have g := M3.goodAB ua ub (by rw [h8]; exact fun _ _ _ hy => by simp at hy)
                    simp only [Array.toList_append, ext_pre, Array.toList_push, Array.toList_reverse]
                    exact g
                  intro h8
                  have h8 : ¬ nb' = 0 := by simpa using h8
                  have hnb' : 1 < nb' ∧ nb' ≤ q := by omega
                case' hn =>
                  intro hk0'
                  have k0 : k' = q := by omega
                  subst k0
                  refine exs (show ∃ out3 nb', out3 = out'.push y ∧ nb' = k' ∧ Mh rk a.toList b.toList out3.toList.reverse (p + 1) nb' ∧ Below rk (b.toList.take nb') [x] from ⟨_, _, rfl, rfl, by rw [e5]; exact M2, xB⟩) fun out3 nb' eo3 ei3 M3 xB' => ?_
                  subst ei3
                  rw [← eo3]
                  have hnb' : 1 < nb' ∧ nb' ≤ nb' := by omega
              all_goals
                refine wpS_bind (wpS_elem e1 ?_)
                have M4 := M3.pushA ua e2 xB'
                apply wpS_ite
                case' hp =>
                  intro h7
                  have h7 : p = 0 := by simpa using h7
                  refine wpS_pure ⟨sm3.trans ⟨rfl, rfl, rfl, rfl⟩, .inl ⟨_, rfl, ?_⟩⟩
                  have g := M4.goodAB ua ub (by rw [h7]; intro x hx; simp at hx)
                  simp only [Array.toList_append, ext_pre, Array.toList_push, Array.toList_reverse, List.reverse_append, List.reverse_cons, List.reverse_nil, List.nil_append, List.cons_append]
                  exact g
                intro h7
                have h7 : ¬ p = 0 := by simpa using h7
                have O4 : Oph rk a b (out3.push x) p nb' := ⟨by simpa using M4, by omega, by omega, by omega, by omega⟩
                apply wpS_ite <;> intro _
                · exact wpS_pure ⟨sm3.trans ⟨rfl, rfl, rfl, rfl⟩, .inr ⟨_, _, _, _, _, _, rfl, O4, by omega⟩⟩
                · exact wpS_pure ⟨sm3.trans ⟨rfl, rfl, rfl, rfl⟩, _, _, _, _, _, _, rfl, O4, by omega⟩
end
end GS

set_option autoImplicit false
set_option linter.all false
set_option maxRecDepth 100000
/-! Runs counted and grown, anywhere in the array. -/
namespace GS
open PySem PyProof.Rows
noncomputable def countRun1 : Nat → Nat → StateT SortSt Sem (Option Nat) := sortPriv% PySem.Builtin.countRun
noncomputable def binarySort1 : Nat → Nat → Nat → StateT SortSt Sem Bool := sortPriv% PySem.Builtin.binarySort
/-- the rank at a place -/
noncomputable def rA (rk : Keyed → Int) (xs : Array Keyed) (i : Nat) : Int := match xs[i]? with | some p => rk p | none => 0
noncomputable def UpTo (rk : Keyed → Int) (xs : Array Keyed) (lo hi : Nat) : Prop := ∀ i j, lo ≤ i → i < j → j < hi → rA rk xs i < rA rk xs j
noncomputable def DownTo (rk : Keyed → Int) (xs : Array Keyed) (lo hi : Nat) : Prop := ∀ i j, lo ≤ i → i < j → j < hi → rA rk xs j < rA rk xs i
/-- the state with its array -/
structure Arr (kind : SortKind) (a0 : List Keyed) (st : SortSt) : Prop where
  kind : kindOf st = kind
  failed : failedOf st = none
  perm : (arrOf st).toList.Perm a0
section
variable {kind : SortKind} {a0 : List Keyed} {rk : Keyed → Int} {st : SortSt}
theorem rA_of {xs : Array Keyed} {i : Nat} {p : Keyed} (h : xs[i]? = some p) : rA rk xs i = rk p := by unfold rA; rw [h]
theorem rA_congr {xs ys : Array Keyed} {i j : Nat} (h : xs[i]? = ys[j]?) : rA rk xs i = rA rk ys j := by unfold rA; rw [h]
theorem Arr.size (h : Arr kind a0 st) : (arrOf st).size = a0.length := by simpa using h.perm.length_eq
theorem Arr.get (h : Arr kind a0 st) {i : Nat} (hi : i < a0.length) : ∃ p, (arrOf st)[i]? = some p ∧ p ∈ a0 ∧ rA rk (arrOf st) i = rk p := by
  have hs := h.size
  obtain ⟨x, e1, e2, m⟩ := arr_get (a := arrOf st) (i := i) (by omega)
  exact ⟨x, e1, h.perm.mem_iff.mp m, rA_of e1⟩
theorem Arr.ne (h : Arr kind a0 st) (inj : (a0.map rk).Nodup) {i j : Nat} (hi : i < a0.length) (hj : j < a0.length) (n : i ≠ j) : rA rk (arrOf st) i ≠ rA rk (arrOf st) j := by
  have hs := h.size
  have nd : ((arrOf st).toList.map rk).Nodup := (h.perm.map rk).nodup_iff.mpr inj
  obtain ⟨p, e1, _, r1⟩ := h.get (rk := rk) hi
  obtain ⟨q, e2, _, r2⟩ := h.get (rk := rk) hj
  rw [r1, r2]
  intro e
  have l1 : ((arrOf st).toList.map rk)[i]? = some (rk p) := by rw [List.getElem?_map, Array.getElem?_toList, e1]; rfl
  have l2 : ((arrOf st).toList.map rk)[j]? = some (rk p) := by rw [List.getElem?_map, Array.getElem?_toList, e2, e]; rfl
  obtain ⟨h1, g1⟩ := List.getElem?_eq_some_iff.mp l1
  obtain ⟨h2, g2⟩ := List.getElem?_eq_some_iff.mp l2
  exact n ((List.getElem_inj nd).mp (g1.trans g2.symm))
theorem Arr.setArr (h : Arr kind a0 st) {xs : Array Keyed} (p : xs.Perm (arrOf st)) : Arr kind a0 (PyProof.Rows.setArr st xs) := ⟨h.kind, h.failed, (Array.perm_iff_toList_perm.mp p).trans h.perm⟩
/-- nothing else is changed but the array, and that within lo .. hi -/
structure Only (st st' : SortSt) (lo hi : Nat) : Prop where
  pend : pendingOf st' = pendingOf st
  out : ∀ k, k < lo ∨ hi ≤ k → (arrOf st')[k]? = (arrOf st)[k]?
theorem Only.refl (st : SortSt) (lo hi : Nat) : Only st st lo hi := ⟨rfl, fun _ _ => rfl⟩
theorem Only.trans {a b c : SortSt} {lo hi : Nat} (h : Only a b lo hi) (k : Only b c lo hi) : Only a c lo hi := ⟨k.pend.trans h.pend, fun i hi => (k.out i hi).trans (h.out i hi)⟩
theorem Only.wide {a b : SortSt} {lo hi lo' hi' : Nat} (h : Only a b lo hi) (h1 : lo' ≤ lo) (h2 : hi ≤ hi') : Only a b lo' hi' := ⟨h.pend, fun i hi => h.out i (by omega)⟩
end
section
variable {prog : Program} {w : World} {A : Around} {E : Value → Shared → Prop} {s : Shared} {kind : SortKind} {a0 : List Keyed} {rk : Keyed → Int}
theorem wpS_ltAtA (C : Cmp prog w A s kind a0 rk) {st : SortSt} {i j : Nat} {Q : Option Bool → SortSt → Prop} (h : Arr kind a0 st) (hi : i < a0.length) (hj : j < a0.length) (q : Q (some (decide (rA rk (arrOf st) i < rA rk (arrOf st) j))) st) :
    wpS (model prog w) A E s (ltAt' i j) Q st := by
  obtain ⟨x, e1, m1, r1⟩ := h.get (rk := rk) hi
  obtain ⟨y, e2, m2, r2⟩ := h.get (rk := rk) hj
  rw [r1, r2] at q
  rw [ltAt'_eq]
  refine wpS_bind (wpS_get ?_)
  exact wpS_bind (wpS_elem e1 (wpS_bind (wpS_elem e2 (wpS_lt C h.kind m1 m2 q))))

theorem wpS_countRunA (C : Cmp prog w A s kind a0 rk) {st : SortSt} {lo nrem : Nat} {Q : Option Nat → SortSt → Prop} (h : Arr kind a0 st) (hl : lo + nrem = a0.length) (h1 : 1 ≤ nrem)
    (q : ∀ m st', Arr kind a0 st' → 1 ≤ m → m ≤ nrem → UpTo rk (arrOf st') lo (lo + m) → Only st st' lo (lo + m) → Q (some m) st') : wpS (model prog w) A E s (countRun1 lo nrem) Q st := by
  have up1 : UpTo rk (arrOf st) lo (lo + 1) := fun i j a b c => by omega
  refine wpS_bind (wpS_mono (wpS_forRange (I := fun x c st' => st' = st ∧ c = (none, x) ∧ 1 ≤ x ∧ UpTo rk (arrOf st) lo (lo + x))
    (Q := fun c st' => st' = st ∧ ∃ n, c = (none, n) ∧ 1 ≤ n ∧ n ≤ nrem ∧ UpTo rk (arrOf st) lo (lo + n) ∧ (n = nrem ∨ rA rk (arrOf st) (lo + n) < rA rk (arrOf st) (lo + n - 1))) ?step ?fin ⟨rfl, rfl, by omega, up1⟩) ?post)
  case fin =>
    rintro c st' ⟨rfl, rfl, a1, a2⟩
    rw [show max 1 nrem = nrem by omega] at a2 ⊢
    exact ⟨rfl, nrem, rfl, by omega, Nat.le_refl _, a2, .inl rfl⟩
  case step =>
    rintro x c st' _ hx ⟨rfl, rfl, a1, a2⟩
    dsimp only
    refine wpS_bind (wpS_ltAtA C h (by omega) (by omega) ?_)
    by_cases hw : rA rk (arrOf st') (lo + x) < rA rk (arrOf st') (lo + x - 1)
    · simp only [decide_eq_true hw, if_true]
      exact wpS_pure ⟨rfl, x, rfl, a1, by omega, a2, .inr hw⟩
    · simp only [decide_eq_false hw, Bool.false_eq_true, if_false]
      refine wpS_pure ⟨rfl, rfl, by omega, fun i j b1 b2 b3 => ?_⟩
      have d := h.ne C.inj (i := lo + x) (j := lo + x - 1) (by omega) (by omega) (by omega)
      by_cases hj : j < lo + x
      · exact a2 i j b1 b2 hj
      · have e : j = lo + x := by omega
        subst e
        by_cases hi : i = lo + x - 1
        · subst hi; omega
        · have := a2 i (lo + x - 1) b1 (by omega) (by omega)
          omega
  case post =>
    rintro c st' ⟨rfl, n, rfl, n1, n2, n3, n4⟩
    dsimp only
    by_cases e1 : (n == nrem) = true
    · rw [if_pos e1]
      exact wpS_pure (q n st' h n1 n2 n3 (Only.refl _ _ _))
    · rw [if_neg e1]
      have e1 : ¬ n = nrem := by simpa using e1
      have n4 := n4.resolve_left e1
      by_cases hn : n > 1
      · rw [if_pos hn]
        refine wpS_bind (wpS_ltAtA C h (by omega) (by omega) ?_)
        have hw : rA rk (arrOf st') lo < rA rk (arrOf st') (lo + n - 1) := n3 lo (lo + n - 1) (by omega) (by omega) (by omega)
        simp only [decide_eq_true hw, if_true]
        exact wpS_pure (q n st' h n1 n2 n3 (Only.refl _ _ _))
      · rw [if_neg hn]
        have en : n = 1 := by omega
        subst en
        refine wpS_bind (wpS_lift (wpAny_rule ⟨rfl, ?_⟩))
        have dn : DownTo rk (arrOf st') lo (lo + 2) := fun i j b1 b2 b3 => by
          have ei : i = lo := by omega
          have ej : j = lo + 1 := by omega
          subst ei ej
          exact n4
        refine wpS_bind (wpS_mono (wpS_forRange (I := fun x c st'' => st'' = st' ∧ c = (none, x, 0) ∧ 2 ≤ x ∧ DownTo rk (arrOf st') lo (lo + x))
          (Q := fun c st'' => st'' = st' ∧ ∃ n, c = (none, n, 0) ∧ 2 ≤ n ∧ n ≤ nrem ∧ DownTo rk (arrOf st') lo (lo + n)) ?step2 ?fin2 ⟨rfl, rfl, by omega, dn⟩) ?post2)
        case fin2 =>
          rintro c st'' ⟨rfl, rfl, a1, a2⟩
          rw [show max (1 + 1) nrem = nrem by omega] at a2 ⊢
          exact ⟨rfl, nrem, rfl, by omega, Nat.le_refl _, a2⟩
        case step2 =>
          rintro x c st'' _ hx ⟨rfl, rfl, a1, a2⟩
          dsimp only
          refine wpS_bind (wpS_ltAtA C h (by omega) (by omega) ?_)
          have d := h.ne C.inj (i := lo + x) (j := lo + x - 1) (by omega) (by omega) (by omega)
          by_cases hw : rA rk (arrOf st'') (lo + x) < rA rk (arrOf st'') (lo + x - 1)
          · simp only [decide_eq_true hw, if_true]
            rw [if_neg (by omega)]
            refine wpS_pure ⟨rfl, rfl, by omega, fun i j b1 b2 b3 => ?_⟩
            by_cases hj : j < lo + x
            · exact a2 i j b1 b2 hj
            · have e : j = lo + x := by omega
              subst e
              by_cases hi : i = lo + x - 1
              · subst hi; omega
              · have := a2 i (lo + x - 1) b1 (by omega) (by omega)
                omega
          · simp only [decide_eq_false hw, Bool.false_eq_true, if_false]
            refine wpS_bind (wpS_ltAtA C h (by omega) (by omega) ?_)
            have hw' : rA rk (arrOf st'') (lo + x - 1) < rA rk (arrOf st'') (lo + x) := by omega
            simp only [decide_eq_true hw', if_true]
            exact wpS_pure ⟨rfl, x, rfl, a1, by omega, a2⟩
        case post2 =>
          rintro c st'' ⟨rfl, n, rfl, m1, m2, m3⟩
          dsimp only
          rw [if_neg (by omega)]
          refine wpS_bind (wpS_modify ?_)
          -- the run turned about
          have hsz := h.size
          have hA : Arr kind a0 (PyProof.Rows.setArr st'' (mirror (arrOf st'') lo (lo + n) ((lo + n - lo) / 2))) := h.setArr (mirror_perm _ _ _ _)
          have gt : ∀ k, (mirror (arrOf st'') lo (lo + n) ((lo + n - lo) / 2))[k]? = if lo ≤ k ∧ k < lo + n then (arrOf st'')[lo + (lo + n) - 1 - k]? else (arrOf st'')[k]? := fun k => getElem?_mirror_all (by omega) k
          have up2 : UpTo rk (mirror (arrOf st'') lo (lo + n) ((lo + n - lo) / 2)) lo (lo + n) := fun i j b1 b2 b3 => by
            have g1 := gt i
            have g2 := gt j
            rw [if_pos (by omega)] at g1 g2
            rw [rA_congr g1, rA_congr g2]
            exact m3 _ _ (by omega) (by omega) (by omega)
          have on2 : Only st'' (PyProof.Rows.setArr st'' (mirror (arrOf st'') lo (lo + n) ((lo + n - lo) / 2))) lo (lo + n) := ⟨rfl, fun k hk => by
            have g := gt k
            rw [if_neg (by omega)] at g
            exact g⟩
          show wpS (model prog w) A E s _ _ (PyProof.Rows.setArr st'' (mirror (arrOf st'') lo (lo + n) ((lo + n - lo) / 2)))
          generalize hst3 : PyProof.Rows.setArr st'' (mirror (arrOf st'') lo (lo + n) ((lo + n - lo) / 2)) = st3 at *
          have up3 : UpTo rk (arrOf st3) lo (lo + n) := by rw [← hst3]; exact up2
          refine wpS_bind (wpS_mono (wpS_forRange (I := fun x c st4 => st4 = st3 ∧ c = (none, x) ∧ n ≤ x ∧ UpTo rk (arrOf st3) lo (lo + x))
            (Q := fun c st4 => st4 = st3 ∧ ∃ m, c = (none, m) ∧ n ≤ m ∧ m ≤ nrem ∧ UpTo rk (arrOf st3) lo (lo + m)) ?step3 ?fin3 ⟨rfl, rfl, by omega, up3⟩) ?post3)
          case fin3 =>
            rintro c st4 ⟨rfl, rfl, a1, a2⟩
            rw [show max n nrem = nrem by omega] at a2 ⊢
            exact ⟨rfl, nrem, rfl, by omega, Nat.le_refl _, a2⟩
          case step3 =>
            rintro x c st4 _ hx ⟨rfl, rfl, a1, a2⟩
            dsimp only
            refine wpS_bind (wpS_ltAtA C hA (by omega) (by omega) ?_)
            have d := hA.ne C.inj (i := lo + x) (j := lo + x - 1) (by omega) (by omega) (by omega)
            by_cases hw : rA rk (arrOf st4) (lo + x) < rA rk (arrOf st4) (lo + x - 1)
            · simp only [decide_eq_true hw, if_true]
              exact wpS_pure ⟨rfl, x, rfl, a1, by omega, a2⟩
            · simp only [decide_eq_false hw, Bool.false_eq_true, if_false]
              refine wpS_pure ⟨rfl, rfl, by omega, fun i j b1 b2 b3 => ?_⟩
              by_cases hj : j < lo + x
              · exact a2 i j b1 b2 hj
              · have e : j = lo + x := by omega
                subst e
                by_cases hi : i = lo + x - 1
                · subst hi; omega
                · have := a2 i (lo + x - 1) b1 (by omega) (by omega)
                  omega
          case post3 =>
            rintro c st4 ⟨rfl, m, rfl, k1, k2, k3⟩
            exact wpS_pure (q m st4 hA (by omega) k2 k3 (on2.wide (Nat.le_refl _) (by omega)))

theorem wpS_binarySortA (C : Cmp prog w A s kind a0 rk) {st : SortSt} {lo n ok : Nat} {Q : Bool → SortSt → Prop} (h : Arr kind a0 st) (hl : lo + n ≤ a0.length) (hok : ok ≤ n) (hu : UpTo rk (arrOf st) lo (lo + ok))
    (q : ∀ st', Arr kind a0 st' → UpTo rk (arrOf st') lo (lo + n) → Only st st' lo (lo + n) → Q true st') : wpS (model prog w) A E s (binarySort1 lo n ok) Q st := by
  refine wpS_bind (wpS_mono (wpS_forRange (I := fun k c st' => c = (none, ()) ∧ Arr kind a0 st' ∧ UpTo rk (arrOf st') lo (lo + min k n) ∧ Only st st' lo (lo + n))
    (Q := fun c st' => c = (none, ()) ∧ Arr kind a0 st' ∧ UpTo rk (arrOf st') lo (lo + n) ∧ Only st st' lo (lo + n)) ?step ?fin ?init) ?post)
  case post =>
    rintro c st' ⟨rfl, a1, a2, a3⟩
    exact wpS_pure (q st' a1 a2 a3)
  case init =>
    refine ⟨rfl, h, fun i j b1 b2 b3 => ?_, Only.refl _ _ _⟩
    by_cases z : ok = 0
    · omega
    · exact hu i j b1 b2 (by omega)
  case fin =>
    rintro c st' ⟨hc, a1, a2, a3⟩
    rw [show min (max (max ok 1) n) n = n by omega] at a2
    exact ⟨hc, a1, a2, a3⟩
  case step =>
    rintro k c st' hak hkn ⟨rfl, a1, a2, a3⟩
    rw [show min k n = k by omega] at a2
    refine wpS_bind (wpS_mono (wpS_forRange (I := fun x c st'' => st'' = st' ∧ ∃ l r, c = (none, l, r) ∧ l ≤ r ∧ r ≤ k ∧ r - l ≤ k - x ∧
        (∀ i, i < l → rA rk (arrOf st') (lo + i) < rA rk (arrOf st') (lo + k)) ∧ (∀ i, r ≤ i → i < k → rA rk (arrOf st') (lo + k) < rA rk (arrOf st') (lo + i)))
      (Q := fun c st'' => st'' = st' ∧ ∃ l r, c = (none, l, r) ∧ l ≤ k ∧
        (∀ i, i < l → rA rk (arrOf st') (lo + i) < rA rk (arrOf st') (lo + k)) ∧ (∀ i, l ≤ i → i < k → rA rk (arrOf st') (lo + k) < rA rk (arrOf st') (lo + i))) ?istep ?ifin ?iinit) ?ipost)
    case iinit => exact ⟨rfl, 0, k, rfl, by omega, by omega, by omega, fun i hi => by omega, fun i h1 h2 => by omega⟩
    case ifin =>
      rintro c st'' ⟨rfl, l, r, rfl, hlr, hrk, hm, hlo, hhi⟩
      have : l = r := by omega
      subst this
      exact ⟨rfl, l, l, rfl, hrk, hlo, hhi⟩
    case istep =>
      rintro x c st'' _ hxk ⟨rfl, l, r, rfl, hlr, hrk, hm, hlo, hhi⟩
      dsimp only
      by_cases hge : l ≥ r
      · rw [if_pos hge]
        have : l = r := by omega
        subst this
        exact wpS_pure ⟨rfl, l, l, rfl, hrk, hlo, hhi⟩
      · rw [if_neg hge]
        refine wpS_bind (wpS_ltAtA C a1 (by omega) (by omega) ?_)
        have d := a1.ne C.inj (i := lo + k) (j := lo + (l + r) / 2) (by omega) (by omega) (by omega)
        by_cases hless : rA rk (arrOf st'') (lo + k) < rA rk (arrOf st'') (lo + (l + r) / 2)
        · simp only [decide_eq_true hless, if_true]
          refine wpS_pure ⟨rfl, l, (l + r) / 2, rfl, by omega, by omega, by omega, hlo, fun i h1 h2 => ?_⟩
          by_cases e : i = (l + r) / 2
          · subst e; exact hless
          · have := a2 (lo + (l + r) / 2) (lo + i) (by omega) (by omega) (by omega)
            omega
        · simp only [decide_eq_false hless, Bool.false_eq_true, if_false]
          refine wpS_pure ⟨rfl, (l + r) / 2 + 1, r, rfl, by omega, by omega, by omega, fun i h1 => ?_, hhi⟩
          by_cases e : i = (l + r) / 2
          · subst e; omega
          · have := a2 (lo + i) (lo + (l + r) / 2) (by omega) (by omega) (by omega)
            omega
    case ipost =>
      rintro c st'' ⟨rfl, l, r, rfl, hlk, hlo, hhi⟩
      dsimp only
      refine wpS_bind (wpS_modify (wpS_pure ⟨rfl, ?_⟩))
      have hsz := a1.size
      show Arr kind a0 (PyProof.Rows.setArr st'' (bubble (arrOf st'') (lo + k) (lo + k - (lo + l)))) ∧ UpTo rk (bubble (arrOf st'') (lo + k) (lo + k - (lo + l))) lo (lo + min (k + 1) n) ∧ Only st (PyProof.Rows.setArr st'' (bubble (arrOf st'') (lo + k) (lo + k - (lo + l)))) lo (lo + n)
      have gt : ∀ i, (bubble (arrOf st'') (lo + k) (lo + k - (lo + l)))[i]? = if i = lo + l then (arrOf st'')[lo + k]? else if lo + l < i ∧ i ≤ lo + k then (arrOf st'')[i - 1]? else (arrOf st'')[i]? := fun i => by
        have := getElem?_bubble (xs := arrOf st'') (src := lo + k) (by omega) (lo + k - (lo + l)) (by omega) i
        rw [show lo + k - (lo + k - (lo + l)) = lo + l by omega] at this
        exact this
      refine ⟨a1.setArr (bubble_perm _ _ _), fun i j b1 b2 b3 => ?_, a3.trans ⟨rfl, fun i hi => ?_⟩⟩
      · rw [show min (k + 1) n = k + 1 by omega] at b3
        have g1 := gt i
        have g2 := gt j
        by_cases c1 : i = lo + l
        · rw [if_pos c1] at g1
          rw [if_neg (by omega), if_pos (by omega)] at g2
          rw [rA_congr g1, rA_congr g2]
          have := hhi (j - 1 - lo) (by omega) (by omega)
          rwa [show lo + (j - 1 - lo) = j - 1 by omega] at this
        · rw [if_neg c1] at g1
          by_cases c2 : lo + l < i ∧ i ≤ lo + k
          · rw [if_pos c2] at g1
            rw [if_neg (by omega), if_pos (by omega)] at g2
            rw [rA_congr g1, rA_congr g2]
            exact a2 _ _ (by omega) (by omega) (by omega)
          · rw [if_neg c2] at g1
            rw [rA_congr g1]
            by_cases c3 : j = lo + l
            · rw [if_pos c3] at g2
              rw [rA_congr g2]
              have := hlo (i - lo) (by omega)
              rwa [show lo + (i - lo) = i by omega] at this
            · rw [if_neg c3] at g2
              by_cases c4 : lo + l < j ∧ j ≤ lo + k
              · rw [if_pos c4] at g2
                rw [rA_congr g2]
                exact a2 _ _ b1 (by omega) (by omega)
              · rw [if_neg c4] at g2
                rw [rA_congr g2]
                exact a2 _ _ b1 b2 (by omega)
      · have g := gt i
        rw [if_neg (by omega), if_neg (by omega)] at g
        exact g
end
end GS

set_option autoImplicit false
set_option linter.all false
set_option maxRecDepth 100000
/-! Two runs of the array merged in their place. -/
namespace GS
open PySem PyProof.Rows
noncomputable def mergeAt1 : Nat → StateT SortSt Sem Bool := sortPriv% PySem.Builtin.mergeAt
/-! ### what is written back -/
theorem fold_get (b : Nat) : ∀ (m : List Keyed) (o : Nat) (xs : Array Keyed), b + o + m.length ≤ xs.size → ∀ k, ((m.zipIdx o).foldl (fun a x => a.setIfInBounds (b + x.2) x.1) xs)[k]? = if b + o ≤ k ∧ k < b + o + m.length then m[k - (b + o)]? else xs[k]?
  | [], o, xs, h, k => by
    rw [List.zipIdx_nil, List.foldl_nil, if_neg (by simp <;> omega)]
  | x :: m, o, xs, h, k => by
    simp only [List.length_cons] at h
    rw [List.zipIdx_cons, List.foldl_cons, fold_get b m (o + 1) _ (by rw [Array.size_setIfInBounds]; omega) k]
    simp only [List.length_cons]
    by_cases c1 : k = b + o
    · subst c1
      rw [if_neg (by omega), if_pos (by omega), Array.getElem?_setIfInBounds, if_pos rfl, if_pos (by omega)]
      simp
    · by_cases c2 : b + (o + 1) ≤ k ∧ k < b + (o + 1) + m.length
      · rw [if_pos c2, if_pos (by omega), show k - (b + o) = (k - (b + (o + 1))) + 1 by omega, List.getElem?_cons_succ]
      · rw [if_neg c2, if_neg (by omega), Array.getElem?_setIfInBounds, if_neg (by omega)]
theorem list_cut (l : List Keyed) (i n : Nat) : l = l.take i ++ (l.drop i).take n ++ l.drop (i + n) := by
  rw [List.append_assoc, ← List.drop_drop, List.take_append_drop, List.take_append_drop]
theorem fold_list {m : List Keyed} {b : Nat} {xs : Array Keyed} (h : b + m.length ≤ xs.size) : (m.zipIdx.foldl (fun a x => a.setIfInBounds (b + x.2) x.1) xs).toList = xs.toList.take b ++ m ++ xs.toList.drop (b + m.length) := by
  have hl : xs.toList.length = xs.size := Array.length_toList
  refine List.ext_getElem? fun k => ?_
  rw [Array.getElem?_toList, fold_get b m 0 xs (by omega) k, Nat.add_zero]
  by_cases c1 : k < b
  · rw [if_neg (by omega), List.append_assoc, List.getElem?_append_left (by rw [List.length_take]; omega), List.getElem?_take_of_lt c1, Array.getElem?_toList]
  · by_cases c2 : k < b + m.length
    · rw [if_pos (by omega), List.append_assoc, List.getElem?_append_right (by rw [List.length_take]; omega), List.length_take, Nat.min_eq_left (by omega), List.getElem?_append_left (by omega)]
    · rw [if_neg (by omega), List.getElem?_append_right (by rw [List.length_append, List.length_take]; omega), List.length_append, List.length_take, Nat.min_eq_left (by omega), List.getElem?_drop, ← Array.getElem?_toList]
      congr 1
      omega
section
variable {prog : Program} {w : World} {A : Around} {E : Value → Shared → Prop} {s : Shared} {kind : SortKind} {a0 : List Keyed} {rk : Keyed → Int}
/-- galloping in a part of the array that rises -/
theorem wpS_galA (C : Cmp prog w A s kind a0 rk) {left : Bool} {key : Keyed} {st : SortSt} {st0 : SortSt} {base n hint : Nat} {Q : Option Nat → SortSt → Prop} (h : Arr kind a0 st0) (hk : kindOf st = kind)
    (my : key ∈ a0) (hn : base + n ≤ a0.length) (hu : UpTo rk (arrOf st0) base (base + n)) (hh : hint < n) (dis : ∀ i, base ≤ i → i < base + n → rA rk (arrOf st0) i ≠ rk key)
    (q : ∀ k, k ≤ n → (∀ i, base ≤ i → i < base + k → rA rk (arrOf st0) i < rk key) → (∀ i, base + k ≤ i → i < base + n → rk key < rA rk (arrOf st0) i) → Q (some k) st) :
    wpS (model prog w) A E s (gallop1 left key (arrOf st0) base n hint) Q st := by
  have hs := h.size
  have at' : ∀ j, j < n → ∃ x, (arrOf st0)[base + j]? = some x ∧ x ∈ a0 ∧ rA rk (arrOf st0) (base + j) = rk x := fun j hj => h.get (by omega)
  have xs : ∀ j, j < n → (arrOf st0)[base + j]? = some (((arrOf st0)[base + j]?).getD key) ∧ ((arrOf st0)[base + j]?).getD key ∈ a0 ∧ rA rk (arrOf st0) (base + j) = rk (((arrOf st0)[base + j]?).getD key) := fun j hj => by
    obtain ⟨x, e, m, r⟩ := at' j hj
    rw [e]
    exact ⟨rfl, m, r⟩
  have val : ∀ j, j < n → bey rk left key (((arrOf st0)[base + j]?).getD key) = decide (rA rk (arrOf st0) (base + j) < rk key) := fun j hj => by
    have d := dis (base + j) (by omega) (by omega)
    rw [(xs j hj).2.2] at d ⊢
    unfold bey
    cases left with
    | true => rfl
    | false =>
      rw [if_neg Bool.false_ne_true]
      by_cases z : rk (((arrOf st0)[base + j]?).getD key) < rk key
      · rw [decide_eq_true z, decide_eq_false (by omega)]; rfl
      · rw [decide_eq_false z, decide_eq_true (by omega)]; rfl
  refine wpS_gallop C hk my (fun j => ((arrOf st0)[base + j]?).getD key) (fun j hj => (xs j hj).1) (fun j hj => (xs j hj).2.1) hh (fun i j hij hj hb => ?_) fun k hk1 hk2 hk3 => q k hk1 (fun i b1 b2 => ?_) (fun i b1 b2 => ?_)
  · rw [val j hj] at hb
    rw [val i (by omega)]
    have hb := of_decide_eq_true hb
    refine decide_eq_true ?_
    rcases Nat.lt_or_eq_of_le hij with z | z
    · have := hu (base + i) (base + j) (by omega) (by omega) (by omega)
      omega
    · subst z; exact hb
  · have z := hk2 (i - base) (by omega)
    rw [val (i - base) (by omega)] at z
    have z := of_decide_eq_true z
    rwa [show base + (i - base) = i by omega] at z
  · have z := hk3 (i - base) (by omega) (by omega)
    rw [val (i - base) (by omega)] at z
    have z := of_decide_eq_false z
    rw [show base + (i - base) = i by omega] at z
    have := dis i (by omega) b2
    omega
/-- a part that rises, as a list -/
theorem up_ext {xs : Array Keyed} {i j : Nat} (hj : j ≤ xs.size) (hu : UpTo rk xs i j) : Up rk (xs.extract i j).toList := by
  refine List.pairwise_iff_getElem.mpr fun p q hp hq hpq => ?_
  rw [ext_mid] at hp hq
  simp only [List.length_drop, List.length_take, Array.length_toList] at hp hq
  have gp : ∀ p (hp : p < (xs.extract i j).toList.length), xs[i + p]? = some (xs.extract i j).toList[p] := fun p hp => by
    have e : (xs.extract i j).toList[p]? = some (xs.extract i j).toList[p] := List.getElem?_eq_getElem hp
    have e2 : (xs.extract i j).toList[p]? = xs[i + p]? := by
      rw [ext_mid] at hp
      simp only [List.length_drop, List.length_take, Array.length_toList] at hp
      rw [ext_mid, List.getElem?_drop, List.getElem?_take_of_lt (by omega), Array.getElem?_toList]
    exact e2.symm.trans e
  have r1 := rA_of (rk := rk) (gp p (by rw [ext_mid]; simp; omega))
  have r2 := rA_of (rk := rk) (gp q (by rw [ext_mid]; simp; omega))
  rw [← r1, ← r2]
  exact hu _ _ (by omega) (by omega) (by omega)
theorem mem_ext {xs : Array Keyed} {i j : Nat} {x : Keyed} (hj : j ≤ xs.size) (h : x ∈ (xs.extract i j).toList) : ∃ p, i ≤ p ∧ p < j ∧ xs[p]? = some x := by
  obtain ⟨p, hp, e⟩ := List.mem_iff_getElem.mp h
  have e' : (xs.extract i j).toList[p]? = some x := by rw [List.getElem?_eq_getElem hp, e]
  rw [ext_mid] at hp e'
  simp only [List.length_drop, List.length_take, Array.length_toList] at hp
  rw [List.getElem?_drop, List.getElem?_take_of_lt (by omega), Array.getElem?_toList] at e'
  exact ⟨i + p, by omega, by omega, e'⟩

theorem wpS_mergeAtA (C : Cmp prog w A s kind a0 rk) {st : SortSt} {i sa na pw sb nb pw' : Nat} {Q : Bool → SortSt → Prop} (h : Arr kind a0 st) (p1 : (pendingOf st)[i]? = some (sa, na, pw)) (p2 : (pendingOf st)[i + 1]? = some (sb, nb, pw'))
    (hs : sb = sa + na) (hna : 1 ≤ na) (hnb : 1 ≤ nb) (hl : sb + nb ≤ a0.length) (u1 : UpTo rk (arrOf st) sa sb) (u2 : UpTo rk (arrOf st) sb (sb + nb))
    (q : ∀ st', Arr kind a0 st' → pendingOf st' = ((pendingOf st).setIfInBounds i (sa, na + nb, pw)).eraseIdxIfInBounds (i + 1) → UpTo rk (arrOf st') sa (sb + nb) → (∀ k, k < sa ∨ sb + nb ≤ k → (arrOf st')[k]? = (arrOf st)[k]?) → Q true st') :
    wpS (model prog w) A E s (mergeAt1 i) Q st := by
  refine wpS_bind (wpS_get ?_)
  dsimp only
  rw [p1, p2]
  dsimp only
  have hsz := h.size
  refine wpS_bind ?_
  show wpS (model prog w) A E s (modify fun _ => SortSt.mk' (kindOf st) (arrOf st) (((pendingOf st).setIfInBounds i (sa, na + nb, pw)).eraseIdxIfInBounds (i + 1)) (gallopOf st) (failedOf st)) _ st
  refine wpS_modify ?_
  generalize hst1 : SortSt.mk' (kindOf st) (arrOf st) (((pendingOf st).setIfInBounds i (sa, na + nb, pw)).eraseIdxIfInBounds (i + 1)) (gallopOf st) (failedOf st) = st1
  have k1 : kindOf st1 = kind := by rw [← hst1]; exact h.kind
  have f1 : failedOf st1 = none := by rw [← hst1]; exact h.failed
  have ar1 : arrOf st1 = arrOf st := by rw [← hst1]
  have pe1 : pendingOf st1 = ((pendingOf st).setIfInBounds i (sa, na + nb, pw)).eraseIdxIfInBounds (i + 1) := by rw [← hst1]
  have A1 : Arr kind a0 st1 := ⟨k1, f1, by rw [ar1]; exact h.perm⟩
  obtain ⟨y, e3, my, ry⟩ := h.get (rk := rk) (i := sb) (by omega)
  have dn : ∀ p p', p < a0.length → p' < a0.length → p ≠ p' → rA rk (arrOf st) p ≠ rA rk (arrOf st) p' := fun p p' a b c => h.ne C.inj a b c
  refine wpS_bind (wpS_elem e3 ?_)
  refine wpS_bind (wpS_galA C h k1 my (by omega) (by rw [← hs]; exact u1) (by omega) (fun p b1 b2 => by rw [← ry]; exact dn p sb (by omega) (by omega) (by omega)) fun k hk1 hk2 hk3 => ?_)
  dsimp only
  rw [← ry] at hk2 hk3
  -- all of the first run is ahead of the second: nothing to do
  have whole : (∀ p p', sa ≤ p → p < sb → sb ≤ p' → p' < sb + nb → rA rk (arrOf st) p < rA rk (arrOf st) p') → UpTo rk (arrOf st) sa (sb + nb) := fun z p p' b1 b2 b3 => by
    by_cases c1 : p' < sb
    · exact u1 p p' b1 b2 c1
    · by_cases c2 : p < sb
      · exact z p p' b1 c2 (by omega) b3
      · exact u2 p p' (by omega) b2 b3
  have geB : ∀ p', sb ≤ p' → p' < sb + nb → rA rk (arrOf st) sb ≤ rA rk (arrOf st) p' := fun p' b1 b2 => by
    by_cases c : p' = sb
    · subst c; exact Int.le_refl _
    · exact Int.le_of_lt (u2 sb p' (Nat.le_refl _) (by omega) b2)
  have leA : ∀ p, sa ≤ p → p < sb → rA rk (arrOf st) p ≤ rA rk (arrOf st) (sb - 1) := fun p b1 b2 => by
    by_cases c : p = sb - 1
    · subst c; exact Int.le_refl _
    · exact Int.le_of_lt (u1 p (sb - 1) b1 (by omega) (by omega))
  by_cases h0 : (na - k == 0) = true
  · rw [if_pos h0]
    have h0 : na - k = 0 := by simpa using h0
    refine wpS_pure (q st1 A1 pe1 ?_ fun j _ => by rw [ar1])
    rw [ar1]
    refine whole fun p p' b1 b2 b3 b4 => ?_
    have := hk2 p b1 (by omega)
    have := geB p' b3 b4
    omega
  · rw [if_neg h0]
    have h0 : ¬ na - k = 0 := by simpa using h0
    have hix : sa + k + (na - k) - 1 = sb - 1 := by omega
    rw [hix]
    obtain ⟨x, e1, mx, rx⟩ := h.get (rk := rk) (i := sb - 1) (by omega)
    refine wpS_bind (wpS_elem e1 ?_)
    refine wpS_bind (wpS_galA C h k1 mx (by omega) u2 (by omega) (fun p b1 b2 => by rw [← rx]; exact dn p (sb - 1) (by omega) (by omega) (by omega)) fun nb' hk1' hk2' hk3' => ?_)
    dsimp only
    rw [← rx] at hk2' hk3'
    by_cases h9 : (nb' == 0) = true
    · rw [if_pos h9]
      have h9 : nb' = 0 := by simpa using h9
      refine wpS_pure (q st1 A1 pe1 ?_ fun j _ => by rw [ar1])
      rw [ar1]
      refine whole fun p p' b1 b2 b3 b4 => ?_
      have := hk3' p' (by omega) b4
      have := leA p b1 b2
      omega
    · rw [if_neg h9]
      have h9 : ¬ nb' = 0 := by simpa using h9
      have ux : UpTo rk (arrOf st) (sa + k) sb := fun p p' b1 b2 b3 => u1 p p' (by omega) b2 b3
      have uy : UpTo rk (arrOf st) sb (sb + nb') := fun p p' b1 b2 b3 => u2 p p' b1 b2 (by omega)
      have sx : ((arrOf st).extract (sa + k) sb).size = na - k := by rw [Array.size_extract]; omega
      have sy : ((arrOf st).extract sb (sb + nb')).size = nb' := by rw [Array.size_extract]; omega
      have T : Two a0 rk ((arrOf st).extract (sa + k) sb) ((arrOf st).extract sb (sb + nb')) := by
        refine ⟨fun z hz => ?_, fun z hz => ?_, up_ext (by omega) ux, up_ext (by omega) uy, fun z hz t ht => ?_, by omega, by omega⟩
        · obtain ⟨p, b1, b2, e⟩ := mem_ext (by omega) hz
          obtain ⟨z', e', m', _⟩ := h.get (rk := rk) (i := p) (by omega)
          rw [e] at e'; cases e'; exact m'
        · obtain ⟨p, b1, b2, e⟩ := mem_ext (by omega) hz
          obtain ⟨z', e', m', _⟩ := h.get (rk := rk) (i := p) (by omega)
          rw [e] at e'; cases e'; exact m'
        · obtain ⟨p, b1, b2, e⟩ := mem_ext (by omega) hz
          obtain ⟨p', b1', b2', e'⟩ := mem_ext (by omega) ht
          rw [← rA_of (rk := rk) e, ← rA_of (rk := rk) e']
          exact dn p p' (by omega) (by omega) (by omega)
      have exy : ∀ z t, z ∈ ((arrOf st).extract (sa + k) sb).toList → ((arrOf st).extract sb (sb + nb')).toList[0]? = some t → rk t < rk z := fun z t hz ht => by
        obtain ⟨p, b1, b2, e⟩ := mem_ext (by omega) hz
        rw [ext_mid, List.getElem?_drop, Nat.add_zero, List.getElem?_take_of_lt (by omega), Array.getElem?_toList] at ht
        rw [← rA_of (rk := rk) e, ← rA_of (rk := rk) ht]
        exact hk3 p b1 (by omega)
      have last : ∀ z, ((arrOf st).extract (sa + k) sb).toList[((arrOf st).extract (sa + k) sb).size - 1]? = some z → ∀ t ∈ ((arrOf st).extract sb (sb + nb')).toList, rk t < rk z := fun z hz t ht => by
        obtain ⟨p, b1, b2, e⟩ := mem_ext (by omega) ht
        rw [sx, ext_mid, List.getElem?_drop, show sa + k + (na - k - 1) = sb - 1 by omega, List.getElem?_take_of_lt (by omega), Array.getElem?_toList] at hz
        rw [← rA_of (rk := rk) e, ← rA_of (rk := rk) hz]
        exact hk2' p b1 b2
      -- both ways of merging: the same end
      have fin : ∀ (m : Array Keyed) (st2 : SortSt), Sim st1 st2 → Good rk ((arrOf st).extract (sa + k) sb).toList ((arrOf st).extract sb (sb + nb')).toList m.toList →
          Q true (SortSt.mk' (kindOf st2) (m.toList.zipIdx.foldl (fun a x => a.setIfInBounds (sa + k + x.2) x.1) (arrOf st2)) (pendingOf st2) (gallopOf st2) (failedOf st2)) := fun m st2 sm g => by
        have lm : m.toList.length = (na - k) + nb' := by
          have := g.perm.length_eq
          rw [List.length_append, Array.length_toList, Array.length_toList, Array.length_toList, sx, sy] at this
          simpa using this
        have ea : arrOf st2 = arrOf st := sm.arr.trans ar1
        have hfit : sa + k + m.toList.length ≤ (arrOf st).size := by omega
        have gt : ∀ j, (m.toList.zipIdx.foldl (fun a x => a.setIfInBounds (sa + k + x.2) x.1) (arrOf st))[j]? = if sa + k ≤ j ∧ j < sa + k + m.toList.length then m.toList[j - (sa + k)]? else (arrOf st)[j]? := fun j => by
          have := fold_get (sa + k) m.toList 0 (arrOf st) (by omega) j
          simpa using this
        -- a rank of the merged part is one of the two runs'
        have inm : ∀ j, sa + k ≤ j → j < sa + k + m.toList.length → ∃ p, sa + k ≤ p ∧ p < sb + nb' ∧ rA rk (m.toList.zipIdx.foldl (fun a x => a.setIfInBounds (sa + k + x.2) x.1) (arrOf st)) j = rA rk (arrOf st) p := fun j b1 b2 => by
          have e := gt j
          rw [if_pos ⟨b1, b2⟩, List.getElem?_eq_getElem (by omega)] at e
          have mem : m.toList[j - (sa + k)]'(by omega) ∈ ((arrOf st).extract (sa + k) sb).toList ++ ((arrOf st).extract sb (sb + nb')).toList := g.perm.mem_iff.mp (List.getElem_mem _)
          rw [rA_of e]
          rcases List.mem_append.mp mem with z | z
          · obtain ⟨p, c1, c2, ep⟩ := mem_ext (by omega) z
            exact ⟨p, c1, by omega, (rA_of ep).symm⟩
          · obtain ⟨p, c1, c2, ep⟩ := mem_ext (by omega) z
            exact ⟨p, by omega, c2, (rA_of ep).symm⟩
        have lowp : ∀ j p, sa ≤ j → j < sa + k → sa + k ≤ p → p < sb + nb' → rA rk (arrOf st) j < rA rk (arrOf st) p := fun j p b1 b2 b3 b4 => by
          by_cases c : p < sb
          · exact u1 j p b1 (by omega) c
          · have := hk2 j b1 b2
            have := geB p (by omega) (by omega)
            omega
        have highp : ∀ j p, sb + nb' ≤ j → j < sb + nb → sa + k ≤ p → p < sb + nb' → rA rk (arrOf st) p < rA rk (arrOf st) j := fun j p b1 b2 b3 b4 => by
          by_cases c : p < sb
          · have := hk3' j b1 b2
            have := leA p (by omega) c
            omega
          · exact u2 p j (by omega) (by omega) b2
        refine q _ ⟨sm.kind.trans k1, sm.failed.trans f1, ?_⟩ (sm.pend.trans pe1) ?_ ?_
        · show (m.toList.zipIdx.foldl (fun a x => a.setIfInBounds (sa + k + x.2) x.1) (arrOf st2)).toList.Perm a0
          rw [ea, fold_list hfit]
          refine List.Perm.trans ?_ h.perm
          have e0 := list_cut (arrOf st).toList (sa + k) m.toList.length
          have e1' : ((arrOf st).toList.drop (sa + k)).take m.toList.length = ((arrOf st).extract (sa + k) sb).toList ++ ((arrOf st).extract sb (sb + nb')).toList := by
            have c1 : na - k + nb' = sb + nb' - (sa + k) := by omega
            rw [lm, ext_mid, ext_mid, c1, ← List.drop_take]
            have := drop_cut (l := (arrOf st).toList.take (sb + nb')) (i := sa + k) (j := sb) (by omega)
            rw [List.take_take, show min sb (sb + nb') = sb by omega] at this
            exact this
          conv => rhs; rw [e0, e1']
          exact (List.Perm.append_left _ g.perm).append_right _
        · show UpTo rk (m.toList.zipIdx.foldl (fun a x => a.setIfInBounds (sa + k + x.2) x.1) (arrOf st2)) sa (sb + nb)
          rw [ea]
          have hm : sa + k + m.toList.length = sb + nb' := by omega
          intro p p' b1 b2 b3
          by_cases c1 : p < sa + k
          · have g1 := gt p
            rw [if_neg (by omega)] at g1
            rw [rA_congr g1]
            by_cases c2 : p' < sa + k
            · have g2 := gt p'
              rw [if_neg (by omega)] at g2
              rw [rA_congr g2]
              exact u1 p p' b1 b2 (by omega)
            · by_cases c3 : p' < sb + nb'
              · obtain ⟨r, d1, d2, er⟩ := inm p' (by omega) (by omega)
                rw [er]
                exact lowp p r b1 c1 d1 d2
              · have g2 := gt p'
                rw [if_neg (by omega)] at g2
                rw [rA_congr g2]
                have := hk2 p b1 c1
                have := geB p' (by omega) b3
                omega
          · by_cases c2 : p' < sb + nb'
            · have g1 := gt p
              have g2 := gt p'
              rw [if_pos (by omega), List.getElem?_eq_getElem (by omega)] at g1 g2
              rw [rA_of g1, rA_of g2]
              exact List.pairwise_iff_getElem.mp g.up _ _ _ _ (by omega)
            · have g2 := gt p'
              rw [if_neg (by omega)] at g2
              rw [rA_congr g2]
              by_cases c3 : p < sb + nb'
              · obtain ⟨r, d1, d2, er⟩ := inm p (by omega) (by omega)
                rw [er]
                exact highp p' r (by omega) b3 d1 d2
              · have g1 := gt p
                rw [if_neg (by omega)] at g1
                rw [rA_congr g1]
                exact u2 p p' (by omega) b2 b3
        · intro j hj
          show (m.toList.zipIdx.foldl (fun a x => a.setIfInBounds (sa + k + x.2) x.1) (arrOf st2))[j]? = (arrOf st)[j]?
          rw [ea, gt j, if_neg (by omega)]
      have f2 : ∀ st2, Sim st1 st2 → failedOf st2 = none := fun st2 sm => sm.failed.trans f1
      split
      · refine wpS_bind (wpS_mergeLo C k1 T (fun z t hz ht => exy z t (List.mem_of_getElem? hz) ht) last fun m st2 sm g => ?_)
        refine wpS_bind (wpS_modify (wpS_bind (wpS_get (wpS_pure ?_))))
        have e : (failedOf st2).isNone = true := by rw [f2 st2 sm]; rfl
        show Q ((failedOf st2).isNone) _
        rw [e]
        exact fin m st2 sm g
      · refine wpS_bind (wpS_mergeHi C k1 T (fun t ht z hz => exy z t hz ht) last fun m st2 sm g => ?_)
        refine wpS_bind (wpS_modify (wpS_bind (wpS_get (wpS_pure ?_))))
        have e : (failedOf st2).isNone = true := by rw [f2 st2 sm]; rfl
        show Q ((failedOf st2).isNone) _
        rw [e]
        exact fin m st2 sm g
end
end GS

set_option autoImplicit false
set_option linter.all false
set_option maxRecDepth 100000
/-! All runs: the whole sort. -/
namespace GS
open PySem PyProof.Rows
noncomputable def sortRuns1 : StateT SortSt Sem Unit := sortPriv% PySem.Builtin.sortRuns
/-- the pending runs lie side by side from lo to hi, each rising -/
noncomputable def Runs (rk : Keyed → Int) (xs : Array Keyed) : List (Nat × Nat × Nat) → Nat → Nat → Prop
  | [], lo, hi => lo = hi
  | (s, n, _) :: r, lo, hi => s = lo ∧ 1 ≤ n ∧ UpTo rk xs lo (lo + n) ∧ Runs rk xs r (lo + n) hi
section
variable {rk : Keyed → Int} {xs ys : Array Keyed}
theorem UpTo.congr {lo hi : Nat} (h : UpTo rk xs lo hi) (e : ∀ k, lo ≤ k → k < hi → ys[k]? = xs[k]?) : UpTo rk ys lo hi := fun i j a b c => by
  rw [rA_congr (e i a (by omega)), rA_congr (e j (by omega) c)]
  exact h i j a b c
theorem Runs.le : ∀ {ps : List (Nat × Nat × Nat)} {lo hi : Nat}, Runs rk xs ps lo hi → lo + ps.length ≤ hi
  | [], lo, hi, h => by have : lo = hi := h; simp; omega
  | (s, n, p) :: r, lo, hi, h => by
    obtain ⟨_, h1, _, h2⟩ := h
    have := Runs.le h2
    simp only [List.length_cons]
    omega
theorem Runs.congr : ∀ {ps : List (Nat × Nat × Nat)} {lo hi : Nat}, Runs rk xs ps lo hi → (∀ k, lo ≤ k → k < hi → ys[k]? = xs[k]?) → Runs rk ys ps lo hi
  | [], lo, hi, h, _ => h
  | (s, n, p) :: r, lo, hi, h, e => by
    obtain ⟨h0, h1, h2, h3⟩ := h
    have := Runs.le h3
    exact ⟨h0, h1, h2.congr fun k a b => e k a (by omega), Runs.congr h3 fun k a b => e k (by omega) b⟩
theorem Runs.snoc : ∀ {ps : List (Nat × Nat × Nat)} {lo mid n p : Nat}, Runs rk xs ps lo mid → 1 ≤ n → UpTo rk xs mid (mid + n) → Runs rk xs (ps ++ [(mid, n, p)]) lo (mid + n)
  | [], lo, mid, n, p, h, h1, h2 => by
    have e : lo = mid := h
    subst e
    exact ⟨rfl, h1, h2, rfl⟩
  | (s, m, q) :: r, lo, mid, n, p, h, h1, h2 => by
    obtain ⟨a, b, c, d⟩ := h
    exact ⟨a, b, c, Runs.snoc d h1 h2⟩
/-- the powers don't matter -/
theorem Runs.power : ∀ {ps qs : List (Nat × Nat × Nat)} {lo hi : Nat}, Runs rk xs ps lo hi → ps.map (fun x => (x.1, x.2.1)) = qs.map (fun x => (x.1, x.2.1)) → Runs rk xs qs lo hi
  | [], [], _, _, h, _ => h
  | [], _ :: _, _, _, _, e => by simp at e
  | _ :: _, [], _, _, _, e => by simp at e
  | (s, n, p) :: r, (s', n', p') :: r', lo, hi, h, e => by
    simp only [List.map_cons, List.cons.injEq, Prod.mk.injEq] at e
    obtain ⟨⟨e1, e2⟩, e3⟩ := e
    subst e1 e2
    obtain ⟨a, b, c, d⟩ := h
    exact ⟨a, b, c, Runs.power d e3⟩
/-- two neighbours of the runs -/
theorem Runs.two : ∀ {ps : List (Nat × Nat × Nat)} {lo hi i sa na pw sb nb pw' : Nat}, Runs rk xs ps lo hi → ps[i]? = some (sa, na, pw) → ps[i + 1]? = some (sb, nb, pw') →
    lo ≤ sa ∧ sb = sa + na ∧ 1 ≤ na ∧ 1 ≤ nb ∧ sb + nb ≤ hi ∧ UpTo rk xs sa sb ∧ UpTo rk xs sb (sb + nb)
  | [], _, _, _, _, _, _, _, _, _, _, e, _ => by simp at e
  | (s, n, p) :: r, lo, hi, 0, sa, na, pw, sb, nb, pw', h, e1, e2 => by
    simp only [List.getElem?_cons_zero, Option.some.injEq, Prod.mk.injEq] at e1
    obtain ⟨rfl, rfl, rfl⟩ := e1
    obtain ⟨rfl, h1, h2, h3⟩ := h
    cases r with
    | nil => simp at e2
    | cons x r' =>
      obtain ⟨s', n', p'⟩ := x
      simp only [Nat.zero_add, List.getElem?_cons_succ, List.getElem?_cons_zero, Option.some.injEq, Prod.mk.injEq] at e2
      obtain ⟨rfl, rfl, rfl⟩ := e2
      obtain ⟨rfl, g1, g2, g3⟩ := h3
      have := Runs.le g3
      exact ⟨Nat.le_refl _, rfl, h1, g1, by omega, h2, g2⟩
  | (s, n, p) :: r, lo, hi, i + 1, sa, na, pw, sb, nb, pw', h, e1, e2 => by
    obtain ⟨_, h1, h2, h3⟩ := h
    have z := Runs.two (i := i) h3 (by simpa using e1) (by simpa using e2)
    exact ⟨by omega, z.2⟩
/-- .. merged -/
theorem Runs.merge : ∀ {ps : List (Nat × Nat × Nat)} {lo hi i sa na pw sb nb pw' : Nat}, Runs rk xs ps lo hi → ps[i]? = some (sa, na, pw) → ps[i + 1]? = some (sb, nb, pw') →
    UpTo rk ys sa (sb + nb) → (∀ k, k < sa ∨ sb + nb ≤ k → ys[k]? = xs[k]?) → Runs rk ys ((ps.set i (sa, na + nb, pw)).eraseIdx (i + 1)) lo hi
  | [], _, _, _, _, _, _, _, _, _, _, e, _, _, _ => by simp at e
  | (s, n, p) :: r, lo, hi, 0, sa, na, pw, sb, nb, pw', h, e1, e2, u, o => by
    simp only [List.getElem?_cons_zero, Option.some.injEq, Prod.mk.injEq] at e1
    obtain ⟨rfl, rfl, rfl⟩ := e1
    obtain ⟨rfl, h1, h2, h3⟩ := h
    cases r with
    | nil => simp at e2
    | cons x r' =>
      obtain ⟨s', n', p'⟩ := x
      simp only [Nat.zero_add, List.getElem?_cons_succ, List.getElem?_cons_zero, Option.some.injEq, Prod.mk.injEq] at e2
      obtain ⟨rfl, rfl, rfl⟩ := e2
      obtain ⟨rfl, g1, g2, g3⟩ := h3
      rw [List.set_cons_zero, Nat.zero_add, List.eraseIdx_cons_succ, List.eraseIdx_cons_zero]
      refine ⟨rfl, by omega, by rw [← Nat.add_assoc]; exact u, ?_⟩
      rw [← Nat.add_assoc]
      exact g3.congr fun k a b => o k (by omega)
  | (s, n, p) :: r, lo, hi, i + 1, sa, na, pw, sb, nb, pw', h, e1, e2, u, o => by
    obtain ⟨h0, h1, h2, h3⟩ := h
    have e1' : r[i]? = some (sa, na, pw) := by simpa using e1
    have e2' : r[i + 1]? = some (sb, nb, pw') := by simpa using e2
    have z := Runs.two h3 e1' e2'
    rw [List.set_cons_succ, List.eraseIdx_cons_succ]
    exact ⟨h0, h1, h2.congr fun k a b => o k (by omega), Runs.merge h3 e1' e2' u o⟩
end
section
variable {prog : Program} {w : World} {A : Around} {E : Value → Shared → Prop} {s : Shared} {kind : SortKind} {a0 : List Keyed} {rk : Keyed → Int}
/-- a merge among the pending runs -/
theorem wpS_mergeRuns (C : Cmp prog w A s kind a0 rk) {st : SortSt} {i hi : Nat} {Q : Bool → SortSt → Prop} (h : Arr kind a0 st) (hr : Runs rk (arrOf st) (pendingOf st).toList 0 hi) (hh : hi ≤ a0.length) (hi2 : i + 1 < (pendingOf st).size)
    (q : ∀ st', Arr kind a0 st' → Runs rk (arrOf st') (pendingOf st').toList 0 hi → (pendingOf st').size + 1 = (pendingOf st).size → (∀ k, hi ≤ k → (arrOf st')[k]? = (arrOf st)[k]?) → Q true st') :
    wpS (model prog w) A E s (mergeAt1 i) Q st := by
  obtain ⟨⟨sa, na, pw⟩, e1⟩ : ∃ x, (pendingOf st)[i]? = some x := ⟨_, by rw [Array.getElem?_eq_getElem (by omega)]⟩
  obtain ⟨⟨sb, nb, pw'⟩, e2⟩ : ∃ x, (pendingOf st)[i + 1]? = some x := ⟨_, by rw [Array.getElem?_eq_getElem hi2]⟩
  have l1 : (pendingOf st).toList[i]? = some (sa, na, pw) := by rw [Array.getElem?_toList]; exact e1
  have l2 : (pendingOf st).toList[i + 1]? = some (sb, nb, pw') := by rw [Array.getElem?_toList]; exact e2
  obtain ⟨z0, z1, z2, z3, z4, z5, z6⟩ := hr.two l1 l2
  refine wpS_mergeAtA C h e1 e2 z1 z2 z3 (by omega) z5 z6 fun st' h' pe u o => ?_
  have pl : (pendingOf st').toList = ((pendingOf st).toList.set i (sa, na + nb, pw)).eraseIdx (i + 1) := by
    rw [pe]
    simp [Array.eraseIdxIfInBounds, hi2]
  refine q st' h' ?_ ?_ fun k hk => o k (by omega)
  · rw [pl]
    exact hr.merge l1 l2 u o
  · have := congrArg List.length pl
    rw [List.length_eraseIdx, List.length_set] at this
    simp only [Array.length_toList] at this
    rw [if_pos (by omega)] at this
    omega
end
end GS

set_option autoImplicit false
set_option linter.all false
set_option maxRecDepth 100000
namespace GS
open PySem PyProof.Rows
section
variable {prog : Program} {w : World} {A : Around} {E : Value → Shared → Prop} {s : Shared} {kind : SortKind} {a0 : List Keyed} {rk : Keyed → Int}
theorem ite_or {c : Prop} [Decidable c] {x y : Nat} : (if c then x else y) = y ∨ (if c then x else y) = x := by
  by_cases h : c
  · rw [if_pos h]; exact .inr rfl
  · rw [if_neg h]; exact .inl rfl
theorem wpS_sortRunsA (C : Cmp prog w A s kind a0 rk) {st : SortSt} {Q : Unit → SortSt → Prop} (h : Arr kind a0 st) (hp : pendingOf st = #[]) (q : ∀ st', Arr kind a0 st' → UpTo rk (arrOf st') 0 a0.length → Q () st') :
    wpS (model prog w) A E s sortRuns1 Q st := by
  have hsz := h.size
  refine wpS_bind (wpS_get ?_)
  dsimp only
  refine wpS_bind (wpS_mono (wpS_forRange
    (I := fun i c st' => ∃ lo, c = (none, lo) ∧ lo ≤ a0.length ∧ Arr kind a0 st' ∧ Runs rk (arrOf st') (pendingOf st').toList 0 lo ∧ (i ≤ lo ∨ lo = a0.length))
    (Q := fun c st' => ∃ lo, c = (none, lo) ∧ lo = a0.length ∧ Arr kind a0 st' ∧ Runs rk (arrOf st') (pendingOf st').toList 0 lo) ?step ?fin ⟨0, rfl, by omega, h, by rw [hp]; rfl, .inl (by omega)⟩) ?post)
  case fin =>
    rintro c st' ⟨lo, rfl, h1, h2, h3, h4⟩
    have h4 : max 0 (arrOf st).size ≤ lo ∨ lo = a0.length := h4
    exact ⟨lo, rfl, by omega, h2, h3⟩
  case step =>
    rintro i c st1 _ hi ⟨lo, rfl, h1, h2, h3, h4⟩
    dsimp only
    by_cases hge : lo ≥ (arrOf st).size
    · rw [if_pos hge]
      exact wpS_pure ⟨lo, rfl, by omega, h2, h3⟩
    · rw [if_neg hge]
      refine wpS_bind (wpS_countRunA C h2 (by show lo + ((arrOf st).size - lo) = _; omega) (by show 1 ≤ (arrOf st).size - lo; omega) fun m st2 A2 m1 m2 u2 o2 => ?_)
      have m2 : m ≤ (arrOf st).size - lo := m2
      dsimp only
      have R2 : Runs rk (arrOf st2) (pendingOf st2).toList 0 lo := by
        rw [o2.pend]
        exact h3.congr fun k a b => o2.out k (by omega)
      -- behind the run: the same for both ways
      split
      case' isTrue hmin =>
        refine wpS_bind (wpS_lift (wpAny_rule ⟨rfl, ?_⟩))
        refine wpS_bind (wpS_binarySortA C A2 (n := min ((arrOf st).size - lo) _) (by omega) (by omega) u2 fun st3 A3 u3 o3 => ?_)
        simp only [Bool.not_true, Bool.false_eq_true, if_false]
        have R3 : Runs rk (arrOf st3) (pendingOf st3).toList 0 lo := by
          rw [o3.pend]
          exact R2.congr fun k a b => o3.out k (by omega)
        have hn : ∃ n, n = min ((arrOf st).size - lo) (PyProof.Rows.minRun' (arrOf st).size (arrOf st).size 0) ∧ 1 ≤ n ∧ lo + n ≤ a0.length ∧ UpTo rk (arrOf st3) lo (lo + n) :=
          ⟨_, rfl, by have : m < PyProof.Rows.minRun' (arrOf st).size (arrOf st).size 0 := hmin; omega, by omega, u3⟩
        obtain ⟨n, en, n1, n2, un⟩ := hn
      case' isFalse hmin =>
        obtain ⟨st3, est, A3, R3⟩ : ∃ st3, st3 = st2 ∧ Arr kind a0 st3 ∧ Runs rk (arrOf st3) (pendingOf st3).toList 0 lo := ⟨_, rfl, A2, R2⟩
        have u2' : UpTo rk (arrOf st3) lo (lo + m) := by rw [est]; exact u2
        obtain ⟨n, en, n1, n2, un⟩ : ∃ n, n = m ∧ 1 ≤ n ∧ lo + n ≤ a0.length ∧ UpTo rk (arrOf st3) lo (lo + n) := ⟨_, rfl, m1, by omega, u2'⟩
        rw [← est]
      all_goals
        subst en
        have hlo : i ≤ lo := by omega
        refine wpS_bind (wpS_get ?_)
        rcases hb : (pendingOf st3).back? with _ | ⟨s1, k1, p1⟩
        · dsimp only
          refine wpS_bind (wpS_modify (wpS_pure ⟨_, rfl, n2, ⟨A3.kind, A3.failed, A3.perm⟩, ?_, .inl (Nat.add_le_add hlo n1)⟩))
          have z := R3.snoc (p := 0) n1 un
          rw [← Array.toList_push] at z
          exact z
        · dsimp only
          refine wpS_bind (wpS_mono (wpS_forRange
            (I := fun j c st' => c = (none, ()) ∧ Arr kind a0 st' ∧ Runs rk (arrOf st') (pendingOf st').toList 0 lo ∧ ∀ k, lo ≤ k → (arrOf st')[k]? = (arrOf st3)[k]?)
            (Q := fun c st' => c = (none, ()) ∧ Arr kind a0 st' ∧ Runs rk (arrOf st') (pendingOf st').toList 0 lo ∧ ∀ k, lo ≤ k → (arrOf st')[k]? = (arrOf st3)[k]?) ?sA (fun _ _ z => z) ⟨rfl, A3, R3, fun _ _ => rfl⟩) ?pA)
          case pA =>
            rintro c st4 ⟨rfl, B1, B2, B3⟩
            dsimp only
            refine wpS_bind (wpS_modify (wpS_bind (wpS_modify (wpS_pure ⟨_, rfl, n2, ⟨B1.kind, B1.failed, B1.perm⟩, ?_, .inl (Nat.add_le_add hlo n1)⟩))))
            have un4 := UpTo.congr (ys := arrOf st4) un fun k a _ => B3 k a
            have key : ∀ pw, Runs rk (arrOf st4) ((pendingOf st4).modify ((pendingOf st4).size - 1) fun x => (x.1, x.2.1, pw)).toList 0 lo := fun pw => by
              refine B2.power ?_
              rw [Array.toList_modify]
              refine List.ext_getElem? fun t => ?_
              rw [List.getElem?_map, List.getElem?_map, List.getElem?_modify]
              cases (pendingOf st4).toList[t]? with
              | none => rfl
              | some v =>
                simp only [Option.map_some]
                split <;> rfl
            have key2 := fun pw => (key pw).snoc (p := 0) n1 un4
            simp only [← Array.toList_push] at key2
            exact key2 _
          case sA =>
            rintro j c st4 _ hj ⟨rfl, B1, B2, B3⟩
            refine wpS_bind (wpS_get ?_)
            by_cases c1 : (pendingOf st4).size > 1
            · rw [if_pos c1]
              obtain ⟨⟨x1, x2, x3⟩, ex⟩ : ∃ x, (pendingOf st4)[(pendingOf st4).size - 2]? = some x := ⟨_, Array.getElem?_eq_getElem (by omega)⟩
              rw [ex]
              dsimp only
              split
              · exact wpS_pure ⟨rfl, B1, B2, B3⟩
              · refine wpS_bind (wpS_mergeRuns C B1 B2 h1 (by show (pendingOf st4).size - 2 + 1 < _; omega) fun st5 D1 D2 D3 D4 => ?_)
                simp only [Bool.not_true, Bool.false_eq_true, if_false]
                exact wpS_pure ⟨rfl, D1, D2, fun k hk => (D4 k hk).trans (B3 k hk)⟩
            · rw [if_neg c1]
              exact wpS_pure ⟨rfl, B1, B2, B3⟩
  case post =>
    rintro c st1 ⟨lo, rfl, rfl, A1, R1⟩
    dsimp only
    refine wpS_bind (wpS_mono (wpS_forRange
      (I := fun i c st' => c = (none, ()) ∧ Arr kind a0 st' ∧ Runs rk (arrOf st') (pendingOf st').toList 0 a0.length ∧ ((pendingOf st').size ≤ 1 ∨ (pendingOf st').size + i ≤ a0.length))
      (Q := fun c st' => c = (none, ()) ∧ Arr kind a0 st' ∧ Runs rk (arrOf st') (pendingOf st').toList 0 a0.length ∧ (pendingOf st').size ≤ 1) ?s4 ?f4 ⟨rfl, A1, R1, .inr (by have := R1.le; simpa using this)⟩) ?p4)
    case f4 =>
      rintro c st' ⟨hc, B1, B2, B3⟩
      have B3 : (pendingOf st').size ≤ 1 ∨ (pendingOf st').size + max 0 (arrOf st).size ≤ a0.length := B3
      exact ⟨hc, B1, B2, by omega⟩
    case p4 =>
      rintro c st' ⟨rfl, B1, B2, B3⟩
      refine wpS_pure (q st' B1 ?_)
      cases e : (pendingOf st').toList with
      | nil =>
        rw [e] at B2
        have : 0 = a0.length := B2
        intro a b c d f
        omega
      | cons x r =>
        have : r = [] := by
          have := congrArg List.length e
          simp only [Array.length_toList, List.length_cons] at this
          exact List.eq_nil_of_length_eq_zero (by omega)
        subst this
        obtain ⟨sx, nx, px⟩ := x
        rw [e] at B2
        obtain ⟨_, _, u, z⟩ := B2
        have z : 0 + nx = a0.length := z
        rw [z] at u
        exact u
    case s4 =>
      rintro i c st' _ hi ⟨rfl, B1, B2, B3⟩
      refine wpS_bind (wpS_get ?_)
      by_cases c1 : (pendingOf st').size ≤ 1
      · rw [if_pos c1]
        exact wpS_pure ⟨rfl, B1, B2, c1⟩
      · rw [if_neg c1]
        have hp1 : ∀ (z : Nat), z = (pendingOf st').size - 2 ∨ z = (pendingOf st').size - 2 - 1 → z + 1 < (pendingOf st').size := fun z hz => by omega
        refine wpS_bind (wpS_mergeRuns C B1 B2 (Nat.le_refl _) (hp1 _ ?idx) fun st2 D1 D2 D3 D4 => ?rest)
        case idx => exact ite_or
        case rest =>
          simp only [Bool.not_true, Bool.false_eq_true, if_false]
          exact wpS_pure ⟨rfl, D1, D2, by omega⟩
end
end GS

set_option autoImplicit false
set_option linter.all false
set_option maxRecDepth 100000
/-! sorted(xs) of a list of tuples that begin with two ints, no two alike. -/
namespace GS
open PySem PyProof.Rows PySem.W
section
variable {prog : Program} {w : World} {A : Around} {E : Value → Shared → Prop} {s : Shared}
theorem up_all {rk : Keyed → Int} {xs : Array Keyed} (h : UpTo rk xs 0 xs.size) : xs.toList.Pairwise fun x y => rk x < rk y := by
  refine List.pairwise_iff_getElem.mpr fun i j hi hj hij => ?_
  have hi' : i < xs.size := by simpa using hi
  have hj' : j < xs.size := by simpa using hj
  have z := h i j (Nat.zero_le _) hij hj'
  rw [rA_of (Array.getElem?_eq_getElem hi'), rA_of (Array.getElem?_eq_getElem hj')] at z
  simpa using z
theorem perm_snd {xs vs : List Value} {ps : List Keyed} (h : ps.Perm (vs.zip vs)) : (ps.map (·.2)).Perm vs := by
  have := h.map (·.2)
  rwa [List.map_snd_zip (by simp)] at this
theorem mem_zip_same {vs : List Value} {p : Keyed} (h : p ∈ vs.zip vs) : p.1 = p.2 ∧ p.1 ∈ vs := mem_zip_self h

/-- the heap while it sorts: all that stood there but the list itself -/
noncomputable def Rest (a : Addr) (h h' : Heap) : Prop := ∀ b o, b ≠ a → h.get? b = some o → h'.get? b = some o

theorem sort_tree {a : Addr} {vs : List Value} {n : Nat} {kind : SortKind} {rk : Value → Int} {P : Fin → Shared → Prop} (ho : s.heap.get? a = some (seqObj "list" vs.toArray n)) (hlen : vs.length ≤ sizeLine)
    (hkk : 2 ≤ vs.length → ∀ (s' : Shared) (Q : SortKind → Shared → Prop), Rest a s.heap s'.heap → Q kind s' → wpAny (model prog w) A (keyKind' vs.toArray) Q E s')
    (hlt : ∀ (s' : Shared), Rest a s.heap s'.heap → ∀ x y, x ∈ vs → y ∈ vs → ∀ (E : Value → Shared → Prop) (Q : Bool → Shared → Prop), Q (decide (rk x < rk y)) s' → wpAny (model prog w) A (keyLt' kind x y) Q E s')
    (inj : (vs.map rk).Nodup)
    (h : ∀ out : List Value, out.Perm vs → out.Pairwise (fun x y => rk x < rk y) → P (.done (.ret .none)) { s with heap := sortedHeap s.heap a vs out.toArray }) :
    wpAny (model prog w) A (Builtin.«list.sort» ⟨[.ref a], []⟩) P E s := by
  rw [list_sort_plain]
  have ha : a < s.heap.objs.size := Heap.lt_size ho
  refine wpAny_bind (listItems_at ho rfl (wpAny_bind (listUpdate_at ho rfl ?_)))
  obtain ⟨e1, ho1⟩ : ∃ e1, (s.heap.update a (Obj.mapSeq fun _ => #[])).get? a = some (seqObj "list" #[] e1) := ⟨_, get?_update_seq ho (fun _ => #[])⟩
  refine wpAny_bind (seqEpoch_at ho1 rfl (wpAny_bind (wpAny_newTuple (wpAny_bind (wpAny_newList (wpAny_holding ?_))))))
  -- the state while it sorts
  generalize hs6 : ({ s with heap := ((s.heap.update a (Obj.mapSeq fun _ => #[])).push (seqObj "tuple" vs.toArray 0)).push (seqObj "list" #[] 0) } : Shared) = s6
  have ho6 : s6.heap.get? a = some (seqObj "list" #[] e1) := by
    rw [← hs6]
    show (((s.heap.update a (Obj.mapSeq fun _ => #[])).push (seqObj "tuple" vs.toArray 0)).push (seqObj "list" #[] 0)).get? a = _
    exact Heap.get?_push_of_some _ (Heap.get?_push_of_some _ ho1)
  have rest : Rest a s.heap s6.heap := fun b o hb e => by
    rw [← hs6]
    exact Heap.get?_push_of_some _ (Heap.get?_push_of_some _ ((Heap.get?_update_other s.heap _ (Ne.symm hb)).trans e))
  have fin : ∀ out : List Value, out.Perm vs → out.Pairwise (fun x y => rk x < rk y) → P (.done (.ret .none)) { s6 with heap := s6.heap.update a (Obj.mapSeq fun _ => out.toArray) } := fun out p o => by
    have q := h out p o
    rw [← hs6]
    exact q
  dsimp only
  have hsz : vs.toArray.size = vs.length := by simp
  have ez : vs.toArray.zip vs.toArray = (vs.zip vs).toArray := by simp
  by_cases h2 : vs.toArray.size < 2
  · rw [if_pos h2, if_pos h2]
    refine wpAny_bind (wpAny_pure ?_)
    rw [StateT.run_pure]
    refine wpAny_bind (wpAny_pure ?_)
    dsimp only
    have em : (arrOf (SortSt.mk' general' (vs.toArray.zip vs.toArray) #[] 7 none)).map (·.2) = vs.toArray := by
      show (vs.toArray.zip vs.toArray).map (·.2) = _
      rw [ez, List.map_toArray, List.map_snd_zip (by simp)]
    rw [em]
    refine wpAny_bind (seqEpoch_at ho6 rfl (wpAny_bind (listUpdate_at ho6 rfl ?_ (hsz2 := by simp; omega))))
    simp only [bne_self_eq_false, Bool.false_eq_true, if_false]
    refine wpAny_pure (fin vs (List.Perm.refl _) ?_)
    match vs, hsz, h2 with
    | [], _, _ => exact List.Pairwise.nil
    | [x], _, _ => exact List.pairwise_singleton _ _
    | _ :: _ :: _, _, h2 => simp at h2; omega
  · rw [if_neg h2, if_neg h2]
    have C : Cmp prog w A s6 kind (vs.zip vs) (fun p => rk p.1) := ⟨fun x y hx hy E' Q q => hlt s6 rest x.1 y.1 (mem_zip_same hx).2 (mem_zip_same hy).2 E' Q q, by
      have e : (vs.zip vs).map (fun p => rk p.1) = vs.map rk := by
        have : (vs.zip vs).map (fun p => rk p.1) = ((vs.zip vs).map (·.1)).map rk := by rw [List.map_map]; rfl
        rw [this, List.map_fst_zip (by simp)]
      rw [e]
      exact inj⟩
    refine wpAny_bind (hkk (by omega) s6 _ rest ?_)
    have ar : Arr kind (vs.zip vs) (SortSt.mk' kind (vs.toArray.zip vs.toArray) #[] 7 none) := ⟨rfl, rfl, by
      show (vs.toArray.zip vs.toArray).toList.Perm _
      rw [ez]⟩
    refine wpAny_bind (wpAny_mono (wpS_sortRunsA (E := E) C ar rfl (Q := fun _ st' => Arr kind (vs.zip vs) st' ∧ UpTo (fun p => rk p.1) (arrOf st') 0 (vs.zip vs).length) fun st' B u => ⟨B, u⟩) ?_ fun _ _ e => e)
    rintro ⟨⟨⟩, st'⟩ s' ⟨rfl, B, u⟩
    dsimp only
    have bs := B.size
    have pm : ((arrOf st').toList.map (·.2)).Perm vs := perm_snd (xs := vs) B.perm
    have em : (arrOf st').map (·.2) = ((arrOf st').toList.map (·.2)).toArray := by
      apply Array.toList_inj.mp
      rw [Array.toList_map]
    have up : ((arrOf st').toList.map (·.2)).Pairwise fun x y => rk x < rk y := by
      rw [← bs] at u
      refine List.Pairwise.map _ (fun x y z => z) ((up_all u).imp_of_mem fun {x y} hx hy z => ?_)
      have e1 := (mem_zip_same (B.perm.mem_iff.mp hx)).1
      have e2 := (mem_zip_same (B.perm.mem_iff.mp hy)).1
      rw [← e1, ← e2]
      exact z
    rw [em]
    refine wpAny_bind (seqEpoch_at ho6 rfl (wpAny_bind (listUpdate_at ho6 rfl ?_ (hsz2 := by
      have := pm.length_eq
      rw [List.size_toArray, this]; omega))))
    rw [B.failed]
    simp only [bne_self_eq_false, Bool.false_eq_true, if_false]
    exact wpAny_pure (fin _ pm up)

/-- sorted(l) -/
theorem sorted_any {l : Addr} {vs : List Value} {kind : SortKind} {rk : Value → Int} {Q : Value → Shared → Prop} (hl : s.heap.IsList l vs.toArray) (hlen : vs.length ≤ sizeLine)
    (hkk : 2 ≤ vs.length → ∀ (A : Around) (s' : Shared) (Q : SortKind → Shared → Prop), (∀ b o, s.heap.get? b = some o → s'.heap.get? b = some o) → Q kind s' → wpAny (model prog w) A (keyKind' vs.toArray) Q (fun _ _ => False) s')
    (hlt : ∀ (A : Around) (s' : Shared), (∀ b o, s.heap.get? b = some o → s'.heap.get? b = some o) → ∀ x y, x ∈ vs → y ∈ vs → ∀ (E : Value → Shared → Prop) (Q : Bool → Shared → Prop), Q (decide (rk x < rk y)) s' → wpAny (model prog w) A (keyLt' kind x y) Q E s')
    (inj : (vs.map rk).Nodup)
    (h : ∀ out : List Value, out.Perm vs → out.Pairwise (fun x y => rk x < rk y) → Q (.ref (s.heap.objs.size + 1)) { s with heap := sortedAll s.heap vs out.toArray }) :
    wpAny (model prog w) A (call (.builtin "sorted") [.ref l]) Q E s := by
  refine Calls.call_function_entry kind_sorted plain_sorted entry_sorted (args_sorted1 _) ?_
  unfold Builtin.«sorted»
  refine wpAny_bind (m := checkCount "sorted" 1 1 _) (wpAny_pure (wpAny_bind (collect_list hl (wpAny_bind (wpAny_newList ?_)) hlen)))
  have hsz : ((s.heap.push (seqObj "list" #[] 0)).update s.heap.objs.size (Obj.mapSeq (· ++ vs.toArray))).objs.size = s.heap.objs.size + 1 := by
    rw [Heap.size_update, size_push']
  generalize hh8 : (((s.heap.push (seqObj "list" #[] 0)).update s.heap.objs.size (Obj.mapSeq (· ++ vs.toArray))).push (seqObj "list" vs.toArray 0)) = h8
  have hoL : h8.get? (s.heap.objs.size + 1) = some (seqObj "list" vs.toArray 0) := by
    rw [← hh8, ← hsz]; exact Heap.get?_push_size _ rfl
  have old : ∀ b o, s.heap.get? b = some o → h8.get? b = some o := fun b o e => by
    rw [← hh8]
    refine Heap.get?_push_of_some _ ((Heap.get?_update_other _ _ ?_).trans (Heap.get?_push_of_some _ e))
    exact (Nat.ne_of_lt (Heap.lt_size e)).symm
  dsimp only
  rw [hsz]
  have lift : ∀ s' : Shared, Rest (s.heap.objs.size + 1) h8 s'.heap → ∀ b o, s.heap.get? b = some o → s'.heap.get? b = some o := fun s' r b o e =>
    r b o (Nat.ne_of_lt (Nat.lt_succ_of_lt (Heap.lt_size e))) (old b o e)
  refine wpAny_bind (wpAny_holding (wpAny_call_entry slot_list_sort ⟨_, hoL, rfl⟩ entry_list_sort (sort_tree (s := { s with heap := h8 }) (kind := kind) (rk := rk) hoL hlen
    (fun h2 s' Q' r q => wpAny_mono (hkk h2 _ s' Q' (lift s' r) q) (fun _ _ z => z) fun _ _ z => z.elim) (fun s' r => hlt _ s' (lift s' r)) inj fun out p o => ⟨_, rfl, ?_⟩) (args_list_sort _)))
  have q := h out p o
  unfold sortedAll at q
  rw [hh8] at q
  exact wpAny_pure ⟨_, rfl, q⟩

/-! ### tuples that begin with two ints -/
/-- at x stands a tuple (t, l, ..) -/
noncomputable def TwoAt (h : Heap) (x : Value) (t l : Int) : Prop := ∃ a o xs n t1 t2 rest, x = .ref a ∧ h.get? a = some o ∧ o.cls = .type "tuple" ∧ o.data = .seq xs n ∧ xs.toList = .int t t1 :: .int l t2 :: rest
theorem TwoAt.keep {h h' : Heap} {x : Value} {t l : Int} (q : TwoAt h x t l) (k : ∀ b o, h.get? b = some o → h'.get? b = some o) : TwoAt h' x t l := by
  obtain ⟨a, o, xs, n, t1, t2, rest, e, g, r⟩ := q
  exact ⟨a, o, xs, n, t1, t2, rest, e, k _ _ g, r⟩
theorem kat_same {b fin : Bool} {Q : Bool → Shared → Prop} (h : Q fin s) : ∀ (l : List Value) (i : Nat), KatLex prog w A b fin Q (l.zip l) i s
  | [], i => by simpa using kat_nil h
  | x :: l, i => by
    rw [List.zip_cons_cons]
    exact kat_cons (SeqAt.EqAt.same x prog w _ _ (kat_yes (kat_same h l (i + 1))))
theorem lt_two {x y : Value} {t l t' l' : Int} {Q : Bool → Shared → Prop} (hx : TwoAt s.heap x t l) (hy : TwoAt s.heap y t' l') (same : t = t' → l = l' → x = y)
    (h : Q (decide (t < t' ∨ (t = t' ∧ l < l'))) s) : wpAny (model prog w) A (keyLt' (tuples' true) x y) Q E s := by
  by_cases hxy : x = y
  · subst hxy
    obtain ⟨a, o, xs, n, t1, t2, rest, rfl, g, c, d, e⟩ := hx
    obtain ⟨a', o', xs', n', t1', t2', rest', ea, g', c', d', e'⟩ := hy
    cases ea
    rw [g] at g'; cases g'
    rw [d] at d'; cases d'
    rw [e] at e'
    simp only [List.cons.injEq, Value.int.injEq] at e'
    obtain ⟨⟨rfl, _⟩, ⟨rfl, _⟩, _⟩ := e'
    refine kat_lt g d g d ?_
    have hf : decide (xs.size < xs.size) = decide (t < t ∨ (t = t ∧ l < l)) := by simp
    rw [hf]
    exact kat_same h xs.toList 0
  · obtain ⟨a, o, xs, n, t1, t2, rest, rfl, g, c, d, e⟩ := hx
    obtain ⟨a', o', xs', n', t1', t2', rest', rfl, g', c', d', e'⟩ := hy
    refine kat_lt g d g' d' ?_
    rw [e, e', List.zip_cons_cons, List.zip_cons_cons]
    refine kat_cons (SeqAt.EqAt.int_int t t1 t' t1' prog w _ _ ?_)
    by_cases ht : t = t'
    · have ht' : (t == t') = true := by simpa using ht
      rw [ht']
      refine kat_yes (kat_cons (SeqAt.EqAt.int_int l t2 l' t2' prog w _ _ ?_))
      have hl : l ≠ l' := fun z => hxy (same ht z)
      have hl' : (l == l') = false := by simpa using hl
      rw [hl']
      refine kat_no ?_
      show wpAny (model prog w) A (oneLt' false _ _) _ _ s
      refine kat_one _ _ (lt_int ?_)
      show Q (decide (l < l')) s
      have : decide (l < l') = decide (t < t' ∨ (t = t' ∧ l < l')) := by
        by_cases z : l < l'
        · rw [decide_eq_true z, decide_eq_true (.inr ⟨ht, z⟩)]
        · rw [decide_eq_false z, decide_eq_false (by rintro (q | q); · omega
                                                     · exact z q.2)]
      rw [this]
      exact h
    · have ht' : (t == t') = false := by simpa using ht
      rw [ht']
      refine kat_no ?_
      show wpAny (model prog w) A (oneLt' true _ _) _ _ s
      refine oneLt_int ?_
      have : decide (t < t') = decide (t < t' ∨ (t = t' ∧ l < l')) := by
        by_cases z : t < t'
        · rw [decide_eq_true z, decide_eq_true (.inl z)]
        · rw [decide_eq_false z, decide_eq_false (by rintro (q | q); · exact z q
                                                     · exact ht q.1)]
      rw [this]
      exact h
theorem kind_two {vs : List Value} {Q : SortKind → Shared → Prop} (h : ∀ v ∈ vs, ∃ t l, TwoAt s.heap v t l) (hne : 0 < vs.length) (q : Q (tuples' true) s) : wpAny (model prog w) A (keyKind' vs.toArray) Q E s := by
  have mk : ∀ vs : List Value, (∀ v ∈ vs, ∃ t l, TwoAt s.heap v t l) → ∃ fs : List Value, KatTups s.heap vs fs ∧ fs.length = vs.length ∧ ∀ f ∈ fs, ∃ t t1, f = .int t t1 := by
    intro vs
    induction vs with
    | nil => exact fun _ => ⟨[], KatTups.nil, rfl, fun f hf => by simp at hf⟩
    | cons v vs ih =>
      intro h
      obtain ⟨fs, k1, k2, k3⟩ := ih fun x hx => h x (List.mem_cons_of_mem _ hx)
      obtain ⟨t, l, a, o, xs, n, t1, t2, rest, rfl, g, c, d, e⟩ := h v List.mem_cons_self
      refine ⟨.int t t1 :: fs, KatTups.cons g c d (by rw [← Array.getElem?_toList, e]; rfl) k1, by simp [k2], fun f hf => ?_⟩
      rcases List.mem_cons.mp hf with rfl | hf
      · exact ⟨_, _, rfl⟩
      · exact k3 f hf
  obtain ⟨fs, k1, k2, k3⟩ := mk vs h
  refine kat_kind (T := .type "int") k1 (by omega) (fun v hv => ?_) (by simp) q
  obtain ⟨t, t1, rfl⟩ := k3 v hv
  exact Looks.of_pure rfl
end
end GS

set_option Elab.async false
set_option linter.all false
set_option maxRecDepth 100000
/-! More rules over the hand layer: sorted of tuples, join of texts, enumerate. -/
namespace L2
open PySem PySem.Spec PyProof.Rows

/-! ### sorted(xs): tuples that begin with two ints, no two alike -/
noncomputable def lex2 (p q : Int × Int) : Prop := p.1 < q.1 ∨ (p.1 = q.1 ∧ p.2 < q.2)
noncomputable def rSorted (K : PySem.W.Frag) : List V → Hp → VK → Prop := fun xs H Q => ∃ (p : Addr) (vs : List V) (f : V → Int × Int), xs = [.ref p] ∧ SqL K H p vs ∧
  (∀ v ∈ vs, ∃ a rest, v = .ref a ∧ SqT K H a (.int (f v).1 :: .int (f v).2 :: rest)) ∧ (vs.map f).Nodup ∧ (∀ v ∈ vs, 0 ≤ (f v).2 ∧ (f v).2 < 1000) ∧
  ∀ q vs', H q = none → vs'.Perm vs → vs'.Pairwise (fun u v => lex2 (f u) (f v)) → Q (.ref q) (upd H q (.lst vs'))
noncomputable def refV : Value → V
  | .ref a => .ref a
  | _ => .non
theorem refs_of : ∀ {vs : List V} {us : List Value}, Vals vs us → (∀ v ∈ vs, ∃ a, v = V.ref a) → us.map refV = vs ∧ ∀ u ∈ us, ∃ a, u = Value.ref a
  | _, _, .nil, _ => ⟨rfl, fun u hu => by simp at hu⟩
  | v :: vs, u :: us, .cons r t, h => by
    obtain ⟨a, rfl⟩ := h v List.mem_cons_self
    cases r
    obtain ⟨h1, h2⟩ := refs_of t fun x hx => h x (List.mem_cons_of_mem _ hx)
    refine ⟨by rw [List.map_cons, h1]; rfl, fun x hx => ?_⟩
    rcases List.mem_cons.mp hx with rfl | hx
    · exact ⟨a, rfl⟩
    · exact h2 x hx
theorem vals_refs : ∀ {us : List Value}, (∀ u ∈ us, ∃ a, u = Value.ref a) → Vals (us.map refV) us
  | [], _ => .nil
  | u :: us, h => by
    obtain ⟨a, rfl⟩ := h u List.mem_cons_self
    exact .cons rfl (vals_refs fun x hx => h x (List.mem_cons_of_mem _ hx))
theorem call_sortedT {X : Cx} {K : PySem.W.Frag} (hK : X.K = K) : CallR X (.builtin "sorted") (rSorted K) := by
  subst hK
  intro pins s σ H xs us Q I r h
  obtain ⟨p, vs, f, rfl, hp, hv, nd, bd, q⟩ := h
  obtain ⟨u, rfl, ru⟩ := vals1 r
  cases ru
  obtain ⟨its, rv, pl, hz⟩ := I.list hp
  obtain ⟨em, isr⟩ := refs_of rv fun v hv' => by obtain ⟨a, _, e, _⟩ := hv v hv'; exact ⟨a, e⟩
  have hlen := rv.length
  -- each item: a tuple with its two ints
  have two : ∀ x ∈ its, GS.TwoAt s.heap x (f (refV x)).1 (f (refV x)).2 ∧ refV x ∈ vs := fun x hx => by
    have mem : refV x ∈ vs := by rw [← em]; exact List.mem_map.mpr ⟨x, hx, rfl⟩
    obtain ⟨a, rest, e, ht⟩ := hv _ mem
    obtain ⟨b, rfl⟩ := isr x hx
    have e : b = a := by have : V.ref b = V.ref a := e; injection this
    subst e
    obtain ⟨tt, r2, ⟨o, ho, hc, n, hd⟩, _⟩ := I.tuple ht
    cases r2 with
    | cons r2 t2 =>
      cases t2 with
      | cons r3 t3 =>
        obtain ⟨t1, rfl⟩ := r2
        obtain ⟨t2, rfl⟩ := r3
        exact ⟨⟨b, o, _, n, t1, t2, _, rfl, ho, hc, hd, rfl⟩, mem⟩
  let rk : Value → Int := fun x => (f (refV x)).1 * 1000 + (f (refV x)).2
  have nd2 : vs.Nodup := by
    exact List.Pairwise.of_map (S := (· ≠ ·)) (R := (· ≠ ·)) f (fun a b h e => h (congrArg f e)) nd
  have finj : ∀ u ∈ vs, ∀ v ∈ vs, f u = f v → u = v := fun u hu v hv' e => by
    obtain ⟨i, hi, ei⟩ := List.mem_iff_getElem.mp hu
    obtain ⟨j, hj, ej⟩ := List.mem_iff_getElem.mp hv'
    have : i = j := (List.getElem_inj (h₀ := by simpa using hi) (h₁ := by simpa using hj) nd).mp (by simp [ei, ej, e])
    subst this
    rw [← ei, ← ej]
  have refinj : ∀ x ∈ its, ∀ y ∈ its, refV x = refV y → x = y := fun x hx y hy e => by
    obtain ⟨a, rfl⟩ := isr x hx
    obtain ⟨b, rfl⟩ := isr y hy
    have : V.ref a = V.ref b := e
    injection this with this
    rw [this]
  have dec : ∀ x ∈ its, ∀ y ∈ its, decide (rk x < rk y) = decide ((f (refV x)).1 < (f (refV y)).1 ∨ ((f (refV x)).1 = (f (refV y)).1 ∧ (f (refV x)).2 < (f (refV y)).2)) := fun x hx y hy => by
    have b1 := bd _ (two x hx).2
    have b2 := bd _ (two y hy).2
    have : (rk x < rk y) ↔ ((f (refV x)).1 < (f (refV y)).1 ∨ ((f (refV x)).1 = (f (refV y)).1 ∧ (f (refV x)).2 < (f (refV y)).2)) := by
      show (f (refV x)).1 * 1000 + (f (refV x)).2 < (f (refV y)).1 * 1000 + (f (refV y)).2 ↔ _
      omega
    exact decide_eq_decide.mpr this
  have ndr : (its.map rk).Nodup := by
    have e : (its.map rk) = vs.map fun v => (f v).1 * 1000 + (f v).2 := by rw [← em, List.map_map]; rfl
    rw [e]
    refine List.Pairwise.map _ (R := fun u v => u ∈ vs ∧ v ∈ vs ∧ u ≠ v) (fun u v z e => ?_) (nd2.imp_of_mem fun {u v} hu hv' z => ⟨hu, hv', z⟩)
    have b1 := bd u z.1
    have b2 := bd v z.2.1
    have e1 : (f u).1 = (f v).1 := by omega
    have e2 : (f u).2 = (f v).2 := by omega
    exact z.2.2 (finj u z.1 v z.2.1 (Prod.ext e1 e2))
  refine GS.sorted_any (kind := tuples' true) (rk := rk) pl.isList (by omega) (fun h2 A s' Q' k q' => ?_) (fun A s' k x y hx hy E' Q' q' => ?_) ndr fun out hp' ho => ?_
  · exact GS.kind_two (fun v hv' => ⟨_, _, (two v hv').1.keep k⟩) (by omega) q'
  · rw [dec x hx y hy] at q'
    exact GS.lt_two ((two x hx).1.keep k) ((two y hy).1.keep k) (fun e1 e2 => refinj x hx y hy (finj _ (two x hx).2 _ (two y hy).2 (Prod.ext e1 e2))) q'
  · have iso : ∀ u ∈ out, ∃ a, u = Value.ref a := fun u hu => isr u (hp'.mem_iff.mp hu)
    obtain ⟨e, he⟩ := sortedAll_at s.heap its out.toArray
    have pv : (out.map refV).Perm vs := by rw [← em]; exact hp'.map refV
    refine ⟨.ref (s.heap.objs.size + 1), _, I.laid (a := s.heap.objs.size + 1) (o := .lst (out.map refV)) (t' := s.toks) (fun b u e => sortedAll_old e) (Nat.le_succ _) ⟨?_, out, e, vals_refs iso, he⟩, rfl,
      q _ _ (I.hok.fresh (Nat.le_succ _)) pv ?_⟩
    · have := pv.length_eq
      rw [this]; exact hz
    · refine List.Pairwise.map _ (R := fun x y => x ∈ out ∧ y ∈ out ∧ rk x < rk y) (fun x y z => ?_) (ho.imp_of_mem fun {x y} hx hy z => ⟨hx, hy, z⟩)
      have d := dec x (hp'.mem_iff.mp z.1) y (hp'.mem_iff.mp z.2.1)
      rw [decide_eq_true z.2.2] at d
      have z' := of_decide_eq_true d.symm
      exact z'

/-! ### sep.join(xs): a list of texts -/
noncomputable def strJ (sep : Str) (ys : List Str) : Str := PySem.Txt.join sep ys
noncomputable def rJoin (K : PySem.W.Frag) : V → List V → Hp → VK → Prop := fun x vs H Q => ∃ (sep : Str) (p : Addr) (ys : List Str), x = .str sep ∧ vs = [.ref p] ∧ SqL K H p (ys.map V.str) ∧ (ys.map (·.length)).sum + ys.length * sep.length ≤ 16777216 ∧ Q (.str (strJ sep ys)) H
theorem strsAre_of : ∀ {ys : List Str} {us : List Value}, Vals (ys.map V.str) us → StrsAre us ys
  | [], _, .nil => .nil
  | y :: ys, u :: us, .cons r t => by
    obtain ⟨t', rfl⟩ := r
    exact .cons y t' (strsAre_of t)
theorem mt_join {X : Cx} {K : PySem.W.Frag} (hK : X.K = K) : MtM X "str.join" (rJoin K) := by
  subst hK
  intro pins s σ H x vs v us Q I rx rv h
  obtain ⟨sep, p, ys, rfl, rfl, hp, hok, q⟩ := h
  obtain ⟨t, rfl⟩ := rx
  obtain ⟨u, rfl, ru⟩ := rv.one
  cases ru
  obtain ⟨its, r, pl, hz⟩ := I.list hp
  exact join_list (ys := ys) pl.isList (by simpa using strsAre_of r) hok fun t' k => ⟨.str (strJ sep ys), H, I.tok k, ⟨t', rfl⟩, q⟩

/-! ### enumerate(xs): pairs (i, x), for a target that takes them apart -/
noncomputable def Ite (K : PySem.W.Frag) (a : Addr) : It :=
  ⟨fun i H => ∃ xs x, SqL K H a xs ∧ xs[i]? = some x, fun i H x H' => ∃ t y, H t = none ∧ x = .ref t ∧ H' = upd H t (.tup [.int (i : Int), y]) ∧ ∀ xs, SqL K H a xs → xs[i]? = some y, fun i H => ∃ xs, SqL K H a xs ∧ xs.length ≤ i⟩
theorem turn_enum {P : Program} {w : World} {K : PySem.W.Frag} {es : List Expr} {k : Nat} {pos : Pos} (a e it : Addr) (hne : e ≠ it) :
    Turn P w K (.Tuple es k pos) (Ite K a) [e, it] e (fun i h => (∃ old, IsEnum h e it (i : Nat) old) ∧ h.IsListIter it a i) where
  mem := by simp
  obj := fun i h st b hb => by
    obtain ⟨⟨old, he⟩, ⟨o, ho, c, d⟩⟩ := st
    rcases List.mem_cons.mp hb with rfl | hb
    · exact ⟨_, he, fun v z => by cases (show Data.fields _ = Data.cell v from z)⟩
    · have e : b = it := by simpa using hb
      subst e
      exact ⟨o, ho, fun v z => by rw [d] at z; cases z⟩
  keep := fun i h h' st k => by
    obtain ⟨⟨old, he⟩, hit⟩ := st
    exact ⟨⟨old, k e (by simp) _ he⟩, hit.at fun o q => k it (by simp) o q⟩
  item := by
    intro X hP hw hK hc i pins s σ H E I hf st hg
    subst hP hw hK
    obtain ⟨xs, x, hq, hx⟩ := hg
    obtain ⟨its, rv, p, hz⟩ := I.list hq
    obtain ⟨u, hu, ru⟩ := rv.get hx
    obtain ⟨⟨old, he⟩, hit⟩ := st
    obtain ⟨f0, f1, f2, f3, f4, f5⟩ := hf e (by simp)
    obtain ⟨g0, g1, g2, g3, g4, g5⟩ := hf it (by simp)
    have helt : e < s.heap.objs.size := Heap.lt_size he
    have hilt : it < s.heap.objs.size := by obtain ⟨_, q, _⟩ := hit; exact Heap.lt_size q
    refine wpAny_pyNext_enum_item he hit p.isList (x := u) (by simpa using hu) hne fun h1 ho1 hit1 ht1 hsz1 hk1 => ?_
    refine ⟨_, rfl, wpAny_letOwnedTupleGo_enum ho1 fun h2 he2 sb2 => ?_⟩
    have k2 : ∀ b o, b ≠ e → b ≠ it → s.heap.get? b = some o → h2.get? b = some o := fun b o hb hb' q => (sb2.2 b hb).trans (hk1 b o hb hb' q)
    have fr : H s.heap.objs.size = none := I.hok.fresh (Nat.le_refl _)
    have tr : ∀ b o, H b = some o → b ≠ e ∧ b ≠ it ∧ b ≠ s.heap.objs.size := fun b o q => ⟨fun z => (by rw [z, f0] at q; cases q), fun z => (by rw [z, g0] at q; cases q), fun z => (by rw [z, fr] at q; cases q)⟩
    have nch : ∀ b, b ∉ [e, it] → b ≠ e ∧ b ≠ it := fun b hb => ⟨fun z => hb (by simp [z]), fun z => hb (by simp [z])⟩
    have tup2 : IsTup h2 s.heap.objs.size [.int i s.toks, u].toArray := ⟨_, (sb2.2 _ (Nat.ne_of_gt helt)).trans ht1, rfl, _, rfl⟩
    have I2 : Inv X pins σ (upd H s.heap.objs.size (.tup [.int (i : Int), x])) { s with heap := h2, toks := s.toks + 1 } := by
      refine I.step (g' := s.gens) (d' := s.drawn) (ch := [e, it]) (fun b hb => ?_) (fun b o _ _ hb q _ => k2 b o (nch b hb).1 (nch b hb).2 q) (fun b o _ _ hb q _ => ⟨o.slots, k2 b o (nch b hb).1 (nch b hb).2 q⟩)
        (fun b o hb q n => ?_) (fun b o hb q => ⟨o, k2 b o (nch b hb).1 (nch b hb).2 q⟩) (fun b ys q => ?_) (fun b o u q => ?_) (fun b ps q => ⟨#[], ?_⟩) (fun m hm => ?_) (fun b o q => ?_) I.bare
      · rcases List.mem_cons.mp hb with rfl | hb
        · exact ⟨f3, f1, f4, f5⟩
        · have e : b = it := by simpa using hb
          subst e
          exact ⟨g3, g1, g4, g5⟩
      · rw [upd_ne (Nat.ne_of_lt (Heap.lt_size q))]; exact n
      · rw [upd_ne (tr b _ q).2.2]; exact q
      · rw [upd_ne (tr b _ q).2.2]; exact q
      · rw [upd_ne (tr b _ q).2.2, q]; simp
      · obtain ⟨o, es', ep, ho, r⟩ := hm
        exact ⟨o, es', ep, k2 _ o (Ne.symm f1) (Ne.symm g1) ho, r⟩
      · by_cases hb : b = s.heap.objs.size
        · subst hb
          rw [upd_same] at q
          cases q
          exact ⟨by show 2 ≤ sizeLine; decide, [.int i s.toks, u], .cons ⟨_, rfl⟩ (.cons ru .nil), tup2⟩
        · rw [upd_ne hb] at q
          refine (I.hok b o q).stay (fun c v hc' z => ?_) (fun c z => ?_) fun c ys z => ?_
          · have : c ≠ e ∧ c ≠ it := by
              rcases hc' with rfl | hc'
              · exact ⟨(tr _ _ q).1, (tr _ _ q).2.1⟩
              · exact ⟨(tr _ _ hc').1, (tr _ _ hc').2.1⟩
            exact k2 c v this.1 this.2 z
          · rw [upd_ne (tr c _ z).2.2]; exact z
          · rw [upd_ne (tr c _ z).2.2]; exact z
    refine ⟨.ref s.heap.objs.size, _, I2, rfl, ⟨_, x, fr, rfl, rfl, fun ys hy => by rw [I.list_inj hy hq]; exact hx⟩, ⟨⟨_, by simpa using he2⟩, hit1.at fun o q => (sb2.2 it (Ne.symm hne)).trans q⟩, fun b hb => ?_⟩
    rcases List.mem_cons.mp hb with rfl | hb
    · rw [upd_ne (Nat.ne_of_lt helt)]; exact f0
    · have e : b = it := by simpa using hb
      subst e
      rw [upd_ne (Nat.ne_of_lt hilt)]; exact g0
  done := by
    intro X hP hw hK hc i pins s σ H E I hf st hg
    subst hP hw hK
    obtain ⟨xs, hq, hx⟩ := hg
    obtain ⟨its, rv, p, hz⟩ := I.list hq
    obtain ⟨⟨old, he⟩, hit⟩ := st
    obtain ⟨g0, g1, g2, g3, g4, g5⟩ := hf it (by simp)
    have hl := rv.length
    exact wpAny_pyNext_enum_end (I.ok.hd hc) he hit p.isList (by simp; omega) fun h' eb => ⟨rfl, I.turned (t' := s.toks) (fun b o hb q => eb b o hb q) g0 g1 g3 g4 g5⟩
  self := fun _ _ _ _ _ st h => by
    obtain ⟨⟨old, he⟩, _⟩ := st
    exact wpAny_pyIter_enum he h
noncomputable def iEnum (K : PySem.W.Frag) (ta : TA) : TI := fun σ H R => ta σ H fun vs H1 => ∃ a, vs = [.ref a] ∧ (∃ xs, SqL K H1 a xs) ∧ R (Ite K a) H1
theorem pi_enum {X : Cx} {K : PySem.W.Frag} {es : List Expr} {k : Nat} {tpos : Pos} {a : Expr} {ta : TA} {p pos : Pos} (hK : X.K = K) (hg : Gl X "enumerate") (hm : X.mg "enumerate" = none) (ha : PA X [a] ta) (hs : starEach [a] X.env = [(false, eval a X.env)] := by rfl) :
    PI X (.Tuple es k tpos) (.Call (.Name "enumerate" p) [a] [] pos) (iEnum K ta) := by
  subst hK
  intro pins s σ H R I h
  refine Call_ (ld_blt I hg hm boot_enumerate (PyProof.Rows.callWith_type1 (thn (ha pos pins s σ H _ I h) fun us s1 ⟨vs, H1, I1, r1, q1⟩ => ?_) hs rfl))
  obtain ⟨b, e, ⟨xs, hq⟩, q⟩ := q1
  subst e
  cases r1 with
  | cons r rr =>
    cases rr
    cases r
    obtain ⟨its, rv, pl, hz⟩ := I1.list hq
    refine call_enumerate_list pl.isList fun h' he hit hsz hk => ?_
    have I2 : Inv X pins σ H1 { s1 with heap := h' } := I1.kept (t' := s1.toks) hk
    refine wpAny_pyIter_enum he ?_
    refine ⟨s1.heap.objs.size + 1, [s1.heap.objs.size + 1, s1.heap.objs.size], _, _, H1, rfl, I2, turn_enum b _ _ (Nat.succ_ne_self _), ⟨⟨_, he⟩, hit⟩, fun c hc => ?_, q⟩
    have hc' : s1.heap.objs.size ≤ c := by
      rcases List.mem_cons.mp hc with hc | hc
      · rw [hc]; exact Nat.le_succ _
      · have : c = s1.heap.objs.size := by simpa using hc
        rw [this]; exact Nat.le_refl _
    exact I1.fpOk hc' (I1.hok.fresh hc')
/-- over the pairs of a list that the body leaves as it is -/
theorem for_enum {K : PySem.W.Frag} {a : Addr} {xs : List V} {g : TG} {tb : TS} {D : Ends} {σ : St} {H : Hp} (Pv : Nat → St → Hp → Prop) (h0 : Pv 0 σ H) (hl : ∀ i σ H, i ≤ xs.length → Pv i σ H → SqL K H a xs)
    (hs : ∀ i x σ H t, xs[i]? = some x → Pv i σ H → H t = none → g (.ref t) σ (upd H t (.tup [.int (i : Int), x])) fun σ2 H2 => tb { D with nx := Pv (i + 1), ct := Pv (i + 1), bk := D.nx } σ2 H2) (hd : ∀ σ H, Pv xs.length σ H → D.nx σ H) :
    ∃ W : Nat → Nat → St → Hp → Prop, (∃ m, W 0 m σ H) ∧ ∀ i m σ H, W i m σ H →
      ((Ite K a).stop i H ∧ D.nx σ H) ∨ ((Ite K a).go i H ∧ ∃ N : St → Hp → Prop, (∀ σ' H', N σ' H' → ∃ m', m' < m ∧ W (i + 1) m' σ' H') ∧ ∀ x H', (Ite K a).yld i H x H' → g x σ H' fun σ2 H2 => tb { D with nx := N, ct := N, bk := D.nx } σ2 H2) := by
  refine ⟨fun i m σ H => m = xs.length - i ∧ i ≤ xs.length ∧ Pv i σ H, ⟨xs.length, by simp, Nat.zero_le _, h0⟩, ?_⟩
  rintro i m σ H ⟨rfl, hi, p⟩
  have q := hl i σ H hi p
  by_cases hlt : i < xs.length
  · refine .inr ⟨⟨xs, xs[i], q, by simp [hlt]⟩, Pv (i + 1), fun σ' H' p' => ⟨xs.length - (i + 1), by omega, rfl, hlt, p'⟩, fun x H' y => ?_⟩
    obtain ⟨t, z, ht, e1, e2, y⟩ := y
    subst e1 e2
    exact hs i z σ H t (y xs q) p ht
  · have e : i = xs.length := by omega
    subst e
    exact .inl ⟨⟨xs, q, Nat.le_refl _⟩, hd σ H p⟩
end L2

set_option Elab.async false
set_option linter.all false
set_option maxRecDepth 100000
/-! sorted(xs, key=f): f a def of the text that tells a new tuple of two ints, no two alike. -/
namespace GS
open PySem PyProof.Rows PySem.W
section
variable {prog : Program} {w : World} {A : Around} {E : Value → Shared → Prop} {s : Shared}
end
end GS
namespace L2
open PySem PySem.Spec PyProof.Rows PySem.W
/-- an untracked list of ours is tracked from now on -/
theorem Inv.adopt {X : Cx} {pins : List (Addr × Obj)} {σ : St} {H : Hp} {s : Shared} {D : Addr} {vs : List V} {its : List Value} {n : Nat} {h' : Heap} {t' : Nat} (I : Inv X pins σ H s) (f : FpOk X pins H D)
    (k : ∀ b o, b ≠ D → s.heap.get? b = some o → h'.get? b = some o) (e : h'.get? D = some (seqObj "list" its.toArray n)) (hv : Vals vs its) (hz : vs.length ≤ sizeLine) :
    Inv X pins σ (upd H D (.lst vs)) { s with heap := h', toks := t' } := by
  obtain ⟨hn, hL, hfs, h1, h2, h3⟩ := f
  have nit : ∀ b u, H b = some u → b ≠ D := fun b u e z => by rw [z, hn] at e; cases e
  refine I.step (g' := s.gens) (d' := s.drawn) (ch := [D]) (fun b hb => ?_) (fun b o _ _ hc e _ => k b o (fun z => hc (by simp [z])) e) (fun b o _ _ hc e _ => ⟨o.slots, k b o (fun z => hc (by simp [z])) e⟩) (fun b _ hc _ q => ?_)
    (fun b o hc e => ⟨o, k b o (fun z => hc (by simp [z])) e⟩) (fun b _ q => ?_) (fun b _ _ q => ?_) (fun b ps q => ⟨#[], ?_⟩) (fun m hm => ?_) (fun b u q => ?_) I.bare
  · have e : b = D := by simpa using hb
    subst e
    exact ⟨h1, hL, h2, h3⟩
  · rw [upd_ne (fun z => hc (by simp [z]))]; exact q
  · rw [upd_ne (nit b _ q)]; exact q
  · rw [upd_ne (nit b _ q)]; exact q
  · rw [upd_ne (nit b _ q), q]; simp
  · obtain ⟨o, es, ep, ho, r⟩ := hm
    exact ⟨o, es, ep, k _ o (Ne.symm hL) ho, r⟩
  · by_cases hb : b = D
    · subst hb
      rw [upd_same] at q
      cases q
      exact ⟨hz, its, n, hv, e⟩
    · rw [upd_ne hb] at q
      refine (I.hok b u q).stay (fun c v hc z => k c v ?_ z) (fun c z => ?_) fun c ys z => ?_
      · rcases hc with z | z
        · rw [z]; exact hb
        · exact nit c _ z
      · rw [upd_ne (nit c _ z)]; exact z
      · rw [upd_ne (nit c _ z)]; exact z
end L2

set_option Elab.async false
set_option linter.all false
set_option maxRecDepth 100000
/-! An exception on its way through the frames: its class and its dict stay. -/
namespace L2
open PySem PySem.Spec PyProof.Rows PySem.W
section
variable {M : Model} {A : Around} {E : Value → Shared → Prop} {s : Shared} {B : Heap} {env : Env} {l outer : List Env} {L e : Addr} {cls : Value} {dd : Option Addr} {Q : Unit → Shared → Prop}
end
end L2

set_option Elab.async false
set_option linter.all false
set_option maxRecDepth 100000
/-! Exceptions of the text's own classes: raised, passed on by a def, caught. -/
namespace L2
open PySem PySem.Spec PyProof.Rows PySem.W

section
variable {P : Program} {w : World} {base : Heap} {outer : List Env} {H H' : Hp} {s s' : Shared} {ea : Addr} {cls : Value} {dd : Option Addr} {B : Heap}
end
section
variable {P : Program} {w : World} {K : PySem.W.Frag} {mg : Str → Option Value} {base : Heap} {N : List Str} {qual : Str} {scope : Scope} {f : Addr} {cd : Value} {A : Around} {outer : List Env} {s₀ : Shared} {H₀ : Hp} {E : XK}
end
/-! ### caught -/

/-! ### calls of defs that may raise -/
/-! ### try: f(..) except C: suite -/
section
variable {X : Cx} {k : Nat} {x y : Str} {C L : Addr} {ps : List Str} {sp : Sp} {e : Expr} {es : List Expr} {t : TA} {ts : TS} {env0 : List Env} {p np pos epos tpos hpos : Pos} {b0 : Stmt} {suite : List Stmt}
end
/-! ### try: f(..) except C as e: return isinstance(e, ValueError) -/
section
variable {X : Cx} {k : Nat} {x y n : Str} {C L : Addr} {ps : List Str} {sp : Sp} {e : Expr} {es : List Expr} {t : TA} {env0 : List Env} {p np pos epos tpos hpos p1 p2 p3 p4 p5 : Pos} {i : Nat}
end
/-! ### try: z = f(..) except C: suite -/
section
variable {X : Cx} {k : Nat} {x y z : Str} {C L : Addr} {ps : List Str} {sp : Sp} {e : Expr} {es : List Expr} {t : TA} {ts : TS} {env0 : List Env} {p np pos zpos apos tpos hpos : Pos} {b0 : Stmt} {suite : List Stmt} {i : Nat}
end
end L2

set_option Elab.async false
set_option linter.all false
set_option maxRecDepth 100000
/-! Tables: cells that cover each place just once. -/
namespace GT
open PySem L2

structure Cell where
  top : Nat
  left : Nat
  h : Nat
  w : Nat
  words : List Str
noncomputable def signs : Str := "abcdefghijklmnopqrstuvwxyz0123456789"
structure WordOk (x : Str) : Prop where
  lo : 1 ≤ x.length
  hi : x.length ≤ 12
  all : ∀ c ∈ x.cps.toList, c ∈ signs.cps.toList
structure WordsOk (ws : List Str) : Prop where
  few : ws.length ≤ 12
  each : ∀ x ∈ ws, WordOk x
noncomputable def wordsD (ws : List Str) : Dd := .tup (ws.map Dd.str)
noncomputable def Cell.D (x : Cell) : Dd := .tup [.int x.top, .int x.left, .int x.h, .int x.w, wordsD x.words]
noncomputable def tabD (R C : Nat) (cs : List Cell) : Dd := .tup [.int R, .int C, .lst (cs.map Cell.D)]
noncomputable def inC (x : Cell) (r c : Nat) : Prop := x.top ≤ r ∧ r < x.top + x.h ∧ x.left ≤ c ∧ c < x.left + x.w
structure Fit (R C : Nat) (x : Cell) : Prop where
  h1 : 1 ≤ x.h
  w1 : 1 ≤ x.w
  down : x.top + x.h ≤ R
  across : x.left + x.w ≤ C
  words : WordsOk x.words
noncomputable def Apart (x y : Cell) : Prop := ∀ r c, inC x r c → ¬ inC y r c
theorem Apart.symm {x y : Cell} (h : Apart x y) : Apart y x := fun r c a b => h r c b a
noncomputable def cov (cs : List Cell) (r c : Nat) : Prop := ∃ x ∈ cs, inC x r c
noncomputable def Before (x y : Cell) : Prop := x.top < y.top ∨ (x.top = y.top ∧ x.left < y.left)
/-- some of the places -/
structure Part (R C : Nat) (cs : List Cell) : Prop where
  fit : ∀ x ∈ cs, Fit R C x
  dis : cs.Pairwise Apart
structure Tiles (R C : Nat) (cs : List Cell) : Prop extends Part R C cs where
  all : ∀ r c, r < R → c < C → cov cs r c
  ord : cs.Pairwise Before
theorem Part.nil (R C : Nat) : Part R C [] := ⟨fun _ hx => by simp at hx, .nil⟩
theorem Part.snoc {R C : Nat} {cs : List Cell} {x : Cell} (p : Part R C cs) (f : Fit R C x) (d : ∀ r c, inC x r c → ¬ cov cs r c) : Part R C (cs ++ [x]) where
  fit := fun y hy => (List.mem_append.mp hy).elim (p.fit y) fun z => by
    have : y = x := by simpa using z
    rw [this]; exact f
  dis := List.pairwise_append.mpr ⟨p.dis, List.pairwise_singleton _ _, fun y hy z hz r c h1 h2 => by
    have : z = x := by simpa using hz
    rw [this] at h2
    exact d r c h2 ⟨y, hy, h1⟩⟩
theorem cov_snoc {cs : List Cell} {x : Cell} {r c : Nat} : cov (cs ++ [x]) r c ↔ cov cs r c ∨ inC x r c := by
  constructor
  · rintro ⟨y, hy, h⟩
    rcases List.mem_append.mp hy with hy | hy
    · exact .inl ⟨y, hy, h⟩
    · have : y = x := by simpa using hy
      rw [this] at h; exact .inr h
  · rintro (⟨y, hy, h⟩ | h)
    · exact ⟨y, List.mem_append_left _ hy, h⟩
    · exact ⟨x, List.mem_append_right _ (by simp), h⟩
theorem cov_perm {cs cs' : List Cell} (p : cs'.Perm cs) {r c : Nat} (h : cov cs r c) : cov cs' r c := by
  obtain ⟨x, hx, i⟩ := h
  exact ⟨x, p.mem_iff.mpr hx, i⟩
theorem Part.perm {R C : Nat} {cs cs' : List Cell} (p : Part R C cs) (q : cs'.Perm cs) : Part R C cs' where
  fit := fun x hx => p.fit x (q.mem_iff.mp hx)
  dis := (q.pairwise_iff fun {x y} h => Apart.symm h).mpr p.dis
noncomputable def key (x : Cell) : Int × Int := ((x.top : Int), (x.left : Int))
theorem Part.keys {R C : Nat} {cs : List Cell} (p : Part R C cs) : (cs.map key).Nodup := by
  refine List.Pairwise.map _ (R := fun x y => Fit R C x ∧ Fit R C y ∧ Apart x y) (fun x y z e => ?_) (p.dis.imp_of_mem fun {x y} hx hy z => ⟨p.fit x hx, p.fit y hy, z⟩)
  obtain ⟨f, g, a⟩ := z
  unfold key at e
  have e1 : (x.top : Int) = y.top := congrArg Prod.fst e
  have e2 : (x.left : Int) = y.left := congrArg Prod.snd e
  have h1 := f.h1
  have h2 := f.w1
  have h3 := g.h1
  have h4 := g.w1
  exact a x.top x.left ⟨by omega, by omega, by omega, by omega⟩ ⟨by omega, by omega, by omega, by omega⟩

/-! ### cells in the heap -/
theorem Cell.D_inj {x y : Cell} (h : x.D = y.D) : key x = key y := by
  unfold Cell.D at h
  injection h with h
  simp only [List.cons.injEq, Dd.int.injEq] at h
  unfold key
  rw [h.1, h.2.1]
theorem wordsD_nol (ws : List Str) : NoL (wordsD ws) := .tup fun d hd => by
  obtain ⟨w, _, rfl⟩ := List.mem_map.mp hd
  exact .str w
theorem Cell.D_nol (x : Cell) : NoL x.D := .tup fun d hd => by
  simp only [List.mem_cons, List.mem_nil_iff, or_false] at hd
  rcases hd with rfl | rfl | rfl | rfl | rfl
  · exact .int _
  · exact .int _
  · exact .int _
  · exact .int _
  · exact wordsD_nol _
theorem cells_nol (cs : List Cell) : ∀ d ∈ cs.map Cell.D, NoL d := fun d hd => by
  obtain ⟨x, _, rfl⟩ := List.mem_map.mp hd
  exact x.D_nol
theorem wordsD_fits (ws : List Str) (n : Nat) : fits (n + 1) (wordsD ws) := fun d hd => by
  obtain ⟨w, _, rfl⟩ := List.mem_map.mp hd
  cases n <;> trivial
theorem Cell.D_fits (x : Cell) (n : Nat) : fits (n + 2) x.D := fun d hd => by
  simp only [List.mem_cons, List.mem_nil_iff, or_false] at hd
  rcases hd with rfl | rfl | rfl | rfl | rfl
  · trivial
  · trivial
  · trivial
  · trivial
  · exact wordsD_fits _ n
theorem tabD_fits (R C : Nat) (cs : List Cell) (n : Nat) : fits (n + 4) (tabD R C cs) := fun d hd => by
  simp only [List.mem_cons, List.mem_nil_iff, or_false] at hd
  rcases hd with rfl | rfl | rfl
  · trivial
  · trivial
  · intro d hd
    obtain ⟨x, _, rfl⟩ := List.mem_map.mp hd
    exact x.D_fits n
/-- a cell's value, taken apart -/
theorem Cell.at_inv {H : Hp} {x : Cell} {v : V} (h : At H x.D v) : ∃ a b ws, v = .ref a ∧ H a = some (.tup [.int x.top, .int x.left, .int x.h, .int x.w, .ref b]) ∧ H b = some (.tup ws) ∧ AtL H (x.words.map Dd.str) ws := by
  obtain ⟨a, xs, rfl, ha, r⟩ := h.tup_inv
  cases r with
  | cons h1 r =>
    cases r with
    | cons h2 r =>
      cases r with
      | cons h3 r =>
        cases r with
        | cons h4 r =>
          cases r with
          | cons h5 r =>
            cases r
            obtain ⟨b, ws, rfl, hb, rw'⟩ := h5.tup_inv
            rw [h1.int_inv, h2.int_inv, h3.int_inv, h4.int_inv] at ha
            exact ⟨a, b, ws, rfl, ha, hb, rw'⟩
theorem Cell.at_mk {H : Hp} {x : Cell} {a b : Addr} {ws : List V} (ha : H a = some (.tup [.int x.top, .int x.left, .int x.h, .int x.w, .ref b])) (hb : H b = some (.tup ws)) (r : AtL H (x.words.map Dd.str) ws) : At H x.D (.ref a) :=
  .tup ha (.cons (.int _) (.cons (.int _) (.cons (.int _) (.cons (.int _) (.cons (.tup hb r) .nil)))))
theorem tab_inv {H : Hp} {R C : Nat} {cs : List Cell} {v : V} (h : At H (tabD R C cs) v) : ∃ a l ys, v = .ref a ∧ H a = some (.tup [.int R, .int C, .ref l]) ∧ H l = some (.lst ys) ∧ AtL H (cs.map Cell.D) ys := by
  obtain ⟨a, xs, rfl, ha, r⟩ := h.tup_inv
  cases r with
  | cons h1 r =>
    cases r with
    | cons h2 r =>
      cases r with
      | cons h3 r =>
        cases r
        obtain ⟨l, ys, rfl, hl, ry⟩ := h3.lst_inv
        rw [h1.int_inv, h2.int_inv] at ha
        exact ⟨a, l, ys, rfl, ha, hl, ry⟩
theorem tab_mk {H : Hp} {R C : Nat} {cs : List Cell} {a l : Addr} {ys : List V} (ha : H a = some (.tup [.int R, .int C, .ref l])) (hl : H l = some (.lst ys)) (r : AtL H (cs.map Cell.D) ys) : At H (tabD R C cs) (.ref a) :=
  .tup ha (.cons (.int _) (.cons (.int _) (.cons (.lst hl r) .nil)))

/-- a permutation of the one side is one of the other -/
theorem paired_perm {α β : Type} {F : α → β → Prop} {m m' : List β} (p : m'.Perm m) : ∀ {l : List α}, Paired F l m → ∃ l', l'.Perm l ∧ Paired F l' m' := by
  induction p with
  | nil => intro l h; exact ⟨l, .refl _, h⟩
  | cons x _ ih =>
    intro l h
    cases h with
    | cons r t =>
      obtain ⟨l', p', h'⟩ := ih t
      exact ⟨_, p'.cons _, .cons r h'⟩
  | swap x y m =>
    intro l h
    cases h with
    | cons r t =>
      cases t with
      | cons r' t' => exact ⟨_, List.Perm.swap _ _ _, .cons r' (.cons r t')⟩
  | trans _ _ ih1 ih2 =>
    intro l h
    obtain ⟨l1, p1, h1⟩ := ih2 h
    obtain ⟨l2, p2, h2⟩ := ih1 h1
    exact ⟨l2, p2.trans p1, h2⟩
theorem cells_perm {H : Hp} {cs : List Cell} {xs xs' : List V} (p : xs'.Perm xs) (h : AtL H (cs.map Cell.D) xs) : ∃ cs' : List Cell, cs'.Perm cs ∧ AtL H (cs'.map Cell.D) xs' := by
  have h1 : ∀ {cs : List Cell} {xs : List V}, AtL H (cs.map Cell.D) xs → Paired (fun x v => At H x.D v) cs xs := by
    intro cs
    induction cs with
    | nil => intro xs h; cases h; exact .nil
    | cons x cs ih => intro xs h; cases h with | cons r t => exact .cons r (ih t)
  have h2 : ∀ {cs : List Cell} {xs : List V}, Paired (fun x v => At H x.D v) cs xs → AtL H (cs.map Cell.D) xs := by
    intro cs xs h
    induction h with
    | nil => exact .nil
    | cons r _ ih => exact .cons r ih
  obtain ⟨cs', q, r⟩ := paired_perm p (h1 h)
  exact ⟨cs', q, h2 r⟩
/-- what sorted asks: the two ints of each item -/
theorem cells_key {H : Hp} {cs : List Cell} {xs : List V} (h : AtL H (cs.map Cell.D) xs) : ∃ f : V → Int × Int, ∀ (i : Nat) (x : Cell) (v : V), cs[i]? = some x → xs[i]? = some v → f v = key x := by
  classical
  refine ⟨fun v => if q : ∃ x ∈ cs, At H x.D v then key q.choose else (0, 0), fun i x v e1 e2 => ?_⟩
  have at1 : At H x.D v := Paired.get h (i := i) (by rw [List.getElem?_map, e1]; rfl) e2
  have q : ∃ x ∈ cs, At H x.D v := ⟨x, List.mem_of_getElem? e1, at1⟩
  simp only [q, dite_true]
  exact Cell.D_inj (At.inj _ (Nat.le_refl _) q.choose_spec.2 at1)
theorem cells_keys {H : Hp} {cs : List Cell} {xs : List V} (h : AtL H (cs.map Cell.D) xs) {f : V → Int × Int} (hf : ∀ (i : Nat) (x : Cell) (v : V), cs[i]? = some x → xs[i]? = some v → f v = key x) : xs.map f = cs.map key := by
  have hl : cs.length = xs.length := by simpa using h.length
  refine List.ext_getElem (by simp [hl]) fun i h1 h2 => ?_
  simp only [List.getElem_map]
  exact hf i _ _ (List.getElem?_eq_getElem (by simpa using h2)) (List.getElem?_eq_getElem (by simpa using h1))
/-- sorted(cells), ready to use -/
theorem sorted_cells {K : PySem.W.Frag} {R C : Nat} {cs : List Cell} {H : Hp} {l : Addr} {xs : List V} {Q : VK} (hl : H l = some (.lst xs)) (p : Part R C cs) (hC : C ≤ 1000) (h : AtL H (cs.map Cell.D) xs)
    (q : ∀ (r : Addr) (cs' : List Cell) (xs' : List V), H r = none → cs'.Perm cs → cs'.Pairwise Before → AtL (upd H r (.lst xs')) (cs'.map Cell.D) xs' → Q (.ref r) (upd H r (.lst xs'))) : rSorted K [.ref l] H Q := by
  obtain ⟨f, hf⟩ := cells_key h
  have hm := cells_keys h hf
  have hlen : cs.length = xs.length := by simpa using h.length
  have at' : ∀ v ∈ xs, ∃ x ∈ cs, At H x.D v ∧ f v = key x := fun v hv => by
    obtain ⟨i, hi, e⟩ := List.mem_iff_getElem.mp hv
    have e2 : xs[i]? = some v := by rw [List.getElem?_eq_getElem hi, e]
    have e1 : cs[i]? = some cs[i] := List.getElem?_eq_getElem (by omega)
    exact ⟨cs[i], List.getElem_mem _, Paired.get h (i := i) (by rw [List.getElem?_map, e1]; rfl) e2, hf i _ _ e1 e2⟩
  refine ⟨l, xs, f, rfl, SqL.of hl, fun v hv => ?_, by rw [hm]; exact p.keys, fun v hv => ?_, fun r xs' hr hp ho => ?_⟩
  · obtain ⟨x, hx, a, e⟩ := at' v hv
    obtain ⟨b, c, ws, rfl, hb, _, _⟩ := Cell.at_inv a
    rw [e]
    exact ⟨b, _, rfl, SqT.of hb⟩
  · obtain ⟨x, hx, a, e⟩ := at' v hv
    have g := p.fit x hx
    have := g.across
    have := g.w1
    rw [e]
    show 0 ≤ (x.left : Int) ∧ (x.left : Int) < 1000
    omega
  · obtain ⟨cs', pc, hc⟩ := cells_perm hp h
    have hf' : ∀ (i : Nat) (x : Cell) (v : V), cs'[i]? = some x → xs'[i]? = some v → f v = key x := fun i x v e1 e2 => by
      have a1 : At H x.D v := Paired.get hc (i := i) (by rw [List.getElem?_map, e1]; rfl) e2
      obtain ⟨y, _, a2, e⟩ := at' v (hp.mem_iff.mp (List.mem_of_getElem? e2))
      rw [e]
      exact Cell.D_inj (At.inj _ (Nat.le_refl _) a2 a1)
    have hm' := cells_keys hc hf'
    have ord : cs'.Pairwise Before := by
      have o1 : (xs'.map f).Pairwise lex2 := List.pairwise_map.mpr ho
      rw [hm'] at o1
      refine (List.pairwise_map.mp o1).imp fun {x y} z => ?_
      unfold lex2 key at z
      unfold Before
      simp only at z
      omega
    exact q r cs' xs' hr pc ord (hc.mono (Same.upd_new hr))
theorem Part.tiles {R C : Nat} {cs cs' : List Cell} (p : Part R C cs) (all : ∀ r c, r < R → c < C → cov cs r c) (q : cs'.Perm cs) (o : cs'.Pairwise Before) : Tiles R C cs' :=
  { p.perm q with all := fun r c h1 h2 => cov_perm q (all r c h1 h2), ord := o }
theorem signs_len : signs.cps.toList.length = 36 := by decide +kernel
theorem signs_small : signs.length ≤ sizeLine := by
  have e : signs.length = 36 := by decide +kernel
  rw [e]; decide
theorem join_list_cps : ∀ ys : List Str, (Str.join Str.empty ys).cps.toList = (ys.map (fun y => y.cps.toList)).flatten
  | [] => rfl
  | [x] => by simp [Str.join]
  | x :: y :: ys => by
    have ih := join_list_cps (y :: ys)
    have e : Str.join Str.empty (x :: y :: ys) = x ++ Str.empty ++ Str.join Str.empty (y :: ys) := rfl
    rw [e]
    show ((x.cps ++ Str.empty.cps) ++ (Str.join Str.empty (y :: ys)).cps).toList = _
    rw [Array.toList_append, Array.toList_append, ih]
    simp [Str.empty]
theorem join_word {ys : List Str} (h : ∀ y ∈ ys, ∃ c ∈ signs.cps.toList, y = ⟨#[c]⟩) (h1 : 1 ≤ ys.length) (h2 : ys.length ≤ 12) : WordOk (strJ "" ys) := by
  have e : (strJ "" ys).cps.toList = (ys.map (fun y => y.cps.toList)).flatten := by
    have z : strJ "" ys = Str.join Str.empty ys := PySem.StrLaws.glued_eq_join _ _
    rw [z]
    exact join_list_cps ys
  have l : ∀ ys : List Str, (∀ y ∈ ys, ∃ c ∈ signs.cps.toList, y = ⟨#[c]⟩) → (ys.map (fun y => y.cps.toList)).flatten.length = ys.length ∧ ∀ c ∈ (ys.map (fun y => y.cps.toList)).flatten, c ∈ signs.cps.toList := by
    intro ys
    induction ys with
    | nil => exact fun _ => ⟨rfl, fun c hc => by simp at hc⟩
    | cons y ys ih =>
      intro h
      obtain ⟨i1, i2⟩ := ih fun z hz => h z (List.mem_cons_of_mem _ hz)
      obtain ⟨c, hc, rfl⟩ := h y List.mem_cons_self
      refine ⟨by rw [List.map_cons, List.flatten_cons, List.length_append, i1, List.length_cons]; simp; omega, fun d hd => ?_⟩
      rw [List.map_cons, List.flatten_cons] at hd
      rcases List.mem_append.mp hd with hd | hd
      · have : d = c := by simpa using hd
        rw [this]; exact hc
      · exact i2 d hd
  obtain ⟨l1, l2⟩ := l ys h
  have ll : (strJ "" ys).length = ys.length := by
    show (strJ "" ys).cps.size = _
    rw [← Array.length_toList, e, l1]
  exact ⟨by omega, by omega, fun c hc => l2 c (by rw [← e]; exact hc)⟩
theorem strs_at (H : Hp) : ∀ ws : List Str, AtL H (ws.map Dd.str) (ws.map V.str)
  | [] => .nil
  | w :: ws => .cons (.str w) (strs_at H ws)
end GT

set_option Elab.async false
set_option linter.all false
set_option maxRecDepth 100000
/-! Deeds on tables: a row put in, a row taken out, the table turned about; what becomes of the cells. -/
namespace GT
open PySem L2
theorem Before.asymm {x y : Cell} (h : Before x y) : ¬ Before y x := by unfold Before at *; omega
/-- two lists in order with the same cells are one -/
theorem sorted_eq : ∀ {l m : List Cell}, l.Pairwise Before → m.Pairwise Before → (∀ x, x ∈ l ↔ x ∈ m) → l = m
  | [], [], _, _, _ => rfl
  | [], y :: m, _, _, h => absurd ((h y).mpr List.mem_cons_self) (by simp)
  | x :: l, [], _, _, h => absurd ((h x).mp List.mem_cons_self) (by simp)
  | x :: l, y :: m, hl, hm, h => by
    obtain ⟨hx, hl'⟩ := List.pairwise_cons.mp hl
    obtain ⟨hy, hm'⟩ := List.pairwise_cons.mp hm
    have exy : x = y := by
      rcases List.mem_cons.mp ((h x).mp List.mem_cons_self) with e | e
      · exact e
      · rcases List.mem_cons.mp ((h y).mpr List.mem_cons_self) with e' | e'
        · exact e'.symm
        · exact absurd (hx y e') (hy x e).asymm
    subst exy
    have irr : ∀ z : Cell, ¬ Before z z := fun z q => q.asymm q
    have h' : ∀ z, z ∈ l ↔ z ∈ m := fun z => by
      constructor
      · intro hz
        rcases List.mem_cons.mp ((h z).mp (List.mem_cons_of_mem _ hz)) with e | e
        · subst e; exact absurd (hx z hz) (irr z)
        · exact e
      · intro hz
        rcases List.mem_cons.mp ((h z).mpr (List.mem_cons_of_mem _ hz)) with e | e
        · subst e; exact absurd (hy z hz) (irr z)
        · exact e
    rw [sorted_eq hl' hm' h']
theorem perm_sorted_eq {l m k : List Cell} (hl : l.Pairwise Before) (hm : m.Pairwise Before) (p : l.Perm k) (q : m.Perm k) : l = m := sorted_eq hl hm fun x => by rw [p.mem_iff, q.mem_iff]

/-! ### a row put in -/

/-! ### a row taken out -/

/-! ### turned about -/
/-- how many cells there may be -/
theorem nodup_len : ∀ (n : Nat) (l : List Nat), l.Nodup → (∀ x ∈ l, x < n) → l.length ≤ n
  | 0, [], _, _ => Nat.le_refl _
  | 0, x :: l, _, h => absurd (h x List.mem_cons_self) (by omega)
  | n + 1, l, nd, h => by
    by_cases hn : n ∈ l
    · have := nodup_len n (l.erase n) (nd.erase n) fun x hx => by
        have h1 := h x (List.mem_of_mem_erase hx)
        have h2 : x ≠ n := fun e => by subst e; exact (nd.not_mem_erase) hx
        omega
      rw [List.length_erase_of_mem hn] at this
      omega
    · have := nodup_len n l nd fun x hx => by
        have h1 := h x hx
        have h2 : x ≠ n := fun e => hn (e ▸ hx)
        omega
      omega
theorem Part.few {R C : Nat} {cs : List Cell} (p : Part R C cs) : cs.length ≤ R * C := by
  have key : (cs.map fun x => x.top * C + x.left).Nodup := by
    refine List.Pairwise.map _ (R := fun x y => Fit R C x ∧ Fit R C y ∧ Apart x y) (fun x y z e => ?_) (p.dis.imp_of_mem fun {x y} hx hy z => ⟨p.fit x hx, p.fit y hy, z⟩)
    obtain ⟨f, g, a⟩ := z
    have h1 := f.h1
    have h2 := f.w1
    have h3 := g.h1
    have h4 := g.w1
    have h5 := f.across
    have h6 := g.across
    have e1 : x.top = y.top := by
      have a1 : (x.top * C + x.left) / C = x.top := by rw [Nat.mul_comm, Nat.mul_add_div (by omega), Nat.div_eq_of_lt (by omega)]; omega
      have a2 : (y.top * C + y.left) / C = y.top := by rw [Nat.mul_comm, Nat.mul_add_div (by omega), Nat.div_eq_of_lt (by omega)]; omega
      have e : x.top * C + x.left = y.top * C + y.left := e
      rw [← a1, ← a2, e]
    have e2 : x.left = y.left := by
      have e : x.top * C + x.left = y.top * C + y.left := e
      rw [e1] at e
      omega
    exact a x.top x.left ⟨by omega, by omega, by omega, by omega⟩ ⟨by omega, by omega, by omega, by omega⟩
  have := nodup_len (R * C) _ key fun z hz => by
    obtain ⟨x, hx, rfl⟩ := List.mem_map.mp hz
    have f := p.fit x hx
    have h1 := f.h1
    have h2 := f.w1
    have h5 := f.across
    have h6 := f.down
    have : (x.top + 1) * C ≤ R * C := Nat.mul_le_mul_right C (by omega)
    rw [Nat.succ_mul] at this
    omega
  rwa [List.length_map] at this
/-! ### the order of the cells does not matter -/
/-! ### a row and a column, in either order -/
end GT

set_option Elab.async false
set_option linter.all false
set_option maxRecDepth 100000
/-! sorted(cells, key=first_place) -/
namespace GT
open PySem L2
end GT

set_option Elab.async false
set_option linter.all false
set_option maxRecDepth 100000
/-! Tables mirrored. -/
namespace GT
open PySem L2
theorem take_map_succ {α β : Type} {g : α → β} {l : List α} {i : Nat} {x : α} (h : l[i]? = some x) : (l.take (i + 1)).map g = (l.take i).map g ++ [g x] := by
  rw [List.take_add_one, h, List.map_append]; rfl
end GT

set_option Elab.async false
set_option linter.all false
set_option maxRecDepth 100000
/-! A cell parted into cells of one place each. -/
namespace GT
open PySem L2
theorem cut_drop {ys : List V} {i : Nat} (h : i ≤ ys.length) : cutV ys (some (i : Int)) none = ys.drop i := by
  unfold cutV
  have e1 : HT.sIx ys.length ys.length none = ys.length := rfl
  have e2 : HT.sIx ys.length 0 (some (i : Int)) = i := by
    rw [HT.sIx_nat]
    omega
  rw [e1, e2]
  rw [List.take_of_length_le (by simp)]
theorem big {n : Nat} (h : n ≤ 1000000) : n < sizeLine := Nat.lt_of_le_of_lt h (by decide)
end GT

set_option Elab.async false
set_option linter.all false
set_option maxRecDepth 100000
/-! Open lines and bands. -/
namespace GT
open PySem L2
noncomputable def spansB (n : Nat) (x : Cell) : Bool := decide (x.top < n ∧ n < x.top + x.h)
noncomputable def openB (n : Nat) (cs : List Cell) : Bool := !(cs.any (spansB n))
noncomputable def linesL (cs : List Cell) (k : Nat) : List Nat := ((List.range k).map (· + 1)).filter (fun n => openB n cs)
noncomputable def endsL (R : Nat) (cs : List Cell) : List Nat := 0 :: (linesL cs (R - 1) ++ [R])
noncomputable def bandsL (R : Nat) (cs : List Cell) : List (Nat × Nat) := (endsL R cs).zip (endsL R cs).tail
noncomputable def bandD (b : Nat × Nat) : Dd := .tup [.int (b.1 : Int), .int (b.2 : Int)]
theorem bandD_nol (b : Nat × Nat) : NoL (bandD b) := .tup fun d hd => by
  simp only [List.mem_cons, List.mem_nil_iff, or_false] at hd
  rcases hd with rfl | rfl
  · exact .int _
  · exact .int _
theorem bands_nol (l : List (Nat × Nat)) : ∀ d ∈ l.map bandD, NoL d := fun d hd => by
  obtain ⟨j, _, rfl⟩ := List.mem_map.mp hd
  exact bandD_nol j
theorem lines_succ (cs : List Cell) (k : Nat) : linesL cs (k + 1) = linesL cs k ++ (if openB (k + 1) cs = true then [k + 1] else []) := by
  unfold linesL
  rw [List.range_succ, List.map_append, List.filter_append]
  congr 1
  simp only [List.map_cons, List.map_nil, List.filter_cons, List.filter_nil]
theorem mem_lines {cs : List Cell} {k n : Nat} : n ∈ linesL cs k ↔ 1 ≤ n ∧ n ≤ k ∧ openB n cs = true := by
  unfold linesL
  rw [List.mem_filter, List.mem_map]
  constructor
  · rintro ⟨⟨j, hj, rfl⟩, h⟩
    have := List.mem_range.mp hj
    exact ⟨by omega, by omega, h⟩
  · rintro ⟨h1, h2, h3⟩
    exact ⟨⟨n - 1, List.mem_range.mpr (by omega), by omega⟩, h3⟩
theorem lines_len (cs : List Cell) (k : Nat) : (linesL cs k).length ≤ k := by
  unfold linesL
  have := List.length_filter_le (fun n => openB n cs) ((List.range k).map (· + 1))
  rw [List.length_map, List.length_range] at this
  exact this
theorem lines_sorted (cs : List Cell) (k : Nat) : (linesL cs k).Pairwise (· < ·) := by
  unfold linesL
  refine List.Pairwise.filter _ (List.pairwise_map.mpr (List.pairwise_lt_range.imp fun {a b} h => ?_))
  omega
theorem ends_sorted {R : Nat} {cs : List Cell} (hR : 1 ≤ R) : (endsL R cs).Pairwise (· < ·) := by
  unfold endsL
  refine List.pairwise_cons.mpr ⟨fun n hn => ?_, List.pairwise_append.mpr ⟨lines_sorted _ _, List.pairwise_singleton _ _, fun a ha b hb => ?_⟩⟩
  · rcases List.mem_append.mp hn with h | h
    · have := (mem_lines.mp h).1; omega
    · have : n = R := by simpa using h
      omega
  · have := (mem_lines.mp ha).2.1
    have : b = R := by simpa using hb
    omega
theorem mem_ends {R n : Nat} {cs : List Cell} : n ∈ endsL R cs ↔ n = 0 ∨ (1 ≤ n ∧ n ≤ R - 1 ∧ openB n cs = true) ∨ n = R := by
  unfold endsL
  rw [List.mem_cons, List.mem_append, mem_lines]
  simp
theorem ends_len (R : Nat) (cs : List Cell) : (endsL R cs).length = (bandsL R cs).length + 1 := by
  unfold bandsL
  rw [List.length_zip, List.length_tail]
  have : 1 ≤ (endsL R cs).length := by unfold endsL; simp
  omega
theorem ends_few {R : Nat} {cs : List Cell} (hR : 1 ≤ R) : (endsL R cs).length ≤ R + 1 := by
  unfold endsL
  have := lines_len cs (R - 1)
  rw [List.length_cons, List.length_append]
  show _ + 1 + 1 ≤ _
  omega
theorem bands_get {R k : Nat} {cs : List Cell} {b : Nat × Nat} (h : (bandsL R cs)[k]? = some b) : (endsL R cs)[k]? = some b.1 ∧ (endsL R cs)[k + 1]? = some b.2 := by
  unfold bandsL at h
  rw [List.getElem?_zip_eq_some] at h
  refine ⟨h.1, ?_⟩
  have := h.2
  rw [List.getElem?_tail] at this
  exact this
theorem sorted_next {l : List Nat} (h : l.Pairwise (· < ·)) {k a b : Nat} (ha : l[k]? = some a) (hb : l[k + 1]? = some b) : a < b := by
  obtain ⟨ka, ea⟩ := List.getElem?_eq_some_iff.mp ha
  obtain ⟨kb, eb⟩ := List.getElem?_eq_some_iff.mp hb
  have := List.pairwise_iff_getElem.mp h k (k + 1) ka kb (by omega)
  omega
/-- what lies at an end is not spanned; what lies between two ends is -/
theorem ends_free {R C n : Nat} {cs : List Cell} (t : Part R C cs) (h : n ∈ endsL R cs) : cs.any (spansB n) = false := by
  rcases mem_ends.mp h with rfl | ⟨_, _, h⟩ | rfl
  · rw [List.any_eq_false]
    intro x hx
    unfold spansB
    simp
  · unfold openB at h
    simpa using h
  · rw [List.any_eq_false]
    intro x hx
    have := (t.fit x hx).down
    unfold spansB
    simp
    omega
end GT

set_option Elab.async false
set_option linter.all false
set_option maxRecDepth 100000
/-! for a, b in zip(xs, ys): two lists that are tracked. -/
namespace L2
open PySem PySem.Spec PyProof.Rows
theorem addr_ne {a b : Nat} (h : a < b ∨ b < a) : (a : Addr) ≠ (b : Addr) := by
  have : (a : Nat) ≠ b := by omega
  exact this
end L2

set_option Elab.async false
set_option linter.all false
set_option maxRecDepth 100000
/-! list(zip(a, b)) -/
namespace L2
open PySem PySem.Spec PyProof.Rows
noncomputable abbrev IsZipB (h : Heap) (z TI TO T : Addr) (b : Bool) : Prop :=
  h.get? z = some { cls := .type "zip", dict := none, data := .fields #[rawInt T, .bool b, .bool false, .ref TI, .ref TO], slots := #[] }
theorem zip_no_len : typeLookup (.type "zip") "__len__" = pure none := by rw [typeLookup_type, builtinLookup_eq_fast]; kernel_rfl
theorem zip_no_hint : typeLookup (.type "zip") "__length_hint__" = pure none := by rw [typeLookup_type, builtinLookup_eq_fast]; kernel_rfl
section
variable {prog : Program} {w : World} {A : Around} {E : Value → Shared → Prop} {s : Shared}
theorem wpAny_alive {M : Model} {a : Addr} {Q : Option Obj → Shared → Prop} (h : Q (s.heap.get? a) s) : wpAny M A (loadIfAlive a) Q E s := fun Γ p _ => by
  show Sem.wp M Γ (Sem.loadIfAlive a Sem.pure) _ _ p s
  rw [Sem.wp_loadIfAlive]
  exact h
theorem free_not {z TI TO T : Addr} {b : Bool} {Q : Bool → Shared → Prop} (hz : IsZipB s.heap z TI TO T b) (hT : ∃ o, s.heap.get? T = some o)
    (h : ∀ h', IsZipB h' z TI TO T true → Heap.SameBut z s.heap h' → Q false { s with heap := h' }) : wpAny (model prog w) A (Builtin.SmallTypes.ownedTupleIsFree (.ref z)) Q E s := by
  obtain ⟨o, ho⟩ := hT
  unfold Builtin.SmallTypes.ownedTupleIsFree
  refine wpAny_bind (wpAny_field hz rfl (x := rawInt T) rfl ?_)
  show wpAny _ _ (loadIfAlive (((T : Nat) : Int)).toNat >>= _) _ _ _
  rw [Int.toNat_natCast]
  refine wpAny_bind (wpAny_alive ?_)
  rw [ho]
  show wpAny _ _ (field (.ref z) 1 >>= _) _ _ _
  refine wpAny_bind (wpAny_field hz rfl (x := .bool b) rfl ?_)
  cases b with
  | true => exact wpAny_pure (h s.heap hz ⟨rfl, fun _ _ => rfl⟩)
  | false =>
    show wpAny _ _ (setField (.ref z) 1 (.bool true) >>= fun _ => pure false) _ _ _
    exact wpAny_bind (wpAny_setField_rec hz (by simp) fun h' hz' hs' => wpAny_pure (h h' hz' hs'))
theorem zip_next_more {z TI TO i1 i2 l1 l2 T : Addr} {k1 k2 : Nat} {bb : Bool} {xs ys : Array Value} {x y : Value} {Q : Value → Shared → Prop} (D : ZipApart z TI TO i1 i2 l1 l2)
    (hz : IsZipB s.heap z TI TO T bb) (hT : ∃ o, s.heap.get? T = some o) (hTI : IsPair s.heap TI (.ref i1) (.ref i2))
    (h1 : s.heap.IsListIter i1 l1 k1) (h2 : s.heap.IsListIter i2 l2 k2) (hl1 : s.heap.IsList l1 xs) (hl2 : s.heap.IsList l2 ys) (hx : xs[k1]? = some x) (hy : ys[k2]? = some y)
    (hQ : ∀ h', IsZipB h' z TI TO T true → h'.IsListIter i1 l1 (k1 + 1) → h'.IsListIter i2 l2 (k2 + 1) → IsPair h' s.heap.objs.size x y → h'.objs.size = s.heap.objs.size + 1 →
      (∀ c o, c ≠ z → c ≠ i1 → c ≠ i2 → s.heap.get? c = some o → h'.get? c = some o) → Q (.ref s.heap.objs.size) { s with heap := h' }) :
    wpAny (model prog w) A (Builtin.«zip.__next__» ⟨[.ref z], []⟩) (fun fin s' => ∃ v, fin = .done (.ret v) ∧ Q v s') E s := by
  show wpAny _ _ (field (.ref z) 2 >>= _) _ _ _
  refine wpAny_bind (wpAny_field hz rfl (x := .bool false) rfl ?_)
  show wpAny _ _ (field (.ref z) 3 >>= _) _ _ _
  refine wpAny_bind (wpAny_field hz rfl (x := .ref TI) rfl ?_)
  refine wpAny_bind (wpAny_seqItems hTI rfl ?_)
  show wpAny _ _ (Builtin.SmallTypes.ownedTupleIsFree (.ref z) >>= _) _ _ _
  refine wpAny_bind (free_not hz hT fun h₁ hz₁ hs₁ => ?_)
  simp only [Bool.false_eq_true, if_false]
  refine wpAny_bind ?_
  rw [← Array.forIn_toList]
  simp only [List.forIn_cons, List.forIn_nil]
  refine wpAny_bind (wpAny_bind (wpAny_holding ?_))
  show wpAny _ _ (Builtin.SmallTypes.nextOf (.ref i1) >>= _) _ _ _
  refine wpAny_bind (wpAny_nextOf_list_item (h1.extBut hs₁.extBut D.i1z) (hl1.extBut hs₁.extBut D.l1z) hx fun h₂ h1₂ hs₂ => wpAny_pure (wpAny_pure ?_))
  refine wpAny_bind (wpAny_bind (wpAny_holding ?_))
  show wpAny _ _ (Builtin.SmallTypes.nextOf (.ref i2) >>= _) _ _ _
  refine wpAny_bind (wpAny_nextOf_list_item ((h2.extBut hs₁.extBut D.i2z).extBut hs₂.extBut D.i12.symm) ((hl2.extBut hs₁.extBut D.l2z).extBut hs₂.extBut D.l2i1) hy fun h₃ h2₃ hs₃ => wpAny_pure (wpAny_pure (wpAny_pure ?_)))
  have hsz : h₃.objs.size = s.heap.objs.size := by rw [hs₃.1, hs₂.1, hs₁.1]
  have kp : ∀ c o, c ≠ z → c ≠ i1 → c ≠ i2 → s.heap.get? c = some o → h₃.get? c = some o := fun c o c1 c2 c3 e =>
    hs₃.extBut _ _ c3 (hs₂.extBut _ _ c2 (hs₁.extBut _ _ c1 e))
  refine wpAny_bind (wpAny_newTuple ?_ (by show 2 ≤ sizeLine; decide))
  refine wpAny_pure ⟨_, rfl, ?_⟩
  show Q (.ref h₃.objs.size) _
  rw [hsz]
  refine hQ _ (Heap.get?_push_of_some _ (hs₃.extBut _ _ D.i2z.symm (hs₂.extBut _ _ D.i1z.symm hz₁))) ((h1₂.extBut hs₃.extBut D.i12).at fun o e => Heap.get?_push_of_some _ e) (h2₃.at fun o e => Heap.get?_push_of_some _ e) ?_ ?_ fun c o c1 c2 c3 e => Heap.get?_push_of_some _ (kp c o c1 c2 c3 e)
  · have := Heap.get?_push_size h₃ (o := { cls := .type "tuple", data := .seq [x, y].toArray }) rfl
    rw [hsz] at this
    exact this
  · rw [Heap.size_push, hsz]
theorem zip_next_over {z TI TO i1 i2 l1 l2 T : Addr} {k1 k2 : Nat} {bb : Bool} {xs ys : Array Value} {Q : Fin → Shared → Prop} (hh : A.handled = none) (D : ZipApart z TI TO i1 i2 l1 l2)
    (hz : IsZipB s.heap z TI TO T bb) (hT : ∃ o, s.heap.get? T = some o) (hTI : IsPair s.heap TI (.ref i1) (.ref i2))
    (h1 : s.heap.IsListIter i1 l1 k1) (h2 : s.heap.IsListIter i2 l2 k2) (hl1 : s.heap.IsList l1 xs) (hl2 : s.heap.IsList l2 ys) (hend : xs[k1]? = none ∨ ys[k2]? = none)
    (hE : ∀ h' e, (∀ c o, c ≠ z → c ≠ i1 → c ≠ i2 → s.heap.get? c = some o → h'.get? c = some o) → (∃ o, h'.get? e = some o ∧ o.cls = .type "StopIteration") → E (.ref e) { s with heap := h' }) :
    wpAny (model prog w) A (Builtin.«zip.__next__» ⟨[.ref z], []⟩) Q E s := by
  show wpAny _ _ (field (.ref z) 2 >>= _) _ _ _
  refine wpAny_bind (wpAny_field hz rfl (x := .bool false) rfl ?_)
  show wpAny _ _ (field (.ref z) 3 >>= _) _ _ _
  refine wpAny_bind (wpAny_field hz rfl (x := .ref TI) rfl ?_)
  refine wpAny_bind (wpAny_seqItems hTI rfl ?_)
  show wpAny _ _ (Builtin.SmallTypes.ownedTupleIsFree (.ref z) >>= _) _ _ _
  refine wpAny_bind (free_not hz hT fun h₁ hz₁ hs₁ => ?_)
  simp only [Bool.false_eq_true, if_false]
  refine wpAny_bind ?_
  rw [← Array.forIn_toList]
  simp only [List.forIn_cons, List.forIn_nil]
  refine wpAny_bind (wpAny_bind (wpAny_holding ?_))
  show wpAny _ _ (Builtin.SmallTypes.nextOf (.ref i1) >>= _) _ _ _
  cases hx : xs[k1]? with
  | none =>
    exact wpAny_bind (wpAny_nextOf_list_end hh (h1.extBut hs₁.extBut D.i1z) (hl1.extBut hs₁.extBut D.l1z) hx fun h₂ e hs₂ he => hE h₂ e (fun c o c1 c2 _ q => hs₂ _ _ c2 (hs₁.extBut _ _ c1 q)) he)
  | some x =>
    have hy : ys[k2]? = none := by rcases hend with h | h; rw [hx] at h; cases h; exact h
    refine wpAny_bind (wpAny_nextOf_list_item (h1.extBut hs₁.extBut D.i1z) (hl1.extBut hs₁.extBut D.l1z) hx fun h₂ h1₂ hs₂ => wpAny_pure (wpAny_pure ?_))
    refine wpAny_bind (wpAny_bind (wpAny_holding ?_))
    show wpAny _ _ (Builtin.SmallTypes.nextOf (.ref i2) >>= _) _ _ _
    exact wpAny_bind (wpAny_nextOf_list_end hh ((h2.extBut hs₁.extBut D.i2z).extBut hs₂.extBut D.i12.symm) ((hl2.extBut hs₁.extBut D.l2z).extBut hs₂.extBut D.l2i1) hy fun h₃ e hs₃ he => hE h₃ e (fun c o c1 c2 c3 q => hs₃ _ _ c3 (hs₂.extBut _ _ c2 (hs₁.extBut _ _ c1 q))) he)
theorem pyNext_more {z TI TO i1 i2 l1 l2 T : Addr} {k1 k2 : Nat} {bb : Bool} {xs ys : Array Value} {x y : Value} {Q : Option Value → Shared → Prop} (D : ZipApart z TI TO i1 i2 l1 l2)
    (hz : IsZipB s.heap z TI TO T bb) (hT : ∃ o, s.heap.get? T = some o) (hTI : IsPair s.heap TI (.ref i1) (.ref i2))
    (h1 : s.heap.IsListIter i1 l1 k1) (h2 : s.heap.IsListIter i2 l2 k2) (hl1 : s.heap.IsList l1 xs) (hl2 : s.heap.IsList l2 ys) (hx : xs[k1]? = some x) (hy : ys[k2]? = some y)
    (hQ : ∀ h', IsZipB h' z TI TO T true → h'.IsListIter i1 l1 (k1 + 1) → h'.IsListIter i2 l2 (k2 + 1) → IsPair h' s.heap.objs.size x y → h'.objs.size = s.heap.objs.size + 1 →
      (∀ c o, c ≠ z → c ≠ i1 → c ≠ i2 → s.heap.get? c = some o → h'.get? c = some o) → Q (some (.ref s.heap.objs.size)) { s with heap := h' }) :
    wpAny (model prog w) A (pyNext (.ref z)) Q E s := by
  have hTy : s.TypeIs (.ref z) "zip" := ⟨_, hz, rfl⟩
  unfold pyNext
  exact wpAny_bind (wpAny_attempt (wpAny_callSpecial?_slot (name := Str.ofString "__next__") hTy F.slot_zip_next
    (wpAny_call_entry F.slot_zip_next hTy F.entry_zip_next
      (zip_next_more D hz hT hTI h1 h2 hl1 hl2 hx hy fun h' a1 a2 a3 a4 a5 a6 => wpAny_pure (hQ h' a1 a2 a3 a4 a5 a6)) (F.args_zip_next_1 _))))
theorem pyNext_over {z TI TO i1 i2 l1 l2 T : Addr} {k1 k2 : Nat} {bb : Bool} {xs ys : Array Value} {Q : Option Value → Shared → Prop} (hh : A.handled = none) (D : ZipApart z TI TO i1 i2 l1 l2)
    (hz : IsZipB s.heap z TI TO T bb) (hT : ∃ o, s.heap.get? T = some o) (hTI : IsPair s.heap TI (.ref i1) (.ref i2))
    (h1 : s.heap.IsListIter i1 l1 k1) (h2 : s.heap.IsListIter i2 l2 k2) (hl1 : s.heap.IsList l1 xs) (hl2 : s.heap.IsList l2 ys) (hend : xs[k1]? = none ∨ ys[k2]? = none)
    (hQ : ∀ h', (∀ c o, c ≠ z → c ≠ i1 → c ≠ i2 → s.heap.get? c = some o → h'.get? c = some o) → Q none { s with heap := h' }) : wpAny (model prog w) A (pyNext (.ref z)) Q E s := by
  have hTy : s.TypeIs (.ref z) "zip" := ⟨_, hz, rfl⟩
  unfold pyNext
  refine wpAny_bind (wpAny_attempt (wpAny_callSpecial?_slot (name := Str.ofString "__next__") hTy F.slot_zip_next
    (wpAny_call_entry F.slot_zip_next hTy F.entry_zip_next (zip_next_over hh D hz hT hTI h1 h2 hl1 hl2 hend fun h' e hk he => ?_) (F.args_zip_next_1 _))))
  obtain ⟨o, ho, hc⟩ := he
  refine wpAny_bind (wpAny_isInstance (T := "StopIteration") (b := true) ⟨o, ho, hc⟩ isSubtype_stop ?_)
  exact wpAny_pure (hQ _ hk)
end
/-- the list that grows -/
noncomputable def lzItems (S i : Nat) : Array Value := ((List.range i).map fun j => Value.ref ((S + 1 + j : Nat) : Addr)).toArray
theorem lzItems_succ (S i : Nat) : (lzItems S i).push (.ref ((S + 1 + i : Nat) : Addr)) = lzItems S (i + 1) := by
  unfold lzItems
  rw [List.range_succ, List.map_append]
  simp
theorem lzItems_size (S i : Nat) : (lzItems S i).size = i := by unfold lzItems; simp
/-- what is there at last -/
structure LzFin (h0 h : Heap) (S : Nat) (ch : List Addr) (xs ys : Array Value) (n : Nat) : Prop where
  lst : ∃ c, h.get? S = some { cls := .type "list", dict := none, data := .seq (lzItems S n) c, slots := #[] }
  tup : ∀ j, j < n → ∃ x y, xs[j]? = some x ∧ ys[j]? = some y ∧ IsPair h ((S + 1 + j : Nat) : Addr) x y
  kept : ∀ c o, c ∉ ch → h0.get? c = some o → h.get? c = some o
structure LzSt (h0 h : Heap) (S : Nat) (z TI TO i1 i2 l1 l2 : Addr) (xs ys : Array Value) (i : Nat) : Prop extends LzFin h0 h S [z, TO, i1, i2] xs ys i where
  size : h.objs.size = S + 1 + i
  zip : (i = 0 ∧ IsZip h z TI TO .none) ∨ (0 < i ∧ ∃ T b, (∃ o, h.get? T = some o) ∧ IsZipB h z TI TO T b ∧ S < (T : Nat))
  ti : IsPair h TI (.ref i1) (.ref i2)
  to : ∃ a b, IsPair h TO a b
  it1 : h.IsListIter i1 l1 i
  it2 : h.IsListIter i2 l2 i
  ls1 : h.IsList l1 xs
  ls2 : h.IsList l2 ys
section
variable {prog : Program} {w : World} {A : Around} {R : Result → Shared → Prop}
theorem lz_loop (hh : A.in1.handled = none) {h0 : Heap} {S : Nat} {z TI TO i1 i2 l1 l2 : Addr} (D : ZipApart z TI TO i1 i2 l1 l2) (hlt : ∀ a ∈ [z, TI, TO, i1, i2, l1, l2], (a : Nat) < S) (h0S : h0.get? S = none)
    {xs ys : Array Value} {n : Nat} (hn : n ≤ 1000) (hx : ∀ i, i < n → ∃ x y, xs[i]? = some x ∧ ys[i]? = some y) (hend : xs[n]? = none ∨ ys[n]? = none) (res : Value) :
    ∀ (k i : Nat) (s : Shared), n - i = k → i ≤ n → LzSt h0 s.heap S z TI TO i1 i2 l1 l2 xs ys i →
    (∀ h', LzFin h0 h' S [z, TO, i1, i2] xs ys n → R (.ok (.ret res)) { s with heap := h' }) →
    codeAny (model prog w) A (.builtin "list.extend.loop" ⟨[.ref S, .ref z, res], []⟩) R s := by
  have neS : ∀ a ∈ [z, TI, TO, i1, i2, l1, l2], ∀ j : Nat, S ≤ j → (j : Addr) ≠ a := fun a ha j hj => Nat.ne_of_gt (Nat.lt_of_lt_of_le (hlt a ha) hj)
  have neN : ∀ j : Nat, S ≤ j → (j : Addr) ≠ z ∧ (j : Addr) ≠ TO ∧ (j : Addr) ≠ i1 ∧ (j : Addr) ≠ i2 := fun j hj => ⟨neS z (by simp) j hj, neS TO (by simp) j hj, neS i1 (by simp) j hj, neS i2 (by simp) j hj⟩
  -- what a step that leaves all but four as they are keeps
  have fin : ∀ {g h' : Heap} {i : Nat}, LzFin h0 g S [z, TO, i1, i2] xs ys i → (∀ c o, c ≠ z → c ≠ TO → c ≠ i1 → c ≠ i2 → g.get? c = some o → h'.get? c = some o) → LzFin h0 h' S [z, TO, i1, i2] xs ys i := fun {g h' i} st hk => by
    obtain ⟨c, hl⟩ := st.lst
    obtain ⟨n1, n2, n3, n4⟩ := neN S (Nat.le_refl _)
    refine ⟨⟨c, hk S _ n1 n2 n3 n4 hl⟩, fun j hj => ?_, fun c' o hc e => ?_⟩
    · obtain ⟨x, y, e1, e2, e3⟩ := st.tup j hj
      obtain ⟨n1, n2, n3, n4⟩ := neN (S + 1 + j) (by omega)
      exact ⟨x, y, e1, e2, hk _ _ n1 n2 n3 n4 e3⟩
    · have hc' := hc
      simp only [List.mem_cons, List.mem_nil_iff, or_false, not_or] at hc'
      exact hk c' o hc'.1 hc'.2.1 hc'.2.2.1 hc'.2.2.2 (st.kept c' o hc e)
  intro k
  induction k with
  | zero =>
    intro i s hk hi st hR
    have hin : i = n := by omega
    subst hin
    refine codeAny_builtin F.entry_extend_loop ?_
    rw [Around.under_plainId F.plain_extend_loop _]
    show wpAny _ A.in1 (pyNext (.ref z) >>= _) _ _ s
    obtain ⟨a, b, hTO⟩ := st.to
    refine wpAny_bind ?_
    rcases st.zip with ⟨e0, g⟩ | ⟨e0, T, bb, ⟨oT, hT⟩, g, _⟩
    · exact wpAny_pyNext_zip_end hh D g st.ti hTO st.it1 st.it2 st.ls1 st.ls2 hend fun h' hk => wpAny_pure (hR h' (fin st.toLzFin hk))
    · exact pyNext_over hh D g ⟨oT, hT⟩ st.ti st.it1 st.it2 st.ls1 st.ls2 hend fun h' hk => wpAny_pure (hR h' (fin st.toLzFin fun c o c1 c2 c3 c4 e => hk c o c1 c3 c4 e))
  | succ k ih =>
    intro i s hk hi st hR
    have hlt' : i < n := by omega
    refine codeAny_builtin F.entry_extend_loop ?_
    rw [Around.under_plainId F.plain_extend_loop _]
    show wpAny _ A.in1 (pyNext (.ref z) >>= _) _ _ s
    obtain ⟨a, b, hTO⟩ := st.to
    obtain ⟨x, y, hx1, hy1⟩ := hx i hlt'
    -- both ways end so
    have both : ∀ h', (((0 < i + 1) ∧ ∃ T b, (∃ o, h'.get? T = some o) ∧ IsZipB h' z TI TO T b ∧ S < (T : Nat))) → (∃ a b, IsPair h' TO a b) → h'.IsListIter i1 l1 (i + 1) → h'.IsListIter i2 l2 (i + 1) → IsPair h' s.heap.objs.size x y → h'.objs.size = s.heap.objs.size + 1 →
        (∀ c o, c ≠ z → c ≠ TO → c ≠ i1 → c ≠ i2 → s.heap.get? c = some o → h'.get? c = some o) →
        wpAny (model prog w) A.in1 (Builtin.List.listUpdate (.ref S) (·.push (.ref s.heap.objs.size)) >>= fun _ => again (.builtin "list.extend.loop" ⟨[.ref S, .ref z, res], []⟩))
          (fun fin s' => match fin with | .done f => R (.ok f) s' | .again c' => c'.quiet = true ∧ codeAny (model prog w) A c' R s') (fun e s' => R (.error e) s') { s with heap := h' } := by
      intro h' hz hTO' g1 g2 gp gs hk'
      have F1 := fin st.toLzFin hk'
      obtain ⟨c, hl⟩ := F1.lst
      rw [st.size] at gp gs ⊢
      show wpAny _ A.in1 (updateSeq S (·.push (.ref ((S + 1 + i : Nat) : Addr))) >>= _) _ _ _
      refine wpAny_bind (wpAny_updateSeq hl rfl (wpAny_pure ⟨plainId_quiet F.plain_extend_loop _, ih (i + 1) _ (by omega) hlt' ?_ fun h'' f => hR h'' f⟩) (by rw [lzItems_size]; exact Nat.le_of_lt (small1000 (by omega))) (by show ((lzItems S i).push _).size ≤ sizeLine + 1; rw [Array.size_push, lzItems_size]; have := small1000 (n := i) (by omega); omega))
      have self := Heap.get?_update_self (Obj.mapSeq (·.push (Value.ref ((S + 1 + i : Nat) : Addr)))) hl rfl
      have oth : ∀ b o, b ≠ (S : Addr) → h'.get? b = some o → (h'.update S (Obj.mapSeq (·.push (Value.ref ((S + 1 + i : Nat) : Addr))))).get? b = some o := fun b o hb e => (Heap.get?_update_other _ _ (Ne.symm hb)).trans e
      have ol : ∀ a ∈ [z, TI, TO, i1, i2, l1, l2], ∀ o, h'.get? a = some o → (h'.update S (Obj.mapSeq (·.push (Value.ref ((S + 1 + i : Nat) : Addr))))).get? a = some o := fun a ha o e => oth a o (neS a ha S (Nat.le_refl _)).symm e
      obtain ⟨q0, T, bb, ⟨oT, hT⟩, hzb, hTS⟩ := hz
      obtain ⟨a', b', hTO'⟩ := hTO'
      have self2 : ∃ c2, (h'.update S (Obj.mapSeq (·.push (Value.ref ((S + 1 + i : Nat) : Addr))))).get? S = some { cls := .type "list", dict := none, data := .seq ((lzItems S i).push (.ref ((S + 1 + i : Nat) : Addr))) c2, slots := #[] } := ⟨_, self⟩
      rw [lzItems_succ] at self2
      refine ⟨⟨self2, fun j hj => ?_, fun c' o hc e => ?_⟩, ?_, .inr ⟨q0, T, bb, ⟨oT, oth T oT (Nat.ne_of_gt hTS) hT⟩, ol z (by simp) _ hzb, hTS⟩, ol TI (by simp) _ (hk' TI _ D.TIz D.TITO D.TIi1 D.TIi2 st.ti), ⟨a', b', ol TO (by simp) _ hTO'⟩, g1.at fun o e => ol i1 (by simp) o e, g2.at fun o e => ol i2 (by simp) o e, ?_, ?_⟩
      · by_cases q : j < i
        · obtain ⟨x', y', e1, e2, e3⟩ := F1.tup j q
          exact ⟨x', y', e1, e2, oth _ _ (Nat.ne_of_gt (by omega)) e3⟩
        · have : j = i := by omega
          subst this
          exact ⟨x, y, hx1, hy1, oth _ _ (Nat.ne_of_gt (by omega)) gp⟩
      · by_cases q : c' = (S : Addr)
        · rw [q, h0S] at e; cases e
        · exact oth c' o q (F1.kept c' o hc e)
      · rw [Heap.size_update, gs]
        omega
      · exact st.ls1.at fun o e => ol l1 (by simp) o (hk' l1 o D.l1z D.l1TO D.l1i1 D.l1i2 e)
      · exact st.ls2.at fun o e => ol l2 (by simp) o (hk' l2 o D.l2z D.l2TO D.l2i1 D.l2i2 e)
    refine wpAny_bind ?_
    rcases st.zip with ⟨e0, g⟩ | ⟨e0, T, bb, ⟨oT, hT⟩, g, hTS⟩
    · refine wpAny_pyNext_zip_item D g st.ti hTO st.it1 st.it2 st.ls1 st.ls2 hx1 hy1 fun h' a1 a2 a3 a4 a5 a6 a7 => ?_
      exact both h' ⟨by omega, s.heap.objs.size, false, ⟨_, a5⟩, a1, by rw [st.size]; omega⟩ ⟨_, _, a2⟩ a3 a4 a5 a6 a7
    · refine pyNext_more D g ⟨oT, hT⟩ st.ti st.it1 st.it2 st.ls1 st.ls2 hx1 hy1 fun h' a1 a3 a4 a5 a6 a7 => ?_
      obtain ⟨nz, nTO, n1, n2⟩ : T ≠ z ∧ T ≠ TO ∧ T ≠ i1 ∧ T ≠ i2 := neN T (Nat.le_of_lt hTS)
      exact both h' ⟨by omega, T, true, ⟨_, a7 T _ nz n1 n2 hT⟩, a1, hTS⟩ ⟨a, b, a7 TO _ D.TOz D.TOi1 D.TOi2 hTO⟩ a3 a4 a5 a6 fun c o c1 c2 c3 c4 e => a7 c o c1 c3 c4 e

theorem lz_extend {s : Shared} (hh : A.in1.handled = none) {h0 : Heap} {S : Nat} {z TI TO i1 i2 l1 l2 : Addr} (D : ZipApart z TI TO i1 i2 l1 l2) (hlt : ∀ a ∈ [z, TI, TO, i1, i2, l1, l2], (a : Nat) < S) (h0S : h0.get? S = none)
    {xs ys : Array Value} {n : Nat} (hn : n ≤ 1000) (hx : ∀ i, i < n → ∃ x y, xs[i]? = some x ∧ ys[i]? = some y) (hend : xs[n]? = none ∨ ys[n]? = none) (res : Value) {c₀ : Nat}
    (hS : s.heap.get? S = some { cls := .type "list", data := .seq #[] c₀ }) (hsz : s.heap.objs.size = S + 1) (g : IsZip s.heap z TI TO .none) (gTI : IsPair s.heap TI (.ref i1) (.ref i2)) (gTO : ∃ a b, IsPair s.heap TO a b)
    (g1 : s.heap.IsListIter i1 l1 0) (g2 : s.heap.IsListIter i2 l2 0) (gl1 : s.heap.IsList l1 xs) (gl2 : s.heap.IsList l2 ys) (kp : ∀ c o, c ∉ [z, TO, i1, i2] → h0.get? c = some o → s.heap.get? c = some o)
    (hR : ∀ h', LzFin h0 h' S [z, TO, i1, i2] xs ys n → R (.ok (.ret res)) { s with heap := h' }) :
    wpAny (model prog w) A.in1 (Builtin.List.listExtendWith (.ref S) (.ref z) res)
      (fun fin s' => match fin with | .done f => R (.ok f) s' | .again c' => c'.quiet = true ∧ codeAny (model prog w) A c' R s') (fun e s' => R (.error e) s') s := by
  have hSz : (S : Addr) ≠ z := Nat.ne_of_gt (hlt z (by simp))
  have hT : s.TypeIs (.ref z) "zip" := ⟨_, g, rfl⟩
  unfold Builtin.List.listExtendWith
  refine wpAny_bind (wpAny_typeOf hT ?_)
  have h1 : Builtin.List.listSameRef (.ref S) (.ref z) = false := by simp [Builtin.List.listSameRef, hSz]
  have h2 : (Value.type "zip" == Value.type "list") = false := by decide
  have h3 : (Value.type "zip" == Value.type "tuple") = false := by decide
  simp only [h1, h2, h3, Bool.or_false, Bool.false_eq_true, if_false]
  refine wpAny_bind (wpAny_pyIter_zip g ?_)
  refine wpAny_bind (wpAny_holding ?_)
  unfold Builtin.List.listLengthHint
  refine wpAny_bind (wpAny_specialOf hT zip_no_len ?_)
  show wpAny _ A.in1 (specialOf (Value.ref z) (Str.ofString "__length_hint__") >>= _) _ _ _
  refine wpAny_bind (wpAny_specialOf hT zip_no_hint ?_)
  refine wpAny_pure ?_
  show wpAny _ A.in1 (rule "list.extend.makes-room" >>= fun _ => Builtin.List.listTouch (.ref S) >>= fun _ =>
    again (.builtin "list.extend.loop" ⟨[.ref S, .ref z, res], []⟩)) _ _ _
  refine wpAny_bind (wpAny_rule ?_)
  refine wpAny_bind ?_
  show wpAny _ A.in1 (updateSeq S (·.push .none) >>= fun _ => updateSeq S (·.pop)) _ _ _
  refine wpAny_bind (wpAny_updateSeq hS rfl ?_)
  have hS₂ := Heap.get?_update_self (Obj.mapSeq (·.push Value.none)) hS rfl
  refine wpAny_updateSeq (hz := by seq_fits) hS₂ rfl ?_
  have hS₃ := Heap.get?_update_self (Obj.mapSeq (·.pop)) hS₂ rfl
  have oth : ∀ b o, b ≠ (S : Addr) → s.heap.get? b = some o → ((s.heap.update S (Obj.mapSeq (·.push Value.none))).update S (Obj.mapSeq (·.pop))).get? b = some o :=
    fun b o hb e => (Heap.get?_update_other _ _ (Ne.symm hb)).trans ((Heap.get?_update_other _ _ (Ne.symm hb)).trans e)
  have ol : ∀ a ∈ [z, TI, TO, i1, i2, l1, l2], ∀ o, s.heap.get? a = some o → ((s.heap.update S (Obj.mapSeq (·.push Value.none))).update S (Obj.mapSeq (·.pop))).get? a = some o := fun a ha o e => oth a o (Nat.ne_of_lt (hlt a ha)) e
  obtain ⟨a', b', gTO⟩ := gTO
  refine wpAny_pure ⟨plainId_quiet F.plain_extend_loop _, lz_loop hh D hlt h0S hn hx hend res n 0 _ rfl (Nat.zero_le _) ⟨⟨⟨_, hS₃⟩, fun j hj => absurd hj (Nat.not_lt_zero _), fun c o hc e => ?_⟩, ?_, .inl ⟨rfl, ol z (by simp) _ g⟩, ol TI (by simp) _ gTI, ⟨a', b', ol TO (by simp) _ gTO⟩, g1.at fun o e => ol i1 (by simp) o e, g2.at fun o e => ol i2 (by simp) o e, gl1.at fun o e => ol l1 (by simp) o e, gl2.at fun o e => ol l2 (by simp) o e⟩ hR⟩
  · by_cases q : c = (S : Addr)
    · rw [q, h0S] at e; cases e
    · exact oth c o q (kp c o hc e)
  · rw [Heap.size_update, Heap.size_update, hsz]
theorem lz_init {s : Shared} (hh : A.in1.handled = none) {h0 : Heap} {S : Nat} {z TI TO i1 i2 l1 l2 : Addr} (D : ZipApart z TI TO i1 i2 l1 l2) (hlt : ∀ a ∈ [z, TI, TO, i1, i2, l1, l2], (a : Nat) < S) (h0S : h0.get? S = none)
    {xs ys : Array Value} {n : Nat} (hn : n ≤ 1000) (hx : ∀ i, i < n → ∃ x y, xs[i]? = some x ∧ ys[i]? = some y) (hend : xs[n]? = none ∨ ys[n]? = none)
    (hS : s.heap.get? S = some { cls := .type "list", data := .seq #[] }) (hsz : s.heap.objs.size = S + 1) (g : IsZip s.heap z TI TO .none) (gTI : IsPair s.heap TI (.ref i1) (.ref i2)) (gTO : ∃ a b, IsPair s.heap TO a b)
    (g1 : s.heap.IsListIter i1 l1 0) (g2 : s.heap.IsListIter i2 l2 0) (gl1 : s.heap.IsList l1 xs) (gl2 : s.heap.IsList l2 ys) (kp : ∀ c o, c ∉ [z, TO, i1, i2] → h0.get? c = some o → s.heap.get? c = some o)
    (hR : ∀ h', LzFin h0 h' S [z, TO, i1, i2] xs ys n → R (.ok (.ret .none)) { s with heap := h' }) :
    wpAny (model prog w) A.in1 (Builtin.«list.__init__» ⟨[.ref S, .ref z], []⟩)
      (fun fin s' => match fin with | .done f => R (.ok f) s' | .again c' => c'.quiet = true ∧ codeAny (model prog w) A c' R s') (fun e s' => R (.error e) s') s := by
  show wpAny _ A.in1 (do let old ← Builtin.List.listItems (.ref S); Builtin.List.listUpdate (.ref S) (fun _ => #[]); letGo old.toList.reverse; Builtin.List.listExtendWith (.ref S) (.ref z) .none) _ _ s
  refine wpAny_bind ?_
  unfold Builtin.List.listItems
  refine wpAny_bind (wpAny_seqItems hS rfl (wpAny_pure ?_))
  show wpAny _ A.in1 (updateSeq S (fun _ => #[]) >>= fun _ => letGo (#[] : Array Value).toList.reverse >>= fun _ => Builtin.List.listExtendWith (.ref S) (.ref z) .none) _ _ s
  refine wpAny_bind (wpAny_updateSeq hS rfl ?_)
  have hS₂ := Heap.get?_update_self (Obj.mapSeq (fun _ => (#[] : Array Value))) hS rfl
  have oth : ∀ b o, b ≠ (S : Addr) → s.heap.get? b = some o → (s.heap.update S (Obj.mapSeq (fun _ => (#[] : Array Value)))).get? b = some o :=
    fun b o hb e => (Heap.get?_update_other _ _ (Ne.symm hb)).trans e
  have ol : ∀ a ∈ [z, TI, TO, i1, i2, l1, l2], ∀ o, s.heap.get? a = some o → (s.heap.update S (Obj.mapSeq (fun _ => (#[] : Array Value)))).get? a = some o := fun a ha o e => oth a o (Nat.ne_of_lt (hlt a ha)) e
  obtain ⟨a', b', gTO⟩ := gTO
  refine wpAny_bind (wpAny_letGo ?_)
  refine lz_extend hh D hlt h0S hn hx hend .none hS₂ (by rw [Heap.size_update, hsz]) (ol z (by simp) _ g) (ol TI (by simp) _ gTI) ⟨a', b', ol TO (by simp) _ gTO⟩ (g1.at fun o e => ol i1 (by simp) o e) (g2.at fun o e => ol i2 (by simp) o e) (gl1.at fun o e => ol l1 (by simp) o e) (gl2.at fun o e => ol l2 (by simp) o e) (fun c o hc e => ?_) hR
  by_cases q : c = (S : Addr)
  · rw [q, h0S] at e; cases e
  · exact oth c o q (kp c o hc e)
end
theorem call_list_zip {prog : Program} {w : World} {A : Around} {E : Value → Shared → Prop} {s : Shared} {Q : Value → Shared → Prop} (hh : A.in1.in1.handled = none) {z TI TO i1 i2 l1 l2 : Addr} (D : ZipApart z TI TO i1 i2 l1 l2)
    {xs ys : Array Value} {n : Nat} (hn : n ≤ 1000) (hx : ∀ i, i < n → ∃ x y, xs[i]? = some x ∧ ys[i]? = some y) (hend : xs[n]? = none ∨ ys[n]? = none)
    (g : IsZip s.heap z TI TO .none) (gTI : IsPair s.heap TI (.ref i1) (.ref i2)) (gTO : ∃ a b, IsPair s.heap TO a b)
    (g1 : s.heap.IsListIter i1 l1 0) (g2 : s.heap.IsListIter i2 l2 0) (gl1 : s.heap.IsList l1 xs) (gl2 : s.heap.IsList l2 ys)
    (hQ : ∀ h', LzFin s.heap h' s.heap.objs.size [z, TO, i1, i2] xs ys n → Q (.ref s.heap.objs.size) { s with heap := h' }) :
    wpAny (model prog w) A (call (.type "list") [.ref z]) Q E s := by
  refine callType_codes (Q₁ := fun obj s₁ => obj = .ref s.heap.objs.size ∧ s₁ = { s with heap := s.heap.push { cls := .type "list", data := .seq #[] } }) F.called_list (F.typeCall_list_1 _) F.entry_list_init
    (code_list_new _ ⟨rfl, rfl⟩) fun obj s₁ h₁ => ?_
  obtain ⟨rfl, rfl⟩ := h₁
  have hS : (s.heap.push { cls := .type "list", data := .seq #[] }).get? s.heap.objs.size = some { cls := .type "list", data := .seq #[] } := Heap.get?_push_size _ rfl
  have hlt : ∀ a ∈ [z, TI, TO, i1, i2, l1, l2], (a : Nat) < s.heap.objs.size := fun a ha => by
    obtain ⟨a', b', gTO⟩ := gTO
    simp only [List.mem_cons, List.mem_nil_iff, or_false] at ha
    rcases ha with rfl | rfl | rfl | rfl | rfl | rfl | rfl
    · exact Heap.lt_size g
    · exact Heap.lt_size gTI
    · exact Heap.lt_size gTO
    · obtain ⟨_, e, _⟩ := g1; exact Heap.lt_size e
    · obtain ⟨_, e, _⟩ := g2; exact Heap.lt_size e
    · obtain ⟨_, e, _⟩ := gl1; exact Heap.lt_size e
    · obtain ⟨_, e, _⟩ := gl2; exact Heap.lt_size e
  have h0S : s.heap.get? s.heap.objs.size = none := by
    cases e : s.heap.get? s.heap.objs.size with
    | none => rfl
    | some o => exact absurd (Heap.lt_size e) (Nat.lt_irrefl _)
  obtain ⟨a', b', gTO⟩ := gTO
  have up : ∀ {c : Addr} {o : Obj}, s.heap.get? c = some o → (s.heap.push { cls := .type "list", data := .seq #[] }).get? c = some o := fun e => Heap.get?_push_of_some _ e
  refine ⟨⟨_, hS, rfl⟩, F.args_list_init_2 _ _, lz_init hh D hlt h0S hn hx hend hS (Heap.size_push ..) (up g) (up gTI) ⟨a', b', up gTO⟩ (g1.at fun o e => up e) (g2.at fun o e => up e) (gl1.at fun o e => up e) (gl2.at fun o e => up e) (fun c o _ e => up e) fun h' f => ⟨rfl, hQ h' f⟩⟩

/-! ### the rule -/
theorem paired_get {α β : Type} {F : α → β → Prop} : ∀ {l : List α} {m : List β}, l.length = m.length → (∀ (i : Nat) a b, l[i]? = some a → m[i]? = some b → F a b) → Paired F l m
  | [], [], _, _ => .nil
  | [], b :: m, h, _ => by simp at h
  | a :: l, [], h, _ => by simp at h
  | a :: l, b :: m, h, k => .cons (k 0 a b rfl rfl) (paired_get (by simpa using h) fun i x y e1 e2 => k (i + 1) x y (by simpa using e1) (by simpa using e2))
theorem paired_map {α β γ : Type} {F : β → γ → Prop} {f : α → β} {g : α → γ} (h : ∀ a, F (f a) (g a)) : ∀ l : List α, Paired F (l.map f) (l.map g)
  | [] => .nil
  | a :: l => .cons (h a) (paired_map h l)
noncomputable def lzH (H : Hp) (S n : Nat) (xs ys : List V) : Hp := fun a => if (a : Nat) < S then H a else if (a : Nat) = S then some (.lst ((List.range n).map fun j => V.ref ((S + 1 + j : Nat) : Addr))) else if (a : Nat) ≤ S + n then some (.tup [xs.getD ((a : Nat) - S - 1) .non, ys.getD ((a : Nat) - S - 1) .non]) else H a
theorem lzH_old {H : Hp} {S n : Nat} {xs ys : List V} {a : Addr} (h : (a : Nat) < S) : lzH H S n xs ys a = H a := if_pos h
theorem lzH_lst {H : Hp} {S n : Nat} {xs ys : List V} : lzH H S n xs ys S = some (.lst ((List.range n).map fun j => V.ref ((S + 1 + j : Nat) : Addr))) := by
  unfold lzH
  rw [if_neg (Nat.lt_irrefl _), if_pos rfl]
theorem lzH_tup {H : Hp} {S n j : Nat} {xs ys : List V} (h : j < n) : lzH H S n xs ys ((S + 1 + j : Nat) : Addr) = some (.tup [xs.getD j .non, ys.getD j .non]) := by
  unfold lzH
  rw [if_neg (by show ¬ (S + 1 + j < S); omega), if_neg (by show ¬ (S + 1 + j = S); omega), if_pos (by show S + 1 + j ≤ S + n; omega)]
  have e : S + 1 + j - S - 1 = j := by omega
  show some (HO.tup [xs.getD (S + 1 + j - S - 1) .non, ys.getD (S + 1 + j - S - 1) .non]) = _
  rw [e]
noncomputable def lzP (H : Hp) (q : V × V) (v : V) : Prop := ∃ t, v = .ref t ∧ H t = some (.tup [q.1, q.2])
noncomputable def tLz (ta : TA) : TE := fun σ H Q => ta σ H fun vs H1 => ∃ a b xs ys, vs = [.ref a, .ref b] ∧ H1 a = some (.lst xs) ∧ H1 b = some (.lst ys) ∧ xs.length ≤ 1000 ∧
  ∀ l zs H', Same H1 H' → H' l = some (.lst zs) → Paired (lzP H') (xs.zip ys) zs → Q (.ref l) H'
theorem pe_lz {X : Cx} {a b : Expr} {ta : TA} {p1 p2 pos1 pos2 : Pos} (hc : X.calm = true) (hgL : Gl X "list") (hmL : X.mg "list" = none) (hgZ : Gl X "zip") (hmZ : X.mg "zip" = none) (ha : PA X [a, b] ta)
    (hs : starEach [a, b] X.env = (false, eval a X.env) :: starEach [b] X.env := by rfl) (hpl : (backTo pos2 (starEach [b] X.env)).any (·.1) = false := by rfl)
    (hs1 : starEach [.Call (.Name "zip" p2) [a, b] [] pos2] X.env = (false, eval (.Call (.Name "zip" p2) [a, b] [] pos2) X.env) :: starEach [] X.env := by rfl) (hpl1 : (backTo pos1 (starEach [] X.env)).any (·.1) = false := by rfl) :
    PE X (.Call (.Name "list" p1) [.Call (.Name "zip" p2) [a, b] [] pos2] [] pos1) (tLz ta) := by
  intro pins s σ H Q I h
  refine wpAny_Call_Name_kw (ld_blt I hgL hmL PyProof.Rows.boot_list ?_)
  refine PyProof.Rows.callWith_type1 ?_ hs1 hpl1
  rw [hs1]
  show wpAny _ _ (spliced ((false, eval (.Call (.Name "zip" p2) [a, b] [] pos2) X.env) :: backTo pos1 (starEach [] X.env))) _ _ s
  refine Calls.spliced_cons ?_
  refine Call_ (ld_blt I hgZ hmZ boot_zip (PyProof.Rows.callWith_type1 (thn (ha pos2 pins s σ H _ I h) fun us s1 ⟨vs, H1, I1, r1, q1⟩ => ?_) hs hpl))
  obtain ⟨c, d, xs, ys, rfl, ea, eb, hlen, q⟩ := q1
  obtain ⟨u, v, rfl, ru, rv⟩ := r1.two
  cases ru
  cases rv
  obtain ⟨its, r2, pp1, hz⟩ := I1.list (SqL.of (K := X.K) ea)
  obtain ⟨its2, r3, pp2, hz2⟩ := I1.list (SqL.of (K := X.K) eb)
  refine call_zip_2 pp1.isList pp2.isList fun h' gz gTI gTO g1 g2 gsz gk => ?_
  have I2 : Inv X pins σ H1 { s1 with heap := h' } := I1.kept (t' := s1.toks) gk
  refine Calls.spliced_nil ?_
  have l2 := r2.length
  have l3 := r3.length
  have e4 : ∀ k : Nat, s1.heap.objs.size ≤ (s1.heap.objs.size + k : Nat) := fun k => Nat.le_add_right _ _
  have fp : ∀ k : Nat, FpOk X pins H1 ((s1.heap.objs.size + k : Nat) : Addr) := fun k => I1.fpOk (e4 k) (I1.hok.fresh (e4 k))
  have fr : ∀ k : Nat, H1 ((s1.heap.objs.size + k : Nat) : Addr) = none := fun k => I1.hok.fresh (e4 k)
  have nw : ∀ k : Nat, c ≠ ((s1.heap.objs.size + k : Nat) : Addr) ∧ d ≠ ((s1.heap.objs.size + k : Nat) : Addr) := fun k => ⟨ne_of_none ea (fr k), ne_of_none eb (fr k)⟩
  have D : ZipApart (s1.heap.objs.size + 4) (s1.heap.objs.size + 2) (s1.heap.objs.size + 3) s1.heap.objs.size (s1.heap.objs.size + 1) c d :=
    ⟨addr_ne (by omega), addr_ne (by omega), addr_ne (by omega), addr_ne (by omega), addr_ne (by omega), addr_ne (by omega), addr_ne (by omega), addr_ne (by omega), addr_ne (by omega), addr_ne (by omega),
      (nw 4).1, (nw 3).1, (nw 0).1, (nw 1).1, (nw 4).2, (nw 3).2, (nw 0).2, (nw 1).2⟩
  have hd0 := I1.ok.hd hc
  refine call_list_zip (n := min its.length its2.length) hd0 D (by omega) (fun i hi => ⟨its[i]'(by omega), its2[i]'(by omega), by simp, by simp⟩) (by
    rcases Nat.le_total its.length its2.length with h | h
    · exact .inl (by simp; omega)
    · exact .inr (by simp; omega)) gz gTI ⟨_, _, gTO⟩ g1 g2 (pp1.isList.at fun o e => gk _ o e) (pp2.isList.at fun o e => gk _ o e) fun h2 f => ?_
  have hSS : (Shared.heap { s1 with heap := h' }).objs.size = s1.heap.objs.size + 5 := gsz
  rw [hSS] at f ⊢
  generalize hS : s1.heap.objs.size + 5 = S at *
  have old : ∀ a o, H1 a = some o → (a : Nat) < S := fun a o e => by
    rcases Nat.lt_or_ge (a : Nat) S with z | z
    · exact z
    · exact absurd (I1.hok.fresh (Nat.le_trans (by rw [← hS]; exact Nat.le_add_right _ _) z)) (by rw [e]; simp)
  have sm : Same H1 (lzH H1 S (min its.length its2.length) xs ys) := fun a o e => by rw [lzH_old (old a o e)]; exact e
  have chn : ∀ b ∈ [s1.heap.objs.size + 4, s1.heap.objs.size + 3, s1.heap.objs.size, s1.heap.objs.size + 1], FpOk X pins H1 b := fun b hb => by
    simp only [List.mem_cons, List.mem_nil_iff, or_false] at hb
    rcases hb with rfl | rfl | rfl | rfl
    · exact fp 4
    · exact fp 3
    · exact fp 0
    · exact fp 1
  have nch : ∀ a o, H1 a = some o → a ∉ [s1.heap.objs.size + 4, s1.heap.objs.size + 3, s1.heap.objs.size, s1.heap.objs.size + 1] := fun a o e hb => absurd (chn a hb).1 (by rw [e]; simp)
  obtain ⟨c', hl⟩ := f.lst
  have I3 : Inv X pins σ (lzH H1 S (min its.length its2.length) xs ys) { s1 with heap := h2 } := by
    refine Inv.step (s := { s1 with heap := h' }) (h' := h2) I2 (g' := s1.gens) (d' := s1.drawn) (t' := s1.toks) (ch := [s1.heap.objs.size + 4, s1.heap.objs.size + 3, s1.heap.objs.size, s1.heap.objs.size + 1]) (fun b hb => ?_) (fun b o _ _ hb q _ => f.kept b o hb q) (fun b o _ _ hb q _ => ⟨o.slots, f.kept b o hb q⟩)
      (fun b o hb q n => ?_) (fun b o hb q => ⟨o, f.kept b o hb q⟩) (fun b zs q => sm _ _ q) (fun b o u q => sm _ _ q) (fun b ps q => ⟨#[], by rw [sm _ _ q]; simp⟩) (fun m hm => ?_) (fun b o q => ?_) I2.bare
    · have := chn b hb
      exact ⟨this.2.2.2.1, this.2.1, this.2.2.2.2.1, this.2.2.2.2.2⟩
    · rw [lzH_old (by have := Heap.lt_size q; rw [hSS] at this; exact this)]; exact n
    · obtain ⟨o, es', ep, ho, r⟩ := hm
      exact ⟨o, es', ep, f.kept _ o (fun hb => absurd rfl (chn _ hb).2.1) ho, r⟩
    · unfold lzH at q
      split at q
      · rename_i hlt
        refine (I2.hok b o q).stay (fun e v hc' q2 => ?_) (fun e q2 => sm _ _ q2) fun e ys q2 => sm _ _ q2
        refine f.kept e v ?_ q2
        rcases hc' with rfl | hc'
        · exact nch _ _ q
        · exact nch _ _ hc'
      · split at q
        · rename_i _ heq
          have heq : b = (S : Addr) := heq
          subst heq
          cases q
          refine ⟨by rw [List.length_map, List.length_range]; exact Nat.le_of_lt (small1000 (by omega)), (List.range (min its.length its2.length)).map fun j => Value.ref ((b + 1 + j : Nat) : Addr), c', paired_map (F := RelV) (fun j => show RelV (V.ref _) (Value.ref _) from rfl) _, hl⟩
        · split at q
          · rename_i n1 n2 n3
            cases q
            have hb1 : S + 1 ≤ (b : Nat) := Nat.lt_of_le_of_ne (Nat.le_of_not_lt n1) (Ne.symm n2)
            obtain ⟨j, hj⟩ : ∃ j : Nat, (b : Nat) = S + 1 + j := ⟨Nat.sub b (S + 1), (Nat.add_sub_cancel' hb1).symm⟩
            have hj : b = ((S + 1 + j : Nat) : Addr) := hj
            subst hj
            have hjn : j < min its.length its2.length := by
              have n3 : S + 1 + j ≤ S + min its.length its2.length := n3
              omega
            have ej : S + 1 + j - S - 1 = j := by omega
            obtain ⟨x, y, e1, e2, e3⟩ := f.tup j hjn
            have gx : xs[j]? = some (xs.getD j .non) := by rw [List.getD_eq_getElem?_getD, List.getElem?_eq_getElem (by omega)]; rfl
            have gy : ys[j]? = some (ys.getD j .non) := by rw [List.getD_eq_getElem?_getD, List.getElem?_eq_getElem (by omega)]; rfl
            obtain ⟨u1, hu1, ru1⟩ := r2.get gx
            obtain ⟨u2, hu2, ru2⟩ := r3.get gy
            have ex : x = u1 := by
              have : its.toArray[j]? = its[j]? := by simp
              rw [this, hu1] at e1
              exact (Option.some.inj e1).symm
            have ey : y = u2 := by
              have : its2.toArray[j]? = its2[j]? := by simp
              rw [this, hu2] at e2
              exact (Option.some.inj e2).symm
            subst ex ey
            refine ⟨by show 2 ≤ sizeLine; decide, [x, y], ?_, ⟨_, e3, rfl, 0, rfl⟩⟩
            show Vals [xs.getD (S + 1 + j - S - 1) .non, ys.getD (S + 1 + j - S - 1) .non] [x, y]
            rw [ej]
            exact .cons ru1 (.cons ru2 .nil)
          · rename_i n1 n2 n3
            exact absurd (old b o q) n1
  refine ⟨.ref S, _, I3, rfl, q S _ _ sm lzH_lst ?_⟩
  refine paired_get (by rw [List.length_zip, List.length_map, List.length_range]; omega) fun i pq v e1 e2 => ?_
  have hi : i < min its.length its2.length := by
    have := (List.getElem?_eq_some_iff.mp e2).1
    rw [List.length_map, List.length_range] at this
    exact this
  rw [List.getElem?_map, List.getElem?_range hi] at e2
  have e2 : V.ref ((S + 1 + i : Nat) : Addr) = v := Option.some.inj e2
  subst e2
  refine ⟨_, rfl, ?_⟩
  rw [lzH_tup hi]
  rw [List.getElem?_zip_eq_some] at e1
  rw [List.getD_eq_getElem?_getD, List.getD_eq_getElem?_getD, e1.1, e1.2]
  rfl
end L2

set_option Elab.async false
set_option linter.all false
set_option maxRecDepth 100000
/-! any([..]) and all([..]) of a list of truths -/
namespace L2
open PySem PySem.Spec PyProof.Rows
theorem bools_are : ∀ {bs : List Bool} {us : List Value}, Vals (bs.map V.bl) us → LSm.BoolsAre us bs
  | [], _, .nil => .nil
  | b :: bs, _, .cons r t => by cases r; exact .cons b (bools_are t)
noncomputable def rAny (K : PySem.W.Frag) : List V → Hp → VK → Prop := fun xs H Q => ∃ (a : Addr) (bs : List Bool), xs = [.ref a] ∧ SqL K H a (bs.map V.bl) ∧ Q (.bl (bs.any id)) H
theorem call_any {X : Cx} {K : PySem.W.Frag} (hK : X.K = K) (hc : X.calm = true) : CallR X (.builtin "any") (rAny K) := by
  subst hK
  intro pins s σ H xs us Q I rv h
  obtain ⟨l, bs, rfl, hl, q⟩ := h
  obtain ⟨u, rfl, ru⟩ := vals1 rv
  cases ru
  obtain ⟨vs, r2, pl, hz⟩ := I.list hl
  have hb := bools_are r2
  have hL := pl.isList
  have hlt : l < s.heap.objs.size := by obtain ⟨_, e, _⟩ := hL; exact Heap.lt_size e
  refine call_any_walk (wpAny_pyIter_list hL ?_)
  refine ⟨s.heap.objs.size, [s.heap.objs.size, l], [s.heap.objs.size], vs.toArray.size, _, _, fun i => (bs[i]?).getD false, rfl, Walks.list (A := X.A.in1) (I.ok.hd hc) _ l (Nat.ne_of_lt hlt) vs.toArray,
    ⟨⟨_, Heap.get?_push_size _ rfl, rfl, rfl⟩, hL.push _⟩, fun i v s' Q' E' hP hQ => ?_, fun h' tk hk => ?_⟩
  · obtain ⟨b, e, rfl⟩ := hb.get i v (by simpa using hP)
    simp only [e, Option.getD_some] at hQ
    exact wpAny_truthy_bool hQ
  · have e : ((List.range vs.toArray.size).any fun i => (bs[i]?).getD false) = bs.any id := by
      rw [List.size_toArray, hb.length]; exact LSm.range_any bs
    rw [e]
    exact ⟨.bl _, _, I.kept (t' := tk) (LSm.kept_iter hk), rfl, q⟩
end L2

set_option Elab.async false
set_option linter.all false
set_option maxRecDepth 100000
/-! list(reversed(xs)) -/
namespace L2
open PySem PySem.Spec PyProof.Rows
section
variable {prog : Program} {w : World} {A : Around} {s : Shared} {R : Result → Shared → Prop}
end
end L2

set_option Elab.async false
set_option linter.all false
set_option maxRecDepth 100000
/-! Tables set below one another, and blocks cut out. -/
namespace GT
open PySem L2
/-- the list of a told table is a new one -/
noncomputable def FreshT (H H' : Hp) (v : V) : Prop := ∃ p x y l, v = .ref p ∧ H' p = some (.tup [x, y, .ref l]) ∧ H l = none
theorem FreshT.of {H H' : Hp} {p l : Addr} {x y : V} (h : H' p = some (.tup [x, y, .ref l])) (k : H l = none) : FreshT H H' (.ref p) := ⟨p, x, y, l, rfl, h, k⟩
structure Tab where
  R : Nat
  C : Nat
  cs : List Cell
noncomputable def Tab.D (t : Tab) : Dd := tabD t.R t.C t.cs
noncomputable def downCell (d : Nat) (x : Cell) : Cell := { x with top := x.top + d }
noncomputable def stackL : Nat → List Tab → List Cell
  | _, [] => []
  | r, t :: ts => t.cs.map (downCell r) ++ stackL (r + t.R) ts
noncomputable def rowsL : List Tab → Nat
  | [] => 0
  | t :: ts => t.R + rowsL ts
theorem stack_snoc {t : Tab} : ∀ {ts : List Tab} {r : Nat}, stackL r (ts ++ [t]) = stackL r ts ++ t.cs.map (downCell (r + rowsL ts))
  | [], r => by simp [stackL, rowsL]
  | u :: ts, r => by
    show u.cs.map (downCell r) ++ stackL (r + u.R) (ts ++ [t]) = _
    rw [stack_snoc (ts := ts) (r := r + u.R)]
    show _ = (u.cs.map (downCell r) ++ stackL (r + u.R) ts) ++ t.cs.map (downCell (r + (u.R + rowsL ts)))
    rw [List.append_assoc, Nat.add_assoc]
theorem rows_snoc {t : Tab} : ∀ {ts : List Tab}, rowsL (ts ++ [t]) = rowsL ts + t.R
  | [] => by simp [rowsL]
  | u :: ts => by
    show u.R + rowsL (ts ++ [t]) = u.R + rowsL ts + t.R
    rw [rows_snoc (ts := ts)]
    omega
theorem inC_down {d r c : Nat} {x : Cell} : inC (downCell d x) r c ↔ d ≤ r ∧ inC x (r - d) c := by
  unfold inC downCell
  show x.top + d ≤ r ∧ r < x.top + d + x.h ∧ x.left ≤ c ∧ c < x.left + x.w ↔ _
  omega
structure StackOk (r n C : Nat) (cs : List Cell) : Prop where
  fit : ∀ x ∈ cs, Fit (r + n) C x ∧ r ≤ x.top
  dis : cs.Pairwise Apart
  ord : cs.Pairwise Before
  all : ∀ a c, r ≤ a → a < r + n → c < C → cov cs a c
theorem stack_ok {C : Nat} : ∀ {ts : List Tab} {r : Nat}, (∀ t ∈ ts, Tiles t.R C t.cs) → StackOk r (rowsL ts) C (stackL r ts)
  | [], r, _ => ⟨fun x hx => by simp [stackL] at hx, .nil, .nil, fun a c h1 h2 => by simp only [rowsL] at h2; omega⟩
  | t :: ts, r, h => by
    have ih := stack_ok (ts := ts) (r := r + t.R) fun u hu => h u (List.mem_cons_of_mem _ hu)
    have T := h t List.mem_cons_self
    have er : r + (t.R + rowsL ts) = r + t.R + rowsL ts := by omega
    refine ⟨fun x hx => ?_, ?_, ?_, fun a c h1 h2 h3 => ?_⟩
    · rcases List.mem_append.mp hx with hx | hx
      · obtain ⟨y, hy, rfl⟩ := List.mem_map.mp hx
        have f := T.fit y hy
        have := f.down
        exact ⟨⟨f.h1, f.w1, by show y.top + r + y.h ≤ r + (t.R + rowsL ts); omega, f.across, f.words⟩, by show r ≤ y.top + r; omega⟩
      · obtain ⟨f, g⟩ := ih.fit x hx
        exact ⟨⟨f.h1, f.w1, by show x.top + x.h ≤ r + (t.R + rowsL ts); rw [er]; exact f.down, f.across, f.words⟩, by omega⟩
    · refine List.pairwise_append.mpr ⟨List.pairwise_map.mpr (T.dis.imp fun {x y} z => show Apart (downCell r x) (downCell r y) from fun a c h1 h2 => z _ _ (inC_down.mp h1).2 (inC_down.mp h2).2), ih.dis, fun x hx y hy a c h1 h2 => ?_⟩
      obtain ⟨x', hx', rfl⟩ := List.mem_map.mp hx
      have f := (T.fit x' hx').down
      have g := (ih.fit y hy).2
      have h1 := h1.2.1
      have h2 := h2.1
      have h1 : a < x'.top + r + x'.h := h1
      omega
    · refine List.pairwise_append.mpr ⟨List.pairwise_map.mpr (T.ord.imp fun {x y} z => ?_), ih.ord, fun x hx y hy => ?_⟩
      · unfold Before at z ⊢
        show x.top + r < y.top + r ∨ (x.top + r = y.top + r ∧ x.left < y.left)
        omega
      · obtain ⟨x', hx', rfl⟩ := List.mem_map.mp hx
        have f := (T.fit x' hx').down
        have f1 := (T.fit x' hx').h1
        have g := (ih.fit y hy).2
        left
        show x'.top + r < y.top
        omega
    · by_cases z : a < r + t.R
      · obtain ⟨x, hx, hi⟩ := T.all (a - r) c (by omega) h3
        exact ⟨_, List.mem_append_left _ (List.mem_map.mpr ⟨x, hx, rfl⟩), inC_down.mpr ⟨h1, hi⟩⟩
      · obtain ⟨x, hx, hi⟩ := ih.all a c (by omega) (by have h2 : a < r + (t.R + rowsL ts) := h2; omega) h3
        exact ⟨x, List.mem_append_right _ hx, hi⟩
theorem stack_tiles {C : Nat} {ts : List Tab} (h : ∀ t ∈ ts, Tiles t.R C t.cs) : Tiles (rowsL ts) C (stackL 0 ts) := by
  have q := stack_ok (r := 0) h
  have e : 0 + rowsL ts = rowsL ts := by omega
  exact ⟨⟨fun x hx => by have := (q.fit x hx).1; rw [e] at this; exact this, q.dis⟩, fun a c h1 h2 => q.all a c (by omega) (by omega) h2, q.ord⟩
/-! ### blocks -/
noncomputable def liesB (t l h w : Nat) (x : Cell) : Bool := decide (t ≤ x.top ∧ x.top + x.h ≤ t + h ∧ l ≤ x.left ∧ x.left + x.w ≤ l + w)
noncomputable def meetsB (t l h w : Nat) (x : Cell) : Bool := decide (x.top < t + h ∧ t < x.top + x.h ∧ x.left < l + w ∧ l < x.left + x.w)
noncomputable def upCell (t l : Nat) (x : Cell) : Cell := { x with top := x.top - t, left := x.left - l }
noncomputable def cutL (t l h w : Nat) (cs : List Cell) : List Cell := (cs.filter (liesB t l h w)).map (upCell t l)
theorem lies_iff {t l h w : Nat} {x : Cell} : liesB t l h w x = true ↔ t ≤ x.top ∧ x.top + x.h ≤ t + h ∧ l ≤ x.left ∧ x.left + x.w ≤ l + w := decide_eq_true_iff
theorem meets_iff {t l h w : Nat} {x : Cell} : meetsB t l h w x = true ↔ x.top < t + h ∧ t < x.top + x.h ∧ x.left < l + w ∧ l < x.left + x.w := decide_eq_true_iff
theorem up_before {t l h w : Nat} {x y : Cell} (hx : liesB t l h w x = true) (hy : liesB t l h w y = true) (z : Before x y) : Before (upCell t l x) (upCell t l y) := by
  have a := lies_iff.mp hx
  have b := lies_iff.mp hy
  unfold Before at z ⊢
  show x.top - t < y.top - t ∨ (x.top - t = y.top - t ∧ x.left - l < y.left - l)
  omega
theorem cut_sorted {t l h w : Nat} {cs : List Cell} (o : cs.Pairwise Before) : (cutL t l h w cs).Pairwise Before := by
  unfold cutL
  refine List.pairwise_map.mpr ((o.sublist List.filter_sublist).imp_of_mem fun {x y} hx hy z => up_before (List.mem_filter.mp hx).2 (List.mem_filter.mp hy).2 z)
theorem inC_up {t l h w a c : Nat} {x : Cell} (hx : liesB t l h w x = true) : inC (upCell t l x) a c ↔ inC x (a + t) (c + l) := by
  have q := lies_iff.mp hx
  unfold inC upCell
  show x.top - t ≤ a ∧ a < x.top - t + x.h ∧ x.left - l ≤ c ∧ c < x.left - l + x.w ↔ _
  omega
theorem Tiles.cut {R C t l h w : Nat} {cs : List Cell} (T : Tiles R C cs) (h1 : t + h ≤ R) (h2 : l + w ≤ C) (no : ∀ x ∈ cs, meetsB t l h w x = true → liesB t l h w x = true) : Tiles h w (cutL t l h w cs) := by
  refine ⟨⟨fun y hy => ?_, ?_⟩, fun a c ha hc => ?_, cut_sorted T.ord⟩
  · obtain ⟨x, hx, rfl⟩ := List.mem_map.mp hy
    obtain ⟨hx, hl⟩ := List.mem_filter.mp hx
    have f := T.fit x hx
    have q := lies_iff.mp hl
    exact ⟨f.h1, f.w1, by show x.top - t + x.h ≤ h; omega, by show x.left - l + x.w ≤ w; omega, f.words⟩
  · refine List.pairwise_map.mpr ((T.dis.sublist List.filter_sublist).imp_of_mem fun {x y} hx hy z a c g1 g2 => ?_)
    exact z _ _ ((inC_up (List.mem_filter.mp hx).2).mp g1) ((inC_up (List.mem_filter.mp hy).2).mp g2)
  · obtain ⟨x, hx, hi⟩ := T.all (a + t) (c + l) (by omega) (by omega)
    have hm : meetsB t l h w x = true := meets_iff.mpr (by unfold inC at hi; omega)
    have hl := no x hx hm
    exact ⟨_, List.mem_map.mpr ⟨x, List.mem_filter.mpr ⟨hx, hl⟩, rfl⟩, (inC_up hl).mpr hi⟩
/-! ### two tables, cut out again -/
theorem map_same {f : Cell → Cell} {l : List Cell} (h : ∀ x ∈ l, f x = x) : l.map f = l := by
  conv => rhs; rw [← List.map_id l]
  exact List.map_congr_left h
end GT

set_option Elab.async false
set_option linter.all false
set_option maxRecDepth 100000
/-! Trees of tables. -/
namespace GT
open PySem L2
/-! ### what is new: no list that was there -/
noncomputable def isL : Option HO → Bool
  | some (.lst _) => true
  | _ => false
noncomputable def less (H H' : Hp) : Hp := fun a => if isL (H a) = true then none else H' a
theorem less_sub {H H' : Hp} : Same (less H H') H' := fun a o e => by
  unfold less at e
  split at e
  · cases e
  · exact e
theorem less_mono {H H1 H2 : Hp} (s : Same H1 H2) : Same (less H H1) (less H H2) := fun a o e => by
  unfold less at e ⊢
  split at e
  · cases e
  · rename_i q
    rw [if_neg q]
    exact s a o e
/-- fewer lists are left out -/
theorem less_less {H H1 H2 : Hp} (h : ∀ a xs, H a = some (.lst xs) → ∃ ys, H1 a = some (.lst ys)) : Same (less H1 H2) (less H H2) := fun a o e => by
  unfold less at e ⊢
  split at e
  · cases e
  · rename_i q
    rw [if_neg]
    · exact e
    · intro z
      cases eh : H a with
      | none => rw [eh] at z; cases z
      | some oo =>
        rw [eh] at z
        cases oo with
        | lst xs =>
          obtain ⟨ys, hy⟩ := h a xs eh
          rw [hy] at q
          exact q rfl
        | _ => cases z
theorem less_upd {H H' : Hp} {m : Addr} {xs : List V} {o : HO} (h : H m = some (.lst xs)) : less H (upd H' m o) = less H H' := by
  funext a
  unfold less
  by_cases e : a = m
  · subst e
    rw [h]
    rfl
  · rw [upd_ne e]
theorem less_new {H H' : Hp} {a : Addr} (h : H a = none) : less H H' a = H' a := by
  unfold less
  rw [h]
  rfl
theorem less_tup {H H' : Hp} {a : Addr} {xs : List V} (s : Same H H') (h : H' a = some (.tup xs)) : less H H' a = some (.tup xs) := by
  unfold less
  rw [if_neg]
  · exact h
  · intro z
    cases eh : H a with
    | none => rw [eh] at z; cases z
    | some oo =>
      rw [eh] at z
      cases oo with
      | lst ys => rw [s a _ eh] at h; cases h
      | _ => cases z
theorem less_tups {H H' : Hp} (s : Same H H') : SameT H' (less H H') := fun a xs e => less_tup s e
theorem tab_less {H H' : Hp} {R C : Nat} {cs : List Cell} {v : V} (s : Same H H') (h : At H' (tabD R C cs) v) (f : FreshT H H' v) : At (less H H') (tabD R C cs) v := by
  obtain ⟨p, l, ys, rfl, hp, hl, ry⟩ := tab_inv h
  obtain ⟨p', x, y, l', e, hp', hl'⟩ := f
  cases e
  rw [hp] at hp'
  cases hp'
  exact tab_mk (less_tup s hp) (by rw [less_new hl']; exact hl) (ry.monoT (cells_nol cs) (less_tups s))
/-! ### the bands' tables -/
noncomputable def partT (C : Nat) (cs : List Cell) (b : Nat × Nat) : Tab := ⟨b.2 - b.1, C, cutL b.1 0 (b.2 - b.1) C cs⟩
structure BandOk (R : Nat) (cs : List Cell) (b : Nat × Nat) : Prop where
  lt : b.1 < b.2
  le : b.2 ≤ R
  f1 : cs.any (spansB b.1) = false
  f2 : cs.any (spansB b.2) = false
theorem bands_ok {R C : Nat} {cs : List Cell} (t : Part R C cs) (hR : 1 ≤ R) {b : Nat × Nat} (h : b ∈ bandsL R cs) : BandOk R cs b := by
  obtain ⟨i, hi, e⟩ := List.mem_iff_getElem.mp h
  obtain ⟨g1, g2⟩ := bands_get (k := i) (b := b) (by rw [List.getElem?_eq_getElem hi, e])
  have m2 := List.mem_of_getElem? g2
  refine ⟨sorted_next (ends_sorted hR) g1 g2, ?_, ends_free t (List.mem_of_getElem? g1), ends_free t m2⟩
  rcases mem_ends.mp m2 with z | z | z <;> omega
theorem span_no {cs : List Cell} {n : Nat} (h : cs.any (spansB n) = false) {x : Cell} (hx : x ∈ cs) : ¬ (x.top < n ∧ n < x.top + x.h) := fun z => by
  rw [List.any_eq_false] at h
  refine h x hx ?_
  unfold spansB
  exact decide_eq_true z
theorem BandOk.no {R C : Nat} {cs : List Cell} {b : Nat × Nat} (o : BandOk R cs b) (t : Part R C cs) : ∀ x ∈ cs, meetsB b.1 0 (b.2 - b.1) C x = true → liesB b.1 0 (b.2 - b.1) C x = true := fun x hx hm => by
  have f := t.fit x hx
  have a := f.across
  have h1 := f.h1
  have m := meets_iff.mp hm
  have s1 := span_no o.f1 hx
  have s2 := span_no o.f2 hx
  have lt := o.lt
  exact lies_iff.mpr (by omega)
theorem BandOk.tiles {R C : Nat} {cs : List Cell} {b : Nat × Nat} (o : BandOk R cs b) (t : Tiles R C cs) : Tiles (partT C cs b).R C (partT C cs b).cs :=
  t.cut (by show b.1 + (b.2 - b.1) ≤ R; have := o.lt; have := o.le; omega) (by omega) (o.no t.toPart)
theorem BandOk.lies {R C : Nat} {cs : List Cell} {b : Nat × Nat} (o : BandOk R cs b) (t : Part R C cs) {x : Cell} (hx : x ∈ cs) : liesB b.1 0 (b.2 - b.1) C x = decide (b.1 ≤ x.top ∧ x.top < b.2) := by
  have f := t.fit x hx
  have a := f.across
  have h1 := f.h1
  have s1 := span_no o.f1 hx
  have s2 := span_no o.f2 hx
  have lt := o.lt
  rw [Bool.eq_iff_iff, lies_iff, decide_eq_true_iff]
  omega
theorem filter_split {α : Type} {f : α → Nat} {a b : Nat} (hab : a ≤ b) : ∀ {l : List α}, l.Pairwise (fun x y => f x ≤ f y) → l.filter (fun x => decide (a ≤ f x)) = l.filter (fun x => decide (a ≤ f x ∧ f x < b)) ++ l.filter (fun x => decide (b ≤ f x))
  | [], _ => rfl
  | x :: l, h => by
    obtain ⟨h1, h2⟩ := List.pairwise_cons.mp h
    have ih := filter_split (f := f) hab h2
    by_cases q1 : a ≤ f x
    · by_cases q2 : f x < b
      · simp only [List.filter_cons]
        rw [if_pos (decide_eq_true q1), if_pos (decide_eq_true ⟨q1, q2⟩), if_neg (fun z => by have := of_decide_eq_true z; omega), ih]
        rfl
      · have e : (x :: l).filter (fun x => decide (a ≤ f x ∧ f x < b)) = [] := List.filter_eq_nil_iff.mpr fun y hy z => by
          have z := of_decide_eq_true z
          rcases List.mem_cons.mp hy with rfl | hy
          · omega
          · have := h1 y hy; omega
        rw [e, List.nil_append]
        refine List.filter_congr fun y hy => ?_
        rw [decide_eq_decide]
        rcases List.mem_cons.mp hy with rfl | hy
        · omega
        · have := h1 y hy; omega
    · simp only [List.filter_cons]
      rw [if_neg (fun z => q1 (of_decide_eq_true z)), if_neg (fun z => q1 (of_decide_eq_true z).1), if_neg (fun z => by have := of_decide_eq_true z; omega), ih]
theorem stack_ends {R C : Nat} {cs : List Cell} (t : Tiles R C cs) : ∀ (l : List Nat) (a : Nat), (a :: l).Pairwise (· < ·) → (a :: l).getLast? = some R → (∀ n ∈ a :: l, n ≤ R ∧ cs.any (spansB n) = false) →
    stackL a (((a :: l).zip l).map (partT C cs)) = cs.filter (fun x => decide (a ≤ x.top)) ∧ a + rowsL (((a :: l).zip l).map (partT C cs)) = R
  | [], a, _, h2, _ => by
    have e : a = R := by simpa using h2
    subst e
    refine ⟨?_, rfl⟩
    show [] = _
    refine (List.filter_eq_nil_iff.mpr fun x hx z => ?_).symm
    have z := of_decide_eq_true z
    have f := t.fit x hx
    have := f.down
    have := f.h1
    omega
  | b :: l, a, h1, h2, h3 => by
    obtain ⟨g1, g2⟩ := List.pairwise_cons.mp h1
    have lt : a < b := g1 b List.mem_cons_self
    obtain ⟨i1, i2⟩ := stack_ends t l b g2 (by rw [List.getLast?_cons_cons] at h2; exact h2) fun n hn => h3 n (List.mem_cons_of_mem _ hn)
    have o : BandOk R cs (a, b) := ⟨lt, (h3 b (by simp)).1, (h3 a (by simp)).2, (h3 b (by simp)).2⟩
    have eab : a + (b - a) = b := by omega
    refine ⟨?_, ?_⟩
    · show (partT C cs (a, b)).cs.map (downCell a) ++ stackL (a + (b - a)) (((b :: l).zip l).map (partT C cs)) = _
      rw [eab, i1, filter_split (f := fun x : Cell => x.top) (Nat.le_of_lt lt) (t.ord.imp fun {x y} z => by unfold Before at z; omega)]
      congr 1
      show ((cs.filter (liesB a 0 (b - a) C)).map (upCell a 0)).map (downCell a) = _
      rw [List.map_map]
      have e1 : cs.filter (liesB a 0 (b - a) C) = cs.filter fun x => decide (a ≤ x.top ∧ x.top < b) := List.filter_congr fun x hx => o.lies t.toPart hx
      rw [e1]
      refine map_same fun x hx => ?_
      have z := of_decide_eq_true (List.mem_filter.mp hx).2
      show ({ x with top := x.top - a + a, left := x.left - 0 } : Cell) = x
      rw [Nat.sub_add_cancel z.1]
      rfl
    · show a + ((b - a) + rowsL (((b :: l).zip l).map (partT C cs))) = R
      omega
theorem stack_bands {R C : Nat} {cs : List Cell} (t : Tiles R C cs) (hR : 1 ≤ R) : stackL 0 ((bandsL R cs).map (partT C cs)) = cs ∧ rowsL ((bandsL R cs).map (partT C cs)) = R := by
  obtain ⟨i1, i2⟩ := stack_ends t (linesL cs (R - 1) ++ [R]) 0 (ends_sorted (R := R) (cs := cs) hR) (by rw [← List.cons_append]; exact List.getLast?_concat) fun n hn => ⟨by
    rcases mem_ends.mp (show n ∈ endsL R cs from hn) with z | z | z <;> omega, ends_free t.toPart (show n ∈ endsL R cs from hn)⟩
  rw [Nat.zero_add] at i2
  refine ⟨i1.trans ?_, i2⟩
  exact List.filter_eq_self.mpr fun x _ => decide_eq_true (Nat.zero_le _)
theorem bands_pos {R : Nat} {cs : List Cell} : 1 ≤ (bandsL R cs).length := by
  have := ends_len R cs
  have : 2 ≤ (endsL R cs).length := by unfold endsL; simp
  omega
/-! ### the tree of a table -/
end GT

set_option Elab.async false
set_option linter.all false
set_option maxRecDepth 100000
/-! max([..]) of a list of whole numbers -/
namespace L2
open PySem PySem.Spec PyProof.Rows
end L2

set_option Elab.async false
set_option linter.all false
set_option maxRecDepth 100000
/-! Depths and leaves. -/
namespace GT
open PySem L2
end GT

set_option Elab.async false
set_option linter.all false
set_option maxRecDepth 100000
/-! [.. for a, b in zip(xs, ys)]; xs.pop() -/
namespace L2
open PySem PySem.Spec PyProof.Rows
end L2
namespace GT
open PySem L2
/-- all open lines -/
theorem ends_filter {R C : Nat} {cs : List Cell} (t : Part R C cs) (hR : 1 ≤ R) : (List.range (R + 1)).filter (fun n => openB n cs) = endsL R cs := by
  obtain ⟨r, rfl⟩ : ∃ r, R = r + 1 := ⟨R - 1, by omega⟩
  have e1 : List.range (r + 1 + 1) = 0 :: ((List.range r).map (· + 1) ++ [r + 1]) := by
    rw [List.range_succ, List.range_succ_eq_map, List.cons_append]
  have o0 : openB 0 cs = true := by
    unfold openB
    rw [ends_free t (mem_ends.mpr (.inl rfl))]
    rfl
  have oR : openB (r + 1) cs = true := by
    unfold openB
    rw [ends_free t (mem_ends.mpr (.inr (.inr rfl)))]
    rfl
  rw [e1]
  unfold endsL linesL
  rw [List.filter_cons, if_pos o0, List.filter_append]
  congr 2
  rw [List.filter_cons, if_pos oR]
  rfl
theorem range_take_succ {cs : List Cell} {j : Nat} : (List.range (j + 1)).filter (fun n => openB n cs) = (List.range j).filter (fun n => openB n cs) ++ (if openB j cs = true then [j] else []) := by
  rw [List.range_succ, List.filter_append]
  congr 1
  simp only [List.filter_cons, List.filter_nil]
theorem bands_range {R : Nat} {cs : List Cell} {k : Nat} (h : k < (bandsL R cs).length) : ∃ a b, (endsL R cs)[k]? = some a ∧ (endsL R cs)[k + 1]? = some b ∧ (bandsL R cs)[k]? = some (a, b) := by
  have g : (bandsL R cs)[k]? = some (bandsL R cs)[k] := List.getElem?_eq_getElem h
  obtain ⟨g1, g2⟩ := bands_get g
  exact ⟨_, _, g1, g2, g⟩
end GT

set_option Elab.async false
set_option linter.all false
/-! spans, sizes and chains: plain facts -/
namespace SZ
/-! ### the chain -/
end SZ

set_option Elab.async false
set_option linter.all false
set_option maxRecDepth 100000
/-! sum([..]), min([..]) of whole numbers; [.. for i, x in enumerate(xs)] -/
namespace L2
open PySem PySem.Spec PyProof.Rows
end L2

set_option Elab.async false
set_option linter.all false
set_option maxRecDepth 100000
/-! Strips: a table's bands are told again by the table that they are stacked to. -/
namespace GT
open PySem L2
end GT

set_option Elab.async false
set_option linter.all false
set_option autoImplicit false
set_option maxRecDepth 100000
/-! the sort of fewer than 64 items keeps those alike as they stood -/
namespace GS
open PySem PyProof.Rows
structure CmpS (prog : Program) (w : World) (A : Around) (s : Shared) (kind : SortKind) (a0 : Array Keyed) (kr ix : Keyed → Int) : Prop where
  lt : ∀ x y, x ∈ a0.toList → y ∈ a0.toList → ∀ (E : Value → Shared → Prop) (Q : Bool → Shared → Prop), Q (decide (kr x < kr y)) s → wpAny (model prog w) A (keyLt' kind x.1 y.1) Q E s
  idx : ∀ (i : Nat) (p : Keyed), a0[i]? = some p → ix p = (i : Int)
structure SB (kind : SortKind) (a0 : Array Keyed) (st : SortSt) : Prop where
  perm : (arrOf st).Perm a0
  kind : kindOf st = kind
  failed : failedOf st = none
  pend : pendingOf st = #[]
noncomputable def LtP (kr ix : Keyed → Int) (xs : Array Keyed) (i j : Nat) : Prop := rA kr xs i < rA kr xs j ∨ (rA kr xs i = rA kr xs j ∧ rA ix xs i < rA ix xs j)
noncomputable def UpP (kr ix : Keyed → Int) (xs : Array Keyed) (lo hi : Nat) : Prop := ∀ i j, lo ≤ i → i < j → j < hi → LtP kr ix xs i j
noncomputable def DnP (kr ix : Keyed → Int) (xs : Array Keyed) (hi : Nat) : Prop := ∀ i j, i < j → j < hi → LtP kr ix xs j i
/-- from m on all stands as it stood -/
noncomputable def Tl (ix : Keyed → Int) (xs : Array Keyed) (m : Nat) : Prop := ∀ i, m ≤ i → i < xs.size → rA ix xs i = (i : Int)
section
variable {prog : Program} {w : World} {A : Around} {E : Value → Shared → Prop} {s : Shared} {kind : SortKind} {a0 : Array Keyed} {kr ix : Keyed → Int} {st : SortSt}
theorem SB.size (h : SB kind a0 st) : (arrOf st).size = a0.size := h.perm.size_eq
theorem SB.setArr (h : SB kind a0 st) {xs : Array Keyed} (p : xs.Perm (arrOf st)) : SB kind a0 (PyProof.Rows.setArr st xs) := ⟨p.trans h.perm, h.kind, h.failed, h.pend⟩
theorem SB.get (h : SB kind a0 st) {i : Nat} (hi : i < a0.size) : ∃ p, (arrOf st)[i]? = some p ∧ p ∈ a0.toList ∧ ∀ f : Keyed → Int, rA f (arrOf st) i = f p := by
  have hs := h.size
  obtain ⟨x, e1, e2, m⟩ := arr_get (a := arrOf st) (i := i) (by omega)
  exact ⟨x, e1, (Array.perm_iff_toList_perm.mp h.perm).mem_iff.mp m, fun f => rA_of e1⟩
theorem SB.at_ (h : SB kind a0 st) (C : CmpS prog w A s kind a0 kr ix) {i : Nat} (hi : i < a0.size) : ∃ q : Nat, q < a0.size ∧ rA ix (arrOf st) i = (q : Int) := by
  obtain ⟨p, _, m, r⟩ := h.get hi
  obtain ⟨q, hq, e⟩ := List.mem_iff_getElem.mp m
  have hq' : q < a0.size := by simpa using hq
  refine ⟨q, hq', ?_⟩
  rw [r]
  refine C.idx q p ?_
  rw [← Array.getElem?_toList, List.getElem?_eq_getElem hq, e]
theorem SB.inj (h : SB kind a0 st) (C : CmpS prog w A s kind a0 kr ix) {i j : Nat} (hi : i < a0.size) (hj : j < a0.size) (n : i ≠ j) : rA ix (arrOf st) i ≠ rA ix (arrOf st) j := by
  have nd0 : (a0.toList.map ix).Nodup := by
    refine List.pairwise_iff_getElem.mpr fun i j hi hj hij => ?_
    rw [List.length_map] at hi hj
    rw [List.getElem_map, List.getElem_map]
    have e1 := C.idx i (a0.toList[i]) (by rw [← Array.getElem?_toList, List.getElem?_eq_getElem hi])
    have e2 := C.idx j (a0.toList[j]) (by rw [← Array.getElem?_toList, List.getElem?_eq_getElem hj])
    rw [e1, e2]
    omega
  have nd : ((arrOf st).toList.map ix).Nodup := (((Array.perm_iff_toList_perm.mp h.perm)).map ix).nodup_iff.mpr nd0
  obtain ⟨p, e1, _, r1⟩ := h.get hi
  obtain ⟨q, e2, _, r2⟩ := h.get hj
  rw [r1, r2]
  intro e
  have l1 : ((arrOf st).toList.map ix)[i]? = some (ix p) := by rw [List.getElem?_map, Array.getElem?_toList, e1]; rfl
  have l2 : ((arrOf st).toList.map ix)[j]? = some (ix p) := by rw [List.getElem?_map, Array.getElem?_toList, e2, e]; rfl
  obtain ⟨h1, g1⟩ := List.getElem?_eq_some_iff.mp l1
  obtain ⟨h2, g2⟩ := List.getElem?_eq_some_iff.mp l2
  exact n ((List.getElem_inj nd).mp (g1.trans g2.symm))
/-- what stands ahead of m stood there -/
theorem SB.pre (h : SB kind a0 st) (C : CmpS prog w A s kind a0 kr ix) {m j : Nat} (t : Tl ix (arrOf st) m) (hj : j < m) (hm : m ≤ a0.size) : rA ix (arrOf st) j < (m : Int) := by
  obtain ⟨q, hq, e⟩ := h.at_ C (i := j) (by omega)
  rw [e]
  by_cases z : q < m
  · omega
  · have e2 := t q (by omega) (by rw [h.size]; exact hq)
    exact absurd (e.trans e2.symm) (h.inj C (by omega) hq (by omega))
theorem wpS_ltP (C : CmpS prog w A s kind a0 kr ix) {i j : Nat} {Q : Option Bool → SortSt → Prop} (h : SB kind a0 st) (hi : i < a0.size) (hj : j < a0.size) (q : Q (some (decide (rA kr (arrOf st) i < rA kr (arrOf st) j))) st) :
    wpS (model prog w) A E s (ltAt' i j) Q st := by
  obtain ⟨x, e1, m1, r1⟩ := h.get hi
  obtain ⟨y, e2, m2, r2⟩ := h.get hj
  rw [r1, r2] at q
  rw [ltAt'_eq]
  refine wpS_bind (wpS_get ?_)
  refine wpS_bind (wpS_elem e1 (wpS_bind (wpS_elem e2 ?_)))
  rw [lt'_eq]
  refine wpS_bind (wpS_get ?_)
  rw [h.kind]
  refine wpS_bind (wpS_lift (wpAny_attempt (C.lt x y m1 m2 _ _ ⟨rfl, ?_⟩)))
  exact wpS_pure q
theorem wpS_ascS (C : CmpS prog w A s kind a0 kr ix) {a nrem : Nat} {Q : AscSt → SortSt → Prop} (hn : nrem ≤ a0.size) (ha : 1 ≤ a) (han : a ≤ nrem) (B : SB kind a0 st) (t : Tl ix (arrOf st) a) (u : UpP kr ix (arrOf st) 0 a)
    (h : ∀ n, a ≤ n → n ≤ nrem → UpP kr ix (arrOf st) 0 n → (n = nrem ∨ rA kr (arrOf st) n < rA kr (arrOf st) (n - 1)) → Q (none, n) st) :
    wpS (model prog w) A E s (ascLoop a nrem) Q st := by
  unfold ascLoop
  refine wpS_forRange (I := fun x c st' => st' = st ∧ c = (none, x) ∧ UpP kr ix (arrOf st) 0 x) ?step ?fin ⟨rfl, rfl, u⟩
  case fin =>
    rintro c st' ⟨rfl, rfl, hs'⟩
    rw [show max a nrem = nrem by omega] at hs' ⊢
    exact h nrem han (Nat.le_refl _) hs' (.inl rfl)
  case step =>
    rintro x c st' hax hxn ⟨rfl, rfl, hs'⟩
    dsimp only
    refine wpS_bind (wpS_ltP C B (by omega) (by omega) ?_)
    by_cases hw : rA kr (arrOf st') x < rA kr (arrOf st') (x - 1)
    · simp only [decide_eq_true hw, if_true]
      exact wpS_pure (h x hax (by omega) hs' (.inr hw))
    · simp only [decide_eq_false hw, Bool.false_eq_true, if_false]
      refine wpS_pure ⟨rfl, rfl, fun i j b1 b2 b3 => ?_⟩
      have ex := t x hax (by rw [B.size]; omega)
      have ep : rA ix (arrOf st') (x - 1) < (x : Int) := by
        by_cases z : x - 1 < a
        · have := B.pre C t z (by omega)
          omega
        · have := t (x - 1) (by omega) (by rw [B.size]; omega)
          omega
      by_cases hj : j < x
      · exact hs' i j b1 b2 hj
      · have e : j = x := by omega
        subst e
        by_cases hi : i = j - 1
        · subst hi
          unfold LtP
          omega
        · have := hs' i (j - 1) b1 (by omega) (by omega)
          unfold LtP at this ⊢
          omega
theorem mir_get {xs : Array Keyed} {i j : Nat} (hj : j ≤ xs.size) (k : Nat) (f : Keyed → Int) : rA f (mirror xs i j ((j - i) / 2)) k = if i ≤ k ∧ k < j then rA f xs (i + j - 1 - k) else rA f xs k := by
  have g := getElem?_mirror_all (xs := xs) (i := i) hj k
  split
  · rename_i h
    rw [if_pos h] at g
    exact rA_congr g
  · rename_i h
    rw [if_neg h] at g
    exact rA_congr g
theorem mir_size {xs : Array Keyed} {i j : Nat} : (mirror xs i j ((j - i) / 2)).size = xs.size := (mirror_perm _ _ _ _).size_eq
theorem wpS_tail3S (C : CmpS prog w A s kind a0 kr ix) {n nrem : Nat} {Q : Option Nat → SortSt → Prop} (hn : nrem ≤ a0.size) (h1 : 1 ≤ n) (hnn : n ≤ nrem) (B : SB kind a0 st) (t : Tl ix (arrOf st) n) (d : DnP kr ix (arrOf st) n)
    (h : ∀ m st', SB kind a0 st' → 1 ≤ m → m ≤ nrem → Tl ix (arrOf st') m → UpP kr ix (arrOf st') 0 m → Q (some m) st') :
    wpS (model prog w) A E s (tail3 n nrem) Q st := by
  unfold tail3
  have hsz : n ≤ (arrOf st).size := by rw [B.size]; omega
  refine wpS_bind (wpS_reverse ?_)
  have B' : SB kind a0 (PyProof.Rows.setArr st (mirror (arrOf st) 0 n ((n - 0) / 2))) := B.setArr (mirror_perm _ _ _ _)
  have t' : Tl ix (arrOf (PyProof.Rows.setArr st (mirror (arrOf st) 0 n ((n - 0) / 2)))) n := fun i hi hs => by
    show rA ix (mirror (arrOf st) 0 n ((n - 0) / 2)) i = _
    rw [mir_get hsz, if_neg (by omega)]
    exact t i hi (by rw [B'.size] at hs; rw [B.size]; exact hs)
  refine wpS_bind (wpS_ascS C hn h1 hnn B' t' ?_ fun m hm1 hm2 hsm _ => wpS_pure (h m _ B' (by omega) hm2 (fun i hi hs => t' i (by omega) hs) hsm))
  intro i j b1 b2 b3
  show LtP kr ix (mirror (arrOf st) 0 n ((n - 0) / 2)) i j
  unfold LtP
  rw [mir_get hsz, mir_get hsz, mir_get hsz, mir_get hsz, if_pos (by omega), if_pos (by omega), if_pos (by omega), if_pos (by omega)]
  exact d _ _ (by omega) (by omega)
/-- the last ones alike turned about -/
theorem dn_turn {xs : Array Keyed} {g m : Nat} (hm : m ≤ xs.size) (lo : ∀ i, i < g → ∀ j, g ≤ j → j < m → rA kr xs j < rA kr xs i) (d : DnP kr ix xs g) (eq : ∀ i, g ≤ i → i < m → rA kr xs i = rA kr xs g) (t : ∀ i, g ≤ i → i < m → rA ix xs i = (i : Int)) : DnP kr ix (mirror xs g m ((m - g) / 2)) m := by
  intro i j b1 b2
  unfold LtP
  rw [mir_get hm, mir_get hm, mir_get hm, mir_get hm]
  by_cases h1 : i < g
  · by_cases h2 : j < g
    · rw [if_neg (by omega), if_neg (by omega), if_neg (by omega), if_neg (by omega)]
      exact d i j b1 h2
    · rw [if_pos (by omega), if_neg (by omega), if_pos (by omega), if_neg (by omega)]
      exact .inl (lo i h1 _ (by omega) (by omega))
  · rw [if_pos (by omega), if_pos (by omega), if_pos (by omega), if_pos (by omega)]
    have e1 := eq (g + m - 1 - i) (by omega) (by omega)
    have e2 := eq (g + m - 1 - j) (by omega) (by omega)
    have e3 := t (g + m - 1 - i) (by omega) (by omega)
    have e4 := t (g + m - 1 - j) (by omega) (by omega)
    omega
structure Desc (kr ix : Keyed → Int) (xs : Array Keyed) (m neq : Nat) : Prop where
  few : neq + 1 ≤ m
  dn : DnP kr ix xs (m - (neq + 1))
  lo : ∀ i, i < m - (neq + 1) → ∀ j, m - (neq + 1) ≤ j → j < m → rA kr xs j < rA kr xs i
  eq : ∀ i, m - (neq + 1) ≤ i → i < m → rA kr xs i = rA kr xs (m - (neq + 1))
  tl : Tl ix xs (m - (neq + 1))
theorem Desc.turn {xs : Array Keyed} {m neq : Nat} (h : Desc kr ix xs m neq) (hm : m ≤ xs.size) : DnP kr ix (mirror xs (m - (neq + 1)) m ((m - (m - (neq + 1))) / 2)) m :=
  dn_turn hm h.lo h.dn h.eq fun i h1 h2 => h.tl i h1 (by omega)
theorem Desc.zero {xs : Array Keyed} {m : Nat} (h : Desc kr ix xs m 0) : DnP kr ix xs m := fun i j b1 b2 => by
  by_cases z : j < m - 1
  · exact h.dn i j b1 z
  · exact .inl (h.lo i (by omega) j (by omega) b2)
theorem Desc.next {xs : Array Keyed} {m : Nat} (d : DnP kr ix xs m) (hm : 1 ≤ m) (lt : rA kr xs m < rA kr xs (m - 1)) (t : Tl ix xs m) : Desc kr ix xs (m + 1) 0 where
  few := by omega
  dn := by rw [show m + 1 - (0 + 1) = m by omega]; exact d
  lo := fun i hi j h1 h2 => by
    have e : j = m := by omega
    subst e
    by_cases z : i = j - 1
    · subst z; exact lt
    · have := d i (j - 1) (by omega) (by omega)
      unfold LtP at this
      omega
  eq := fun i h1 h2 => by
    have e : i = m := by omega
    subst e
    rfl
  tl := by rw [show m + 1 - (0 + 1) = m by omega]; exact t
theorem wpS_descLoopS (C : CmpS prog w A s kind a0 kr ix) {n nrem : Nat} {Q : DescSt → SortSt → Prop} (hn : nrem ≤ a0.size) (hnn : n ≤ nrem) (B : SB kind a0 st) (d : Desc kr ix (arrOf st) n 0)
    (h : ∀ m neq st', SB kind a0 st' → n ≤ m → m ≤ nrem → Desc kr ix (arrOf st') m neq → Q (none, m, neq) st') :
    wpS (model prog w) A E s (descLoop n nrem) Q st := by
  unfold descLoop
  refine wpS_forRange (I := fun x c st' => ∃ neq, c = (none, x, neq) ∧ SB kind a0 st' ∧ Desc kr ix (arrOf st') x neq) ?step ?fin ⟨0, rfl, B, d⟩
  case fin =>
    rintro c st' ⟨neq, rfl, B', d'⟩
    rw [show max n nrem = nrem by omega] at d' ⊢
    exact h nrem neq st' B' hnn (Nat.le_refl _) d'
  case step =>
    rintro x c st' hax hxn ⟨neq, rfl, B', d'⟩
    dsimp only
    have few := d'.few
    have hsz : x ≤ (arrOf st').size := by rw [B'.size]; omega
    refine wpS_bind (wpS_ltP C B' (by omega) (by omega) ?_)
    by_cases hw : rA kr (arrOf st') x < rA kr (arrOf st') (x - 1)
    · simp only [decide_eq_true hw, if_true]
      by_cases hneq : neq > 0
      · rw [if_pos hneq]
        refine wpS_bind (wpS_reverse (wpS_pure ⟨0, rfl, B'.setArr (mirror_perm _ _ _ _), ?_⟩))
        refine Desc.next (d'.turn hsz) (by omega) ?_ fun i hi hs => ?_
        · show rA kr (mirror _ _ _ _) x < rA kr (mirror _ _ _ _) (x - 1)
          rw [mir_get hsz, mir_get hsz, if_neg (by omega), if_pos (by omega)]
          have a1 := d'.eq (x - 1) (by omega) (by omega)
          have a2 := d'.eq (x - (neq + 1) + x - 1 - (x - 1)) (by omega) (by omega)
          omega
        · show rA ix (mirror _ _ _ _) i = _
          rw [mir_get hsz, if_neg (by omega)]
          exact d'.tl i (by omega) (by rw [mir_size] at hs; exact hs)
      · rw [if_neg hneq]
        have e : neq = 0 := by omega
        subst e
        exact wpS_pure ⟨0, rfl, B', Desc.next d'.zero (by omega) hw fun i hi hs => d'.tl i (by omega) hs⟩
    · simp only [decide_eq_false hw, Bool.false_eq_true, if_false]
      refine wpS_bind (wpS_ltP C B' (by omega) (by omega) ?_)
      by_cases hl : rA kr (arrOf st') (x - 1) < rA kr (arrOf st') x
      · simp only [decide_eq_true hl, if_true]
        exact wpS_pure (h x neq st' B' hax (by omega) d')
      · simp only [decide_eq_false hl, Bool.false_eq_true, if_false]
        have eqx : rA kr (arrOf st') x = rA kr (arrOf st') (x - 1) := by omega
        have a1 := d'.eq (x - 1) (by omega) (by omega)
        have eg : x + 1 - (neq + 1 + 1) = x - (neq + 1) := by omega
        refine wpS_pure ⟨neq + 1, rfl, B', ⟨by omega, by rw [eg]; exact d'.dn, fun i hi j h1 h2 => ?_, fun i h1 h2 => ?_, by rw [eg]; exact d'.tl⟩⟩
        · rw [eg] at hi h1
          by_cases z : j < x
          · exact d'.lo i hi j h1 z
          · have e : j = x := by omega
            subst e
            have := d'.lo i hi (j - 1) (by omega) (by omega)
            omega
        · rw [eg] at h1 ⊢
          by_cases z : i < x
          · exact d'.eq i h1 z
          · have e : i = x := by omega
            subst e
            omega
theorem wpS_descPartS (C : CmpS prog w A s kind a0 kr ix) {n nrem : Nat} {Q : Option Nat → SortSt → Prop} (hn : nrem ≤ a0.size) (hnn : n + 1 ≤ nrem) (B : SB kind a0 st) (d : Desc kr ix (arrOf st) (n + 1) 0)
    (h : ∀ m st', SB kind a0 st' → 1 ≤ m → m ≤ nrem → Tl ix (arrOf st') m → UpP kr ix (arrOf st') 0 m → Q (some m) st') :
    wpS (model prog w) A E s (descPart n nrem) Q st := by
  unfold descPart
  refine wpS_bind (wpS_lift (wpAny_rule ⟨rfl, ?_⟩))
  refine wpS_bind (wpS_descLoopS C hn hnn B d fun m neq st' B' hm1 hm2 d' => ?_)
  dsimp only
  have hsz : m ≤ (arrOf st').size := by rw [B'.size]; omega
  have few := d'.few
  by_cases hneq : neq > 0
  · rw [if_pos hneq]
    refine wpS_bind (wpS_reverse (wpS_tail3S C hn (by omega) hm2 (B'.setArr (mirror_perm _ _ _ _)) (fun i hi hs => ?_) (d'.turn hsz) h))
    show rA ix (mirror _ _ _ _) i = _
    rw [mir_get hsz, if_neg (by omega)]
    exact d'.tl i (by omega) (by
      have hs : i < (mirror (arrOf st') _ _ _).size := hs
      rw [mir_size] at hs
      exact hs)
  · rw [if_neg hneq]
    have e : neq = 0 := by omega
    subst e
    exact wpS_tail3S C hn (by omega) hm2 B' (fun i hi hs => d'.tl i (by omega) hs) d'.zero h
theorem wpS_countRunS (C : CmpS prog w A s kind a0 kr ix) {nrem : Nat} {Q : Option Nat → SortSt → Prop} (hn : nrem ≤ a0.size) (h1 : 1 ≤ nrem) (B : SB kind a0 st) (t : Tl ix (arrOf st) 0)
    (h : ∀ m st', SB kind a0 st' → 1 ≤ m → m ≤ nrem → Tl ix (arrOf st') m → UpP kr ix (arrOf st') 0 m → Q (some m) st') :
    wpS (model prog w) A E s (countRun' 0 nrem) Q st := by
  rw [countRun0_eq]
  refine wpS_bind (wpS_ascS C hn (Nat.le_refl 1) h1 B (fun i hi hs => t i (by omega) hs) (fun i j b1 b2 b3 => by omega) fun n hn1 hn2 hsn hor => ?_)
  dsimp only
  have tn : Tl ix (arrOf st) n := fun i hi hs => t i (by omega) hs
  by_cases hnn : n = nrem
  · rw [if_pos (by simpa using hnn)]
    exact wpS_pure (h n st B hn1 hn2 tn hsn)
  · rw [if_neg (by simpa using hnn)]
    have hlt := hor.resolve_left hnn
    have hsz : n ≤ (arrOf st).size := by rw [B.size]; omega
    by_cases hgt : n > 1
    · rw [if_pos hgt]
      refine wpS_bind (wpS_ltP C B (by omega) (by omega) ?_)
      by_cases hrose : rA kr (arrOf st) 0 < rA kr (arrOf st) (n - 1)
      · simp only [decide_eq_true hrose, if_true]
        exact wpS_pure (h n st B hn1 hn2 tn hsn)
      · simp only [decide_eq_false hrose, Bool.false_eq_true, if_false]
        have le : ∀ i j, i < j → j < n → rA kr (arrOf st) i ≤ rA kr (arrOf st) j := fun i j a b => by
          have := hsn i j (by omega) a b
          unfold LtP at this
          omega
        have all : ∀ k, k < n → rA kr (arrOf st) k = rA kr (arrOf st) 0 := fun k hk => by
          by_cases z : k = 0
          · subst z; rfl
          · have a1 := le 0 k (by omega) hk
            by_cases y : k = n - 1
            · subst y; omega
            · have a2 := le k (n - 1) (by omega) (by omega)
              omega
        refine wpS_bind (wpS_reverse (wpS_descPartS C hn (by omega) (B.setArr (mirror_perm _ _ _ _)) ?_ h))
        refine Desc.next (dn_turn hsz (fun i hi => by omega) (fun i j _ z => by omega) (fun i _ hi => all i hi) fun i _ hi => t i (by omega) (by omega)) (by omega) ?_ fun i hi hs => ?_
        · show rA kr (mirror _ _ _ _) n < rA kr (mirror _ _ _ _) (n - 1)
          rw [mir_get hsz, mir_get hsz, if_neg (by omega), if_pos (by omega)]
          have a1 := all (n - 1) (by omega)
          have a2 := all (0 + n - 1 - (n - 1)) (by omega)
          omega
        · show rA ix (mirror _ _ _ _) i = _
          rw [mir_get hsz, if_neg (by omega)]
          exact t i (by omega) (by
            have hs : i < (mirror (arrOf st) _ _ _).size := hs
            rw [mir_size] at hs
            exact hs)
    · rw [if_neg hgt]
      have e : n = 1 := by omega
      subst e
      exact wpS_descPartS C hn (by omega) B (Desc.next (fun i j b1 b2 => by omega) (Nat.le_refl _) hlt tn) h
theorem bub_get {xs : Array Keyed} {k l : Nat} (hk : k < xs.size) (hl : l ≤ k) (i : Nat) (f : Keyed → Int) : rA f (bubble xs k (k - l)) i = if i = l then rA f xs k else if l < i ∧ i ≤ k then rA f xs (i - 1) else rA f xs i := by
  have g := getElem?_bubble (xs := xs) (src := k) hk (k - l) (by omega) i
  rw [show k - (k - l) = l by omega] at g
  split
  · rename_i h
    rw [if_pos h] at g
    exact rA_congr g
  · rename_i h
    rw [if_neg h] at g
    split
    · rename_i h2
      rw [if_pos h2] at g
      exact rA_congr g
    · rename_i h2
      rw [if_neg h2] at g
      exact rA_congr g
theorem wpS_binarySortS (C : CmpS prog w A s kind a0 kr ix) {n ok : Nat} {Q : Bool → SortSt → Prop} (hn : n ≤ a0.size) (h1 : 1 ≤ ok) (hok : ok ≤ n) (B : SB kind a0 st) (t : Tl ix (arrOf st) ok) (u : UpP kr ix (arrOf st) 0 ok)
    (h : ∀ st', SB kind a0 st' → UpP kr ix (arrOf st') 0 n → Q true st') : wpS (model prog w) A E s (binarySort' 0 n ok) Q st := by
  rw [binarySort'_eq]
  simp only [Nat.zero_add]
  refine wpS_bind (wpS_mono (wpS_forRange (I := fun k c st' => c = (none, ()) ∧ SB kind a0 st' ∧ Tl ix (arrOf st') (min k n) ∧ UpP kr ix (arrOf st') 0 (min k n))
    (Q := fun c st' => c = (none, ()) ∧ SB kind a0 st' ∧ UpP kr ix (arrOf st') 0 n) ?step ?fin ?init) ?post)
  case post =>
    rintro c st' ⟨rfl, B', u'⟩
    exact wpS_pure (h st' B' u')
  case init =>
    rw [show min (max ok 1) n = ok by omega]
    exact ⟨rfl, B, t, u⟩
  case fin =>
    rintro c st' ⟨hc, B', _, u'⟩
    refine ⟨hc, B', ?_⟩
    rwa [show min (max (max ok 1) n) n = n by omega] at u'
  case step =>
    rintro k c st' hak hkn ⟨rfl, B', t', u'⟩
    rw [show min k n = k by omega] at t' u'
    have hk : k < a0.size := by omega
    have hks : k < (arrOf st').size := by rw [B'.size]; exact hk
    have ek := t' k (Nat.le_refl _) hks
    refine wpS_bind (wpS_mono (wpS_forRange (I := fun x c st'' => st'' = st' ∧ ∃ l r, c = (none, l, r) ∧ l ≤ r ∧ r ≤ k ∧ r - l ≤ k - x ∧
        (∀ i, i < l → LtP kr ix (arrOf st') i k) ∧ (∀ i, r ≤ i → i < k → LtP kr ix (arrOf st') k i))
      (Q := fun c st'' => st'' = st' ∧ ∃ l r, c = (none, l, r) ∧ l ≤ k ∧
        (∀ i, i < l → LtP kr ix (arrOf st') i k) ∧ (∀ i, l ≤ i → i < k → LtP kr ix (arrOf st') k i)) ?istep ?ifin ?iinit) ?ipost)
    case iinit => exact ⟨rfl, 0, k, rfl, by omega, by omega, by omega, fun i hi => by omega, fun i h1 h2 => by omega⟩
    case ifin =>
      rintro c st'' ⟨rfl, l, r, rfl, hlr, hrk, hm, hlo, hhi⟩
      have : l = r := by omega
      subst this
      exact ⟨rfl, l, l, rfl, hrk, hlo, hhi⟩
    case istep =>
      rintro x c st'' _ hxk ⟨rfl, l, r, rfl, hlr, hrk, hm, hlo, hhi⟩
      dsimp only
      by_cases hge : l ≥ r
      · rw [if_pos hge]
        have : l = r := by omega
        subst this
        exact wpS_pure ⟨rfl, l, l, rfl, hrk, hlo, hhi⟩
      · rw [if_neg hge]
        refine wpS_bind (wpS_ltP C B' hk (by omega) ?_)
        have pm := B'.pre C t' (j := (l + r) / 2) (by omega) (by omega)
        by_cases hless : rA kr (arrOf st'') k < rA kr (arrOf st'') ((l + r) / 2)
        · simp only [decide_eq_true hless, if_true]
          refine wpS_pure ⟨rfl, l, (l + r) / 2, rfl, by omega, by omega, by omega, hlo, fun i h1 h2 => ?_⟩
          by_cases e : i = (l + r) / 2
          · subst e; exact .inl hless
          · have := u' ((l + r) / 2) i (by omega) (by omega) (by omega)
            unfold LtP at this ⊢
            omega
        · simp only [decide_eq_false hless, Bool.false_eq_true, if_false]
          refine wpS_pure ⟨rfl, (l + r) / 2 + 1, r, rfl, by omega, by omega, by omega, fun i h1 => ?_, hhi⟩
          by_cases e : i = (l + r) / 2
          · subst e
            unfold LtP
            omega
          · have := u' i ((l + r) / 2) (by omega) (by omega) (by omega)
            unfold LtP at this ⊢
            omega
    case ipost =>
      rintro c st'' ⟨rfl, l, r, rfl, hlk, hlo, hhi⟩
      show wpS _ _ _ _ (do moveDown' k l; pure (ForInStep.yield (none, ()))) _ _
      rw [moveDown'_eq]
      refine wpS_bind (wpS_modify (wpS_pure ⟨rfl, B'.setArr (bubble_perm _ _ _), ?_, ?_⟩))
      · rw [show min (k + 1) n = k + 1 by omega]
        intro i hi hs
        show rA ix (bubble (arrOf st'') k (k - l)) i = _
        rw [bub_get hks hlk, if_neg (by omega), if_neg (by omega)]
        exact t' i (by omega) (by
          have hs : i < (bubble (arrOf st'') k (k - l)).size := hs
          rw [(bubble_perm _ _ _).size_eq] at hs
          exact hs)
      · rw [show min (k + 1) n = k + 1 by omega]
        intro i j b1 b2 b3
        show LtP kr ix (bubble (arrOf st'') k (k - l)) i j
        unfold LtP
        rw [bub_get hks hlk, bub_get hks hlk, bub_get hks hlk, bub_get hks hlk]
        by_cases c1 : i = l
        · rw [if_pos c1, if_neg (by omega), if_pos (by omega), if_pos c1, if_neg (by omega), if_pos (by omega)]
          exact hhi (j - 1) (by omega) (by omega)
        · rw [if_neg c1]
          by_cases c2 : l < i ∧ i ≤ k
          · rw [if_pos c2, if_neg (by omega), if_pos (by omega), if_neg c1, if_pos c2, if_neg (by omega), if_pos (by omega)]
            exact u' _ _ (by omega) (by omega) (by omega)
          · rw [if_neg c2]
            by_cases c3 : j = l
            · rw [if_pos c3, if_neg c1, if_neg c2, if_pos c3]
              exact hlo i (by omega)
            · rw [if_neg c3]
              by_cases c4 : l < j ∧ j ≤ k
              · rw [if_pos c4, if_neg c1, if_neg c2, if_neg c3, if_pos c4]
                exact u' _ _ (by omega) (by omega) (by omega)
              · rw [if_neg c4, if_neg c1, if_neg c2, if_neg c3, if_neg c4]
                exact u' _ _ (by omega) b2 (by omega)
noncomputable def SDn (kind : SortKind) (a0 : Array Keyed) (kr ix : Keyed → Int) (st : SortSt) : Prop := (arrOf st).Perm a0 ∧ failedOf st = none ∧ pendingOf st = #[(0, a0.size, 0)] ∧ UpP kr ix (arrOf st) 0 a0.size
theorem SB.done (B : SB kind a0 st) (u : UpP kr ix (arrOf st) 0 a0.size) : SDn kind a0 kr ix (setPending st ((pendingOf st).push (0, a0.size, 0))) :=
  ⟨B.perm, B.failed, by show (pendingOf st).push _ = _; rw [B.pend]; rfl, u⟩
theorem wpS_sortRunsS (C : CmpS prog w A s kind a0 kr ix) {Q : Unit → SortSt → Prop} (B : SB kind a0 st) (t : Tl ix (arrOf st) 0) (h2 : 2 ≤ a0.size) (h64 : a0.size < 64)
    (h : ∀ st', (arrOf st').Perm a0 → failedOf st' = none → UpP kr ix (arrOf st') 0 a0.size → Q () st') : wpS (model prog w) A E s sortRuns' Q st := by
  rw [sortRuns'_eq]
  refine wpS_bind (wpS_get ?_)
  dsimp only
  have hmr : minRun' a0.size a0.size 0 = a0.size := by
    obtain ⟨f, hf⟩ : ∃ f, a0.size = f + 1 := ⟨a0.size - 1, by omega⟩
    have : minRun' (f + 1) a0.size 0 = a0.size := by rw [minRun'_succ, if_pos h64]; rfl
    rwa [← hf] at this
  simp only [B.size, hmr]
  refine wpS_bind (wpS_mono (wpS_forRange
    (I := fun x c st' => (x = 0 ∧ c = (none, 0) ∧ SB kind a0 st' ∧ Tl ix (arrOf st') 0) ∨ (1 ≤ x ∧ c = (none, a0.size) ∧ SDn kind a0 kr ix st'))
    (Q := fun c st' => c = (none, a0.size) ∧ SDn kind a0 kr ix st') ?step ?fin (.inl ⟨rfl, rfl, B, t⟩)) ?post)
  case fin =>
    rintro c st' (⟨hx, _, _⟩ | ⟨_, hc, hD⟩)
    · omega
    · exact ⟨hc, hD⟩
  case step =>
    rintro x c st' _ hx (⟨rfl, rfl, B', t'⟩ | ⟨hx1, rfl, hD⟩)
    · dsimp only
      rw [if_neg (by omega)]
      simp only [Nat.sub_zero, Nat.min_self, Nat.zero_add]
      refine wpS_bind (wpS_countRunS C (Nat.le_refl _) (by omega) B' t' fun m st2 B2 hm1 hm2 t2 u2 => ?_)
      dsimp only
      by_cases hlt : m < a0.size
      · rw [if_pos hlt]
        refine wpS_bind (wpS_lift (wpAny_rule ⟨rfl, ?_⟩))
        refine wpS_bind (wpS_binarySortS C (Nat.le_refl _) hm1 hm2 B2 t2 u2 fun st3 B3 u3 => ?_)
        simp only [Bool.not_true, Bool.false_eq_true, if_false]
        refine wpS_bind (wpS_get ?_)
        have hb : (pendingOf st3).back? = none := by rw [B3.pend]; rfl
        rw [hb]
        dsimp only
        exact wpS_bind (wpS_modify (wpS_pure (.inr ⟨by omega, rfl, B3.done u3⟩)))
      · rw [if_neg hlt]
        have hm : m = a0.size := by omega
        subst hm
        refine wpS_bind (wpS_get ?_)
        have hb : (pendingOf st2).back? = none := by rw [B2.pend]; rfl
        rw [hb]
        dsimp only
        exact wpS_bind (wpS_modify (wpS_pure (.inr ⟨by omega, rfl, B2.done u2⟩)))
    · dsimp only
      rw [if_pos (Nat.le_refl _)]
      exact wpS_pure ⟨rfl, hD⟩
  case post =>
    rintro c st' ⟨rfl, hD⟩
    dsimp only
    refine wpS_bind (wpS_mono (wpS_forRange (I := fun _ c st'' => st'' = st' ∧ c = (none, ())) (Q := fun c st'' => st'' = st' ∧ c = (none, ())) ?_ (fun _ _ hh => hh) ⟨rfl, rfl⟩) ?_)
    · rintro x c st'' _ _ ⟨rfl, rfl⟩
      refine wpS_bind (wpS_get ?_)
      rw [if_pos (by rw [hD.2.2.1]; exact Nat.le_refl 1)]
      exact wpS_pure ⟨rfl, rfl⟩
    · rintro c st'' ⟨rfl, rfl⟩
      exact wpS_pure (h _ hD.1 hD.2.1 hD.2.2.2)
end
end GS

set_option Elab.async false
set_option linter.all false
set_option maxRecDepth 100000
/-! Blocks that meet, blocks closed, tables finer than others. -/
namespace GT
open PySem L2
end GT

set_option Elab.async false
set_option linter.all false
set_option maxRecDepth 100000
/-! t <= u of tuples of ints; len of a dict of places -/
namespace HT
open PySem PyProof.Rows
section
open PySem.SeqAt
open PySem.AutoSeq1 (wpAny_loadPart')
open PySem.MeetsSeq PySem.MeetsSeq2 PySem.MeetsSeq3
end
section
variable {prog : Program} {w : World} {A : Around} {E : Value → Shared → Prop} {s : Shared}
end
end HT
namespace L2
open PySem PySem.Spec PyProof.Rows
section
variable {prog : Program} {w : World} {KK : Type} [DecidableEq KK] {A : Around} {E : Value → Shared → Prop} {s : Shared}
end
end L2
namespace L2
open PySem PySem.Spec PyProof.Rows
section
variable {prog : Program} {w : World} {A : Around} {E : Value → Shared → Prop} {s : Shared}
end
end L2

set_option Elab.async false
set_option linter.all false
set_option autoImplicit false
set_option maxRecDepth 100000
/-! tuples of texts compared: t < u, and as keys of a sort -/
namespace HT
open PySem PySem.Spec PyProof.Rows
noncomputable def tLt (a b : Str) : Bool := decide (a.cps.toList < b.cps.toList)
noncomputable def lexT : List Str → List Str → Bool
  | [], [] => false
  | [], _ :: _ => true
  | _ :: _, [] => false
  | x :: xs, y :: ys => if x = y then lexT xs ys else tLt x y
theorem lexT_cons (x y : Str) (xs ys : List Str) : lexT (x :: xs) (y :: ys) = if x = y then lexT xs ys else tLt x y := rfl
theorem eqAt_str (A : Around) (s : Shared) (a : Str) (t : Tok) (c : Str) (u : Tok) : ∃ e, SeqAt.EqAt A s (.str a t) (.str c u) e ∧ (e = true ↔ a = c) :=
  ⟨(a == c), SeqAt.EqAt.str_str a t c u, by simp⟩
theorem rcLt_str (A : Around) (s : Shared) (a : Str) (t : Tok) (c : Str) (u : Tok) (prog : Program) (w : World) (E : Value → Shared → Prop) (Q : Value → Shared → Prop) (h : Q (.bool (tLt a c)) s) :
    wpAny (model prog w) A (richCompare .Lt (.str a t) (.str c u)) Q E s :=
  (PyProof.Rows.lt_str h : wpAny (model prog w) A (compareOp .Lt (.str a t) (.str c u)) Q E s)
theorem strs_len : ∀ {vs : List Value} {xs : List Str}, StrsAre vs xs → vs.length = xs.length
  | _, _, .nil => rfl
  | _, _, .cons _ _ h => by rw [List.length_cons, List.length_cons, strs_len h]
section
open PySem.SeqAt
open PySem.AutoSeq1 (wpAny_loadPart')
open PySem.MeetsSeq PySem.MeetsSeq2 PySem.MeetsSeq3
theorem tuple_lt_strs (l b : Addr) (items items2 : Array Value) (n n2 : Nat) (dd dd2 : Option Addr) (sl sl2 : Array (Option Value)) (ns ms : List Str) (hi : StrsAre items.toList ns) (hj : StrsAre items2.toList ms) :
    Meets (Builtin.«tuple.__lt__» ⟨[.ref l, .ref b], []⟩)
      (fun _ R s => s.heap.get? l = some { cls := .type "tuple", dict := dd, data := .seq items n, slots := sl } ∧ s.heap.get? b = some { cls := .type "tuple", dict := dd2, data := .seq items2 n2, slots := sl2 } ∧
        R (.ok (.ret (.bool (lexT ns ms)))) s) :=
  .of_wp fun prog w A R s h => by
    obtain ⟨hp, g, d, tk, os⟩ := s; obtain ⟨hl, hb, h⟩ := h
    have f2 := AutoSeq1.sub_tuple_tuple
    have z1 : items.size = ns.length := by rw [← strs_len hi]; simp
    have z2 : items2.size = ms.length := by rw [← strs_len hj]; simp
    wp_walk using wpAny_loadPart' hl, wpAny_loadPart' hb, wpAny_forIn_list _ (fun rest b s' => b.1 = none ∧ s' = ⟨hp, g, d, tk, os⟩ ∧ ∃ (vs ws : List Value) (ns' ms' : List Str), rest = vs.zip ws ∧
      StrsAre vs ns' ∧ StrsAre ws ms' ∧ ns'.length + items2.size = ms'.length + items.size ∧ R (.ok (.ret (.bool (lexT ns' ms')))) ⟨hp, g, d, tk, os⟩) _
    case turn =>
      rintro ⟨y, x⟩ rest b s' ⟨hb', rfl, vs, ws, ns', ms', hz, hvi, hwi, hlen, hR⟩
      cases hvi with
      | nil => rw [List.zip_nil_left] at hz; cases hz
      | cons a t hvi' =>
        cases hwi with
        | nil => rw [List.zip_nil_right] at hz; cases hz
        | cons c u hwi' =>
          rw [List.zip_cons_cons] at hz
          injection hz with hyx hrest
          injection hyx with hy hx
          subst hy hx
          rw [lexT_cons] at hR
          simp only [List.length_cons] at hlen
          obtain ⟨e, he, hiff⟩ := eqAt_str A.in1 ⟨hp, g, d, tk, os⟩ a t c u
          refine wpAny_bind (he prog w _ _ ?_)
          cases e with
          | true =>
            rw [if_pos (hiff.mp rfl)] at hR
            wp_walk
            exact ⟨rfl, rfl, _, _, _, _, hrest, hvi', hwi', by omega, hR⟩
          | false =>
            rw [if_neg (fun q => absurd (hiff.mpr q) Bool.false_ne_true)] at hR
            have hri := rcLt_str A.in1 ⟨hp, g, d, tk, os⟩ a t c u prog w
            wp_walk using hri
            exact ⟨_, rfl, by simpa using hR⟩
    case fin =>
      rintro ⟨b1, b2⟩ s' ⟨hb', rfl, vs, ws, ns', ms', hz, hvi, hwi, hlen, hR⟩
      simp only at hb'
      subst hb'
      have hv : lexT ns' ms' = decide (items.size < items2.size) := by
        cases hvi with
        | nil =>
          cases hwi with
          | nil =>
            simp only [List.length_nil] at hlen
            exact (decide_eq_false (by omega)).symm
          | cons c u hw =>
            simp only [List.length_nil, List.length_cons] at hlen
            exact (decide_eq_true (by omega)).symm
        | cons a t hv =>
          cases hwi with
          | nil =>
            simp only [List.length_nil, List.length_cons] at hlen
            exact (decide_eq_false (by omega)).symm
          | cons c u hw =>
            rw [List.zip_cons_cons] at hz
            cases hz
      rw [hv] at hR
      wp_walk
      exact ⟨_, rfl, by simpa [Builtin.Tuple.tupleCompareSizes] using hR⟩
    case h =>
      exact ⟨rfl, rfl, items.toList, items2.toList, ns, ms, rfl, hi, hj, by omega, h⟩
end
section
variable {prog : Program} {w : World} {A : Around} {E : Value → Shared → Prop} {s : Shared}
theorem call_ltStrs {l b : Addr} {items items2 : Array Value} {ns ms : List Str} {Q : Value → Shared → Prop} (hl : IsTup s.heap l items) (hb : IsTup s.heap b items2) (hi : StrsAre items.toList ns) (hj : StrsAre items2.toList ms)
    (h : Q (.bool (lexT ns ms)) s) : wpAny (model prog w) A (call (.builtin "tuple.__lt__") [.ref l, .ref b]) Q E s := by
  obtain ⟨⟨cls, dd, data, sl⟩, ho, hc, n, hd⟩ := id hl
  obtain ⟨⟨cls2, dd2, data2, sl2⟩, ho2, hc2, n2, hd2⟩ := id hb
  simp only at hc hd hc2 hd2
  subst hc hd hc2 hd2
  exact call_meets PySem.F.slot_tuple_lt ⟨_, ho, rfl⟩ PySem.F.entry_tuple_lt (PySem.F.args_tuple_lt_2 _ _) (tuple_lt_strs l b items items2 n n2 dd dd2 sl sl2 ns ms hi hj) ⟨ho, ho2, h⟩
theorem lt_tupStrs {l b : Addr} {items items2 : Array Value} {ns ms : List Str} {Q : Value → Shared → Prop} (hl : IsTup s.heap l items) (hb : IsTup s.heap b items2) (hi : StrsAre items.toList ns) (hj : StrsAre items2.toList ms)
    (hu : A.units < cLine) (h : Q (.bool (lexT ns ms)) s) : wpAny (model prog w) A (compareOp .Lt (.ref l) (.ref b)) Q E s := by
  obtain ⟨⟨cls, dd, data, sl⟩, ho, hc, n, hd⟩ := id hl
  obtain ⟨⟨cls2, dd2, data2, sl2⟩, ho2, hc2, n2, hd2⟩ := id hb
  simp only at hc hd hc2 hd2
  subst hc hd hc2 hd2
  exact richCompare_meets_room (op := .Lt) ⟨_, ho, rfl⟩ ⟨_, ho2, rfl⟩ PySem.F.slot_tuple_lt PySem.F.entry_tuple_lt (PySem.F.args_tuple_lt_2 _ _) (tuple_lt_strs l b items items2 n n2 dd dd2 sl sl2 ns ms hi hj)
    ⟨ho, ho2, show Value.bool (lexT ns ms) ≠ Value.notImplemented ∧ Q (.bool (lexT ns ms)) s from ⟨(fun x => nomatch x), h⟩⟩ hu
end
end HT
namespace GS
open PySem PySem.Spec PyProof.Rows PySem.W HT
noncomputable def TxtAt (h : Heap) (v : Value) (xs : List Str) : Prop := ∃ (a : Addr) (its : List Value), v = .ref a ∧ IsTup h a its.toArray ∧ StrsAre its xs
section
variable {prog : Program} {w : World} {A : Around} {E : Value → Shared → Prop} {s : Shared}
theorem kat_strs {b fin : Bool} {Q : Bool → Shared → Prop} {p q : Nat} (ef : fin = decide (p < q)) : ∀ {us vs : List Value} {xs ys : List Str} (i : Nat), StrsAre us xs → StrsAre vs ys → xs.length + q = ys.length + p → Q (lexT xs ys) s → KatLex prog w A b fin Q (us.zip vs) i s
  | _, _, _, _, i, .nil, .nil, hl, h => by
    rw [List.zip_nil_left]
    refine kat_nil ?_
    rw [ef, decide_eq_false (by simp at hl; omega)]
    exact h
  | _, _, _, _, i, .nil, .cons y t hv, hl, h => by
    rw [List.zip_nil_left]
    refine kat_nil ?_
    rw [ef, decide_eq_true (by simp at hl; omega)]
    exact h
  | _, _, _, _, i, .cons x t hu, .nil, hl, h => by
    rw [List.zip_nil_right]
    refine kat_nil ?_
    rw [ef, decide_eq_false (by simp at hl; omega)]
    exact h
  | _, _, _, _, i, .cons x t hu, .cons y t' hv, hl, h => by
    rw [List.zip_cons_cons]
    obtain ⟨e, he, hiff⟩ := eqAt_str A s x t y t'
    refine kat_cons (he prog w _ _ ?_)
    rw [lexT_cons] at h
    cases e with
    | true =>
      rw [if_pos (hiff.mp rfl)] at h
      refine kat_yes (kat_strs ef (i + 1) hu hv (by simp at hl; omega) h)
    | false =>
      rw [if_neg (fun q => absurd (hiff.mpr q) Bool.false_ne_true)] at h
      refine kat_no ?_
      cases hb : (b && i == 0) with
      | true => exact oneLt_str h
      | false => exact kat_one _ _ (PyProof.Rows.lt_str h)
theorem lt_txt {x y : Value} {xs ys : List Str} {kind : SortKind} {Q : Bool → Shared → Prop} (hk : kind = tuples' true ∨ kind = general' ∨ kind = oneType') (hx : TxtAt s.heap x xs) (hy : TxtAt s.heap y ys) (hu : A.units < cLine) (h : Q (lexT xs ys) s) :
    wpAny (model prog w) A (keyLt' kind x y) Q E s := by
  obtain ⟨a, its, rfl, ta, sa⟩ := hx
  obtain ⟨b, its2, rfl, tb, sb⟩ := hy
  rcases hk with rfl | rfl | rfl
  · obtain ⟨o, ho, hc, n, hd⟩ := ta
    obtain ⟨o2, ho2, hc2, n2, hd2⟩ := tb
    refine kat_lt ho hd ho2 hd2 ?_
    exact kat_strs rfl 0 sa sb (by rw [List.size_toArray, List.size_toArray, strs_len sa, strs_len sb]; omega) h
  · show wpAny _ _ (oneLt' false _ _) _ _ _
    exact kat_one _ _ (lt_tupStrs ta tb sa sb hu h)
  · rw [keyLt'_oneType, oneLt'_eq]
    simp only [if_true]
    refine wpAny_bind (wpAny_cRoomFor hu ?_)
    obtain ⟨o, ho, hc, n, hd⟩ := id ta
    refine wpAny_bind (wpAny_callSpecialIfBound?_slot (T := "tuple") ⟨o, ho, hc⟩ PySem.F.slot_tuple_lt (call_ltStrs ta tb sa sb ?_))
    exact wpAny_truthy_bool h
end
section
variable {M : Model} {A : Around} {E : Value → Shared → Prop} {s : Shared}
theorem firsts_txt : ∀ vs : List Value, (∀ v ∈ vs, ∃ xs, TxtAt s.heap v xs) → ∃ fs : List (Option Value), fs.length = vs.length ∧ (∀ f ∈ fs, ∀ u, f = some u → ∃ y t, u = Value.str y t) ∧ ∀ Q : List (Option Value) → Shared → Prop, Q fs s → wpAny M A (vs.mapM firstOfTuple') Q E s
  | [], _ => ⟨[], rfl, (fun f hf => by cases hf), (fun Q h => by rw [List.mapM_nil]; exact wpAny_pure h)⟩
  | v :: vs, h => by
    obtain ⟨fs, l, all, run⟩ := firsts_txt vs fun x hx => h x (List.mem_cons_of_mem _ hx)
    obtain ⟨xs, a, its, rfl, ⟨o, ho, hc, n, hd⟩, sa⟩ := h v List.mem_cons_self
    refine ⟨its.toArray[0]? :: fs, by simp [l], fun f hf u e => ?_, fun Q q => ?_⟩
    · rcases List.mem_cons.mp hf with rfl | hf
      · cases sa with
        | nil => simp at e
        | cons y t r =>
          simp at e
          exact ⟨y, t, e.symm⟩
      · exact all f hf u e
    · rw [List.mapM_cons]
      refine wpAny_bind ?_
      rw [kas_first_eq]
      refine wpAny_bind (Looks.here (show Looks M s.heap (typeOf (.ref a)) o.cls from (Looks.ld ho).andThen .now) ?_)
      rw [hc, if_neg (by first | decide | simp)]
      refine wpAny_bind (listItems_at ho hd (wpAny_pure ?_))
      exact wpAny_bind (run (fun bs s' => wpAny M A (pure (its.toArray[0]? :: bs)) Q E s') (wpAny_pure q))
theorem kind_txt {vs : List Value} {Q : SortKind → Shared → Prop} (h : ∀ v ∈ vs, ∃ xs, TxtAt s.heap v xs) (h2 : 1 ≤ vs.length) (q : ∀ kind, (kind = tuples' true ∨ kind = general' ∨ kind = oneType') → Q kind s) : wpAny M A (keyKind' vs.toArray) Q E s := by
  obtain ⟨fs, l, all, run⟩ := firsts_txt (M := M) (A := A) (E := E) vs h
  rw [kat_kind_eq, List.mapM_toArray, map_eq_pure_bind]
  refine wpAny_bind (wpAny_bind (run _ (wpAny_pure ?_)))
  by_cases ha : (fs.toArray.all fun x => x.isSome) = true
  · rw [if_pos ha]
    refine wpAny_bind (wpAny_rule ?_)
    have hT : ∀ v ∈ fs.filterMap id, Looks M s.heap (typeOf v) (.type "str") := fun v hv => by
      obtain ⟨f, hf, e⟩ := List.mem_filterMap.mp hv
      obtain ⟨y, t, rfl⟩ := all f hf v e
      exact .now
    have hfm : fs.toArray.filterMap id = (fs.filterMap id).toArray := by simp
    obtain ⟨f1, fr, ef⟩ : ∃ f1 fr, fs.filterMap id = f1 :: fr := by
      cases fs with
      | nil => simp at l; omega
      | cons f fs =>
        cases f with
        | none => simp at ha
        | some u => exact ⟨u, fs.filterMap id, rfl⟩
    rw [hfm, oneTypeOnly'_eq, List.mapM_toArray, map_eq_pure_bind]
    refine wpAny_bind (wpAny_bind (wpAny_bind (kas_mapM (r := .type "str") _ (fun v hv Q' hq => (hT v hv).here hq) (wpAny_pure ?_))))
    rw [ef]
    have hall2 : ((List.map (fun _ => Value.type "str") (f1 :: fr)).toArray.all fun x => x == Value.type "str") = true := by
      simp only [List.all_toArray, List.all_map, List.all_eq_true]
      intro _ _
      rfl
    have h0 : (List.map (fun _ => Value.type "str") (f1 :: fr)).toArray[0]? = some (Value.type "str") := by simp
    rw [h0]
    simp only [hall2, if_true]
    exact wpAny_pure (wpAny_pure (q _ (.inl rfl)))
  · rw [if_neg ha]
    by_cases hb : ((fs.toArray[0]?).bind id).isSome = true
    · rw [if_pos hb]
      exact wpAny_pure (q _ (.inr (.inl rfl)))
    · rw [if_neg hb]
      have hT : ∀ v ∈ vs, Looks M s.heap (typeOf v) (.type "tuple") := fun v hv => by
        obtain ⟨xs, a, its, rfl, ⟨o, ho, hc, n, hd⟩, sa⟩ := h v hv
        rw [← hc]
        exact (Looks.ld ho).andThen .now
      rw [oneTypeOnly'_eq, List.mapM_toArray, map_eq_pure_bind]
      refine wpAny_bind (wpAny_bind (wpAny_bind (kas_mapM (r := .type "tuple") _ (fun v hv Q' hq => (hT v hv).here hq) (wpAny_pure ?_))))
      obtain ⟨f1, fr, rfl⟩ : ∃ f1 fr, vs = f1 :: fr := by
        cases vs with
        | nil => simp at h2
        | cons a b => exact ⟨a, b, rfl⟩
      have hall2 : ((List.map (fun _ => Value.type "tuple") (f1 :: fr)).toArray.all fun x => x == Value.type "tuple") = true := by
        simp only [List.all_toArray, List.all_map, List.all_eq_true]
        intro _ _
        rfl
      have h0 : (List.map (fun _ => Value.type "tuple") (f1 :: fr)).toArray[0]? = some (Value.type "tuple") := by simp
      rw [h0]
      simp only [hall2, if_true]
      exact wpAny_pure (wpAny_pure (q _ (.inr (.inr rfl))))
end
end GS

set_option Elab.async false
set_option linter.all false
set_option autoImplicit false
set_option maxRecDepth 100000
/-! sorted by keys that are tuples of texts: those alike as they stood -/
namespace HT
open PySem
theorem tLt_irrefl (a : Str) : tLt a a = false := decide_eq_false (List.lt_irrefl _)
theorem tLt_trans {a b c : Str} (h1 : tLt a b = true) (h2 : tLt b c = true) : tLt a c = true := decide_eq_true (List.lt_trans (of_decide_eq_true h1) (of_decide_eq_true h2))
theorem str_eq {a b : Str} (h : a.cps.toList = b.cps.toList) : a = b := by
  cases a; cases b
  congr 1
  exact Array.toList_inj.mp h
theorem tLt_total {a b : Str} (h : a ≠ b) : tLt a b = true ∨ tLt b a = true := by
  by_cases h1 : a.cps.toList < b.cps.toList
  · exact .inl (decide_eq_true h1)
  · by_cases h2 : b.cps.toList < a.cps.toList
    · exact .inr (decide_eq_true h2)
    · exact absurd (str_eq (List.le_antisymm (List.not_lt.mp h2) (List.not_lt.mp h1))) h
theorem lexT_irrefl : ∀ a : List Str, lexT a a = false
  | [] => rfl
  | x :: a => by rw [lexT_cons, if_pos rfl]; exact lexT_irrefl a
theorem lexT_trans : ∀ {a b c : List Str}, lexT a b = true → lexT b c = true → lexT a c = true
  | [], [], _, h, _ => by cases h
  | [], _ :: _, [], _, h => by cases h
  | [], _ :: _, _ :: _, _, _ => rfl
  | _ :: _, [], _, h, _ => by cases h
  | _ :: _, _ :: _, [], _, h => by cases h
  | x :: a, y :: b, z :: c, h1, h2 => by
    rw [lexT_cons] at h1 h2 ⊢
    by_cases e1 : x = y
    · subst e1
      rw [if_pos rfl] at h1
      by_cases e2 : x = z
      · subst e2
        rw [if_pos rfl] at h2 ⊢
        exact lexT_trans h1 h2
      · rw [if_neg e2] at h2 ⊢
        exact h2
    · rw [if_neg e1] at h1
      by_cases e2 : y = z
      · subst e2
        rw [if_neg e1]
        exact h1
      · rw [if_neg e2] at h2
        have t := tLt_trans h1 h2
        have e3 : x ≠ z := fun e => by
          subst e
          rw [tLt_irrefl] at t
          cases t
        rw [if_neg e3]
        exact t
theorem lexT_total : ∀ {a b : List Str}, a ≠ b → lexT a b = true ∨ lexT b a = true
  | [], [], h => absurd rfl h
  | [], _ :: _, _ => .inl rfl
  | _ :: _, [], _ => .inr rfl
  | x :: a, y :: b, h => by
    rw [lexT_cons, lexT_cons]
    by_cases e : x = y
    · subst e
      rw [if_pos rfl, if_pos rfl]
      exact lexT_total fun z => h (by rw [z])
    · rw [if_neg e, if_neg (Ne.symm e)]
      exact tLt_total e
end HT
namespace GS
open PySem PySem.Spec PyProof.Rows PySem.W HT
/-- i comes ahead of j -/
noncomputable def Bef (ws : Nat → List Str) (i j : Nat) : Prop := lexT (ws i) (ws j) = true ∨ (ws i = ws j ∧ i < j)
/-- how many have a smaller key -/
noncomputable def rkT (ws : Nat → List Str) (n i : Nat) : Int := (((List.range n).filter fun j => lexT (ws j) (ws i)).length : Nat)
theorem filter_le {p q : Nat → Bool} : ∀ l : List Nat, (∀ x ∈ l, p x = true → q x = true) → (l.filter p).length ≤ (l.filter q).length
  | [], _ => Nat.le_refl _
  | x :: l, h => by
    have ih := filter_le l fun y hy => h y (List.mem_cons_of_mem _ hy)
    rw [List.filter_cons, List.filter_cons]
    by_cases hp : p x = true
    · rw [if_pos hp, if_pos (h x List.mem_cons_self hp), List.length_cons, List.length_cons]
      omega
    · rw [if_neg hp]
      split
      · rw [List.length_cons]; omega
      · exact ih
theorem filter_lt {p q : Nat → Bool} : ∀ {l : List Nat} {z : Nat}, z ∈ l → p z = false → q z = true → (∀ x ∈ l, p x = true → q x = true) → (l.filter p).length < (l.filter q).length
  | x :: l, z, hz, h1, h2, h => by
    rw [List.filter_cons, List.filter_cons]
    rcases List.mem_cons.mp hz with rfl | hz
    · rw [if_neg (by rw [h1]; decide), if_pos h2, List.length_cons]
      have := filter_le l fun y hy => h y (List.mem_cons_of_mem _ hy)
      omega
    · have ih := filter_lt hz h1 h2 fun y hy => h y (List.mem_cons_of_mem _ hy)
      by_cases hp : p x = true
      · rw [if_pos hp, if_pos (h x List.mem_cons_self hp), List.length_cons, List.length_cons]
        omega
      · rw [if_neg hp]
        split
        · rw [List.length_cons]; omega
        · exact ih
theorem rkT_lt {ws : Nat → List Str} {n i j : Nat} (hi : i < n) : lexT (ws i) (ws j) = decide (rkT ws n i < rkT ws n j) := by
  unfold rkT
  cases h : lexT (ws i) (ws j) with
  | true =>
    have := filter_lt (l := List.range n) (p := fun k => lexT (ws k) (ws i)) (q := fun k => lexT (ws k) (ws j)) (z := i) (List.mem_range.mpr hi) (lexT_irrefl _) h fun x _ hx => lexT_trans hx h
    exact (decide_eq_true (by omega)).symm
  | false =>
    have := filter_le (p := fun k => lexT (ws k) (ws j)) (q := fun k => lexT (ws k) (ws i)) (List.range n) fun x _ hx => by
      by_cases e : ws i = ws j
      · rw [e]; exact hx
      · rcases lexT_total e with z | z
        · rw [h] at z; cases z
        · exact lexT_trans hx z
    exact (decide_eq_false (by omega)).symm
theorem rkT_bef {ws : Nat → List Str} {n i j : Nat} (hi : i < n) (hj : j < n) (h : rkT ws n i < rkT ws n j ∨ (rkT ws n i = rkT ws n j ∧ (i : Int) < (j : Int))) : Bef ws i j := by
  rcases h with h | ⟨h, l⟩
  · exact .inl (by rw [rkT_lt (n := n) hi]; exact decide_eq_true h)
  · refine .inr ⟨?_, by omega⟩
    refine Classical.byContradiction fun ne => ?_
    rcases lexT_total ne with z | z
    · rw [rkT_lt (n := n) hi] at z
      have := of_decide_eq_true z
      omega
    · rw [rkT_lt (n := n) hj] at z
      have := of_decide_eq_true z
      omega
section
variable {prog : Program} {w : World} {A : Around} {E : Value → Shared → Prop} {s : Shared}
theorem ksk_endS {a kS : Addr} {vs keys : List Value} {ws : Nat → List Str} {e e1 : Nat} {P : PySem.Fin → Shared → Prop}
    (hk : s.heap.get? kS = some (seqObj "list" keys.toArray e)) (ha : s.heap.get? a = some (seqObj "list" #[] e1)) (hka : kS ≠ a) (hlen : keys.length = vs.length) (hz : vs.length < 64) (nd : vs.Nodup)
    (tx : ∀ (i : Nat) (k : Value), keys[i]? = some k → TxtAt s.heap k (ws i)) (hu : A.units < cLine)
    (h : ∀ is : List Nat, is.Perm (List.range vs.length) → is.Pairwise (Bef ws) → P (.done (.ret .none)) { s with heap := ((s.heap.update kS (Obj.mapSeq fun _ => (#[] : Array Value))).update a (Obj.mapSeq fun _ => (is.map fun i => vs.getD i .none).toArray)) }) :
    wpAny (model prog w) A (ksk_end a false vs.toArray e1 (.ref kS) keys.toArray) P E s := by
  have tail : ∀ (st : SortSt) (is : List Nat), is.Perm (List.range vs.length) → is.Pairwise (Bef ws) → (arrOf st).map (·.2) = (is.map fun i => vs.getD i .none).toArray → failedOf st = none → wpAny (model prog w) A (ksk_tail a false e1 (.ref kS) st) P E s := by
    intro st is hp ho em hfl
    have s1 := Heap.SameBut.update s.heap kS (Obj.mapSeq fun _ => (#[] : Array Value))
    have na1 : (s.heap.update kS (Obj.mapSeq fun _ => (#[] : Array Value))).get? a = some (seqObj "list" #[] e1) := (s1.2 a hka.symm).trans ha
    have hl : is.length = vs.length := by rw [hp.length_eq, List.length_range]
    unfold ksk_tail
    dsimp only
    refine wpAny_bind (listUpdate_at hk rfl ?_ (by rw [List.size_toArray, sizeLine_eq]; omega) (Nat.zero_le _))
    refine wpAny_bind (wpAny_letGo ?_)
    refine wpAny_bind (seqEpoch_at na1 rfl ?_)
    rw [em]
    refine wpAny_bind (listUpdate_at na1 rfl ?_ (Nat.zero_le _) (by simp only [Bool.false_eq_true, if_false]; rw [List.size_toArray, List.length_map, hl, sizeLine_eq]; omega))
    rw [hfl]
    simp only [bne_self_eq_false, Bool.false_eq_true, if_false]
    exact wpAny_pure (h is hp ho)
  unfold ksk_end
  simp only [Bool.false_eq_true, if_false]
  have ez : keys.toArray.zip vs.toArray = (keys.zip vs).toArray := by simp
  have snd : (keys.zip vs).map (·.2) = (List.range vs.length).map fun i => vs.getD i .none := by
    rw [List.map_snd_zip (by omega)]
    refine List.ext_getElem (by simp) fun i h1 h2 => ?_
    simp [List.getD_eq_getElem?_getD, List.getElem?_eq_getElem h1]
  by_cases h2 : vs.toArray.size < 2
  · rw [if_pos h2, if_pos h2]
    refine wpAny_bind (wpAny_pure ?_)
    rw [StateT.run_pure]
    refine wpAny_bind (wpAny_pure ?_)
    dsimp only
    refine tail _ (List.range vs.length) (.refl _) ?_ ?_ rfl
    · rw [List.size_toArray] at h2
      refine List.pairwise_iff_getElem.mpr fun i j hi hj hij => ?_
      rw [List.length_range] at hj
      omega
    · show (keys.toArray.zip vs.toArray).map (·.2) = _
      rw [ez, ← snd]
      simp
  · rw [if_neg h2, if_neg h2]
    rw [List.size_toArray] at h2
    refine wpAny_bind (kind_txt (vs := keys) (fun v hv => ?_) (by omega) fun kind hkd => ?_)
    · obtain ⟨i, hi, e⟩ := List.mem_iff_getElem.mp hv
      exact ⟨_, tx i v (by rw [List.getElem?_eq_getElem hi, e])⟩
    have at_ : ∀ (i : Nat) (p : Keyed), (keys.toArray.zip vs.toArray)[i]? = some p → ∃ k v, p = (k, v) ∧ keys[i]? = some k ∧ vs[i]? = some v ∧ i < vs.length ∧ vs.idxOf v = i := fun i p hp => by
      rw [ez, List.getElem?_toArray] at hp
      obtain ⟨hi, e⟩ := List.getElem?_eq_some_iff.mp hp
      rw [List.length_zip] at hi
      rw [List.getElem_zip] at e
      refine ⟨keys[i]'(by omega), vs[i]'(by omega), e.symm, List.getElem?_eq_getElem _, List.getElem?_eq_getElem _, by omega, ?_⟩
      exact List.Nodup.idxOf_getElem nd i (by omega)
    have mem_ : ∀ p : Keyed, p ∈ (keys.toArray.zip vs.toArray).toList → ∃ i, (keys.toArray.zip vs.toArray)[i]? = some p := fun p hp => by
      obtain ⟨i, hi, e⟩ := List.mem_iff_getElem.mp hp
      exact ⟨i, by rw [← Array.getElem?_toList, List.getElem?_eq_getElem hi, e]⟩
    have C : CmpS prog w A s kind (keys.toArray.zip vs.toArray) (fun p => rkT ws vs.length (vs.idxOf p.2)) (fun p => (vs.idxOf p.2 : Int)) := ⟨fun x y hx hy E' Q q => by
      obtain ⟨i, hi⟩ := mem_ x hx
      obtain ⟨j, hj⟩ := mem_ y hy
      obtain ⟨k1, v1, rfl, a1, a2, a3, a4⟩ := at_ i x hi
      obtain ⟨k2, v2, rfl, b1, b2, b3, b4⟩ := at_ j y hj
      refine lt_txt hkd (tx i k1 a1) (tx j k2 b1) hu ?_
      rw [rkT_lt (n := vs.length) a3]
      rw [← a4, ← b4]
      exact q, fun i p hp => by
      obtain ⟨k1, v1, rfl, a1, a2, a3, a4⟩ := at_ i p hp
      show (vs.idxOf v1 : Int) = _
      rw [a4]⟩
    have sz : (keys.toArray.zip vs.toArray).size = vs.length := by rw [ez, List.size_toArray, List.length_zip]; omega
    have B : SB kind (keys.toArray.zip vs.toArray) (SortSt.mk' kind (keys.toArray.zip vs.toArray) #[] 7 none) := ⟨.refl _, rfl, rfl, rfl⟩
    refine wpAny_bind (wpAny_mono (wpS_sortRunsS (E := E) C B (fun i _ hi => ?_) (by omega) (by omega) (Q := fun _ st' => (arrOf st').Perm (keys.toArray.zip vs.toArray) ∧ failedOf st' = none ∧ UpP (fun p => rkT ws vs.length (vs.idxOf p.2)) (fun p => (vs.idxOf p.2 : Int)) (arrOf st') 0 (keys.toArray.zip vs.toArray).size) fun st' p f u => ⟨p, f, u⟩) ?_ fun _ _ e => e)
    · have hi : i < (keys.toArray.zip vs.toArray).size := hi
      have hp : (keys.toArray.zip vs.toArray)[i]? = some ((keys.toArray.zip vs.toArray)[i]) := Array.getElem?_eq_getElem hi
      show rA _ (keys.toArray.zip vs.toArray) i = _
      rw [rA_of hp]
      exact C.idx i _ hp
    rintro ⟨⟨⟩, st'⟩ s' ⟨rfl, pm, fl, u⟩
    dsimp only
    have pl : (arrOf st').toList.Perm (keys.zip vs) := by
      have := Array.perm_iff_toList_perm.mp pm
      rw [ez] at this
      exact this
    have each : ∀ p ∈ (arrOf st').toList, vs.idxOf p.2 < vs.length ∧ vs.getD (vs.idxOf p.2) .none = p.2 := fun p hp => by
      have hv : p.2 ∈ vs := (List.of_mem_zip (a := p.1) (b := p.2) (pl.mem_iff.mp hp)).2
      have hl := List.idxOf_lt_length_iff.mpr hv
      refine ⟨hl, ?_⟩
      rw [List.getD_eq_getElem?_getD, List.getElem?_eq_getElem hl]
      exact List.getElem_idxOf hl
    refine tail st' ((arrOf st').toList.map fun p => vs.idxOf p.2) ?_ ?_ ?_ fl
    · have := pl.map fun p : Keyed => vs.idxOf p.2
      refine this.trans ?_
      have e2 : (keys.zip vs).map (fun p : Keyed => vs.idxOf p.2) = List.range vs.length := by
        refine List.ext_getElem (by rw [List.length_map, List.length_zip, List.length_range]; omega) fun i h1 h2 => ?_
        rw [List.getElem_map, List.getElem_zip, List.getElem_range]
        exact List.Nodup.idxOf_getElem nd i _
      rw [e2]
    · refine List.pairwise_map.mpr (List.pairwise_iff_getElem.mpr fun i j hi hj hij => ?_)
      have sz2 := pm.size_eq
      have hi' : i < (arrOf st').size := by simpa using hi
      have hj' : j < (arrOf st').size := by simpa using hj
      have z := u i j (Nat.zero_le _) hij (by rw [← sz2]; exact hj')
      unfold LtP at z
      rw [rA_of (Array.getElem?_eq_getElem hi'), rA_of (Array.getElem?_eq_getElem hj'), rA_of (Array.getElem?_eq_getElem hi'), rA_of (Array.getElem?_eq_getElem hj')] at z
      rw [Array.getElem_toList, Array.getElem_toList]
      exact rkT_bef (each _ (Array.getElem_mem_toList hi')).1 (each _ (Array.getElem_mem_toList hj')).1 z
    · refine Array.toList_inj.mp ?_
      rw [Array.toList_map, List.map_map]
      refine List.map_congr_left fun p hp => ?_
      exact (each p hp).2.symm
end
end GS

set_option Elab.async false
set_option linter.all false
set_option autoImplicit false
set_option maxRecDepth 100000
/-! a lambda that is called: its body at the values of its parameters and of the cells that it keeps -/
namespace L2
open PySem PySem.Spec PyProof.Rows PySem.W
noncomputable def cxLam (P : Program) (w : World) (K : PySem.W.Frag) (mg : Str → Option Value) (base : Heap) (N : List Str) (qual : Str) (scope : Scope) (f : Addr) (cd : Value) (cl : List (Str × Addr)) (A : Around) (outer : List Env) (s : Shared) (H : Hp) : Cx where
  prog := P
  w := w
  K := K
  mg := mg
  base := base
  A := A.deeper (envX qual scope s.heap.objs.size f cd cl)
  N := N
  s₀ := s
  H₀ := H
  env := envX qual scope s.heap.objs.size f cd cl
  outer := outer
  stack := envX qual scope s.heap.objs.size f cd cl :: outer
  ex := []
  calm := true
  fn := fun _ => false
  pn := []
  xe := fun _ _ => False
section
variable {P : Program} {w : World} {K : PySem.W.Frag} {mg : Str → Option Value} {base : Heap}
theorem lam_run {A : Around} {outer : List Env} {s : Shared} {H : Hp} {k : Nat} {f c' : Addr} {name qual : Str} {params : Arguments} {body : Expr} {scope : Scope} {cl : List (Str × Addr)} {pm ctv : Value} {N : List Str} {σ0 : St} {args : Args} {binds : List (Str × Value)} {te : TE} {Q : VK}
    (e0 : Env0 P w K mg base A outer s H) (hr : Room (k + 1) A)
    (ho : s.heap.get? f = some (kla_obj name qual params body scope cl pm c' ctv)) (hcd : s.heap.CodeRec (.ref c') qual)
    (hbind : bindArgs (kla_fn name qual params body scope cl pm (.ref c') ctv) args = pure binds) (hloc : ∀ y ∈ binds, scope.names.lookup y.1 = some .local)
    (hco : scope.isCoroutine = false) (hgen : scope.isGenerator = false) (hk : scope.kind = .function) (hcell : ∀ x ∈ scope.names, x.2 ≠ .cell)
    (inj : ∀ x y c, cl.lookup x = some c → cl.lookup y = some c → x = y) (has : ∀ x, scope.names.lookup x = some .free → ∃ c, cl.lookup x = some c)
    (cells : ∀ x c, cl.lookup x = some c → (∃ v, s.heap.IsCell c v) ∧ H c = none)
    (vals : ∀ (i : Nat) (x : Str) (v : V), N[i]? = some x → σ0[i]? = some (some v) → ∃ u, RelV v u ∧ ((scope.names.lookup x = some .local ∧ binds.reverse.lookup x = some u) ∨ (scope.names.lookup x = some .free ∧ ∃ c, cl.lookup x = some c ∧ s.heap.IsCell c (some u))))
    (hlen : σ0.length = N.length)
    (hbody : Room k (A.deeper (envX qual scope s.heap.objs.size f (.ref c') cl)) → PE (cxLam P w K mg base N qual scope f (.ref c') cl A outer s H) body te) (hq : te σ0 H Q) :
    codeAny (model P w) A (.call (.ref f) args) (CR CX0 outer P w H s Q E0) s := by
  have lim : s.heap.NoLimit := e0.mod.nolimit.keeps fun b o e => (e0.bs b o e).1
  refine kla_callFunE (by have := hr.dp; omega) ho rfl hco hgen rfl hcd ?_
  rw [hbind]
  refine wpAny_pure (wpAny_newFunctionEnv hcell hloc (fun h₁ hns hsb => ⟨lim.fresh _ hsb, ?_⟩) hk)
  show codeAny _ _ (.expr body (envX qual scope s.heap.objs.size f (.ref c') cl)) _ _
  have hk₁ : ∀ b o, s.heap.get? b = some o → h₁.get? b = some o := fun b o e => hsb.extBut b o (Nat.ne_of_lt (Heap.lt_size e)) (Heap.get?_push_of_some _ e)
  have noA : ∀ b : Addr, b ∉ (cxLam P w K mg base N qual scope f (.ref c') cl A outer s H).ex := fun b z => absurd (show b ∈ ([] : List Addr) from z) (by simp)
  have I : Inv (cxLam P w K mg base N qual scope f (.ref c') cl A outer s H) [] σ0 H { s with heap := h₁, toks := s.toks + binds.length } := by
    refine ⟨⟨e0.mod, hk, rfl, rfl, Nat.le_refl _, inj, fun y hy => ?_, fun y c z _ => (by cases z), fun _ => hr.hd, Around.frames_deeper e0.frames, .inr ⟨rfl, rfl⟩, fun b z => absurd z (noA b), e0.bs, e0.bsz, fun b _ _ => noA b, fun b z => absurd z (noA b), e0.funs, e0.frf⟩,
      rfl, e0.bare, Un.kept hk₁, ⟨_, hns, fun i y v h1 h2 _ => ?_⟩, fun y c h => ?_, e0.hok.fresh (Nat.le_refl _), fun y c h => (cells y c h).2, fun p hp => absurd (show p ∈ ([] : List (Addr × Obj)) from hp) (by simp), e0.hok.kept hk₁, hlen⟩
    · have hy : scope.names.lookup y = some .cell ∨ scope.names.lookup y = some .free := hy
      rcases hy with hy | hy
      · exact absurd rfl (hcell _ (PySem.mem_of_lookup hy))
      · exact has y hy
    · obtain ⟨u, rv, h⟩ := vals i y v h1 h2
      refine ⟨u, rv, ?_⟩
      rcases h with ⟨a, b⟩ | ⟨a, c, b, d⟩
      · exact .inl ⟨a, b⟩
      · exact .inr ⟨.inr a, c, b, d.keeps hk₁⟩
    · obtain ⟨⟨v, hv⟩, _⟩ := cells y c h
      exact ⟨v, hv.keeps hk₁⟩
  refine kla_codeExpr (wpAny_mono (hbody (hr.deeper _) [] _ σ0 H _ I hq) (fun v s' ⟨x, H', J, r, q⟩ => ?_) fun _ _ z => False.elim z)
  exact ⟨x, H', J.os, J.bare, J.base, J.hok, r, q⟩
end
end L2

set_option Elab.async false
set_option linter.all false
set_option autoImplicit false
set_option maxRecDepth 100000
/-! sorted(xs, key=lambda p: e): the lambda made, and called at each item; its keys tuples of texts -/
namespace L2
open PySem PySem.Spec PyProof.Rows PySem.W
noncomputable def SameP (T : Addr) (H H' : Hp) : Prop := ∀ b o, b ≠ T → H b = some o → H' b = some o
theorem Same.p {T : Addr} {H H' : Hp} (h : Same H H') : SameP T H H' := fun b o _ e => h b o e
theorem SameP.trans {T : Addr} {H H1 H2 : Hp} (h : SameP T H H1) (k : SameP T H1 H2) : SameP T H H2 := fun b o n e => k b o n (h b o n e)
section
variable {X : Cx} {pins : List (Addr × Obj)} {σ : St} {H : Hp} {s : Shared}
/-- the table of a code object grows -/
theorem Inv.tbl {T : Addr} {ps more : Array Value} {h' : Heap} {t' : Nat} (I : Inv X pins σ H s) (hP : H T = some (.tbl ps)) (k : ∀ b o, b ≠ T → s.heap.get? b = some o → h'.get? b = some o) (e : h'.get? T = some (tabObj (ps ++ more))) :
    Inv X pins σ (upd H T (.tbl (ps ++ more))) { s with heap := h', toks := t' } := by
  have nT : ∀ b, H b = none → b ≠ T := fun b n z => by rw [z, hP] at n; cases n
  have oT : ∀ b u, (∀ qs, u ≠ HO.tbl qs) → H b = some u → b ≠ T := fun b u nu n z => by rw [z, hP] at n; cases n; exact nu _ rfl
  refine I.step (g' := s.gens) (d' := s.drawn) (ch := []) (fun _ z => nomatch z) (fun b o _ _ _ e n => k b o (nT b n) e) (fun b o _ _ _ e n => ⟨o.slots, k b o (nT b n) e⟩) (fun b o _ _ n => by rw [upd_ne (nT b n)]; exact n)
    (fun b o _ q => ?_) (fun b xs q => ?_) (fun b o u q => ?_) (fun b qs q => ?_) (fun m hm => ?_) (fun b u q => ?_) I.bare
  · by_cases z : b = T
    · subst z; exact ⟨_, e⟩
    · exact ⟨o, k b o z q⟩
  · rw [upd_ne (oT b _ (by intro _ z; cases z) q)]; exact q
  · rw [upd_ne (oT b _ (by intro _ z; cases z) q)]; exact q
  · by_cases z : b = T
    · subst z
      rw [hP] at q
      cases q
      exact ⟨more, upd_same⟩
    · exact ⟨#[], by rw [upd_ne z, q]; simp⟩
  · obtain ⟨o, es, ep, ho, r⟩ := hm
    exact ⟨o, es, ep, k _ o (nT _ I.free) ho, r⟩
  · by_cases z : b = T
    · subst z
      rw [upd_same] at q
      cases q
      exact e
    · rw [upd_ne z] at q
      refine (I.hok b u q).stay (fun c v hc y => k c v ?_ y) (fun c y => ?_) fun c ys y => ?_
      · rcases hc with hc | hc
        · rw [hc]; exact z
        · exact oT c _ (by intro _ z; cases z) hc
      · rw [upd_ne (oT c _ (by intro _ z; cases z) y)]; exact y
      · rw [upd_ne (oT c _ (by intro _ z; cases z) y)]; exact y
noncomputable def BltAt (mg : Str → Option Value) (base : Heap) : Prop := ∃ (bm : Addr) (o : Obj), mg "__builtins__" = some (.ref bm) ∧ bm ≠ builtinsNs ∧ base.get? bm = some o ∧ o.cls = .type "module" ∧ o.dict = some builtinsNs ∧ o.data = .plain
theorem lam_make {c T : Addr} {ps : Array Value} {params : Arguments} {body : Expr} {scope : Scope} {lpos : Pos} {clos : List (Str × Addr)} {Q : Value → Shared → Prop} (I : Inv X pins σ H s)
    (hcl : closureFor scope X.env = pure clos) (hcode : X.env.code = .ref c) (C : CodeHd X.base c T) (hP : H T = some (.tbl ps)) (ht : TriplesOk ps.toList) (hnf : codeAmong lpos ps.toList = none) (hB : BltAt X.mg X.base) (hdef : defaultsOf params X.env = ([], []))
    (h : ∀ (f c' : Addr) (ctv : Value) (h' : Heap) (tk : Nat), Inv X pins σ (upd H T (.tbl (ps ++ #[rawInt lpos.line, rawInt lpos.col, .ref c']))) { s with heap := h', toks := tk } →
      h'.get? f = some (kla_obj "<lambda>" (X.env.qual ++ "<lambda>") params body scope clos ((X.mg "__name__").getD .none) c' ctv) → h'.CodeRec (.ref c') (X.env.qual ++ "<lambda>") → s.heap.objs.size ≤ f → s.heap.objs.size ≤ c' → Q (.ref f) { s with heap := h', toks := tk }) :
    wpAny (model X.prog X.w) X.A (eval (.Lambda params body scope lpos) X.env) Q X.xe s := by
  refine kla_eval hdef ?_
  have hg : s.heap.Ns mainGlobals X.mg := I.mod.glob.keeps I.bk
  have hT : s.heap.get? T = some (tabObj ps) := I.hok T _ hP
  obtain ⟨bm, ob, b1, b2, b3, b4, b5, b6⟩ := hB
  have nb : ∀ b o, X.base.get? b = some o → b ≠ T := fun b o e z => by
    have := (I.bs b o e).2
    rw [z, hP] at this
    cases this
  obtain ⟨og, es, ep, eg, dg, _⟩ := I.mod.glob
  have hbG : bm ≠ mainGlobals := fun q => by
    rw [q, eg] at b3; cases b3; rw [dg] at b6; cases b6
  refine kla_makeFunction (mg := X.mg) hcl I.ok.glob hg hcode (C.keeps I.bk) hT ht hnf (nb _ _ eg) ⟨bm, ob, b1, b2, hbG, nb _ _ b3, I.bk _ _ b3, b4, b5, b6⟩ fun c' ctv h' tk hx hge hlt hrec htb => ?_
  exact h _ c' ctv _ tk (I.tbl hP (fun b o hb e => Heap.get?_push_of_some _ (hx b o hb e)) (Heap.get?_push_of_some _ htb)) (Heap.get?_push_size _ rfl) (hrec.push _) (Nat.le_trans hge (Nat.le_of_lt hlt)) hge
set_option maxHeartbeats 4000000 in
theorem call_sortLam {k : Nat} {f l : Addr} {vs : List V} {ws : Nat → List Str} {Q : VK} (hr : Room (k + 2) X.A) (I : Inv X pins σ H s) (hl : SqL X.K H l vs) (hrf : ∀ v ∈ vs, ∃ a, v = V.ref a) (nd : vs.Nodup) (h64 : vs.length < 64)
    (key : ∀ (pl : List (Addr × Obj)) (s' : Shared) (H' : Hp) (i : Nat) (v : V) (x : Value), vs[i]? = some v → RelV v x → Inv X (pins ++ pl) σ H' s' → Same H H' →
      wpAny (model X.prog X.w) X.A.in1.in1 (call (.ref f) [x]) (EP X (pins ++ pl) σ (fun z H2 => Same H' H2 ∧ ∃ a, z = .ref a ∧ H2 a = some (.tup ((ws i).map V.str)))) (fun _ _ => False) s')
    (q : ∀ (r : Addr) (is : List Nat) (H' : Hp), Same H H' → H' r = none → is.Perm (List.range vs.length) → is.Pairwise (GS.Bef ws) → Q (.ref r) (upd H' r (.lst (is.map fun i => vs.getD i .non)))) :
    wpAny (model X.prog X.w) X.A (call (.builtin "sorted") [.ref l] [(Str.ofString "key", .ref f)]) (EP X pins σ Q) X.xe s := by
  obtain ⟨its, rv, pl, hz⟩ := I.list hl
  obtain ⟨em, isr⟩ := refs_of rv hrf
  have hlen := rv.length
  refine call_function_entry_kw kind_sorted plain_sorted entry_sorted (ksk_s1 _ _) ?_
  unfold Builtin.«sorted»
  refine wpAny_bind (m := checkCount "sorted" 1 1 _) (wpAny_pure ?_)
  refine wpAny_bind (collect_list pl.isList ?_ (by omega))
  refine wpAny_bind (wpAny_newList ?_ (by omega))
  have hsz : ((s.heap.push (seqObj "list" #[] 0)).update s.heap.objs.size (Obj.mapSeq (· ++ its.toArray))).objs.size = s.heap.objs.size + 1 := by
    rw [Heap.size_update, size_push']
  generalize hh8 : (((s.heap.push (seqObj "list" #[] 0)).update s.heap.objs.size (Obj.mapSeq (· ++ its.toArray))).push (seqObj "list" its.toArray 0)) = h8
  have hoL : h8.get? (s.heap.objs.size + 1) = some (seqObj "list" its.toArray 0) := by
    rw [← hh8, ← hsz]; exact Heap.get?_push_size _ rfl
  have sz8 : h8.objs.size = s.heap.objs.size + 2 := by rw [← hh8, size_push', hsz]
  have old : ∀ b o, s.heap.get? b = some o → h8.get? b = some o := fun b o e => by
    rw [← hh8]
    refine Heap.get?_push_of_some _ ((Heap.get?_update_other _ _ ?_).trans (Heap.get?_push_of_some _ e))
    exact (Nat.ne_of_lt (Heap.lt_size e)).symm
  dsimp only
  rw [hsz]
  generalize hD : s.heap.objs.size + 1 = D at *
  refine wpAny_bind (wpAny_holding (wpAny_call_entry_kw slot_list_sort ⟨_, hoL, rfl⟩ entry_list_sort ?_ (ksk_l1 _ _)))
  rw [ksk_t1]
  have s1 := Heap.SameBut.update h8 D (Obj.mapSeq fun _ => (#[] : Array Value))
  obtain ⟨e1, ho1⟩ : ∃ e1, (h8.update D (Obj.mapSeq fun _ => (#[] : Array Value))).get? D = some (seqObj "list" #[] e1) := ⟨_, get?_update_seq hoL fun _ => #[]⟩
  unfold ksk_tree
  refine wpAny_bind (listItems_at hoL rfl ?_)
  refine wpAny_bind (listUpdate_at hoL rfl ?_ (by rw [List.size_toArray]; omega) (Nat.zero_le _))
  refine wpAny_bind (seqEpoch_at ho1 rfl ?_)
  refine wpAny_bind (wpAny_newTuple ?_ (by simp only [List.toList_toArray]; omega))
  refine wpAny_bind (wpAny_newList ?_ (Nat.zero_le _))
  refine wpAny_holding ?_
  have hkS : ((h8.update D (Obj.mapSeq fun _ => (#[] : Array Value))).push (seqObj "tuple" its.toArray 0)).objs.size = s.heap.objs.size + 3 := by rw [size_push', Heap.size_update, sz8]
  generalize hh12 : ((h8.update D (Obj.mapSeq fun _ => (#[] : Array Value))).push (seqObj "tuple" its.toArray 0)).push (seqObj "list" #[] 0) = h12
  have kS12 : h12.get? (s.heap.objs.size + 3) = some (seqObj "list" #[] 0) := by rw [← hh12, ← hkS]; exact Heap.get?_push_size _ rfl
  have D12 : h12.get? D = some (seqObj "list" #[] e1) := by rw [← hh12]; exact Heap.get?_push_of_some _ (Heap.get?_push_of_some _ ho1)
  have old12 : ∀ b o, s.heap.get? b = some o → h12.get? b = some o := fun b o e => by
    rw [← hh12]
    refine Heap.get?_push_of_some _ (Heap.get?_push_of_some _ ((s1.2 b ?_).trans (old b o e)))
    exact Nat.ne_of_lt (Nat.lt_trans (Heap.lt_size e) (by rw [← hD]; exact Nat.lt_succ_self _))
  have I12 : Inv X pins σ H { s with heap := h12 } := I.kept (t' := s.toks) old12
  have stD : ∀ H', H' D = none → FpOk X pins H' D := fun H' hn => I.fpOk (by omega) hn
  have stK : ∀ H', H' (s.heap.objs.size + 3) = none → FpOk X pins H' (s.heap.objs.size + 3) := fun H' hn => I.fpOk (by omega) hn
  have hD0 : H D = none := I.hok.fresh (by omega)
  have hK0 : H (s.heap.objs.size + 3) = none := I.hok.fresh (by omega)
  have hka : s.heap.objs.size + 3 ≠ D := by omega
  dsimp only
  simp only [List.toList_toArray, hkS]
  generalize hKS : s.heap.objs.size + 3 = kS at *
  unfold ksk_rest
  refine wpAny_bind (wpAny_rule ?_)
  first
    | rw [List.forIn_toArray]
    | (rw [← Array.forIn_toList]; simp only [List.toList_toArray])
  refine wpAny_bind (ksk_fold (fun i s' => ∃ (H' : Hp) (kv : List V) (keys : List Value) (e : Nat), Inv X pins σ H' s' ∧ Same H H' ∧ H' D = none ∧ H' kS = none ∧ s'.heap.get? kS = some (seqObj "list" keys.toArray e) ∧ s'.heap.get? D = some (seqObj "list" #[] e1) ∧
      Vals kv keys ∧ kv.length = i ∧ ∀ (j : Nat) (z : V), kv[j]? = some z → ∃ a, z = .ref a ∧ H' a = some (.tup ((ws j).map V.str))) its 0 _
    ⟨H, [], [], 0, I12, fun _ _ z => z, hD0, hK0, kS12, D12, .nil, rfl, fun j z e => by simp at e⟩ ?step ?done)
  case step =>
    rintro j x s' hx ⟨H', kv, keys, e, I', sm, hD', hK', gk, gD, rk', lk, ak⟩
    simp only [Nat.zero_add] at lk ⊢
    have hj : j < its.length := (List.getElem?_eq_some_iff.mp hx).1
    obtain ⟨v, hv⟩ : ∃ v, vs[j]? = some v := ⟨_, List.getElem?_eq_getElem (by omega)⟩
    obtain ⟨x', hx', rx⟩ := rv.get hv
    rw [hx] at hx'
    cases hx'
    have I'' := I'.pinned (fp := [D, kS]) (fun b hb => by
      rcases List.mem_cons.mp hb with rfl | hb
      · exact stD H' hD'
      · rw [List.mem_singleton.mp hb]; exact stK H' hK') (fun b hb => by
      rcases List.mem_cons.mp hb with rfl | hb
      · exact ⟨_, gD, fun v z => by cases (show Data.seq _ _ = Data.cell v from z)⟩
      · rw [List.mem_singleton.mp hb]; exact ⟨_, gk, fun v z => by cases (show Data.seq _ _ = Data.cell v from z)⟩)
    have pD := mem_pinsAt (fp := [D, kS]) (by simp) gD
    have pK := mem_pinsAt (fp := [D, kS]) (by simp) gk
    refine wpAny_bind (wpAny_attempt (wpAny_mono (key _ s' H' j v x hv rx I'' sm) (fun z s2 hz2 => ?_) fun _ _ hF => hF.elim))
    obtain ⟨zv, H2, I2, rz, sm2, p, rfl, hp⟩ := hz2
    cases rz
    dsimp only
    have eD := I2.pin _ (List.mem_append_right _ (List.mem_append_right _ pD))
    have eK := I2.pin _ (List.mem_append_right _ (List.mem_append_right _ pK))
    have lkeys := rk'.length
    obtain ⟨c2, hc2⟩ : ∃ c2, (s2.heap.update kS (Obj.mapSeq (·.push (Value.ref p)))).get? kS = some (seqObj "list" (keys.toArray.push (Value.ref p)) c2) := ⟨_, get?_update_seq eK.1 (·.push (Value.ref p))⟩
    have ea : keys.toArray.push (Value.ref p) = (keys ++ [Value.ref p]).toArray := by simp
    rw [ea] at hc2
    have fK := stK _ eK.2.1
    have I3 : Inv X pins σ H2 { s2 with heap := s2.heap.update kS (Obj.mapSeq (·.push (Value.ref p))) } :=
      I2.unpinned.turned (t' := s2.toks) (it := kS) (fun b o hb q => (Heap.get?_update_other _ _ (Ne.symm hb)).trans q) fK.1 fK.2.1 fK.2.2.2.1 fK.2.2.2.2.1 fK.2.2.2.2.2
    refine wpAny_bind (listUpdate_at eK.1 rfl ?_ (by rw [List.size_toArray]; omega) (by rw [Array.size_push, List.size_toArray]; omega))
    refine wpAny_pure ⟨rfl, _, kv ++ [.ref p], keys ++ [.ref p], c2, I3, sm.trans sm2, eD.2.1, eK.2.1, hc2, (Heap.get?_update_other _ _ hka).trans eD.1, rk'.append (.cons (show RelV (.ref p) (.ref p) from rfl) .nil), by rw [List.length_append, lk]; rfl, fun i z e2 => ?_⟩
    by_cases hi : i < kv.length
    · rw [List.getElem?_append_left hi] at e2
      obtain ⟨a, rfl, ha⟩ := ak i z e2
      exact ⟨a, rfl, sm2 _ _ ha⟩
    · have hi2 : i < (kv ++ [V.ref p]).length := (List.getElem?_eq_some_iff.mp e2).1
      rw [List.length_append] at hi2
      have ei : i = kv.length := by simp at hi2; omega
      subst ei
      rw [List.getElem?_append_right (Nat.le_refl _), Nat.sub_self] at e2
      have e2 : V.ref p = z := by simpa using e2
      rw [lk]
      exact ⟨p, e2.symm, hp⟩
  case done =>
    rintro s' ⟨H', kv, keys, e, I', sm, hD', hK', gk, gD, rk', lk, ak⟩
    simp only [Nat.zero_add] at lk
    have lkeys := rk'.length
    refine wpAny_bind (listItems_at gk rfl ?_)
    have tx : ∀ (j : Nat) (x : Value), keys[j]? = some x → GS.TxtAt s'.heap x (ws j) := fun j x hx => by
      obtain ⟨z, hz', rz⟩ := Paired.get2 rk' hx
      obtain ⟨a, rfl, ha⟩ := ak j z hz'
      cases rz
      obtain ⟨tt, r2, pt, _⟩ := I'.tuple (SqT.of (K := X.K) ha)
      exact ⟨a, tt, rfl, pt, strsAre_of r2⟩
    have ndi : its.Nodup := by
      have : (its.map refV).Nodup := by rw [em]; exact nd
      exact (List.pairwise_map.mp this).imp fun h z => h (by rw [z])
    have hu : X.A.in1.in1.units < cLine := by
      have := hr.in1.in1.un
      omega
    refine GS.ksk_endS (ws := ws) gk gD hka (by omega) (by omega) ndi tx hu fun is hp ho => ⟨_, rfl, ?_⟩
    have lts : ∀ i ∈ is, i < its.length := fun i hi => List.mem_range.mp (hp.mem_iff.mp hi)
    have eg : (is.map fun i => its.getD i .none).map refV = is.map fun i => vs.getD i .non := by
      rw [List.map_map]
      refine List.map_congr_left fun i hi => ?_
      have h1 := lts i hi
      show refV (its.getD i .none) = _
      rw [← em, List.getD_eq_getElem?_getD, List.getD_eq_getElem?_getD, List.getElem?_map, List.getElem?_eq_getElem h1]
      rfl
    have iso : ∀ u ∈ is.map fun i => its.getD i .none, ∃ a, u = Value.ref a := fun u hu => by
      obtain ⟨i, hi, rfl⟩ := List.mem_map.mp hu
      have h1 := lts i hi
      rw [List.getD_eq_getElem?_getD, List.getElem?_eq_getElem h1]
      exact isr _ (List.getElem_mem h1)
    have fK := stK H' hK'
    have I4 : Inv X pins σ H' { s' with heap := s'.heap.update kS (Obj.mapSeq fun _ => (#[] : Array Value)) } :=
      I'.turned (t' := s'.toks) (it := kS) (fun b o hb q => (Heap.get?_update_other _ _ (Ne.symm hb)).trans q) fK.1 fK.2.1 fK.2.2.2.1 fK.2.2.2.2.1 fK.2.2.2.2.2
    have gD4 : (s'.heap.update kS (Obj.mapSeq fun _ => (#[] : Array Value))).get? D = some (seqObj "list" #[] e1) := (Heap.get?_update_other _ _ hka).trans gD
    obtain ⟨c5, hc5⟩ : ∃ c5, ((s'.heap.update kS (Obj.mapSeq fun _ => (#[] : Array Value))).update D (Obj.mapSeq fun _ => (is.map fun i => its.getD i .none).toArray)).get? D = some (seqObj "list" (is.map fun i => its.getD i .none).toArray c5) := ⟨_, get?_update_seq gD4 fun _ => (is.map fun i => its.getD i .none).toArray⟩
    have I5 := I4.adopt (t' := s'.toks) (its := is.map fun i => its.getD i .none) (vs := (is.map fun i => its.getD i .none).map refV) (h' := (s'.heap.update kS (Obj.mapSeq fun _ => (#[] : Array Value))).update D (Obj.mapSeq fun _ => (is.map fun i => its.getD i .none).toArray)) (stD H' hD')
      (fun b o hb q => (Heap.get?_update_other _ _ (Ne.symm hb)).trans q) hc5 (vals_refs iso) (by rw [List.length_map, List.length_map, hp.length_eq, List.length_range]; omega)
    rw [eg] at I5
    rw [← hlen] at hp
    exact wpAny_pure ⟨_, rfl, .ref D, _, I5, rfl, q D is H' sm hD' hp ho⟩
end
end L2

set_option Elab.async false
set_option linter.all false
set_option autoImplicit false
set_option maxRecDepth 100000
/-! sorted(e, key=lambda p: body) as an expression; the lambda keeps two names -/
namespace L2
open PySem PySem.Spec PyProof.Rows PySem.W
theorem SameP.seq {T : Addr} {K : PySem.W.Frag} {H H' : Hp} {a : Addr} {xs : List V} {ps : Array Value} (e : SameP T H H') (hT : H T = some (.tbl ps)) (h : SqL K H a xs) : SqL K H' a xs := by
  rcases h with (h | ⟨o, h⟩) | h
  · exact .inl (.inl (e _ _ (fun z => by rw [z, hT] at h; cases h) h))
  · exact .inl (.inr ⟨o, e _ _ (fun z => by rw [z, hT] at h; cases h) h⟩)
  · exact .inr h
noncomputable def tSortLam (K : PySem.W.Frag) (T : Addr) (lpos : Pos) (i1 i2 : Nat) (te : TE) (t : TA) : TE := fun σ H Q => t σ H fun xs H1 => ∃ (l : Addr) (vs : List V) (ws : Nat → List Str) (v1 v2 : V) (ps : Array Value), xs = [.ref l] ∧ SqL K H1 l vs ∧ (∀ v ∈ vs, ∃ a, v = V.ref a) ∧ vs.Nodup ∧ vs.length < 64 ∧
  H1 T = some (.tbl ps) ∧ TriplesOk ps.toList ∧ codeAmong lpos ps.toList = none ∧ σ[i1]? = some (some v1) ∧ σ[i2]? = some (some v2) ∧
  (∀ (i : Nat) (v : V), vs[i]? = some v → ∀ H', SameP T H1 H' → ∀ Q' : VK, (∀ a H2, Same H' H2 → H2 a = some (.tup ((ws i).map V.str)) → Q' (.ref a) H2) → te [some v, some v1, some v2] H' Q') ∧
  ∀ (r : Addr) (is : List Nat) (H' : Hp), SameP T H1 H' → H' r = none → is.Perm (List.range vs.length) → is.Pairwise (GS.Bef ws) → Q (.ref r) (upd H' r (.lst (is.map fun i => vs.getD i .non)))
theorem pe_sortLam {X : Cx} {K : PySem.W.Frag} (hK : X.K = K) {k i1 i2 : Nat} {c T c1 c2 : Addr} {params : Arguments} {body e : Expr} {scope : Scope} {lpos kpos pos p : Pos} {t : TA} {clos : List (Str × Addr)} {p0 x1 x2 : Str} {te : TE}
    (hr : Room (k + 3) X.A) (hg : Gl X "sorted") (hm : X.mg "sorted" = none) (ha : PA X [e] t)
    (hcode : X.env.code = .ref c) (C : CodeHd X.base c T) (hB : BltAt X.mg X.base)
    (hcl : closureFor scope X.env = pure clos) (hsub : ∀ x c, clos.lookup x = some c → X.env.cells.lookup x = some c)
    (h1 : clos.lookup x1 = some c1) (h2 : clos.lookup x2 = some c2) (n1 : X.N[i1]? = some x1) (n2 : X.N[i2]? = some x2) (k1 : X.env.kindOf x1 = some .cell) (k2 : X.env.kindOf x2 = some .cell)
    (s0 : scope.names.lookup p0 = some .local) (f1 : scope.names.lookup x1 = some .free) (f2 : scope.names.lookup x2 = some .free) (hfr : ∀ x, scope.names.lookup x = some .free → x = x1 ∨ x = x2)
    (hco : scope.isCoroutine = false) (hgen : scope.isGenerator = false) (hkd : scope.kind = .function) (hcell : ∀ x ∈ scope.names, x.2 ≠ .cell)
    (hbind : ∀ (pm : Value) (c' : Addr) (ctv u : Value), bindArgs (kla_fn "<lambda>" (X.env.qual ++ "<lambda>") params body scope clos pm (.ref c') ctv) ⟨[u], []⟩ = pure [(p0, u)])
    (hbody : ∀ (f c' : Addr) (A : Around) (outer : List Env) (s : Shared) (H : Hp), Room k (A.deeper (envX (X.env.qual ++ "<lambda>") scope s.heap.objs.size f (.ref c') clos)) → PE (cxLam X.prog X.w X.K X.mg X.base [p0, x1, x2] (X.env.qual ++ "<lambda>") scope f (.ref c') clos A outer s H) body te)
    (hdef : defaultsOf params X.env = ([], []) := by rfl)
    (he : backTo pos (starEach [e] X.env) = (false, eval e X.env) :: backTo pos (starEach [] X.env) := by rfl) (hpl : (backTo pos (starEach [e] X.env)).any (·.1) = false := by rfl) :
    PE X (.Call (.Name "sorted" p) [e] [⟨some "key", .Lambda params body scope lpos, kpos⟩] pos) (tSortLam K T lpos i1 i2 te t) := by
  subst hK
  intro pins s σ H Q I h
  refine wpAny_Call_Name_kw (ld_blt I hg hm boot_sorted ?_)
  refine PyProof.Rows.callWith_kw (thn (ha pos pins s σ H _ I h) fun us s1 ⟨vs0, H1, I1, r1, q1⟩ => ?_) he hpl
  obtain ⟨l, vs, ws, v1, v2, ps, rfl, hl, hrf, nd, h64, hT, ht, hnf, e1, e2, hkey, q⟩ := q1
  obtain ⟨u, rfl, ru⟩ := vals1 r1
  cases ru
  refine PyProof.Rows.kws_cons (lam_make I1 hcl hcode C hT ht hnf hB hdef fun f c' ctv h' tk I2 gf gc hf hc => PyProof.Rows.kws_nil ?_)
  obtain ⟨cc, oc, vsc, tq, ec, goc, dc, vq⟩ := gc
  cases ec
  have sT : SameP T H1 (upd H1 T (.tbl (ps ++ #[rawInt lpos.line, rawInt lpos.col, .ref c']))) := fun b o n z => by rw [upd_ne n]; exact z
  have fr : ∀ b, s1.heap.objs.size ≤ b → upd H1 T (.tbl (ps ++ #[rawInt lpos.line, rawInt lpos.col, .ref c'])) b = none := fun b hb => by
    have n : H1 b = none := I1.hok.fresh hb
    rw [upd_ne (fun z => by rw [z, hT] at n; cases n)]
    exact n
  have I3 := I2.pinned (fp := [f, c']) (fun b hb => by
      rcases List.mem_cons.mp hb with rfl | hb
      · exact I1.fpOk hf (fr _ hf)
      · rw [List.mem_singleton.mp hb]; exact I1.fpOk hc (fr _ hc)) (fun b hb => by
      rcases List.mem_cons.mp hb with rfl | hb
      · exact ⟨_, gf, fun v z => by cases z⟩
      · rw [List.mem_singleton.mp hb]; exact ⟨_, goc, fun v z => by rw [dc] at z; cases z⟩)
  have pF := mem_pinsAt (fp := [f, c']) (h := h') (by simp) gf
  have pC := mem_pinsAt (fp := [f, c']) (h := h') (by simp) goc
  refine wpAny_mono (call_sortLam (k := k + 1) (ws := ws) (Q := Q) hr I3 (sT.seq hT hl) hrf nd h64 (fun pl s' H' i v x hv rx I' sm => ?_) (fun r is H' sm hn hp ho => q r is H' (sT.trans sm.p) hn hp ho)) (fun v s' ⟨z, H', J, r, q⟩ => ⟨z, H', J.unpinned, r, q⟩) fun _ _ z => z
  have gf' := (I'.pin _ (List.mem_append_right _ (List.mem_append_left _ (List.mem_append_right _ pF)))).1
  have gc' := (I'.pin _ (List.mem_append_right _ (List.mem_append_left _ (List.mem_append_right _ pC)))).1
  have cellOf : ∀ (i : Nat) (y : Str) (cy : Addr) (vv : V), X.N[i]? = some y → σ[i]? = some (some vv) → X.env.kindOf y = some .cell → clos.lookup y = some cy → ∃ u, RelV vv u ∧ s'.heap.IsCell cy (some u) := fun i y cy vv hN hσ hk hcy => by
    obtain ⟨m, _, hl⟩ := I'.loc
    obtain ⟨u, rv, look⟩ := hl i y vv hN hσ (.inr (.inl hk))
    refine ⟨u, rv, ?_⟩
    rcases look with ⟨z, _⟩ | ⟨_, c, e, z⟩
    · rw [hk] at z; cases z
    · rw [hsub y cy hcy] at e
      cases e
      exact z
  refine wpAny_call (codeAny_mono (lam_run (k := k) (N := [p0, x1, x2]) (σ0 := [some v, some v1, some v2]) (te := te) (Q := fun z H2 => Same H' H2 ∧ ∃ a, z = .ref a ∧ H2 a = some (.tup ((ws i).map V.str))) I'.env0.in1.in1 hr.in1.in1 gf' ⟨c', oc, vsc, tq, rfl, gc', dc, vq⟩ (hbind _ _ _ x) (fun y hy => ?_) hco hgen hkd hcell (fun y z c a b => I'.ok.inj y z c (hsub _ _ a) (hsub _ _ b)) (fun y hy => ?_) (fun y c hy => ⟨I'.cell y c (hsub _ _ hy), I'.freeC y c (hsub _ _ hy)⟩) (fun j y vv hN hσ => ?_) rfl (hbody f c' _ _ _ _) (hkey i v hv H' (sT.trans sm.p) _ fun a H2 s2 h2 => ⟨s2, a, rfl, h2⟩)) fun r s2 hq => ?_)
  · rw [List.mem_singleton.mp hy]; exact s0
  · rcases hfr y hy with rfl | rfl
    · exact ⟨_, h1⟩
    · exact ⟨_, h2⟩
  · match j, hN, hσ with
    | 0, hN, hσ =>
      cases hN
      cases hσ
      exact ⟨x, rx, .inl ⟨s0, by simp⟩⟩
    | 1, hN, hσ =>
      cases hN
      cases hσ
      obtain ⟨u, ru, z⟩ := cellOf i1 x1 c1 v1 n1 e1 k1 h1
      exact ⟨u, ru, .inr ⟨f1, c1, h1, z⟩⟩
    | 2, hN, hσ =>
      cases hN
      cases hσ
      obtain ⟨u, ru, z⟩ := cellOf i2 x2 c2 v2 n2 e2 k2 h2
      exact ⟨u, ru, .inr ⟨f2, c2, h2, z⟩⟩
    | j + 3, hN, hσ => cases hN
  · cases r with
    | error e => exact hq
    | ok fl =>
      cases fl with
      | ret u => exact I'.after hq
      | next => exact False.elim hq
      | brk => exact False.elim hq
      | cont => exact False.elim hq
end L2

set_option Elab.async false
set_option linter.all false
set_option autoImplicit false
set_option maxRecDepth 100000
/-! the law's call where a code object's table may grow -/
namespace L2
open PySem PySem.Spec PyProof.Rows
noncomputable def cutK (T : Addr) (K : PySem.W.Frag) : PySem.W.Frag := K.filter fun p => p.1 != T
theorem cutK_ne {T : Addr} : ∀ {K : PySem.W.Frag} {a : Addr}, a ≠ T → (cutK T K).lookup a = K.lookup a
  | [], _, _ => rfl
  | (b, o) :: K, a, h => by
    unfold cutK
    rw [List.filter_cons]
    by_cases z : b = T
    · have e : ((b, o).1 != T) = false := by simp [z]
      rw [if_neg (by rw [e]; decide), List.lookup_cons]
      have e2 : (a == b) = false := by simp [z, h]
      rw [e2]
      exact cutK_ne h
    · have e : ((b, o).1 != T) = true := by simp [z]
      rw [if_pos e, List.lookup_cons, List.lookup_cons]
      split
      · rfl
      · exact cutK_ne h
theorem cutK_T {T : Addr} : ∀ {K : PySem.W.Frag}, (cutK T K).lookup T = none
  | [] => rfl
  | (b, o) :: K => by
    unfold cutK
    rw [List.filter_cons]
    by_cases z : b = T
    · have e : ((b, o).1 != T) = false := by simp [z]
      rw [if_neg (by rw [e]; decide)]
      exact cutK_T
    · have e : ((b, o).1 != T) = true := by simp [z]
      rw [if_pos e, List.lookup_cons]
      have e2 : (T == b) = false := by simp [Ne.symm z]
      rw [e2]
      exact cutK_T
theorem cutK_in {T : Addr} {K : PySem.W.Frag} {h : Heap} (X : K.In h) : (cutK T K).In h := fun a o e => by
  by_cases z : a = T
  · rw [z, cutK_T] at e; cases e
  · rw [cutK_ne z] at e
    exact X a o e
section
variable {T : Addr} {K : PySem.W.Frag} (hT : ∀ o, K.lookup T = some o → o = PySem.W.tabObj #[])
include hT
theorem drop_ns {g : Addr} {x : Str} {v : Option Value} (h : PySem.W.nsIn K g x = some v) : PySem.W.nsIn (cutK T K) g x = some v := by
  have n : g ≠ T := fun z => by
    unfold PySem.W.nsIn at h
    rw [z] at h
    cases e : K.lookup T with
    | none => rw [e] at h; cases h
    | some o => rw [e, hT o e] at h; cases h
  unfold PySem.W.nsIn at h ⊢
  rw [cutK_ne n]
  exact h
theorem drop_code {cd : Value} {q : Str} (h : PySem.W.codeIn K cd q = true) : PySem.W.codeIn (cutK T K) cd q = true := by
  cases cd with
  | ref c =>
    have n : c ≠ T := fun z => by
      unfold PySem.W.codeIn at h
      rw [z] at h
      cases e : K.lookup T with
      | none => simp only [e] at h; cases h
      | some o =>
        simp only [e, hT o e] at h
        cases h
    unfold PySem.W.codeIn at h ⊢
    simp only [cutK_ne n]
    exact h
  | _ => cases h
theorem Fun.drop {x qual : Str} {st : Stmt} {f : Addr} {fd : FuncData} (F : Fun K x qual st f fd) : Fun (cutK T K) x qual st f fd := by
  obtain ⟨oc, od, kV, doc, pm, an, cdv, ct, osl, rfl, lk, hcd⟩ := F.ex
  have n : f ≠ T := fun z => by
    rw [z] at lk
    have := hT _ lk
    cases this
  refine ⟨⟨oc, od, kV, doc, pm, an, cdv, ct, osl, rfl, by rw [cutK_ne n]; exact lk, drop_code hT hcd⟩, ?_⟩
  unfold PySem.W.keepIn
  simp only [cutK_ne n, lk]
theorem At0.drop {x : Str} {st : Stmt} (a : At0 K x st) : At0 (cutK T K) x st := by
  obtain ⟨f, fd, F, e⟩ := a.ex
  exact ⟨f, fd, F.drop hT, drop_ns hT e⟩
end
theorem tab_code {K : PySem.W.Frag} {h : Heap} {mg : Str → Option Value} {x : Str} {c : Addr} {st : Stmt} {f : Addr} {fd : FuncData} (X : K.In h) (G : h.Ns mainGlobals mg) (t : ∃ f o fd, mg x = some (.ref f) ∧ h.get? f = some o ∧ o.data = .func fd ∧ fd.code = .ref c) (e : PySem.W.nsIn K mainGlobals x = some (some (.ref f))) (F : Fun K x x st f fd) : fd.code = .ref c := by
  obtain ⟨oc, od, kV, doc, pm, an, cdv, ct, osl, rfl, lk, hcd⟩ := F.ex
  obtain ⟨f', o, fd', h1, h2, h3, h4⟩ := t
  have e1 := PySem.W.mg_of X G e
  rw [h1] at e1
  cases e1
  rw [X _ _ lk] at h2
  cases h2
  cases h3
  exact h4
section
variable {P : Program} {w : World} {K : PySem.W.Frag} {mg : Str → Option Value} {base : Heap}
theorem Fun.okC {x qual : Str} {st : Stmt} {f : Addr} {fd : FuncData} {N ps : List Str} {k : Nat} {sp : Sp} (F : Fun K x qual st f fd) (S : FnScope N ps (defScope st)) (len : ∀ vs H Q E, sp vs H Q E → vs.length = ps.length)
    (hbody : ∀ (A : Around) (outer : List Env) (s : Shared) (H : Hp) (vs : List V) (Q : VK) (E : XK), Room k (A.deeper (envOfC qual (defScope st) s.heap.objs.size f fd.code)) → sp vs H Q E →
      ∃ t, PSs (cxOf CX0 P w K mg base N qual (defScope st) f fd.code A outer s H E).nox (defBody st) t ∧ t { nx := fun _ H' => Q .non H', rt := Q } (start N vs) H) : FnOk P w K mg base CX0 (k + 1) f fd ps sp := by
  obtain ⟨oc, od, kV, doc, pm, an, cdv, ct, osl, rfl, lk, hcd⟩ := F.ex
  refine fn_of lk hcd S len fun A outer s H vs Q E hr hsp => ?_
  obtain ⟨t, h, q⟩ := hbody A outer s H vs Q E hr hsp
  exact ⟨t, h.nox, q⟩
theorem At0.calC {h : Heap} {k : Nat} {x : Str} {st : Stmt} {ps : List Str} {sp : Sp} (a : At0 K x st) (X : K.In h) (G : h.Ns mainGlobals mg)
    (hb : ∀ (kV doc pm : Value) (an : Option Addr) (cdv ct : Value) (us : List Value), us.length = ps.length → bindArgs (PySem.W.fnOf x x (defArgs st) (defBody st) (defScope st) .none kV doc pm an cdv ct) ⟨us, []⟩ = pure (ps.zip us))
    (ok : ∀ (f : Addr) (fd : FuncData), PySem.W.nsIn K mainGlobals x = some (some (.ref f)) → Fun K x x st f fd → FnOk P w K mg base CX0 k f fd ps sp) : Cal P w K mg base k x ps sp := by
  obtain ⟨f, fd, F, e⟩ := a.ex
  exact ⟨f, fd, ok f fd e F, PySem.W.mg_of X G e, F.kp, F.binds hb⟩
end
noncomputable def hp2 (T a : Addr) (o : HO) : Hp := fun b => if b = T then some (.tbl #[]) else if b = a then some o else none
theorem hp2_T {T a : Addr} {o : HO} : hp2 T a o T = some (.tbl #[]) := if_pos rfl
theorem hp2_a {T a b : Addr} {o : HO} (n : b ≠ T) (e : b = a) : hp2 T a o b = some o := (if_neg n).trans (if_pos e)
theorem hp2_n {T a b : Addr} {o : HO} (n : b ≠ T) (e : b ≠ a) : hp2 T a o b = none := (if_neg n).trans (if_neg e)
/-- the script, and the table -/
noncomputable def Only2 (T : Addr) (H : Hp) : Prop := ∀ b, b ≠ T → H b = none ∨ ∃ o xs, H b = some (.frz o (.lst xs))
theorem law_call2 {P : Program} {w : World} {K : PySem.W.Frag} {mg mb : Str → Option Value} {CX : CXT} {k : Nat} {fa a c T : Addr} {fd : FuncData} {x : Str} {sp : Sp} {s₁ : Shared} {vs : List Value} {ns : List Int}
    (KX : K.In s₁.heap) (hns : s₁.heap.Ns mainGlobals mg) (hb : s₁.heap.Ns builtinsNs mb) (hbb : ∀ x : Str, x ≠ "__name__" → mb x = bootBuiltins x) (hlim : s₁.heap.NoLimit) (hg : s₁.gens = #[])
    (ha : s₁.heap.get? a = some { cls := .type "list", data := .seq vs.toArray }) (hi : IntsAre vs ns) (hl : ns.length ≤ sizeLine) (hr : Room k callerA)
    (hT1 : s₁.heap.get? T = some (PySem.W.tabObj #[])) (C : PySem.W.CodeHd s₁.heap c T) (hB : BltAt mg s₁.heap)
    (F : ∀ base : Heap, (cutK T K).In base → base.Ns mainGlobals mg → BltAt mg base → PySem.W.CodeHd base c T → FnOk P w (cutK T K) mg base CX k fa fd [x] sp) (hbind : ∀ (s : Shared) (u : Value), BindsTo s fd ⟨[u], []⟩ [(x, u)])
    (hsp : ∀ H : Hp, H T = some (.tbl #[]) → SqL (cutK T K) H a (ns.map V.int) → sp [.ref a] H (fun v _ => v = .bl true) fun _ _ _ => False)
    (hCX : ∀ H e s', CX [] H s₁ (fun _ _ _ => False) e s' → False) :
    codeAny (model P w) callerA (.call (.ref fa) ⟨[.ref a], []⟩) (fun r s' => r = .ok (.ret (.bool true)) ∧ OldK s₁.heap s'.heap ∧ s'.os = s₁.os ∧ AllBare s'.gens) s₁ := by
  have rv := vals_ints hi
  have lenV := hi.length
  have naT : a ≠ T := fun z => by
    rw [z, hT1] at ha
    cases ha
  have core : ∀ H : Hp, Only2 T H → H T = some (.tbl #[]) → SqL (cutK T K) H a (ns.map V.int) → HOk P w H s₁.heap → (∀ b, H b ≠ none → b = a ∨ b = T) → (H a ≠ none → K.lookup a = none) →
      codeAny (model P w) callerA (.call (.ref fa) ⟨[.ref a], []⟩) (fun r s' => r = .ok (.ret (.bool true)) ∧ OldK s₁.heap s'.heap ∧ s'.os = s₁.os ∧ AllBare s'.gens) s₁ := by
    intro H hO hHT hS hok hA hK
    have base_of : ∀ {b : Addr} {o : Obj}, s₁.heap.get? b = some o → H b = none → (hidT s₁.heap H).get? b = some o := fun e n => hidT_get e n
    have noA : ∀ {b : Addr} {o : Obj}, s₁.heap.get? b = some o → (∀ xs n, o.data ≠ .seq xs n) → (∀ xs, o.data ≠ .fields xs) → H b = none := fun {b o} e d1 d2 => by
      cases q : H b with
      | none => rfl
      | some u =>
        rcases hA b (by rw [q]; simp) with e' | e'
        · subst e'
          rw [ha] at e; cases e
          exact absurd rfl (d1 _ _)
        · subst e'
          rw [hT1] at e; cases e
          exact absurd rfl (d2 _)
    have nsK : ∀ {b : Addr} {m : Str → Option Value}, s₁.heap.Ns b m → (hidT s₁.heap H).Ns b m := fun {b m} ⟨o, es, ep, e, d, r⟩ => ⟨o, es, ep, base_of e (noA e (fun _ _ z => by rw [d] at z; cases z) (fun _ z => by rw [d] at z; cases z)), d, r⟩
    have hKb : (cutK T K).In (hidT s₁.heap H) := fun b o e => base_of (cutK_in KX b o e) (by
      cases q : H b with
      | none => rfl
      | some u =>
        rcases hA b (by rw [q]; simp) with e' | e'
        · subst e'
          rw [cutK_ne naT, hK (by rw [q]; simp)] at e; cases e
        · subst e'
          rw [cutK_T] at e; cases e)
    have hM : Mod (cutK T K) mg (hidT s₁.heap H) := ⟨hKb, nsK hns, ⟨mb, nsK hb, hbb⟩, let ⟨mc, h1, h2⟩ := hlim; ⟨mc, nsK h1, h2⟩⟩
    have hB2 : BltAt mg (hidT s₁.heap H) := let ⟨bm, o, b1, b2, b3, b4, b5, b6⟩ := hB; ⟨bm, o, b1, b2, base_of b3 (noA b3 (fun _ _ z => by rw [b6] at z; cases z) (fun _ z => by rw [b6] at z; cases z)), b4, b5, b6⟩
    have hC2 : PySem.W.CodeHd (hidT s₁.heap H) c T := by
      obtain ⟨o, vs', file, tf, flags, tg, inF, text, tt, g1, g2, g3, g4, g5, g6, g7, g8, g9, ne⟩ := C
      refine ⟨o, vs', file, tf, flags, tg, inF, text, tt, base_of g1 ?_, g2, g3, g4, g5, g6, g7, g8, g9, ne⟩
      cases q : H c with
      | none => rfl
      | some u =>
        rcases hA c (by rw [q]; simp) with e' | e'
        · subst e'
          rw [ha] at g1; cases g1
          injection g2 with g2
          exact absurd g2 (by decide)
        · exact absurd e' ne
    have e0 : Env0 P w (cutK T K) mg (hidT s₁.heap H) callerA [] s₁ H := ⟨rfl, hM, fun b o e => of_hidT e, Nat.le_of_eq (hidT_size _ _), trivial, fun b hb => absurd (show b ∈ ([] : List Addr) from hb) (by simp), hok, .of_eq hg⟩
    refine codeAny_mono ((F _ hKb (nsK hns) hB2 hC2).run callerA [] s₁ H ⟨[.ref a], []⟩ [.ref a] [.ref a] _ _ hr e0 (hbind s₁ (.ref a)) (.cons rfl .nil) (hsp H hHT hS)) fun r s' h => ?_
    cases r with
    | error e => exact (hCX H e s' h).elim
    | ok fl =>
      cases fl with
      | next => exact False.elim h
      | brk => exact False.elim h
      | cont => exact False.elim h
      | ret u =>
        obtain ⟨v, H', os, bare, un, hok', r', q⟩ := h
        have q' : v = .bl true := q
        subst q'
        obtain rfl : u = Value.bool true := r'
        obtain ⟨more, eT⟩ := un.tbls T _ hHT
        have gT : s'.heap.get? T = some (PySem.W.tabObj (#[] ++ more)) := hok' T _ eT
        refine ⟨rfl, ⟨fun b o e => ?_, fun b o e => ?_⟩, os, bare⟩
        · by_cases z : b = T
          · subst z
            rw [hT1] at e
            cases e
            exact .inr (.inl ⟨(C.tab hT1).isCodeTable, rfl, #[], more, rfl, gT⟩)
          · refine .inl ?_
            cases q : H b with
            | none => exact un.keep b o e q (by intro z; exact absurd (show b ∈ ([] : List Addr) from z) (by simp)) (by simp)
            | some u =>
              rcases hO b z with z | ⟨ob, xs, z⟩
              · rw [q] at z; cases z
              · have z2 := un.frzs b ob _ z
                obtain ⟨e1, _⟩ := hok b _ z
                obtain ⟨e2, _⟩ := hok' b _ z2
                rw [e] at e1; cases e1
                exact e2
        · exact un.there b o e (by simp)
  have okT : ∀ H : Hp, ObjOk P w H s₁.heap T (.tbl #[]) := fun H => hT1
  cases hk : K.lookup a with
  | some o =>
    have e := KX a o hk
    rw [ha] at e
    cases e
    refine core (fun b => if b = T then some (.tbl #[]) else none) (fun b hb => .inl (if_neg hb)) (if_pos rfl) (.inr ⟨_, vs.toArray, _, by rw [cutK_ne naT]; exact hk, rfl, rfl, rfl, by rw [List.size_toArray, lenV]; exact hl, by simpa using rv⟩) (fun b u z => ?_) (fun b z => ?_) fun z => absurd (if_neg naT) z
    · by_cases hb : b = T
      · have z' := (if_pos hb).symm.trans z
        cases z'
        subst hb
        exact okT _
      · have z' := (if_neg hb).symm.trans z
        cases z'
    · by_cases hb : b = T
      · exact .inr hb
      · exact absurd (if_neg hb) z
  | none =>
    refine core (hp2 T a (.frz { cls := .type "list", data := .seq vs.toArray } (.lst (ns.map V.int)))) (fun b hb => ?_) hp2_T (.inl (.inr ⟨{ cls := .type "list", data := .seq vs.toArray }, hp2_a naT rfl⟩)) (fun b u z => ?_) (fun b z => ?_) fun _ => hk
    · by_cases h2 : b = a
      · exact .inr ⟨_, _, hp2_a hb h2⟩
      · exact .inl (hp2_n hb h2)
    · by_cases hb : b = T
      · subst hb
        rw [hp2_T] at z
        cases z
        exact okT _
      · by_cases h2 : b = a
        · rw [hp2_a hb h2] at z
          cases z
          subst h2
          exact ⟨ha, by rw [List.length_map]; exact hl, vs, _, rv, ha⟩
        · rw [hp2_n hb h2] at z
          cases z
    · by_cases hb : b = T
      · exact .inr hb
      · by_cases h2 : b = a
        · exact .inl h2
        · exact absurd (hp2_n hb h2) z
theorem walk_of2 {l : PySem.W.OpenLaw} {n k : Nat} {q : Program} {loose : List Str} {XP : (Str → Option Value) → Heap → Prop} {YP : World → Heap → Prop} {d dd : DefRec} {K : Params → PySem.W.Frag} {CX : World → CXT} {sp : World → Addr → Sp} {x x0 : Str}
    (hn : l.most = some n) (hn2 : n ≤ sizeLine) (hdf : d.params.defaults = []) (hr : Room k callerA)
    (hY : ∀ (w : World) (h : Heap), YP w h → (K w.params).In h) (hrec : (recsOf q).find? (fun e => e.name == x0) = some dd)
    (F : ∀ (w : World) (mg : Str → Option Value) (fa : Addr) (h : Heap), (K w.params).In h → h.Ns mainGlobals mg → mg d.name = some (.ref fa) →
      ∀ (c T : Addr), PySem.W.CodeHd h c T → h.get? T = some (PySem.W.tabObj #[]) → (∃ f o fd, mg x0 = some (.ref f) ∧ h.get? f = some o ∧ o.data = .func fd ∧ fd.code = .ref c) →
      ∃ fd : FuncData, (∀ (s : Shared) (u : Value), BindsTo s fd ⟨[u], []⟩ [(x, u)]) ∧
        ∀ base : Heap, (cutK T (K w.params)).In base → base.Ns mainGlobals mg → BltAt mg base → PySem.W.CodeHd base c T → FnOk l.prog w (cutK T (K w.params)) mg base (CX w) k fa fd [x] (sp w T))
    (hsp : ∀ (w : World) (T : Addr) (H : Hp) (a : Addr) (ns : List Int), ns.length ≤ n → H T = some (.tbl #[]) → SqL (cutK T (K w.params)) H a (ns.map V.int) → sp w T [.ref a] H (fun v _ => v = .bl true) fun _ _ _ => False)
    (hCX : ∀ (w : World) (H : Hp) (s : Shared) (e : Value) (s' : Shared), CX w [] H s (fun _ _ _ => False) e s' → False) :
    PySem.W.WalkO q loose XP YP l.row.toRowW d [] (fun f vs => PySem.call f vs) := by
  refine Att.attach_call hn hdf fun w s₀ s₁ mg mb fa o pm cd doc a vs ns G Y ho hd hcd hmg hobj hints hlen hg => ?_
  have KX := hY w _ Y
  obtain ⟨f1, o1, fd1, c, T, h1, h2, h3, h4, h5, h6⟩ := G.T.tab dd (List.mem_of_find?_eq_some hrec)
  have hn : dd.name = x0 := beq_iff_eq.mp (List.find?_some (p := fun e : DefRec => e.name == x0) hrec)
  rw [hn] at h1
  have C := PySem.W.CodeHd.of h5 h6
  obtain ⟨fd, hb, hF⟩ := F w mg fa _ KX G.T.g hmg c T C h6.2 ⟨f1, o1, fd1, h1, h2, h3, h4⟩
  obtain ⟨bm, ob, b1, b2, b3, b4, b5, b6⟩ := G.T.bmain
  exact law_call2 KX G.T.g G.T.b G.T.builtins G.T.nolimit hg hobj hints (Nat.le_trans hlen hn2) hr h6.2 C ⟨bm, ob, b1, b2, b3, b4, b5, b6⟩ hF hb (fun H h1 hS => hsp w T H a ns hlen h1 hS) fun H e s' => hCX w H s₁ e s'
end L2

set_option Elab.async false
set_option linter.all false
set_option autoImplicit false
set_option maxRecDepth 100000
/-! bands set below one another in another order -/
namespace GT
open PySem L2 GS HT
noncomputable def befB (ws : Nat → List Str) (k i : Nat) : Bool := lexT (ws k) (ws i) || (decide (ws k = ws i) && decide (k < i))
theorem befB_iff {ws : Nat → List Str} {k i : Nat} : befB ws k i = true ↔ Bef ws k i := by
  unfold befB Bef
  simp
theorem bef_asym {ws : Nat → List Str} {k i : Nat} (h : Bef ws k i) : ¬ Bef ws i k := by
  rintro (z | ⟨e, z⟩)
  · rcases h with y | ⟨e, y⟩
    · have := lexT_trans y z
      rw [lexT_irrefl] at this
      cases this
    · rw [e, lexT_irrefl] at z
      cases z
  · rcases h with y | ⟨_, y⟩
    · rw [e, lexT_irrefl] at y
      cases y
    · omega
theorem bef_irrefl {ws : Nat → List Str} {k : Nat} : befB ws k k = false := by
  cases h : befB ws k k with
  | false => rfl
  | true => exact absurd (befB_iff.mp h) (bef_asym (befB_iff.mp h))
/-- the rows ahead -/
noncomputable def placeN (hs : Nat → Nat) (ws : Nat → List Str) (n i : Nat) : Nat := (((List.range n).filter fun k => befB ws k i).map hs).sum
theorem place_pre {hs : Nat → Nat} {ws : Nat → List Str} {n i : Nat} {pre suf : List Nat} (p : (pre ++ i :: suf).Perm (List.range n)) (o : (pre ++ i :: suf).Pairwise (Bef ws)) : placeN hs ws n i = (pre.map hs).sum := by
  unfold placeN
  have e : ((List.range n).filter fun k => befB ws k i).Perm pre := by
    refine (p.symm.filter _).trans ?_
    rw [List.filter_append, List.filter_cons]
    have o1 := List.pairwise_append.mp o
    have e1 : pre.filter (fun k => befB ws k i) = pre := List.filter_eq_self.mpr fun x hx => befB_iff.mpr (o1.2.2 x hx i List.mem_cons_self)
    have e2 : suf.filter (fun k => befB ws k i) = [] := List.filter_eq_nil_iff.mpr fun x hx z => bef_asym ((List.pairwise_cons.mp o1.2.1).1 x hx) (befB_iff.mp z)
    rw [bef_irrefl, e1, e2]
    simp
  exact (e.map hs).sum_nat
section
variable {ws : Nat → List Str} {n : Nat} {part : Nat → Tab}
theorem stack_flat : ∀ (suf pre : List Nat), (pre ++ suf).Perm (List.range n) → (pre ++ suf).Pairwise (Bef ws) →
    stackL ((pre.map fun i => (part i).R).sum) (suf.map part) = suf.flatMap fun i => (part i).cs.map (downCell (placeN (fun i => (part i).R) ws n i))
  | [], pre, _, _ => rfl
  | i :: suf, pre, p, o => by
    have ih := stack_flat suf (pre ++ [i]) (by rw [List.append_assoc]; exact p) (by rw [List.append_assoc]; exact o)
    rw [List.map_cons, List.flatMap_cons, place_pre p o]
    show (part i).cs.map (downCell _) ++ stackL ((pre.map fun i => (part i).R).sum + (part i).R) (suf.map part) = _
    congr 1
    rw [← ih]
    congr 1
    simp
theorem stack_due {is : List Nat} (p : is.Perm (List.range n)) (o : is.Pairwise (Bef ws)) : (stackL 0 (is.map part)).Perm ((List.range n).flatMap fun i => (part i).cs.map (downCell (placeN (fun i => (part i).R) ws n i))) := by
  have := stack_flat (part := part) is [] p o
  rw [List.map_nil, List.sum_nil] at this
  rw [this]
  exact p.flatMap_right _
theorem rows_sum : ∀ l : List Nat, rowsL (l.map part) = (l.map fun i => (part i).R).sum
  | [] => rfl
  | i :: l => by
    rw [List.map_cons, List.map_cons, List.sum_cons, ← rows_sum l]
    rfl
end
noncomputable def partN (R C : Nat) (cs : List Cell) (i : Nat) : Tab := partT C cs ((bandsL R cs).getD i (0, 0))
theorem range_bands {R C : Nat} {cs : List Cell} : (List.range (bandsL R cs).length).map (partN R C cs) = (bandsL R cs).map (partT C cs) := by
  refine List.ext_getElem (by simp) fun i h1 h2 => ?_
  rw [List.getElem_map, List.getElem_map, List.getElem_range]
  unfold partN
  rw [List.length_map] at h2
  rw [List.getD_eq_getElem?_getD, List.getElem?_eq_getElem h2]
  rfl
theorem rows_order {R C : Nat} {cs : List Cell} (t : Tiles R C cs) (hR : 1 ≤ R) {is : List Nat} (p : is.Perm (List.range (bandsL R cs).length)) : rowsL (is.map (partN R C cs)) = R := by
  rw [rows_sum, (p.map _).sum_nat, ← rows_sum, range_bands]
  exact (stack_bands t hR).2
theorem bands_nodup {R : Nat} {cs : List Cell} (hR : 1 ≤ R) : (bandsL R cs).Nodup := by
  refine List.pairwise_iff_getElem.mpr fun i j hi hj hij e => ?_
  have g1 := (bands_get (k := i) (b := (bandsL R cs)[i]) (List.getElem?_eq_getElem hi)).1
  have g2 := (bands_get (k := j) (b := (bandsL R cs)[j]) (List.getElem?_eq_getElem hj)).1
  obtain ⟨a1, a2⟩ := List.getElem?_eq_some_iff.mp g1
  obtain ⟨b1, b2⟩ := List.getElem?_eq_some_iff.mp g2
  have := List.pairwise_iff_getElem.mp (ends_sorted (R := R) (cs := cs) hR) i j a1 b1 hij
  rw [a2, b2, e] at this
  omega
theorem Part.perm' {R C : Nat} {a b : List Cell} (t : Part R C a) (p : b.Perm a) : Part R C b where
  fit := fun x hx => t.fit x (p.mem_iff.mp hx)
  dis := p.symm.pairwise t.dis fun h r c x y => h r c y x
/-- the words of the cell at a place -/
noncomputable def covB (x : Cell) (r c : Nat) : Bool := decide (x.top ≤ r ∧ r < x.top + x.h ∧ x.left ≤ c ∧ c < x.left + x.w)
theorem covB_iff {x : Cell} {r c : Nat} : covB x r c = true ↔ inC x r c := by
  unfold covB inC
  simp only [decide_eq_true_eq]
noncomputable def wordsP (cs : List Cell) (r c : Nat) : List Str := match cs.find? fun x => covB x r c with
  | some x => x.words
  | none => []
theorem wordsP_eq {cs : List Cell} {r c i : Nat} {x : Cell} (hx : cs[i]? = some x) (h : inC x r c) (no : ∀ j y, j < i → cs[j]? = some y → ¬ inC y r c) : wordsP cs r c = x.words := by
  have : cs.find? (fun x => covB x r c) = some x := by
    rw [List.find?_eq_some_iff_getElem]
    obtain ⟨hi, e⟩ := List.getElem?_eq_some_iff.mp hx
    refine ⟨covB_iff.mpr h, i, hi, e, fun j hj => ?_⟩
    have : ¬ covB cs[j] r c = true := fun z => no j _ hj (List.getElem?_eq_getElem _) (covB_iff.mp z)
    simp at this ⊢
    exact this
  unfold wordsP
  rw [this]
/-- the key of a band -/
noncomputable def keyN (R : Nat) (cs : List Cell) (c i : Nat) : List Str := wordsP cs ((bandsL R cs).getD i (0, 0)).1 c
end GT
namespace L2
open PySem PySem.Spec PyProof.Rows
noncomputable def rLtS (K : PySem.W.Frag) : R2 := fun x y H Q => ∃ a b xs ys, x = .ref a ∧ y = .ref b ∧ SqT K H a (xs.map V.str) ∧ SqT K H b (ys.map V.str) ∧ Q (.bl (HT.lexT xs ys)) H
theorem op_ltS {X : Cx} {K : PySem.W.Frag} (hK : X.K = K) (hu : X.A.units < cLine) : OpR X (compareOp .Lt) (rLtS K) := by
  subst hK
  intro pins s σ H x y v u Q I rx ry h
  obtain ⟨a, b, xs, ys, rfl, rfl, ha, hb, q⟩ := h
  cases rx
  cases ry
  obtain ⟨its, r1, p1, _⟩ := I.tuple ha
  obtain ⟨its2, r2, p2, _⟩ := I.tuple hb
  exact HT.lt_tupStrs p1 p2 (strsAre_of r1) (strsAre_of r2) hu ⟨.bl (HT.lexT xs ys), H, I, rfl, q⟩
theorem At.of2' {H H' : Hp} (e1 : ∀ b xs, H b = some (.tup xs) → H' b = some (.tup xs)) (e2 : ∀ b xs, H b = some (.lst xs) → H' b = some (.lst xs)) : ∀ (n : Nat) {d : Dd} {v : V}, sizeOf d ≤ n → At H d v → At H' d v
  | 0, d, v, hn, _ => by cases d <;> simp at hn
  | n + 1, d, v, hn, h => by
    have lt : ∀ {ds : List Dd} {a : Dd}, a ∈ ds → sizeOf ds ≤ n → sizeOf a ≤ n := fun hm hs => by
      have := List.sizeOf_lt_of_mem hm
      omega
    cases h with
    | int i => exact .int i
    | str x => exact .str x
    | tup h r => exact .tup (e1 _ _ h) (Paired.impM r fun a b hm q => At.of2' e1 e2 n (lt hm (by simp at hn; omega)) q)
    | lst h r => exact .lst (e2 _ _ h) (Paired.impM r fun a b hm q => At.of2' e1 e2 n (lt hm (by simp at hn; omega)) q)
theorem At.of2 {H H' : Hp} (e1 : ∀ b xs, H b = some (.tup xs) → H' b = some (.tup xs)) (e2 : ∀ b xs, H b = some (.lst xs) → H' b = some (.lst xs)) {d : Dd} {v : V} (h : At H d v) : At H' d v := At.of2' e1 e2 _ (Nat.le_refl _) h
theorem At.monoP {T : Addr} {ps : Array Value} {H H' : Hp} (hT : H T = some (.tbl ps)) (s : SameP T H H') : ∀ {d : Dd} {v : V}, At H d v → At H' d v := by
  have s2 : Same H (upd H' T (.tbl ps)) := fun b o e => by
    by_cases z : b = T
    · subst z
      rw [hT] at e
      cases e
      exact upd_same
    · rw [upd_ne z]
      exact s b o z e
  intro d v h
  have h2 := h.mono s2
  clear h
  have key : ∀ b xs, upd H' T (.tbl ps) b = some (.tup xs) → H' b = some (.tup xs) := fun b xs e => by
    by_cases z : b = T
    · subst z; rw [upd_same] at e; cases e
    · rw [upd_ne z] at e; exact e
  have key2 : ∀ b xs, upd H' T (.tbl ps) b = some (.lst xs) → H' b = some (.lst xs) := fun b xs e => by
    by_cases z : b = T
    · subst z; rw [upd_same] at e; cases e
    · rw [upd_ne z] at e; exact e
  exact At.of2 key key2 h2
end L2

set_option Elab.async false
set_option linter.all false
set_option autoImplicit false
set_option maxRecDepth 100000
/-! t[lo:hi], also the whole of it -/
namespace HT
open PySem PySem.Spec PyProof.Rows
section
variable {prog : Program} {w : World} {A : Around} {E : Value → Shared → Prop} {s : Shared}
theorem getItem_tuple_all {t sl : Addr} {items : Array Value} {vl vu : Value} {lo hi : Option Int} {Q : Value → Shared → Prop} (ht : IsTup s.heap t items) (hs : s.heap.IsSliceOf sl vl vu .none) (pl : IsPart vl lo) (pu : IsPart vu hi)
    (hw : sIx items.size 0 lo = 0 ∧ sIx items.size items.size hi = items.size) (h : Q (.ref t) s) : wpAny (model prog w) A (getItem (.ref t) (.ref sl)) Q E s := by
  obtain ⟨os, hos, hcs, hds⟩ := id hs
  have hTs : s.TypeIs (.ref sl) "slice" := ⟨os, hos, hcs⟩
  unfold getItem
  try with_reducible refine wpAny_holding ?_
  first | refine wpAny_bind (wpAny_pure ?_) | skip
  refine wpAny_bind (wpAny_sequenceKey ht.typeIs (by decide) ?_)
  refine wpAny_bind (wpAny_callSpecial?_slot (name := Str.ofString "__getitem__") ht.typeIs PyProof.Rows.slot_tuple_getitem
    (wpAny_call_entry PyProof.Rows.slot_tuple_getitem ht.typeIs entry_tuple_getitem ?_ (args_tuple_getitem _ _)))
  show wpAny _ _ (Builtin.Tuple.tupleItemsOf (.ref t) >>= _) _ _ s
  refine wpAny_bind (tupleItemsOf_ ht ?_)
  refine wpAny_bind (wpAny_typeOf hTs ?_)
  rw [if_pos (by decide)]
  refine wpAny_bind (sliceApplied_gen hs pl pu ?_)
  rw [hw.1, hw.2]
  have hy : (((0 : Nat) : Int) == 0 && (1 : Int) == 1 && (items.size - 0) == items.size) = true := by simp
  dsimp only
  rw [if_pos hy]
  show wpAny _ _ (Builtin.Tuple.tupleIsExact (.ref t) >>= _) _ _ s
  refine wpAny_bind ?_
  unfold Builtin.Tuple.tupleIsExact
  refine wpAny_bind (wpAny_typeOf ht.typeIs (wpAny_pure ?_))
  rw [if_pos (by decide)]
  refine wpAny_bind (wpAny_rule ?_)
  first
    | exact wpAny_pure ⟨_, rfl, wpAny_pure h⟩
    | exact wpAny_bind (wpAny_pure (wpAny_pure ⟨_, rfl, wpAny_pure h⟩))
    | exact wpAny_bind (wpAny_pure ⟨_, rfl, wpAny_pure h⟩)
    | exact wpAny_pure (wpAny_pure ⟨_, rfl, wpAny_pure h⟩)
end
end HT
namespace L2
open PySem PySem.Spec PyProof.Rows
noncomputable def rSlT2 (K : PySem.W.Frag) : V → Option Int → Option Int → Hp → VK → Prop := fun x lo hi H Q => ∃ a xs, x = .ref a ∧ SqT K H a xs ∧
  ((HT.sIx xs.length 0 lo = 0 ∧ HT.sIx xs.length xs.length hi = xs.length) → Q (.ref a) H) ∧ (¬ (HT.sIx xs.length 0 lo = 0 ∧ HT.sIx xs.length xs.length hi = xs.length) → ∀ p, H p = none → Q (.ref p) (upd H p (.tup (cutV xs lo hi))))
theorem sl_tup2 {X : Cx} {K : PySem.W.Frag} (hK : X.K = K) : SlR X (rSlT2 K) := by
  subst hK
  intro pins s σ H x v vl vu lo hi sl Q I rx hs pl pu h
  obtain ⟨a, xs, rfl, hx, q1, q2⟩ := h
  by_cases hw : HT.sIx xs.length 0 lo = 0 ∧ HT.sIx xs.length xs.length hi = xs.length
  · cases rx
    obtain ⟨its, r, ht, hz⟩ := I.tuple hx
    have hlen : its.toArray.size = xs.length := by rw [List.size_toArray]; exact r.length.symm
    refine ⟨"tuple", _, PyProof.Rows.slot_tuple_getitem.lookup, ht.typeIs, ?_⟩
    exact HT.getItem_tuple_all ht hs pl pu (by rw [hlen]; exact hw) ⟨.ref a, H, I, rfl, q1 hw⟩
  · exact sl_tup pins s σ H (.ref a) v vl vu lo hi sl Q I rx hs pl pu ⟨a, xs, rfl, hx, hw, q2 hw⟩
end L2

set_option Elab.async false
set_option linter.all false
set_option autoImplicit false
set_option maxRecDepth 100000
namespace KL
theorem ex_1 {α0 : Type} {P : α0 → Prop} {G : Prop} (h : ∃ a, P a) (k : ∀ a, P a → G) : G := by
  obtain ⟨a, p⟩ := h
  exact k a p
theorem ex_2 {α0 α1 : Type} {P : α0 → α1 → Prop} {G : Prop} (h : ∃ a b, P a b) (k : ∀ a b, P a b → G) : G := by
  obtain ⟨a, b, p⟩ := h
  exact k a b p
theorem ex_3 {α0 α1 α2 : Type} {P : α0 → α1 → α2 → Prop} {G : Prop} (h : ∃ a b c, P a b c) (k : ∀ a b c, P a b c → G) : G := by
  obtain ⟨a, b, c, p⟩ := h
  exact k a b c p
theorem ex_4 {α0 α1 α2 α3 : Type} {P : α0 → α1 → α2 → α3 → Prop} {G : Prop} (h : ∃ a b c d, P a b c d) (k : ∀ a b c d, P a b c d → G) : G := by
  obtain ⟨a, b, c, d, p⟩ := h
  exact k a b c d p
theorem ex_5 {α0 α1 α2 α3 α4 : Type} {P : α0 → α1 → α2 → α3 → α4 → Prop} {G : Prop} (h : ∃ a b c d e, P a b c d e) (k : ∀ a b c d e, P a b c d e → G) : G := by
  obtain ⟨a, b, c, d, e, p⟩ := h
  exact k a b c d e p
theorem ex_7 {α0 α1 α2 α3 α4 α5 α6 : Type} {P : α0 → α1 → α2 → α3 → α4 → α5 → α6 → Prop} {G : Prop} (h : ∃ a b c d e f g, P a b c d e f g) (k : ∀ a b c d e f g, P a b c d e f g → G) : G := by
  obtain ⟨a, b, c, d, e, f, g, p⟩ := h
  exact k a b c d e f g p
open PySem L2 GT PyProof.Rows
noncomputable def top (i : Nat) : Stmt := PySem.Challenge.pw_gridframe_k14_whole_bands_in_order.main.body.getD i (.Pass ⟨0, 0, 0, 0⟩)
structure Txt (mg : Str → Option Value) : Prop where
  len : mg "len" = none
  range : mg "range" = none
  isinstance : mg "isinstance" = none
  int : mg "int" = none
  bool : mg "bool" = none
  tuple : mg "tuple" = none
  list : mg "list" = none
  sorted : mg "sorted" = none
  enumerate : mg "enumerate" = none
  zip : mg "zip" = none
  str : mg "str" = none
  all : mg "all" = none
  min : mg "min" = none
  max : mg "max" = none
  sum : mg "sum" = none
  ValueError : mg "ValueError" = none
  any : mg "any" = none
  reversed : mg "reversed" = none
noncomputable def scopeOf (e : Expr) : Scope := match e with
  | .ListComp _ _ sc _ => sc
  | _ => { kind := .function, names := [], isGenerator := false, isCoroutine := false }
noncomputable def exprOf (s : Stmt) : Expr := match s with
  | .Expr e _ => e
  | .Assign _ e _ => e
  | .Return (some e) _ => e
  | _ => .Constant .none 0 ⟨0, 0, 0, 0⟩
noncomputable def operandOf (e : Expr) : Expr := match e with
  | .UnaryOp _ x _ => x
  | .Compare x _ _ _ => x
  | _ => e
noncomputable def argOf (e : Expr) (i : Nat) : Expr := match e with
  | .Call _ as _ _ => as.getD i (.Constant .none 0 ⟨0, 0, 0, 0⟩)
  | _ => .Constant .none 0 ⟨0, 0, 0, 0⟩
noncomputable def bodyOf (s : Stmt) : List Stmt := match s with
  | .For _ _ b _ _ => b
  | .If _ b _ _ => b
  | _ => []
noncomputable def nth (l : List Stmt) (i : Nat) : Stmt := l.getD i (.Pass ⟨0, 0, 0, 0⟩)
/-! ### the promises of the table's making -/
noncomputable def spCell (K : PySem.W.Frag) : Sp := fun vs H Q _ => ∃ (a : Addr) (ns : List Int) (k : Nat), vs = [.ref a, .int k] ∧ SqL K H a (ns.map V.int) ∧ Q (.int (ns.getD k 0)) H
noncomputable def spMix : Sp := fun vs H Q _ => ∃ c p m : Int, vs = [.int c, .int p, .int m] ∧ 0 < p ∧ 0 < m ∧ Q (.int (c * 48271 % p % m)) H
noncomputable def spLarge (K : PySem.W.Frag) : Sp := fun vs H Q _ => ∃ (a : Addr) (ns : List Int), vs = [.ref a] ∧ SqL K H a (ns.map V.int) ∧ ∀ b, Q (.bl b) H
noncomputable def spWord : Sp := fun vs H Q _ => ∃ (seed : Int) (n : Nat), vs = [.int seed, .int n] ∧ 1 ≤ n ∧ n ≤ 12 ∧ ∀ w H', Same H H' → WordOk w → Q (.str w) H'
noncomputable def spWords : Sp := fun vs H Q _ => ∃ seed : Int, vs = [.int seed] ∧ ∀ v ws H', Same H H' → WordsOk ws → At H' (wordsD ws) v → Q v H'
noncomputable def spBlock : Sp := fun vs H Q _ => ∃ (c : Int) (R C : Nat), vs = [.int c, .int R, .int C] ∧ 1 ≤ R ∧ 1 ≤ C ∧
  ∀ (t l h w : Nat) (a : Addr) (H' : Hp), Same H H' → t < R → l < C → 1 ≤ h → h ≤ 3 → 1 ≤ w → w ≤ 3 → H' a = some (.tup [.int t, .int l, .int h, .int w]) → Q (.ref a) H'
noncomputable def pl (r c : Nat) : List Key := [Sum.inl (r : Int), Sum.inl (c : Int)]
noncomputable def spFree : Sp := fun vs H Q _ => ∃ (b d : Addr) (t l h w R C : Nat) (kvs : List (List Key × V)), vs = [.ref b, .int R, .int C, .ref d] ∧ H b = some (.tup [.int t, .int l, .int h, .int w]) ∧ H d = some (.dT kvs) ∧ t ≤ 100 ∧ l ≤ 100 ∧ h ≤ 3 ∧ w ≤ 3 ∧
  (∀ H', Same H H' → Q (.bl false) H') ∧ (t + h ≤ R → l + w ≤ C → (∀ r c, t ≤ r → r < t + h → l ≤ c → c < l + w → valV kvs (pl r c) = none) → ∀ H', Same H H' → Q (.bl true) H')
noncomputable def spTable (K : PySem.W.Frag) : Sp := fun vs H Q _ => ∃ (a : Addr) (ns : List Int) (R C : Nat), vs = [.ref a, .int R, .int C] ∧ SqL K H a (ns.map V.int) ∧ ns.length ≤ 67 ∧ 1 ≤ R ∧ R ≤ 17 ∧ 1 ≤ C ∧ C ≤ 17 ∧
  ∀ v cs H', Same H H' → Tiles R C cs → At H' (tabD R C cs) v → Q v H'
noncomputable def spSize (K : PySem.W.Frag) : Sp := fun vs H Q _ => ∃ (a : Addr) (ns : List Int) (k : Nat), vs = [.ref a, .int k] ∧ SqL K H a (ns.map V.int) ∧ ∀ n : Nat, 1 ≤ n → n ≤ 16 → Q (.int n) H
noncomputable def spMade (K : PySem.W.Frag) : Sp := fun vs H Q _ => ∃ (a : Addr) (ns : List Int), vs = [.ref a] ∧ SqL K H a (ns.map V.int) ∧ ns.length ≤ 63 ∧
  ∀ v R C cs H', Same H H' → 1 ≤ R → R ≤ 16 → 1 ≤ C → C ≤ 16 → Tiles R C cs → At H' (tabD R C cs) v → Q v H'
noncomputable def spCopy : Sp := fun vs H Q _ => ∃ (v : V) (R C : Nat) (cs : List Cell), vs = [v] ∧ At H (tabD R C cs) v ∧ ∀ v' H', Same H H' → At H' (tabD R C cs) v' → FreshT H H' v' → Q v' H'

section
variable {P : Program} {w : World} {K : PySem.W.Frag} {mg : Str → Option Value} {base : Heap}

theorem sc__law_cell : FnScope ["_law_script", "_law_k"] ["_law_script", "_law_k"] (defScope (top 22)) := ⟨rfl, rfl, rfl, by decide +kernel, rfl, by decide +kernel, by decide +kernel⟩
theorem ok__law_cell (T : Txt mg) (f : Addr) (fd : FuncData) (F : Fun K "_law_cell" "_law_cell" (top 22) f fd) : FnOk P w K mg base CX0 1 f fd ["_law_script", "_law_k"] (spCell K) := by
  refine F.ok sc__law_cell (fun vs H Q E h => ?_) (fun cdv A outer s H vs Q E hr h => ?_)
  · obtain ⟨a, ns, k, rfl, _⟩ := h; rfl
  · obtain ⟨a, ns, k, rfl, hs, q⟩ := h
    refine ⟨_, (pss_cons (ps_if (pt_cmpR op_lt (pv 1) (pe_callB (call_lenK (K := K) rfl) (by rfl) T.len PySem.boot_len (pa_cons (pv 0) pa_nil)) (nomark _)) (pss_one (ps_ret (pe_ix (ix_listK (K := K) rfl) (pv 0) (pv 1) (fun _ _ => rfl)))) pss_nil)
      (pss_one (ps_ret pe_int))), ?_⟩
    refine ⟨_, rfl, _, rfl, a, _, rfl, .inl hs, _, _, rfl, rfl, _, rfl, ?_⟩
    refine ite2 (fun hlt => ?_) (fun hlt => ?_)
    · have hlt := of_decide_eq_true hlt
      rw [List.length_map] at hlt
      refine ⟨_, rfl, _, rfl, a, _, (k : Int), (.int (ns.getD k 0)), rfl, rfl, hs, atI_nat ?_, q⟩
      rw [List.getElem?_map, List.getElem?_eq_getElem (by omega)]
      simp [List.getD_eq_getElem?_getD, List.getElem?_eq_getElem (show k < ns.length by omega)]
    · have hlt : ¬ ((k : Int) < ((ns.map V.int).length : Int)) := fun z => hlt (decide_eq_true z)
      rw [List.length_map] at hlt
      have e : ns.getD k 0 = 0 := by
        rw [List.getD_eq_getElem?_getD, List.getElem?_eq_none (by omega)]; rfl
      rw [e] at q
      exact q

theorem sc__law_mix : FnScope ["_law_cell_here", "_law_prime", "_law_many"] ["_law_cell_here", "_law_prime", "_law_many"] (defScope (top 23)) := ⟨rfl, rfl, rfl, by decide +kernel, rfl, by decide +kernel, by decide +kernel⟩
theorem ok__law_mix (f : Addr) (fd : FuncData) (F : Fun K "_law_mix" "_law_mix" (top 23) f fd) : FnOk P w K mg base CX0 1 f fd ["_law_cell_here", "_law_prime", "_law_many"] spMix := by
  refine F.ok sc__law_mix (fun vs H Q E h => ?_) (fun cdv A outer s H vs Q E hr h => ?_)
  · obtain ⟨c, p, m, rfl, _⟩ := h; rfl
  · obtain ⟨c, p, m, rfl, hp, hm, q⟩ := h
    refine ⟨_, (pss_one (ps_ret (pe_op op_mod (pe_op op_mod (pe_op op_mul (pv 0) pe_int) (pv 1)) (pv 2)))), ?_⟩
    exact ⟨_, rfl, _, _, rfl, rfl, .inr ⟨by decide, by decide⟩, _, rfl, _, _, rfl, rfl, hp, _, rfl, _, _, rfl, rfl, hm, q⟩

theorem sc__law_large : FnScope ["_law_script"] ["_law_script"] (defScope (top 24)) := ⟨rfl, rfl, rfl, by decide +kernel, rfl, by decide +kernel, by decide +kernel⟩
theorem ok__law_large (T : Txt mg) (c__law_cell : Cal P w K mg base 1 "_law_cell" ["_law_script", "_law_k"] (spCell K)) (c__law_mix : Cal P w K mg base 1 "_law_mix" ["_law_cell_here", "_law_prime", "_law_many"] spMix)
    (f : Addr) (fd : FuncData) (F : Fun K "_law_large" "_law_large" (top 24) f fd) : FnOk P w K mg base CX0 2 f fd ["_law_script"] (spLarge K) := by
  refine F.ok sc__law_large (fun vs H Q E h => ?_) (fun cdv A outer s H vs Q E hr h => ?_)
  · obtain ⟨a, ns, rfl, _⟩ := h; rfl
  · obtain ⟨a, ns, rfl, hs, q⟩ := h
    have hr__law_cell : Room 1 (A.deeper (envOfC "_law_large" (defScope (top 24)) s.heap.objs.size f cdv)) := hr
    have hr__law_mix := hr__law_cell
    refine ⟨_, (pss_one (ps_ret (pe_cmpR op_eq (pe_cal c__law_mix hr__law_mix rfl (pa_cons (pe_op op_add (pe_cal c__law_cell hr__law_cell rfl (pa_cons (pv 0) (pa_cons pe_int pa_nil))) (pe_op op_mul pe_int (pe_callB (call_lenK (K := K) rfl) (by rfl) T.len PySem.boot_len (pa_cons (pv 0) pa_nil)))) (pa_cons pe_int (pa_cons pe_int pa_nil)))) pe_int (nomark _)))), ?_⟩
    refine ⟨_, rfl, a, ns, 0, rfl, hs, _, rfl, a, _, rfl, .inl hs, _, _, rfl, rfl, .inl ⟨by decide, by decide⟩, _, _, rfl, rfl, _, _, _, rfl, by decide, by decide, rfl, ?_⟩
    exact q _

theorem sc__law_word : FnScope ["_law_seed", "_law_size_here", "_law_signs"] ["_law_seed", "_law_size_here"] (defScope (top 26)) := ⟨rfl, rfl, rfl, by decide +kernel, rfl, by decide +kernel, by decide +kernel⟩
theorem nd_word : (["_law_k", "_law_signs", "_law_seed"] : List Str).Nodup := by decide +kernel
noncomputable abbrev wordScope : Scope := scopeOf (argOf (exprOf (nth (defBody (top 26)) 1)) 0)
set_option maxHeartbeats 2000000 in
theorem ok__law_word (T : Txt mg) (c__law_mix : Cal P w K mg base 1 "_law_mix" ["_law_cell_here", "_law_prime", "_law_many"] spMix)
    (f : Addr) (fd : FuncData) (F : Fun K "_law_word" "_law_word" (top 26) f fd) : FnOk P w K mg base CX0 2 f fd ["_law_seed", "_law_size_here"] spWord := by
  refine F.ok sc__law_word (fun vs H Q E h => ?_) (fun cdv A outer s H vs Q E hr h => ?_)
  · obtain ⟨a, ns, rfl, _⟩ := h; rfl
  · obtain ⟨seed, n, rfl, n1, n2, k⟩ := h
    have hr__law_mix : Room 1 (A.deeper (envOfC "_law_word" (defScope (top 26)) s.heap.objs.size f cdv)) := hr
    have co_word := compOk_def (X := (cxOf CX0 P w K mg base ["_law_seed", "_law_size_here", "_law_signs"] "_law_word" (defScope (top 26)) f cdv A outer s H E).nox) (N1 := ["_law_k", "_law_signs", "_law_seed"]) (cap := [none, some 2, some 0])
      (scope := wordScope) (sc := defScope (top 26)) (s.heap.objs.size + 1) rfl rfl rfl
      (by decide +kernel) (by decide +kernel) (by decide +kernel) rfl (by
        intro i hi x j e1 e2
        match i, hi, e1, e2 with
        | 0, _, e1, e2 => cases e2
        | 1, _, e1, e2 => cases e1; cases e2; exact ⟨rfl, rfl, rfl⟩
        | 2, _, e1, e2 => cases e1; cases e2; exact ⟨rfl, rfl, rfl⟩)
    refine ⟨_, (pss_cons (ps_set (i := 2) sc__law_word.nd rfl (by first | exact Or.inl rfl | exact Or.inr rfl) pe_str)
      (pss_one (ps_ret (pe_bmK (K := K) rfl PySem.F.plainAttrs_str PySem.F.slot_str_join PySem.F.type_str_join (mt_join (K := K) rfl) pe_str (pa_cons (pe_comp co_word rfl (pi_range1 rfl T.range (pa_cons (pv 1) pa_nil)) (fun _ _ _ _ => (pg_name (i := 0) nd_word rfl (by first | exact Or.inl rfl | exact Or.inr rfl) (Or.inr rfl))) (fun _ _ _ _ => pif_nil) (fun _ _ _ _ => (pe_ix (ix_str) (pv 1) (pe_cal c__law_mix hr__law_mix rfl (pa_cons (pe_op op_add (pv 2) (pe_op op_mul (pe_op op_mul pe_int (pv 0)) (pv 0))) (pa_cons pe_int (pa_cons pe_int pa_nil)))) (fun _ _ => rfl)))) pa_nil))))), ?_⟩
    have nn : ((n : Int)).toNat = n := by omega
    generalize hsg : Str.ofString "abcdefghijklmnopqrstuvwxyz0123456789" = sg
    have esg : sg = GT.signs := hsg.symm
    have len36 : sg.cps.toList.length = 36 := by rw [esg]; exact signs_len
    have lenS : sg.length ≤ sizeLine := by rw [esg]; exact signs_small
    refine ⟨rfl, _, rfl, (n : Int), rfl, by omega, by omega, fun acc hacc => ?_⟩
    rw [nn]
    refine comp_range (lo := 0) (n := n) (fun j σ1 H3 => ∃ (kk : Option V) (ys : List Str), σ1 = [kk, some (.str sg), some (.int seed)] ∧ Same H H3 ∧ H3 acc = some (.lst (ys.map V.str)) ∧ ys.length = j ∧ ∀ y ∈ ys, ∃ c ∈ sg.cps.toList, y = ⟨#[c]⟩)
      ⟨none, [], rfl, Same.upd_new hacc, upd_same, rfl, fun y hy => by simp at hy⟩ ?_ ?_
    · intro j σ1 H3 hj hI
      refine ex_2 hI fun kk ys hJ => ?_
      have eI := hJ.1
      have s3 := hJ.2.1
      have h3 := hJ.2.2.1
      have l3 := hJ.2.2.2.1
      have a3 := hJ.2.2.2.2
      clear hI hJ
      subst eI
      dsimp only [gName]
      rw [if_pos rfl]
      refine ⟨_, rfl, _, rfl, _, rfl, _, _, rfl, rfl, .inl ⟨by decide, by decide⟩, _, rfl, _, _, rfl, rfl, .inr ⟨by omega, by omega⟩, _, _, rfl, rfl, _, _, _, rfl, by decide, by decide, ?_⟩
      dsimp only
      generalize hz : (seed + 7 * (0 + (j : Int)) * (0 + (j : Int))) * 48271 % 9931 % 36 = z
      have z0 : 0 ≤ z := by omega
      have z1 : z < 36 := by omega
      obtain ⟨c, gz⟩ : ∃ c, sg.cps.toList[z.toNat]? = some c := ⟨_, List.getElem?_eq_getElem (by omega)⟩
      have ez : ((z.toNat : Nat) : Int) = z := by omega
      refine ⟨sg, z, c, rfl, rfl, lenS, by rw [← ez]; exact atI_nat gz, ?_⟩
      refine ⟨ys.map V.str, h3, small1000 (by rw [List.length_map]; omega), ?_⟩
      refine ⟨_, ys ++ [⟨#[c]⟩], rfl, fun b o e => ?_, by rw [upd_same, List.map_append]; rfl, by rw [List.length_append, l3]; rfl, fun y hy => ?_⟩
      · rw [upd_ne (ne_of_none e hacc)]
        exact s3 _ _ e
      · rcases List.mem_append.mp hy with hy | hy
        · exact a3 y hy
        · have : y = ⟨#[c]⟩ := by simpa using hy
          exact ⟨_, List.mem_of_getElem? gz, this⟩
    · intro σ1 H3 hI
      refine ex_2 hI fun kk ys hJ => ?_
      have eI := hJ.1
      have s3 := hJ.2.1
      have h3 := hJ.2.2.1
      have l3 := hJ.2.2.2.1
      have a3 := hJ.2.2.2.2
      clear hI hJ
      subst eI
      have one : ∀ y ∈ ys, y.length = 1 := fun y hy => by obtain ⟨c, _, rfl⟩ := a3 y hy; rfl
      have sum1 : (ys.map (·.length)).sum = ys.length := by
        clear h3 l3 a3
        induction ys with
        | nil => rfl
        | cons y ys ih => rw [List.map_cons, List.sum_cons, ih (fun z hz => one z (List.mem_cons_of_mem _ hz)), one y List.mem_cons_self, List.length_cons]; omega
      refine ⟨_, acc, ys, rfl, rfl, SqL.of h3, by rw [sum1]; show ys.length + ys.length * 0 ≤ _; omega, ?_⟩
      refine k _ _ s3 (join_word ?_ ?_ ?_)
      · rw [esg] at a3; exact a3
      · omega
      · omega

theorem sc__law_words : FnScope ["_law_seed", "_law_found", "_law_many", "_law_k", "_law_size_here"] ["_law_seed"] (defScope (top 27)) := ⟨rfl, rfl, rfl, by decide +kernel, rfl, by decide +kernel, by decide +kernel⟩
set_option maxHeartbeats 2000000 in
theorem ok__law_words (T : Txt mg) (c__law_mix : Cal P w K mg base 1 "_law_mix" ["_law_cell_here", "_law_prime", "_law_many"] spMix) (c__law_word : Cal P w K mg base 2 "_law_word" ["_law_seed", "_law_size_here"] spWord)
    (f : Addr) (fd : FuncData) (F : Fun K "_law_words" "_law_words" (top 27) f fd) : FnOk P w K mg base CX0 3 f fd ["_law_seed"] spWords := by
  refine F.ok sc__law_words (fun vs H Q E h => ?_) (fun cdv A outer s H vs Q E hr h => ?_)
  · obtain ⟨a, rfl, _⟩ := h; rfl
  · obtain ⟨seed, rfl, k⟩ := h
    have hr__law_word : Room 2 (A.deeper (envOfC "_law_words" (defScope (top 27)) s.heap.objs.size f cdv)) := hr
    have hr__law_mix : Room 1 (A.deeper (envOfC "_law_words" (defScope (top 27)) s.heap.objs.size f cdv)) := hr.mono (by decide)
    refine ⟨_, (pss_cons (ps_set (i := 1) sc__law_words.nd rfl (by first | exact Or.inl rfl | exact Or.inr rfl) (pe_lst pa_nil))
      (pss_cons (ps_set (i := 2) sc__law_words.nd rfl (by first | exact Or.inl rfl | exact Or.inr rfl) (pe_cal c__law_mix hr__law_mix rfl (pa_cons (pv 0) (pa_cons pe_int (pa_cons pe_int pa_nil)))))
      (pss_cons (ps_if (pt_cmpR op_eq (pe_cal c__law_mix hr__law_mix rfl (pa_cons (pv 0) (pa_cons pe_int (pa_cons pe_int pa_nil)))) pe_int (nomark _)) (pss_one (ps_set (i := 2) sc__law_words.nd rfl (by first | exact Or.inl rfl | exact Or.inr rfl) (pe_cal c__law_mix hr__law_mix rfl (pa_cons (pv 0) (pa_cons pe_int (pa_cons pe_int pa_nil)))))) pss_nil)
      (pss_cons (ps_for PassesOwn.never rfl (pi_range1 rfl T.range (pa_cons (pv 2) pa_nil)) (pg_name (i := 3) sc__law_words.nd rfl (by first | exact Or.inl rfl | exact Or.inr rfl)) (pss_cons (ps_set (i := 4) sc__law_words.nd rfl (by first | exact Or.inl rfl | exact Or.inr rfl) (pe_op op_add pe_int (pe_cal c__law_mix hr__law_mix rfl (pa_cons (pe_op op_add (pv 0) (pe_op op_mul (pe_op op_mul pe_int (pv 3)) (pv 3))) (pa_cons pe_int (pa_cons pe_int pa_nil))))))
      (pss_one (ps_expr (pe_bmK (K := K) rfl PySem.F.plainAttrs_list PySem.F.slot_list_append PySem.F.type_list_append mt_append (pv 1) (pa_cons (pe_cal c__law_word hr__law_word rfl (pa_cons (pe_op op_add (pv 0) (pe_op op_mul (pe_op op_mul pe_int (pv 3)) (pv 3))) (pa_cons (pv 4) pa_nil))) pa_nil))))))
      (pss_one (ps_ret (pe_callTy (call_tupleK (K := K) rfl) (by rfl) T.tuple PyProof.Rows.boot_tuple (pa_cons (pv 1) pa_nil)))))))), ?_⟩
    refine ⟨by show 0 ≤ sizeLine; decide, fun l hl => ?_⟩
    refine ⟨_, rfl, _, _, _, rfl, by decide, by decide, ?_⟩
    refine ⟨_, rfl, _, _, _, rfl, by decide, by decide, rfl, _, rfl, ?_⟩
    refine ite2 (fun _ => ?_) (fun _ => ?_)
    case' refine_1 =>
      refine ⟨_, rfl, _, _, _, rfl, by decide, by decide, ?_⟩
      generalize hm : seed * 48271 % 9901 % 13 = m
      have hm1 : 0 ≤ m ∧ m ≤ 12 := by omega
    case' refine_2 =>
      generalize hm : seed * 48271 % 9949 % 4 = m
      have hm1 : 0 ≤ m ∧ m ≤ 12 := by omega
    all_goals
      refine ⟨_, rfl, m, rfl, by omega, by omega, ?_⟩
      refine for_range (n := m.toNat) (fun i σ H2 => ∃ (kk sz : Option V) (ws : List Str), σ = [some (.int seed), some (.ref l), some (.int m), kk, sz] ∧ Same H H2 ∧ H2 l = some (.lst (ws.map V.str)) ∧ ws.length = i ∧ ∀ x ∈ ws, WordOk x)
        ⟨none, none, [], rfl, Same.upd_new hl, upd_same, rfl, fun x hx => by simp at hx⟩ ?_ ?_
      · intro i σ H2 hi hI
        refine ex_3 hI fun kk sz ws hJ => ?_
        have eI := hJ.1
        have s2 := hJ.2.1
        have h2 := hJ.2.2.1
        have l2 := hJ.2.2.2.1
        have o2 := hJ.2.2.2.2
        clear hI hJ
        subst eI
        refine ⟨_, rfl, _, rfl, _, _, rfl, rfl, .inl ⟨by decide, by decide⟩, _, rfl, _, _, rfl, rfl, .inr ⟨by omega, by omega⟩, _, _, rfl, rfl, _, _, _, rfl, by decide, by decide, _, _, rfl, rfl, ?_⟩
        dsimp only
        obtain ⟨n, en, n1, n2⟩ : ∃ n : Nat, 1 + (seed + 13 * (0 + (i : Int)) * (0 + (i : Int))) * 48271 % 9941 % 12 = (n : Int) ∧ 1 ≤ n ∧ n ≤ 12 := ⟨(1 + (seed + 13 * (0 + (i : Int)) * (0 + (i : Int))) * 48271 % 9941 % 12).toNat, by omega, by omega, by omega⟩
        rw [en]
        refine ⟨_, rfl, .inl ⟨rfl, _, SqL.of h2⟩, _, rfl, _, rfl, _, _, rfl, rfl, .inl ⟨by decide, by decide⟩, _, rfl, _, _, rfl, rfl, .inr ⟨by omega, by omega⟩, _, _, rfl, rfl, _, rfl, _, n, rfl, n1, n2, fun x H3 s3 ox => ?_⟩
        have h3 := s3 _ _ h2
        refine ⟨l, _, .str x, rfl, rfl, h3, small1000 (by rw [List.length_map]; omega), ?_⟩
        refine ⟨_, _, ws ++ [x], rfl, fun b o e => ?_, by rw [upd_same, List.map_append]; rfl, by rw [List.length_append, l2]; rfl, fun y hy => ?_⟩
        · rw [upd_ne (ne_of_none e hl)]
          exact s3 _ _ (s2 _ _ e)
        · rcases List.mem_append.mp hy with hy | hy
          · exact o2 y hy
          · have : y = x := by simpa using hy
            rw [this]; exact ox
      · intro σ H2 hI
        refine ex_3 hI fun kk sz ws hJ => ?_
        have eI := hJ.1
        have s2 := hJ.2.1
        have h2 := hJ.2.2.1
        have l2 := hJ.2.2.2.1
        have o2 := hJ.2.2.2.2
        clear hI hJ
        subst eI
        refine ⟨_, rfl, l, _, rfl, .inl ⟨SqL.of h2, fun t ht => ?_⟩⟩
        refine k _ ws _ (s2.trans (Same.upd_new ht)) ⟨by omega, o2⟩ (.tup upd_same (strs_at _ ws))

theorem sc__law_block : FnScope ["_law_cell_here", "_law_rows", "_law_columns", "_law_top", "_law_left"] ["_law_cell_here", "_law_rows", "_law_columns"] (defScope (top 29)) := ⟨rfl, rfl, rfl, by decide +kernel, rfl, by decide +kernel, by decide +kernel⟩
set_option maxHeartbeats 2000000 in
theorem ok__law_block (T : Txt mg) (c__law_mix : Cal P w K mg base 1 "_law_mix" ["_law_cell_here", "_law_prime", "_law_many"] spMix)
    (f : Addr) (fd : FuncData) (F : Fun K "_law_block" "_law_block" (top 29) f fd) : FnOk P w K mg base CX0 2 f fd ["_law_cell_here", "_law_rows", "_law_columns"] spBlock := by
  refine F.ok sc__law_block (fun vs H Q E h => ?_) (fun cdv A outer s H vs Q E hr h => ?_)
  · obtain ⟨c, R, C, rfl, _⟩ := h; rfl
  · obtain ⟨c, R, C, rfl, hR, hC, k⟩ := h
    have hr__law_mix : Room 1 (A.deeper (envOfC "_law_block" (defScope (top 29)) s.heap.objs.size f cdv)) := hr
    have R0 : (0 : Int) < (R : Int) := by omega
    have C0 : (0 : Int) < (C : Int) := by omega
    refine ⟨_, (pss_cons (ps_set (i := 3) sc__law_block.nd rfl (by first | exact Or.inl rfl | exact Or.inr rfl) (pe_cal c__law_mix hr__law_mix rfl (pa_cons (pv 0) (pa_cons pe_int (pa_cons (pv 1) pa_nil)))))
      (pss_cons (ps_set (i := 4) sc__law_block.nd rfl (by first | exact Or.inl rfl | exact Or.inr rfl) (pe_cal c__law_mix hr__law_mix rfl (pa_cons (pv 0) (pa_cons pe_int (pa_cons (pv 2) pa_nil)))))
      (pss_one (ps_ret (pe_tup (pa_cons (pv 3) (pa_cons (pv 4) (pa_cons (pe_op op_add pe_int (pe_cal c__law_mix hr__law_mix rfl (pa_cons (pv 0) (pa_cons pe_int (pa_cons pe_int pa_nil))))) (pa_cons (pe_op op_add pe_int (pe_cal c__law_mix hr__law_mix rfl (pa_cons (pv 0) (pa_cons pe_int (pa_cons pe_int pa_nil))))) pa_nil))))))))), ?_⟩
    refine ⟨_, rfl, _, rfl, _, _, _, rfl, by decide, R0, ?_⟩
    refine ⟨_, rfl, _, rfl, _, _, _, rfl, by decide, C0, ?_⟩
    refine ⟨_, rfl, _, rfl, _, rfl, _, _, _, rfl, by decide, by decide, _, _, rfl, rfl, _, rfl, _, _, _, rfl, by decide, by decide, _, _, rfl, rfl, by show 4 ≤ sizeLine; decide, fun p hp => ?_⟩
    dsimp only
    have a1 := Int.emod_nonneg (c * 48271 % 9973) (by omega : (R : Int) ≠ 0)
    have a2 := Int.emod_lt_of_pos (c * 48271 % 9973) R0
    have b1 := Int.emod_nonneg (c * 48271 % 9967) (by omega : (C : Int) ≠ 0)
    have b2 := Int.emod_lt_of_pos (c * 48271 % 9967) C0
    generalize c * 48271 % 9973 % (R : Int) = t at *
    generalize c * 48271 % 9967 % (C : Int) = l at *
    obtain ⟨t, rfl⟩ := Int.eq_ofNat_of_zero_le a1
    obtain ⟨l, rfl⟩ := Int.eq_ofNat_of_zero_le b1
    obtain ⟨h, eh, h1, h2⟩ : ∃ h : Nat, 1 + c * 48271 % 10007 % 3 = (h : Int) ∧ 1 ≤ h ∧ h ≤ 3 := ⟨(1 + c * 48271 % 10007 % 3).toNat, by omega, by omega, by omega⟩
    obtain ⟨w, ew, w1, w2⟩ : ∃ w : Nat, 1 + c * 48271 % 9923 % 3 = (w : Int) ∧ 1 ≤ w ∧ w ≤ 3 := ⟨(1 + c * 48271 % 9923 % 3).toNat, by omega, by omega, by omega⟩
    rw [eh, ew]
    exact k t l h w p _ (Same.upd_new hp) (by omega) (by omega) h1 h2 w1 w2 upd_same

theorem sc__law_free : FnScope ["_law_block_here", "_law_rows", "_law_columns", "_law_taken", "_law_row", "_law_column"] ["_law_block_here", "_law_rows", "_law_columns", "_law_taken"] (defScope (top 28)) := ⟨rfl, rfl, rfl, by decide +kernel, rfl, by decide +kernel, by decide +kernel⟩
set_option maxHeartbeats 2000000 in
theorem ok__law_free (T : Txt mg) (f : Addr) (fd : FuncData) (F : Fun K "_law_free" "_law_free" (top 28) f fd) : FnOk P w K mg base CX0 1 f fd ["_law_block_here", "_law_rows", "_law_columns", "_law_taken"] spFree := by
  refine F.ok sc__law_free (fun vs H Q E h => ?_) (fun cdv A outer s H vs Q E hr h => ?_)
  · obtain ⟨b, d, t, l, h, w, R, C, kvs, rfl, _⟩ := h; rfl
  · obtain ⟨b, d, t, l, h, w, R, C, kvs, rfl, hb, hd, t0, l0, h3, w3, qF, qT⟩ := h
    have hu := hu_of hr
    refine ⟨_, (pss_cons (ps_if (PW.pt (pw_or (pt_cmpR op_gt (pe_op op_add (pe_ix (ix_tupK (K := K) rfl) (pv 0) pe_int (fun _ _ => rfl)) (pe_ix (ix_tupK (K := K) rfl) (pv 0) pe_int (fun _ _ => rfl))) (pv 1) (nomark _)) (pw_or1 (pt_cmpR op_gt (pe_op op_add (pe_ix (ix_tupK (K := K) rfl) (pv 0) pe_int (fun _ _ => rfl)) (pe_ix (ix_tupK (K := K) rfl) (pv 0) pe_int (fun _ _ => rfl))) (pv 2) (nomark _))))) (pss_one (ps_ret pe_bl)) pss_nil)
      (pss_cons (ps_for PassesOwn.never rfl (pi_range2 rfl T.range (pa_cons (pe_ix (ix_tupK (K := K) rfl) (pv 0) pe_int (fun _ _ => rfl)) (pa_cons (pe_op op_add (pe_ix (ix_tupK (K := K) rfl) (pv 0) pe_int (fun _ _ => rfl)) (pe_ix (ix_tupK (K := K) rfl) (pv 0) pe_int (fun _ _ => rfl))) pa_nil))) (pg_name (i := 4) sc__law_free.nd rfl (by first | exact Or.inl rfl | exact Or.inr rfl)) (pss_one (ps_for PassesOwn.never rfl (pi_range2 rfl T.range (pa_cons (pe_ix (ix_tupK (K := K) rfl) (pv 0) pe_int (fun _ _ => rfl)) (pa_cons (pe_op op_add (pe_ix (ix_tupK (K := K) rfl) (pv 0) pe_int (fun _ _ => rfl)) (pe_ix (ix_tupK (K := K) rfl) (pv 0) pe_int (fun _ _ => rfl))) pa_nil))) (pg_name (i := 5) sc__law_free.nd rfl (by first | exact Or.inl rfl | exact Or.inr rfl)) (pss_one (ps_if (pt_cmp (pc_din hu (pe_tup (pa_cons (pv 4) (pa_cons (pv 5) pa_nil))) (pv 3)) (by rfl)) (pss_one (ps_ret pe_bl)) pss_nil)))))
      (pss_one (ps_ret pe_bl)))), ?_⟩
    refine ⟨_, rfl, b, _, (0 : Int), _, rfl, rfl, SqT.of hb, rfl, _, rfl, b, _, (2 : Int), _, rfl, rfl, SqT.of hb, rfl, _, _, rfl, rfl, _, rfl, _, _, rfl, rfl, _, rfl, ?_⟩
    refine ite2 (fun _ => iteT (qF H fun _ _ z => z)) (fun n1 => ?_)
    refine ⟨_, rfl, b, _, (1 : Int), _, rfl, rfl, SqT.of hb, rfl, _, rfl, b, _, (3 : Int), _, rfl, rfl, SqT.of hb, rfl, _, _, rfl, rfl, _, rfl, _, _, rfl, rfl, _, rfl, ?_⟩
    refine ite2 (fun _ => qF H fun _ _ z => z) (fun n2 => ?_)
    have d1 : t + h ≤ R := by
      have : ¬ ((R : Int) < (t : Int) + (h : Int)) := fun z => n1 (decide_eq_true z)
      omega
    have d2 : l + w ≤ C := by
      have : ¬ ((C : Int) < (l : Int) + (w : Int)) := fun z => n2 (decide_eq_true z)
      omega
    refine ⟨_, rfl, b, _, (0 : Int), _, rfl, rfl, SqT.of hb, rfl, _, rfl, b, _, (0 : Int), _, rfl, rfl, SqT.of hb, rfl, _, rfl, b, _, (2 : Int), _, rfl, rfl, SqT.of hb, rfl, _, _, rfl, rfl, (t : Int), (t : Int) + (h : Int), rfl, ⟨by omega, by omega, by omega, by omega⟩, ?_⟩
    have eh : ((t : Int) + (h : Int) - (t : Int)).toNat = h := by omega
    have ew : ((l : Int) + (w : Int) - (l : Int)).toNat = w := by omega
    rw [eh]
    refine for_range (n := h) (fun i σ H2 => ∃ (x y : Option V), σ = [some (.ref b), some (.int R), some (.int C), some (.ref d), x, y] ∧ Same H H2 ∧ ∀ r c, t ≤ r → r < t + i → l ≤ c → c < l + w → valV kvs (pl r c) = none)
      ⟨_, _, rfl, fun _ _ z => z, fun r c h1 h2 => by omega⟩ ?_ ?_
    · intro i σ H2 hi hI
      refine ex_2 hI fun x y hJ => ?_
      have eI := hJ.1
      have s2 := hJ.2.1
      have a2 := hJ.2.2
      clear hI hJ
      subst eI
      have hb2 := s2 _ _ hb
      refine ⟨_, rfl, b, _, (1 : Int), _, rfl, rfl, SqT.of hb2, rfl, _, rfl, b, _, (1 : Int), _, rfl, rfl, SqT.of hb2, rfl, _, rfl, b, _, (3 : Int), _, rfl, rfl, SqT.of hb2, rfl, _, _, rfl, rfl, (l : Int), (l : Int) + (w : Int), rfl, ⟨by omega, by omega, by omega, by omega⟩, ?_⟩
      rw [ew]
      refine for_range (n := w) (fun j σ H3 => ∃ (y : Option V), σ = [some (.ref b), some (.int R), some (.int C), some (.ref d), some (.int ((t : Int) + (i : Int))), y] ∧ Same H H3 ∧ ∀ c, l ≤ c → c < l + j → valV kvs (pl (t + i) c) = none)
        ⟨_, rfl, s2, fun c h1 h2 => by omega⟩ ?_ ?_
      · rintro j σ H3 hj ⟨y, rfl, s3, a3⟩
        have e1 : (t : Int) + (i : Int) = ((t + i : Nat) : Int) := by simp
        have e2 : (l : Int) + (j : Int) = ((l + j : Nat) : Int) := by simp
        rw [e2, e1]
        refine ⟨_, rfl, _, rfl, by show 2 ≤ sizeLine; decide, fun p hp => ?_⟩
        have s4 := s3.trans (Same.upd_new (o := .tup [.int ((t + i : Nat) : Int), .int ((l + j : Nat) : Int)]) hp)
        refine ⟨_, rfl, d, _, rfl, DGet.t (k := pl (t + i) (l + j)) (s4 _ _ hd) upd_same, _, rfl, ?_⟩
        cases e : valV kvs (pl (t + i) (l + j)) with
        | some v => exact iteT (qF _ s4)
        | none =>
          refine iteF ?_
          refine ⟨_, rfl, s4, fun c h1 h2 => ?_⟩
          by_cases hc : c = l + j
          · subst hc; exact e
          · exact a3 c h1 (by omega)
      · rintro σ H3 ⟨y, rfl, s3, a3⟩
        refine ⟨_, _, rfl, s3, fun r c h1 h2 h4 h5 => ?_⟩
        by_cases hc : r = t + i
        · subst hc; exact a3 c h4 h5
        · exact a2 r c h1 (by omega) h4 h5
    · intro σ H2 hI
      refine ex_2 hI fun x y hJ => ?_
      have eI := hJ.1
      have s2 := hJ.2.1
      have a2 := hJ.2.2
      clear hI hJ
      subst eI
      exact qT d1 d2 a2 H2 s2

end
end KL

set_option Elab.async false
set_option linter.all false
set_option autoImplicit false
set_option maxRecDepth 100000
namespace KL
open PySem L2 GT PyProof.Rows
theorem SameT.putD {H : Hp} {d : Addr} {kvs : List (List Key × V)} {o : HO} (h : H d = some (.dT kvs)) : SameT H (upd H d o) := fun a ys e => by
  rw [upd_ne (ne_of e h (fun z => by cases z))]; exact e
theorem pl_inj {r c r' c' : Nat} : pl r c = pl r' c' ↔ r = r' ∧ c = c' := by
  unfold pl
  constructor
  · intro h
    simp only [List.cons.injEq, Sum.inl.injEq] at h
    omega
  · rintro ⟨rfl, rfl⟩; rfl
theorem valV_pl {kvs : List (List Key × V)} {r c r' c' : Nat} {v : V} : (valV (putK kvs (pl r c) v) (pl r' c')).isSome = true ↔ (valV kvs (pl r' c')).isSome = true ∨ (r' = r ∧ c' = c) := by
  rw [valV_put]
  by_cases h : pl r' c' = pl r c
  · rw [if_pos h]
    exact ⟨fun _ => .inr (pl_inj.mp h), fun _ => rfl⟩
  · rw [if_neg h]
    exact ⟨fun z => .inl z, fun z => z.elim id fun z => absurd (pl_inj.mpr z) h⟩
theorem cut_ints {ns : List Int} {lo hi : Option Int} : (∀ x ∈ cutV (ns.map V.int) lo hi, ∃ z, x = V.int z) ∧ (cutV (ns.map V.int) lo hi).length ≤ ns.length := by
  constructor
  · intro x hx
    have : x ∈ ns.map V.int := List.mem_of_mem_drop (List.mem_of_mem_take hx)
    obtain ⟨z, _, rfl⟩ := List.mem_map.mp this
    exact ⟨z, rfl⟩
  · have := cutV_length (ns.map V.int) lo hi
    rwa [List.length_map] at this
section
variable {P : Program} {w : World} {K : PySem.W.Frag} {mg : Str → Option Value} {base : Heap}
/-- between two turns of the first loop -/
structure One (H : Hp) (R C : Nat) (d l p : Addr) (items : List V) (i : Nat) (cs : List Cell) (kvs : List (List Key × V)) (xs : List V) (H2 : Hp) : Prop where
  same : Same H H2
  it : H2 p = some (.lst items)
  dd : H2 d = some (.dT kvs)
  ll : H2 l = some (.lst xs)
  at' : AtL H2 (cs.map Cell.D) xs
  part : Part R C cs
  few : cs.length ≤ i
  fewk : kvs.length ≤ 9 * i
  cov : ∀ r c, (valV kvs (pl r c)).isSome = true ↔ cov cs r c
noncomputable def TabInv (a : Addr) (H : Hp) (R C : Nat) (d l p : Addr) (items : List V) (i : Nat) (σ : L2.St) (H2 : Hp) : Prop := ∃ (c5 c6 c7 c8 : Option V) (cs : List Cell) (kvs : List (List Key × V)) (xs : List V),
        σ = [some (.ref a), some (.int R), some (.int C), some (.ref d), some (.ref l), c5, c6, c7, c8, none] ∧ One H R C d l p items i cs kvs xs H2
noncomputable def TabI2 (a : Addr) (R C : Nat) (d l : Addr) (z : Int) (b : Addr) (H H8 : Hp) (p : Addr) (items xs : List V) (r : Addr) (i : Nat) (cs : List Cell) (X : Cell) (t : Nat) (i2 : Nat) (σ : L2.St) (H9 : Hp) : Prop := ∃ (c7 c8 : Option V) (kv : List (List Key × V)), σ = [some (.ref a), some (.int R), some (.int C), some (.ref d), some (.ref l), some (.int z), some (.ref b), c7, c8, none] ∧
            Same H H9 ∧ SameT H8 H9 ∧ H9 p = some (.lst items) ∧ H9 d = some (.dT kv) ∧ H9 l = some (.lst (xs ++ [.ref r])) ∧ kv.length ≤ 9 * i + 3 * i2 ∧ ∀ r' c', (valV kv (pl r' c')).isSome = true ↔ GT.cov cs r' c' ∨ (inC X r' c' ∧ r' < t + i2)
noncomputable def TabI3 (a : Addr) (R C : Nat) (d l : Addr) (z : Int) (b : Addr) (H H8 : Hp) (p : Addr) (items xs : List V) (r : Addr) (i : Nat) (cs : List Cell) (X : Cell) (t : Nat) (lf i2 : Nat) (j : Nat) (σ : L2.St) (H10 : Hp) : Prop := ∃ (c8 : Option V) (kv : List (List Key × V)), σ = [some (.ref a), some (.int R), some (.int C), some (.ref d), some (.ref l), some (.int z), some (.ref b), some (.int ((t : Int) + (i2 : Int))), c8, none] ∧
              Same H H10 ∧ SameT H8 H10 ∧ H10 p = some (.lst items) ∧ H10 d = some (.dT kv) ∧ H10 l = some (.lst (xs ++ [.ref r])) ∧ kv.length ≤ 9 * i + 3 * i2 + j ∧
              ∀ r' c', (valV kv (pl r' c')).isSome = true ↔ GT.cov cs r' c' ∨ (inC X r' c' ∧ (r' < t + i2 ∨ (r' = t + i2 ∧ c' < lf + j)))
noncomputable def TabI4 (a : Addr) (R C : Nat) (d l : Addr) (c5 c6 : Option V) (H : Hp) (kvs : List (List Key × V)) (cs1 : List Cell) (i : Nat) (σ : L2.St) (H3 : Hp) : Prop := ∃ (c7 c8 c9 : Option V) (cs : List Cell) (xs : List V), σ = [some (.ref a), some (.int R), some (.int C), some (.ref d), some (.ref l), c5, c6, c7, c8, c9] ∧
          Same H H3 ∧ H3 d = some (.dT kvs) ∧ H3 l = some (.lst xs) ∧ AtL H3 (cs.map Cell.D) xs ∧ Part R C cs ∧ cs.length ≤ 67 + 17 * i ∧ ∀ r c, r < R → c < C → (GT.cov cs r c ↔ GT.cov cs1 r c ∨ r < i)

theorem sc__law_table : FnScope ["_law_script", "_law_rows", "_law_columns", "_law_taken", "_law_cells", "_law_cell_here", "_law_block_here", "_law_row", "_law_column", "_law_seed"] ["_law_script", "_law_rows", "_law_columns"] (defScope (top 30)) := ⟨rfl, rfl, rfl, by decide +kernel, rfl, by decide +kernel, by decide +kernel⟩
set_option maxHeartbeats 4000000 in
theorem ok__law_table (T : Txt mg) (c__law_cell : Cal P w K mg base 1 "_law_cell" ["_law_script", "_law_k"] (spCell K)) (c__law_words : Cal P w K mg base 3 "_law_words" ["_law_seed"] spWords)
    (c__law_block : Cal P w K mg base 2 "_law_block" ["_law_cell_here", "_law_rows", "_law_columns"] spBlock) (c__law_free : Cal P w K mg base 1 "_law_free" ["_law_block_here", "_law_rows", "_law_columns", "_law_taken"] spFree)
    (f : Addr) (fd : FuncData) (F : Fun K "_law_table" "_law_table" (top 30) f fd) : FnOk P w K mg base CX0 4 f fd ["_law_script", "_law_rows", "_law_columns"] (spTable K) := by
  refine F.ok sc__law_table (fun vs H Q E h => ?_) (fun cdv A outer s H vs Q E hr h => ?_)
  · obtain ⟨a, ns, R, C, rfl, _⟩ := h; rfl
  · obtain ⟨a, ns, R, C, rfl, hs, hlen, hR1, hR2, hC1, hC2, k⟩ := h
    have hr__law_words : Room 3 (A.deeper (envOfC "_law_table" (defScope (top 30)) s.heap.objs.size f cdv)) := hr
    have hr__law_block : Room 2 (A.deeper (envOfC "_law_table" (defScope (top 30)) s.heap.objs.size f cdv)) := hr.mono (by decide)
    have hr__law_cell : Room 1 (A.deeper (envOfC "_law_table" (defScope (top 30)) s.heap.objs.size f cdv)) := hr.mono (by decide)
    have hr__law_free := hr__law_cell
    have hu := hu_of hr
    refine ⟨_, (pss_cons (ps_set (i := 3) sc__law_table.nd rfl (by first | exact Or.inl rfl | exact Or.inr rfl) pe_dnewT)
      (pss_cons (ps_set (i := 4) sc__law_table.nd rfl (by first | exact Or.inl rfl | exact Or.inr rfl) (pe_lst pa_nil))
      (pss_cons (ps_for PassesOwn.never rfl (pi_listK (K := K) rfl (pe_slice (sl_listK (K := K) rfl) (pv 0) (po_some pe_int) (po_some (pe_op op_add (pe_op op_add pe_int (pv 1)) (pv 2))))) (pg_name (i := 5) sc__law_table.nd rfl (by first | exact Or.inl rfl | exact Or.inr rfl)) (pss_cons (ps_set (i := 6) sc__law_table.nd rfl (by first | exact Or.inl rfl | exact Or.inr rfl) (pe_cal c__law_block hr__law_block rfl (pa_cons (pv 5) (pa_cons (pv 1) (pa_cons (pv 2) pa_nil)))))
      (pss_one (ps_if (pt_val (pe_cal c__law_free hr__law_free rfl (pa_cons (pv 6) (pa_cons (pv 1) (pa_cons (pv 2) (pa_cons (pv 3) pa_nil)))))) (pss_cons (ps_expr (pe_bmK (K := K) rfl PySem.F.plainAttrs_list PySem.F.slot_list_append PySem.F.type_list_append mt_append (pv 4) (pa_cons (pe_op (op_catTK (K := K) rfl) (pv 6) (pe_tup (pa_cons (pe_cal c__law_words hr__law_words rfl (pa_cons (pv 5) pa_nil)) pa_nil))) pa_nil)))
      (pss_one (ps_for PassesOwn.never rfl (pi_range2 rfl T.range (pa_cons (pe_ix (ix_tupK (K := K) rfl) (pv 6) pe_int (fun _ _ => rfl)) (pa_cons (pe_op op_add (pe_ix (ix_tupK (K := K) rfl) (pv 6) pe_int (fun _ _ => rfl)) (pe_ix (ix_tupK (K := K) rfl) (pv 6) pe_int (fun _ _ => rfl))) pa_nil))) (pg_name (i := 7) sc__law_table.nd rfl (by first | exact Or.inl rfl | exact Or.inr rfl)) (pss_one (ps_for PassesOwn.never rfl (pi_range2 rfl T.range (pa_cons (pe_ix (ix_tupK (K := K) rfl) (pv 6) pe_int (fun _ _ => rfl)) (pa_cons (pe_op op_add (pe_ix (ix_tupK (K := K) rfl) (pv 6) pe_int (fun _ _ => rfl)) (pe_ix (ix_tupK (K := K) rfl) (pv 6) pe_int (fun _ _ => rfl))) pa_nil))) (pg_name (i := 8) sc__law_table.nd rfl (by first | exact Or.inl rfl | exact Or.inr rfl)) (pss_one (ps_dput hu (pv 3) (pe_tup (pa_cons (pv 7) (pa_cons (pv 8) pa_nil))) pe_bl rfl))))))) pss_nil))))
      (pss_cons (ps_for PassesOwn.never rfl (pi_range1 rfl T.range (pa_cons (pv 1) pa_nil)) (pg_name (i := 7) sc__law_table.nd rfl (by first | exact Or.inl rfl | exact Or.inr rfl)) (pss_one (ps_for PassesOwn.never rfl (pi_range1 rfl T.range (pa_cons (pv 2) pa_nil)) (pg_name (i := 8) sc__law_table.nd rfl (by first | exact Or.inl rfl | exact Or.inr rfl)) (pss_one (ps_if (pt_cmp (pc_dnotin hu (pe_tup (pa_cons (pv 7) (pa_cons (pv 8) pa_nil))) (pv 3)) (by rfl)) (pss_cons (ps_set (i := 9) sc__law_table.nd rfl (by first | exact Or.inl rfl | exact Or.inr rfl) (pe_op op_add (pe_op op_mul (pe_op op_mul pe_int (pv 7)) (pv 7)) (pe_op op_mul (pe_op op_mul pe_int (pv 8)) (pv 8))))
      (pss_cons (ps_set (i := 9) sc__law_table.nd rfl (by first | exact Or.inl rfl | exact Or.inr rfl) (pe_op op_add (pv 9) (pe_cal c__law_cell hr__law_cell rfl (pa_cons (pv 0) (pa_cons (pe_op op_add pe_int (pe_op op_mod (pe_op op_add (pv 7) (pe_op op_mul pe_int (pv 8))) pe_int)) pa_nil)))))
      (pss_one (ps_expr (pe_bmK (K := K) rfl PySem.F.plainAttrs_list PySem.F.slot_list_append PySem.F.type_list_append mt_append (pv 4) (pa_cons (pe_tup (pa_cons (pv 7) (pa_cons (pv 8) (pa_cons pe_int (pa_cons pe_int (pa_cons (pe_cal c__law_words hr__law_words rfl (pa_cons (pv 9) pa_nil)) pa_nil)))))) pa_nil)))))) pss_nil)))))
      (pss_one (ps_ret (pe_tup (pa_cons (pv 1) (pa_cons (pv 2) (pa_cons (pe_callB (call_sortedT (K := K) rfl) (by rfl) T.sorted PyProof.Rows.boot_sorted (pa_cons (pv 4) pa_nil)) pa_nil)))))))))), ?_⟩
    intro d hd0
    refine ⟨by show 0 ≤ sizeLine; decide, fun l hl0 => ?_⟩
    have ndl : l ≠ d := by intro e; subst e; rw [upd_same] at hl0; cases hl0
    have hl : H l = none := by rw [upd_ne ndl] at hl0; exact hl0
    have s1 : Same H (upd (upd H d (.dT [])) l (.lst [])) := (Same.upd_new hd0).trans (Same.upd_new hl0)
    have RC : (2 : Int) + (R : Int) + (C : Int) = ((2 + R + C : Nat) : Int) := by simp
    refine ⟨_, rfl, _, rfl, _, rfl, _, _, rfl, rfl, _, rfl, _, _, rfl, rfl, _, rfl, a, _, rfl, s1.seq hs, fun p hp => ⟨p, rfl, ⟨_, SqL.of upd_same⟩, ?_⟩⟩
    have npd : p ≠ d := by
      intro e; subst e; rw [upd_ne ndl.symm, upd_same] at hp; cases hp
    have npl : p ≠ l := by intro e; subst e; rw [upd_same] at hp; cases hp
    have hp0 : H p = none := s1.free hp
    obtain ⟨itsI, ilen⟩ := cut_ints (ns := ns) (lo := some 2) (hi := some ((2 : Int) + (R : Int) + (C : Int)))
    generalize hit : cutV (ns.map V.int) (some 2) (some ((2 : Int) + (R : Int) + (C : Int))) = items at *
    have s2 := Same.upd_new (o := .lst items) hp
    -- the first loop: blocks
    refine for_list (K := K) (a := p) (xs := items) (TabInv a H R C d l p items)
      ⟨none, none, none, none, [], [], [], rfl, s1.trans s2, upd_same, by rw [upd_ne npd.symm, upd_ne ndl.symm, upd_same], by rw [upd_ne npl.symm, upd_same], .nil, Part.nil R C, Nat.le_refl _, Nat.le_refl _, fun r c => by
        constructor
        · intro z; cases z
        · rintro ⟨x, hx, _⟩; simp at hx⟩
      (fun i σ H2 _ ⟨_, _, _, _, _, _, _, _, o⟩ => SqL.of o.it) ?_ ?_
    · intro i x σ H2 hi hI
      refine ex_7 hI fun c5 c6 c7 c8 cs kvs xs hJ => ?_
      have eI := hJ.1
      have O := hJ.2
      clear hI hJ
      subst eI
      obtain ⟨z, rfl⟩ := itsI x (List.mem_of_getElem? hi)
      have hil : i < items.length := (List.getElem?_eq_some_iff.mp hi).1
      have lx := O.at'.length
      rw [List.length_map] at lx
      refine ⟨_, rfl, _, rfl, _, rfl, z, R, C, rfl, hR1, hC1, fun t lf h w b H3 s3 ht hlf h1 h2 w1 w2 hb => ?_⟩
      refine ⟨_, rfl, _, rfl, _, rfl, _, rfl, b, d, t, lf, h, w, R, C, kvs, rfl, hb, s3 _ _ O.dd, by omega, by omega, h2, w2, fun H4 s4 => ⟨false, rfl, iteF ?_⟩, fun d1 d2 fr H4 s4 => ⟨true, rfl, iteT ?_⟩⟩
      · have s34 := s3.trans s4
        exact ⟨_, _, _, _, cs, kvs, xs, rfl, O.same.trans s34, s34 _ _ O.it, s34 _ _ O.dd, s34 _ _ O.ll, O.at'.mono s34, O.part, Nat.le_succ_of_le O.few, by have := O.fewk; omega, O.cov⟩
      · have s34 := s3.trans s4
        refine ⟨_, rfl, .inl ⟨rfl, _, SqL.of (s34 _ _ O.ll)⟩, _, rfl, _, rfl, z, rfl, fun v ws H5 s5 ow av => ⟨by show 1 ≤ sizeLine; decide, fun q hq => ?_⟩⟩
        have s6 := Same.upd_new (o := .tup [v]) hq
        refine ⟨b, q, _, _, rfl, rfl, SqT.of (s6 _ _ (s5 _ _ (s4 _ _ hb))), SqT.of upd_same, (by intro z; cases z), (by show 5 ≤ sizeLine; decide), (fun z => by cases z), fun _ r hrn => ?_⟩
        have s7 := Same.upd_new (o := .tup ([.int t, .int lf, .int h, .int w] ++ [v])) hrn
        have s27 := ((s34.trans s5).trans s6).trans s7
        generalize hH7 : upd (upd H5 q (.tup [v])) r (.tup ([.int t, .int lf, .int h, .int w] ++ [v])) = H7 at *
        have hr7 : H7 r = some (.tup ([.int t, .int lf, .int h, .int w] ++ [v])) := by rw [← hH7]; exact upd_same
        have l7 := s27 _ _ O.ll
        refine ⟨l, xs, .ref r, rfl, rfl, l7, small1000 (by have := O.few; omega), ?_⟩
        obtain ⟨bb, wv, rfl, hbb, aw⟩ := av.tup_inv
        have t8 : SameT H7 (upd H7 l (.lst (xs ++ [.ref r]))) := SameT.put l7
        let X : Cell := ⟨t, lf, h, w, ws⟩
        have fx : Fit R C X := ⟨h1, w1, d1, d2, ow⟩
        have dx : ∀ r' c', inC X r' c' → ¬ GT.cov cs r' c' := fun r' c' hin hc => by
          have := (O.cov r' c').mpr hc
          rw [fr r' c' hin.1 hin.2.1 hin.2.2.1 hin.2.2.2] at this
          cases this
        have s57 := s6.trans s7
        have aX : At (upd H7 l (.lst (xs ++ [.ref r]))) X.D (.ref r) := Cell.at_mk (x := X) (t8 _ _ hr7) (t8 _ _ (s57 _ _ hbb)) ((aw.mono s57).monoT (fun d hd => by obtain ⟨w', _, rfl⟩ := List.mem_map.mp hd; exact .str w') t8)
        have aL : AtL (upd H7 l (.lst (xs ++ [.ref r]))) ((cs ++ [X]).map Cell.D) (xs ++ [.ref r]) := by
          rw [List.map_append]
          exact Paired.snoc' ((O.at'.mono s27).monoT (cells_nol cs) t8) aX
        have PX := O.part.snoc fx dx
        have nbl : b ≠ l := ne_of (s3 _ _ O.ll) hb (by intro z; cases z) |>.symm
        have ndl7 : d ≠ l := ne_of O.dd O.ll (by intro z; cases z)
        have hb7 : H7 b = some (.tup [.int t, .int lf, .int h, .int w]) := s57 _ _ (s5 _ _ (s4 _ _ hb))
        have hb8 : (upd H7 l (.lst (xs ++ [.ref r]))) b = some (.tup [.int t, .int lf, .int h, .int w]) := t8 _ _ hb7
        have fk := O.fewk
        have start8 : Same H (upd H7 l (.lst (xs ++ [.ref r]))) := fun b' o e => by
          rw [upd_ne (ne_of_none e hl)]
          exact s27 _ _ (O.same _ _ e)
        have p8 : (upd H7 l (.lst (xs ++ [.ref r]))) p = some (.lst items) := by
          rw [upd_ne npl]; exact s27 _ _ O.it
        have d8 : (upd H7 l (.lst (xs ++ [.ref r]))) d = some (.dT kvs) := by rw [upd_ne ndl7]; exact s27 _ _ O.dd
        generalize hH8 : upd H7 l (.lst (xs ++ [.ref r])) = H8 at *
        have l8 : H8 l = some (.lst (xs ++ [.ref r])) := by rw [← hH8]; exact upd_same
        have ehh : ((t : Int) + (h : Int) - (t : Int)).toNat = h := by omega
        have eww : ((lf : Int) + (w : Int) - (lf : Int)).toNat = w := by omega
        -- its places are taken
        refine ⟨_, rfl, b, _, (0 : Int), _, rfl, rfl, SqT.of hb8, rfl, _, rfl, b, _, (0 : Int), _, rfl, rfl, SqT.of hb8, rfl, _, rfl, b, _, (2 : Int), _, rfl, rfl, SqT.of hb8, rfl, _, _, rfl, rfl, (t : Int), (t : Int) + (h : Int), rfl, ⟨by omega, by omega, by omega, by omega⟩, ?_⟩
        rw [ehh]
        refine for_range (n := h) (TabI2 a R C d l z b H H8 p items xs r i cs X t)
          ⟨_, _, kvs, rfl, start8, fun _ _ z => z, p8, d8, l8, by omega, fun r' c' => by
            rw [O.cov r' c']
            exact ⟨fun z => .inl z, fun z => z.elim id fun z => absurd z.2 (by have := z.1.1; show ¬ r' < t + 0; have : t ≤ r' := this; omega)⟩⟩ ?_ ?_
        · intro i2 σ H9 hi2 hI
          refine ex_3 hI fun c7 c8 kv hJ => ?_
          have eI := hJ.1
          have s9 := hJ.2.1
          have t9 := hJ.2.2.1
          have p9 := hJ.2.2.2.1
          have d9 := hJ.2.2.2.2.1
          have l9 := hJ.2.2.2.2.2.1
          have f9 := hJ.2.2.2.2.2.2.1
          have v9 := hJ.2.2.2.2.2.2.2
          clear hI hJ
          subst eI
          have hb9 := t9 _ _ hb8
          refine ⟨_, rfl, b, _, (1 : Int), _, rfl, rfl, SqT.of hb9, rfl, _, rfl, b, _, (1 : Int), _, rfl, rfl, SqT.of hb9, rfl, _, rfl, b, _, (3 : Int), _, rfl, rfl, SqT.of hb9, rfl, _, _, rfl, rfl, (lf : Int), (lf : Int) + (w : Int), rfl, ⟨by omega, by omega, by omega, by omega⟩, ?_⟩
          rw [eww]
          refine for_range (n := w) (TabI3 a R C d l z b H H8 p items xs r i cs X t lf i2)
            ⟨_, kv, rfl, s9, t9, p9, d9, l9, by omega, fun r' c' => by
              rw [v9 r' c']
              refine ⟨fun z => z.imp id fun z => ⟨z.1, .inl z.2⟩, fun z => z.imp id fun z => ⟨z.1, z.2.elim id fun q => ?_⟩⟩
              have : lf ≤ c' := z.1.2.2.1
              omega⟩ ?_ ?_
          · intro j σ H10 hj hI
            refine ex_2 hI fun c8 kv hJ => ?_
            have eI := hJ.1
            have s10 := hJ.2.1
            have t10 := hJ.2.2.1
            have p10 := hJ.2.2.2.1
            have d10 := hJ.2.2.2.2.1
            have l10 := hJ.2.2.2.2.2.1
            have f10 := hJ.2.2.2.2.2.2.1
            have v10 := hJ.2.2.2.2.2.2.2
            clear hI hJ
            subst eI
            have e1 : (t : Int) + (i2 : Int) = ((t + i2 : Nat) : Int) := by simp
            have e2 : (lf : Int) + (j : Int) = ((lf + j : Nat) : Int) := by simp
            rw [e2, e1]
            refine ⟨_, rfl, _, rfl, _, rfl, by show 2 ≤ sizeLine; decide, fun q2 hq2 => ?_⟩
            have s11 := Same.upd_new (o := .tup [.int ((t + i2 : Nat) : Int), .int ((lf + j : Nat) : Int)]) hq2
            have d11 := s11 _ _ d10
            refine ⟨d, _, rfl, DPut.t (k := pl (t + i2) (lf + j)) d11 upd_same (small1000 (by omega)), ?_⟩
            have ndp : p ≠ d := ne_of p10 d10 (by intro z; cases z)
            have ndl10 : l ≠ d := ne_of l10 d10 (by intro z; cases z)
            refine ⟨_, _, rfl, fun b' o e => ?_, (t10.trans s11.t).trans (SameT.putD d11), ?_, upd_same, ?_, ?_, fun r' c' => ?_⟩
            · rw [upd_ne (ne_of_none e hd0)]
              exact s11 _ _ (s10 _ _ e)
            · rw [upd_ne ndp]; exact s11 _ _ p10
            · rw [upd_ne ndl10]; exact s11 _ _ l10
            · have := length_putK kv (pl (t + i2) (lf + j)) (V.bl true)
              omega
            · rw [valV_pl, v10 r' c']
              constructor
              · rintro ((z | z) | z)
                · exact .inl z
                · exact .inr ⟨z.1, z.2.imp id fun q => ⟨q.1, by omega⟩⟩
                · refine .inr ⟨⟨?_, ?_, ?_, ?_⟩, .inr ⟨z.1, by omega⟩⟩
                  · show t ≤ r'; omega
                  · show r' < t + h; omega
                  · show lf ≤ c'; omega
                  · show c' < lf + w; omega
              · rintro (z | z)
                · exact .inl (.inl z)
                · by_cases he : r' = t + i2 ∧ c' = lf + j
                  · exact .inr he
                  · exact .inl (.inr ⟨z.1, z.2.imp id fun q => ⟨q.1, by omega⟩⟩)
          · intro σ H10 hI
            refine ex_2 hI fun c8 kv hJ => ?_
            have eI := hJ.1
            have s10 := hJ.2.1
            have t10 := hJ.2.2.1
            have p10 := hJ.2.2.2.1
            have d10 := hJ.2.2.2.2.1
            have l10 := hJ.2.2.2.2.2.1
            have f10 := hJ.2.2.2.2.2.2.1
            have v10 := hJ.2.2.2.2.2.2.2
            clear hI hJ
            subst eI
            refine ⟨_, _, kv, rfl, s10, t10, p10, d10, l10, by omega, fun r' c' => ?_⟩
            rw [v10 r' c']
            refine ⟨fun z => z.imp id fun z => ⟨z.1, by omega⟩, fun z => z.imp id fun z => ⟨z.1, ?_⟩⟩
            have : c' < lf + w := z.1.2.2.2
            omega
        · intro σ H9 hI
          refine ex_3 hI fun c7 c8 kv hJ => ?_
          have eI := hJ.1
          have s9 := hJ.2.1
          have t9 := hJ.2.2.1
          have p9 := hJ.2.2.2.1
          have d9 := hJ.2.2.2.2.1
          have l9 := hJ.2.2.2.2.2.1
          have f9 := hJ.2.2.2.2.2.2.1
          have v9 := hJ.2.2.2.2.2.2.2
          clear hI hJ
          subst eI
          refine ⟨_, _, _, _, cs ++ [X], kv, xs ++ [.ref r], rfl, s9, p9, d9, l9, aL.monoT (cells_nol _) t9, PX, by rw [List.length_append]; have := O.few; show _ + 1 ≤ _; omega, by omega, fun r' c' => ?_⟩
          rw [v9 r' c', cov_snoc]
          refine ⟨fun z => z.imp id fun z => z.1, fun z => z.imp id fun z => ⟨z, ?_⟩⟩
          exact z.2.1
    · intro σ H2 hI
      refine ex_7 hI fun c5 c6 c7 c8 cs1 kvs xs1 hJ => ?_
      have eI := hJ.1
      have O := hJ.2
      clear hI hJ
      subst eI
      have lx1 := O.at'.length
      rw [List.length_map] at lx1
      have few1 := O.few
      have eR : ((R : Int)).toNat = R := by omega
      have eC : ((C : Int)).toNat = C := by omega
      -- the second loop: what is left, place by place
      refine ⟨_, rfl, (R : Int), rfl, by omega, by omega, ?_⟩
      rw [eR]
      refine for_range (n := R) (TabI4 a R C d l c5 c6 H kvs cs1)
        ⟨_, _, _, cs1, xs1, rfl, O.same, O.dd, O.ll, O.at', O.part, by omega, fun r c _ _ => ⟨fun z => .inl z, fun z => z.elim id fun z => by omega⟩⟩ ?_ ?_
      · intro i σ H3 hi hI
        refine ex_5 hI fun c7 c8 c9 cs xs hJ => ?_
        have eI := hJ.1
        have s3 := hJ.2.1
        have d3 := hJ.2.2.1
        have l3 := hJ.2.2.2.1
        have a3 := hJ.2.2.2.2.1
        have P3 := hJ.2.2.2.2.2.1
        have f3 := hJ.2.2.2.2.2.2.1
        have v3 := hJ.2.2.2.2.2.2.2
        clear hI hJ
        subst eI
        refine ⟨_, rfl, (C : Int), rfl, by omega, by omega, ?_⟩
        rw [eC]
        refine for_range (n := C) (fun j σ H4 => ∃ (c8 c9 : Option V) (cs : List Cell) (xs : List V), σ = [some (.ref a), some (.int R), some (.int C), some (.ref d), some (.ref l), c5, c6, some (.int (0 + (i : Int))), c8, c9] ∧
            Same H H4 ∧ H4 d = some (.dT kvs) ∧ H4 l = some (.lst xs) ∧ AtL H4 (cs.map Cell.D) xs ∧ Part R C cs ∧ cs.length ≤ 67 + 17 * i + j ∧ ∀ r c, r < R → c < C → (GT.cov cs r c ↔ GT.cov cs1 r c ∨ r < i ∨ (r = i ∧ c < j)))
          ⟨_, _, cs, xs, rfl, s3, d3, l3, a3, P3, by omega, fun r c hr' hc' => by
            rw [v3 r c hr' hc']
            exact ⟨fun z => z.imp id .inl, fun z => z.imp id fun z => by omega⟩⟩ ?_ ?_
        · intro j σ H4 hj hI
          refine ex_4 hI fun c8 c9 cs xs hJ => ?_
          have eI := hJ.1
          have s4 := hJ.2.1
          have d4 := hJ.2.2.1
          have l4 := hJ.2.2.2.1
          have a4 := hJ.2.2.2.2.1
          have P4 := hJ.2.2.2.2.2.1
          have f4 := hJ.2.2.2.2.2.2.1
          have v4 := hJ.2.2.2.2.2.2.2
          clear hI hJ
          subst eI
          have e1 : (0 : Int) + (i : Int) = ((i : Nat) : Int) := by omega
          have e2 : (0 : Int) + (j : Int) = ((j : Nat) : Int) := by omega
          rw [e2, e1]
          have lx4 := a4.length
          rw [List.length_map] at lx4
          refine ⟨_, rfl, _, rfl, by show 2 ≤ sizeLine; decide, fun q hq => ?_⟩
          have s5 := Same.upd_new (o := .tup [.int (i : Int), .int (j : Int)]) hq
          refine ⟨_, rfl, d, _, rfl, DGet.t (k := pl i j) (s5 _ _ d4) upd_same, _, rfl, ?_⟩
          cases ev : valV kvs (pl i j) with
          | some v =>
            refine iteF ?_
            have hc : GT.cov cs1 i j := (O.cov i j).mp (by rw [ev]; rfl)
            refine ⟨_, _, cs, xs, rfl, s4.trans s5, s5 _ _ d4, s5 _ _ l4, a4.mono s5, P4, by omega, fun r c hr' hc' => ?_⟩
            rw [v4 r c hr' hc']
            refine ⟨fun z => z.imp id fun z => z.imp id fun z => ⟨z.1, by omega⟩, fun z => ?_⟩
            rcases z with z | z | z
            · exact .inl z
            · exact .inr (.inl z)
            · by_cases he : c = j
              · obtain ⟨rfl, _⟩ := z
                subst he
                exact .inl hc
              · exact .inr (.inr ⟨z.1, by omega⟩)
          | none =>
            refine iteT ?_
            have hc : ¬ GT.cov cs1 i j := fun z => by
              have := (O.cov i j).mpr z
              rw [ev] at this; cases this
            generalize hH5 : upd H4 q (.tup [.int (i : Int), .int (j : Int)]) = H5 at *
            refine ⟨_, rfl, _, _, rfl, rfl, .inl ⟨by decide, by decide⟩, _, rfl, _, _, rfl, rfl, .inr ⟨by omega, by omega⟩, _, rfl, _, _, rfl, rfl, .inl ⟨by decide, by decide⟩, _, rfl, _, _, rfl, rfl, .inr ⟨by omega, by omega⟩, _, _, rfl, rfl, ?_⟩
            refine ⟨_, rfl, _, rfl, _, rfl, _, rfl, _, _, rfl, rfl, .inl ⟨by decide, by decide⟩, _, _, rfl, rfl, _, _, rfl, rfl, by show (0 : Int) < 20; decide, _, _, rfl, rfl, a, ns, (2 + (i + 3 * j) % 20), ?_, (s4.trans s5).seq hs, _, _, rfl, rfl, ?_⟩
            · have e3 : (2 : Int) + ((i : Int) + 3 * (j : Int)) % 20 = ((2 + (i + 3 * j) % 20 : Nat) : Int) := by omega
              show [V.ref a, V.int ((2 : Int) + ((i : Int) + 3 * (j : Int)) % 20)] = _
              rw [e3]
            have l5 := s5 _ _ l4
            refine ⟨_, rfl, .inl ⟨rfl, _, SqL.of l5⟩, _, rfl, _, rfl, _, rfl, _, rfl, fun v ws H6 s6 ow av => ⟨by show 5 ≤ sizeLine; decide, fun r hrn => ?_⟩⟩
            have s7 := Same.upd_new (o := .tup [.int (i : Int), .int (j : Int), .int 1, .int 1, v]) hrn
            generalize hH7 : upd H6 r (.tup [.int (i : Int), .int (j : Int), .int 1, .int 1, v]) = H7 at *
            have hr7 : H7 r = some (.tup [.int (i : Int), .int (j : Int), .int 1, .int 1, v]) := by rw [← hH7]; exact upd_same
            have s47 := (s5.trans s6).trans s7
            have l7 := s47 _ _ l4
            refine ⟨l, xs, .ref r, rfl, rfl, l7, small1000 (by have : 17 * i ≤ 17 * 17 := Nat.mul_le_mul_left _ (by omega); omega), ?_⟩
            obtain ⟨bb, wv, rfl, hbb, aw⟩ := av.tup_inv
            have t8 : SameT H7 (upd H7 l (.lst (xs ++ [.ref r]))) := SameT.put l7
            let X : Cell := ⟨i, j, 1, 1, ws⟩
            have fx : Fit R C X := ⟨Nat.le_refl _, Nat.le_refl _, by show i + 1 ≤ R; omega, by show j + 1 ≤ C; omega, ow⟩
            have inX : ∀ r' c', inC X r' c' ↔ r' = i ∧ c' = j := fun r' c' => by
              show (i ≤ r' ∧ r' < i + 1 ∧ j ≤ c' ∧ c' < j + 1) ↔ _
              omega
            have dx : ∀ r' c', inC X r' c' → ¬ GT.cov cs r' c' := fun r' c' hin hcv => by
              obtain ⟨rfl, rfl⟩ := (inX r' c').mp hin
              rcases (v4 r' c' hi hj).mp hcv with z | z | z
              · exact hc z
              · omega
              · omega
            have aX : At (upd H7 l (.lst (xs ++ [.ref r]))) X.D (.ref r) := Cell.at_mk (x := X) (t8 _ _ hr7) (t8 _ _ (s7 _ _ hbb)) ((aw.mono s7).monoT (fun d hd => by obtain ⟨w', _, rfl⟩ := List.mem_map.mp hd; exact .str w') t8)
            have ndl7 : d ≠ l := ne_of d4 l4 (by intro z; cases z)
            refine ⟨_, _, cs ++ [X], xs ++ [.ref r], rfl, fun b' o e => ?_, by rw [upd_ne ndl7]; exact s47 _ _ d4, upd_same, ?_, P4.snoc fx dx, by rw [List.length_append]; show _ + 1 ≤ _; omega, fun r' c' hr' hc' => ?_⟩
            · rw [upd_ne (ne_of_none e hl)]
              exact s47 _ _ (s4 _ _ e)
            · rw [List.map_append]
              exact Paired.snoc' ((a4.mono s47).monoT (cells_nol cs) t8) aX
            · rw [cov_snoc, v4 r' c' hr' hc', inX r' c']
              constructor
              · rintro ((z | z | z) | z)
                · exact .inl z
                · exact .inr (.inl z)
                · exact .inr (.inr ⟨z.1, by omega⟩)
                · exact .inr (.inr ⟨z.1, by omega⟩)
              · rintro (z | z | z)
                · exact .inl (.inl z)
                · exact .inl (.inr (.inl z))
                · by_cases he : c' = j
                  · exact .inr ⟨z.1, he⟩
                  · exact .inl (.inr (.inr ⟨z.1, by omega⟩))
        · intro σ H4 hI
          refine ex_4 hI fun c8 c9 cs xs hJ => ?_
          have eI := hJ.1
          have s4 := hJ.2.1
          have d4 := hJ.2.2.1
          have l4 := hJ.2.2.2.1
          have a4 := hJ.2.2.2.2.1
          have P4 := hJ.2.2.2.2.2.1
          have f4 := hJ.2.2.2.2.2.2.1
          have v4 := hJ.2.2.2.2.2.2.2
          clear hI hJ
          subst eI
          refine ⟨_, _, _, cs, xs, rfl, s4, d4, l4, a4, P4, by omega, fun r c hr' hc' => ?_⟩
          rw [v4 r c hr' hc']
          exact ⟨fun z => z.imp id fun z => by omega, fun z => z.imp id fun z => by omega⟩
      · intro σ H3 hI
        refine ex_5 hI fun c7 c8 c9 cs xs hJ => ?_
        have eI := hJ.1
        have s3 := hJ.2.1
        have d3 := hJ.2.2.1
        have l3 := hJ.2.2.2.1
        have a3 := hJ.2.2.2.2.1
        have P3 := hJ.2.2.2.2.2.1
        have f3 := hJ.2.2.2.2.2.2.1
        have v3 := hJ.2.2.2.2.2.2.2
        clear hI hJ
        subst eI
        -- sorted
        refine ⟨_, rfl, _, rfl, _, rfl, ?_⟩
        dsimp only [tNil]
        refine sorted_cells (K := K) l3 P3 (by omega) a3 fun r cs' xs' hrn pc ord at' => ?_
        refine ⟨by show 3 ≤ sizeLine; decide, fun q hq => ?_⟩
        have s4 := Same.upd_new (o := .lst xs') hrn
        have s5 := Same.upd_new (o := .tup [.int R, .int C, .ref r]) hq
        exact k _ cs' _ ((s3.trans s4).trans s5) (P3.tiles (fun r c hr' hc' => (v3 r c hr' hc').mpr (.inr hr')) pc ord) (tab_mk upd_same (s5 _ _ upd_same) (at'.mono s5))
end
end KL

set_option Elab.async false
set_option linter.all false
set_option autoImplicit false
set_option maxRecDepth 100000
namespace KL
open PySem L2 GT PyProof.Rows
section
variable {P : Program} {w : World} {K : PySem.W.Frag} {mg : Str → Option Value} {base : Heap}
theorem fin_size {Q : VK} {H : Hp} (q : ∀ n : Nat, 1 ≤ n → n ≤ 16 → Q (.int n) H) (x : Int) {m : Int} (h0 : 0 < m) (h1 : m ≤ 16) : Q (.int (1 + x % m)) H := by
  have a := Int.emod_nonneg x (by omega : m ≠ 0)
  have b := Int.emod_lt_of_pos x h0
  obtain ⟨n, en⟩ := Int.eq_ofNat_of_zero_le (by omega : 0 ≤ 1 + x % m)
  rw [en]
  exact q n (by omega) (by omega)
theorem sc__law_size : FnScope ["_law_script", "_law_k", "_law_most"] ["_law_script", "_law_k"] (defScope (top 31)) := ⟨rfl, rfl, rfl, by decide +kernel, rfl, by decide +kernel, by decide +kernel⟩
set_option maxHeartbeats 4000000 in
theorem ok__law_size (T : Txt mg) (c__law_cell : Cal P w K mg base 1 "_law_cell" ["_law_script", "_law_k"] (spCell K)) (c__law_large : Cal P w K mg base 2 "_law_large" ["_law_script"] (spLarge K)) (f : Addr) (fd : FuncData) (F : Fun K "_law_size" "_law_size" (top 31) f fd) : FnOk P w K mg base CX0 3 f fd ["_law_script", "_law_k"] (spSize K) := by
  refine F.ok sc__law_size (fun vs H Q E h => ?_) (fun cdv A outer s H vs Q E hr h => ?_)
  · obtain ⟨a, ns, k, rfl, _⟩ := h; rfl
  · obtain ⟨a, ns, k, rfl, hs, q⟩ := h
    have hr__law_cell : Room 1 (A.deeper (envOfC "_law_size" (defScope (top 31)) s.heap.objs.size f cdv)) := hr.mono (by decide)
    have hr__law_large : Room 2 (A.deeper (envOfC "_law_size" (defScope (top 31)) s.heap.objs.size f cdv)) := hr.mono (by decide)
    refine ⟨_, (pss_cons (ps_set (i := 2) sc__law_size.nd rfl (by first | exact Or.inl rfl | exact Or.inr rfl) pe_int)
      (pss_cons (ps_if (pt_val (pe_cal c__law_large hr__law_large rfl (pa_cons (pv 0) pa_nil))) (pss_one (ps_set (i := 2) sc__law_size.nd rfl (by first | exact Or.inl rfl | exact Or.inr rfl) pe_int)) pss_nil)
      (pss_cons (ps_if (pt_cmpR op_gt (pe_callB (call_lenK (K := K) rfl) (by rfl) T.len PySem.boot_len (pa_cons (pv 0) pa_nil)) pe_int (nomark _)) (pss_one (ps_set (i := 2) sc__law_size.nd rfl (by first | exact Or.inl rfl | exact Or.inr rfl) pe_int)) pss_nil)
      (pss_one (ps_ret (pe_op op_add pe_int (pe_op op_mod (pe_cal c__law_cell hr__law_cell rfl (pa_cons (pv 0) (pa_cons (pv 1) pa_nil))) (pv 2)))))))), ?_⟩
    refine ⟨_, rfl, a, ns, rfl, hs, fun b => ⟨b, rfl, ?_⟩⟩
    refine ite2 (fun _ => ?_) (fun _ => ?_)
    all_goals
      refine ⟨_, rfl, a, _, rfl, .inl hs, _, _, rfl, rfl, _, rfl, ?_⟩
      refine ite2 (fun _ => ?_) (fun _ => ?_)
    · exact ⟨_, rfl, _, rfl, a, ns, k, rfl, hs, _, rfl, _, _, rfl, rfl, by show (0 : Int) < 16; decide, _, _, rfl, rfl, fin_size q _ (by decide) (by decide)⟩
    · exact ⟨_, rfl, _, rfl, a, ns, k, rfl, hs, _, rfl, _, _, rfl, rfl, by show (0 : Int) < 9; decide, _, _, rfl, rfl, fin_size q _ (by decide) (by decide)⟩
    · exact ⟨_, rfl, _, rfl, a, ns, k, rfl, hs, _, rfl, _, _, rfl, rfl, by show (0 : Int) < 16; decide, _, _, rfl, rfl, fin_size q _ (by decide) (by decide)⟩
    · exact ⟨_, rfl, _, rfl, a, ns, k, rfl, hs, _, rfl, _, _, rfl, rfl, by show (0 : Int) < 5; decide, _, _, rfl, rfl, fin_size q _ (by decide) (by decide)⟩

theorem sc__law_made : FnScope ["_law_script", "_law_way", "_law_tall"] ["_law_script"] (defScope (top 32)) := ⟨rfl, rfl, rfl, by decide +kernel, rfl, by decide +kernel, by decide +kernel⟩
set_option maxHeartbeats 4000000 in
theorem ok__law_made (T : Txt mg) (c__law_cell : Cal P w K mg base 1 "_law_cell" ["_law_script", "_law_k"] (spCell K)) (c__law_table : Cal P w K mg base 4 "_law_table" ["_law_script", "_law_rows", "_law_columns"] (spTable K)) (c__law_size : Cal P w K mg base 3 "_law_size" ["_law_script", "_law_k"] (spSize K)) (f : Addr) (fd : FuncData) (F : Fun K "_law_made" "_law_made" (top 32) f fd) : FnOk P w K mg base CX0 5 f fd ["_law_script"] (spMade K) := by
  refine F.ok sc__law_made (fun vs H Q E h => ?_) (fun cdv A outer s H vs Q E hr h => ?_)
  · obtain ⟨a, ns, rfl, _⟩ := h; rfl
  · obtain ⟨a, ns, rfl, hs, hlen, q⟩ := h
    have hr__law_cell : Room 1 (A.deeper (envOfC "_law_made" (defScope (top 32)) s.heap.objs.size f cdv)) := hr.mono (by decide)
    have hr__law_table : Room 4 (A.deeper (envOfC "_law_made" (defScope (top 32)) s.heap.objs.size f cdv)) := hr.mono (by decide)
    have hr__law_size : Room 3 (A.deeper (envOfC "_law_made" (defScope (top 32)) s.heap.objs.size f cdv)) := hr.mono (by decide)
    obtain ⟨R, eR, R1, R2⟩ : ∃ R : Nat, 1 + ns.getD 0 0 / 40 % 16 = (R : Int) ∧ 1 ≤ R ∧ R ≤ 16 := ⟨(1 + ns.getD 0 0 / 40 % 16).toNat, by omega, by omega, by omega⟩
    obtain ⟨C, eC, C1, C2⟩ : ∃ C : Nat, 1 + ns.getD 1 0 % 3 = (C : Int) ∧ 1 ≤ C ∧ C ≤ 3 := ⟨(1 + ns.getD 1 0 % 3).toNat, by omega, by omega, by omega⟩
    refine ⟨_, (pss_cons (ps_set (i := 1) sc__law_made.nd rfl (by first | exact Or.inl rfl | exact Or.inr rfl) (pe_op op_mod (pe_op op_fdiv (pe_cal c__law_cell hr__law_cell rfl (pa_cons (pv 0) (pa_cons pe_int pa_nil))) pe_int) pe_int))
      (pss_cons (ps_set (i := 2) sc__law_made.nd rfl (by first | exact Or.inl rfl | exact Or.inr rfl) (pe_op op_add pe_int (pe_op op_mod (pe_op op_fdiv (pe_cal c__law_cell hr__law_cell rfl (pa_cons (pv 0) (pa_cons pe_int pa_nil))) pe_int) pe_int)))
      (pss_cons (ps_if (pt_cmpR op_eq (pv 1) pe_int (nomark _)) (pss_one (ps_ret (pe_cal c__law_table hr__law_table rfl (pa_cons (pv 0) (pa_cons (pv 2) (pa_cons (pe_op op_add pe_int (pe_op op_mod (pe_cal c__law_cell hr__law_cell rfl (pa_cons (pv 0) (pa_cons pe_int pa_nil))) pe_int)) pa_nil)))))) pss_nil)
      (pss_cons (ps_if (pt_cmpR op_eq (pv 1) pe_int (nomark _)) (pss_one (ps_ret (pe_cal c__law_table hr__law_table rfl (pa_cons (pv 0) (pa_cons (pe_op op_add pe_int (pe_op op_mod (pe_cal c__law_cell hr__law_cell rfl (pa_cons (pv 0) (pa_cons pe_int pa_nil))) pe_int)) (pa_cons (pv 2) pa_nil)))))) pss_nil)
      (pss_one (ps_ret (pe_cal c__law_table hr__law_table rfl (pa_cons (pv 0) (pa_cons (pe_cal c__law_size hr__law_size rfl (pa_cons (pv 0) (pa_cons pe_int pa_nil))) (pa_cons (pe_cal c__law_size hr__law_size rfl (pa_cons (pv 0) (pa_cons pe_int pa_nil))) pa_nil)))))))))), ?_⟩
    refine ⟨_, rfl, a, ns, 0, rfl, hs, _, _, rfl, rfl, ⟨by decide, by decide⟩, _, _, rfl, rfl, by show (0 : Int) < 8; decide, ?_⟩
    refine ⟨_, rfl, a, ns, 0, rfl, hs, _, _, rfl, rfl, ⟨by decide, by decide⟩, _, _, rfl, rfl, by show (0 : Int) < 16; decide, _, _, rfl, rfl, ?_⟩
    refine ⟨_, rfl, rfl, _, rfl, ?_⟩
    refine ite2 (fun _ => ?_) (fun _ => ?_)
    · refine ⟨_, rfl, _, rfl, _, rfl, a, ns, 1, rfl, hs, _, _, rfl, rfl, by show (0 : Int) < 3; decide, _, _, rfl, rfl, a, ns, R, C, ?_, hs, by omega, R1, by omega, C1, by omega, fun v cs H' s' t a' => q v R C cs H' s' R1 R2 C1 (by omega) t a'⟩
      show [V.ref a, V.int (1 + ns.getD 0 0 / 40 % 16), V.int (1 + ns.getD 1 0 % 3)] = _
      rw [eR, eC]
    refine ⟨_, rfl, rfl, _, rfl, ?_⟩
    refine ite2 (fun _ => ?_) (fun _ => ?_)
    · refine ⟨_, rfl, _, rfl, a, ns, 1, rfl, hs, _, _, rfl, rfl, by show (0 : Int) < 3; decide, _, _, rfl, rfl, _, rfl, a, ns, C, R, ?_, hs, by omega, C1, by omega, R1, by omega, fun v cs H' s' t a' => q v C R cs H' s' C1 (by omega) R1 R2 t a'⟩
      show [V.ref a, V.int (1 + ns.getD 1 0 % 3), V.int (1 + ns.getD 0 0 / 40 % 16)] = _
      rw [eR, eC]
    exact ⟨_, rfl, _, rfl, a, ns, 0, rfl, hs, fun R R1 R2 => ⟨_, rfl, a, ns, 1, rfl, hs, fun C C1 C2 => ⟨a, ns, R, C, rfl, hs, by omega, R1, by omega, C1, by omega, fun v cs H' s' t a' => q v R C cs H' s' R1 R2 C1 C2 t a'⟩⟩⟩

theorem sc__law_copy : FnScope ["_law_table_here"] ["_law_table_here"] (defScope (top 33)) := ⟨rfl, rfl, rfl, by decide +kernel, rfl, by decide +kernel, by decide +kernel⟩
set_option maxHeartbeats 4000000 in
theorem ok__law_copy (T : Txt mg) (f : Addr) (fd : FuncData) (F : Fun K "_law_copy" "_law_copy" (top 33) f fd) : FnOk P w K mg base CX0 1 f fd ["_law_table_here"] spCopy := by
  refine F.ok sc__law_copy (fun vs H Q E h => ?_) (fun cdv A outer s H vs Q E hr h => ?_)
  · obtain ⟨v, R, C, cs, rfl, _⟩ := h; rfl
  · obtain ⟨v, R, C, cs, rfl, ht, k⟩ := h
    obtain ⟨a, l, ys, rfl, ha, hl, ry⟩ := tab_inv ht
    refine ⟨_, (pss_one (ps_ret (pe_tup (pa_cons (pe_ix (ix_tupK (K := K) rfl) (pv 0) pe_int (fun _ _ => rfl)) (pa_cons (pe_ix (ix_tupK (K := K) rfl) (pv 0) pe_int (fun _ _ => rfl)) (pa_cons (pe_callTy (call_listK (K := K) rfl) (by rfl) T.list PyProof.Rows.boot_list (pa_cons (pe_ix (ix_tupK (K := K) rfl) (pv 0) pe_int (fun _ _ => rfl)) pa_nil)) pa_nil)))))), ?_⟩
    refine ⟨_, rfl, a, _, (0 : Int), _, rfl, rfl, SqT.of ha, rfl, _, rfl, a, _, (1 : Int), _, rfl, rfl, SqT.of ha, rfl, _, rfl, a, _, (2 : Int), _, rfl, rfl, SqT.of ha, rfl, l, ys, rfl, .inl (SqL.of hl), fun n hn => ⟨by show 3 ≤ sizeLine; decide, fun p hp => ?_⟩⟩
    have s1 := Same.upd_new (o := .lst ys) hn
    have s2 := Same.upd_new (o := .tup [.int R, .int C, .ref n]) hp
    exact k _ _ (s1.trans s2) (tab_mk upd_same (s2 _ _ upd_same) ((ry.mono s1).mono s2)) (FreshT.of upd_same hn)
end
noncomputable def spWhole : Sp := fun vs H Q _ => ∃ i : Int, vs = [.int i] ∧ Q (.bl true) H
theorem kit_int_bool {K : PySem.W.Frag} : PySem.W.kitOne K (.type "int") (.type "bool") = some false := by rfl
section
variable {P : Program} {w : World} {K : PySem.W.Frag} {mg : Str → Option Value} {base : Heap}
theorem sc__law_whole : FnScope ["_law_found"] ["_law_found"] (defScope (top 25)) := ⟨rfl, rfl, rfl, by decide +kernel, rfl, by decide +kernel, by decide +kernel⟩
set_option maxHeartbeats 4000000 in
theorem ok__law_whole (T : Txt mg) (f : Addr) (fd : FuncData) (F : Fun K "_law_whole" "_law_whole" (top 25) f fd) : FnOk P w K mg base CX0 1 f fd ["_law_found"] spWhole := by
  refine F.ok sc__law_whole (fun vs H Q E h => ?_) (fun cdv A outer s H vs Q E hr h => ?_)
  · obtain ⟨i, rfl, _⟩ := h; rfl
  · obtain ⟨i, rfl, q⟩ := h
    refine ⟨_, (pss_one (ps_ret (pe_and (pe_callB (call_isinst (K := K) rfl) (by rfl) T.isinstance PyProof.Rows.boot_isinstance (pa_cons (pv 0) (pa_cons (pe_bltn (v := .ty "int") rfl T.int PyProof.Rows.boot_int rfl) pa_nil))) (pe_one (pe_not (pe_callB (call_isinst (K := K) rfl) (by rfl) T.isinstance PyProof.Rows.boot_isinstance (pa_cons (pv 0) (pa_cons (pe_bltn (v := .ty "bool") rfl T.bool PyProof.Rows.boot_bool rfl) pa_nil)))))))), ?_⟩
    refine ⟨_, rfl, _, "int", _, true, rfl, .int i, rfl, true, rfl, iteT ?_⟩
    refine ⟨_, rfl, _, "bool", _, false, rfl, .int i, kit_int_bool, false, rfl, ?_⟩
    exact q
end
noncomputable def spKinds : Sp := fun vs H Q _ => ∃ (v : V) (R C : Int) (cs : List Cell), vs = [v] ∧ At H (.tup [.int R, .int C, .lst (cs.map Cell.D)]) v ∧ ∀ H', Same H H' → Q (.bl true) H'
section
variable {P : Program} {w : World} {K : PySem.W.Frag} {mg : Str → Option Value} {base : Heap}
theorem sc__law_kinds : FnScope ["_law_table_here", "_law_cell_here", "_law_number"] ["_law_table_here"] (defScope (top 34)) := ⟨rfl, rfl, rfl, by decide +kernel, rfl, by decide +kernel, by decide +kernel⟩
set_option maxHeartbeats 4000000 in
theorem ok__law_kinds (T : Txt mg) (c__law_whole : Cal P w K mg base 1 "_law_whole" ["_law_found"] spWhole) (f : Addr) (fd : FuncData) (F : Fun K "_law_kinds" "_law_kinds" (top 34) f fd) : FnOk P w K mg base CX0 2 f fd ["_law_table_here"] spKinds := by
  refine F.ok sc__law_kinds (fun vs H Q E h => ?_) (fun cdv A outer s H vs Q E hr h => ?_)
  · obtain ⟨v, r, c, cs, rfl, _⟩ := h; rfl
  · obtain ⟨v, r, c, cs, rfl, ht, q⟩ := h
    have hr__law_whole : Room 1 (A.deeper (envOfC "_law_kinds" (defScope (top 34)) s.heap.objs.size f cdv)) := hr.mono (by decide)
    refine ⟨_, (pss_cons (ps_if (PW.pt (pw_or (pt_not (pt_val (pe_callB (call_isinst (K := K) rfl) (by rfl) T.isinstance PyProof.Rows.boot_isinstance (pa_cons (pv 0) (pa_cons (pe_bltn (v := .ty "tuple") rfl T.tuple PyProof.Rows.boot_tuple rfl) pa_nil))))) (pw_or (pt_cmpR op_ne (pe_callB (call_lenK (K := K) rfl) (by rfl) T.len PySem.boot_len (pa_cons (pv 0) pa_nil)) pe_int (nomark _)) (pw_or1 (pt_not (pt_val (pe_callB (call_isinst (K := K) rfl) (by rfl) T.isinstance PyProof.Rows.boot_isinstance (pa_cons (pe_ix (ix_tupK (K := K) rfl) (pv 0) pe_int (fun _ _ => rfl)) (pa_cons (pe_bltn (v := .ty "list") rfl T.list PyProof.Rows.boot_list rfl) pa_nil))))))))) (pss_one (ps_ret pe_bl)) pss_nil)
      (pss_cons (ps_if (PW.pt (pw_or (pt_not (pt_val (pe_cal c__law_whole hr__law_whole rfl (pa_cons (pe_ix (ix_tupK (K := K) rfl) (pv 0) pe_int (fun _ _ => rfl)) pa_nil)))) (pw_or1 (pt_not (pt_val (pe_cal c__law_whole hr__law_whole rfl (pa_cons (pe_ix (ix_tupK (K := K) rfl) (pv 0) pe_int (fun _ _ => rfl)) pa_nil))))))) (pss_one (ps_ret pe_bl)) pss_nil)
      (pss_cons (ps_for PassesOwn.never rfl (pi_listK (K := K) rfl (pe_ix (ix_tupK (K := K) rfl) (pv 0) pe_int (fun _ _ => rfl))) (pg_name (i := 1) sc__law_kinds.nd rfl (by first | exact Or.inl rfl | exact Or.inr rfl)) (pss_cons (ps_if (PW.pt (pw_or (pt_not (pt_val (pe_callB (call_isinst (K := K) rfl) (by rfl) T.isinstance PyProof.Rows.boot_isinstance (pa_cons (pv 1) (pa_cons (pe_bltn (v := .ty "tuple") rfl T.tuple PyProof.Rows.boot_tuple rfl) pa_nil))))) (pw_or (pt_cmpR op_ne (pe_callB (call_lenK (K := K) rfl) (by rfl) T.len PySem.boot_len (pa_cons (pv 1) pa_nil)) pe_int (nomark _)) (pw_or1 (pt_not (pt_val (pe_callB (call_isinst (K := K) rfl) (by rfl) T.isinstance PyProof.Rows.boot_isinstance (pa_cons (pe_ix (ix_tupK (K := K) rfl) (pv 1) pe_int (fun _ _ => rfl)) (pa_cons (pe_bltn (v := .ty "tuple") rfl T.tuple PyProof.Rows.boot_tuple rfl) pa_nil))))))))) (pss_one (ps_ret pe_bl)) pss_nil)
      (pss_one (ps_for PassesOwn.never rfl (pi_tupK (K := K) rfl (pe_slice (sl_tupK (K := K) rfl) (pv 1) po_none (po_some pe_int))) (pg_name (i := 2) sc__law_kinds.nd rfl (by first | exact Or.inl rfl | exact Or.inr rfl)) (pss_one (ps_if (pt_not (pt_val (pe_cal c__law_whole hr__law_whole rfl (pa_cons (pv 2) pa_nil)))) (pss_one (ps_ret pe_bl)) pss_nil))))))
      (pss_one (ps_ret pe_bl))))), ?_⟩
    obtain ⟨a, xs, rfl, ha, rl⟩ := ht.tup_inv
    obtain ⟨l, ys, rfl, hl, ry⟩ : ∃ l ys, xs = [.int r, .int c, .ref l] ∧ H l = some (.lst ys) ∧ AtL H (cs.map Cell.D) ys := by
      cases rl with
      | cons h1 rl =>
        cases rl with
        | cons h2 rl =>
          cases rl with
          | cons h3 rl =>
            cases rl
            obtain ⟨l, ys, rfl, hl, ry⟩ := h3.lst_inv
            rw [h1.int_inv, h2.int_inv]
            exact ⟨l, ys, rfl, hl, ry⟩
    refine ⟨_, rfl, _, "tuple", _, true, rfl, .tup ha, rfl, true, rfl, iteF ?_⟩
    refine ⟨_, rfl, a, _, rfl, .inr (SqT.of ha), rfl, _, rfl, iteNS rfl ?_⟩
    refine ⟨_, rfl, a, _, (2 : Int), _, rfl, rfl, SqT.of ha, rfl, _, "list", _, true, rfl, .lst hl, rfl, true, rfl, iteF ?_⟩
    refine ⟨_, rfl, a, _, (0 : Int), _, rfl, rfl, SqT.of ha, rfl, r, rfl, true, rfl, iteF ?_⟩
    refine ⟨_, rfl, a, _, (1 : Int), _, rfl, rfl, SqT.of ha, rfl, c, rfl, true, rfl, iteF ?_⟩
    refine ⟨_, rfl, a, _, (2 : Int), _, rfl, rfl, SqT.of ha, rfl, l, rfl, ⟨_, SqL.of hl⟩, ?_⟩
    refine for_list (K := K) (a := l) (xs := ys) (fun i σ H2 => ∃ c1 c2, σ = [some (.ref a), c1, c2] ∧ Same H H2) ⟨_, _, rfl, fun _ _ z => z⟩ (fun i σ H2 _ ⟨_, _, _, s2⟩ => SqL.of (s2 _ _ hl)) ?_ ?_
    · intro i x σ H2 hi hI
      refine ex_2 hI fun c1 c2 hJ => ?_
      have eI := hJ.1
      have s2 := hJ.2
      clear hI hJ
      subst eI
      obtain ⟨d, hd, ad⟩ := Paired.get2 ry hi
      rw [List.getElem?_map] at hd
      obtain ⟨X, hX, rfl⟩ := Option.map_eq_some_iff.mp hd
      obtain ⟨b, wb, ws, rfl, hb, hw, _⟩ := Cell.at_inv (ad.mono s2)
      refine ⟨_, rfl, _, "tuple", _, true, rfl, .tup hb, rfl, true, rfl, iteF ?_⟩
      refine ⟨_, rfl, b, _, rfl, .inr (SqT.of hb), rfl, _, rfl, iteNS rfl ?_⟩
      refine ⟨_, rfl, b, _, (4 : Int), _, rfl, rfl, SqT.of hb, rfl, _, "tuple", _, true, rfl, .tup hw, rfl, true, rfl, iteF ?_⟩
      refine ⟨_, rfl, _, rfl, b, _, rfl, SqT.of hb, (fun z => absurd z.2 (by show ¬ HT.sIx 5 5 (some 4) = 5; decide)), fun p hp => ⟨p, rfl, ⟨_, SqT.of upd_same⟩, ?_⟩⟩
      have s3 : Same H2 (upd H2 p (.tup (cutV [.int X.top, .int X.left, .int X.h, .int X.w, .ref wb] none (some 4)))) := Same.upd_new hp
      refine for_tup (K := K) (a := p) (xs := [.int X.top, .int X.left, .int X.h, .int X.w]) (fun i σ H3 => ∃ c2, σ = [some (.ref a), some (.ref b), c2] ∧ Same H H3 ∧ H3 p = some (.tup [.int X.top, .int X.left, .int X.h, .int X.w])) ⟨_, rfl, s2.trans s3, upd_same⟩
        (fun i σ H3 _ ⟨_, _, _, h3⟩ => SqT.of h3) ?_ ?_
      · rintro i x σ H3 hi ⟨c2, rfl, s4, h3⟩
        obtain ⟨z, rfl⟩ : ∃ z, x = V.int z := by
          match i, hi with
          | 0, hi => exact ⟨_, (Option.some.inj hi).symm⟩
          | 1, hi => exact ⟨_, (Option.some.inj hi).symm⟩
          | 2, hi => exact ⟨_, (Option.some.inj hi).symm⟩
          | 3, hi => exact ⟨_, (Option.some.inj hi).symm⟩
          | i + 4, hi => simp at hi
        refine ⟨_, rfl, z, rfl, true, rfl, iteF ?_⟩
        exact ⟨_, rfl, s4, h3⟩
      · rintro σ H3 ⟨c2, rfl, s4, h3⟩
        exact ⟨_, _, rfl, s4⟩
    · intro σ H2 hI
      refine ex_2 hI fun c1 c2 hJ => ?_
      have eI := hJ.1
      have s2 := hJ.2
      clear hI hJ
      subst eI
      exact q H2 s2
end
/-! ### which cell covers a place -/
noncomputable def spCovers : Sp := fun vs H Q _ => ∃ (v : V) (x : Cell) (r c : Nat), vs = [v, .int r, .int c] ∧ At H x.D v ∧ ∀ b, (b = true ↔ inC x r c) → Q (.bl b) H
noncomputable def spCellAt : Sp := fun vs H Q _ => ∃ (v : V) (R C : Nat) (cs : List Cell) (r c : Nat), vs = [v, .int r, .int c] ∧ At H (tabD R C cs) v ∧
  (∀ (i : Nat) (x : Cell) (H' : Hp), Same H H' → cs[i]? = some x → inC x r c → (∀ j y, j < i → cs[j]? = some y → ¬ inC y r c) → Q (.int i) H') ∧ (∀ H', Same H H' → ¬ GT.cov cs r c → Q .non H')
section
variable {P : Program} {w : World} {K : PySem.W.Frag} {mg : Str → Option Value} {base : Heap}
theorem sc_covers : FnScope ["cell", "row", "column"] ["cell", "row", "column"] (defScope (top 5)) := ⟨rfl, rfl, rfl, by decide +kernel, rfl, by decide +kernel, by decide +kernel⟩
set_option maxHeartbeats 4000000 in
theorem ok_covers (f : Addr) (fd : FuncData) (F : Fun K "covers" "covers" (top 5) f fd) : FnOk P w K mg base CX0 1 f fd ["cell", "row", "column"] spCovers := by
  refine F.ok sc_covers (fun vs H Q E h => ?_) (fun cdv A outer s H vs Q E hr h => ?_)
  · obtain ⟨v, x, r, c, rfl, _⟩ := h; rfl
  · obtain ⟨v, x, r, c, rfl, hx, q⟩ := h
    obtain ⟨a, b, ws, rfl, ha, hb, _⟩ := Cell.at_inv hx
    refine ⟨_, (pss_one (ps_ret (pe_and (pe_chain op_le op_lt (pe_ix (ix_tupK (K := K) rfl) (pv 0) pe_int (fun _ _ => rfl)) (pv 1) (pe_op op_add (pe_ix (ix_tupK (K := K) rfl) (pv 0) pe_int (fun _ _ => rfl)) (pe_ix (ix_tupK (K := K) rfl) (pv 0) pe_int (fun _ _ => rfl)))) (pe_one (pe_chain op_le op_lt (pe_ix (ix_tupK (K := K) rfl) (pv 0) pe_int (fun _ _ => rfl)) (pv 2) (pe_op op_add (pe_ix (ix_tupK (K := K) rfl) (pv 0) pe_int (fun _ _ => rfl)) (pe_ix (ix_tupK (K := K) rfl) (pv 0) pe_int (fun _ _ => rfl)))))))), ?_⟩
    refine ⟨_, rfl, a, _, (0 : Int), _, rfl, rfl, SqT.of ha, rfl, _, rfl, _, _, rfl, rfl, _, rfl, ?_⟩
    refine ite2 (fun h1 => ?_) (fun h1 => ⟨false, rfl, iteF (q false ⟨fun z => (by cases z), fun z => absurd (decide_eq_true (by have := z.1; omega)) h1⟩)⟩)
    have h1 := of_decide_eq_true h1
    refine ⟨_, rfl, a, _, (0 : Int), _, rfl, rfl, SqT.of ha, rfl, _, rfl, a, _, (2 : Int), _, rfl, rfl, SqT.of ha, rfl, _, _, rfl, rfl, _, _, rfl, rfl, _, rfl, ?_⟩
    refine ite2 (fun h2 => ?_) (fun h2 => q false ⟨fun z => (by cases z), fun z => absurd (decide_eq_true (by have := z.2.1; omega)) h2⟩)
    have h2 := of_decide_eq_true h2
    refine ⟨_, rfl, a, _, (1 : Int), _, rfl, rfl, SqT.of ha, rfl, _, rfl, _, _, rfl, rfl, _, rfl, ?_⟩
    refine ite2 (fun h3 => ?_) (fun h3 => q false ⟨fun z => (by cases z), fun z => absurd (decide_eq_true (by have := z.2.2.1; omega)) h3⟩)
    have h3 := of_decide_eq_true h3
    refine ⟨_, rfl, a, _, (1 : Int), _, rfl, rfl, SqT.of ha, rfl, _, rfl, a, _, (3 : Int), _, rfl, rfl, SqT.of ha, rfl, _, _, rfl, rfl, _, _, rfl, rfl, ?_⟩
    refine q _ ⟨fun z => ?_, fun z => decide_eq_true (by have := z.2.2.2; omega)⟩
    have z := of_decide_eq_true z
    exact ⟨by omega, by omega, by omega, by omega⟩

theorem sc_cell_at : FnScope ["table", "row", "column", "at", "cell"] ["table", "row", "column"] (defScope (top 4)) := ⟨rfl, rfl, rfl, by decide +kernel, rfl, by decide +kernel, by decide +kernel⟩
set_option maxHeartbeats 4000000 in
theorem ok_cell_at (T : Txt mg) (c_covers : Cal P w K mg base 1 "covers" ["cell", "row", "column"] spCovers) (f : Addr) (fd : FuncData) (F : Fun K "cell_at" "cell_at" (top 4) f fd) : FnOk P w K mg base CX0 2 f fd ["table", "row", "column"] spCellAt := by
  refine F.ok sc_cell_at (fun vs H Q E h => ?_) (fun cdv A outer s H vs Q E hr h => ?_)
  · obtain ⟨v, R, C, cs, r, c, rfl, _⟩ := h; rfl
  · obtain ⟨v, R, C, cs, r, c, rfl, ht, qS, qN⟩ := h
    obtain ⟨a, l, ys, rfl, ha, hl, ry⟩ := tab_inv ht
    have hr_covers : Room 1 (A.deeper (envOfC "cell_at" (defScope (top 4)) s.heap.objs.size f cdv)) := hr.mono (by decide)
    refine ⟨_, (pss_cons (ps_for PassesOwn.never rfl (pi_enum (K := K) rfl rfl T.enumerate (pa_cons (pe_ix (ix_tupK (K := K) rfl) (pv 0) pe_int (fun _ _ => rfl)) pa_nil)) (pg_tupK (K := K) (n := 2) rfl rfl (pgs_cons (pg_name (i := 3) sc_cell_at.nd rfl (by first | exact Or.inl rfl | exact Or.inr rfl)) (pgs_cons (pg_name (i := 4) sc_cell_at.nd rfl (by first | exact Or.inl rfl | exact Or.inr rfl)) pgs_nil))) (pss_one (ps_if (pt_val (pe_cal c_covers hr_covers rfl (pa_cons (pv 4) (pa_cons (pv 1) (pa_cons (pv 2) pa_nil))))) (pss_one (ps_ret (pv 3))) pss_nil)))
      (pss_one (ps_ret pe_non))), ?_⟩
    refine ⟨_, rfl, a, _, (2 : Int), _, rfl, rfl, SqT.of ha, rfl, l, rfl, ⟨_, SqL.of hl⟩, ?_⟩
    refine for_enum (K := K) (a := l) (xs := ys) (fun i σ H2 => ∃ (x y : Option V), σ = [some (.ref a), some (.int r), some (.int c), x, y] ∧ Same H H2 ∧ ∀ j y, j < i → cs[j]? = some y → ¬ inC y r c)
      ⟨none, none, rfl, fun _ _ z => z, fun j y hj => by omega⟩ (fun i σ H2 _ ⟨_, _, _, s2, _⟩ => SqL.of (s2 _ _ hl)) ?_ ?_
    · rintro i x σ H2 t hi ⟨c1, c2, rfl, s2, n2⟩ ht2
      have s3 := Same.upd_new (o := .tup [.int (i : Int), x]) ht2
      obtain ⟨d, hd, ad⟩ := Paired.get2 ry hi
      rw [List.getElem?_map] at hd
      obtain ⟨X, hX, rfl⟩ := Option.map_eq_some_iff.mp hd
      refine ⟨t, _, rfl, SqT.of upd_same, rfl, _, _, rfl, _, _, rfl, rfl, ?_⟩
      refine ⟨_, rfl, _, rfl, _, rfl, x, X, r, c, rfl, (ad.mono s2).mono s3, fun b hb => ⟨b, rfl, ?_⟩⟩
      refine ite2 (fun hb1 => ?_) (fun hb1 => ?_)
      · exact ⟨_, rfl, qS i X _ (s2.trans s3) hX (hb.mp hb1) n2⟩
      · refine ⟨_, _, rfl, s2.trans s3, fun j y hj hy => ?_⟩
        by_cases e : j = i
        · subst e
          rw [hX] at hy
          cases hy
          exact fun z => hb1 (hb.mpr z)
        · exact n2 j y (by omega) hy
    · intro σ H2 hI
      refine ex_2 hI fun c1 c2 hJ => ?_
      have eI := hJ.1
      have s2 := hJ.2.1
      have n2 := hJ.2.2
      clear hI hJ
      subst eI
      refine qN _ s2 fun ⟨x, hx, z⟩ => ?_
      obtain ⟨j, hj, e⟩ := List.mem_iff_getElem.mp hx
      have lx := ry.length
      rw [List.length_map] at lx
      exact n2 j x (by omega) (by rw [List.getElem?_eq_getElem hj, e]) z
end
end KL

set_option Elab.async false
set_option linter.all false
set_option autoImplicit false
set_option maxRecDepth 100000
namespace KL
open PySem L2 GT PyProof.Rows
/-! ### cells moved, blocks cut out -/
noncomputable def blockD (t l h w : Nat) : Dd := .tup [.int (t : Int), .int (l : Int), .int (h : Int), .int (w : Int)]
theorem block_inv {H : Hp} {t l h w : Nat} {v : V} (q : At H (blockD t l h w) v) : ∃ a, v = .ref a ∧ H a = some (.tup [.int (t : Int), .int (l : Int), .int (h : Int), .int (w : Int)]) := by
  obtain ⟨a, xs, rfl, ha, r⟩ := q.tup_inv
  refine ⟨a, rfl, ?_⟩
  cases r with
  | cons h1 r =>
    cases r with
    | cons h2 r =>
      cases r with
      | cons h3 r =>
        cases r with
        | cons h4 r =>
          cases r
          rw [h1.int_inv, h2.int_inv, h3.int_inv, h4.int_inv] at ha
          exact ha
noncomputable def spMoved : Sp := fun vs H Q _ => ∃ (v : V) (x y : Cell) (d e : Int), vs = [v, .int d, .int e] ∧ At H x.D v ∧ (y.top : Int) = x.top + d ∧ (y.left : Int) = x.left + e ∧ y.h = x.h ∧ y.w = x.w ∧ y.words = x.words ∧ ∀ v' H', Same H H' → At H' y.D v' → Q v' H'
noncomputable def spBlockB (g : Nat → Nat → Nat → Nat → Cell → Bool) : Sp := fun vs H Q _ => ∃ (v u : V) (x : Cell) (t l h w : Nat), vs = [v, u] ∧ At H x.D v ∧ At H (blockD t l h w) u ∧ ∀ b, b = g t l h w x → Q (.bl b) H
noncomputable def spCellsIn : Sp := fun vs H Q _ => ∃ (v u : V) (R C : Nat) (cs : List Cell) (t l h w : Nat), vs = [v, u] ∧ At H (tabD R C cs) v ∧ At H (blockD t l h w) u ∧ cs.length ≤ 1000 ∧ (∀ x ∈ cs, meetsB t l h w x = true → liesB t l h w x = true) ∧
  ∀ (r : Addr) (xs : List V) (H' : Hp), Same H H' → H' r = some (.lst xs) → AtL H' ((cs.filter (liesB t l h w)).map Cell.D) xs → Q (.ref r) H'
noncomputable def spCutOut : Sp := fun vs H Q _ => ∃ (v : V) (R C : Nat) (cs : List Cell) (t l h w : Nat), vs = [v, .int t, .int l, .int h, .int w] ∧ At H (tabD R C cs) v ∧ cs.length ≤ 1000 ∧ (∀ x ∈ cs, meetsB t l h w x = true → liesB t l h w x = true) ∧
  ∀ (v' : V) (H' : Hp), Same H H' → At H' (tabD h w (cutL t l h w cs)) v' → FreshT H H' v' → Q v' H'
section
variable {P : Program} {w : World} {K : PySem.W.Frag} {mg : Str → Option Value} {base : Heap}
theorem sc_moved_cell : FnScope ["cell", "down", "right"] ["cell", "down", "right"] (defScope (top 6)) := ⟨rfl, rfl, rfl, by decide +kernel, rfl, by decide +kernel, by decide +kernel⟩
set_option maxHeartbeats 4000000 in
theorem ok_moved_cell (f : Addr) (fd : FuncData) (F : Fun K "moved_cell" "moved_cell" (top 6) f fd) : FnOk P w K mg base CX0 1 f fd ["cell", "down", "right"] spMoved := by
  refine F.ok sc_moved_cell (fun vs H Q E h => ?_) (fun cdv A outer s H vs Q E hr h => ?_)
  · obtain ⟨v, x, y, d, e, rfl, _⟩ := h; rfl
  · obtain ⟨v, x, y, d, e, rfl, hx, e1, e2, e3, e4, e5, q⟩ := h
    obtain ⟨a, b, ws, rfl, ha, hb, aw⟩ := Cell.at_inv hx
    refine ⟨_, (pss_one (ps_ret (pe_op (op_catTK (K := K) rfl) (pe_tup (pa_cons (pe_op op_add (pe_ix (ix_tupK (K := K) rfl) (pv 0) pe_int (fun _ _ => rfl)) (pv 1)) (pa_cons (pe_op op_add (pe_ix (ix_tupK (K := K) rfl) (pv 0) pe_int (fun _ _ => rfl)) (pv 2)) pa_nil))) (pe_slice (sl_tupK (K := K) rfl) (pv 0) (po_some pe_int) po_none)))), ?_⟩
    refine ⟨_, rfl, a, _, (0 : Int), _, rfl, rfl, SqT.of ha, rfl, _, rfl, _, _, rfl, rfl, _, rfl, a, _, (1 : Int), _, rfl, rfl, SqT.of ha, rfl, _, rfl, _, _, rfl, rfl, by show 2 ≤ sizeLine; decide, fun t1 ht1 => ?_⟩
    dsimp only
    rw [← e1, ← e2]
    have s5 := Same.upd_new (o := .tup [.int (y.top : Int), .int (y.left : Int)]) ht1
    refine ⟨_, rfl, _, rfl, a, _, rfl, SqT.of (s5 _ _ ha), (fun z => absurd z.1 (by show ¬ HT.sIx 5 0 (some 2) = 0; decide)), fun u1 hu1 => ?_⟩
    have s6 := Same.upd_new (o := .tup (cutV [.int x.top, .int x.left, .int x.h, .int x.w, .ref b] (some 2) none)) hu1
    refine ⟨t1, u1, _, _, rfl, rfl, SqT.of (s6 _ _ upd_same), SqT.of upd_same, (by intro z; cases z), (by show 5 ≤ sizeLine; decide), (fun z => by cases z), fun _ q1 hq1 => ?_⟩
    have s7 := Same.upd_new (o := .tup ([.int (y.top : Int), .int (y.left : Int)] ++ cutV [.int x.top, .int x.left, .int x.h, .int x.w, .ref b] (some 2) none)) hq1
    have s37 := (s5.trans s6).trans s7
    refine q _ _ s37 (Cell.at_mk (x := y) (b := b) (ws := ws) ?_ (s37 _ _ hb) (by rw [e5]; exact aw.mono s37))
    rw [e3, e4]
    exact upd_same

theorem sc_meets : FnScope ["cell", "block"] ["cell", "block"] (defScope (top 11)) := ⟨rfl, rfl, rfl, by decide +kernel, rfl, by decide +kernel, by decide +kernel⟩
set_option maxHeartbeats 4000000 in
theorem ok_meets (f : Addr) (fd : FuncData) (F : Fun K "meets" "meets" (top 11) f fd) : FnOk P w K mg base CX0 1 f fd ["cell", "block"] (spBlockB meetsB) := by
  refine F.ok sc_meets (fun vs H Q E h => ?_) (fun cdv A outer s H vs Q E hr h => ?_)
  · obtain ⟨v, u, x, t, l, hh, ww, rfl, _⟩ := h; rfl
  · obtain ⟨v, u, x, t, l, hh, ww, rfl, hx, hu, q⟩ := h
    obtain ⟨a, wb, ws, rfl, ha, _, _⟩ := Cell.at_inv hx
    obtain ⟨b, rfl, hb⟩ := block_inv hu
    refine ⟨_, (pss_cons (ps_if (PW.pt (pw_or (pt_cmpR op_ge (pe_ix (ix_tupK (K := K) rfl) (pv 0) pe_int (fun _ _ => rfl)) (pe_op op_add (pe_ix (ix_tupK (K := K) rfl) (pv 1) pe_int (fun _ _ => rfl)) (pe_ix (ix_tupK (K := K) rfl) (pv 1) pe_int (fun _ _ => rfl))) (nomark _)) (pw_or1 (pt_cmpR op_ge (pe_ix (ix_tupK (K := K) rfl) (pv 1) pe_int (fun _ _ => rfl)) (pe_op op_add (pe_ix (ix_tupK (K := K) rfl) (pv 0) pe_int (fun _ _ => rfl)) (pe_ix (ix_tupK (K := K) rfl) (pv 0) pe_int (fun _ _ => rfl))) (nomark _))))) (pss_one (ps_ret pe_bl)) pss_nil)
      (pss_one (ps_ret (pe_and (pe_cmpR op_lt (pe_ix (ix_tupK (K := K) rfl) (pv 0) pe_int (fun _ _ => rfl)) (pe_op op_add (pe_ix (ix_tupK (K := K) rfl) (pv 1) pe_int (fun _ _ => rfl)) (pe_ix (ix_tupK (K := K) rfl) (pv 1) pe_int (fun _ _ => rfl))) (nomark _)) (pe_one (pe_cmpR op_lt (pe_ix (ix_tupK (K := K) rfl) (pv 1) pe_int (fun _ _ => rfl)) (pe_op op_add (pe_ix (ix_tupK (K := K) rfl) (pv 0) pe_int (fun _ _ => rfl)) (pe_ix (ix_tupK (K := K) rfl) (pv 0) pe_int (fun _ _ => rfl))) (nomark _))))))), ?_⟩
    refine ⟨_, rfl, a, _, (0 : Int), _, rfl, rfl, SqT.of ha, rfl, _, rfl, b, _, (0 : Int), _, rfl, rfl, SqT.of hb, rfl, _, rfl, b, _, (2 : Int), _, rfl, rfl, SqT.of hb, rfl, _, _, rfl, rfl, _, _, rfl, rfl, _, rfl, ?_⟩
    refine ite2 (fun h1 => iteT (q false (Bool.eq_iff_iff.mpr ⟨fun z => (by cases z), fun z => ?_⟩))) (fun h1 => ?_)
    · have h1 := of_decide_eq_true h1
      have := meets_iff.mp z
      omega
    have h1 : ¬ _ := fun z => h1 (decide_eq_true z)
    refine ⟨_, rfl, b, _, (0 : Int), _, rfl, rfl, SqT.of hb, rfl, _, rfl, a, _, (0 : Int), _, rfl, rfl, SqT.of ha, rfl, _, rfl, a, _, (2 : Int), _, rfl, rfl, SqT.of ha, rfl, _, _, rfl, rfl, _, _, rfl, rfl, _, rfl, ?_⟩
    refine ite2 (fun h2 => q false (Bool.eq_iff_iff.mpr ⟨fun z => (by cases z), fun z => ?_⟩)) (fun h2 => ?_)
    · have h2 := of_decide_eq_true h2
      have := meets_iff.mp z
      omega
    have h2 : ¬ _ := fun z => h2 (decide_eq_true z)
    refine ⟨_, rfl, a, _, (1 : Int), _, rfl, rfl, SqT.of ha, rfl, _, rfl, b, _, (1 : Int), _, rfl, rfl, SqT.of hb, rfl, _, rfl, b, _, (3 : Int), _, rfl, rfl, SqT.of hb, rfl, _, _, rfl, rfl, _, _, rfl, rfl, _, rfl, ?_⟩
    refine ite2 (fun h3 => ?_) (fun h3 => q false (Bool.eq_iff_iff.mpr ⟨fun z => (by cases z), fun z => absurd (decide_eq_true (by have := meets_iff.mp z; omega)) h3⟩))
    have h3 := of_decide_eq_true h3
    refine ⟨_, rfl, b, _, (1 : Int), _, rfl, rfl, SqT.of hb, rfl, _, rfl, a, _, (1 : Int), _, rfl, rfl, SqT.of ha, rfl, _, rfl, a, _, (3 : Int), _, rfl, rfl, SqT.of ha, rfl, _, _, rfl, rfl, _, _, rfl, rfl, ?_⟩
    exact q _ (Bool.eq_iff_iff.mpr ⟨fun z => meets_iff.mpr (by have := of_decide_eq_true z; omega), fun z => decide_eq_true (by have := meets_iff.mp z; omega)⟩)

theorem sc_lies_in : FnScope ["cell", "block"] ["cell", "block"] (defScope (top 12)) := ⟨rfl, rfl, rfl, by decide +kernel, rfl, by decide +kernel, by decide +kernel⟩
set_option maxHeartbeats 4000000 in
theorem ok_lies_in (f : Addr) (fd : FuncData) (F : Fun K "lies_in" "lies_in" (top 12) f fd) : FnOk P w K mg base CX0 1 f fd ["cell", "block"] (spBlockB liesB) := by
  refine F.ok sc_lies_in (fun vs H Q E h => ?_) (fun cdv A outer s H vs Q E hr h => ?_)
  · obtain ⟨v, u, x, t, l, hh, ww, rfl, _⟩ := h; rfl
  · obtain ⟨v, u, x, t, l, hh, ww, rfl, hx, hu, q⟩ := h
    obtain ⟨a, wb, ws, rfl, ha, _, _⟩ := Cell.at_inv hx
    obtain ⟨b, rfl, hb⟩ := block_inv hu
    refine ⟨_, (pss_cons (ps_if (PW.pt (pw_or (pt_cmpR op_lt (pe_ix (ix_tupK (K := K) rfl) (pv 0) pe_int (fun _ _ => rfl)) (pe_ix (ix_tupK (K := K) rfl) (pv 1) pe_int (fun _ _ => rfl)) (nomark _)) (pw_or1 (pt_cmpR op_gt (pe_op op_add (pe_ix (ix_tupK (K := K) rfl) (pv 0) pe_int (fun _ _ => rfl)) (pe_ix (ix_tupK (K := K) rfl) (pv 0) pe_int (fun _ _ => rfl))) (pe_op op_add (pe_ix (ix_tupK (K := K) rfl) (pv 1) pe_int (fun _ _ => rfl)) (pe_ix (ix_tupK (K := K) rfl) (pv 1) pe_int (fun _ _ => rfl))) (nomark _))))) (pss_one (ps_ret pe_bl)) pss_nil)
      (pss_one (ps_ret (pe_and (pe_cmpR op_le (pe_ix (ix_tupK (K := K) rfl) (pv 1) pe_int (fun _ _ => rfl)) (pe_ix (ix_tupK (K := K) rfl) (pv 0) pe_int (fun _ _ => rfl)) (nomark _)) (pe_one (pe_cmpR op_le (pe_op op_add (pe_ix (ix_tupK (K := K) rfl) (pv 0) pe_int (fun _ _ => rfl)) (pe_ix (ix_tupK (K := K) rfl) (pv 0) pe_int (fun _ _ => rfl))) (pe_op op_add (pe_ix (ix_tupK (K := K) rfl) (pv 1) pe_int (fun _ _ => rfl)) (pe_ix (ix_tupK (K := K) rfl) (pv 1) pe_int (fun _ _ => rfl))) (nomark _))))))), ?_⟩
    refine ⟨_, rfl, a, _, (0 : Int), _, rfl, rfl, SqT.of ha, rfl, _, rfl, b, _, (0 : Int), _, rfl, rfl, SqT.of hb, rfl, _, _, rfl, rfl, _, rfl, ?_⟩
    refine ite2 (fun h1 => iteT (q false (Bool.eq_iff_iff.mpr ⟨fun z => (by cases z), fun z => ?_⟩))) (fun h1 => ?_)
    · have h1 := of_decide_eq_true h1
      have := lies_iff.mp z
      omega
    have h1 : ¬ _ := fun z => h1 (decide_eq_true z)
    refine ⟨_, rfl, a, _, (0 : Int), _, rfl, rfl, SqT.of ha, rfl, _, rfl, a, _, (2 : Int), _, rfl, rfl, SqT.of ha, rfl, _, _, rfl, rfl, _, rfl, b, _, (0 : Int), _, rfl, rfl, SqT.of hb, rfl, _, rfl, b, _, (2 : Int), _, rfl, rfl, SqT.of hb, rfl, _, _, rfl, rfl, _, _, rfl, rfl, _, rfl, ?_⟩
    refine ite2 (fun h2 => q false (Bool.eq_iff_iff.mpr ⟨fun z => (by cases z), fun z => ?_⟩)) (fun h2 => ?_)
    · have h2 := of_decide_eq_true h2
      have := lies_iff.mp z
      omega
    have h2 : ¬ _ := fun z => h2 (decide_eq_true z)
    refine ⟨_, rfl, b, _, (1 : Int), _, rfl, rfl, SqT.of hb, rfl, _, rfl, a, _, (1 : Int), _, rfl, rfl, SqT.of ha, rfl, _, _, rfl, rfl, _, rfl, ?_⟩
    refine ite2 (fun h3 => ?_) (fun h3 => q false (Bool.eq_iff_iff.mpr ⟨fun z => (by cases z), fun z => absurd (decide_eq_true (by have := lies_iff.mp z; omega)) h3⟩))
    have h3 := of_decide_eq_true h3
    refine ⟨_, rfl, a, _, (1 : Int), _, rfl, rfl, SqT.of ha, rfl, _, rfl, a, _, (3 : Int), _, rfl, rfl, SqT.of ha, rfl, _, _, rfl, rfl, _, rfl, b, _, (1 : Int), _, rfl, rfl, SqT.of hb, rfl, _, rfl, b, _, (3 : Int), _, rfl, rfl, SqT.of hb, rfl, _, _, rfl, rfl, _, _, rfl, rfl, ?_⟩
    exact q _ (Bool.eq_iff_iff.mpr ⟨fun z => lies_iff.mpr (by have := of_decide_eq_true z; omega), fun z => decide_eq_true (by have := lies_iff.mp z; omega)⟩)

theorem nd_cin : (["cell", "block"] : List Str).Nodup := by decide +kernel
noncomputable abbrev cinScope : Scope := scopeOf (exprOf (nth (defBody (top 10)) 1))
theorem sc_cells_in : FnScope ["table", "block", "at", "cell"] ["table", "block"] (defScope (top 10)) := ⟨rfl, rfl, rfl, by decide +kernel, rfl, by decide +kernel, by decide +kernel⟩
set_option maxHeartbeats 4000000 in
theorem ok_cells_in (T : Txt mg) (c_meets : Cal P w K mg base 1 "meets" ["cell", "block"] (spBlockB meetsB)) (c_lies_in : Cal P w K mg base 1 "lies_in" ["cell", "block"] (spBlockB liesB)) (f : Addr) (fd : FuncData) (F : Fun K "cells_in" "cells_in" (top 10) f fd) : FnOk P w K mg base CX0 2 f fd ["table", "block"] spCellsIn := by
  refine F.ok sc_cells_in (fun vs H Q E h => ?_) (fun cdv A outer s H vs Q E hr h => ?_)
  · obtain ⟨v, u, R, C, cs, t, l, hh, ww, rfl, _⟩ := h; rfl
  · obtain ⟨v, u, R, C, cs, t, l, hh, ww, rfl, ht, hu, few, no, q⟩ := h
    have hr_meets : Room 1 (A.deeper (envOfC "cells_in" (defScope (top 10)) s.heap.objs.size f cdv)) := hr.mono (by decide)
    have hr_lies_in : Room 1 (A.deeper (envOfC "cells_in" (defScope (top 10)) s.heap.objs.size f cdv)) := hr.mono (by decide)
    obtain ⟨p, ll, ys, rfl, hp, hl, ry⟩ := tab_inv ht
    obtain ⟨b, rfl, hb⟩ := block_inv hu
    have co_cin := compOk_def (X := (cxOf CX0 P w K mg base ["table", "block", "at", "cell"] "cells_in" (defScope (top 10)) f cdv A outer s H E).nox) (N1 := ["cell", "block"]) (cap := [none, some 1]) (scope := cinScope) (sc := defScope (top 10)) (s.heap.objs.size + 1) rfl rfl rfl
      (by decide +kernel) (by decide +kernel) (by decide +kernel) rfl (by
        intro i hi x j e1 e2
        match i, hi, e1, e2 with
        | 0, _, e1, e2 => cases e2
        | 1, _, e1, e2 => cases e1; cases e2; exact ⟨rfl, rfl, rfl⟩)
    have lx := ry.length
    rw [List.length_map] at lx
    refine ⟨_, (pss_cons (ps_for PassesOwn.never rfl (pi_enum (K := K) rfl rfl T.enumerate (pa_cons (pe_ix (ix_tupK (K := K) rfl) (pv 0) pe_int (fun _ _ => rfl)) pa_nil)) (pg_tupK (K := K) (n := 2) rfl rfl (pgs_cons (pg_name (i := 2) sc_cells_in.nd rfl (by first | exact Or.inl rfl | exact Or.inr rfl)) (pgs_cons (pg_name (i := 3) sc_cells_in.nd rfl (by first | exact Or.inl rfl | exact Or.inr rfl)) pgs_nil))) (pss_one (ps_if (PW.pt (pw_and (pt_val (pe_cal c_meets hr_meets rfl (pa_cons (pv 3) (pa_cons (pv 1) pa_nil)))) (pw_and1 (pt_not (pt_val (pe_cal c_lies_in hr_lies_in rfl (pa_cons (pv 3) (pa_cons (pv 1) pa_nil)))))))) (pss_one ps_never) pss_nil)))
      (pss_one (ps_ret (pe_comp co_cin rfl (pi_listK (K := K) rfl (pe_ix (ix_tupK (K := K) rfl) (pv 0) pe_int (fun _ _ => rfl))) (fun _ _ _ _ => (pg_name (i := 0) nd_cin rfl (by first | exact Or.inl rfl | exact Or.inr rfl) (Or.inr rfl))) (fun _ _ _ _ => (pif_one (pt_val (pe_cal c_lies_in hr_lies_in rfl (pa_cons (pv 0) (pa_cons (pv 1) pa_nil)))))) (fun _ _ _ _ => (pv 0)))))), ?_⟩
    refine ⟨_, rfl, p, _, (2 : Int), _, rfl, rfl, SqT.of hp, rfl, ll, rfl, ⟨_, SqL.of hl⟩, ?_⟩
    refine for_enum (K := K) (a := ll) (xs := ys) (fun i σ H2 => ∃ (c2 c3 : Option V), σ = [some (.ref p), some (.ref b), c2, c3] ∧ Same H H2)
      ⟨none, none, rfl, fun _ _ z => z⟩ (fun i σ H2 _ ⟨_, _, _, s2⟩ => SqL.of (s2 _ _ hl)) ?_ ?_
    · intro i x σ H2 t2 hi hI ht2
      refine ex_2 hI fun c2 c3 hJ => ?_
      have eI := hJ.1
      have s2 := hJ.2
      clear hI hJ
      subst eI
      have s3 := Same.upd_new (o := .tup [.int (i : Int), x]) ht2
      obtain ⟨d, hd, ad⟩ := Paired.get2 ry hi
      rw [List.getElem?_map] at hd
      obtain ⟨X, hX, rfl⟩ := Option.map_eq_some_iff.mp hd
      have s23 := s2.trans s3
      refine ⟨t2, _, rfl, SqT.of upd_same, rfl, _, _, rfl, _, _, rfl, rfl, ?_⟩
      refine ⟨_, rfl, _, rfl, x, .ref b, X, t, l, hh, ww, rfl, ad.mono s23, hu.mono s23, fun b1 e1 => ⟨b1, rfl, ?_⟩⟩
      refine ite2 (fun hb1 => ?_) (fun hb1 => iteF ⟨_, _, rfl, s23⟩)
      refine ⟨_, rfl, _, rfl, x, .ref b, X, t, l, hh, ww, rfl, ad.mono s23, hu.mono s23, fun b2 e2 => ⟨b2, rfl, ?_⟩⟩
      rw [no X (List.mem_of_getElem? hX) (e1 ▸ hb1)] at e2
      subst e2
      exact iteF ⟨_, _, rfl, s23⟩
    intro σ H2 hI
    refine ex_2 hI fun c2 c3 hJ => ?_
    have eI := hJ.1
    have s2 := hJ.2
    clear hI hJ
    subst eI
    have hl2 := s2 _ _ hl
    refine ⟨_, rfl, p, _, (2 : Int), _, rfl, rfl, SqT.of (s2 _ _ hp), rfl, ll, rfl, ⟨_, SqL.of hl2⟩, fun m hm => ?_⟩
    refine comp_list (K := K) (a := ll) (xs := ys) (fun i σ1 H3 => ∃ (c1 : Option V) (zs : List V), σ1 = [c1, some (.ref b)] ∧ Same H2 H3 ∧ H3 m = some (.lst zs) ∧ AtL H3 (((cs.take i).filter (liesB t l hh ww)).map Cell.D) zs)
      ⟨none, [], rfl, Same.upd_new hm, upd_same, .nil⟩ (fun i σ1 H3 _ ⟨_, _, _, s3, _, _⟩ => SqL.of (s3 _ _ hl2)) ?_ ?_
    · intro i x σ1 H3 hi hI
      refine ex_2 hI fun c1 zs hJ => ?_
      have eI := hJ.1
      have s3 := hJ.2.1
      have h3 := hJ.2.2.1
      have a3 := hJ.2.2.2
      clear hI hJ
      subst eI
      obtain ⟨d, hd, ad⟩ := Paired.get2 ry hi
      rw [List.getElem?_map] at hd
      obtain ⟨X, hX, rfl⟩ := Option.map_eq_some_iff.mp hd
      have hiL : i < cs.length := (List.getElem?_eq_some_iff.mp hX).1
      have s03 := s2.trans s3
      have tk : (cs.take (i + 1)).filter (liesB t l hh ww) = (cs.take i).filter (liesB t l hh ww) ++ (if liesB t l hh ww X = true then [X] else []) := by
        rw [List.take_add_one, hX, List.filter_append]
        congr 1
        show List.filter (liesB t l hh ww) [X] = _
        simp only [List.filter_cons, List.filter_nil]
      dsimp only [gName]
      refine ⟨_, rfl, _, rfl, x, .ref b, X, t, l, hh, ww, rfl, ad.mono s03, hu.mono s03, fun b1 e1 => ⟨b1, rfl, ?_⟩⟩
      refine ite2 (fun hb1 => ?_) (fun hb1 => ?_)
      · refine ⟨_, rfl, zs, h3, ?_, ?_⟩
        · have h1 := a3.length
          have h2 := List.length_filter_le (liesB t l hh ww) (cs.take i)
          rw [List.length_map] at h1
          rw [List.length_take] at h2
          exact small1000 (by omega)
        · have t4 : SameT H3 (upd H3 m (.lst (zs ++ [x]))) := SameT.put h3
          refine ⟨_, zs ++ [x], rfl, fun b' o e => ?_, upd_same, ?_⟩
          · rw [upd_ne (ne_of_none e hm)]
            exact s3 _ _ e
          · rw [tk, if_pos (e1 ▸ hb1), List.map_append]
            exact Paired.snoc' (a3.monoT (cells_nol _) t4) ((ad.mono s03).monoT (Cell.D_nol _) t4)
      · refine ⟨_, zs, rfl, s3, h3, ?_⟩
        rw [tk, if_neg (e1 ▸ hb1), List.append_nil]
        exact a3
    intro σ1 H3 hI
    refine ex_2 hI fun c1 zs hJ => ?_
    have s3 := hJ.2.1
    have h3 := hJ.2.2.1
    have a3 := hJ.2.2.2
    rw [← lx, List.take_length] at a3
    exact q m zs H3 (s2.trans s3) h3 a3

theorem nd_cut : (["cell", "top", "left"] : List Str).Nodup := by decide +kernel
noncomputable def elt2 (e : Expr) (i : Nat) : Expr := match e with
  | .Tuple es _ _ => es.getD i (.Constant .none 0 ⟨0, 0, 0, 0⟩)
  | _ => e
noncomputable abbrev cutScope : Scope := scopeOf (elt2 (exprOf (nth (defBody (top 8)) 1)) 2)
theorem sc_cut_out : FnScope ["table", "top", "left", "height", "width", "inner"] ["table", "top", "left", "height", "width"] (defScope (top 8)) := ⟨rfl, rfl, rfl, by decide +kernel, rfl, by decide +kernel, by decide +kernel⟩
set_option maxHeartbeats 4000000 in
theorem ok_cut_out (T : Txt mg) (c_moved_cell : Cal P w K mg base 1 "moved_cell" ["cell", "down", "right"] spMoved) (c_cells_in : Cal P w K mg base 2 "cells_in" ["table", "block"] spCellsIn) (f : Addr) (fd : FuncData) (F : Fun K "cut_out" "cut_out" (top 8) f fd) : FnOk P w K mg base CX0 3 f fd ["table", "top", "left", "height", "width"] spCutOut := by
  refine F.ok sc_cut_out (fun vs H Q E h => ?_) (fun cdv A outer s H vs Q E hr h => ?_)
  · obtain ⟨v, R, C, cs, t, l, hh, ww, rfl, _⟩ := h; rfl
  · obtain ⟨v, R, C, cs, t, l, hh, ww, rfl, ht, few, no, q⟩ := h
    have hr_moved_cell : Room 1 (A.deeper (envOfC "cut_out" (defScope (top 8)) s.heap.objs.size f cdv)) := hr.mono (by decide)
    have hr_cells_in : Room 2 (A.deeper (envOfC "cut_out" (defScope (top 8)) s.heap.objs.size f cdv)) := hr.mono (by decide)
    have co_cut := compOk_def (X := (cxOf CX0 P w K mg base ["table", "top", "left", "height", "width", "inner"] "cut_out" (defScope (top 8)) f cdv A outer s H E).nox) (N1 := ["cell", "top", "left"]) (cap := [none, some 1, some 2]) (scope := cutScope) (sc := defScope (top 8)) (s.heap.objs.size + 1) rfl rfl rfl
      (by decide +kernel) (by decide +kernel) (by decide +kernel) rfl (by
        intro i hi x j e1 e2
        match i, hi, e1, e2 with
        | 0, _, e1, e2 => cases e2
        | 1, _, e1, e2 => cases e1; cases e2; exact ⟨rfl, rfl, rfl⟩
        | 2, _, e1, e2 => cases e1; cases e2; exact ⟨rfl, rfl, rfl⟩)
    refine ⟨_, (pss_cons (ps_set (i := 5) sc_cut_out.nd rfl (by first | exact Or.inl rfl | exact Or.inr rfl) (pe_cal c_cells_in hr_cells_in rfl (pa_cons (pv 0) (pa_cons (pe_tup (pa_cons (pv 1) (pa_cons (pv 2) (pa_cons (pv 3) (pa_cons (pv 4) pa_nil))))) pa_nil))))
      (pss_one (ps_ret (pe_tup (pa_cons (pv 3) (pa_cons (pv 4) (pa_cons (pe_comp co_cut rfl (pi_listK (K := K) rfl (pv 5)) (fun _ _ _ _ => (pg_name (i := 0) nd_cut rfl (by first | exact Or.inl rfl | exact Or.inr rfl) (Or.inr rfl))) (fun _ _ _ _ => pif_nil) (fun _ _ _ _ => (pe_cal c_moved_cell hr_moved_cell rfl (pa_cons (pv 0) (pa_cons (pe_un un_neg (pv 1)) (pa_cons (pe_un un_neg (pv 2)) pa_nil)))))) pa_nil))))))), ?_⟩
    refine ⟨_, rfl, _, rfl, _, rfl, _, rfl, _, rfl, by show 4 ≤ sizeLine; decide, fun b hb => ?_⟩
    have s1 := Same.upd_new (o := .tup [.int (t : Int), .int (l : Int), .int (hh : Int), .int (ww : Int)]) hb
    have ab : At (upd H b (.tup [.int (t : Int), .int (l : Int), .int (hh : Int), .int (ww : Int)])) (blockD t l hh ww) (.ref b) := .tup upd_same (.cons (.int _) (.cons (.int _) (.cons (.int _) (.cons (.int _) .nil))))
    generalize hH1 : upd H b (.tup [.int (t : Int), .int (l : Int), .int (hh : Int), .int (ww : Int)]) = H1 at *
    refine ⟨v, .ref b, R, C, cs, t, l, hh, ww, rfl, ht.mono s1, ab, few, no, fun r xs H2 s2 hr2 a2 => ?_⟩
    have lx := a2.length
    rw [List.length_map] at lx
    have lf := List.length_filter_le (liesB t l hh ww) cs
    refine ⟨_, rfl, _, rfl, _, rfl, r, rfl, ⟨_, SqL.of hr2⟩, fun m hm => ?_⟩
    refine comp_list (K := K) (a := r) (xs := xs) (fun i σ1 H3 => ∃ (c1 : Option V) (zs : List V), σ1 = [c1, some (.int t), some (.int l)] ∧ Same H2 H3 ∧ H3 m = some (.lst zs) ∧ AtL H3 ((((cs.filter (liesB t l hh ww)).take i).map (upCell t l)).map Cell.D) zs)
      ⟨none, [], rfl, Same.upd_new hm, upd_same, .nil⟩ (fun i σ1 H3 _ ⟨_, _, _, s3, _, _⟩ => SqL.of (s3 _ _ hr2)) ?_ ?_
    · intro i x σ1 H3 hi hI
      refine ex_2 hI fun c1 zs hJ => ?_
      have eI := hJ.1
      have s3 := hJ.2.1
      have h3 := hJ.2.2.1
      have a3 := hJ.2.2.2
      clear hI hJ
      subst eI
      obtain ⟨d, hd, ad⟩ := Paired.get2 a2 hi
      rw [List.getElem?_map] at hd
      obtain ⟨X, hX, rfl⟩ := Option.map_eq_some_iff.mp hd
      have hiL : i < (cs.filter (liesB t l hh ww)).length := (List.getElem?_eq_some_iff.mp hX).1
      have lies := lies_iff.mp (List.mem_filter.mp (List.mem_of_getElem? hX)).2
      dsimp only [gName]
      rw [if_pos rfl]
      refine ⟨_, rfl, _, rfl, _, rfl, _, rfl, _, rfl, x, X, upCell t l X, -(t : Int), -(l : Int), rfl, ad.mono s3, by show ((X.top - t : Nat) : Int) = _; omega, by show ((X.left - l : Nat) : Int) = _; omega, rfl, rfl, rfl, fun v' H4 s4 at4 => ⟨zs, s4 _ _ h3, ?_, ?_⟩⟩
      · have h1 := a3.length
        rw [List.length_map, List.length_map, List.length_take] at h1
        exact small1000 (by omega)
      · have t5 : SameT H4 (upd H4 m (.lst (zs ++ [v']))) := SameT.put (s4 _ _ h3)
        refine ⟨_, zs ++ [v'], rfl, fun b' o e => ?_, upd_same, ?_⟩
        · rw [upd_ne (ne_of_none e hm)]
          exact s4 _ _ (s3 _ _ e)
        · rw [take_map_succ hX, List.map_append]
          exact Paired.snoc' ((a3.mono s4).monoT (cells_nol _) t5) (at4.monoT (Cell.D_nol _) t5)
    intro σ1 H3 hI
    refine ex_2 hI fun c1 zs hJ => ?_
    have s3 := hJ.2.1
    have h3 := hJ.2.2.1
    have a3 := hJ.2.2.2
    rw [← lx, List.take_length] at a3
    refine ⟨by show 3 ≤ sizeLine; decide, fun o ho => ?_⟩
    have s4 := Same.upd_new (o := .tup [.int (hh : Int), .int (ww : Int), .ref m]) ho
    exact q _ _ (((s1.trans s2).trans s3).trans s4) (tab_mk upd_same (s4 _ _ h3) (a3.mono s4)) (FreshT.of upd_same ((s1.trans s2).free hm))
end
/-! ### open lines, bands -/
noncomputable def spSpans : Sp := fun vs H Q _ => ∃ (v : V) (x : Cell) (n : Nat), vs = [v, .int n] ∧ At H x.D v ∧ ∀ b, b = spansB n x → Q (.bl b) H
noncomputable def spIsOpen : Sp := fun vs H Q _ => ∃ (v : V) (R C : Nat) (cs : List Cell) (n : Nat), vs = [v, .int n] ∧ At H (tabD R C cs) v ∧ cs.length ≤ 1000 ∧ ∀ b H', Same H H' → b = openB n cs → Q (.bl b) H'
noncomputable def spOpenLines : Sp := fun vs H Q _ => ∃ (v : V) (R C : Nat) (cs : List Cell), vs = [v] ∧ At H (tabD R C cs) v ∧ cs.length ≤ 1000 ∧ 1 ≤ R ∧ R ≤ 17 ∧ ∀ l H', Same H H' → H' l = some (.lst ((linesL cs (R - 1)).map fun (n : Nat) => V.int (n : Int))) → Q (.ref l) H'
noncomputable def spBands : Sp := fun vs H Q _ => ∃ (v : V) (R C : Nat) (cs : List Cell), vs = [v] ∧ At H (tabD R C cs) v ∧ cs.length ≤ 1000 ∧ 1 ≤ R ∧ R ≤ 17 ∧ ∀ l xs H', Same H H' → H' l = some (.lst xs) → AtL H' ((bandsL R cs).map bandD) xs → Q (.ref l) H'
theorem bands_at {H : Hp} : ∀ {bs : List (Nat × Nat)} {zs : List V}, Paired (lzP H) (bs.map fun b => (V.int (b.1 : Int), V.int (b.2 : Int))) zs → AtL H (bs.map bandD) zs
  | [], _, .nil => .nil
  | b :: bs, _, .cons ⟨t, e, h⟩ r => by
    subst e
    exact .cons (.tup h (.cons (.int _) (.cons (.int _) .nil))) (bands_at r)
section
variable {P : Program} {w : World} {K : PySem.W.Frag} {mg : Str → Option Value} {base : Heap}
theorem sc_spans : FnScope ["cell", "line"] ["cell", "line"] (defScope (top 18)) := ⟨rfl, rfl, rfl, by decide +kernel, rfl, by decide +kernel, by decide +kernel⟩
set_option maxHeartbeats 4000000 in
theorem ok_spans (f : Addr) (fd : FuncData) (F : Fun K "spans" "spans" (top 18) f fd) : FnOk P w K mg base CX0 1 f fd ["cell", "line"] spSpans := by
  refine F.ok sc_spans (fun vs H Q E h => ?_) (fun cdv A outer s H vs Q E hr h => ?_)
  · obtain ⟨v, x, n, rfl, _⟩ := h; rfl
  · obtain ⟨v, x, n, rfl, hx, q⟩ := h
    obtain ⟨a, b, ws, rfl, ha, hb, _⟩ := Cell.at_inv hx
    refine ⟨_, (pss_one (ps_ret (pe_chain op_lt op_lt (pe_ix (ix_tupK (K := K) rfl) (pv 0) pe_int (fun _ _ => rfl)) (pv 1) (pe_op op_add (pe_ix (ix_tupK (K := K) rfl) (pv 0) pe_int (fun _ _ => rfl)) (pe_ix (ix_tupK (K := K) rfl) (pv 0) pe_int (fun _ _ => rfl)))))), ?_⟩
    refine ⟨_, rfl, a, _, (0 : Int), _, rfl, rfl, SqT.of ha, rfl, _, rfl, _, _, rfl, rfl, _, rfl, ?_⟩
    refine ite2 (fun h1 => ?_) (fun h1 => q false ?_)
    · have h1 := of_decide_eq_true h1
      refine ⟨_, rfl, a, _, (0 : Int), _, rfl, rfl, SqT.of ha, rfl, _, rfl, a, _, (2 : Int), _, rfl, rfl, SqT.of ha, rfl, _, _, rfl, rfl, _, _, rfl, rfl, ?_⟩
      refine q _ ?_
      unfold spansB
      exact decide_eq_decide.mpr ⟨fun z => ⟨by omega, by omega⟩, fun z => by have := z.2; omega⟩
    · unfold spansB
      rw [decide_eq_false]
      intro z
      exact h1 (decide_eq_true (by have := z.1; omega))

theorem nd_isop : (["cell", "line"] : List Str).Nodup := by decide +kernel
noncomputable abbrev isopScope : Scope := scopeOf (argOf (operandOf (exprOf (nth (defBody (top 17)) 0))) 0)
theorem sc_is_open : FnScope ["table", "line"] ["table", "line"] (defScope (top 17)) := ⟨rfl, rfl, rfl, by decide +kernel, rfl, by decide +kernel, by decide +kernel⟩
set_option maxHeartbeats 4000000 in
theorem ok_is_open (T : Txt mg) (c_spans : Cal P w K mg base 1 "spans" ["cell", "line"] spSpans) (f : Addr) (fd : FuncData) (F : Fun K "is_open" "is_open" (top 17) f fd) : FnOk P w K mg base CX0 2 f fd ["table", "line"] spIsOpen := by
  refine F.ok sc_is_open (fun vs H Q E h => ?_) (fun cdv A outer s H vs Q E hr h => ?_)
  · obtain ⟨v, R, C, cs, n, rfl, _⟩ := h; rfl
  · obtain ⟨v, R, C, cs, n, rfl, ht, few, q⟩ := h
    have hr_spans : Room 1 (A.deeper (envOfC "is_open" (defScope (top 17)) s.heap.objs.size f cdv)) := hr.mono (by decide)
    obtain ⟨p, l, ys, rfl, hp, hl, ry⟩ := tab_inv ht
    have co_isop := compOk_def (X := (cxOf CX0 P w K mg base ["table", "line"] "is_open" (defScope (top 17)) f cdv A outer s H E).nox) (N1 := ["cell", "line"]) (cap := [none, some 1]) (scope := isopScope) (sc := defScope (top 17)) (s.heap.objs.size + 1) rfl rfl rfl
      (by decide +kernel) (by decide +kernel) (by decide +kernel) rfl (by
        intro i hi x j e1 e2
        match i, hi, e1, e2 with
        | 0, _, e1, e2 => cases e2
        | 1, _, e1, e2 => cases e1; cases e2; exact ⟨rfl, rfl, rfl⟩)
    have lx := ry.length
    rw [List.length_map] at lx
    refine ⟨_, (pss_one (ps_ret (pe_not (pe_callB (call_any (K := K) rfl rfl) (by rfl) T.any PyProof.Rows.boot_any (pa_cons (pe_comp co_isop rfl (pi_listK (K := K) rfl (pe_ix (ix_tupK (K := K) rfl) (pv 0) pe_int (fun _ _ => rfl))) (fun _ _ _ _ => (pg_name (i := 0) nd_isop rfl (by first | exact Or.inl rfl | exact Or.inr rfl) (Or.inr rfl))) (fun _ _ _ _ => pif_nil) (fun _ _ _ _ => (pe_cal c_spans hr_spans rfl (pa_cons (pv 0) (pa_cons (pv 1) pa_nil))))) pa_nil))))), ?_⟩
    refine ⟨_, rfl, p, _, (2 : Int), _, rfl, rfl, SqT.of hp, rfl, l, rfl, ⟨_, SqL.of hl⟩, fun m hm => ?_⟩
    refine comp_list (K := K) (a := l) (xs := ys) (fun i σ1 H2 => ∃ (c1 : Option V), σ1 = [c1, some (.int n)] ∧ Same H H2 ∧ H2 m = some (.lst (((cs.take i).map (spansB n)).map V.bl)))
      ⟨none, rfl, Same.upd_new hm, upd_same⟩ (fun i σ1 H2 _ ⟨_, _, s2, _⟩ => SqL.of (s2 _ _ hl)) ?_ ?_
    · intro i x σ1 H2 hi hI
      refine ex_1 hI fun c1 hJ => ?_
      have eI := hJ.1
      have s2 := hJ.2.1
      have h2 := hJ.2.2
      clear hI hJ
      subst eI
      obtain ⟨d, hd, ad⟩ := Paired.get2 ry hi
      rw [List.getElem?_map] at hd
      obtain ⟨X, hX, rfl⟩ := Option.map_eq_some_iff.mp hd
      have hiL : i < cs.length := (List.getElem?_eq_some_iff.mp hX).1
      dsimp only [gName]
      rw [if_pos rfl]
      refine ⟨_, rfl, _, rfl, x, X, n, rfl, ad.mono s2, fun b eb => ⟨_, h2, ?_, ?_⟩⟩
      · rw [List.length_map, List.length_map, List.length_take]
        exact small1000 (by omega)
      · subst eb
        refine ⟨_, rfl, fun b' o e => ?_, ?_⟩
        · rw [upd_ne (ne_of_none e hm)]
          exact s2 _ _ e
        · rw [take_map_succ hX, List.map_append]
          exact upd_same
    intro σ1 H2 hI
    refine ex_1 hI fun c1 hJ => ?_
    have eI := hJ.1
    have s2 := hJ.2.1
    have h2 := hJ.2.2
    clear hI hJ
    subst eI
    rw [← lx, List.take_length] at h2
    refine ⟨m, cs.map (spansB n), rfl, SqL.of h2, _, rfl, ?_⟩
    refine q _ H2 s2 ?_
    unfold openB
    rw [List.any_map]
    rfl

theorem nd_oln : (["line", "table"] : List Str).Nodup := by decide +kernel
noncomputable abbrev olnScope : Scope := scopeOf (exprOf (nth (defBody (top 16)) 0))
theorem sc_open_lines : FnScope ["table"] ["table"] (defScope (top 16)) := ⟨rfl, rfl, rfl, by decide +kernel, rfl, by decide +kernel, by decide +kernel⟩
set_option maxHeartbeats 4000000 in
theorem ok_open_lines (T : Txt mg) (c_is_open : Cal P w K mg base 2 "is_open" ["table", "line"] spIsOpen) (f : Addr) (fd : FuncData) (F : Fun K "open_lines" "open_lines" (top 16) f fd) : FnOk P w K mg base CX0 3 f fd ["table"] spOpenLines := by
  refine F.ok sc_open_lines (fun vs H Q E h => ?_) (fun cdv A outer s H vs Q E hr h => ?_)
  · obtain ⟨v, R, C, cs, rfl, _⟩ := h; rfl
  · obtain ⟨v, R, C, cs, rfl, ht, few, hR1, hR, q⟩ := h
    have hr_is_open : Room 2 (A.deeper (envOfC "open_lines" (defScope (top 16)) s.heap.objs.size f cdv)) := hr.mono (by decide)
    obtain ⟨p, l, ys, rfl, hp, hl, ry⟩ := tab_inv ht
    have co_oln := compOk_def (X := (cxOf CX0 P w K mg base ["table"] "open_lines" (defScope (top 16)) f cdv A outer s H E).nox) (N1 := ["line", "table"]) (cap := [none, some 0]) (scope := olnScope) (sc := defScope (top 16)) (s.heap.objs.size + 1) rfl rfl rfl
      (by decide +kernel) (by decide +kernel) (by decide +kernel) rfl (by
        intro i hi x j e1 e2
        match i, hi, e1, e2 with
        | 0, _, e1, e2 => cases e2
        | 1, _, e1, e2 => cases e1; cases e2; exact ⟨rfl, rfl, rfl⟩)
    have eR : ((R : Int) - 1).toNat = R - 1 := by omega
    refine ⟨_, (pss_one (ps_ret (pe_comp co_oln rfl (pi_range2 rfl T.range (pa_cons pe_int (pa_cons (pe_ix (ix_tupK (K := K) rfl) (pv 0) pe_int (fun _ _ => rfl)) pa_nil))) (fun _ _ _ _ => (pg_name (i := 0) nd_oln rfl (by first | exact Or.inl rfl | exact Or.inr rfl) (Or.inr rfl))) (fun _ _ _ _ => (pif_one (pt_val (pe_cal c_is_open hr_is_open rfl (pa_cons (pv 1) (pa_cons (pv 0) pa_nil)))))) (fun _ _ _ _ => (pv 0))))), ?_⟩
    refine ⟨_, rfl, p, _, (0 : Int), _, rfl, rfl, SqT.of hp, rfl, (1 : Int), (R : Int), rfl, ⟨by omega, by omega, by omega, by omega⟩, fun m hm => ?_⟩
    rw [eR]
    refine comp_range (lo := 1) (n := R - 1) (fun j σ1 H2 => ∃ (c1 : Option V), σ1 = [c1, some (.ref p)] ∧ Same H H2 ∧ H2 m = some (.lst ((linesL cs j).map fun (n : Nat) => V.int (n : Int))))
      ⟨none, rfl, Same.upd_new hm, upd_same⟩ ?_ ?_
    · intro j σ1 H2 hj hI
      refine ex_1 hI fun c1 hJ => ?_
      have eI := hJ.1
      have s2 := hJ.2.1
      have h2 := hJ.2.2
      clear hI hJ
      subst eI
      have ej : (1 : Int) + (j : Int) = ((j + 1 : Nat) : Int) := by omega
      dsimp only [gName]
      rw [ej]
      refine ⟨_, rfl, _, rfl, .ref p, R, C, cs, j + 1, rfl, ht.mono s2, few, fun b H3 s3 eb => ⟨b, rfl, ?_⟩⟩
      subst eb
      refine ite2 (fun hb => ?_) (fun hb => ?_)
      · refine ⟨_, rfl, _, s3 _ _ h2, ?_, ?_⟩
        · rw [List.length_map]
          have := lines_len cs j
          exact small1000 (by omega)
        · refine ⟨_, rfl, fun b' o e => ?_, ?_⟩
          · rw [upd_ne (ne_of_none e hm)]
            exact s3 _ _ (s2 _ _ e)
          · rw [lines_succ, if_pos hb, List.map_append]
            exact upd_same
      · refine ⟨_, rfl, s2.trans s3, ?_⟩
        rw [lines_succ, if_neg hb, List.append_nil]
        exact s3 _ _ h2
    intro σ1 H2 hI
    refine ex_1 hI fun c1 hJ => ?_
    exact q m H2 hJ.2.1 hJ.2.2

theorem sc_bands : FnScope ["table", "ends"] ["table"] (defScope (top 14)) := ⟨rfl, rfl, rfl, by decide +kernel, rfl, by decide +kernel, by decide +kernel⟩
set_option maxHeartbeats 4000000 in
theorem ok_bands (T : Txt mg) (c_open_lines : Cal P w K mg base 3 "open_lines" ["table"] spOpenLines) (f : Addr) (fd : FuncData) (F : Fun K "bands" "bands" (top 14) f fd) : FnOk P w K mg base CX0 4 f fd ["table"] spBands := by
  refine F.ok sc_bands (fun vs H Q E h => ?_) (fun cdv A outer s H vs Q E hr h => ?_)
  · obtain ⟨v, R, C, cs, rfl, _⟩ := h; rfl
  · obtain ⟨v, R, C, cs, rfl, ht, few, hR1, hR, q⟩ := h
    have hr_open_lines : Room 3 (A.deeper (envOfC "bands" (defScope (top 14)) s.heap.objs.size f cdv)) := hr.mono (by decide)
    obtain ⟨p, l, ys, rfl, hp, hl, ry⟩ := tab_inv ht
    refine ⟨_, (pss_cons (ps_set (i := 1) sc_bands.nd rfl (by first | exact Or.inl rfl | exact Or.inr rfl) (pe_op op_cat (pe_op op_cat (pe_lst (pa_cons pe_int pa_nil)) (pe_cal c_open_lines hr_open_lines rfl (pa_cons (pv 0) pa_nil))) (pe_lst (pa_cons (pe_ix (ix_tupK (K := K) rfl) (pv 0) pe_int (fun _ _ => rfl)) pa_nil))))
      (pss_one (ps_ret (pe_lz rfl (by rfl) T.list (by rfl) T.zip (pa_cons (pv 1) (pa_cons (pe_slice (sl_listK (K := K) rfl) (pv 1) (po_some pe_int) po_none) pa_nil)))))), ?_⟩
    refine ⟨by show 1 ≤ sizeLine; decide, fun t1 ht1 => ?_⟩
    have s1 := Same.upd_new (o := .lst [.int 0]) ht1
    have k1 := upd_same (H := H) (a := t1) (o := .lst [.int 0])
    generalize hH1 : upd H t1 (.lst [.int 0]) = H1 at *
    refine ⟨_, rfl, .ref p, R, C, cs, rfl, ht.mono s1, few, hR1, hR, fun t2 H2 s2 k2 => ?_⟩
    have le := ends_few (R := R) (cs := cs) hR1
    unfold endsL at le
    rw [List.length_cons, List.length_append, List.length_singleton] at le
    refine ⟨t1, t2, _, _, rfl, rfl, s2 _ _ k1, k2, Nat.le_of_lt (small1000 (by rw [List.length_singleton, List.length_map]; omega)), fun t3 ht3 => ?_⟩
    have s3 := Same.upd_new (o := .lst ([.int 0] ++ (linesL cs (R - 1)).map fun (n : Nat) => V.int (n : Int))) ht3
    have k3 := upd_same (H := H2) (a := t3) (o := .lst ([.int 0] ++ (linesL cs (R - 1)).map fun (n : Nat) => V.int (n : Int)))
    generalize hH3 : upd H2 t3 (.lst ([.int 0] ++ (linesL cs (R - 1)).map fun (n : Nat) => V.int (n : Int))) = H3 at *
    have s03 := (s1.trans s2).trans s3
    refine ⟨_, rfl, p, _, (0 : Int), _, rfl, rfl, SqT.of (s03 _ _ hp), rfl, by show 1 ≤ sizeLine; decide, fun t4 ht4 => ?_⟩
    have s4 := Same.upd_new (o := .lst [.int R]) ht4
    have k4 := upd_same (H := H3) (a := t4) (o := .lst [.int R])
    generalize hH4 : upd H3 t4 (.lst [.int R]) = H4 at *
    refine ⟨t3, t4, _, _, rfl, rfl, s4 _ _ k3, k4, Nat.le_of_lt (small1000 (by rw [List.length_append, List.length_singleton, List.length_map, List.length_singleton]; omega)), fun t5 ht5 => ?_⟩
    have eE : ([.int 0] ++ (linesL cs (R - 1)).map fun (n : Nat) => V.int (n : Int)) ++ [V.int (R : Int)] = (endsL R cs).map fun (n : Nat) => V.int (n : Int) := by
      unfold endsL
      rw [List.map_cons, List.map_append]
      rfl
    rw [eE] at *
    have s5 := Same.upd_new (o := .lst ((endsL R cs).map fun (n : Nat) => V.int (n : Int))) ht5
    have k5 := upd_same (H := H4) (a := t5) (o := .lst ((endsL R cs).map fun (n : Nat) => V.int (n : Int)))
    generalize hH5 : upd H4 t5 (.lst ((endsL R cs).map fun (n : Nat) => V.int (n : Int))) = H5 at *
    have s05 := (s03.trans s4).trans s5
    have le2 := ends_few (R := R) (cs := cs) hR1
    have l1 := ends_len R cs
    have ec : cutV ((endsL R cs).map fun (n : Nat) => V.int (n : Int)) (some 1) none = (endsL R cs).tail.map fun (n : Nat) => V.int (n : Int) := by
      have := cut_drop (ys := (endsL R cs).map fun (n : Nat) => V.int (n : Int)) (i := 1) (by rw [List.length_map]; omega)
      rw [List.drop_one, ← List.map_tail] at this
      exact this
    refine ⟨_, rfl, _, rfl, _, rfl, t5, _, rfl, SqL.of k5, fun t6 ht6 => ?_⟩
    rw [ec]
    have s6 := Same.upd_new (o := .lst ((endsL R cs).tail.map fun (n : Nat) => V.int (n : Int))) ht6
    refine ⟨t5, t6, _, _, rfl, s6 _ _ k5, upd_same, by rw [List.length_map]; omega, fun l zs H7 s7 h7 a7 => ?_⟩
    refine q l zs H7 ((s05.trans s6).trans s7) h7 (bands_at ?_)
    unfold bandsL
    rw [List.zip_map] at a7
    exact a7
end
end KL

set_option Elab.async false
set_option linter.all false
set_option autoImplicit false
set_option maxRecDepth 100000
namespace KL
open PySem L2 GT PyProof.Rows
/-! ### tables set below one another, side by side -/
noncomputable def spStacked : Sp := fun vs H Q _ => ∃ (v : V) (ts : List Tab) (C : Nat), vs = [v] ∧ At H (.lst (ts.map Tab.D)) v ∧ ts ≠ [] ∧ ts.length ≤ 30 ∧ (∀ t ∈ ts, Tiles t.R C t.cs ∧ t.C = C ∧ t.cs.length ≤ 300 ∧ t.R ≤ 300) ∧
  ∀ v' H', Same H H' → At H' (tabD (rowsL ts) C (stackL 0 ts)) v' → FreshT H H' v' → Q v' H'
theorem few_of {R C : Nat} {cs : List Cell} (t : Tiles R C cs) (hR : R ≤ 17) (hC : C ≤ 17) : cs.length ≤ 300 := by
  have h1 := t.toPart.few
  have h2 : R * C ≤ 17 * 17 := Nat.mul_le_mul hR hC
  omega
theorem stack_few : ∀ {ts : List Tab} {r : Nat}, (∀ t ∈ ts, t.cs.length ≤ 300) → (stackL r ts).length ≤ 300 * ts.length
  | [], r, _ => by simp [stackL]
  | t :: ts, r, h => by
    have ih := stack_few (ts := ts) (r := r + t.R) fun u hu => h u (List.mem_cons_of_mem _ hu)
    have h1 := h t List.mem_cons_self
    show (t.cs.map (downCell r) ++ stackL (r + t.R) ts).length ≤ 300 * (ts.length + 1)
    rw [List.length_append, List.length_map]
    omega
section
variable {P : Program} {w : World} {K : PySem.W.Frag} {mg : Str → Option Value} {base : Heap}
theorem nd_stk : (["cell", "rows"] : List Str).Nodup := by decide +kernel
noncomputable abbrev stkScope : Scope := scopeOf (argOf (exprOf (nth (bodyOf (nth (defBody (top 9)) 2)) 0)) 0)
theorem sc_stacked : FnScope ["parts", "rows", "cells", "part"] ["parts"] (defScope (top 9)) := ⟨rfl, rfl, rfl, by decide +kernel, rfl, by decide +kernel, by decide +kernel⟩
set_option maxHeartbeats 4000000 in
theorem ok_stacked (T : Txt mg) (c_moved_cell : Cal P w K mg base 1 "moved_cell" ["cell", "down", "right"] spMoved) (f : Addr) (fd : FuncData) (F : Fun K "stacked" "stacked" (top 9) f fd) : FnOk P w K mg base CX0 2 f fd ["parts"] spStacked := by
  refine F.ok sc_stacked (fun vs H Q E h => ?_) (fun cdv A outer s H vs Q E hr h => ?_)
  · obtain ⟨v, ts, C, rfl, _⟩ := h; rfl
  · obtain ⟨v, ts, C, rfl, hv, hne, hlen, hts, q⟩ := h
    have hr_moved_cell : Room 1 (A.deeper (envOfC "stacked" (defScope (top 9)) s.heap.objs.size f cdv)) := hr.mono (by decide)
    obtain ⟨pl, xs, rfl, hpl, rxs⟩ := hv.lst_inv
    have co_stk := compOk_def (X := (cxOf CX0 P w K mg base ["parts", "rows", "cells", "part"] "stacked" (defScope (top 9)) f cdv A outer s H E).nox) (N1 := ["cell", "rows"]) (cap := [none, some 1]) (scope := stkScope) (sc := defScope (top 9)) (s.heap.objs.size + 1) rfl rfl rfl
      (by decide +kernel) (by decide +kernel) (by decide +kernel) rfl (by
        intro i hi x j e1 e2
        match i, hi, e1, e2 with
        | 0, _, e1, e2 => cases e2
        | 1, _, e1, e2 => cases e1; cases e2; exact ⟨rfl, rfl, rfl⟩)
    have lx := rxs.length
    rw [List.length_map] at lx
    refine ⟨_, (pss_cons (ps_set (i := 1) sc_stacked.nd rfl (by first | exact Or.inl rfl | exact Or.inr rfl) pe_int)
      (pss_cons (ps_set (i := 2) sc_stacked.nd rfl (by first | exact Or.inl rfl | exact Or.inr rfl) (pe_lst pa_nil))
      (pss_cons (ps_for PassesOwn.never rfl (pi_listK (K := K) rfl (pv 0)) (pg_name (i := 3) sc_stacked.nd rfl (by first | exact Or.inl rfl | exact Or.inr rfl)) (pss_cons (ps_expr (pe_bmK (K := K) rfl PySem.F.plainAttrs_list PySem.F.slot_list_extend PySem.F.type_list_extend mt_extend (pv 2) (pa_cons (pe_comp co_stk rfl (pi_listK (K := K) rfl (pe_ix (ix_tupK (K := K) rfl) (pv 3) pe_int (fun _ _ => rfl))) (fun _ _ _ _ => (pg_name (i := 0) nd_stk rfl (by first | exact Or.inl rfl | exact Or.inr rfl) (Or.inr rfl))) (fun _ _ _ _ => pif_nil) (fun _ _ _ _ => (pe_cal c_moved_cell hr_moved_cell rfl (pa_cons (pv 0) (pa_cons (pv 1) (pa_cons pe_int pa_nil)))))) pa_nil)))
      (pss_one (ps_set (i := 1) sc_stacked.nd rfl (by first | exact Or.inl rfl | exact Or.inr rfl) (pe_op op_add (pv 1) (pe_ix (ix_tupK (K := K) rfl) (pv 3) pe_int (fun _ _ => rfl)))))))
      (pss_one (ps_ret (pe_tup (pa_cons (pv 1) (pa_cons (pe_ix (ix_tupK (K := K) rfl) (pe_ix (ix_listK (K := K) rfl) (pv 0) pe_int (fun _ _ => rfl)) pe_int (fun _ _ => rfl)) (pa_cons (pv 2) pa_nil))))))))), ?_⟩
    refine ⟨by show 0 ≤ sizeLine; decide, fun l hl => ?_⟩
    have s1 := Same.upd_new (o := .lst []) hl
    refine ⟨_, rfl, pl, rfl, ⟨_, SqL.of (s1 _ _ hpl)⟩, ?_⟩
    refine for_list (K := K) (a := pl) (xs := xs) (fun i σ H2 => ∃ (c3 : Option V) (zs : List V), σ = [some (.ref pl), some (.int ((rowsL (ts.take i) : Nat) : Int)), some (.ref l), c3] ∧ Same H H2 ∧ H2 l = some (.lst zs) ∧ AtL H2 ((stackL 0 (ts.take i)).map Cell.D) zs)
      ⟨none, [], rfl, s1, upd_same, .nil⟩ (fun i σ H2 _ ⟨_, _, _, s2, _⟩ => SqL.of (s2 _ _ hpl)) ?_ ?_
    · intro i x σ H2 hi hI
      refine ex_2 hI fun c3 zs hJ => ?_
      have eI := hJ.1
      have s2 := hJ.2.1
      have h2 := hJ.2.2.1
      have a2 := hJ.2.2.2
      clear hI hJ
      subst eI
      obtain ⟨d, hd, ad⟩ := Paired.get2 rxs hi
      rw [List.getElem?_map] at hd
      obtain ⟨X, hX, rfl⟩ := Option.map_eq_some_iff.mp hd
      have hiL : i < ts.length := (List.getElem?_eq_some_iff.mp hX).1
      obtain ⟨tlX, eCX, fewX, RX⟩ := hts X (List.mem_of_getElem? hX)
      have tk : ts.take (i + 1) = ts.take i ++ [X] := by rw [List.take_add_one, hX]; rfl
      obtain ⟨p, l2, ys, rfl, hp, hl2, ry⟩ := tab_inv (ad.mono s2)
      have ly := ry.length
      rw [List.length_map] at ly
      refine ⟨_, rfl, .inl ⟨rfl, _, SqL.of h2⟩, _, rfl, p, _, (2 : Int), _, rfl, rfl, SqT.of hp, rfl, l2, rfl, ⟨_, SqL.of hl2⟩, fun m hm => ?_⟩
      refine comp_list (K := K) (a := l2) (xs := ys) (fun j σ1 H3 => ∃ (c1 : Option V) (us : List V), σ1 = [c1, some (.int ((rowsL (ts.take i) : Nat) : Int))] ∧ Same H2 H3 ∧ H3 m = some (.lst us) ∧ AtL H3 (((X.cs.take j).map (downCell (rowsL (ts.take i)))).map Cell.D) us)
        ⟨none, [], rfl, Same.upd_new hm, upd_same, .nil⟩ (fun j σ1 H3 _ ⟨_, _, _, s3, _, _⟩ => SqL.of (s3 _ _ hl2)) ?_ ?_
      · intro j y σ1 H3 hj hI
        refine ex_2 hI fun c1 us hJ => ?_
        have eI := hJ.1
        have s3 := hJ.2.1
        have h3 := hJ.2.2.1
        have a3 := hJ.2.2.2
        clear hI hJ
        subst eI
        obtain ⟨d, hd, ad⟩ := Paired.get2 ry hj
        rw [List.getElem?_map] at hd
        obtain ⟨Y, hY, rfl⟩ := Option.map_eq_some_iff.mp hd
        have hjL : j < X.cs.length := (List.getElem?_eq_some_iff.mp hY).1
        dsimp only [gName]
        rw [if_pos rfl]
        refine ⟨_, rfl, _, rfl, y, Y, downCell (rowsL (ts.take i)) Y, _, 0, rfl, ad.mono s3, by show ((Y.top + rowsL (ts.take i) : Nat) : Int) = _; omega, by show (Y.left : Int) = _; omega, rfl, rfl, rfl, fun v' H4 s4 at4 => ⟨us, s4 _ _ h3, ?_, ?_⟩⟩
        · have h1 := a3.length
          rw [List.length_map, List.length_map, List.length_take] at h1
          exact small1000 (by omega)
        · have t5 : SameT H4 (upd H4 m (.lst (us ++ [v']))) := SameT.put (s4 _ _ h3)
          refine ⟨_, us ++ [v'], rfl, fun b' o e => ?_, upd_same, ?_⟩
          · rw [upd_ne (ne_of_none e hm)]
            exact s4 _ _ (s3 _ _ e)
          · rw [take_map_succ hY, List.map_append]
            exact Paired.snoc' ((a3.mono s4).monoT (cells_nol _) t5) (at4.monoT (Cell.D_nol _) t5)
      intro σ1 H3 hI
      refine ex_2 hI fun c1 us hJ => ?_
      have eI := hJ.1
      have s3 := hJ.2.1
      have h3 := hJ.2.2.1
      have a3 := hJ.2.2.2
      clear hI hJ
      subst eI
      rw [← ly, List.take_length] at a3
      have h3l := s3 _ _ h2
      have lz := a2.length
      have lu := a3.length
      rw [List.length_map] at lz
      rw [List.length_map, List.length_map] at lu
      have fz := stack_few (ts := ts.take i) (r := 0) fun t ht => (hts t (List.mem_of_mem_take ht)).2.2.1
      have fz2 : 300 * (ts.take i).length ≤ 300 * 30 := Nat.mul_le_mul_left _ (by rw [List.length_take]; omega)
      refine ⟨l, m, zs, us, rfl, rfl, h3l, h3, Nat.le_of_lt (big (by omega)), ?_⟩
      have t5 : SameT H3 (upd H3 l (.lst (zs ++ us))) := SameT.put h3l
      have hp5 := t5 _ _ (s3 _ _ hp)
      refine ⟨_, rfl, _, rfl, p, _, (0 : Int), _, rfl, rfl, SqT.of hp5, rfl, _, _, rfl, rfl, ?_⟩
      have er : ((rowsL (ts.take i) : Nat) : Int) + (X.R : Int) = ((rowsL (ts.take (i + 1)) : Nat) : Int) := by rw [tk, rows_snoc]; omega
      dsimp only [gName]
      rw [er]
      refine ⟨_, zs ++ us, rfl, fun b o e => ?_, upd_same, ?_⟩
      · rw [upd_ne (ne_of_none e hl)]
        exact s3 _ _ (s2 _ _ e)
      · rw [tk, stack_snoc, List.map_append, Nat.zero_add]
        exact Paired.app ((a2.mono s3).monoT (cells_nol _) t5) (a3.monoT (cells_nol _) t5)
    intro σ H2 hI
    refine ex_2 hI fun c3 zs hJ => ?_
    have eI := hJ.1
    have s2 := hJ.2.1
    have h2 := hJ.2.2.1
    have a2 := hJ.2.2.2
    clear hI hJ
    subst eI
    rw [← lx, List.take_length] at a2 ⊢
    obtain ⟨t0, ht0⟩ : ∃ t0, ts[0]? = some t0 := by
      cases ts with
      | nil => exact absurd rfl hne
      | cons t0 _ => exact ⟨t0, rfl⟩
    obtain ⟨x0, hx0, ax0⟩ := Paired.get1 (i := 0) (a := t0.D) rxs (by rw [List.getElem?_map, ht0]; rfl)
    have eC := (hts t0 (List.mem_of_getElem? ht0)).2.1
    obtain ⟨p, l2, ys, rfl, hp, hl2, ry⟩ := tab_inv (ax0.mono s2)
    rw [eC] at hp
    refine ⟨_, rfl, _, rfl, pl, xs, (0 : Int), _, rfl, rfl, SqL.of (s2 _ _ hpl), atI_nat (j := 0) hx0, p, _, (1 : Int), _, rfl, rfl, SqT.of hp, rfl, _, rfl, by show 3 ≤ sizeLine; decide, fun o ho => ?_⟩
    have s3 := Same.upd_new (o := .tup [.int ((rowsL ts : Nat) : Int), .int (C : Int), .ref l]) ho
    exact q _ _ (s2.trans s3) (tab_mk upd_same (s3 _ _ h2) (a2.mono s3)) (FreshT.of upd_same hl)

end
/-! ### the bands' tables -/
noncomputable def spBandTable : Sp := fun vs H Q _ => ∃ (v u : V) (R C : Nat) (cs : List Cell) (b : Nat × Nat), vs = [v, u] ∧ At H (tabD R C cs) v ∧ At H (bandD b) u ∧ Tiles R C cs ∧ BandOk R cs b ∧ cs.length ≤ 1000 ∧
  ∀ v' H', Same H H' → At (less H H') (partT C cs b).D v' → Q v' H'
theorem band_inv {H : Hp} {b : Nat × Nat} {v : V} (h : At H (bandD b) v) : ∃ a, v = .ref a ∧ H a = some (.tup [.int (b.1 : Int), .int (b.2 : Int)]) := by
  obtain ⟨a, xs, rfl, ha, r⟩ := h.tup_inv
  refine ⟨a, rfl, ?_⟩
  cases r with
  | cons h1 r =>
    cases r with
    | cons h2 r =>
      cases r
      rw [h1.int_inv, h2.int_inv] at ha
      exact ha
section
variable {P : Program} {w : World} {K : PySem.W.Frag} {mg : Str → Option Value} {base : Heap}
theorem sc_band_table : FnScope ["table", "band"] ["table", "band"] (defScope (top 19)) := ⟨rfl, rfl, rfl, by decide +kernel, rfl, by decide +kernel, by decide +kernel⟩
set_option maxHeartbeats 4000000 in
theorem ok_band_table (c_cut_out : Cal P w K mg base 3 "cut_out" ["table", "top", "left", "height", "width"] spCutOut) (f : Addr) (fd : FuncData) (F : Fun K "band_table" "band_table" (top 19) f fd) : FnOk P w K mg base CX0 4 f fd ["table", "band"] spBandTable := by
  refine F.ok sc_band_table (fun vs H Q E h => ?_) (fun cdv A outer s H vs Q E hr h => ?_)
  · obtain ⟨v, u, R, C, cs, b, rfl, _⟩ := h; rfl
  · obtain ⟨v, u, R, C, cs, b, rfl, hv, hu, tl, ok, few, q⟩ := h
    have hr_cut_out : Room 3 (A.deeper (envOfC "band_table" (defScope (top 19)) s.heap.objs.size f cdv)) := hr.mono (by decide)
    obtain ⟨p, l, ys, rfl, hp, hl, ry⟩ := tab_inv hv
    obtain ⟨a, rfl, ha⟩ := band_inv hu
    have lt := ok.lt
    have le := ok.le
    have eb : (b.2 : Int) - (b.1 : Int) = ((b.2 - b.1 : Nat) : Int) := by omega
    refine ⟨_, (pss_one (ps_ret (pe_cal c_cut_out hr_cut_out rfl (pa_cons (pv 0) (pa_cons (pe_ix (ix_tupK (K := K) rfl) (pv 1) pe_int (fun _ _ => rfl)) (pa_cons pe_int (pa_cons (pe_op op_sub (pe_ix (ix_tupK (K := K) rfl) (pv 1) pe_int (fun _ _ => rfl)) (pe_ix (ix_tupK (K := K) rfl) (pv 1) pe_int (fun _ _ => rfl))) (pa_cons (pe_ix (ix_tupK (K := K) rfl) (pv 0) pe_int (fun _ _ => rfl)) pa_nil)))))))), ?_⟩
    refine ⟨_, rfl, _, rfl, a, _, (0 : Int), _, rfl, rfl, SqT.of ha, rfl, _, rfl, a, _, (1 : Int), _, rfl, rfl, SqT.of ha, rfl, _, rfl, a, _, (0 : Int), _, rfl, rfl, SqT.of ha, rfl, _, _, rfl, rfl, _, rfl, p, _, (1 : Int), _, rfl, rfl, SqT.of hp, rfl, ?_⟩
    dsimp only [tNil]
    rw [eb]
    exact ⟨.ref p, R, C, cs, b.1, 0, b.2 - b.1, C, rfl, hv, few, ok.no tl.toPart, fun v' H' s' at' fr => q v' H' s' (tab_less s' at' fr)⟩

end
/-! ### the law's own bands and tables -/
noncomputable def spLOpen : Sp := fun vs H Q _ => ∃ (v : V) (R C : Nat) (cs : List Cell) (n : Nat), vs = [v, .int n] ∧ At H (tabD R C cs) v ∧ ∀ b H', Same H H' → b = openB n cs → Q (.bl b) H'
section
variable {P : Program} {w : World} {K : PySem.W.Frag} {mg : Str → Option Value} {base : Heap}
theorem sc__law_open : FnScope ["_law_table_here", "_law_line", "_law_cell_here"] ["_law_table_here", "_law_line"] (defScope (top 35)) := ⟨rfl, rfl, rfl, by decide +kernel, rfl, by decide +kernel, by decide +kernel⟩
set_option maxHeartbeats 4000000 in
theorem ok__law_open (T : Txt mg) (f : Addr) (fd : FuncData) (F : Fun K "_law_open" "_law_open" (top 35) f fd) : FnOk P w K mg base CX0 1 f fd ["_law_table_here", "_law_line"] spLOpen := by
  refine F.ok sc__law_open (fun vs H Q E h => ?_) (fun cdv A outer s H vs Q E hr h => ?_)
  · obtain ⟨v, R, C, cs, n, rfl, _⟩ := h; rfl
  · obtain ⟨v, R, C, cs, n, rfl, ht, q⟩ := h
    obtain ⟨p, l, ys, rfl, hp, hl, ry⟩ := tab_inv ht
    have lx := ry.length
    rw [List.length_map] at lx
    refine ⟨_, (pss_cons (ps_for PassesOwn.never rfl (pi_listK (K := K) rfl (pe_ix (ix_tupK (K := K) rfl) (pv 0) pe_int (fun _ _ => rfl))) (pg_name (i := 2) sc__law_open.nd rfl (by first | exact Or.inl rfl | exact Or.inr rfl)) (pss_one (ps_if (PW.pt (pw_and (pt_cmpR op_lt (pe_ix (ix_tupK (K := K) rfl) (pv 2) pe_int (fun _ _ => rfl)) (pv 1) (nomark _)) (pw_and1 (pt_cmpR op_lt (pv 1) (pe_op op_add (pe_ix (ix_tupK (K := K) rfl) (pv 2) pe_int (fun _ _ => rfl)) (pe_ix (ix_tupK (K := K) rfl) (pv 2) pe_int (fun _ _ => rfl))) (nomark _))))) (pss_one (ps_ret pe_bl)) pss_nil)))
      (pss_one (ps_ret pe_bl))), ?_⟩
    refine ⟨_, rfl, p, _, (2 : Int), _, rfl, rfl, SqT.of hp, rfl, l, rfl, ⟨_, SqL.of hl⟩, ?_⟩
    refine for_list (K := K) (a := l) (xs := ys) (fun i σ H2 => ∃ (c2 : Option V), σ = [some (.ref p), some (.int n), c2] ∧ Same H H2 ∧ (cs.take i).any (spansB n) = false)
      ⟨none, rfl, fun _ _ z => z, rfl⟩ (fun i σ H2 _ ⟨_, _, s2, _⟩ => SqL.of (s2 _ _ hl)) ?_ ?_
    · intro i x σ H2 hi hI
      refine ex_1 hI fun c2 hJ => ?_
      have eI := hJ.1
      have s2 := hJ.2.1
      have f2 := hJ.2.2
      clear hI hJ
      subst eI
      obtain ⟨d, hd, ad⟩ := Paired.get2 ry hi
      rw [List.getElem?_map] at hd
      obtain ⟨X, hX, rfl⟩ := Option.map_eq_some_iff.mp hd
      obtain ⟨b, wb, ws, rfl, hb, hwb, _⟩ := Cell.at_inv (ad.mono s2)
      have tk : (cs.take (i + 1)).any (spansB n) = spansB n X := by
        rw [List.take_add_one, hX, List.any_append, f2]
        show (false || (spansB n X || false)) = _
        rw [Bool.or_false, Bool.false_or]
      have go : spansB n X = false → ∃ (c2 : Option V), [some (V.ref p), some (V.int n), some (V.ref b)] = [some (V.ref p), some (V.int n), c2] ∧ Same H H2 ∧ (cs.take (i + 1)).any (spansB n) = false := fun z => ⟨_, rfl, s2, by rw [tk, z]⟩
      refine ⟨_, rfl, b, _, (0 : Int), _, rfl, rfl, SqT.of hb, rfl, _, rfl, _, _, rfl, rfl, _, rfl, ?_⟩
      refine ite2 (fun h1 => ?_) (fun h1 => iteF (go ?_))
      · have h1 := of_decide_eq_true h1
        refine ⟨_, rfl, _, rfl, b, _, (0 : Int), _, rfl, rfl, SqT.of hb, rfl, _, rfl, b, _, (2 : Int), _, rfl, rfl, SqT.of hb, rfl, _, _, rfl, rfl, _, _, rfl, rfl, _, rfl, ?_⟩
        refine ite2 (fun h2 => ?_) (fun h2 => go ?_)
        · have h2 := of_decide_eq_true h2
          refine q false H2 s2 ?_
          have sp : spansB n X = true := by
            unfold spansB
            exact decide_eq_true ⟨by omega, by omega⟩
          unfold openB
          rw [List.any_eq_true.mpr ⟨X, List.mem_of_getElem? hX, sp⟩]
          rfl
        · unfold spansB
          rw [decide_eq_false]
          intro z
          exact h2 (decide_eq_true (by have := z.2; omega))
      · unfold spansB
        rw [decide_eq_false]
        intro z
        exact h1 (decide_eq_true (by have := z.1; omega))
    intro σ H2 hI
    refine ex_1 hI fun c2 hJ => ?_
    have s2 := hJ.2.1
    have f2 := hJ.2.2
    rw [← lx, List.take_length] at f2
    refine q true H2 s2 ?_
    unfold openB
    rw [f2]
    rfl

theorem nd_lbn1 : (["_law_line", "_law_table_here"] : List Str).Nodup := by decide +kernel
theorem nd_lbn2 : (["_law_k", "_law_lines"] : List Str).Nodup := by decide +kernel
noncomputable abbrev lbn1Scope : Scope := scopeOf (exprOf (nth (defBody (top 36)) 0))
noncomputable abbrev lbn2Scope : Scope := scopeOf (exprOf (nth (defBody (top 36)) 1))
noncomputable def spLBands : Sp := fun vs H Q _ => ∃ (v : V) (R C : Nat) (cs : List Cell), vs = [v] ∧ At H (tabD R C cs) v ∧ Tiles R C cs ∧ 1 ≤ R ∧ R ≤ 17 ∧ ∀ l xs H', Same H H' → H' l = some (.lst xs) → H l = none → AtL H' ((bandsL R cs).map bandD) xs → Q (.ref l) H'
theorem sc__law_bands : FnScope ["_law_table_here", "_law_lines"] ["_law_table_here"] (defScope (top 36)) := ⟨rfl, rfl, rfl, by decide +kernel, rfl, by decide +kernel, by decide +kernel⟩
set_option maxHeartbeats 4000000 in
theorem ok__law_bands (T : Txt mg) (c__law_open : Cal P w K mg base 1 "_law_open" ["_law_table_here", "_law_line"] spLOpen) (f : Addr) (fd : FuncData) (F : Fun K "_law_bands" "_law_bands" (top 36) f fd) : FnOk P w K mg base CX0 2 f fd ["_law_table_here"] spLBands := by
  refine F.ok sc__law_bands (fun vs H Q E h => ?_) (fun cdv A outer s H vs Q E hr h => ?_)
  · obtain ⟨v, R, C, cs, rfl, _⟩ := h; rfl
  · obtain ⟨v, R, C, cs, rfl, ht, tl, R1, R2, q⟩ := h
    have hr__law_open : Room 1 (A.deeper (envOfC "_law_bands" (defScope (top 36)) s.heap.objs.size f cdv)) := hr.mono (by decide)
    obtain ⟨p, l, ys, rfl, hp, hl, ry⟩ := tab_inv ht
    have co_lbn1 := compOk_def (X := (cxOf CX0 P w K mg base ["_law_table_here", "_law_lines"] "_law_bands" (defScope (top 36)) f cdv A outer s H E).nox) (N1 := ["_law_line", "_law_table_here"]) (cap := [none, some 0]) (scope := lbn1Scope) (sc := defScope (top 36)) (s.heap.objs.size + 1) rfl rfl rfl
      (by decide +kernel) (by decide +kernel) (by decide +kernel) rfl (by
        intro i hi x j e1 e2
        match i, hi, e1, e2 with
        | 0, _, e1, e2 => cases e2
        | 1, _, e1, e2 => cases e1; cases e2; exact ⟨rfl, rfl, rfl⟩)
    have co_lbn2 := compOk_def (X := (cxOf CX0 P w K mg base ["_law_table_here", "_law_lines"] "_law_bands" (defScope (top 36)) f cdv A outer s H E).nox) (N1 := ["_law_k", "_law_lines"]) (cap := [none, some 1]) (scope := lbn2Scope) (sc := defScope (top 36)) (s.heap.objs.size + 1) rfl rfl rfl
      (by decide +kernel) (by decide +kernel) (by decide +kernel) rfl (by
        intro i hi x j e1 e2
        match i, hi, e1, e2 with
        | 0, _, e1, e2 => cases e2
        | 1, _, e1, e2 => cases e1; cases e2; exact ⟨rfl, rfl, rfl⟩)
    have eR : ((R : Int) + 1).toNat = R + 1 := by omega
    refine ⟨_, (pss_cons (ps_set (i := 1) sc__law_bands.nd rfl (by first | exact Or.inl rfl | exact Or.inr rfl) (pe_comp co_lbn1 rfl (pi_range1 rfl T.range (pa_cons (pe_op op_add (pe_ix (ix_tupK (K := K) rfl) (pv 0) pe_int (fun _ _ => rfl)) pe_int) pa_nil)) (fun _ _ _ _ => (pg_name (i := 0) nd_lbn1 rfl (by first | exact Or.inl rfl | exact Or.inr rfl) (Or.inr rfl))) (fun _ _ _ _ => (pif_one (pt_val (pe_cal c__law_open hr__law_open rfl (pa_cons (pv 1) (pa_cons (pv 0) pa_nil)))))) (fun _ _ _ _ => (pv 0))))
      (pss_one (ps_ret (pe_comp co_lbn2 rfl (pi_range1 rfl T.range (pa_cons (pe_op op_sub (pe_callB (call_lenK (K := K) rfl) (by rfl) T.len PySem.boot_len (pa_cons (pv 1) pa_nil)) pe_int) pa_nil)) (fun _ _ _ _ => (pg_name (i := 0) nd_lbn2 rfl (by first | exact Or.inl rfl | exact Or.inr rfl) (Or.inr rfl))) (fun _ _ _ _ => pif_nil) (fun _ _ _ _ => (pe_tup (pa_cons (pe_ix (ix_listK (K := K) rfl) (pv 1) (pv 0) (fun _ _ => rfl)) (pa_cons (pe_ix (ix_listK (K := K) rfl) (pv 1) (pe_op op_add (pv 0) pe_int) (fun _ _ => rfl)) pa_nil)))))))), ?_⟩
    refine ⟨_, rfl, p, _, (0 : Int), _, rfl, rfl, SqT.of hp, rfl, _, _, rfl, rfl, (R : Int) + 1, rfl, by omega, by omega, fun m hm => ?_⟩
    rw [eR]
    refine comp_range (lo := 0) (n := R + 1) (fun j σ1 H2 => ∃ (c1 : Option V), σ1 = [c1, some (.ref p)] ∧ Same H H2 ∧ H2 m = some (.lst (((List.range j).filter (fun n => openB n cs)).map fun (n : Nat) => V.int (n : Int))))
      ⟨none, rfl, Same.upd_new hm, upd_same⟩ ?_ ?_
    · intro j σ1 H2 hj hI
      refine ex_1 hI fun c1 hJ => ?_
      have eI := hJ.1
      have s2 := hJ.2.1
      have h2 := hJ.2.2
      clear hI hJ
      subst eI
      have ej : (0 : Int) + (j : Int) = ((j : Nat) : Int) := by omega
      dsimp only [gName]
      rw [ej]
      refine ⟨_, rfl, _, rfl, .ref p, R, C, cs, j, rfl, ht.mono s2, fun b H3 s3 eb => ⟨b, rfl, ?_⟩⟩
      subst eb
      refine ite2 (fun hb => ?_) (fun hb => ?_)
      · refine ⟨_, rfl, _, s3 _ _ h2, ?_, ?_⟩
        · rw [List.length_map]
          have := List.length_filter_le (fun n => openB n cs) (List.range j)
          rw [List.length_range] at this
          exact small1000 (by omega)
        · refine ⟨_, rfl, fun b' o e => ?_, ?_⟩
          · rw [upd_ne (ne_of_none e hm)]
            exact s3 _ _ (s2 _ _ e)
          · rw [range_take_succ, if_pos hb, List.map_append]
            exact upd_same
      · refine ⟨_, rfl, s2.trans s3, ?_⟩
        rw [range_take_succ, if_neg hb, List.append_nil]
        exact s3 _ _ h2
    intro σ1 H2 hI
    refine ex_1 hI fun c1 hJ => ?_
    have eI := hJ.1
    have s2 := hJ.2.1
    have h2 := hJ.2.2
    clear hI hJ
    subst eI
    rw [ends_filter tl.toPart R1] at h2
    have el := ends_len R cs
    have ef := ends_few (R := R) (cs := cs) R1
    dsimp only [gName]
    have eL : ((((endsL R cs).map fun (n : Nat) => V.int (n : Int)).length : Int) - 1).toNat = (bandsL R cs).length := by rw [List.length_map]; omega
    refine ⟨_, rfl, m, _, rfl, .inl (SqL.of h2), _, _, rfl, rfl, (((endsL R cs).map fun (n : Nat) => V.int (n : Int)).length : Int) - 1, rfl, by rw [List.length_map]; omega, by rw [List.length_map]; omega, fun k hk => ?_⟩
    rw [eL]
    refine comp_range (lo := 0) (n := (bandsL R cs).length) (fun j σ1 H3 => ∃ (c1 : Option V) (zs : List V), σ1 = [c1, some (.ref m)] ∧ Same H2 H3 ∧ H3 k = some (.lst zs) ∧ AtL H3 (((bandsL R cs).take j).map bandD) zs)
      ⟨none, [], rfl, Same.upd_new hk, upd_same, .nil⟩ ?_ ?_
    · intro j σ1 H3 hj hI
      refine ex_2 hI fun c1 zs hJ => ?_
      have eI := hJ.1
      have s3 := hJ.2.1
      have h3 := hJ.2.2.1
      have a3 := hJ.2.2.2
      clear hI hJ
      subst eI
      have ej : (0 : Int) + (j : Int) = ((j : Nat) : Int) := by omega
      have ej1 : ((j : Nat) : Int) + 1 = ((j + 1 : Nat) : Int) := by omega
      obtain ⟨x, y, g1, g2, g3⟩ := bands_range hj
      have v1 : ((endsL R cs).map fun (n : Nat) => V.int (n : Int))[j]? = some (.int (x : Int)) := by rw [List.getElem?_map, g1]; rfl
      have v2 : ((endsL R cs).map fun (n : Nat) => V.int (n : Int))[j + 1]? = some (.int (y : Int)) := by rw [List.getElem?_map, g2]; rfl
      have m3 := s3 _ _ h2
      dsimp only [gName]
      rw [if_pos rfl, ej]
      refine ⟨_, rfl, _, rfl, m, _, (j : Int), _, rfl, rfl, SqL.of m3, atI_nat v1, _, rfl, _, rfl, _, _, rfl, rfl, m, _, (j : Int) + 1, _, rfl, rfl, SqL.of m3, by rw [ej1]; exact atI_nat v2, by show 2 ≤ sizeLine; decide, fun o ho => ?_⟩
      have s4 := Same.upd_new (o := .tup [.int (x : Int), .int (y : Int)]) ho
      have o4 := upd_same (H := H3) (a := o) (o := .tup [.int (x : Int), .int (y : Int)])
      generalize hH4 : upd H3 o (.tup [.int (x : Int), .int (y : Int)]) = H4 at *
      refine ⟨zs, s4 _ _ h3, ?_, ?_⟩
      · have h1 := a3.length
        rw [List.length_map, List.length_take] at h1
        exact small1000 (by omega)
      · have t5 : SameT H4 (upd H4 k (.lst (zs ++ [.ref o]))) := SameT.put (s4 _ _ h3)
        refine ⟨_, zs ++ [.ref o], rfl, fun b' o' e => ?_, upd_same, ?_⟩
        · rw [upd_ne (ne_of_none e hk)]
          exact s4 _ _ (s3 _ _ e)
        · rw [take_map_succ g3]
          exact Paired.snoc' ((a3.mono s4).monoT (bands_nol _) t5) (.tup (t5 _ _ o4) (.cons (.int _) (.cons (.int _) .nil)))
    intro σ1 H3 hI
    refine ex_2 hI fun c1 zs hJ => ?_
    have s3 := hJ.2.1
    have h3 := hJ.2.2.1
    have a3 := hJ.2.2.2
    rw [List.take_length] at a3
    exact q k zs H3 (s2.trans s3) h3 (s2.free hk) a3

end
end KL

set_option Elab.async false
set_option linter.all false
set_option autoImplicit false
set_option maxRecDepth 100000
namespace KL
open PySem L2 GT PyProof.Rows
/-! ### the words of the cell at a place -/
theorem strs_eq' {H : Hp} : ∀ {ws : List Str} {vs : List V}, AtL H (ws.map Dd.str) vs → vs = ws.map V.str
  | [], _, .nil => rfl
  | w :: ws, v :: vs, .cons h r => by
    rw [h.str_inv, strs_eq' r]
    rfl
theorem cellw_inv {H : Hp} {x : Cell} {v : V} (h : At H x.D v) : ∃ b wb, v = .ref b ∧ H b = some (.tup [.int x.top, .int x.left, .int x.h, .int x.w, .ref wb]) ∧ H wb = some (.tup (x.words.map V.str)) := by
  obtain ⟨b, wb, ws, rfl, hb, hwb, aws⟩ := Cell.at_inv h
  rw [strs_eq' aws] at hwb
  exact ⟨b, wb, rfl, hb, hwb⟩
theorem cellw_get {H : Hp} {cs : List Cell} {ys : List V} {i : Nat} {v : V} (r : AtL H (cs.map Cell.D) ys) (h : ys[i]? = some v) : ∃ x, cs[i]? = some x ∧ At H x.D v := by
  obtain ⟨d, hd, ad⟩ := Paired.get2 r h
  rw [List.getElem?_map] at hd
  obtain ⟨s, hs, rfl⟩ := Option.map_eq_some_iff.mp hd
  exact ⟨s, hs, ad⟩
noncomputable def spWordsAt : Sp := fun vs H Q _ => ∃ (v : V) (R C : Nat) (cs : List Cell) (r c : Nat), vs = [v, .int r, .int c] ∧ At H (tabD R C cs) v ∧ GT.cov cs r c ∧ ∀ a H', Same H H' → H' a = some (.tup ((wordsP cs r c).map V.str)) → Q (.ref a) H'
section
variable {P : Program} {w : World} {K : PySem.W.Frag} {mg : Str → Option Value} {base : Heap}
theorem sc_words_at : FnScope ["table", "row", "column"] ["table", "row", "column"] (defScope (top 20)) := ⟨rfl, rfl, rfl, by decide +kernel, rfl, by decide +kernel, by decide +kernel⟩
set_option maxHeartbeats 4000000 in
theorem ok_words_at (T : Txt mg) (c_cell_at : Cal P w K mg base 2 "cell_at" ["table", "row", "column"] spCellAt) (f : Addr) (fd : FuncData) (F : Fun K "words_at" "words_at" (top 20) f fd) : FnOk P w K mg base CX0 3 f fd ["table", "row", "column"] spWordsAt := by
  refine F.ok sc_words_at (fun vs H Q E h => ?_) (fun cdv A outer s H vs Q E hr h => ?_)
  · obtain ⟨v, R, C, cs, r, c, rfl, _⟩ := h; rfl
  · obtain ⟨v, R, C, cs, r, c, rfl, ht, cv, q⟩ := h
    have hr_cell_at : Room 2 (A.deeper (envOfC "words_at" (defScope (top 20)) s.heap.objs.size f cdv)) := hr.mono (by decide)
    obtain ⟨p, l, ys, rfl, hp, hl, ry⟩ := tab_inv ht
    refine ⟨_, (pss_one (ps_ret (pe_ix (ix_tupK (K := K) rfl) (pe_ix (ix_listK (K := K) rfl) (pe_ix (ix_tupK (K := K) rfl) (pv 0) pe_int (fun _ _ => rfl)) (pe_cal c_cell_at hr_cell_at rfl (pa_cons (pv 0) (pa_cons (pv 1) (pa_cons (pv 2) pa_nil)))) (fun _ _ => rfl)) pe_int (fun _ _ => rfl)))), ?_⟩
    refine ⟨_, rfl, p, _, (2 : Int), _, rfl, rfl, SqT.of hp, rfl, _, rfl, _, rfl, _, rfl, .ref p, R, C, cs, r, c, rfl, ht, (fun i x H2 s2 hx hin no => ?_), fun H2 s2 z => absurd cv z⟩
    have lx := ry.length
    rw [List.length_map] at lx
    have hi := (List.getElem?_eq_some_iff.mp hx).1
    obtain ⟨y, hy⟩ : ∃ y, ys[i]? = some y := ⟨_, List.getElem?_eq_getElem (by omega)⟩
    obtain ⟨x', hx', ay⟩ := cellw_get ry hy
    rw [hx] at hx'
    cases hx'
    obtain ⟨b, wb, rfl, hb, hwb⟩ := cellw_inv (ay.mono s2)
    exact ⟨l, ys, (i : Int), .ref b, rfl, rfl, SqL.of (s2 _ _ hl), atI_nat hy, b, _, (4 : Int), _, rfl, rfl, SqT.of hb, rfl, q wb H2 s2 (by rw [wordsP_eq hx hin no]; exact hwb)⟩
end
end KL

set_option Elab.async false
set_option linter.all false
set_option autoImplicit false
set_option maxRecDepth 100000
namespace KL
open PySem L2 GT PyProof.Rows
/-! ### the bands in order -/
theorem sub2 {a b : Str} {m n : Addr} (ne : (a == b) = false) {x : Str} {c : Addr} (h : ([(a, m), (b, n)] : List (Str × Addr)).lookup x = some c) : ([(b, n), (a, m)] : List (Str × Addr)).lookup x = some c := by
  rw [List.lookup_cons] at h
  rw [List.lookup_cons]
  cases e1 : x == a with
  | true =>
    rw [e1] at h
    have ea : x = a := eq_of_beq e1
    have e2 : (x == b) = false := by rw [ea]; exact ne
    rw [e2, List.lookup_cons, e1]
    exact h
  | false =>
    rw [e1, List.lookup_cons] at h
    cases e2 : x == b with
    | true => rw [e2] at h; exact h
    | false => rw [e2] at h; cases h
theorem free2 {names : List (Str × NameKind)} {a b x : Str} (all : (names.all fun p => p.2 != .free || p.1 == a || p.1 == b) = true) (h : names.lookup x = some .free) : x = a ∨ x = b := by
  have m := PySem.mem_of_lookup h
  have := List.all_eq_true.mp all _ m
  simp only [Bool.or_eq_true, beq_iff_eq] at this
  rcases this with (z | z) | z
  · cases z
  · exact .inl z
  · exact .inr z
noncomputable def spOrdered (T : Addr) : Sp := fun vs H Q _ => ∃ (v : V) (R C : Nat) (cs : List Cell) (c : Nat), vs = [v, .int c] ∧ At H (tabD R C cs) v ∧ Tiles R C cs ∧ cs.length ≤ 300 ∧ 1 ≤ R ∧ R ≤ 16 ∧ c < C ∧ C ≤ 16 ∧ H T = some (.tbl #[]) ∧
  ∀ (v' : V) (is : List Nat) (H' : Hp), SameP T H H' → is.Perm (List.range (bandsL R cs).length) → is.Pairwise (GS.Bef (keyN R cs c)) → At H' (tabD R C (stackL 0 (is.map (partN R C cs)))) v' → Q v' H'
theorem bands_in {H : Hp} {bs : List (Nat × Nat)} {xs : List V} (a : AtL H (bs.map bandD) xs) : ∀ {is : List Nat}, (∀ i ∈ is, i < bs.length) → AtL H ((is.map fun i => bs.getD i (0, 0)).map bandD) (is.map fun i => xs.getD i .non)
  | [], _ => .nil
  | i :: is, h => by
    have hi := h i List.mem_cons_self
    have lx := a.length
    rw [List.length_map] at lx
    obtain ⟨y, hy⟩ : ∃ y, xs[i]? = some y := ⟨_, List.getElem?_eq_getElem (by omega)⟩
    obtain ⟨d, hd, ad⟩ := Paired.get2 a hy
    rw [List.getElem?_map] at hd
    obtain ⟨b, hb, rfl⟩ := Option.map_eq_some_iff.mp hd
    refine .cons ?_ (bands_in a fun j hj => h j (List.mem_cons_of_mem _ hj))
    show At H (bandD (bs.getD i (0, 0))) (xs.getD i .non)
    rw [List.getD_eq_getElem?_getD, List.getD_eq_getElem?_getD, hb, hy]
    exact ad
theorem part_bands {R C : Nat} {cs : List Cell} (is : List Nat) : ((is.map fun i => (bandsL R cs).getD i (0, 0)).map (partT C cs)) = is.map (partN R C cs) := by
  rw [List.map_map]
  rfl
section
variable {P : Program} {w : World} {K : PySem.W.Frag} {mg : Str → Option Value} {base : Heap}
theorem nd_obt : (["band", "table"] : List Str).Nodup := by decide +kernel
noncomputable abbrev obtScope : Scope := scopeOf (argOf (exprOf (nth (defBody (top 15)) 1)) 0)
theorem sc_ordered : FnScope ["table", "column", "in_turn"] ["table", "column"] (defScope (top 15)) := ⟨rfl, rfl, rfl, by decide +kernel, rfl, by decide +kernel, by decide +kernel⟩
set_option maxHeartbeats 4000000 in
theorem ok_ordered {c_lam : Addr} {T_lam : Addr} (T : Txt mg) (c_bands : Cal P w K mg base 4 "bands" ["table"] spBands) (c_stacked : Cal P w K mg base 2 "stacked" ["parts"] spStacked) (c_band_table : Cal P w K mg base 4 "band_table" ["table", "band"] spBandTable) (c_words_at : Cal P w K mg base 3 "words_at" ["table", "row", "column"] spWordsAt) (hB : BltAt mg base) (hC : PySem.W.CodeHd base c_lam T_lam) (f : Addr) (fd : FuncData) (F : Fun K "ordered" "ordered" (top 15) f fd) (hcode : fd.code = .ref c_lam) : FnOk P w K mg base CX0 7 f fd ["table", "column"] (spOrdered T_lam) := by
  refine F.okC sc_ordered (fun vs H Q E h => ?_) (fun A outer s H vs Q E hr h => ?_)
  · obtain ⟨v, R, C, cs, c, rfl, _⟩ := h; rfl
  · obtain ⟨v, R, C, cs, c, rfl, ht, tl, few, R1, R2, hc, hC2, hT, q⟩ := h
    have hr_bands : Room 4 (A.deeper (envOfC "ordered" (defScope (top 15)) s.heap.objs.size f fd.code)) := hr.mono (by decide)
    have hr_stacked : Room 2 (A.deeper (envOfC "ordered" (defScope (top 15)) s.heap.objs.size f fd.code)) := hr.mono (by decide)
    have hr_band_table : Room 4 (A.deeper (envOfC "ordered" (defScope (top 15)) s.heap.objs.size f fd.code)) := hr.mono (by decide)
    have hrL : Room 6 (A.deeper (envOfC "ordered" (defScope (top 15)) s.heap.objs.size f fd.code)) := hr.mono (by decide)
    have co_obt := compOk_def (X := (cxOf CX0 P w K mg base ["table", "column", "in_turn"] "ordered" (defScope (top 15)) f fd.code A outer s H E).nox) (N1 := ["band", "table"]) (cap := [none, some 0]) (scope := obtScope) (sc := defScope (top 15)) (s.heap.objs.size + 1) rfl rfl rfl
      (by decide +kernel) (by decide +kernel) (by decide +kernel) rfl (by
        intro i hi x j e1 e2
        match i, hi, e1, e2 with
        | 0, _, e1, e2 => cases e2
        | 1, _, e1, e2 => cases e1; cases e2; exact ⟨rfl, rfl, rfl⟩)
    refine ⟨_, (pss_cons (ps_set (i := 2) sc_ordered.nd rfl (by first | exact Or.inl rfl | exact Or.inr rfl) (pe_sortLam (K := K) (k := 3) (i1 := 0) (i2 := 1) (p0 := "band") (x1 := "table") (x2 := "column") (c1 := s.heap.objs.size + 1) (c2 := s.heap.objs.size + 1 + 1) (clos := [("table", s.heap.objs.size + 1), ("column", s.heap.objs.size + 1 + 1)]) rfl hrL (by rfl) T.sorted (pa_cons (pe_cal c_bands hr_bands rfl (pa_cons (pv 0) pa_nil)) pa_nil) hcode hC hB (by rfl) (fun x c h => sub2 (by decide +kernel) h) rfl rfl rfl rfl rfl rfl rfl rfl rfl (fun x h => free2 (by decide +kernel) h) rfl rfl rfl (by decide +kernel) (fun _ _ _ _ => rfl) (fun f1 c1 A1 o1 s1 H1 hrl => (pe_cal c_words_at (hrl.mono (by decide)) rfl (pa_cons (pv 1) (pa_cons (pe_ix (ix_tupK (K := K) rfl) (pv 0) pe_int (fun _ _ => rfl)) (pa_cons (pv 2) pa_nil)))))))
      (pss_one (ps_ret (pe_cal c_stacked hr_stacked rfl (pa_cons (pe_comp co_obt rfl (pi_listK (K := K) rfl (pv 2)) (fun _ _ _ _ => (pg_name (i := 0) nd_obt rfl (by first | exact Or.inl rfl | exact Or.inr rfl) (Or.inr rfl))) (fun _ _ _ _ => pif_nil) (fun _ _ _ _ => (pe_cal c_band_table hr_band_table rfl (pa_cons (pv 1) (pa_cons (pv 0) pa_nil))))) pa_nil))))), ?_⟩
    have bp := bands_pos (R := R) (cs := cs)
    have le2 := ends_len R cs
    have le := ends_few (R := R) (cs := cs) R1
    refine ⟨_, rfl, v, R, C, cs, rfl, ht, by omega, R1, by omega, fun l xs H1 s1 h1 a1 => ?_⟩
    have lx := a1.length
    rw [List.length_map] at lx
    have hT1 := s1 _ _ hT
    have ht1 := ht.mono s1
    have nT : ∀ a ys, H1 a = some (.tup ys) → a ≠ T_lam := fun a ys e z => by rw [z, hT1] at e; cases e
    have get : ∀ (i : Nat) (u : V), xs[i]? = some u → ∃ a b, u = .ref a ∧ (bandsL R cs)[i]? = some b ∧ H1 a = some (.tup [.int (b.1 : Int), .int (b.2 : Int)]) := fun i u hu => by
      obtain ⟨d, hd, ad⟩ := Paired.get2 a1 hu
      rw [List.getElem?_map] at hd
      obtain ⟨b, hb, rfl⟩ := Option.map_eq_some_iff.mp hd
      obtain ⟨a, rfl, ha⟩ := band_inv ad
      exact ⟨a, b, rfl, hb, ha⟩
    have nd : xs.Nodup := by
      refine List.pairwise_iff_getElem.mpr fun i j hi hj hij e => ?_
      obtain ⟨a, b, e1, hb, ha⟩ := get i _ (List.getElem?_eq_getElem hi)
      obtain ⟨a', b', e2, hb', ha'⟩ := get j _ (List.getElem?_eq_getElem hj)
      rw [e1, e2] at e
      injection e with e
      rw [e, ha'] at ha
      obtain ⟨i1, i2⟩ := List.getElem?_eq_some_iff.mp hb
      obtain ⟨j1, j2⟩ := List.getElem?_eq_some_iff.mp hb'
      have nb := List.pairwise_iff_getElem.mp (bands_nodup (R := R) (cs := cs) R1) i j i1 j1 hij
      refine nb ?_
      rw [i2, j2]
      simp only [Option.some.injEq, HO.tup.injEq, List.cons.injEq, V.int.injEq] at ha
      exact Prod.ext (by omega) (by omega)
    refine ⟨l, xs, keyN R cs c, v, .int c, #[], rfl, SqL.of h1, (fun u hu => ?_), nd, by omega, hT1, trivial, rfl, rfl, rfl, (fun i u hu H2 s2 Q' q' => ?_), fun r is H2 s2 hrn hp ho => ?_⟩
    · obtain ⟨i, hi, e⟩ := List.mem_iff_getElem.mp hu
      obtain ⟨a, b, e1, _⟩ := get i u (by rw [List.getElem?_eq_getElem hi, e])
      exact ⟨a, e1⟩
    · obtain ⟨a, b, rfl, hb, ha⟩ := get i u hu
      have ok := bands_ok tl.toPart R1 (List.mem_of_getElem? hb)
      have ha2 := s2 _ _ (nT _ _ ha) ha
      have b1 := ok.lt
      have b2 := ok.le
      refine ⟨_, rfl, _, rfl, a, _, (0 : Int), _, rfl, rfl, SqT.of ha2, rfl, _, rfl, v, R, C, cs, b.1, c, rfl, At.monoP hT1 s2 ht1, tl.all b.1 c (by omega) hc, fun a' H3 s3 h3 => q' a' H3 s3 ?_⟩
      unfold keyN
      rw [List.getD_eq_getElem?_getD, hb]
      exact h3
    -- the tables
    have lts : ∀ i ∈ is, i < (bandsL R cs).length := fun i hi => by
      have := List.mem_range.mp (hp.mem_iff.mp hi)
      omega
    have lis : is.length = (bandsL R cs).length := by rw [hp.length_eq, List.length_range]; omega
    rw [← lx] at hp
    have ab0 : AtL H1 ((is.map fun i => (bandsL R cs).getD i (0, 0)).map bandD) (is.map fun i => xs.getD i .non) := bands_in a1 lts
    have hbs : ∀ b ∈ is.map fun i => (bandsL R cs).getD i (0, 0), b ∈ bandsL R cs := fun b hb => by
      obtain ⟨i, hi, rfl⟩ := List.mem_map.mp hb
      rw [List.getD_eq_getElem?_getD, List.getElem?_eq_getElem (lts i hi)]
      exact List.getElem_mem (lts i hi)
    have lbs : (is.map fun i => (bandsL R cs).getD i (0, 0)).length = is.length := List.length_map _
    have eps := part_bands (R := R) (C := C) (cs := cs) is
    generalize hB1 : (is.map fun i => (bandsL R cs).getD i (0, 0)) = bs at *
    generalize hX1 : (is.map fun i => xs.getD i V.non) = us at *
    have s3 := Same.upd_new (o := .lst us) hrn
    have k3 := upd_same (H := H2) (a := r) (o := .lst us)
    have hT2 : ∀ d u, At H1 d u → At (upd H2 r (.lst us)) d u := fun d u z => (At.monoP hT1 s2 z).mono s3
    have ab3 : AtL (upd H2 r (.lst us)) (bs.map bandD) us := Paired.impM ab0 fun _ _ _ z => hT2 _ _ z
    have ht3 := hT2 _ _ ht1
    have s13 : SameP T_lam H1 (upd H2 r (.lst us)) := s2.trans s3.p
    generalize hH3 : upd H2 r (.lst us) = H3 at *
    have lu := ab3.length
    rw [List.length_map] at lu
    dsimp only [gName]
    refine ⟨_, rfl, r, rfl, ⟨_, SqL.of k3⟩, fun m hm => ?_⟩
    have smm := Same.upd_new (o := .lst []) hm
    have mm := upd_same (H := H3) (a := m) (o := .lst [])
    have mne : ∀ a o, (upd H3 m (.lst [])) a = some o → a = m ∨ H3 a = some o := fun a o e => by
      by_cases q : a = m
      · exact .inl q
      · rw [upd_ne q] at e; exact .inr e
    refine comp_list (K := K) (a := r) (xs := us) (fun i σ1 H4 => ∃ (c1 : Option V) (zs : List V), σ1 = [c1, some v] ∧ Same H3 H4 ∧ H4 m = some (.lst zs) ∧ AtL (less (upd H3 m (.lst [])) H4) (((bs.take i).map (partT C cs)).map Tab.D) zs)
      ⟨none, [], rfl, smm, mm, .nil⟩ (fun i σ1 H4 _ ⟨_, _, _, s4, _, _⟩ => SqL.of (s4 _ _ k3)) ?_ ?_
    · intro i x σ1 H4 hi hI
      refine ex_2 hI fun c1 zs hJ => ?_
      have eI := hJ.1
      have s4 := hJ.2.1
      have h4 := hJ.2.2.1
      have a4 := hJ.2.2.2
      clear hI hJ
      subst eI
      obtain ⟨d, hd, ad⟩ := Paired.get2 ab3 hi
      rw [List.getElem?_map] at hd
      obtain ⟨b, hb, rfl⟩ := Option.map_eq_some_iff.mp hd
      dsimp only [gName]
      rw [if_pos rfl]
      refine ⟨_, rfl, _, rfl, v, x, R, C, cs, b, rfl, ht3.mono s4, ad.mono s4, tl, bands_ok tl.toPart R1 (hbs b (List.mem_of_getElem? hb)), by omega, fun v' H5 s5 at5 => ⟨zs, s5 _ _ h4, ?_, ?_⟩⟩
      · have z1 := a4.length
        rw [List.length_map, List.length_map, List.length_take] at z1
        exact small1000 (by omega)
      · refine ⟨_, zs ++ [v'], rfl, fun b' o e => ?_, upd_same, ?_⟩
        · rw [upd_ne (ne_of_none e hm)]
          exact s5 _ _ (s4 _ _ e)
        · rw [less_upd mm, take_map_succ hb, List.map_append]
          refine Paired.snoc' (a4.mono (less_mono s5)) (at5.mono (less_less fun a xs e => ?_))
          rcases mne a _ e with rfl | e
          · exact ⟨_, h4⟩
          · exact ⟨_, s4 _ _ e⟩
    intro σ1 H4 hI
    refine ex_2 hI fun c1 zs hJ => ?_
    have s4 := hJ.2.1
    have h4 := hJ.2.2.1
    have a4 := hJ.2.2.2
    clear hI hJ
    rw [← lu, List.take_length, eps] at a4
    have solid : ∀ t ∈ is.map (partN R C cs), Tiles t.R C t.cs ∧ t.C = C ∧ t.cs.length ≤ 300 ∧ t.R ≤ 300 := fun t ht => by
      rw [← eps] at ht
      obtain ⟨b, hb, rfl⟩ := List.mem_map.mp ht
      have ok := bands_ok tl.toPart R1 (hbs b hb)
      have tt := ok.tiles tl
      have z1 := ok.lt
      have z2 := ok.le
      have e : (partT C cs b).R = b.2 - b.1 := rfl
      exact ⟨tt, rfl, few_of tt (by omega) (by omega), by omega⟩
    have er := rows_order tl R1 hp
    refine ⟨.ref m, is.map (partN R C cs), C, rfl, .lst h4 (a4.mono less_sub), ?_, by rw [List.length_map]; omega, solid, fun v' H5 s5 at5 _ => ?_⟩
    · intro z
      have := congrArg List.length z
      rw [List.length_map, List.length_nil] at this
      omega
    · rw [er] at at5
      exact q v' is H5 ((s1.p.trans s13).trans ((s4.trans s5).p)) hp ho at5
end
end KL

set_option Elab.async false
set_option linter.all false
set_option autoImplicit false
set_option maxRecDepth 100000
namespace KL
open PySem L2 GT PyProof.Rows
/-! ### fewer words -/
noncomputable def Geo (x y : Cell) : Prop := y.top = x.top ∧ y.left = x.left ∧ y.h = x.h ∧ y.w = x.w ∧ WordsOk y.words
theorem Geo.inC {x y : Cell} (g : Geo x y) {r c : Nat} : GT.inC y r c ↔ GT.inC x r c := by
  obtain ⟨g1, g2, g3, g4, _⟩ := g
  unfold GT.inC
  rw [g1, g2, g3, g4]
theorem tiles_geo {R C : Nat} {cs ds : List Cell} (p : Paired Geo cs ds) (t : Tiles R C cs) : Tiles R C ds := by
  have len := p.length
  have at_ : ∀ (i : Nat) (h : i < ds.length), ∃ h' : i < cs.length, Geo cs[i] ds[i] := fun i h => by
    obtain ⟨x, hx, g⟩ := Paired.get2 p (List.getElem?_eq_getElem h)
    obtain ⟨h1, e⟩ := List.getElem?_eq_some_iff.mp hx
    exact ⟨h1, by rw [e]; exact g⟩
  refine ⟨⟨fun y hy => ?_, List.pairwise_iff_getElem.mpr fun i j hi hj hij => ?_⟩, fun r c hr hc => ?_, List.pairwise_iff_getElem.mpr fun i j hi hj hij => ?_⟩
  · obtain ⟨i, hi, rfl⟩ := List.mem_iff_getElem.mp hy
    obtain ⟨h1, g⟩ := at_ i hi
    have f := t.fit _ (List.getElem_mem h1)
    obtain ⟨g1, g2, g3, g4, g5⟩ := g
    exact ⟨by rw [g3]; exact f.h1, by rw [g4]; exact f.w1, by rw [g1, g3]; exact f.down, by rw [g2, g4]; exact f.across, g5⟩
  · obtain ⟨h1, g⟩ := at_ i hi
    obtain ⟨h2, g'⟩ := at_ j hj
    have a := List.pairwise_iff_getElem.mp t.dis i j h1 h2 hij
    exact fun r c z1 z2 => a r c (g.inC.mp z1) (g'.inC.mp z2)
  · obtain ⟨x, hx, hin⟩ := t.all r c hr hc
    obtain ⟨i, hi, rfl⟩ := List.mem_iff_getElem.mp hx
    obtain ⟨_, g⟩ := at_ i (by omega)
    exact ⟨ds[i]'(by omega), List.getElem_mem _, g.inC.mpr hin⟩
  · obtain ⟨h1, g⟩ := at_ i hi
    obtain ⟨h2, g'⟩ := at_ j hj
    have a := List.pairwise_iff_getElem.mp t.ord i j h1 h2 hij
    obtain ⟨g1, g2, _⟩ := g
    obtain ⟨k1, k2, _⟩ := g'
    unfold Before at a ⊢
    rw [g1, g2, k1, k2]
    exact a
noncomputable def aba : List Str := [Str.ofString "a", Str.ofString "b", Str.ofString "a"]
theorem aba_ok (m : Nat) : WordsOk (aba.take m) := by
  have all : ∀ x ∈ aba, 1 ≤ x.length ∧ x.length ≤ 12 ∧ ∀ c ∈ x.cps.toList, c ∈ GT.signs.cps.toList := by decide +kernel
  refine ⟨by rw [List.length_take]; have : aba.length = 3 := rfl; omega, fun x hx => ?_⟩
  have := all x (List.mem_of_mem_take hx)
  exact ⟨this.1, this.2.1, this.2.2⟩
theorem strs_at (H : Hp) : ∀ ws : List Str, AtL H (ws.map Dd.str) (ws.map V.str)
  | [] => .nil
  | w :: ws => .cons (.str w) (strs_at H ws)
noncomputable def spFew (K : PySem.W.Frag) : Sp := fun vs H Q _ => ∃ (a : Addr) (ns : List Int) (v : V) (R C : Nat) (cs : List Cell), vs = [v, .ref a] ∧ SqL K H a (ns.map V.int) ∧ At H (tabD R C cs) v ∧ Tiles R C cs ∧ cs.length ≤ 300 ∧ ∀ v' cs' H', Same H H' → Tiles R C cs' → cs'.length ≤ 300 → At H' (tabD R C cs') v' → Q v' H'
section
variable {P : Program} {w : World} {K : PySem.W.Frag} {mg : Str → Option Value} {base : Heap}
theorem sc__law_few : FnScope ["_law_table_here", "_law_script", "_law_cells", "_law_at", "_law_cell_here", "_law_seed"] ["_law_table_here", "_law_script"] (defScope (top 37)) := ⟨rfl, rfl, rfl, by decide +kernel, rfl, by decide +kernel, by decide +kernel⟩
set_option maxHeartbeats 4000000 in
theorem ok__law_few (T : Txt mg) (c__law_cell : Cal P w K mg base 1 "_law_cell" ["_law_script", "_law_k"] (spCell K)) (c__law_mix : Cal P w K mg base 1 "_law_mix" ["_law_cell_here", "_law_prime", "_law_many"] spMix) (f : Addr) (fd : FuncData) (F : Fun K "_law_few" "_law_few" (top 37) f fd) : FnOk P w K mg base CX0 2 f fd ["_law_table_here", "_law_script"] (spFew K) := by
  refine F.ok sc__law_few (fun vs H Q E h => ?_) (fun cdv A outer s H vs Q E hr h => ?_)
  · obtain ⟨a, ns, v, R, C, cs, rfl, _⟩ := h; rfl
  · obtain ⟨a, ns, v, R, C, cs, rfl, hs, ht, tl, few, q⟩ := h
    have hr__law_cell : Room 1 (A.deeper (envOfC "_law_few" (defScope (top 37)) s.heap.objs.size f cdv)) := hr.mono (by decide)
    have hr__law_mix : Room 1 (A.deeper (envOfC "_law_few" (defScope (top 37)) s.heap.objs.size f cdv)) := hr.mono (by decide)
    refine ⟨_, (pss_cons (ps_if (pt_cmpR op_eq (pe_op op_mod (pe_cal c__law_cell hr__law_cell rfl (pa_cons (pv 1) (pa_cons pe_int pa_nil))) pe_int) pe_int (nomark _)) (pss_one (ps_ret (pv 0))) pss_nil)
      (pss_cons (ps_set (i := 2) sc__law_few.nd rfl (by first | exact Or.inl rfl | exact Or.inr rfl) (pe_lst pa_nil))
      (pss_cons (ps_for PassesOwn.never rfl (pi_enum (K := K) rfl rfl T.enumerate (pa_cons (pe_ix (ix_tupK (K := K) rfl) (pv 0) pe_int (fun _ _ => rfl)) pa_nil)) (pg_tupK (K := K) (n := 2) rfl rfl (pgs_cons (pg_name (i := 3) sc__law_few.nd rfl (by first | exact Or.inl rfl | exact Or.inr rfl)) (pgs_cons (pg_name (i := 4) sc__law_few.nd rfl (by first | exact Or.inl rfl | exact Or.inr rfl)) pgs_nil))) (pss_cons (ps_set (i := 5) sc__law_few.nd rfl (by first | exact Or.inl rfl | exact Or.inr rfl) (pe_op op_add (pe_cal c__law_cell hr__law_cell rfl (pa_cons (pv 1) (pa_cons pe_int pa_nil))) (pe_op op_mul (pe_op op_mul pe_int (pv 3)) (pv 3))))
      (pss_one (ps_expr (pe_bmK (K := K) rfl PySem.F.plainAttrs_list PySem.F.slot_list_append PySem.F.type_list_append mt_append (pv 2) (pa_cons (pe_op (op_catTK (K := K) rfl) (pe_slice (sl_tupK (K := K) rfl) (pv 4) po_none (po_some pe_int)) (pe_tup (pa_cons (pe_slice (sl_tup2 (K := K) rfl) (pe_tup (pa_cons pe_str (pa_cons pe_str (pa_cons pe_str pa_nil)))) po_none (po_some (pe_cal c__law_mix hr__law_mix rfl (pa_cons (pv 5) (pa_cons pe_int (pa_cons pe_int pa_nil)))))) pa_nil))) pa_nil))))))
      (pss_one (ps_ret (pe_tup (pa_cons (pe_ix (ix_tupK (K := K) rfl) (pv 0) pe_int (fun _ _ => rfl)) (pa_cons (pe_ix (ix_tupK (K := K) rfl) (pv 0) pe_int (fun _ _ => rfl)) (pa_cons (pv 2) pa_nil))))))))), ?_⟩
    refine ⟨_, rfl, a, ns, 3, rfl, hs, _, _, rfl, rfl, (by show (0 : Int) < 2; decide), rfl, _, rfl, ite2 (fun _ => ?_) (fun _ => ?_)⟩
    · exact ⟨_, rfl, q v cs H (fun _ _ z => z) tl few ht⟩
    obtain ⟨p, l, ys, rfl, hp, hl, ry⟩ := tab_inv ht
    have lx := ry.length
    rw [List.length_map] at lx
    refine ⟨by show 0 ≤ sizeLine; decide, fun u hu => ?_⟩
    have s1 := Same.upd_new (o := .lst []) hu
    have k1 := upd_same (H := H) (a := u) (o := .lst [])
    generalize hH1 : upd H u (.lst []) = H1 at *
    dsimp only [gName]
    refine ⟨_, rfl, p, _, (2 : Int), _, rfl, rfl, SqT.of (s1 _ _ hp), rfl, l, rfl, ⟨_, SqL.of (s1 _ _ hl)⟩, ?_⟩
    refine for_enum (K := K) (a := l) (xs := ys) (fun i σ H2 => ∃ (c3 c4 c5 : Option V) (ds : List Cell) (zs : List V), σ = [some (.ref p), some (.ref a), some (.ref u), c3, c4, c5] ∧ Same H H2 ∧ H2 u = some (.lst zs) ∧ AtL H2 (ds.map Cell.D) zs ∧ Paired Geo (cs.take i) ds)
      ⟨none, none, none, [], [], rfl, s1, k1, .nil, by rw [List.take_zero]; exact .nil⟩ (fun i σ H2 _ ⟨_, _, _, _, _, _, s2, _⟩ => SqL.of (s2 _ _ hl)) ?_ ?_
    · rintro i v σ H2 tp hi ⟨c3, c4, c5, ds, zs, rfl, s2, h2, a2, pg⟩ htp
      obtain ⟨X, hX, ad⟩ := cellw_get ry hi
      have fX := tl.toPart.fit X (List.mem_of_getElem? hX)
      have hiL := (List.getElem?_eq_some_iff.mp hX).1
      obtain ⟨b, wb, rfl, hb, hwb⟩ := cellw_inv (ad.mono s2)
      have s3 := Same.upd_new (o := .tup [.int (i : Int), .ref b]) htp
      have k3 := upd_same (H := H2) (a := tp) (o := .tup [.int (i : Int), .ref b])
      generalize hH3 : upd H2 tp (.tup [.int (i : Int), .ref b]) = H3 at *
      have hs3 := (s2.trans s3).seq hs
      refine ⟨tp, _, rfl, SqT.of k3, rfl, _, _, rfl, _, _, rfl, rfl, ?_⟩
      refine ⟨_, rfl, a, ns, 4, rfl, hs3, _, rfl, _, _, rfl, rfl, .inl ⟨by omega, by omega⟩, _, rfl, _, _, rfl, rfl, .inr ⟨by omega, by omega⟩, _, _, rfl, rfl, ?_⟩
      dsimp only [gName]
      generalize ns.getD 4 0 + 77 * (i : Int) * (i : Int) = seed
      obtain ⟨m, em, hm⟩ : ∃ m : Nat, seed * 48271 % 9907 % 4 = (m : Int) ∧ m < 4 := ⟨(seed * 48271 % 9907 % 4).toNat, by omega, by omega⟩
      have hb3 := s3 _ _ hb
      refine ⟨_, rfl, .inl ⟨rfl, _, SqL.of (s3 _ _ h2)⟩, _, rfl, _, rfl, b, _, rfl, SqT.of hb3, (fun z => absurd z.2 (by show ¬ HT.sIx 5 5 (some 4) = 5; decide)), fun t4 ht4 => ?_⟩
      rw [show cutV [V.int (X.top : Int), V.int (X.left : Int), V.int (X.h : Int), V.int (X.w : Int), V.ref wb] none (some 4) = [V.int (X.top : Int), V.int (X.left : Int), V.int (X.h : Int), V.int (X.w : Int)] from rfl]
      have s4 := Same.upd_new (o := .tup [V.int (X.top : Int), V.int (X.left : Int), V.int (X.h : Int), V.int (X.w : Int)]) ht4
      have k4 := upd_same (H := H3) (a := t4) (o := .tup [V.int (X.top : Int), V.int (X.left : Int), V.int (X.h : Int), V.int (X.w : Int)])
      generalize hH4 : upd H3 t4 (.tup [V.int (X.top : Int), V.int (X.left : Int), V.int (X.h : Int), V.int (X.w : Int)]) = H4 at *
      refine ⟨by show 3 ≤ sizeLine; decide, fun t5 ht5 => ?_⟩
      rw [show [V.str (Str.ofString "a"), V.str (Str.ofString "b"), V.str (Str.ofString "a")] = aba.map V.str from rfl]
      have s5 := Same.upd_new (o := .tup (aba.map V.str)) ht5
      have k5 := upd_same (H := H4) (a := t5) (o := .tup (aba.map V.str))
      generalize hH5 : upd H4 t5 (.tup (aba.map V.str)) = H5 at *
      refine ⟨_, rfl, _, _, _, rfl, by show (0 : Int) < 9907; decide, by show (0 : Int) < 4; decide, _, rfl, ?_⟩
      rw [em]
      refine ⟨t5, aba.map V.str, rfl, SqT.of k5, (fun wh => ?_), fun nw t6 ht6 => ?_⟩
      · have e3 : m = 3 := by
          have z := wh.2
          rw [HT.sIx_nat] at z
          have l3 : (aba.map V.str).length = 3 := rfl
          rw [l3] at z
          omega
        have k6 : H5 t5 = some (.tup ((aba.take m).map V.str)) := by rw [e3]; exact k5
        refine ⟨by show 1 ≤ sizeLine; decide, fun t7 ht7 => ?_⟩
        have s7 := Same.upd_new (o := .tup [V.ref t5]) ht7
        have k7 := upd_same (H := H5) (a := t7) (o := .tup [V.ref t5])
        generalize hH7 : upd H5 t7 (.tup [V.ref t5]) = H7 at *
        refine ⟨t4, t7, _, _, rfl, rfl, SqT.of (s7 _ _ (s5 _ _ k4)), SqT.of k7, (by intro z; cases z), by show 5 ≤ sizeLine; decide, (fun e => by cases e), fun _ t8 ht8 => ?_⟩
        have s8 := Same.upd_new (o := .tup ([V.int (X.top : Int), V.int (X.left : Int), V.int (X.h : Int), V.int (X.w : Int)] ++ [V.ref t5])) ht8
        have k8 := upd_same (H := H7) (a := t8) (o := .tup ([V.int (X.top : Int), V.int (X.left : Int), V.int (X.h : Int), V.int (X.w : Int)] ++ [V.ref t5]))
        generalize hH8 : upd H7 t8 (.tup ([V.int (X.top : Int), V.int (X.left : Int), V.int (X.h : Int), V.int (X.w : Int)] ++ [V.ref t5])) = H8 at *
        have s28 : Same H2 H8 := (((s3.trans s4).trans s5).trans s7).trans s8
        have h8 := s28 _ _ h2
        have t9 : SameT H8 (upd H8 u (.lst (zs ++ [.ref t8]))) := SameT.put h8
        have lz := a2.length
        rw [List.length_map] at lz
        have lds := pg.length
        rw [List.length_take] at lds
        refine ⟨u, zs, .ref t8, rfl, rfl, h8, small1000 (by omega), ?_⟩
        refine ⟨_, _, _, ds ++ [⟨X.top, X.left, X.h, X.w, aba.take m⟩], zs ++ [.ref t8], rfl, fun b' o e => ?_, upd_same, ?_, ?_⟩
        · rw [upd_ne (ne_of_none e hu)]
          exact s28 _ _ (s2 _ _ e)
        · rw [List.map_append]
          refine Paired.snoc' ((a2.mono s28).monoT (cells_nol ds) t9) ?_
          exact Cell.at_mk (ws := (aba.take m).map V.str) (t9 _ _ k8) (t9 _ _ (s8 _ _ (s7 _ _ k6))) (strs_at _ _)
        · rw [List.take_add_one, hX]
          exact Paired.snoc' pg ⟨rfl, rfl, rfl, rfl, aba_ok m⟩
      · have ec : cutV (aba.map V.str) none (some (m : Int)) = (aba.take m).map V.str := by
          match m, hm with
          | 0, _ => rfl
          | 1, _ => rfl
          | 2, _ => rfl
          | 3, _ => rfl
        rw [ec]
        have s6 := s5.trans (Same.upd_new (o := .tup ((aba.take m).map V.str)) ht6)
        have k6 := upd_same (H := H5) (a := t6) (o := .tup ((aba.take m).map V.str))
        generalize hH6 : upd H5 t6 (.tup ((aba.take m).map V.str)) = H6 at *
        refine ⟨by show 1 ≤ sizeLine; decide, fun t7 ht7 => ?_⟩
        have s7 := Same.upd_new (o := .tup [V.ref t6]) ht7
        have k7 := upd_same (H := H6) (a := t7) (o := .tup [V.ref t6])
        generalize hH7 : upd H6 t7 (.tup [V.ref t6]) = H7 at *
        refine ⟨t4, t7, _, _, rfl, rfl, SqT.of (s7 _ _ (s6 _ _ k4)), SqT.of k7, (by intro z; cases z), by show 5 ≤ sizeLine; decide, (fun e => by cases e), fun _ t8 ht8 => ?_⟩
        have s8 := Same.upd_new (o := .tup ([V.int (X.top : Int), V.int (X.left : Int), V.int (X.h : Int), V.int (X.w : Int)] ++ [V.ref t6])) ht8
        have k8 := upd_same (H := H7) (a := t8) (o := .tup ([V.int (X.top : Int), V.int (X.left : Int), V.int (X.h : Int), V.int (X.w : Int)] ++ [V.ref t6]))
        generalize hH8 : upd H7 t8 (.tup ([V.int (X.top : Int), V.int (X.left : Int), V.int (X.h : Int), V.int (X.w : Int)] ++ [V.ref t6])) = H8 at *
        have s28 : Same H2 H8 := (((s3.trans s4).trans s6).trans s7).trans s8
        have h8 := s28 _ _ h2
        have t9 : SameT H8 (upd H8 u (.lst (zs ++ [.ref t8]))) := SameT.put h8
        have lz := a2.length
        rw [List.length_map] at lz
        have lds := pg.length
        rw [List.length_take] at lds
        refine ⟨u, zs, .ref t8, rfl, rfl, h8, small1000 (by omega), ?_⟩
        refine ⟨_, _, _, ds ++ [⟨X.top, X.left, X.h, X.w, aba.take m⟩], zs ++ [.ref t8], rfl, fun b' o e => ?_, upd_same, ?_, ?_⟩
        · rw [upd_ne (ne_of_none e hu)]
          exact s28 _ _ (s2 _ _ e)
        · rw [List.map_append]
          refine Paired.snoc' ((a2.mono s28).monoT (cells_nol ds) t9) ?_
          exact Cell.at_mk (ws := (aba.take m).map V.str) (t9 _ _ k8) (t9 _ _ (s8 _ _ (s7 _ _ k6))) (strs_at _ _)
        · rw [List.take_add_one, hX]
          exact Paired.snoc' pg ⟨rfl, rfl, rfl, rfl, aba_ok m⟩
    · rintro σ H2 ⟨c3, c4, c5, ds, zs, rfl, s2, h2, a2, pg⟩
      rw [← lx, List.take_length] at pg
      have hp2 := s2 _ _ hp
      have lds := pg.length
      refine ⟨_, rfl, p, _, (0 : Int), _, rfl, rfl, SqT.of hp2, rfl, _, rfl, p, _, (1 : Int), _, rfl, rfl, SqT.of hp2, rfl, _, rfl, by show 3 ≤ sizeLine; decide, fun t ht' => ?_⟩
      have s3 := Same.upd_new (o := .tup [.int (R : Int), .int (C : Int), .ref u]) ht'
      exact q _ ds _ (s2.trans s3) (tiles_geo pg tl) (by omega) (tab_mk upd_same (s3 _ _ h2) (a2.mono s3))
end
end KL

set_option Elab.async false
set_option linter.all false
set_option autoImplicit false
set_option maxRecDepth 100000
namespace KL
open PySem L2 GT PyProof.Rows
/-! ### a band's key, and its place -/
noncomputable def spKeyL : Sp := fun vs H Q _ => ∃ (v u : V) (R C : Nat) (cs : List Cell) (b : Nat × Nat) (c : Nat), vs = [v, u, .int c] ∧ At H (tabD R C cs) v ∧ At H (bandD b) u ∧ GT.cov cs b.1 c ∧ ∀ a H', Same H H' → H' a = some (.tup ((wordsP cs b.1 c).map V.str)) → Q (.ref a) H'
section
variable {P : Program} {w : World} {K : PySem.W.Frag} {mg : Str → Option Value} {base : Heap}
theorem sc__law_key : FnScope ["_law_table_here", "_law_band", "_law_column", "_law_cell_here"] ["_law_table_here", "_law_band", "_law_column"] (defScope (top 38)) := ⟨rfl, rfl, rfl, by decide +kernel, rfl, by decide +kernel, by decide +kernel⟩
set_option maxHeartbeats 4000000 in
theorem ok__law_key (T : Txt mg) (f : Addr) (fd : FuncData) (F : Fun K "_law_key" "_law_key" (top 38) f fd) : FnOk P w K mg base CX0 1 f fd ["_law_table_here", "_law_band", "_law_column"] spKeyL := by
  refine F.ok sc__law_key (fun vs H Q E h => ?_) (fun cdv A outer s H vs Q E hr h => ?_)
  · obtain ⟨v, u, R, C, cs, b, c, rfl, _⟩ := h; rfl
  · obtain ⟨v, u, R, C, cs, b, c, rfl, ht, hu, cv, q⟩ := h
    obtain ⟨p, l, ys, rfl, hp, hl, ry⟩ := tab_inv ht
    obtain ⟨d, rfl, hd⟩ := band_inv hu
    have lx := ry.length
    rw [List.length_map] at lx
    refine ⟨_, (pss_cons (ps_for PassesOwn.never rfl (pi_listK (K := K) rfl (pe_ix (ix_tupK (K := K) rfl) (pv 0) pe_int (fun _ _ => rfl))) (pg_name (i := 3) sc__law_key.nd rfl (by first | exact Or.inl rfl | exact Or.inr rfl)) (pss_one (ps_if (PW.pt (pw_and (pt_chain op_le op_lt (pe_ix (ix_tupK (K := K) rfl) (pv 3) pe_int (fun _ _ => rfl)) (pe_ix (ix_tupK (K := K) rfl) (pv 1) pe_int (fun _ _ => rfl)) (pe_op op_add (pe_ix (ix_tupK (K := K) rfl) (pv 3) pe_int (fun _ _ => rfl)) (pe_ix (ix_tupK (K := K) rfl) (pv 3) pe_int (fun _ _ => rfl)))) (pw_and1 (pt_chain op_le op_lt (pe_ix (ix_tupK (K := K) rfl) (pv 3) pe_int (fun _ _ => rfl)) (pv 2) (pe_op op_add (pe_ix (ix_tupK (K := K) rfl) (pv 3) pe_int (fun _ _ => rfl)) (pe_ix (ix_tupK (K := K) rfl) (pv 3) pe_int (fun _ _ => rfl))))))) (pss_one (ps_ret (pe_ix (ix_tupK (K := K) rfl) (pv 3) pe_int (fun _ _ => rfl)))) pss_nil)))
      (pss_one (ps_ret pe_non))), ?_⟩
    refine ⟨_, rfl, p, _, (2 : Int), _, rfl, rfl, SqT.of hp, rfl, l, rfl, ⟨_, SqL.of hl⟩, ?_⟩
    refine for_list (K := K) (a := l) (xs := ys) (fun i σ H2 => ∃ c3 : Option V, σ = [some (.ref p), some (.ref d), some (.int c), c3] ∧ H2 = H ∧ ∀ j y, j < i → cs[j]? = some y → ¬ inC y b.1 c)
      ⟨none, rfl, rfl, fun j y hj => by omega⟩ (fun i σ H2 _ ⟨_, _, e, _⟩ => by rw [e]; exact SqL.of hl) ?_ ?_
    · intro i x σ H2 hi hI
      obtain ⟨c3, rfl, rfl, no⟩ := hI
      obtain ⟨X, hX, ad⟩ := cellw_get ry hi
      obtain ⟨e, wb, rfl, he, hwb⟩ := cellw_inv ad
      have next : ¬ inC X b.1 c → ∀ j y, j < i + 1 → cs[j]? = some y → ¬ inC y b.1 c := fun z j y hj hy => by
        by_cases z2 : j = i
        · subst z2; rw [hX] at hy; cases hy; exact z
        · exact no j y (by omega) hy
      dsimp only [gName]
      refine ⟨_, rfl, e, _, (0 : Int), _, rfl, rfl, SqT.of he, rfl, _, rfl, d, _, (0 : Int), _, rfl, rfl, SqT.of hd, rfl, _, _, rfl, rfl, _, rfl, ite2 (fun h1 => ?_) (fun h1 => ⟨false, rfl, iteF ⟨_, rfl, rfl, next fun z => h1 (decide_eq_true (by have := z.1; omega))⟩⟩)⟩
      have h1 := of_decide_eq_true h1
      refine ⟨_, rfl, e, _, (0 : Int), _, rfl, rfl, SqT.of he, rfl, _, rfl, e, _, (2 : Int), _, rfl, rfl, SqT.of he, rfl, _, _, rfl, rfl, _, _, rfl, rfl, _, rfl, ite2 (fun h2 => ?_) (fun h2 => ⟨_, rfl, rfl, next fun z => h2 (decide_eq_true (by have := z.2.1; omega))⟩)⟩
      have h2 := of_decide_eq_true h2
      refine ⟨_, rfl, e, _, (1 : Int), _, rfl, rfl, SqT.of he, rfl, _, rfl, _, _, rfl, rfl, _, rfl, ite2 (fun h3 => ?_) (fun h3 => ⟨false, rfl, iteF ⟨_, rfl, rfl, next fun z => h3 (decide_eq_true (by have := z.2.2.1; omega))⟩⟩)⟩
      have h3 := of_decide_eq_true h3
      refine ⟨_, rfl, e, _, (1 : Int), _, rfl, rfl, SqT.of he, rfl, _, rfl, e, _, (3 : Int), _, rfl, rfl, SqT.of he, rfl, _, _, rfl, rfl, _, _, rfl, rfl, _, rfl, ite2 (fun h4 => ?_) (fun h4 => ⟨_, rfl, rfl, next fun z => h4 (decide_eq_true (by have := z.2.2.2; omega))⟩)⟩
      have h4 := of_decide_eq_true h4
      have hin : inC X b.1 c := ⟨by omega, by omega, by omega, by omega⟩
      exact ⟨_, rfl, e, _, (4 : Int), _, rfl, rfl, SqT.of he, rfl, q wb H2 (fun _ _ z => z) (by rw [wordsP_eq hX hin no]; exact hwb)⟩
    · intro σ H2 hI
      obtain ⟨c3, rfl, rfl, no⟩ := hI
      obtain ⟨x, hx, hin⟩ := cv
      obtain ⟨i, hi, e⟩ := List.mem_iff_getElem.mp hx
      exact absurd hin (no i x (by omega) (by rw [List.getElem?_eq_getElem hi, e]))
end
end KL

set_option Elab.async false
set_option linter.all false
set_option autoImplicit false
set_option maxRecDepth 100000
namespace KL
open PySem L2 GT PyProof.Rows
/-! ### the rows ahead of a band -/
noncomputable def spPlace : Sp := fun vs H Q _ => ∃ (v : V) (l : Addr) (R C : Nat) (cs : List Cell) (c n : Nat) (xs : List V), vs = [v, .ref l, .int c, .int n] ∧ At H (tabD R C cs) v ∧ H l = some (.lst xs) ∧ AtL H ((bandsL R cs).map bandD) xs ∧ Tiles R C cs ∧ 1 ≤ R ∧ R ≤ 16 ∧ c < C ∧ n < (bandsL R cs).length ∧
  ∀ H', Same H H' → Q (.int ((placeN (fun i => (partN R C cs i).R) (keyN R cs c) (bandsL R cs).length n : Nat) : Int)) H'
theorem txt_fits (ws : List Str) : fits 2 (.tup (ws.map Dd.str)) := fun d hd => by
  obtain ⟨x, _, rfl⟩ := List.mem_map.mp hd
  trivial
theorem strs_inj : ∀ {a b : List Str}, a.map Dd.str = b.map Dd.str → a = b
  | [], [], _ => rfl
  | [], _ :: _, h => by cases h
  | _ :: _, [], h => by cases h
  | x :: a, y :: b, h => by
    rw [List.map_cons, List.map_cons] at h
    injection h with h1 h2
    injection h1 with h1
    rw [h1, strs_inj h2]
theorem place_succ {hs : Nat → Nat} {ws : Nat → List Str} {i n : Nat} : placeN hs ws (i + 1) n = placeN hs ws i n + if befB ws i n = true then hs i else 0 := by
  unfold placeN
  rw [List.range_succ, List.filter_append, List.map_append, List.sum_append, List.filter_cons, List.filter_nil]
  split
  · simp
  · simp
section
variable {P : Program} {w : World} {K : PySem.W.Frag} {mg : Str → Option Value} {base : Heap}
theorem sc__law_place : FnScope ["_law_table_here", "_law_some", "_law_column", "_law_at", "_law_ahead", "_law_k", "_law_band", "_law_key_here", "_law_mine"] ["_law_table_here", "_law_some", "_law_column", "_law_at"] (defScope (top 39)) := ⟨rfl, rfl, rfl, by decide +kernel, rfl, by decide +kernel, by decide +kernel⟩
set_option maxHeartbeats 4000000 in
theorem ok__law_place (T : Txt mg) (c__law_key : Cal P w K mg base 1 "_law_key" ["_law_table_here", "_law_band", "_law_column"] spKeyL) (f : Addr) (fd : FuncData) (F : Fun K "_law_place" "_law_place" (top 39) f fd) : FnOk P w K mg base CX0 2 f fd ["_law_table_here", "_law_some", "_law_column", "_law_at"] spPlace := by
  refine F.ok sc__law_place (fun vs H Q E h => ?_) (fun cdv A outer s H vs Q E hr h => ?_)
  · obtain ⟨v, l, R, C, cs, c, n, xs, rfl, _⟩ := h; rfl
  · obtain ⟨v, l, R, C, cs, c, n, xs, rfl, ht, hl, a0, tl, R1, R2, hc, hn, q⟩ := h
    have hr__law_key : Room 1 (A.deeper (envOfC "_law_place" (defScope (top 39)) s.heap.objs.size f cdv)) := hr.mono (by decide)
    have hu2 : (A.deeper (envOfC "_law_place" (defScope (top 39)) s.heap.objs.size f cdv)).units + 1 + 1 < cLine := by have := hr.units; omega
    have hu0 : (A.deeper (envOfC "_law_place" (defScope (top 39)) s.heap.objs.size f cdv)).units < cLine := by omega
    have lx := a0.length
    rw [List.length_map] at lx
    have get : ∀ (i : Nat) (u : V), xs[i]? = some u → ∃ b, (bandsL R cs)[i]? = some b ∧ At H (bandD b) u ∧ BandOk R cs b ∧ GT.cov cs b.1 c ∧ keyN R cs c i = wordsP cs b.1 c ∧ (partN R C cs i).R = b.2 - b.1 := fun i u hu => by
      obtain ⟨d, hd, ad⟩ := Paired.get2 a0 hu
      rw [List.getElem?_map] at hd
      obtain ⟨b, hb, rfl⟩ := Option.map_eq_some_iff.mp hd
      have ok := bands_ok tl.toPart R1 (List.mem_of_getElem? hb)
      have b1 := ok.lt
      have b2 := ok.le
      refine ⟨b, hb, ad, ok, tl.all b.1 c (by omega) hc, ?_, ?_⟩
      · unfold keyN
        rw [List.getD_eq_getElem?_getD, hb]
        rfl
      · unfold partN
        rw [List.getD_eq_getElem?_getD, hb]
        rfl
    obtain ⟨y, hy⟩ : ∃ y, xs[n]? = some y := ⟨_, List.getElem?_eq_getElem (by omega)⟩
    obtain ⟨bn, hbn, ay, okn, covn, keyn, _⟩ := get n y hy
    refine ⟨_, (pss_cons (ps_set (i := 4) sc__law_place.nd rfl (by first | exact Or.inl rfl | exact Or.inr rfl) pe_int)
      (pss_cons (ps_for PassesOwn.never rfl (pi_enum (K := K) rfl rfl T.enumerate (pa_cons (pv 1) pa_nil)) (pg_tupK (K := K) (n := 2) rfl rfl (pgs_cons (pg_name (i := 5) sc__law_place.nd rfl (by first | exact Or.inl rfl | exact Or.inr rfl)) (pgs_cons (pg_name (i := 6) sc__law_place.nd rfl (by first | exact Or.inl rfl | exact Or.inr rfl)) pgs_nil))) (pss_cons (ps_set (i := 7) sc__law_place.nd rfl (by first | exact Or.inl rfl | exact Or.inr rfl) (pe_cal c__law_key hr__law_key rfl (pa_cons (pv 0) (pa_cons (pv 6) (pa_cons (pv 2) pa_nil)))))
      (pss_cons (ps_set (i := 8) sc__law_place.nd rfl (by first | exact Or.inl rfl | exact Or.inr rfl) (pe_cal c__law_key hr__law_key rfl (pa_cons (pv 0) (pa_cons (pe_ix (ix_listK (K := K) rfl) (pv 1) (pv 3) (fun _ _ => rfl)) (pa_cons (pv 2) pa_nil)))))
      (pss_one (ps_if (PW.pt (pw_or (pt_cmpR (op_ltS (K := K) rfl hu0) (pv 7) (pv 8) (nomark _)) (pw_or1 (PW.pt (pw_and (pt_cmpR (op_eqD (n := 1) hu2) (pv 7) (pv 8) (nomark _)) (pw_and1 (pt_cmpR op_lt (pv 5) (pv 3) (nomark _)))))))) (pss_one (ps_set (i := 4) sc__law_place.nd rfl (by first | exact Or.inl rfl | exact Or.inr rfl) (pe_op op_sub (pe_op op_add (pv 4) (pe_ix (ix_tupK (K := K) rfl) (pv 6) pe_int (fun _ _ => rfl))) (pe_ix (ix_tupK (K := K) rfl) (pv 6) pe_int (fun _ _ => rfl))))) pss_nil)))))
      (pss_one (ps_ret (pv 4))))), ?_⟩
    refine ⟨_, rfl, l, rfl, ⟨_, SqL.of hl⟩, ?_⟩
    refine for_enum (K := K) (a := l) (xs := xs) (fun i σ H2 => ∃ (c5 c6 c7 c8 : Option V), σ = [some v, some (.ref l), some (.int c), some (.int n), some (.int ((placeN (fun i => (partN R C cs i).R) (keyN R cs c) i n : Nat) : Int)), c5, c6, c7, c8] ∧ Same H H2)
      ⟨none, none, none, none, rfl, fun _ _ z => z⟩ (fun i σ H2 _ ⟨_, _, _, _, _, s2⟩ => SqL.of (s2 _ _ hl)) ?_ ?_
    · rintro i u σ H2 tp hi ⟨c5, c6, c7, c8, rfl, s2⟩ htp
      obtain ⟨b, hb, ad, ok, cvb, keyb, eR⟩ := get i u hi
      obtain ⟨e, rfl, he⟩ := band_inv ad
      have b1 := ok.lt
      have s3 := Same.upd_new (o := .tup [.int (i : Int), .ref e]) htp
      have k3 := upd_same (H := H2) (a := tp) (o := .tup [.int (i : Int), .ref e])
      generalize hH3 : upd H2 tp (.tup [.int (i : Int), .ref e]) = H3 at *
      have s03 := s2.trans s3
      refine ⟨tp, _, rfl, SqT.of k3, rfl, _, _, rfl, _, _, rfl, rfl, ?_⟩
      refine ⟨_, rfl, _, rfl, _, rfl, v, .ref e, R, C, cs, b, c, rfl, ht.mono s03, ad.mono s03, cvb, fun a1 H4 s4 h4 => ?_⟩
      have s04 := s03.trans s4
      dsimp only [gName]
      refine ⟨_, rfl, _, rfl, _, rfl, l, xs, (n : Int), y, rfl, rfl, SqL.of (s04 _ _ hl), atI_nat hy, _, rfl, v, y, R, C, cs, bn, c, rfl, ht.mono s04, ay.mono s04, covn, fun a2 H5 s5 h5 => ?_⟩
      have s05 := s04.trans s5
      have h4' := s5 _ _ h4
      have he5 := s05 _ _ he
      rw [← keyb] at h4'
      rw [← keyn] at h5
      dsimp only [gName]
      have yes : befB (keyN R cs c) i n = true → placeN (fun i => (partN R C cs i).R) (keyN R cs c) (i + 1) n = placeN (fun i => (partN R C cs i).R) (keyN R cs c) i n + (b.2 - b.1) := fun z => by rw [place_succ, if_pos z, eR]
      have no : ¬ befB (keyN R cs c) i n = true → placeN (fun i => (partN R C cs i).R) (keyN R cs c) (i + 1) n = placeN (fun i => (partN R C cs i).R) (keyN R cs c) i n := fun z => by rw [place_succ, if_neg z]; rfl
      have inc : ∀ z : Nat, (z : Int) + (b.2 : Int) - (b.1 : Int) = ((z + (b.2 - b.1) : Nat) : Int) := fun z => by omega
      refine ⟨_, rfl, _, rfl, a1, a2, keyN R cs c i, keyN R cs c n, rfl, rfl, SqT.of h4', SqT.of h5, _, rfl, ite2 (fun hlt => ?_) (fun hlt => ?_)⟩
      · refine ⟨_, rfl, _, rfl, e, _, (1 : Int), _, rfl, rfl, SqT.of he5, rfl, _, _, rfl, rfl, _, rfl, e, _, (0 : Int), _, rfl, rfl, SqT.of he5, rfl, _, _, rfl, rfl, ?_⟩
        refine ⟨some (.int (i : Int)), some (.ref e), some (.ref a1), some (.ref a2), ?_, s05⟩
        rw [yes (befB_iff.mpr (.inl hlt)), ← inc]
        rfl
      · refine ⟨_, rfl, _, rfl, .tup ((keyN R cs c i).map Dd.str), .tup ((keyN R cs c n).map Dd.str), txt_fits _, trivial, .tup h4' (strs_at _ _), .tup h5 (strs_at _ _), (fun eq => ⟨true, rfl, iteT ?_⟩), fun ne => ⟨false, rfl, iteF ?_⟩⟩
        · have eq : keyN R cs c i = keyN R cs c n := by
            injection eq with eq
            exact strs_inj eq
          refine ⟨_, rfl, _, rfl, _, _, rfl, rfl, _, rfl, ite2 (fun h6 => ?_) (fun h6 => ?_)⟩
          · have h6 := of_decide_eq_true h6
            refine ⟨_, rfl, _, rfl, e, _, (1 : Int), _, rfl, rfl, SqT.of he5, rfl, _, _, rfl, rfl, _, rfl, e, _, (0 : Int), _, rfl, rfl, SqT.of he5, rfl, _, _, rfl, rfl, ?_⟩
            refine ⟨some (.int (i : Int)), some (.ref e), some (.ref a1), some (.ref a2), ?_, s05⟩
            rw [yes (befB_iff.mpr (.inr ⟨eq, by omega⟩)), ← inc]
            rfl
          · refine ⟨some (.int (i : Int)), some (.ref e), some (.ref a1), some (.ref a2), ?_, s05⟩
            rw [no fun z => ?_]
            · rfl
            · rcases befB_iff.mp z with z | z
              · exact hlt z
              · exact h6 (decide_eq_true (by have := z.2; omega))
        · refine ⟨some (.int (i : Int)), some (.ref e), some (.ref a1), some (.ref a2), ?_, s05⟩
          rw [no fun z => ?_]
          · rfl
          · rcases befB_iff.mp z with z | z
            · exact hlt z
            · exact ne (by rw [z.1])
    · rintro σ H2 ⟨c5, c6, c7, c8, rfl, s2⟩
      rw [← lx]
      exact ⟨_, rfl, q _ s2⟩
end
end KL

set_option Elab.async false
set_option linter.all false
set_option autoImplicit false
set_option maxRecDepth 100000
namespace KL
open PySem L2 GT PyProof.Rows
noncomputable def dueN (R C : Nat) (cs : List Cell) (c i : Nat) : List Cell := (partN R C cs i).cs.map (downCell (placeN (fun i => (partN R C cs i).R) (keyN R cs c) (bandsL R cs).length i))
noncomputable def dueL (R C : Nat) (cs : List Cell) (c i : Nat) : List Cell := (List.range i).flatMap (dueN R C cs c)
theorem due_succ {R C c i : Nat} {cs : List Cell} : dueL R C cs c (i + 1) = dueL R C cs c i ++ dueN R C cs c i := by
  unfold dueL
  rw [List.range_succ, List.flatMap_append]
  simp
theorem due_len {R C c : Nat} {cs : List Cell} : ∀ i, (dueL R C cs c i).length ≤ cs.length * i
  | 0 => by simp [dueL]
  | i + 1 => by
    rw [due_succ, List.length_append, Nat.mul_succ]
    have h := due_len (R := R) (C := C) (c := c) (cs := cs) i
    have h2 : (dueN R C cs c i).length ≤ cs.length := by
      unfold dueN
      rw [List.length_map]
      show (cutL _ _ _ _ cs).length ≤ _
      unfold cutL
      rw [List.length_map]
      exact List.length_filter_le _ _
    omega
noncomputable def spLaw (K : PySem.W.Frag) (T : Addr) : Sp := fun vs H Q _ => ∃ (a : Addr) (ns : List Int), vs = [.ref a] ∧ SqL K H a (ns.map V.int) ∧ ns.length ≤ 63 ∧ H T = some (.tbl #[]) ∧ ∀ H', Q (.bl true) H'
section
variable {P : Program} {w : World} {K : PySem.W.Frag} {mg : Str → Option Value} {base : Heap}
theorem sc_law : FnScope ["_law_script", "_law_table_here", "_law_column", "_law_some", "_law_due", "_law_at", "_law_band", "_law_top", "_law_cell_here", "_law_kept", "_law_found"] ["_law_script"] (defScope (top 40)) := ⟨rfl, rfl, rfl, by decide +kernel, rfl, by decide +kernel, by decide +kernel⟩
set_option maxHeartbeats 4000000 in
theorem ok_law {T_lam : Addr} (T : Txt mg) (c__law_made : Cal P w K mg base 5 "_law_made" ["_law_script"] (spMade K)) (c__law_few : Cal P w K mg base 2 "_law_few" ["_law_table_here", "_law_script"] (spFew K)) (c__law_cell : Cal P w K mg base 1 "_law_cell" ["_law_script", "_law_k"] (spCell K)) (c__law_bands : Cal P w K mg base 2 "_law_bands" ["_law_table_here"] spLBands) (c__law_place : Cal P w K mg base 2 "_law_place" ["_law_table_here", "_law_some", "_law_column", "_law_at"] spPlace) (c__law_copy : Cal P w K mg base 1 "_law_copy" ["_law_table_here"] spCopy) (c_ordered : Cal P w K mg base 7 "ordered" ["table", "column"] (spOrdered T_lam)) (c__law_kinds : Cal P w K mg base 2 "_law_kinds" ["_law_table_here"] spKinds) (f : Addr) (fd : FuncData) (F : Fun K "law" "law" (top 40) f fd) : FnOk P w K mg base CX0 8 f fd ["_law_script"] (spLaw K T_lam) := by
  refine F.ok sc_law (fun vs H Q E h => ?_) (fun cdv A outer s H vs Q E hr h => ?_)
  · obtain ⟨a, ns, rfl, _⟩ := h; rfl
  · obtain ⟨a, ns, rfl, hs, hlen, hT, q⟩ := h
    have hr__law_made : Room 5 (A.deeper (envOfC "law" (defScope (top 40)) s.heap.objs.size f cdv)) := hr.mono (by decide)
    have hr__law_few : Room 2 (A.deeper (envOfC "law" (defScope (top 40)) s.heap.objs.size f cdv)) := hr.mono (by decide)
    have hr__law_cell : Room 1 (A.deeper (envOfC "law" (defScope (top 40)) s.heap.objs.size f cdv)) := hr.mono (by decide)
    have hr__law_bands : Room 2 (A.deeper (envOfC "law" (defScope (top 40)) s.heap.objs.size f cdv)) := hr.mono (by decide)
    have hr__law_place : Room 2 (A.deeper (envOfC "law" (defScope (top 40)) s.heap.objs.size f cdv)) := hr.mono (by decide)
    have hr__law_copy : Room 1 (A.deeper (envOfC "law" (defScope (top 40)) s.heap.objs.size f cdv)) := hr.mono (by decide)
    have hr_ordered : Room 7 (A.deeper (envOfC "law" (defScope (top 40)) s.heap.objs.size f cdv)) := hr.mono (by decide)
    have hr__law_kinds : Room 2 (A.deeper (envOfC "law" (defScope (top 40)) s.heap.objs.size f cdv)) := hr.mono (by decide)
    have hu5 : (A.deeper (envOfC "law" (defScope (top 40)) s.heap.objs.size f cdv)).units + 4 + 1 < cLine := by have := hr.units; omega
    refine ⟨_, (pss_cons (ps_set (i := 1) sc_law.nd rfl (by first | exact Or.inl rfl | exact Or.inr rfl) (pe_cal c__law_few hr__law_few rfl (pa_cons (pe_cal c__law_made hr__law_made rfl (pa_cons (pv 0) pa_nil)) (pa_cons (pv 0) pa_nil))))
      (pss_cons (ps_set (i := 2) sc_law.nd rfl (by first | exact Or.inl rfl | exact Or.inr rfl) (pe_op op_mod (pe_cal c__law_cell hr__law_cell rfl (pa_cons (pv 0) (pa_cons pe_int pa_nil))) (pe_ix (ix_tupK (K := K) rfl) (pv 1) pe_int (fun _ _ => rfl))))
      (pss_cons (ps_set (i := 3) sc_law.nd rfl (by first | exact Or.inl rfl | exact Or.inr rfl) (pe_cal c__law_bands hr__law_bands rfl (pa_cons (pv 1) pa_nil)))
      (pss_cons (ps_set (i := 4) sc_law.nd rfl (by first | exact Or.inl rfl | exact Or.inr rfl) (pe_lst pa_nil))
      (pss_cons (ps_for PassesOwn.never rfl (pi_enum (K := K) rfl rfl T.enumerate (pa_cons (pv 3) pa_nil)) (pg_tupK (K := K) (n := 2) rfl rfl (pgs_cons (pg_name (i := 5) sc_law.nd rfl (by first | exact Or.inl rfl | exact Or.inr rfl)) (pgs_cons (pg_name (i := 6) sc_law.nd rfl (by first | exact Or.inl rfl | exact Or.inr rfl)) pgs_nil))) (pss_cons (ps_set (i := 7) sc_law.nd rfl (by first | exact Or.inl rfl | exact Or.inr rfl) (pe_cal c__law_place hr__law_place rfl (pa_cons (pv 1) (pa_cons (pv 3) (pa_cons (pv 2) (pa_cons (pv 5) pa_nil))))))
      (pss_one (ps_for PassesOwn.never rfl (pi_listK (K := K) rfl (pe_ix (ix_tupK (K := K) rfl) (pv 1) pe_int (fun _ _ => rfl))) (pg_name (i := 8) sc_law.nd rfl (by first | exact Or.inl rfl | exact Or.inr rfl)) (pss_one (ps_if (pt_chain op_le op_lt (pe_ix (ix_tupK (K := K) rfl) (pv 6) pe_int (fun _ _ => rfl)) (pe_ix (ix_tupK (K := K) rfl) (pv 8) pe_int (fun _ _ => rfl)) (pe_ix (ix_tupK (K := K) rfl) (pv 6) pe_int (fun _ _ => rfl))) (pss_one (ps_expr (pe_bmK (K := K) rfl PySem.F.plainAttrs_list PySem.F.slot_list_append PySem.F.type_list_append mt_append (pv 4) (pa_cons (pe_op (op_catTK (K := K) rfl) (pe_tup (pa_cons (pe_op op_add (pe_op op_sub (pe_ix (ix_tupK (K := K) rfl) (pv 8) pe_int (fun _ _ => rfl)) (pe_ix (ix_tupK (K := K) rfl) (pv 6) pe_int (fun _ _ => rfl))) (pv 7)) pa_nil)) (pe_slice (sl_tupK (K := K) rfl) (pv 8) (po_some pe_int) po_none)) pa_nil)))) pss_nil))))))
      (pss_cons (ps_set (i := 9) sc_law.nd rfl (by first | exact Or.inl rfl | exact Or.inr rfl) (pe_cal c__law_copy hr__law_copy rfl (pa_cons (pv 1) pa_nil)))
      (pss_cons (ps_set (i := 10) sc_law.nd rfl (by first | exact Or.inl rfl | exact Or.inr rfl) (pe_cal c_ordered hr_ordered rfl (pa_cons (pv 9) (pa_cons (pv 2) pa_nil))))
      (pss_one (ps_ret (pe_and (pe_cal c__law_kinds hr__law_kinds rfl (pa_cons (pv 10) pa_nil)) (pe_and (pe_cmpR (op_eqD (n := 4) hu5) (pv 9) (pv 1) (nomark _)) (pe_one (pe_cmpR (op_eqD (n := 4) hu5) (pv 10) (pe_tup (pa_cons (pe_ix (ix_tupK (K := K) rfl) (pv 1) pe_int (fun _ _ => rfl)) (pa_cons (pe_ix (ix_tupK (K := K) rfl) (pv 1) pe_int (fun _ _ => rfl)) (pa_cons (pe_callB (call_sortedT (K := K) rfl) (by rfl) T.sorted PyProof.Rows.boot_sorted (pa_cons (pv 4) pa_nil)) pa_nil)))) (nomark _)))))))))))))), ?_⟩
    refine ⟨_, rfl, a, ns, rfl, hs, hlen, fun v0 R C cs0 H1 s1 R1 R2 C1 C2 tl0 a1 => ?_⟩
    refine ⟨_, rfl, a, ns, v0, R, C, cs0, rfl, s1.seq hs, a1, tl0, few_of tl0 (by omega) (by omega), fun v cs H2 s2 tl few a2 => ?_⟩
    have s02 := s1.trans s2
    obtain ⟨p, lc, ys, rfl, hp, hlc, ry⟩ := tab_inv a2
    have ly := ry.length
    rw [List.length_map] at ly
    dsimp only [gName]
    refine ⟨_, rfl, a, ns, 5, rfl, s02.seq hs, _, rfl, p, _, (1 : Int), _, rfl, rfl, SqT.of hp, rfl, _, _, rfl, rfl, (by show (0 : Int) < (C : Int); omega), ?_⟩
    obtain ⟨c, ec, hc⟩ : ∃ c : Nat, ns.getD 5 0 % (C : Int) = (c : Int) ∧ c < C := by
      have z1 := Int.emod_nonneg (ns.getD 5 0) (by omega : (C : Int) ≠ 0)
      have z2 := Int.emod_lt_of_pos (ns.getD 5 0) (by omega : (0 : Int) < (C : Int))
      exact ⟨(ns.getD 5 0 % (C : Int)).toNat, by omega, by omega⟩
    dsimp only [gName]
    rw [ec]
    refine ⟨_, rfl, .ref p, R, C, cs, rfl, a2, tl, R1, by omega, fun l xs H3 s3 h3 _ a3 => ?_⟩
    have lx := a3.length
    rw [List.length_map] at lx
    refine ⟨by show 0 ≤ sizeLine; decide, fun d hd => ?_⟩
    have s4 := Same.upd_new (o := .lst []) hd
    have k4 := upd_same (H := H3) (a := d) (o := .lst [])
    generalize hH4 : upd H3 d (.lst []) = H4 at *
    dsimp only [gName]
    refine ⟨_, rfl, l, rfl, ⟨_, SqL.of (s4 _ _ h3)⟩, ?_⟩
    refine for_enum (K := K) (a := l) (xs := xs) (fun i σ H5 => ∃ (c5 c6 c7 c8 : Option V) (zs : List V), σ = [some (.ref a), some (.ref p), some (.int c), some (.ref l), some (.ref d), c5, c6, c7, c8, none, none] ∧ Same H3 H5 ∧ H5 d = some (.lst zs) ∧ AtL H5 ((dueL R C cs c i).map Cell.D) zs)
      ⟨none, none, none, none, [], rfl, s4, k4, .nil⟩ (fun i σ H5 _ ⟨_, _, _, _, _, _, s5, _⟩ => SqL.of (s5 _ _ h3)) ?_ ?_
    · rintro i u σ H5 tp hi ⟨c5, c6, c7, c8, zs, rfl, s5, h5, a5⟩ htp
      obtain ⟨dd, hdd, ad⟩ := Paired.get2 a3 hi
      rw [List.getElem?_map] at hdd
      obtain ⟨b, hb, rfl⟩ := Option.map_eq_some_iff.mp hdd
      have hiL := (List.getElem?_eq_some_iff.mp hb).1
      obtain ⟨e, rfl, he⟩ := band_inv ad
      have ok := bands_ok tl.toPart R1 (List.mem_of_getElem? hb)
      have le2 := ends_len R cs
      have le := ends_few (R := R) (cs := cs) R1
      have s6 := Same.upd_new (o := .tup [.int (i : Int), .ref e]) htp
      have k6 := upd_same (H := H5) (a := tp) (o := .tup [.int (i : Int), .ref e])
      generalize hH6 : upd H5 tp (.tup [.int (i : Int), .ref e]) = H6 at *
      have s36 := s5.trans s6
      refine ⟨tp, _, rfl, SqT.of k6, rfl, _, _, rfl, _, _, rfl, rfl, ?_⟩
      refine ⟨_, rfl, _, rfl, _, rfl, _, rfl, .ref p, l, R, C, cs, c, i, xs, rfl, a2.mono (s3.trans s36), s36 _ _ h3, a3.mono s36, tl, R1, R2, hc, hiL, fun H7 s7 => ?_⟩
      have eN : dueN R C cs c i = ((cs.filter (liesB b.1 0 (b.2 - b.1) C)).map (upCell b.1 0)).map (downCell (placeN (fun i => (partN R C cs i).R) (keyN R cs c) (bandsL R cs).length i)) := by
        unfold dueN partN
        rw [List.getD_eq_getElem?_getD, hb]
        rfl
      generalize hpl : placeN (fun i => (partN R C cs i).R) (keyN R cs c) (bandsL R cs).length i = pn at *
      have s37 := s36.trans s7
      have s27 := s3.trans s37
      dsimp only [gName]
      refine ⟨_, rfl, p, _, (2 : Int), _, rfl, rfl, SqT.of (s27 _ _ hp), rfl, lc, rfl, ⟨_, SqL.of (s27 _ _ hlc)⟩, ?_⟩
      refine for_list (K := K) (a := lc) (xs := ys) (fun j σ H8 => ∃ (c8 : Option V) (zs : List V), σ = [some (.ref a), some (.ref p), some (.int c), some (.ref l), some (.ref d), some (.int (i : Int)), some (.ref e), some (.int (pn : Int)), c8, none, none] ∧ Same H3 H8 ∧ H8 d = some (.lst zs) ∧ AtL H8 ((dueL R C cs c i ++ (((cs.take j).filter (liesB b.1 0 (b.2 - b.1) C)).map (upCell b.1 0)).map (downCell pn)).map Cell.D) zs)
        ⟨_, zs, rfl, s37, (s6.trans s7) _ _ h5, by rw [List.take_zero, List.filter_nil, List.map_nil, List.map_nil, List.append_nil]; exact a5.mono (s6.trans s7)⟩ (fun j σ H8 _ ⟨_, _, _, s8, _⟩ => SqL.of ((s3.trans s8) _ _ hlc)) ?_ ?_
      · rintro j x σ H8 hj ⟨c8, zs, rfl, s8, h8, a8⟩
        obtain ⟨X, hX, aX⟩ := cellw_get ry hj
        have hXm := List.mem_of_getElem? hX
        have lies := ok.lies tl.toPart hXm
        have s28 := s3.trans s8
        obtain ⟨b0, wb, rfl, hb0, hwb⟩ := cellw_inv (aX.mono s28)
        have he8 := s8 _ _ he
        have tk : (cs.take (j + 1)).filter (liesB b.1 0 (b.2 - b.1) C) = (cs.take j).filter (liesB b.1 0 (b.2 - b.1) C) ++ (if liesB b.1 0 (b.2 - b.1) C X = true then [X] else []) := by
          rw [List.take_add_one, hX, List.filter_append]
          show _ ++ [X].filter _ = _
          rw [List.filter_cons, List.filter_nil]
        have skip : ¬ (b.1 ≤ X.top ∧ X.top < b.2) → (cs.take (j + 1)).filter (liesB b.1 0 (b.2 - b.1) C) = (cs.take j).filter (liesB b.1 0 (b.2 - b.1) C) := fun z => by
          rw [tk, lies, if_neg (by rw [decide_eq_false z]; decide), List.append_nil]
        dsimp only [gName]
        refine ⟨_, rfl, e, _, (0 : Int), _, rfl, rfl, SqT.of he8, rfl, _, rfl, b0, _, (0 : Int), _, rfl, rfl, SqT.of hb0, rfl, _, _, rfl, rfl, _, rfl, ite2 (fun h1 => ?_) (fun h1 => ⟨false, rfl, iteF ⟨_, zs, rfl, s8, h8, by rw [skip fun z => h1 (decide_eq_true (by omega))]; exact a8⟩⟩)⟩
        have h1 := of_decide_eq_true h1
        refine ⟨_, rfl, e, _, (1 : Int), _, rfl, rfl, SqT.of he8, rfl, _, _, rfl, rfl, _, rfl, ite2 (fun h2 => ?_) (fun h2 => ⟨_, zs, rfl, s8, h8, by rw [skip fun z => h2 (decide_eq_true (by omega))]; exact a8⟩)⟩
        have h2 := of_decide_eq_true h2
        refine ⟨_, rfl, .inl ⟨rfl, _, SqL.of h8⟩, _, rfl, b0, _, (0 : Int), _, rfl, rfl, SqT.of hb0, rfl, _, rfl, e, _, (0 : Int), _, rfl, rfl, SqT.of he8, rfl, _, _, rfl, rfl, _, rfl, _, _, rfl, rfl, by show 1 ≤ sizeLine; decide, fun t9 ht9 => ?_⟩
        have et : (X.top : Int) - (b.1 : Int) + (pn : Int) = ((X.top - b.1 + pn : Nat) : Int) := by omega
        dsimp only
        rw [et]
        have s9 := Same.upd_new (o := .tup [V.int ((X.top - b.1 + pn : Nat) : Int)]) ht9
        have k9 := upd_same (H := H8) (a := t9) (o := .tup [V.int ((X.top - b.1 + pn : Nat) : Int)])
        generalize hH9 : upd H8 t9 (.tup [V.int ((X.top - b.1 + pn : Nat) : Int)]) = H9 at *
        refine ⟨_, rfl, _, rfl, b0, _, rfl, SqT.of (s9 _ _ hb0), (fun z => absurd z.1 (by show ¬ HT.sIx 5 0 (some 1) = 0; decide)), fun t10 ht10 => ?_⟩
        rw [show cutV [V.int (X.top : Int), V.int (X.left : Int), V.int (X.h : Int), V.int (X.w : Int), V.ref wb] (some 1) none = [V.int (X.left : Int), V.int (X.h : Int), V.int (X.w : Int), V.ref wb] from rfl]
        have s10 := Same.upd_new (o := .tup [V.int (X.left : Int), V.int (X.h : Int), V.int (X.w : Int), V.ref wb]) ht10
        have k10 := upd_same (H := H9) (a := t10) (o := .tup [V.int (X.left : Int), V.int (X.h : Int), V.int (X.w : Int), V.ref wb])
        generalize hH10 : upd H9 t10 (.tup [V.int (X.left : Int), V.int (X.h : Int), V.int (X.w : Int), V.ref wb]) = H10 at *
        refine ⟨t9, t10, _, _, rfl, rfl, SqT.of (s10 _ _ k9), SqT.of k10, (by intro z; cases z), by show 5 ≤ sizeLine; decide, (fun e => by cases e), fun _ t11 ht11 => ?_⟩
        have s11 := Same.upd_new (o := .tup ([V.int ((X.top - b.1 + pn : Nat) : Int)] ++ [V.int (X.left : Int), V.int (X.h : Int), V.int (X.w : Int), V.ref wb])) ht11
        have k11 := upd_same (H := H10) (a := t11) (o := .tup ([V.int ((X.top - b.1 + pn : Nat) : Int)] ++ [V.int (X.left : Int), V.int (X.h : Int), V.int (X.w : Int), V.ref wb]))
        generalize hH11 : upd H10 t11 (.tup ([V.int ((X.top - b.1 + pn : Nat) : Int)] ++ [V.int (X.left : Int), V.int (X.h : Int), V.int (X.w : Int), V.ref wb])) = H11 at *
        have s811 := (s9.trans s10).trans s11
        have h11 := s811 _ _ h8
        have lz := a8.length
        rw [List.length_map, List.length_append, List.length_map, List.length_map] at lz
        have z1 := due_len (R := R) (C := C) (c := c) (cs := cs) i
        have z2 := List.length_filter_le (liesB b.1 0 (b.2 - b.1) C) (cs.take j)
        rw [List.length_take] at z2
        have z3 : cs.length * i ≤ 300 * 16 := Nat.mul_le_mul few (by omega)
        refine ⟨d, zs, .ref t11, rfl, rfl, h11, by rw [sizeLine_eq]; omega, ?_⟩
        have t12 : SameT H11 (upd H11 d (.lst (zs ++ [.ref t11]))) := SameT.put h11
        refine ⟨some (.ref b0), zs ++ [.ref t11], rfl, fun b' o e => ?_, upd_same, ?_⟩
        · rw [upd_ne (ne_of_none e hd)]
          exact s811 _ _ (s8 _ _ e)
        · rw [tk, lies, if_pos (decide_eq_true ⟨by omega, by omega⟩)]
          have ee : ∀ A : List Cell, (dueL R C cs c i ++ (((A ++ [X]).map (upCell b.1 0)).map (downCell pn))).map Cell.D = (dueL R C cs c i ++ ((A.map (upCell b.1 0)).map (downCell pn))).map Cell.D ++ [(downCell pn (upCell b.1 0 X)).D] := fun A => by simp
          rw [ee]
          refine Paired.snoc' ((a8.mono s811).monoT (cells_nol _) t12) ?_
          exact Cell.at_mk (x := downCell pn (upCell b.1 0 X)) (ws := X.words.map V.str) (t12 _ _ k11) (t12 _ _ (s811 _ _ hwb)) (strs_at _ _)
      · rintro σ H8 ⟨c8, zs, rfl, s8, h8, a8⟩
        rw [← ly, List.take_length, ← eN, ← due_succ] at a8
        exact ⟨_, _, _, _, zs, rfl, s8, h8, a8⟩
    · rintro σ H5 ⟨c5, c6, c7, c8, zs, rfl, s5, h5, a5⟩
      rw [← lx] at a5
      have s35 := s3.trans s5
      have s05 := s02.trans s35
      have a25 : At H5 (tabD R C cs) (.ref p) := a2.mono s35
      have hT5 := s05 _ _ hT
      refine ⟨_, rfl, .ref p, R, C, cs, rfl, a25, fun v6 H6 s6 a6 _ => ?_⟩
      have hT6 := s6 _ _ hT5
      refine ⟨_, rfl, _, rfl, v6, R, C, cs, c, rfl, a6, tl, few, R1, R2, hc, C2, hT6, fun v7 is H7 s7 pis ois a7 => ?_⟩
      refine ⟨_, rfl, v7, (R : Int), (C : Int), _, rfl, a7, fun H8 s8 => ⟨true, rfl, iteT ?_⟩⟩
      have up8 : ∀ (dd : Dd) (u : V), At H6 dd u → At H8 dd u := fun dd u z => (At.monoP hT6 s7 z).mono s8
      have a68 := up8 _ _ a6
      have a28 := up8 _ _ (a25.mono s6)
      have a78 := a7.mono s8
      refine ⟨_, rfl, _, rfl, tabD R C cs, tabD R C cs, tabD_fits R C cs 1, trivial, a68, a28, fun _ => ⟨true, rfl, iteT ?_⟩, fun z => absurd rfl z⟩
      have nT : ∀ (b : Addr) (o : HO), (∀ qs, o ≠ .tbl qs) → H6 b = some o → H8 b = some o := fun b o no e => s8 _ _ (s7 b o (fun z => by rw [z, hT6] at e; cases e; exact no _ rfl) e)
      have hp8 := nT p _ (by intro _ z; cases z) ((s35.trans s6) _ _ hp)
      have h58 := nT d _ (by intro _ z; cases z) (s6 _ _ h5)
      have a58 : AtL H8 ((dueL R C cs c (bandsL R cs).length).map Cell.D) zs := Paired.impM a5 fun _ _ _ z => up8 _ _ (z.mono s6)
      have sd : (stackL 0 (is.map (partN R C cs))).Perm (dueL R C cs c (bandsL R cs).length) := stack_due pis ois
      have tls : Tiles R C (stackL 0 (is.map (partN R C cs))) := by
        have er := rows_order tl R1 pis
        have z := stack_tiles (C := C) (ts := is.map (partN R C cs)) fun t ht => ?_
        · rw [er] at z
          exact z
        · obtain ⟨i, hi, rfl⟩ := List.mem_map.mp ht
          have hl := List.mem_range.mp (pis.mem_iff.mp hi)
          have hb : (bandsL R cs).getD i (0, 0) ∈ bandsL R cs := by
            rw [List.getD_eq_getElem?_getD, List.getElem?_eq_getElem hl]
            exact List.getElem_mem hl
          exact (bands_ok tl.toPart R1 hb).tiles tl
      have ptD : Part R C (dueL R C cs c (bandsL R cs).length) := Part.perm' tls.toPart sd.symm
      have fewD := few_of tls (by omega) (by omega)
      refine ⟨_, rfl, _, rfl, p, _, (0 : Int), _, rfl, rfl, SqT.of hp8, rfl, _, rfl, p, _, (1 : Int), _, rfl, rfl, SqT.of hp8, rfl, _, rfl, ?_⟩
      dsimp only [tNil]
      refine sorted_cells (K := K) h58 ptD (by omega) a58 fun r9 cs9 xs9 hrn pc ord at9 => ?_
      have ecs : stackL 0 (is.map (partN R C cs)) = cs9 := perm_sorted_eq tls.ord ord sd pc
      have s9 := Same.upd_new (o := .lst xs9) hrn
      refine ⟨by show 3 ≤ sizeLine; decide, fun t10 ht10 => ?_⟩
      have s10 := Same.upd_new (o := .tup [.int (R : Int), .int (C : Int), .ref r9]) ht10
      rw [ecs] at a78
      exact ⟨tabD R C cs9, tabD R C cs9, tabD_fits R C cs9 1, trivial, (a78.mono s9).mono s10, tab_mk upd_same (s10 _ _ upd_same) (at9.mono s10), fun _ => q _, fun z => absurd rfl z⟩
end
/-- all that the top has written, put together -/
theorem len1 {α : Type} {P : List α → Prop} (h : ∀ a, P [a]) : ∀ us : List α, us.length = 1 → P us
  | [a], _ => h a
theorem len2 {α : Type} {P : List α → Prop} (h : ∀ a b, P [a, b]) : ∀ us : List α, us.length = 2 → P us
  | [a, b], _ => h a b
theorem len3 {α : Type} {P : List α → Prop} (h : ∀ a b c, P [a, b, c]) : ∀ us : List α, us.length = 3 → P us
  | [a, b, c], _ => h a b c
theorem len4 {α : Type} {P : List α → Prop} (h : ∀ a b c d, P [a, b, c, d]) : ∀ us : List α, us.length = 4 → P us
  | [a, b, c, d], _ => h a b c d
theorem len5 {α : Type} {P : List α → Prop} (h : ∀ a b c d e, P [a, b, c, d, e]) : ∀ us : List α, us.length = 5 → P us
  | [a, b, c, d, e], _ => h a b c d e
set_option maxHeartbeats 4000000 in
theorem all_ok {l : PySem.W.OpenLaw} {w : World} {K : PySem.W.Frag} {h : Heap} {mg : Str → Option Value} {fa : Addr} (X : K.In h) (G : h.Ns mainGlobals mg) (hfa : mg "law" = some (.ref fa))
    (a0 : At0 K "_law_cell" (top 22))
    (a1 : At0 K "_law_mix" (top 23))
    (a2 : At0 K "_law_large" (top 24))
    (a3 : At0 K "_law_word" (top 26))
    (a4 : At0 K "_law_words" (top 27))
    (a5 : At0 K "_law_block" (top 29))
    (a6 : At0 K "_law_free" (top 28))
    (a7 : At0 K "_law_table" (top 30))
    (a8 : At0 K "_law_size" (top 31))
    (a9 : At0 K "_law_made" (top 32))
    (a10 : At0 K "_law_copy" (top 33))
    (a11 : At0 K "_law_whole" (top 25))
    (a12 : At0 K "_law_kinds" (top 34))
    (a13 : At0 K "covers" (top 5))
    (a14 : At0 K "cell_at" (top 4))
    (a15 : At0 K "moved_cell" (top 6))
    (a16 : At0 K "meets" (top 11))
    (a17 : At0 K "lies_in" (top 12))
    (a18 : At0 K "cells_in" (top 10))
    (a19 : At0 K "cut_out" (top 8))
    (a20 : At0 K "spans" (top 18))
    (a21 : At0 K "is_open" (top 17))
    (a22 : At0 K "open_lines" (top 16))
    (a23 : At0 K "bands" (top 14))
    (a24 : At0 K "stacked" (top 9))
    (a25 : At0 K "band_table" (top 19))
    (a26 : At0 K "_law_open" (top 35))
    (a27 : At0 K "_law_bands" (top 36))
    (a28 : At0 K "words_at" (top 20))
    (a29 : At0 K "ordered" (top 15))
    (a30 : At0 K "_law_few" (top 37))
    (a31 : At0 K "_law_key" (top 38))
    (a32 : At0 K "_law_place" (top 39))
    (a33 : At0 K "law" (top 40))
    (z0 : PySem.W.nsIn K mainGlobals "len" = some none)
    (z1 : PySem.W.nsIn K mainGlobals "range" = some none)
    (z2 : PySem.W.nsIn K mainGlobals "isinstance" = some none)
    (z3 : PySem.W.nsIn K mainGlobals "int" = some none)
    (z4 : PySem.W.nsIn K mainGlobals "bool" = some none)
    (z5 : PySem.W.nsIn K mainGlobals "tuple" = some none)
    (z6 : PySem.W.nsIn K mainGlobals "list" = some none)
    (z7 : PySem.W.nsIn K mainGlobals "sorted" = some none)
    (z8 : PySem.W.nsIn K mainGlobals "enumerate" = some none)
    (z9 : PySem.W.nsIn K mainGlobals "zip" = some none)
    (z10 : PySem.W.nsIn K mainGlobals "str" = some none)
    (z11 : PySem.W.nsIn K mainGlobals "all" = some none)
    (z12 : PySem.W.nsIn K mainGlobals "min" = some none)
    (z13 : PySem.W.nsIn K mainGlobals "max" = some none)
    (z14 : PySem.W.nsIn K mainGlobals "sum" = some none)
    (z15 : PySem.W.nsIn K mainGlobals "ValueError" = some none)
    (z16 : PySem.W.nsIn K mainGlobals "any" = some none)
    (z17 : PySem.W.nsIn K mainGlobals "reversed" = some none)
    {c_lam T_lam : Addr} (hT0 : h.get? T_lam = some (PySem.W.tabObj #[])) (hC0 : ∃ f o fd, mg "ordered" = some (.ref f) ∧ h.get? f = some o ∧ o.data = .func fd ∧ fd.code = .ref c_lam)
    : ∃ fd : FuncData, (∀ (s : Shared) (v : Value), BindsTo s fd ⟨[v], []⟩ [("_law_script", v)]) ∧ ∀ base : Heap, (cutK T_lam K).In base → base.Ns mainGlobals mg → BltAt mg base → PySem.W.CodeHd base c_lam T_lam → FnOk l.prog w (cutK T_lam K) mg base CX0 8 fa fd ["_law_script"] (spLaw (cutK T_lam K) T_lam) := by
  have hT : ∀ o, K.lookup T_lam = some o → o = PySem.W.tabObj #[] := fun o e => Option.some.inj ((X _ _ e).symm.trans hT0)
  replace a0 := a0.drop hT
  replace a1 := a1.drop hT
  replace a2 := a2.drop hT
  replace a3 := a3.drop hT
  replace a4 := a4.drop hT
  replace a5 := a5.drop hT
  replace a6 := a6.drop hT
  replace a7 := a7.drop hT
  replace a8 := a8.drop hT
  replace a9 := a9.drop hT
  replace a10 := a10.drop hT
  replace a11 := a11.drop hT
  replace a12 := a12.drop hT
  replace a13 := a13.drop hT
  replace a14 := a14.drop hT
  replace a15 := a15.drop hT
  replace a16 := a16.drop hT
  replace a17 := a17.drop hT
  replace a18 := a18.drop hT
  replace a19 := a19.drop hT
  replace a20 := a20.drop hT
  replace a21 := a21.drop hT
  replace a22 := a22.drop hT
  replace a23 := a23.drop hT
  replace a24 := a24.drop hT
  replace a25 := a25.drop hT
  replace a26 := a26.drop hT
  replace a27 := a27.drop hT
  replace a28 := a28.drop hT
  replace a29 := a29.drop hT
  replace a30 := a30.drop hT
  replace a31 := a31.drop hT
  replace a32 := a32.drop hT
  replace a33 := a33.drop hT
  have T : Txt mg := ⟨PySem.W.mg_none_of X G z0, PySem.W.mg_none_of X G z1, PySem.W.mg_none_of X G z2, PySem.W.mg_none_of X G z3, PySem.W.mg_none_of X G z4, PySem.W.mg_none_of X G z5, PySem.W.mg_none_of X G z6, PySem.W.mg_none_of X G z7, PySem.W.mg_none_of X G z8, PySem.W.mg_none_of X G z9, PySem.W.mg_none_of X G z10, PySem.W.mg_none_of X G z11, PySem.W.mg_none_of X G z12, PySem.W.mg_none_of X G z13, PySem.W.mg_none_of X G z14, PySem.W.mg_none_of X G z15, PySem.W.mg_none_of X G z16, PySem.W.mg_none_of X G z17⟩
  replace X := cutK_in (T := T_lam) X
  obtain ⟨f, fd, F, e⟩ := a33.ex
  have e0 := hfa.symm.trans (PySem.W.mg_of X G e)
  cases e0
  refine ⟨fd, ?_, fun base hKb hNb hB hC => ?_⟩
  · obtain ⟨oc, od, kV, doc, pm, an, cdv, ct, osl, rfl, lk, hcd⟩ := F.ex
    exact fun s v => .of_eq rfl
  · have c__law_cell : Cal l.prog w (cutK T_lam K) mg base 1 "_law_cell" ["_law_script", "_law_k"] (spCell (cutK T_lam K)) := a0.cal X G (fun _ _ _ _ _ _ => len2 fun _ _ => rfl) (ok__law_cell T)
    have c__law_mix : Cal l.prog w (cutK T_lam K) mg base 1 "_law_mix" ["_law_cell_here", "_law_prime", "_law_many"] spMix := a1.cal X G (fun _ _ _ _ _ _ => len3 fun _ _ _ => rfl) ok__law_mix
    have c__law_large : Cal l.prog w (cutK T_lam K) mg base 2 "_law_large" ["_law_script"] (spLarge (cutK T_lam K)) := a2.cal X G (fun _ _ _ _ _ _ => len1 fun _ => rfl) (ok__law_large T c__law_cell c__law_mix)
    have c__law_word : Cal l.prog w (cutK T_lam K) mg base 2 "_law_word" ["_law_seed", "_law_size_here"] spWord := a3.cal X G (fun _ _ _ _ _ _ => len2 fun _ _ => rfl) (ok__law_word T c__law_mix)
    have c__law_words : Cal l.prog w (cutK T_lam K) mg base 3 "_law_words" ["_law_seed"] spWords := a4.cal X G (fun _ _ _ _ _ _ => len1 fun _ => rfl) (ok__law_words T c__law_mix c__law_word)
    have c__law_block : Cal l.prog w (cutK T_lam K) mg base 2 "_law_block" ["_law_cell_here", "_law_rows", "_law_columns"] spBlock := a5.cal X G (fun _ _ _ _ _ _ => len3 fun _ _ _ => rfl) (ok__law_block T c__law_mix)
    have c__law_free : Cal l.prog w (cutK T_lam K) mg base 1 "_law_free" ["_law_block_here", "_law_rows", "_law_columns", "_law_taken"] spFree := a6.cal X G (fun _ _ _ _ _ _ => len4 fun _ _ _ _ => rfl) (ok__law_free T)
    have c__law_table : Cal l.prog w (cutK T_lam K) mg base 4 "_law_table" ["_law_script", "_law_rows", "_law_columns"] (spTable (cutK T_lam K)) := a7.cal X G (fun _ _ _ _ _ _ => len3 fun _ _ _ => rfl) (ok__law_table T c__law_cell c__law_words c__law_block c__law_free)
    have c__law_size : Cal l.prog w (cutK T_lam K) mg base 3 "_law_size" ["_law_script", "_law_k"] (spSize (cutK T_lam K)) := a8.cal X G (fun _ _ _ _ _ _ => len2 fun _ _ => rfl) (ok__law_size T c__law_cell c__law_large)
    have c__law_made : Cal l.prog w (cutK T_lam K) mg base 5 "_law_made" ["_law_script"] (spMade (cutK T_lam K)) := a9.cal X G (fun _ _ _ _ _ _ => len1 fun _ => rfl) (ok__law_made T c__law_cell c__law_table c__law_size)
    have c__law_copy : Cal l.prog w (cutK T_lam K) mg base 1 "_law_copy" ["_law_table_here"] spCopy := a10.cal X G (fun _ _ _ _ _ _ => len1 fun _ => rfl) (ok__law_copy T)
    have c__law_whole : Cal l.prog w (cutK T_lam K) mg base 1 "_law_whole" ["_law_found"] spWhole := a11.cal X G (fun _ _ _ _ _ _ => len1 fun _ => rfl) (ok__law_whole T)
    have c__law_kinds : Cal l.prog w (cutK T_lam K) mg base 2 "_law_kinds" ["_law_table_here"] spKinds := a12.cal X G (fun _ _ _ _ _ _ => len1 fun _ => rfl) (ok__law_kinds T c__law_whole)
    have c_covers : Cal l.prog w (cutK T_lam K) mg base 1 "covers" ["cell", "row", "column"] spCovers := a13.cal X G (fun _ _ _ _ _ _ => len3 fun _ _ _ => rfl) ok_covers
    have c_cell_at : Cal l.prog w (cutK T_lam K) mg base 2 "cell_at" ["table", "row", "column"] spCellAt := a14.cal X G (fun _ _ _ _ _ _ => len3 fun _ _ _ => rfl) (ok_cell_at T c_covers)
    have c_moved_cell : Cal l.prog w (cutK T_lam K) mg base 1 "moved_cell" ["cell", "down", "right"] spMoved := a15.cal X G (fun _ _ _ _ _ _ => len3 fun _ _ _ => rfl) ok_moved_cell
    have c_meets : Cal l.prog w (cutK T_lam K) mg base 1 "meets" ["cell", "block"] (spBlockB meetsB) := a16.cal X G (fun _ _ _ _ _ _ => len2 fun _ _ => rfl) ok_meets
    have c_lies_in : Cal l.prog w (cutK T_lam K) mg base 1 "lies_in" ["cell", "block"] (spBlockB liesB) := a17.cal X G (fun _ _ _ _ _ _ => len2 fun _ _ => rfl) ok_lies_in
    have c_cells_in : Cal l.prog w (cutK T_lam K) mg base 2 "cells_in" ["table", "block"] spCellsIn := a18.cal X G (fun _ _ _ _ _ _ => len2 fun _ _ => rfl) (ok_cells_in T c_meets c_lies_in)
    have c_cut_out : Cal l.prog w (cutK T_lam K) mg base 3 "cut_out" ["table", "top", "left", "height", "width"] spCutOut := a19.cal X G (fun _ _ _ _ _ _ => len5 fun _ _ _ _ _ => rfl) (ok_cut_out T c_moved_cell c_cells_in)
    have c_spans : Cal l.prog w (cutK T_lam K) mg base 1 "spans" ["cell", "line"] spSpans := a20.cal X G (fun _ _ _ _ _ _ => len2 fun _ _ => rfl) ok_spans
    have c_is_open : Cal l.prog w (cutK T_lam K) mg base 2 "is_open" ["table", "line"] spIsOpen := a21.cal X G (fun _ _ _ _ _ _ => len2 fun _ _ => rfl) (ok_is_open T c_spans)
    have c_open_lines : Cal l.prog w (cutK T_lam K) mg base 3 "open_lines" ["table"] spOpenLines := a22.cal X G (fun _ _ _ _ _ _ => len1 fun _ => rfl) (ok_open_lines T c_is_open)
    have c_bands : Cal l.prog w (cutK T_lam K) mg base 4 "bands" ["table"] spBands := a23.cal X G (fun _ _ _ _ _ _ => len1 fun _ => rfl) (ok_bands T c_open_lines)
    have c_stacked : Cal l.prog w (cutK T_lam K) mg base 2 "stacked" ["parts"] spStacked := a24.cal X G (fun _ _ _ _ _ _ => len1 fun _ => rfl) (ok_stacked T c_moved_cell)
    have c_band_table : Cal l.prog w (cutK T_lam K) mg base 4 "band_table" ["table", "band"] spBandTable := a25.cal X G (fun _ _ _ _ _ _ => len2 fun _ _ => rfl) (ok_band_table c_cut_out)
    have c__law_open : Cal l.prog w (cutK T_lam K) mg base 1 "_law_open" ["_law_table_here", "_law_line"] spLOpen := a26.cal X G (fun _ _ _ _ _ _ => len2 fun _ _ => rfl) (ok__law_open T)
    have c__law_bands : Cal l.prog w (cutK T_lam K) mg base 2 "_law_bands" ["_law_table_here"] spLBands := a27.cal X G (fun _ _ _ _ _ _ => len1 fun _ => rfl) (ok__law_bands T c__law_open)
    have c_words_at : Cal l.prog w (cutK T_lam K) mg base 3 "words_at" ["table", "row", "column"] spWordsAt := a28.cal X G (fun _ _ _ _ _ _ => len3 fun _ _ _ => rfl) (ok_words_at T c_cell_at)
    have c_ordered : Cal l.prog w (cutK T_lam K) mg base 7 "ordered" ["table", "column"] (spOrdered T_lam) := a29.calC X G (fun _ _ _ _ _ _ => len2 fun _ _ => rfl) (fun f fd e F => ok_ordered T c_bands c_stacked c_band_table c_words_at hB hC f fd F (tab_code X G hC0 e F))
    have c__law_few : Cal l.prog w (cutK T_lam K) mg base 2 "_law_few" ["_law_table_here", "_law_script"] (spFew (cutK T_lam K)) := a30.cal X G (fun _ _ _ _ _ _ => len2 fun _ _ => rfl) (ok__law_few T c__law_cell c__law_mix)
    have c__law_key : Cal l.prog w (cutK T_lam K) mg base 1 "_law_key" ["_law_table_here", "_law_band", "_law_column"] spKeyL := a31.cal X G (fun _ _ _ _ _ _ => len3 fun _ _ _ => rfl) (ok__law_key T)
    have c__law_place : Cal l.prog w (cutK T_lam K) mg base 2 "_law_place" ["_law_table_here", "_law_some", "_law_column", "_law_at"] spPlace := a32.cal X G (fun _ _ _ _ _ _ => len4 fun _ _ _ _ => rfl) (ok__law_place T c__law_key)
    exact ok_law T c__law_made c__law_few c__law_cell c__law_bands c__law_place c__law_copy c_ordered c__law_kinds _ fd F
theorem walk {l : PySem.W.OpenLaw} {q : Program} {loose : List Str} {XP : (Str → Option Value) → Heap → Prop} {YP : World → Heap → Prop} {d dd : DefRec} {K : Params → PySem.W.Frag} (hn : l.most = some 63) (hdf : d.params.defaults = [])
    (hY : ∀ (w : World) (h : Heap), YP w h → (K w.params).In h) (hrec : (recsOf q).find? (fun e => e.name == ("ordered" : Str)) = some dd)
    (F : ∀ (w : World) (mg : Str → Option Value) (fa : Addr) (h : Heap), (K w.params).In h → h.Ns mainGlobals mg → mg d.name = some (.ref fa) →
      ∀ (c T : Addr), PySem.W.CodeHd h c T → h.get? T = some (PySem.W.tabObj #[]) → (∃ f o fd, mg "ordered" = some (.ref f) ∧ h.get? f = some o ∧ o.data = .func fd ∧ fd.code = .ref c) →
      ∃ fd : FuncData, (∀ (s : Shared) (u : Value), BindsTo s fd ⟨[u], []⟩ [("_law_script", u)]) ∧ ∀ base : Heap, (cutK T (K w.params)).In base → base.Ns mainGlobals mg → BltAt mg base → PySem.W.CodeHd base c T → FnOk l.prog w (cutK T (K w.params)) mg base CX0 8 fa fd ["_law_script"] (spLaw (cutK T (K w.params)) T)) :
    PySem.W.WalkO q loose XP YP l.row.toRowW d [] (fun f vs => PySem.call f vs) :=
  L2.walk_of2 (n := 63) (k := 8) (x := "_law_script") (x0 := "ordered") (CX := fun _ => CX0) (sp := fun w T => spLaw (cutK T (K w.params)) T) hn (by decide) hdf ⟨rfl, by decide, by decide⟩ hY hrec F (fun _ T H a ns hl hT hS => ⟨a, ns, rfl, hS, hl, hT, fun _ => rfl⟩) fun _ _ _ _ _ z => z
end KL
noncomputable def PySem.W.Fast.tw10827932546418816141:PySem.Program:=PySem.Challenge.pw_gridframe_k14_whole_bands_in_order
theorem PySem.W.Fast.te10827932546418816141:PySem.Challenge.pw_gridframe_k14_whole_bands_in_order=PySem.W.Fast.tw10827932546418816141:=rfl
namespace PySem.W.Fast
theorem te4713581377787266564:True:=trivial
theorem te873858514280118796:True:=trivial
theorem te2912442441955737151:True:=trivial
theorem te1593806679283949907:True:=trivial
theorem te9118072864971405127:True:=trivial
theorem te13374896717907982827:True:=trivial
theorem te2822900353804502835:True:=trivial
theorem te208520076998532584:True:=trivial
theorem te13565408583091273815:True:=trivial
theorem te18026096701447278442:True:=trivial
theorem te1691112962143605211:True:=trivial
theorem te12688355595448956514:True:=trivial
theorem te2548888815233033588:True:=trivial
theorem te1455332403808785735:True:=trivial
theorem te1500131933432544988:True:=trivial
theorem te15076624966038280122:True:=trivial
theorem te2070227771138752795:True:=trivial
theorem te13222238516988612252:True:=trivial
theorem te5634291978803812577:True:=trivial
theorem te2482500491807618620:True:=trivial
theorem te6773213313039746959:True:=trivial
theorem te17547992142652253945:True:=trivial
theorem te3704679410719549702:True:=trivial
theorem te6880816569908154596:True:=trivial
theorem te660006712409441005:True:=trivial
theorem te9033782242260809800:True:=trivial
theorem te6533834742459989100:True:=trivial
theorem te4946821246357905355:True:=trivial
theorem te4308954758808880447:True:=trivial
theorem te2634637194918232159:True:=trivial
theorem te12018172565576042171:True:=trivial
theorem te2783734793806402079:True:=trivial
theorem te17551775420097078693:True:=trivial
theorem te11503246751389681401:True:=trivial
theorem te12317646173956010163:True:=trivial
theorem te13092837622745461410:True:=trivial
theorem te8079452298016190330:True:=trivial
theorem te3737640680486844817:True:=trivial
theorem te6977765561310897370:True:=trivial
theorem te6836720186714722450:True:=trivial
theorem te5397787885319313368:True:=trivial
theorem te4397581066475350169:True:=trivial
theorem te8267600075878347932:True:=trivial
theorem te5742010051353717984:True:=trivial
theorem te16310129584069983126:True:=trivial
theorem te2282888947119455128:True:=trivial
theorem te3930830600064673521:True:=trivial
theorem te5926584908438049196:True:=trivial
theorem te18390918162810738052:True:=trivial
theorem te9029429249722995520:True:=trivial
theorem te8194777886710456379:True:=trivial
theorem te10722983662682531311:True:=trivial
theorem te18364080855954922137:True:=trivial
theorem te1785171266328026150:True:=trivial
theorem te1687647281527152611:True:=trivial
theorem te9036680518157211686:True:=trivial
theorem te16816679029266246633:True:=trivial
theorem te8065713981798745059:True:=trivial
theorem te253891406753847393:True:=trivial
theorem te15686785004674486201:True:=trivial
theorem te546227984106401959:True:=trivial
theorem te2494679814524150319:True:=trivial
theorem te15884339156623491892:True:=trivial
theorem te9010183523326161364:True:=trivial
theorem te3046065948439774647:True:=trivial
theorem te5131839997433856313:True:=trivial
theorem te2098619509047657702:True:=trivial
theorem te15460518268387048276:True:=trivial
theorem te5353014636087652762:True:=trivial
theorem te11822024397489605381:True:=trivial
theorem te10656606041577627412:True:=trivial
theorem te6204977879159808967:True:=trivial
theorem te2481551364324375140:True:=trivial
theorem te16333554773767911345:True:=trivial
theorem te15494946291117291659:True:=trivial
theorem te363321684057173750:True:=trivial
theorem te8828274935632569040:True:=trivial
theorem te760575372901933263:True:=trivial
theorem te5523373045795033704:True:=trivial
theorem te9824070734096068890:True:=trivial
theorem te13341969277151941106:True:=trivial
theorem te17928036094274468784:True:=trivial
theorem te11328169875230412958:True:=trivial
theorem te14922120633897248298:True:=trivial
theorem te6798140419003694977:True:=trivial
theorem te12540299726947758094:True:=trivial
theorem te8178905994985945136:True:=trivial
theorem te13369975100625834322:True:=trivial
theorem te3839016699487114384:True:=trivial
theorem te18116059397644321837:True:=trivial
theorem te4705017434139559497:True:=trivial
theorem te617304103922743641:True:=trivial
theorem te10383120371557311481:True:=trivial
theorem te8555660328255390432:True:=trivial
theorem te5352027136903621865:True:=trivial
theorem te1292983584282974478:True:=trivial
theorem te9316086957377294773:True:=trivial
theorem te14630471093815475006:True:=trivial
theorem te17828798013664267515:True:=trivial
theorem te5295907987967034691:True:=trivial
theorem te1123827441327106395:True:=trivial
theorem te12099264566374051807:True:=trivial
theorem te15353779269180285688:True:=trivial
theorem te9740200306740706875:True:=trivial
theorem te1841717755393272090:True:=trivial
theorem te10925956403454210847:True:=trivial
theorem te9285850269410015939:True:=trivial
theorem te3003167121213189944:True:=trivial
theorem te15408035390727261413:True:=trivial
theorem te2791162441594721035:True:=trivial
theorem te7990483927557748987:True:=trivial
theorem te3498779421035962843:True:=trivial
theorem te472449480644478087:True:=trivial
theorem te14900965905329088202:True:=trivial
theorem te3573163691879508189:True:=trivial
theorem te9647421532844760767:True:=trivial
theorem te17590134577747086718:True:=trivial
theorem te6746574932535288411:True:=trivial
theorem te12271563314621306336:True:=trivial
theorem te11720645930418502103:True:=trivial
theorem te9826792374913077157:True:=trivial
theorem te4373907926542993538:True:=trivial
theorem te15143757267946446088:True:=trivial
theorem te5862914234157461177:True:=trivial
theorem te3483563408956247704:True:=trivial
theorem te11951516076114608622:True:=trivial
theorem te14435230007368006176:True:=trivial
theorem te15673106820248561171:True:=trivial
theorem te1218645834779700670:True:=trivial
theorem te6728060207179467407:True:=trivial
theorem te17177318130646703726:True:=trivial
theorem te16471329725294595594:True:=trivial
theorem te6883001938760404865:True:=trivial
theorem te675440224159567635:True:=trivial
theorem te12256918924386835226:True:=trivial
theorem te2963147356412115345:True:=trivial
theorem te17081387835976194594:True:=trivial
theorem te13780940836945471688:True:=trivial
theorem te524733119142345631:True:=trivial
theorem te14525073316435942229:True:=trivial
theorem te15763586096695966927:True:=trivial
theorem te8475646414197032772:True:=trivial
theorem te120582539434287515:True:=trivial
theorem te10096427903239826401:True:=trivial
theorem te2840746089843679711:True:=trivial
theorem te10360234288279841525:True:=trivial
theorem te2390148800675507145:True:=trivial
theorem te10464398125970924548:True:=trivial
theorem te4340139906619736706:True:=trivial
theorem te1098078453314590301:True:=trivial
theorem te18103400718146393630:True:=trivial
theorem te191998920070204209:True:=trivial
theorem te9841007523384641434:True:=trivial
theorem te15990257596946597606:True:=trivial
theorem te2864761195147582146:True:=trivial
theorem te17914034088599465420:True:=trivial
theorem te9318086960587222517:True:=trivial
theorem te10188006290105523606:True:=trivial
theorem te3358039222019673590:True:=trivial
theorem te7612697875291652076:True:=trivial
theorem te17168109365690081872:True:=trivial
theorem te5932419373096832409:True:=trivial
theorem te9520400925872760740:True:=trivial
theorem te8430057554023696491:True:=trivial
theorem te5578382308212792601:True:=trivial
theorem te18274043893502116249:True:=trivial
theorem te2622270557662960140:True:=trivial
theorem te12791310060922426869:True:=trivial
theorem te4179378413791594347:True:=trivial
theorem te17575360530295780325:True:=trivial
theorem te10024042809733469148:True:=trivial
theorem te10571665896680474266:True:=trivial
theorem te13981501901662479027:True:=trivial
theorem te10992057650937529047:True:=trivial
theorem te9512617328553929620:True:=trivial
theorem te10037949185771147937:True:=trivial
theorem te2512111191252021224:True:=trivial
theorem te5486411355463122797:True:=trivial
theorem te7808908319715080450:True:=trivial
theorem te1747418300009953256:True:=trivial
theorem te3982023403282007045:True:=trivial
theorem te17810484132243900327:True:=trivial
theorem te14659183610763430488:True:=trivial
theorem te1321180794245180980:True:=trivial
theorem te7049144830554984504:True:=trivial
theorem te928817138564561529:True:=trivial
theorem te9028641667352548019:True:=trivial
theorem te7088618817623435156:True:=trivial
theorem te10462319125266408926:True:=trivial
theorem te10421559804335954159:True:=trivial
theorem te10639367539141963620:True:=trivial
theorem te11897939420051606202:True:=trivial
theorem te12309848502115647685:True:=trivial
theorem te9697365217834965900:True:=trivial
theorem te12020987580414346854:True:=trivial
theorem te2228508202956814017:True:=trivial
theorem te11114114539007717003:True:=trivial
theorem te15441014570001400256:True:=trivial
theorem te3134206512421919184:True:=trivial
theorem te17081909905982067871:True:=trivial
theorem te1696702817888300528:True:=trivial
theorem te7575301092847391018:True:=trivial
theorem te17211227461744289809:True:=trivial
theorem te711517081991003528:True:=trivial
theorem te17349254096468905092:True:=trivial
theorem te10283699811946675807:True:=trivial
theorem te3927523937061646887:True:=trivial
theorem te5228483058611068542:True:=trivial
theorem te1710062880511033582:True:=trivial
theorem te16630265023430106974:True:=trivial
theorem te14915697143503559144:True:=trivial
theorem te5773656768480313894:True:=trivial
theorem te17383511118341057168:True:=trivial
theorem te6465849682108389125:True:=trivial
theorem te5949491995841587054:True:=trivial
theorem te5889820808364742584:True:=trivial
theorem te252150843208009538:True:=trivial
theorem te13718254261481554324:True:=trivial
theorem te9109946641978030054:True:=trivial
theorem te17952874678140686538:True:=trivial
theorem te5020084578918724954:True:=trivial
theorem te14753056312553930169:True:=trivial
theorem te8533713728926876787:True:=trivial
theorem te16145916660887293953:True:=trivial
theorem te3225722788015400433:True:=trivial
theorem te125629864633461191:True:=trivial
theorem te1731043414395306469:True:=trivial
end PySem.W.Fast
open PySem PySem.W PyProof.Rows
set_option maxRecDepth 100000 in
set_option maxHeartbeats 0 in
theorem PySem.Challenge.cw_gridframe_k14_whole_bands_in_order_holds : PySem.Challenge.rw_gridframe_k14_whole_bands_in_order.Holds := by
  w_on; o_law; k_head; (case hw => w_witness2)
  k_fill
  refine KL.walk (l := PySem.Challenge.rw_gridframe_k14_whole_bands_in_order) rfl rfl (fun w h Y => PySem.W.km_in_of Y) rfl ?F
  case F =>
    intro w mg fa h KX G hmg c_lam T_lam hCh hT0 hC0
    refine' KL.all_ok KX G hmg ?a0 ?a1 ?a2 ?a3 ?a4 ?a5 ?a6 ?a7 ?a8 ?a9 ?a10 ?a11 ?a12 ?a13 ?a14 ?a15 ?a16 ?a17 ?a18 ?a19 ?a20 ?a21 ?a22 ?a23 ?a24 ?a25 ?a26 ?a27 ?a28 ?a29 ?a30 ?a31 ?a32 ?a33 ?z0 ?z1 ?z2 ?z3 ?z4 ?z5 ?z6 ?z7 ?z8 ?z9 ?z10 ?z11 ?z12 ?z13 ?z14 ?z15 ?z16 ?z17 hT0 hC0
    (case a0 => refine' L2.at0_mk ?na0 ?lk0 ?co0 ?kp0; (case na0 => k_is); (case lk0 => k_is); (case co0 => k_is); (case kp0 => k_is))
    (case a1 => refine' L2.at0_mk ?na1 ?lk1 ?co1 ?kp1; (case na1 => k_is); (case lk1 => k_is); (case co1 => k_is); (case kp1 => k_is))
    (case a2 => refine' L2.at0_mk ?na2 ?lk2 ?co2 ?kp2; (case na2 => k_is); (case lk2 => k_is); (case co2 => k_is); (case kp2 => k_is))
    (case a3 => refine' L2.at0_mk ?na3 ?lk3 ?co3 ?kp3; (case na3 => k_is); (case lk3 => k_is); (case co3 => k_is); (case kp3 => k_is))
    (case a4 => refine' L2.at0_mk ?na4 ?lk4 ?co4 ?kp4; (case na4 => k_is); (case lk4 => k_is); (case co4 => k_is); (case kp4 => k_is))
    (case a5 => refine' L2.at0_mk ?na5 ?lk5 ?co5 ?kp5; (case na5 => k_is); (case lk5 => k_is); (case co5 => k_is); (case kp5 => k_is))
    (case a6 => refine' L2.at0_mk ?na6 ?lk6 ?co6 ?kp6; (case na6 => k_is); (case lk6 => k_is); (case co6 => k_is); (case kp6 => k_is))
    (case a7 => refine' L2.at0_mk ?na7 ?lk7 ?co7 ?kp7; (case na7 => k_is); (case lk7 => k_is); (case co7 => k_is); (case kp7 => k_is))
    (case a8 => refine' L2.at0_mk ?na8 ?lk8 ?co8 ?kp8; (case na8 => k_is); (case lk8 => k_is); (case co8 => k_is); (case kp8 => k_is))
    (case a9 => refine' L2.at0_mk ?na9 ?lk9 ?co9 ?kp9; (case na9 => k_is); (case lk9 => k_is); (case co9 => k_is); (case kp9 => k_is))
    (case a10 => refine' L2.at0_mk ?na10 ?lk10 ?co10 ?kp10; (case na10 => k_is); (case lk10 => k_is); (case co10 => k_is); (case kp10 => k_is))
    (case a11 => refine' L2.at0_mk ?na11 ?lk11 ?co11 ?kp11; (case na11 => k_is); (case lk11 => k_is); (case co11 => k_is); (case kp11 => k_is))
    (case a12 => refine' L2.at0_mk ?na12 ?lk12 ?co12 ?kp12; (case na12 => k_is); (case lk12 => k_is); (case co12 => k_is); (case kp12 => k_is))
    (case a13 => refine' L2.at0_mk ?na13 ?lk13 ?co13 ?kp13; (case na13 => k_is); (case lk13 => k_is); (case co13 => k_is); (case kp13 => k_is))
    (case a14 => refine' L2.at0_mk ?na14 ?lk14 ?co14 ?kp14; (case na14 => k_is); (case lk14 => k_is); (case co14 => k_is); (case kp14 => k_is))
    (case a15 => refine' L2.at0_mk ?na15 ?lk15 ?co15 ?kp15; (case na15 => k_is); (case lk15 => k_is); (case co15 => k_is); (case kp15 => k_is))
    (case a16 => refine' L2.at0_mk ?na16 ?lk16 ?co16 ?kp16; (case na16 => k_is); (case lk16 => k_is); (case co16 => k_is); (case kp16 => k_is))
    (case a17 => refine' L2.at0_mk ?na17 ?lk17 ?co17 ?kp17; (case na17 => k_is); (case lk17 => k_is); (case co17 => k_is); (case kp17 => k_is))
    (case a18 => refine' L2.at0_mk ?na18 ?lk18 ?co18 ?kp18; (case na18 => k_is); (case lk18 => k_is); (case co18 => k_is); (case kp18 => k_is))
    (case a19 => refine' L2.at0_mk ?na19 ?lk19 ?co19 ?kp19; (case na19 => k_is); (case lk19 => k_is); (case co19 => k_is); (case kp19 => k_is))
    (case a20 => refine' L2.at0_mk ?na20 ?lk20 ?co20 ?kp20; (case na20 => k_is); (case lk20 => k_is); (case co20 => k_is); (case kp20 => k_is))
    (case a21 => refine' L2.at0_mk ?na21 ?lk21 ?co21 ?kp21; (case na21 => k_is); (case lk21 => k_is); (case co21 => k_is); (case kp21 => k_is))
    (case a22 => refine' L2.at0_mk ?na22 ?lk22 ?co22 ?kp22; (case na22 => k_is); (case lk22 => k_is); (case co22 => k_is); (case kp22 => k_is))
    (case a23 => refine' L2.at0_mk ?na23 ?lk23 ?co23 ?kp23; (case na23 => k_is); (case lk23 => k_is); (case co23 => k_is); (case kp23 => k_is))
    (case a24 => refine' L2.at0_mk ?na24 ?lk24 ?co24 ?kp24; (case na24 => k_is); (case lk24 => k_is); (case co24 => k_is); (case kp24 => k_is))
    (case a25 => refine' L2.at0_mk ?na25 ?lk25 ?co25 ?kp25; (case na25 => k_is); (case lk25 => k_is); (case co25 => k_is); (case kp25 => k_is))
    (case a26 => refine' L2.at0_mk ?na26 ?lk26 ?co26 ?kp26; (case na26 => k_is); (case lk26 => k_is); (case co26 => k_is); (case kp26 => k_is))
    (case a27 => refine' L2.at0_mk ?na27 ?lk27 ?co27 ?kp27; (case na27 => k_is); (case lk27 => k_is); (case co27 => k_is); (case kp27 => k_is))
    (case a28 => refine' L2.at0_mk ?na28 ?lk28 ?co28 ?kp28; (case na28 => k_is); (case lk28 => k_is); (case co28 => k_is); (case kp28 => k_is))
    (case a29 => refine' L2.at0_mk ?na29 ?lk29 ?co29 ?kp29; (case na29 => k_is); (case lk29 => k_is); (case co29 => k_is); (case kp29 => k_is))
    (case a30 => refine' L2.at0_mk ?na30 ?lk30 ?co30 ?kp30; (case na30 => k_is); (case lk30 => k_is); (case co30 => k_is); (case kp30 => k_is))
    (case a31 => refine' L2.at0_mk ?na31 ?lk31 ?co31 ?kp31; (case na31 => k_is); (case lk31 => k_is); (case co31 => k_is); (case kp31 => k_is))
    (case a32 => refine' L2.at0_mk ?na32 ?lk32 ?co32 ?kp32; (case na32 => k_is); (case lk32 => k_is); (case co32 => k_is); (case kp32 => k_is))
    (case a33 => refine' L2.at0_mk ?na33 ?lk33 ?co33 ?kp33; (case na33 => k_is); (case lk33 => k_is); (case co33 => k_is); (case kp33 => k_is))
    (case z0 => k_is); (case z1 => k_is); (case z2 => k_is); (case z3 => k_is); (case z4 => k_is); (case z5 => k_is); (case z6 => k_is); (case z7 => k_is); (case z8 => k_is); (case z9 => k_is); (case z10 => k_is); (case z11 => k_is); (case z12 => k_is); (case z13 => k_is); (case z14 => k_is); (case z15 => k_is); (case z16 => k_is); (case z17 => k_is)
#print axioms PySem.Challenge.cw_gridframe_k14_whole_bands_in_order_holds

