import PyProof.Rows.All
import Wide.All
import OpenK.AllK
import Wide.FinOn
import Lean
import PyProof.EqAt
import PyProof.EqKinds
import PyProof.TupleCall
import PyProof.NeKinds
import PyProof.Rows.SortShellK
import KE.KSortTup
import PyProof.EnumStmt
import PyProof.EnumMake
import PyProof.EnumFor
import PyProof.FactsAll.tuple
import PyProof.FactsAll.int
import PyProof.ListMulRoad
import PyProof.ZipIter
import PyProof.ListNew
import KE.LcSums
import KE.KRevIter
import PyProof.ListRange
import PyProof.Rows.SumAny
import KE.KMinKey
import PyProof.StrBlockG
import PyProof.FitsReplace
import PyProof.Draws
import PyProof.StrCalls
import KE.KIntText
import KE.KxText
import PyProof.CallStr
import KE.KSortKey
import PyProof.StationsW
import KE.KTryOn
import PyProof.ExcInit
import PyProof.FString5
import PyProof.InstStoreFacts
import PyProof.ExcAttrAll.ValueError
import PyProof.StrLawsWords2
import PyProof.StrCalls2
import PyProof.SliceStr2
import PyProof.NsDelKeeps
import PySem.Challenge.RW_gridframe_k01_tables
set_option Elab.async false
set_option linter.all false
set_option maxRecDepth 100000
/-! THE HAND LAYER, for ints, bools, texts, own classes, LISTS and tuples (index, slices, in, append, pop ..), calls, loops. Paste it whole ahead of your own text; what your proof does not reach may be deleted. -/
namespace L2
open PySem PySem.Spec PyProof.Rows

/-- a key: an int or a str -/
noncomputable abbrev Key := Sum Int Str
noncomputable def keyIs : Key → Value → Bool
  | .inl k, v => Value.isInt k v
  | .inr x, v => Value.isStrOf x v
noncomputable def keyH (w : World) : Key → Int
  | .inl k => hashInt k
  | .inr x => hashStr w x
theorem keyIs_shape : ∀ {k : Key} {v : Value}, keyIs k v = true → (∃ i t, k = Sum.inl i ∧ v = Value.int i t) ∨ (∃ x t, k = Sum.inr x ∧ v = Value.str x t)
  | .inl i, v, h => by
    obtain ⟨t, e⟩ := Value.isInt_shape (k := i) (v := v) h
    exact .inl ⟨i, t, rfl, e⟩
  | .inr x, v, h => by
    obtain ⟨t, e⟩ := Value.isStrOf_shape (x := x) (v := v) h
    exact .inr ⟨x, t, rfl, e⟩
theorem keyIs_int (i : Int) (t : Tok) : keyIs (.inl i) (.int i t) = true := by simp [keyIs, Value.isInt]
theorem keyIs_str (x : Str) (t : Tok) : keyIs (.inr x) (.str x t) = true := by simp [keyIs, Value.isStrOf]
theorem key_ll (a b : Int) : decide ((Sum.inl a : Key) = Sum.inl b) = (a == b) := by
  by_cases e : a = b
  · subst e; simp
  · have h : ¬ (Sum.inl a : Key) = Sum.inl b := fun q => e (Sum.inl.inj q)
    rw [decide_eq_false h]
    exact (beq_eq_false_iff_ne.mpr e).symm
theorem key_rr (a b : Str) : decide ((Sum.inr a : Key) = Sum.inr b) = decide (a = b) := by
  by_cases e : a = b
  · subst e; simp
  · have h : ¬ (Sum.inr a : Key) = Sum.inr b := fun q => e (Sum.inr.inj q)
    rw [decide_eq_false h, decide_eq_false e]
theorem key_lr (a : Int) (b : Str) : decide ((Sum.inl a : Key) = Sum.inr b) = false := decide_eq_false (fun q => nomatch q)
theorem key_rl (a : Str) (b : Int) : decide ((Sum.inr a : Key) = Sum.inl b) = false := decide_eq_false (fun q => nomatch q)

noncomputable def mixKind (prog : Program) (w : World) : PySem.KeyKind prog w Key where
  is := keyIs
  hash := keyH w
  inj := fun v a b ha hb => by
    rcases keyIs_shape ha with ⟨i, t, rfl, rfl⟩ | ⟨x, t, rfl, rfl⟩
    · rcases keyIs_shape hb with ⟨j, u, rfl, e⟩ | ⟨y, u, rfl, e⟩
      · injection e with e1 _; rw [e1]
      · exact nomatch e
    · rcases keyIs_shape hb with ⟨j, u, rfl, e⟩ | ⟨y, u, rfl, e⟩
      · exact nomatch e
      · injection e with e1 _; rw [e1]
  byValue := fun k v h => by
    rcases keyIs_shape h with ⟨i, t, rfl, rfl⟩ | ⟨x, t, rfl, rfl⟩ <;> rfl
  pyHash := fun hv h => by
    rcases keyIs_shape hv with ⟨i, t, rfl, rfl⟩ | ⟨x, t, rfl, rfl⟩
    · exact wpAny_pyHash_int h
    · exact wpAny_pyHash_str h
  eqBool := fun hu hv h => by
    rcases keyIs_shape hu with ⟨i, t, rfl, rfl⟩ | ⟨x, t, rfl, rfl⟩
    · rcases keyIs_shape hv with ⟨j, u, rfl, rfl⟩ | ⟨y, u, rfl, rfl⟩
      · rw [key_ll] at h; exact wpAny_eqBool_int h
      · rw [key_lr] at h; exact SeqAt.EqAt.int_str i t y u _ _ _ _ h
    · rcases keyIs_shape hv with ⟨j, u, rfl, rfl⟩ | ⟨y, u, rfl, rfl⟩
      · rw [key_rl] at h; exact SeqAt.EqAt.str_int x t j u _ _ _ _ h
      · rw [key_rr] at h; exact wpAny_eqBool_str h
  «strs» := fun k x t v h => by
    rcases keyIs_shape h with ⟨i, u, rfl, e⟩ | ⟨y, u, rfl, e⟩
    · exact nomatch e
    · injection e with e1 _
      subst e1
      cases v <;> rfl

theorem mixKind_int (prog : Program) (w : World) (i : Int) (t : Tok) : (mixKind prog w).is (.inl i) (.int i t) = true := keyIs_int i t
theorem mixKind_str (prog : Program) (w : World) (x : Str) (t : Tok) : (mixKind prog w).is (.inr x) (.str x t) = true := keyIs_str x t
end L2

namespace L2
open PySem PySem.Spec PyProof.Rows

/-- a value, without the heap -/
inductive V where
  | non | bl (b : Bool) | int (i : Int) | str (x : Str) | byt (b : Array UInt8) | flt (b : UInt64) | ref (a : Addr) | ty (n : String)
  deriving DecidableEq

noncomputable def RelV : V → Value → Prop
  | .non, u => u = Value.none
  | .bl b, u => u = Value.bool b
  | .int i, u => ∃ t, u = Value.int i t
  | .str x, u => ∃ t, u = Value.str x t
  | .byt b, u => ∃ t, u = Value.bytes b t
  | .flt b, u => ∃ t, u = Value.float b t
  | .ref a, u => u = Value.ref a
  | .ty n, u => u = Value.type n

noncomputable abbrev Vals : List V → List Value → Prop := Paired RelV
theorem Vals.length {xs : List V} {us : List Value} (r : Vals xs us) : xs.length = us.length := Paired.length r
theorem Vals.get : ∀ {xs : List V} {us : List Value} {i : Nat} {x : V}, Vals xs us → xs[i]? = some x → ∃ u, us[i]? = some u ∧ RelV x u
  | _, _, _, _, .nil, e => by simp at e
  | _, _, 0, _, .cons r _, e => by simp at e; subst e; exact ⟨_, rfl, r⟩
  | _, _, i + 1, x, .cons _ t, e => by
    obtain ⟨u, h1, h2⟩ := Vals.get (i := i) (x := x) t (by simpa using e)
    exact ⟨u, by simpa using h1, h2⟩
theorem Vals.set {x : V} {u : Value} (r : RelV x u) : ∀ {xs : List V} {us : List Value} (i : Nat), Vals xs us → Vals (xs.set i x) (us.set i u)
  | _, _, _, .nil => .nil
  | _, _, 0, .cons _ t => .cons r t
  | _, _, i + 1, .cons q t => .cons q (Vals.set r i t)
theorem Vals.append : ∀ {xs ys : List V} {us ws : List Value}, Vals xs us → Vals ys ws → Vals (xs ++ ys) (us ++ ws)
  | _, _, _, _, .nil, s => s
  | _, _, _, _, .cons r t, s => .cons r (Vals.append t s)
theorem Vals.take : ∀ {xs : List V} {us : List Value} (n : Nat), Vals xs us → Vals (xs.take n) (us.take n)
  | _, _, 0, _ => .nil
  | _, _, _ + 1, .nil => .nil
  | _, _, n + 1, .cons r t => .cons r (Vals.take n t)
theorem Vals.drop : ∀ {xs : List V} {us : List Value} (n : Nat), Vals xs us → Vals (xs.drop n) (us.drop n)
  | _, _, 0, r => r
  | _, _, _ + 1, .nil => .nil
  | _, _, n + 1, .cons _ t => Vals.drop n t

noncomputable def RelO : Option V → Option Value → Prop
  | some v, some u => RelV v u
  | none, none => True
  | _, _ => False
noncomputable def KV {κ : Type} : List (κ × V) → List (κ × Value) → Prop := Paired fun (p : κ × V) (q : κ × Value) => p.1 = q.1 ∧ RelV p.2 q.2

/-- a key of a dict (00_mix): an int or a text -/
noncomputable def kV : Key → V
  | .inl i => .int i
  | .inr x => .str x

/-- what stands at a tracked address -/
inductive HO where
  /-- a list -/
  | lst (xs : List V)
  /-- a tuple (never changes) -/
  | tup (xs : List V)
  /-- a dict whose keys are ints and texts; one whose keys are tuples of ints and texts (the empty one is both) -/
  | dK (kvs : List (Key × V)) | dT (kvs : List (List Key × V))
  /-- a set of ints: its members, its size -/
  | set (S : Int → Bool) (n : Nat)
  /-- an instance of the class at C, its dict at dx, its attributes -/
  | ins (C dx : Addr) (fs : List (Str × V))
  /-- the dict of the instance at x -/
  | own (x : Addr)
  /-- the dict of an exception -/
  | xd (fs : List (Str × V))
  /-- a bound method, f of x -/
  | met (f x : Addr)
  /-- a range object lo, lo + 1, .. below hi -/
  | rng (lo hi : Int)
  /-- a thing that is known to the object (the script; a dict while a loop walks it): read, never written while it is so -/
  | frz (o : Obj) (u : HO)
  /-- a code object's table -/
  | tbl (ps : Array Value)
  /-- any other thing, by what is true of its one object (a def of one's own: SetO a S n := HO.ext fun h => ..) -/
  | ext (φ : Heap → Prop)

noncomputable abbrev Hp := Addr → Option HO
noncomputable def upd (H : Hp) (a : Addr) (o : HO) : Hp := fun b => if b = a then some o else H b
theorem upd_same {H : Hp} {a : Addr} {o : HO} : upd H a o a = some o := by unfold upd; rw [if_pos rfl]
theorem upd_ne {H : Hp} {a b : Addr} {o : HO} (h : b ≠ a) : upd H a o b = H b := by unfold upd; rw [if_neg h]
/-- two objects of different content stand apart -/
theorem ne_of {H : Hp} {a b : Addr} {o u : HO} (h : H a = some o) (h' : H b = some u) (d : o ≠ u) : a ≠ b := by
  intro e; subst e; rw [h] at h'; exact d (Option.some.inj h')
theorem ne_of_none {H : Hp} {a b : Addr} {o : HO} (h : H a = some o) (h' : H b = none) : a ≠ b := by
  intro e; subst e; rw [h] at h'; cases h'

section
variable (P : Program) (w : World)
noncomputable def ObjOk (H : Hp) (h : Heap) (a : Addr) : HO → Prop
  | .lst xs => xs.length ≤ sizeLine ∧ ∃ (its : List Value) (n : Nat), Vals xs its ∧ h.get? a = some { cls := .type "list", data := .seq its.toArray n }
  | .tup xs => xs.length ≤ sizeLine ∧ ∃ its : List Value, Vals xs its ∧ IsTup h a its.toArray
  | .dK kvs => kvs.length ≤ sizeLine ∧ (a == sysModules) = false ∧ ∃ vs, KV kvs vs ∧ h.DictOf (mixKind P w) a vs
  | .dT kvs => kvs.length ≤ sizeLine ∧ (a == sysModules) = false ∧ ∃ xs : List (List Key × Addr × Value),
      Paired (fun (p : List Key × V) (q : List Key × Addr × Value) => p.1 = q.1 ∧ H q.2.1 = some (.tup (p.1.map kV)) ∧ RelV p.2 q.2.2) kvs xs ∧
      ∃ o es ep, h.get? a = some o ∧ o.ExactDict ∧ o.data = .dict es ep ∧ es.toList = xs.map (entryOfKey (tupleKind (mixKind P w))) ∧ (xs.map (·.1)).Nodup
  | .set S n => h.SetOf (intKind P w) a S n
  | .ins C dx fs => H dx = some (.own a) ∧ fs.length ≤ 1000 ∧ dx ≠ a ∧ h.get? a = some (PySem.W.instObj C dx) ∧
      ∃ mA, h.Ns1 dx mA ∧ (∀ f, RelO (fs.lookup f) (mA f)) ∧ PySem.Within mA (fs.map (·.1))
  | .own _ => ∃ o, h.get? a = some o
  | .xd fs => ∃ mA, h.Ns1 a mA ∧ ∀ f, RelO (fs.lookup f) (mA f)
  | .rng lo hi => ∃ t u v, h.get? a = some { cls := .type "range", data := .fields #[.int lo t, .int hi u, .int 1 v] }
  | .frz o u => h.get? a = some o ∧ ObjOk H h a u
  | .tbl ps => h.get? a = some { cls := .none, data := .fields ps }
  | .met f x => h.get? a = some (PySem.W.methodObj (.ref f) (.ref x))
  | .ext φ => φ h ∧ (∃ o, h.get? a = some o) ∧ ∀ h1 h2 : Heap, φ h1 → (∀ o, h1.get? a = some o → h2.get? a = some o) → φ h2
/-- the abstract heap is held -/
noncomputable def HOk (H : Hp) (h : Heap) : Prop := ∀ a o, H a = some o → ObjOk P w H h a o
end

section
variable {P : Program} {w : World} {H H' : Hp} {h h' : Heap} {a : Addr} {o : HO}
theorem ObjOk.lt (x : ObjOk P w H h a o) : a < h.objs.size := by
  cases o with
  | lst xs => obtain ⟨_, _, _, _, e⟩ := x; exact Heap.lt_size e
  | tup xs => obtain ⟨_, _, _, p⟩ := x; exact p.lt
  | dK kvs => obtain ⟨_, _, _, _, o, _, _, e, _⟩ := x; exact Heap.lt_size e
  | dT kvs => obtain ⟨_, _, _, _, o, _, _, e, _⟩ := x; exact Heap.lt_size e
  | set S n => obtain ⟨o, _, _, _, e, _⟩ := x; exact Heap.lt_size e
  | ins C dx fs => obtain ⟨_, _, _, e, _⟩ := x; exact Heap.lt_size e
  | own y => obtain ⟨_, e⟩ := x; exact Heap.lt_size e
  | xd fs => obtain ⟨_, ⟨_, _, _, e, _⟩, _⟩ := x; exact Heap.lt_size e
  | rng lo hi => obtain ⟨_, _, _, e⟩ := x; exact Heap.lt_size e
  | frz ob u => obtain ⟨e, _⟩ := x; exact Heap.lt_size e
  | tbl ps => exact Heap.lt_size (show h.get? a = some _ from x)
  | met f y => exact Heap.lt_size (show h.get? a = some _ from x)
  | ext φ => obtain ⟨_, ⟨_, e⟩, _⟩ := x; exact Heap.lt_size e
theorem Paired.mapP {α β : Type} {F G : α → β → Prop} : ∀ {l₁ : List α} {l₂ : List β}, Paired F l₁ l₂ → (∀ a b, F a b → G a b) → Paired G l₁ l₂
  | _, _, .nil, _ => .nil
  | _, _, .cons r t, f => .cons (f _ _ r) (Paired.mapP t f)
/-- what an object's description leans on: its own object, its own dict, the tuples -/
theorem ObjOk.stay (x : ObjOk P w H h a o) (k : ∀ b u, (b = a ∨ H b = some (.own a)) → h.get? b = some u → h'.get? b = some u)
    (ho : ∀ b, H b = some (.own a) → H' b = some (.own a)) (ht : ∀ b xs, H b = some (.tup xs) → H' b = some (.tup xs)) : ObjOk P w H' h' a o := by
  induction o with
  | lst xs => obtain ⟨z, its, n, r, e⟩ := x; exact ⟨z, its, n, r, k _ _ (.inl rfl) e⟩
  | tup xs => obtain ⟨z, its, r, ob, e, c⟩ := x; exact ⟨z, its, r, ob, k _ _ (.inl rfl) e, c⟩
  | dK kvs => obtain ⟨z, y, vs, r, ob, es, ep, e, c⟩ := x; exact ⟨z, y, vs, r, ob, es, ep, k _ _ (.inl rfl) e, c⟩
  | dT kvs =>
    obtain ⟨z, y, xs, r, ob, es, ep, e, c⟩ := x
    exact ⟨z, y, xs, Paired.mapP r fun p q z => ⟨z.1, ht _ _ z.2.1, z.2.2⟩, ob, es, ep, k _ _ (.inl rfl) e, c⟩
  | set S n => obtain ⟨ob, es, ep, t, e, c⟩ := x; exact ⟨ob, es, ep, t, k _ _ (.inl rfl) e, c⟩
  | ins C dx fs =>
    obtain ⟨d, z, ne, e, mA, ⟨od, es, ep, e2, c⟩, r⟩ := x
    exact ⟨ho _ d, z, ne, k _ _ (.inl rfl) e, mA, ⟨od, es, ep, k _ _ (.inr d) e2, c⟩, r⟩
  | own y => obtain ⟨ob, e⟩ := x; exact ⟨ob, k _ _ (.inl rfl) e⟩
  | xd fs => obtain ⟨mA, ⟨od, es, ep, e, c⟩, r⟩ := x; exact ⟨mA, ⟨od, es, ep, k _ _ (.inl rfl) e, c⟩, r⟩
  | rng lo hi => obtain ⟨t, u, v, e⟩ := x; exact ⟨t, u, v, k _ _ (.inl rfl) e⟩
  | frz ob u ih => obtain ⟨e, q⟩ := x; exact ⟨k _ _ (.inl rfl) e, ih q⟩
  | tbl ps =>
    have e : h.get? a = some { cls := .none, data := .fields ps } := x
    show h'.get? a = some { cls := .none, data := .fields ps }
    exact k a _ (.inl rfl) e
  | met f y =>
    have e : h.get? a = some (PySem.W.methodObj (.ref f) (.ref y)) := x
    show h'.get? a = some (PySem.W.methodObj (.ref f) (.ref y))
    exact k a _ (.inl rfl) e
  | ext φ => obtain ⟨p, ⟨o, e⟩, st⟩ := x; exact ⟨st _ _ p fun o q => k _ _ (.inl rfl) q, ⟨o, k _ _ (.inl rfl) e⟩, st⟩
theorem HOk.lt (x : HOk P w H h) (e : H a = some o) : a < h.objs.size := (x a o e).lt
theorem HOk.fresh (x : HOk P w H h) (e : h.objs.size ≤ a) : H a = none := by
  cases q : H a with
  | none => rfl
  | some u => exact absurd (Nat.lt_of_lt_of_le (x.lt q) e) (Nat.lt_irrefl _)
/-- every object of the heap is kept -/
theorem HOk.kept (x : HOk P w H h) (k : ∀ b u, h.get? b = some u → h'.get? b = some u) : HOk P w H h' := fun a o e =>
  (x a o e).stay (fun b u _ q => k b u q) (fun _ q => q) fun _ _ q => q
/-- a new object is laid and tracked -/
theorem HOk.laid (x : HOk P w H h) (k : ∀ b u, h.get? b = some u → h'.get? b = some u) (hp : h.objs.size ≤ a) (new : ObjOk P w (upd H a o) h' a o) : HOk P w (upd H a o) h' := fun b u e => by
  have hn := x.fresh hp
  by_cases hb : b = a
  · subst hb; rw [upd_same] at e; cases e; exact new
  · rw [upd_ne hb] at e
    exact (x b u e).stay (fun c v _ q => k c v q) (fun c q => by rw [upd_ne (ne_of_none q hn)]; exact q) fun c xs q => by rw [upd_ne (ne_of_none q hn)]; exact q
end

/-- what may be read as u: it is u, or a known u -/
noncomputable def Rd (H : Hp) (a : Addr) (u : HO) : Prop := H a = some u ∨ ∃ o, H a = some (.frz o u)
theorem Rd.ok {P : Program} {w : World} {H : Hp} {h : Heap} {a : Addr} {u : HO} (r : Rd H a u) (x : HOk P w H h) : ObjOk P w H h a u := by
  rcases r with r | ⟨o, r⟩
  · exact x a u r
  · obtain ⟨_, q⟩ := x a _ r
    exact q
/-- what may be written -/
noncomputable def Mut : Option HO → Prop
  | some (.lst _) => True
  | some (.dK _) => True
  | some (.dT _) => True
  | some (.set _ _) => True
  | some (.ins _ _ _) => True
  | some (.ext _) => True
  | _ => False
section
variable {P : Program} {w : World} {H : Hp} {h h' : Heap} {x e : Addr} {o' : HO}
/-- the object at e is changed: x itself, or the dict of the instance x -/
theorem HOk.write (ok : HOk P w H h) (mu : Mut (H x)) (he : e = x ∨ H e = some (.own x)) (k : ∀ b u, b ≠ e → h.get? b = some u → h'.get? b = some u) (heo : ∃ u, h'.get? e = some u)
    (new : ObjOk P w (upd H x o') h' x o') : HOk P w (upd H x o') h' := fun b u q => by
  have nown : ∀ c y, H c = some (.own y) → c ≠ x := fun c y r z => by subst z; rw [r] at mu; exact mu
  have ntup : ∀ c xs, H c = some (.tup xs) → c ≠ x := fun c xs r z => by subst z; rw [r] at mu; exact mu
  by_cases hb : b = x
  · subst hb; rw [upd_same] at q; cases q; exact new
  · rw [upd_ne hb] at q
    by_cases hbe : b = e
    · have q' : H b = some (.own x) := by
        rcases he with z | z
        · exact absurd (hbe.trans z) hb
        · rw [hbe]; exact z
      rw [q] at q'; cases q'
      obtain ⟨v, hv⟩ := heo
      exact ⟨v, by rw [hbe]; exact hv⟩
    · refine (ok b u q).stay (fun c v hc r => k c v ?_ r) (fun c r => by rw [upd_ne (nown c b r)]; exact r) fun c xs r => by rw [upd_ne (ntup c xs r)]; exact r
      rcases hc with rfl | hc
      · exact hbe
      · rintro rfl
        rcases he with z | z
        · exact nown c b hc z
        · rw [hc] at z; cases z; exact hb rfl
end

/-! ### kept unless tracked; of the frames at fs (the callers') the slots may change (an exception that passes writes there); of the records at ex (iterators) nothing is said -/
structure Un (fs ex : List Addr) (H H' : Hp) (h h' : Heap) : Prop where
  keep : ∀ b o, h.get? b = some o → H b = none → b ∉ fs → b ∉ ex → h'.get? b = some o
  slot : ∀ b o, h.get? b = some o → H b = none → b ∈ fs → b ∉ ex → ∃ sl, h'.get? b = some { o with slots := sl }
  free : ∀ b o, h.get? b = some o → H b = none → b ∉ ex → H' b = none
  there : ∀ b o, h.get? b = some o → b ∉ ex → ∃ o', h'.get? b = some o'
  tups : ∀ b xs, H b = some (.tup xs) → H' b = some (.tup xs)
  frzs : ∀ b o u, H b = some (.frz o u) → H' b = some (.frz o u)
  tbls : ∀ b ps, H b = some (.tbl ps) → ∃ more, H' b = some (.tbl (ps ++ more))
section
variable {fs fs' ex ex' : List Addr} {H H1 H2 : Hp} {h h1 h2 h' : Heap} {a x e : Addr} {o : HO}
theorem Un.any (u : Un fs ex H H1 h h1) {b : Addr} {ob : Obj} (q : h.get? b = some ob) (n : H b = none) (hx : b ∉ ex) : ∃ sl, h1.get? b = some { ob with slots := sl } := by
  by_cases hb : b ∈ fs
  · exact u.slot b ob q n hb hx
  · exact ⟨ob.slots, u.keep b ob q n hb hx⟩
theorem Un.kept (k : ∀ b u, h.get? b = some u → h'.get? b = some u) : Un fs ex H H h h' :=
  ⟨fun b ob q _ _ _ => k b ob q, fun b ob q _ _ _ => ⟨ob.slots, k b ob q⟩, fun _ _ _ n _ => n, fun b ob q _ => ⟨ob, k b ob q⟩, fun _ _ q => q, fun _ _ _ q => q, fun _ ps q => ⟨#[], by rw [q]; simp⟩⟩
theorem Un.refl : Un fs ex H H h h := Un.kept fun _ _ q => q
theorem Un.laid (k : ∀ b u, h.get? b = some u → h'.get? b = some u) (hp : h.objs.size ≤ a) (hn : H a = none) : Un fs ex H (upd H a o) h h' where
  keep := fun b u q _ _ _ => k b u q
  slot := fun b u q _ _ _ => ⟨u.slots, k b u q⟩
  free := fun b u q n _ => by rw [upd_ne (Nat.ne_of_lt (Nat.lt_of_lt_of_le (Heap.lt_size q) hp))]; exact n
  there := fun b u q _ => ⟨u, k b u q⟩
  tups := fun b xs q => by rw [upd_ne (ne_of_none q hn)]; exact q
  frzs := fun b u xs q => by rw [upd_ne (ne_of_none q hn)]; exact q
  tbls := fun b ps q => ⟨#[], by rw [upd_ne (ne_of_none q hn), q]; simp⟩
theorem Un.write (mu : Mut (H x)) (he : e = x ∨ H e = some (.own x)) (k : ∀ b u, b ≠ e → h.get? b = some u → h'.get? b = some u) (heo : ∃ u, h'.get? e = some u) : Un fs ex H (upd H x o) h h' := by
  have hx : ∀ b, H b = none → b ≠ x := fun b n z => by subst z; rw [n] at mu; exact mu
  have hb : ∀ b, H b = none → b ≠ e := fun b n z => by
    subst z
    rcases he with r | r
    · exact hx b n r
    · rw [n] at r; cases r
  have hm : ∀ b u, H b = some u → ¬ Mut (some u) → b ≠ x := fun b u q nm z => by subst z; rw [q] at mu; exact nm mu
  refine ⟨fun b u q n _ _ => k b u (hb b n) q, fun b u q n _ _ => ⟨u.slots, k b u (hb b n) q⟩, fun b u q n _ => by rw [upd_ne (hx b n)]; exact n, fun b u q _ => ?_,
    fun b xs q => by rw [upd_ne (hm b _ q fun z => z)]; exact q, fun b u xs q => by rw [upd_ne (hm b _ q fun z => z)]; exact q, fun b ps q => ⟨#[], by rw [upd_ne (hm b _ q fun z => z), q]; simp⟩⟩
  by_cases hbe : b = e
  · subst hbe; exact heo
  · exact ⟨u, k b u hbe q⟩
end

/-! ### the heap without what is tracked -/
noncomputable def trk (h : Heap) (H : Hp) : List Addr := (List.range h.objs.size).filter fun a => (H a).isSome
noncomputable def hidT (h : Heap) (H : Hp) : Heap := PySem.W.hideAll h (trk h H)
theorem hidT_size (h : Heap) (H : Hp) : (hidT h H).objs.size = h.objs.size := PySem.W.hideAll_size _ _
theorem hidT_get {h : Heap} {H : Hp} {b : Addr} {o : Obj} (e : h.get? b = some o) (n : H b = none) : (hidT h H).get? b = some o :=
  PySem.W.hideAll_get _ e fun hm => by
    have q : (H b).isSome = true := (List.mem_filter.mp hm).2
    rw [n] at q; simp at q
theorem of_hidT {h : Heap} {H : Hp} {b : Addr} {o : Obj} (e : (hidT h H).get? b = some o) : h.get? b = some o ∧ H b = none := by
  have e' : h.get? b = some o := PySem.W.of_hideAll (trk h H) e
  refine ⟨e', ?_⟩
  cases q : H b with
  | none => rfl
  | some x =>
    have hm : b ∈ trk h H := List.mem_filter.mpr ⟨List.mem_range.mpr (Heap.lt_size e'), by simp [q]⟩
    have z : (hidT h H).get? b = none := PySem.W.hideAll_none (trk h H) hm
    rw [z] at e; cases e

/-! ### OpenK's ledger, filled with every new object but one -/
end L2

namespace L2
open PySem PySem.Spec PyProof.Rows

/-- the module's facts, over the base: the heap at the law's entry without what is tracked there -/
structure Mod (K : PySem.W.Frag) (mg : Str → Option Value) (base : Heap) : Prop where
  kin : K.In base
  glob : base.Ns mainGlobals mg
  blt : ∃ mb, base.Ns builtinsNs mb ∧ ∀ x : Str, x ≠ "__name__" → mb x = bootBuiltins x
  nolimit : base.NoLimit

/-- the context: a def's body (or a comprehension's block) running. base: fixed through the whole law; s₀, H₀: the entry; outer: the frames whose slots others may change (a def's callers); stack: all frames that run;
   ex: iterators that were made ahead of the entry and are walked here (a comprehension's); fn: the names whose cells were made at the entry (a def: all; a comprehension's block: its own); calm: not within an except suite; pn: pins that every state bears; xe: what is wanted of an exception that leaves the code -/
structure Cx where
  prog : Program
  w : World
  K : PySem.W.Frag
  mg : Str → Option Value
  base : Heap
  A : Around
  N : List Str
  s₀ : Shared
  H₀ : Hp
  env : Env
  outer : List Env
  stack : List Env
  ex : List Addr
  fn : Str → Bool
  calm : Bool
  pn : List (Addr × Obj)
  xe : Value → Shared → Prop
/-- the callers' frames -/
noncomputable def frs (l : List Env) : List Addr := l.filterMap (·.frame)
noncomputable abbrev Cx.fs (X : Cx) : List Addr := frs X.outer

noncomputable def Vis (sc : Scope) (x : Str) : Prop := sc.names.lookup x = some .local ∨ sc.names.lookup x = some .cell ∨ sc.names.lookup x = some .free
noncomputable def Loc (sc : Scope) (x : Str) : Prop := sc.names.lookup x = some .local ∨ sc.names.lookup x = some .cell
noncomputable def Look (env : Env) (h : Heap) (m : Str → Option Value) (x : Str) (u : Value) : Prop :=
  (env.kindOf x = some .local ∧ m x = some u) ∨ ((env.kindOf x = some .cell ∨ env.kindOf x = some .free) ∧ ∃ c, env.cells.lookup x = some c ∧ h.IsCell c (some u))

structure Cx.Ok (X : Cx) : Prop where
  mod : Mod X.K X.mg X.base
  kind : X.env.scope.kind = .function
  glob : X.env.globals = mainGlobals
  blt : X.env.builtins = builtinsNs
  above : X.s₀.heap.objs.size ≤ X.env.locals
  inj : ∀ x y c, X.env.cells.lookup x = some c → X.env.cells.lookup y = some c → x = y
  has : ∀ x, (X.env.kindOf x = some .cell ∨ X.env.kindOf x = some .free) → ∃ c, X.env.cells.lookup x = some c
  cab : ∀ x c, X.fn x = true → X.env.cells.lookup x = some c → X.s₀.heap.objs.size ≤ c
  hd : X.calm = true → X.A.handled = none
  frames : X.A.frames = some X.stack
  stk : X.stack = X.outer ∨ (X.stack = X.env :: X.outer ∧ X.env.frame = some X.env.locals)
  exf : ∀ b ∈ X.ex, b ≠ X.env.locals ∧ ∀ x c, X.env.cells.lookup x = some c → c ≠ b
  bs : ∀ b o, X.base.get? b = some o → X.s₀.heap.get? b = some o ∧ X.H₀ b = none
  bsz : X.base.objs.size ≤ X.s₀.heap.objs.size
  noex : ∀ b o, X.base.get? b = some o → b ∉ X.ex
  exfs : ∀ b ∈ X.ex, b ∉ X.fs
  funs : X.s₀.heap.FunFrames X.base X.outer
  frf : ∀ b ∈ X.fs, X.H₀ b = none

structure Inv (X : Cx) (pins : List (Addr × Obj)) (σ : List (Option V)) (H : Hp) (s : Shared) : Prop where
  ok : X.Ok
  os : s.os = X.s₀.os
  bare : AllBare s.gens
  base : Un X.fs X.ex X.H₀ H X.s₀.heap s.heap
  loc : ∃ m, s.heap.Ns X.env.locals m ∧ ∀ (i : Nat) (x : Str) (v : V), X.N[i]? = some x → σ[i]? = some (some v) → Vis X.env.scope x → ∃ u, RelV v u ∧ Look X.env s.heap m x u
  cell : ∀ x c, X.env.cells.lookup x = some c → ∃ v, s.heap.IsCell c v
  free : H X.env.locals = none
  freeC : ∀ x c, X.env.cells.lookup x = some c → H c = none
  pin : ∀ p ∈ X.pn ++ pins, s.heap.get? p.1 = some p.2 ∧ H p.1 = none ∧ p.1 ≠ X.env.locals ∧ p.1 ∉ X.fs ∧ ∀ v, p.2.data ≠ .cell v
  hok : HOk X.prog X.w H s.heap
  len : σ.length = X.N.length

section
variable {X : Cx} {pins : List (Addr × Obj)} {σ : List (Option V)} {H H' : Hp} {s : Shared} {h' : Heap}

theorem Cx.Ok.nofr (ok : X.Ok) {b : Addr} {o : Obj} (e : X.base.get? b = some o) : b ∉ X.fs := fun hb => by
  have := (ok.funs.mem hb).1
  rw [e] at this; cases this
theorem Inv.bs (I : Inv X pins σ H s) : ∀ b o, X.base.get? b = some o → s.heap.get? b = some o ∧ H b = none := fun b o e =>
  ⟨I.base.keep b o (I.ok.bs b o e).1 (I.ok.bs b o e).2 (I.ok.nofr e) (I.ok.noex b o e), I.base.free b o (I.ok.bs b o e).1 (I.ok.bs b o e).2 (I.ok.noex b o e)⟩
theorem Inv.bk (I : Inv X pins σ H s) : ∀ b o, X.base.get? b = some o → s.heap.get? b = some o := fun b o e => (I.bs b o e).1
theorem Inv.mod (I : Inv X pins σ H s) : Mod X.K X.mg X.base := I.ok.mod
theorem Inv.kIn (I : Inv X pins σ H s) : X.K.In s.heap := I.ok.mod.kin.keeps I.bk
theorem Inv.lt (I : Inv X pins σ H s) : X.env.locals < s.heap.objs.size := let ⟨_, hn, _⟩ := I.loc; hn.lt
theorem Inv.sz (I : Inv X pins σ H s) : X.s₀.heap.objs.size ≤ s.heap.objs.size := Nat.le_trans I.ok.above (Nat.le_of_lt I.lt)
theorem Inv.nofs (I : Inv X pins σ H s) {a : Addr} (h : s.heap.objs.size ≤ a) : a ∉ X.fs := fun hb => by
  obtain ⟨_, o, ho, _⟩ := I.ok.funs.mem hb
  exact absurd (Nat.lt_of_lt_of_le (Heap.lt_size ho) (Nat.le_trans I.sz h)) (Nat.lt_irrefl _)
theorem Inv.cne (I : Inv X pins σ H s) : ∀ x c, X.env.cells.lookup x = some c → c ≠ X.env.locals := fun x c e z => by
  obtain ⟨v, o, ho, hd⟩ := I.cell x c e
  obtain ⟨m, ⟨o', es, ep, ho', hd', _⟩, _⟩ := I.loc
  rw [z, ho'] at ho; cases ho; rw [hd'] at hd; cases hd
theorem Inv.funs (I : Inv X pins σ H s) : s.heap.FunFrames X.base X.outer := by
  have all : ∀ (l : List Env), (∀ b ∈ frs l, b ∈ X.fs) → X.s₀.heap.FunFrames X.base l → s.heap.FunFrames X.base l := by
    intro l
    induction l with
    | nil => intro _ _; trivial
    | cons env r ih =>
      intro hs hl
      obtain ⟨hk, ⟨L, o, hf, hn, ho, hd⟩, hr⟩ := hl
      have hL : L ∈ X.fs := hs L (by unfold frs; rw [List.filterMap_cons, hf]; exact List.mem_cons_self)
      obtain ⟨sl, e⟩ := I.base.slot L o ho (I.ok.frf L hL) hL fun z => I.ok.exfs L z hL
      exact ⟨hk, ⟨L, _, hf, hn, e, hd⟩, ih (fun b hb => hs b (by unfold frs; rw [List.filterMap_cons, hf]; exact List.mem_cons_of_mem _ hb)) hr⟩
  exact all X.outer (fun _ hb => hb) I.ok.funs

/-- the frames that run, for a call -/
theorem Inv.stack (I : Inv X pins σ H s) : s.heap.FunFrames X.base X.stack := by
  rcases I.ok.stk with e | ⟨e, hf⟩
  · rw [e]; exact I.funs
  · rw [e]
    obtain ⟨m, hn, _⟩ := I.loc
    refine .cons (by rw [I.ok.kind]; decide) hf hn ?_ I.funs
    exact Heap.get?_none_of_le (Nat.le_trans I.ok.bsz I.ok.above)
theorem Inv.stkSub (I : Inv X pins σ H s) : ∀ b ∈ frs X.stack, b ∈ X.env.locals :: X.fs := fun b hb => by
  rcases I.ok.stk with e | ⟨e, hf⟩
  · rw [e] at hb; exact List.mem_cons_of_mem _ hb
  · rw [e] at hb
    unfold frs at hb
    rw [List.filterMap_cons, hf] at hb
    exact hb
theorem Inv.stkFree (I : Inv X pins σ H s) : ∀ b ∈ frs X.stack, H b = none := fun b hb => by
  rcases List.mem_cons.mp (I.stkSub b hb) with e | hb
  · rw [e]; exact I.free
  · obtain ⟨_, o, ho, _⟩ := I.ok.funs.mem hb
    exact I.base.free b o ho (I.ok.frf b hb) fun z => I.ok.exfs b z hb

/-- THE STEP: the untracked objects but the frame and the records at ch are kept (the callers' frames up to slots), the frame's map is kept, the new abstract heap is held -/
theorem Inv.step {g' : Array GenState} {t' : Nat} {d' : Drawn} {ch : List Addr} (I : Inv X pins σ H s)
    (hch : ∀ b ∈ ch, (b ∈ X.ex ∨ X.s₀.heap.objs.size ≤ b) ∧ b ≠ X.env.locals ∧ (∀ x c, X.env.cells.lookup x = some c → c ≠ b) ∧ ∀ p ∈ X.pn ++ pins, p.1 ≠ b)
    (keep : ∀ b o, b ≠ X.env.locals → b ∉ X.fs → b ∉ ch → s.heap.get? b = some o → H b = none → h'.get? b = some o)
    (slot : ∀ b o, b ≠ X.env.locals → b ∈ X.fs → b ∉ ch → s.heap.get? b = some o → H b = none → ∃ sl, h'.get? b = some { o with slots := sl }) (free : ∀ b o, b ∉ ch → s.heap.get? b = some o → H b = none → H' b = none)
    (there : ∀ b o, b ∉ ch → s.heap.get? b = some o → ∃ o', h'.get? b = some o')
    (tups : ∀ b xs, H b = some (.tup xs) → H' b = some (.tup xs)) (frzs : ∀ b o u, H b = some (.frz o u) → H' b = some (.frz o u)) (tbls : ∀ b ps, H b = some (.tbl ps) → ∃ more, H' b = some (.tbl (ps ++ more)))
    (ns : ∀ m, s.heap.Ns X.env.locals m → h'.Ns X.env.locals m) (hok : HOk X.prog X.w H' h') (hg : AllBare g') :
    Inv X pins σ H' { s with heap := h', gens := g', drawn := d', toks := t' } := by
  have neL : ∀ b o, X.s₀.heap.get? b = some o → b ≠ X.env.locals := fun b o e => Nat.ne_of_lt (Nat.lt_of_lt_of_le (Heap.lt_size e) I.ok.above)
  have neC : ∀ b o, X.s₀.heap.get? b = some o → b ∉ X.ex → b ∉ ch := fun b o e hx hb => by
    rcases (hch b hb).1 with z | z
    · exact hx z
    · exact absurd (Nat.lt_of_lt_of_le (Heap.lt_size e) z) (Nat.lt_irrefl _)
  have cellK : ∀ x c, X.env.cells.lookup x = some c → ∀ v, s.heap.IsCell c v → h'.IsCell c v := fun x c e v ⟨o, ho, hd⟩ => by
    have nch : c ∉ ch := fun z => (hch c z).2.2.1 x c e rfl
    by_cases hc : c ∈ X.fs
    · obtain ⟨sl, q⟩ := slot c o (I.cne x c e) hc nch ho (I.freeC x c e)
      exact ⟨_, q, hd⟩
    · exact ⟨o, keep c o (I.cne x c e) hc nch ho (I.freeC x c e), hd⟩
  refine ⟨I.ok, I.os, hg, ⟨fun b o e n hb hx => ?_, fun b o e n hb hx => ?_, fun b o e n hx => ?_, fun b o e hx => ?_, fun b xs e => tups b xs (I.base.tups b xs e), fun b o xs e => frzs b o xs (I.base.frzs b o xs e), fun b ps e => ?_⟩, ?_, fun x c e => ?_, ?_, fun x c e => ?_, fun p hp => ?_, hok, I.len⟩
  · exact keep b o (neL b o e) hb (neC b o e hx) (I.base.keep b o e n hb hx) (I.base.free b o e n hx)
  · obtain ⟨sl, e1⟩ := I.base.slot b o e n hb hx
    obtain ⟨sl', e2⟩ := slot b _ (neL b o e) hb (neC b o e hx) e1 (I.base.free b o e n hx)
    exact ⟨sl', e2⟩
  · obtain ⟨o', e1⟩ := I.base.there b o e hx
    exact free b o' (neC b o e hx) e1 (I.base.free b o e n hx)
  · obtain ⟨o', e1⟩ := I.base.there b o e hx
    exact there b o' (neC b o e hx) e1
  · obtain ⟨m1, e1⟩ := I.base.tbls b ps e
    obtain ⟨m2, e2⟩ := tbls b _ e1
    exact ⟨m1 ++ m2, by rw [e2, Array.append_assoc]⟩
  · obtain ⟨m, hn, hl⟩ := I.loc
    refine ⟨m, ns m hn, fun i x v e1 e2 e3 => ?_⟩
    obtain ⟨u, r, l⟩ := hl i x v e1 e2 e3
    refine ⟨u, r, ?_⟩
    rcases l with l | ⟨k, c, e, z⟩
    · exact .inl l
    · exact .inr ⟨k, c, e, cellK x c e _ z⟩
  · obtain ⟨v, z⟩ := I.cell x c e
    exact ⟨v, cellK x c e v z⟩
  · obtain ⟨m, ⟨o, _, _, ho, _⟩, _⟩ := I.loc
    exact free _ o (fun z => (hch _ z).2.1 rfl) ho I.free
  · obtain ⟨v, o, ho, hd⟩ := I.cell x c e
    exact free c o (fun z => (hch c z).2.2.1 x c e rfl) ho (I.freeC x c e)
  · obtain ⟨e, n, ne, nf, d⟩ := I.pin p hp
    have nch : p.1 ∉ ch := fun z => (hch p.1 z).2.2.2 p hp rfl
    exact ⟨keep p.1 p.2 ne nf nch e n, free p.1 p.2 nch e n, ne, nf, d⟩
/-- .. where the frame's own object is kept too -/
theorem Inv.un {t' : Nat} (I : Inv X pins σ H s) (u : Un X.fs [] H H' s.heap h') (hok : HOk X.prog X.w H' h') : Inv X pins σ H' { s with heap := h', toks := t' } := by
  obtain ⟨m, ⟨o, es, ep, ho, r⟩, _⟩ := id I.loc
  obtain ⟨sl, hL⟩ := u.any ho I.free (by simp)
  exact I.step (g' := s.gens) (d' := s.drawn) (ch := []) (fun _ z => nomatch z) (fun b o _ hb _ e n => u.keep b o e n hb (by simp)) (fun b o _ hb _ e n => u.slot b o e n hb (by simp)) (fun b o _ e n => u.free b o e n (by simp)) (fun b o _ e => u.there b o e (by simp)) u.tups u.frzs u.tbls (fun m' hm => by
    obtain ⟨o', es', ep', ho', r'⟩ := hm
    rw [ho] at ho'; cases ho'
    exact ⟨_, es', ep', hL, r'⟩) hok I.bare
/-- behind a call (or a comprehension's block): the slots of this frame may have changed too, the records at ch may have turned -/
theorem Inv.call {g' : Array GenState} {t' : Nat} {d' : Drawn} {ch : List Addr} (I : Inv X pins σ H s) (u : Un (frs X.stack) ch H H' s.heap h') (hok : HOk X.prog X.w H' h') (hg : AllBare g')
    (hch : ∀ b ∈ ch, (b ∈ X.ex ∨ X.s₀.heap.objs.size ≤ b) ∧ b ≠ X.env.locals ∧ (∀ x c, X.env.cells.lookup x = some c → c ≠ b) ∧ ∀ p ∈ X.pn ++ pins, p.1 ≠ b) :
    Inv X pins σ H' { s with heap := h', gens := g', drawn := d', toks := t' } := by
  obtain ⟨m, ⟨o, es, ep, ho, r⟩, _⟩ := id I.loc
  obtain ⟨sl, hL⟩ := u.any ho I.free fun z => (hch _ z).2.1 rfl
  exact I.step (ch := ch) hch (fun b o hL hb hc e n => u.keep b o e n (fun z => (List.mem_cons.mp (I.stkSub b z)).elim hL hb) hc) (fun b o _ _ hc e n => u.any e n hc) (fun b o hc e n => u.free b o e n hc) (fun b o hc e => u.there b o e hc) u.tups u.frzs u.tbls (fun m' hm => by
    obtain ⟨o', es', ep', ho', r'⟩ := hm
    rw [ho] at ho'; cases ho'
    exact ⟨_, es', ep', hL, r'⟩) hok hg
/-- an untracked record of ours (an iterator) has turned -/
theorem Inv.turned {t' : Nat} {it : Addr} (I : Inv X pins σ H s) (k : ∀ b o, b ≠ it → s.heap.get? b = some o → h'.get? b = some o) (hn : H it = none) (hL : it ≠ X.env.locals)
    (h1 : it ∈ X.ex ∨ X.s₀.heap.objs.size ≤ it) (h2 : ∀ x c, X.env.cells.lookup x = some c → c ≠ it) (h3 : ∀ p ∈ X.pn ++ pins, p.1 ≠ it) : Inv X pins σ H { s with heap := h', toks := t' } := by
  have nit : ∀ b u, H b = some u → b ≠ it := fun b u e z => by rw [z, hn] at e; cases e
  refine I.step (g' := s.gens) (d' := s.drawn) (ch := [it]) (fun b hb => ?_) (fun b o _ _ hc e _ => k b o (fun z => hc (by simp [z])) e) (fun b o _ _ hc e _ => ⟨o.slots, k b o (fun z => hc (by simp [z])) e⟩) (fun _ _ _ _ n => n)
    (fun b o hc e => ⟨o, k b o (fun z => hc (by simp [z])) e⟩) (fun _ _ e => e) (fun _ _ _ e => e) (fun b ps e => ⟨#[], by rw [e]; simp⟩) (fun m hm => ?_) (fun b u e => ?_) I.bare
  · have e : b = it := by simpa using hb
    subst e
    exact ⟨h1, hL, h2, h3⟩
  · obtain ⟨o, es, ep, ho, r⟩ := hm
    exact ⟨o, es, ep, k _ o (Ne.symm hL) ho, r⟩
  · refine (I.hok b u e).stay (fun c v hc q => k c v ?_ q) (fun _ q => q) fun _ _ q => q
    rcases hc with z | z
    · rw [z]; exact nit b u e
    · exact nit c _ z
theorem Inv.tok (I : Inv X pins σ H s) (t : Nat) : Inv X pins σ H { s with toks := t } := I.un (h' := s.heap) (t' := t) Un.refl I.hok
/-- all objects kept -/
theorem Inv.kept {t' : Nat} (I : Inv X pins σ H s) (k : ∀ b u, s.heap.get? b = some u → h'.get? b = some u) : Inv X pins σ H { s with heap := h', toks := t' } := I.un (Un.kept k) (I.hok.kept k)
/-- a new object laid and tracked -/
theorem Inv.laid {a : Addr} {o : HO} {t' : Nat} (I : Inv X pins σ H s) (k : ∀ b u, s.heap.get? b = some u → h'.get? b = some u) (hp : s.heap.objs.size ≤ a) (new : ObjOk X.prog X.w (upd H a o) h' a o) :
    Inv X pins σ (upd H a o) { s with heap := h', toks := t' } := I.un (Un.laid k hp (I.hok.fresh hp)) (I.hok.laid k hp new)
/-- an object written -/
theorem Inv.write {x e : Addr} {o : HO} {t' : Nat} (I : Inv X pins σ H s) (mu : Mut (H x)) (he : e = x ∨ H e = some (.own x)) (k : ∀ b u, b ≠ e → s.heap.get? b = some u → h'.get? b = some u) (heo : ∃ u, h'.get? e = some u)
    (new : ObjOk X.prog X.w (upd H x o) h' x o) : Inv X pins σ (upd H x o) { s with heap := h', toks := t' } := I.un (Un.write mu he k heo) (I.hok.write mu he k heo new)
theorem Inv.pins_of {pins' : List (Addr × Obj)} (I : Inv X pins σ H s) (h : ∀ p ∈ pins', s.heap.get? p.1 = some p.2 ∧ H p.1 = none ∧ p.1 ≠ X.env.locals ∧ p.1 ∉ X.fs ∧ ∀ v, p.2.data ≠ .cell v) : Inv X pins' σ H s :=
  ⟨I.ok, I.os, I.bare, I.base, I.loc, I.cell, I.free, I.freeC, fun p hp => (List.mem_append.mp hp).elim (fun z => I.pin p (List.mem_append_left _ z)) (h p), I.hok, I.len⟩

theorem nodup_ix {N : List Str} (hN : N.Nodup) {i j : Nat} {x : Str} (a : N[i]? = some x) (b : N[j]? = some x) : i = j := by
  obtain ⟨h1, e1⟩ := List.getElem?_eq_some_iff.mp a
  obtain ⟨h2, e2⟩ := List.getElem?_eq_some_iff.mp b
  exact (List.getElem_inj hN).mp (e1.trans e2.symm)

/-- a name is stored; what changed -/
theorem store_ok2 {M : Model} {A : Around} {E : Value → Shared → Prop} {i : Nat} {x : Str} {v : V} {u : Value} {Q : Unit → Shared → Prop} (I : Inv X pins σ H s) (hN : X.N.Nodup) (hi : X.N[i]? = some x) (hx : Loc X.env.scope x) (r : RelV v u)
    (h : ∀ s', Inv X pins (σ.set i (some v)) H s' → (∃ a, Heap.SameBut a s.heap s'.heap ∧ (a = X.env.locals ∨ X.env.cells.lookup x = some a)) → Q () s') (hf : X.fn x = true ∨ X.env.scope.names.lookup x = some .local := by first | exact .inl rfl | exact .inr rfl | assumption) : wpAny M A (storeName X.env x u) Q E s := by
  obtain ⟨m, hn, hl⟩ := id I.loc
  have hcls : (X.env.scope.kind == .class || (X.env.scope.kind == .module && X.env.locals != X.env.globals)) = false := by rw [I.ok.kind]; rfl
  have hiσ : i < σ.length := by rw [I.len]; exact (List.getElem?_eq_some_iff.mp hi).1
  have cne := I.cne
  have tracked : ∀ {a : Addr} {h' : Heap}, (∃ o, s.heap.get? a = some o ∧ H a = none) → Heap.SameBut a s.heap h' → HOk X.prog X.w H h' := fun {a h'} ha hs b ob e => by
    obtain ⟨_, _, hfree⟩ := ha
    refine (I.hok b ob e).stay (fun c w' hc q => (hs.2 c ?_).trans q) (fun _ q => q) fun _ _ q => q
    rintro rfl
    rcases hc with rfl | hc
    · rw [hfree] at e; cases e
    · rw [hfree] at hc; cases hc
  rcases hx with hk | hk
  · refine wpAny_storeName_local hk hn (fun h' hn' hs => ?_) hcls
    obtain ⟨oL, _, _, hoL, _⟩ := id hn
    refine h _ ⟨I.ok, I.os, I.bare, ⟨fun b o e n hb hx => ?_, fun b o e n hb hx => ?_, I.base.free, fun b o e hx => ?_, I.base.tups, I.base.frzs, I.base.tbls⟩, ⟨_, hn', fun j y v' e1 e2 e3 => ?_⟩, fun y c e => ?_, I.free, I.freeC, fun p hp => ?_, tracked ⟨oL, hoL, I.free⟩ hs, by simpa using I.len⟩ ⟨_, hs, .inl rfl⟩
    · exact (hs.2 b (Nat.ne_of_lt (Nat.lt_of_lt_of_le (Heap.lt_size e) I.ok.above))).trans (I.base.keep b o e n hb hx)
    · obtain ⟨sl, e1⟩ := I.base.slot b o e n hb hx
      exact ⟨sl, (hs.2 b (Nat.ne_of_lt (Nat.lt_of_lt_of_le (Heap.lt_size e) I.ok.above))).trans e1⟩
    · obtain ⟨o', e1⟩ := I.base.there b o e hx
      exact ⟨o', (hs.2 b (Nat.ne_of_lt (Nat.lt_of_lt_of_le (Heap.lt_size e) I.ok.above))).trans e1⟩
    · by_cases hj : j = i
      · subst hj
        rw [hi] at e1; cases e1
        rw [List.getElem?_set_self hiσ] at e2
        cases e2
        exact ⟨u, r, .inl ⟨hk, by simp⟩⟩
      · rw [List.getElem?_set_ne (Ne.symm hj)] at e2
        obtain ⟨u', r', q⟩ := hl j y v' e1 e2 e3
        refine ⟨u', r', ?_⟩
        rcases q with ⟨k, e⟩ | ⟨k, c, e, z⟩
        · refine .inl ⟨k, ?_⟩
          have : y ≠ x := fun e => hj (nodup_ix hN e1 (e ▸ hi))
          simp [this, e]
        · exact .inr ⟨k, c, e, z.sameBut hs (cne y c e)⟩
    · obtain ⟨w', z⟩ := I.cell y c e
      exact ⟨w', z.sameBut hs (cne y c e)⟩
    · obtain ⟨e, n, ne, nf, d⟩ := I.pin p hp
      exact ⟨(hs.2 p.1 ne).trans e, n, ne, nf, d⟩
  · have hfn : X.fn x = true := by
      rcases hf with z | z
      · exact z
      · rw [z] at hk; cases hk
    obtain ⟨c, hc⟩ := I.ok.has x (.inl hk)
    obtain ⟨w', z⟩ := I.cell x c hc
    refine wpAny_storeName_cell I.ok.kind hk hc z (fun h' hc' hs => ?_)
    obtain ⟨oc, hoc, hocd⟩ := id z
    refine h { s with heap := h' } ⟨I.ok, I.os, I.bare, ⟨fun b o e n hb hx => ?_, fun b o e n hb hx => ?_, I.base.free, fun b o e hx => ?_, I.base.tups, I.base.frzs, I.base.tbls⟩, ⟨m, hn.sameBut hs (Ne.symm (cne x c hc)), fun j y v' e1 e2 e3 => ?_⟩, fun y c' e => ?_, I.free, I.freeC, fun p hp => ?_, tracked ⟨oc, hoc, I.freeC x c hc⟩ hs, by simpa using I.len⟩ ⟨c, hs, .inr hc⟩
    · exact (hs.2 b (Nat.ne_of_lt (Nat.lt_of_lt_of_le (Heap.lt_size e) (I.ok.cab x c hfn hc)))).trans (I.base.keep b o e n hb hx)
    · obtain ⟨sl, e1⟩ := I.base.slot b o e n hb hx
      exact ⟨sl, (hs.2 b (Nat.ne_of_lt (Nat.lt_of_lt_of_le (Heap.lt_size e) (I.ok.cab x c hfn hc)))).trans e1⟩
    · obtain ⟨o', e1⟩ := I.base.there b o e hx
      exact ⟨o', (hs.2 b (Nat.ne_of_lt (Nat.lt_of_lt_of_le (Heap.lt_size e) (I.ok.cab x c hfn hc)))).trans e1⟩
    · by_cases hj : j = i
      · subst hj
        rw [hi] at e1; cases e1
        rw [List.getElem?_set_self hiσ] at e2
        cases e2
        exact ⟨u, r, .inr ⟨.inl hk, c, hc, hc'⟩⟩
      · rw [List.getElem?_set_ne (Ne.symm hj)] at e2
        obtain ⟨u', r', q⟩ := hl j y v' e1 e2 e3
        refine ⟨u', r', ?_⟩
        rcases q with q | ⟨k, c', e, z'⟩
        · exact .inl q
        · refine .inr ⟨k, c', e, z'.sameBut hs ?_⟩
          rintro rfl
          exact hj (nodup_ix hN e1 (I.ok.inj _ _ _ e hc ▸ hi))
    · by_cases hcc : c' = c
      · subst hcc; exact ⟨_, hc'⟩
      · obtain ⟨w2, z2⟩ := I.cell y c' e
        exact ⟨w2, z2.sameBut hs hcc⟩
    · obtain ⟨e, n, ne, nf, d⟩ := I.pin p hp
      refine ⟨(hs.2 p.1 ?_).trans e, n, ne, nf, d⟩
      intro q
      rw [q, hoc] at e
      have q' : oc = p.2 := Option.some.inj e
      exact d w' (by rw [← q']; exact hocd)
theorem store_ok {M : Model} {A : Around} {E : Value → Shared → Prop} {i : Nat} {x : Str} {v : V} {u : Value} {Q : Unit → Shared → Prop} (I : Inv X pins σ H s) (hN : X.N.Nodup) (hi : X.N[i]? = some x) (hx : Loc X.env.scope x) (r : RelV v u)
    (h : ∀ s', Inv X pins (σ.set i (some v)) H s' → Q () s') (hf : X.fn x = true ∨ X.env.scope.names.lookup x = some .local := by first | exact .inl rfl | exact .inr rfl | assumption) : wpAny M A (storeName X.env x u) Q E s :=
  store_ok2 I hN hi hx r (fun s' I' _ => h s' I') hf
/-- behind a call or a block, the state as it is -/
theorem Inv.call' {s' : Shared} {ch : List Addr} (I : Inv X pins σ H s) (ho : s'.os = s.os) (u : Un (frs X.stack) ch H H' s.heap s'.heap) (hok : HOk X.prog X.w H' s'.heap) (hg : AllBare s'.gens)
    (hch : ∀ b ∈ ch, (b ∈ X.ex ∨ X.s₀.heap.objs.size ≤ b) ∧ b ≠ X.env.locals ∧ (∀ x c, X.env.cells.lookup x = some c → c ≠ b) ∧ ∀ p ∈ X.pn ++ pins, p.1 ≠ b) : Inv X pins σ H' s' := by
  obtain ⟨h', g', d', t', o'⟩ := s'
  have e : o' = s.os := ho
  subst e
  exact I.call (g' := g') (t' := t') (d' := d') u hok hg hch
end

/-! ### the judgements -/
/-- an exception: its class, its own dict's address (where it has one), the abstract heap behind it -/
noncomputable abbrev XK := Value → Option Addr → Hp → Prop
noncomputable abbrev St := List (Option V)
noncomputable abbrev VK := V → Hp → Prop
/-- an expression's reading; a test's; an argument list's -/
noncomputable abbrev TE := St → Hp → VK → Prop
noncomputable abbrev TT := St → Hp → (Bool → Hp → Prop) → Prop
noncomputable abbrev TA := St → Hp → (List V → Hp → Prop) → Prop
/-- what is wanted behind a statement -/
structure Ends where
  nx : St → Hp → Prop
  rt : VK
  bk : St → Hp → Prop := fun _ _ => False
  ct : St → Hp → Prop := fun _ _ => False
noncomputable abbrev TS := Ends → St → Hp → Prop

noncomputable def EP (X : Cx) (pins : List (Addr × Obj)) (σ : St) (Q : VK) (u : Value) (s' : Shared) : Prop := ∃ v H', Inv X pins σ H' s' ∧ RelV v u ∧ Q v H'
noncomputable def TP (X : Cx) (pins : List (Addr × Obj)) (σ : St) (Q : Bool → Hp → Prop) (b : Bool) (s' : Shared) : Prop := ∃ H', Inv X pins σ H' s' ∧ Q b H'
noncomputable def AP (X : Cx) (pins : List (Addr × Obj)) (σ : St) (Q : List V → Hp → Prop) (us : List Value) (s' : Shared) : Prop := ∃ vs H', Inv X pins σ H' s' ∧ Vals vs us ∧ Q vs H'
noncomputable def SP (X : Cx) (pins : List (Addr × Obj)) (D : Ends) (f : Flow) (s' : Shared) : Prop :=
  match f with
  | .next => ∃ σ' H', Inv X pins σ' H' s' ∧ D.nx σ' H'
  | .brk => ∃ σ' H', Inv X pins σ' H' s' ∧ D.bk σ' H'
  | .cont => ∃ σ' H', Inv X pins σ' H' s' ∧ D.ct σ' H'
  | .ret u => ∃ v σ' H', Inv X pins σ' H' s' ∧ RelV v u ∧ D.rt v H'

noncomputable def PE (X : Cx) (e : Expr) (t : TE) : Prop :=
  ∀ (pins : List (Addr × Obj)) (s : Shared) (σ : St) (H : Hp) (Q : VK), Inv X pins σ H s → t σ H Q → wpAny (model X.prog X.w) X.A (eval e X.env) (EP X pins σ Q) X.xe s
noncomputable def PT (X : Cx) (e : Expr) (t : TT) : Prop :=
  ∀ (pins : List (Addr × Obj)) (s : Shared) (σ : St) (H : Hp) (Q : Bool → Hp → Prop), Inv X pins σ H s → t σ H Q → wpAny (model X.prog X.w) X.A (isTrue e X.env (eval e X.env)) (TP X pins σ Q) X.xe s
/-- a test whatever its 'whole' is (and, or) -/
noncomputable def PW (X : Cx) (e : Expr) (t : TT) : Prop :=
  ∀ (whole : Sem Value) (pins : List (Addr × Obj)) (s : Shared) (σ : St) (H : Hp) (Q : Bool → Hp → Prop), Inv X pins σ H s → t σ H Q → wpAny (model X.prog X.w) X.A (isTrue e X.env whole) (TP X pins σ Q) X.xe s
theorem PW.pt {X : Cx} {e : Expr} {t : TT} (h : PW X e t) : PT X e t := h _
/-- an argument list (no star), from the left -/
noncomputable def PA (X : Cx) (es : List Expr) (t : TA) : Prop :=
  ∀ (pos : Pos) (pins : List (Addr × Obj)) (s : Shared) (σ : St) (H : Hp) (Q : List V → Hp → Prop), Inv X pins σ H s → t σ H Q → wpAny (model X.prog X.w) X.A (spliced (backTo pos (starEach es X.env))) (AP X pins σ Q) X.xe s
noncomputable def PS (X : Cx) (st : Stmt) (t : TS) : Prop :=
  ∀ (pins : List (Addr × Obj)) (s : Shared) (σ : St) (H : Hp) (D : Ends), Inv X pins σ H s → t D σ H → wpAny (model X.prog X.w) X.A (exec st X.env) (SP X pins D) X.xe s
noncomputable def PSs (X : Cx) (st : List Stmt) (t : TS) : Prop :=
  ∀ (pins : List (Addr × Obj)) (s : Shared) (σ : St) (H : Hp) (D : Ends), Inv X pins σ H s → t D σ H → wpAny (model X.prog X.w) X.A (execs st X.env) (SP X pins D) X.xe s
/-- weaken the end -/
theorem thn {α : Type} {t : Sem α} {Q Q' : α → Shared → Prop} {M : Model} {A : Around} {E : Value → Shared → Prop} {s : Shared} (h : wpAny M A t Q E s) (hQ : ∀ a s, Q a s → Q' a s) : wpAny M A t Q' E s := wpAny_mono h hQ fun _ _ x => x
end L2

namespace L2
open PySem PySem.Spec PyProof.Rows
section
variable {X : Cx}

/-! ### names and constants -/
noncomputable def tVar (i : Nat) : TE := fun σ H Q => ∃ v, σ[i]? = some (some v) ∧ Q v H
noncomputable def tC (v : V) : TE := fun _ H Q => Q v H
theorem pe_var {i : Nat} {x : Str} {pos : Pos} (hN : X.N[i]? = some x) (hv : Vis X.env.scope x) (hd : (x == ("__debug__" : Str)) = false := by decide) (hcd : (x == ("__classdict__" : Str)) = false := by decide) : PE X (.Name x pos) (tVar i) := by
  intro pins s σ H Q I h
  obtain ⟨v, e, h⟩ := h
  obtain ⟨m, hn, hl⟩ := I.loc
  obtain ⟨u, r, l⟩ := hl i x v hN e hv
  have fin : EP X pins σ Q u s := ⟨v, H, I, r, h⟩
  rcases l with ⟨hk, hm⟩ | ⟨hk, c, hc, hcell⟩
  · exact wpAny_Name (wpAny_loadName_local I.ok.kind hk hn hm fin) hd
  · rcases hk with hk | hk
    · exact wpAny_Name (wpAny_loadName_cell I.ok.kind hk hc hcell fin) hd
    · exact wpAny_Name (wpAny_loadName_free I.ok.kind hk hc hcell fin hcd) hd
theorem pe_int {i j pos} : PE X (.Constant (.int i) j pos) (tC (.int i)) := fun _ _ _ H _ I h => wpAny_Constant_int ⟨.int i, H, I.tok _, ⟨_, rfl⟩, h⟩
theorem pe_bl {b j pos} : PE X (.Constant (.bool b) j pos) (tC (.bl b)) := fun _ _ _ H _ I h => Constant_bool ⟨.bl b, H, I, rfl, h⟩
theorem pe_non {j pos} : PE X (.Constant .none j pos) (tC .non) := fun _ _ _ H _ I h => Constant_none ⟨.non, H, I, rfl, h⟩
theorem pe_str {x j pos} : PE X (.Constant (.str x) j pos) (tC (.str x)) := fun _ _ _ H _ I h => Calls.Constant_str ⟨.str x, H, I.tok _, ⟨_, rfl⟩, h⟩

/-- a global name of the def -/
noncomputable def Gl (X : Cx) (x : Str) : Prop := X.env.kindOf x = some .globalImplicit
theorem ld_glob {E : Value → Shared → Prop} {pins : List (Addr × Obj)} {s : Shared} {σ : St} {H : Hp} {x : Str} {u : Value} {pos : Pos} {Q : Value → Shared → Prop} (I : Inv X pins σ H s) (hg : Gl X x) (hm : X.mg x = some u) (h : Q u s)
    (hd : (x == ("__debug__" : Str)) = false := by decide) : wpAny (model X.prog X.w) X.A (eval (.Name x pos) X.env) Q E s :=
  Calls.Name_function_global I.ok.kind hg (Calls.loadGlobal_global (by rw [I.ok.glob]; exact I.mod.glob.keeps I.bk) hm h) hd
theorem ld_blt {E : Value → Shared → Prop} {pins : List (Addr × Obj)} {s : Shared} {σ : St} {H : Hp} {x : Str} {u : Value} {pos : Pos} {Q : Value → Shared → Prop} (I : Inv X pins σ H s) (hg : Gl X x) (hm : X.mg x = none) (hv : bootBuiltins x = some u) (h : Q u s)
    (hn : x ≠ "__name__" := by decide) (hd : (x == ("__debug__" : Str)) = false := by decide) : wpAny (model X.prog X.w) X.A (eval (.Name x pos) X.env) Q E s := by
  obtain ⟨mb, h1, h2⟩ := I.mod.blt
  exact Calls.Name_function_global I.ok.kind hg (Calls.loadGlobal_builtin (by rw [I.ok.glob]; exact I.mod.glob.keeps I.bk) hm (by rw [I.ok.blt]; exact h1.keeps I.bk) ((h2 x hn).trans hv) h) hd
/-- a module's constant, a class, a function, as a value -/
theorem pe_glob {x : Str} {v : V} {u : Value} {pos : Pos} (hg : Gl X x) (hm : X.mg x = some u) (r : RelV v u) (hd : (x == ("__debug__" : Str)) = false := by decide) : PE X (.Name x pos) (tC v) :=
  fun _ _ _ H _ I h => ld_glob I hg hm ⟨v, H, I, r, h⟩ hd
theorem pe_bltn {x : Str} {v : V} {u : Value} {pos : Pos} (hg : Gl X x) (hm : X.mg x = none) (hv : bootBuiltins x = some u) (r : RelV v u) (hn : x ≠ "__name__" := by decide) (hd : (x == ("__debug__" : Str)) = false := by decide) : PE X (.Name x pos) (tC v) :=
  fun _ _ _ H _ I h => ld_blt I hg hm hv ⟨v, H, I, r, h⟩ hn hd

/-! ### arithmetic -/
variable {a b : Expr} {ta tb : TE} {pos : Pos}

/-! ### comparisons -/
noncomputable def PC (X : Cx) (op : CmpOp) (a b : Expr) (t : TE) : Prop :=
  ∀ (pins : List (Addr × Obj)) (s : Shared) (σ : St) (H : Hp) (Q : VK), Inv X pins σ H s → t σ H Q →
    wpAny (model X.prog X.w) X.A (eval a X.env) (fun v s₁ => wpAny (model X.prog X.w) X.A (eval b X.env) (fun u s₂ => wpAny (model X.prog X.w) X.A (compareOp op v u) (EP X pins σ Q) X.xe s₂) X.xe s₁) X.xe s
theorem nobehind (b : Expr) {op : CmpOp} (h : op ≠ .In) (h2 : op ≠ .NotIn) : behindInMarks op b = false := by
  have e1 : (op == CmpOp.In) = false := by cases op <;> first | rfl | exact absurd rfl h
  have e2 : (op == CmpOp.NotIn) = false := by cases op <;> first | rfl | exact absurd rfl h2
  cases b <;> simp [behindInMarks, e1, e2]
/-- is None -/
noncomputable def tIsN (ta : TE) : TE := fun σ H Q => ta σ H fun x H1 => Q (.bl (decide (x = .non))) H1
theorem RelV.none_iff {x : V} {v : Value} (r : RelV x v) : (v == Value.none) = decide (x = .non) := by
  cases x with
  | non => cases r; rfl
  | bl _ => cases r; rfl
  | int _ => obtain ⟨t, rfl⟩ := r; rfl
  | str _ => obtain ⟨t, rfl⟩ := r; rfl
  | byt _ => obtain ⟨t, rfl⟩ := r; rfl
  | flt _ => obtain ⟨t, rfl⟩ := r; rfl
  | ref _ => cases r; rfl
  | ty _ => cases r; rfl
theorem pc_isN {j pos'} (ha : PE X a ta) : PC X .Is a (.Constant .none j pos') (tIsN ta) := by
  intro pins s σ H Q I h
  refine thn (ha pins s σ H _ I h) fun v s1 ⟨x, H1, I1, r1, q1⟩ => ?_
  exact Constant_none (is_none_gen ⟨.bl _, H1, I1, by rw [r1.none_iff]; rfl, q1⟩)
/-- a comparison as a value, as a test -/
noncomputable def tB (t : TE) : TT := fun σ H Q => t σ H fun x H1 => ∃ c, x = .bl c ∧ Q c H1
theorem pe_cmp {op : CmpOp} {t : TE} (h : PC X op a b t) (h1 : behindInMarks op b = false := by first | exact nobehind _ (by decide) (by decide) | rfl) : PE X (.Compare a [op] [b] pos) t := fun pins s σ H Q I hw => wpAny_Compare1 (h pins s σ H Q I hw) h1
theorem pt_cmp {op : CmpOp} {t : TE} (h : PC X op a b t) (h1 : behindInMarks op b = false := by first | exact nobehind _ (by decide) (by decide) | rfl) : PT X (.Compare a [op] [b] pos) (tB t) := by
  intro pins s σ H Q I hw
  refine wpAny_isTrue_Compare1 (thn (h pins s σ H _ I hw) fun v s1 h1 => thn h1 fun u s2 h2 => thn h2 fun c s3 ⟨x, H1, I1, r1, q1⟩ => ?_) h1
  obtain ⟨d, rfl, q⟩ := q1
  cases r1
  exact wpAny_truthy_bool ⟨H1, I1, q⟩
/-- an expression whose value is a bool, as a test -/
theorem pt_val {e : Expr} {t : TE} (h : PE X e t) (he : ∀ whole, isTrue e X.env whole = (do let v ← whole; standAt e.pos; holding [v] (truthy v)) := by intro _; rfl) : PT X e (tB t) := by
  intro pins s σ H Q I hw
  refine isTrue_plain (thn (h pins s σ H _ I hw) fun v s1 ⟨x, H1, I1, r1, q1⟩ => ?_) (he _)
  obtain ⟨d, rfl, q⟩ := q1
  cases r1
  exact wpAny_truthy_bool ⟨H1, I1, q⟩

/-! ### and, or, not -/
variable {tA tB' : TT} {rest : List Expr}
noncomputable def tAnd (t u : TT) : TT := fun σ H Q => t σ H fun c H1 => if c = true then u σ H1 Q else Q false H1
noncomputable def tOr (t u : TT) : TT := fun σ H Q => t σ H fun c H1 => if c = true then Q true H1 else u σ H1 Q
noncomputable def tNot (t : TT) : TT := fun σ H Q => t σ H fun c H1 => Q (!c) H1
theorem pw_and1 (ha : PT X a tA) : PW X (.BoolOp .And [a] pos) tA := by
  intro wh pins s σ H Q I h
  refine isTrue_and (thn (ha pins s σ H Q I h) fun c s1 e => ?_)
  cases c with
  | true => exact isTrue_and_nil e
  | false => exact e
theorem pw_or1 (ha : PT X a tA) : PW X (.BoolOp .Or [a] pos) tA := by
  intro wh pins s σ H Q I h
  refine isTrue_or (thn (ha pins s σ H Q I h) fun c s1 e => ?_)
  cases c with
  | false => exact isTrue_or_nil e
  | true => exact e
theorem pw_and (ha : PT X a tA) (hb : PW X (.BoolOp .And (b :: rest) pos) tB') : PW X (.BoolOp .And (a :: b :: rest) pos) (tAnd tA tB') := by
  intro wh pins s σ H Q I h
  refine isTrue_and (thn (ha pins s σ H _ I h) fun c s1 ⟨H1, I1, q1⟩ => ?_)
  cases c with
  | true => exact hb wh pins s1 σ H1 Q I1 q1
  | false => exact ⟨H1, I1, q1⟩
theorem pw_or (ha : PT X a tA) (hb : PW X (.BoolOp .Or (b :: rest) pos) tB') : PW X (.BoolOp .Or (a :: b :: rest) pos) (tOr tA tB') := by
  intro wh pins s σ H Q I h
  refine isTrue_or (thn (ha pins s σ H _ I h) fun c s1 ⟨H1, I1, q1⟩ => ?_)
  cases c with
  | true => exact ⟨H1, I1, q1⟩
  | false => exact hb wh pins s1 σ H1 Q I1 q1
theorem pt_not (ha : PT X a tA) : PT X (.UnaryOp .Not a pos) (tNot tA) := by
  intro pins s σ H Q I h
  exact isTrue_not (ha pins s σ H (fun c H1 => Q (!c) H1) I h)
/-- .. as values (bools) -/
noncomputable def tAndV (ta tb : TE) : TE := fun σ H Q => ta σ H fun x H1 => ∃ c, x = .bl c ∧ if c = true then tb σ H1 Q else Q (.bl false) H1
noncomputable def tOrV (ta tb : TE) : TE := fun σ H Q => ta σ H fun x H1 => ∃ c, x = .bl c ∧ if c = true then Q (.bl true) H1 else tb σ H1 Q
noncomputable def tNotV (ta : TE) : TE := fun σ H Q => ta σ H fun x H1 => ∃ c, x = .bl c ∧ Q (.bl (!c)) H1
theorem pe_one {op} {t : TE} (h : PE X a t) : PE X (.BoolOp op [a] pos) t := fun pins s σ H Q I hw => BoolOp_one (h pins s σ H Q I hw)
theorem pe_and (ha : PE X a ta) (hb : PE X (.BoolOp .And (b :: rest) pos) tb) : PE X (.BoolOp .And (a :: b :: rest) pos) (tAndV ta tb) := by
  intro pins s σ H Q I h
  refine BoolOp_and (thn (ha pins s σ H _ I h) fun v s1 ⟨x, H1, I1, r1, q1⟩ => ?_)
  obtain ⟨c, rfl, q1⟩ := q1
  cases r1
  refine wpAny_truthy_bool ?_
  cases c with
  | true => exact hb pins s1 σ H1 Q I1 q1
  | false => exact ⟨.bl false, H1, I1, rfl, q1⟩
theorem pe_or (ha : PE X a ta) (hb : PE X (.BoolOp .Or (b :: rest) pos) tb) : PE X (.BoolOp .Or (a :: b :: rest) pos) (tOrV ta tb) := by
  intro pins s σ H Q I h
  refine BoolOp_or (thn (ha pins s σ H _ I h) fun v s1 ⟨x, H1, I1, r1, q1⟩ => ?_)
  obtain ⟨c, rfl, q1⟩ := q1
  cases r1
  refine wpAny_truthy_bool ?_
  cases c with
  | false => exact hb pins s1 σ H1 Q I1 q1
  | true => exact ⟨.bl true, H1, I1, rfl, q1⟩
theorem pe_not (ha : PE X a ta) : PE X (.UnaryOp .Not a pos) (tNotV ta) := by
  intro pins s σ H Q I h
  refine UnaryOp_ (thn (ha pins s σ H _ I h) fun v s1 ⟨x, H1, I1, r1, q1⟩ => ?_)
  obtain ⟨c, rfl, q1⟩ := q1
  cases r1
  exact not_of (wpAny_truthy_bool ⟨.bl (!c), H1, I1, rfl, q1⟩)
end
end L2

namespace L2
open PySem PySem.Spec PyProof.Rows

/-! ### a list, a tuple that is read: tracked, frozen, or an object of the module -/
noncomputable def SqL (K : PySem.W.Frag) (H : Hp) (a : Addr) (xs : List V) : Prop :=
  Rd H a (.lst xs) ∨
    ∃ (o : Obj) (its : Array Value) (n : Nat), K.lookup a = some o ∧ o.cls = .type "list" ∧ o.dict = none ∧ o.data = .seq its n ∧ its.size ≤ sizeLine ∧ Vals xs its.toList
noncomputable def SqT (K : PySem.W.Frag) (H : Hp) (a : Addr) (xs : List V) : Prop :=
  Rd H a (.tup xs) ∨
    ∃ (o : Obj) (its : Array Value) (n : Nat), K.lookup a = some o ∧ o.cls = .type "tuple" ∧ o.data = .seq its n ∧ its.size ≤ sizeLine ∧ Vals xs its.toList
noncomputable def absV : Value → Option V
  | .none => some .non
  | .bool b => some (.bl b)
  | .int i _ => some (.int i)
  | .str x _ => some (.str x)
  | .bytes b _ => some (.byt b)
  | .float b _ => some (.flt b)
  | .ref a => some (.ref a)
  | .type n => some (.ty n)
  | _ => none
theorem RelV.abs {x : V} {u : Value} (r : RelV x u) : absV u = some x := by
  cases x with
  | non => cases r; rfl
  | bl _ => cases r; rfl
  | int _ => obtain ⟨t, rfl⟩ := r; rfl
  | str _ => obtain ⟨t, rfl⟩ := r; rfl
  | byt _ => obtain ⟨t, rfl⟩ := r; rfl
  | flt _ => obtain ⟨t, rfl⟩ := r; rfl
  | ref _ => cases r; rfl
  | ty _ => cases r; rfl
theorem RelV.inj {x y : V} {u : Value} (r : RelV x u) (q : RelV y u) : x = y := Option.some.inj (r.abs.symm.trans q.abs)
theorem Vals.inj : ∀ {xs ys : List V} {us : List Value}, Vals xs us → Vals ys us → xs = ys
  | _, _, _, .nil, .nil => rfl
  | _, _, _, .cons r t, .cons r' t' => by rw [r.inj r', Vals.inj t t']
section
variable {X : Cx} {pins : List (Addr × Obj)} {σ : St} {H : Hp} {s : Shared} {a : Addr} {xs ys : List V}
theorem SqL.of {K : PySem.W.Frag} (h : H a = some (.lst xs)) : SqL K H a xs := .inl (.inl h)
theorem SqT.of {K : PySem.W.Frag} (h : H a = some (.tup xs)) : SqT K H a xs := .inl (.inl h)
theorem Inv.list (I : Inv X pins σ H s) (h : SqL X.K H a xs) : ∃ its : List Value, Vals xs its ∧ PlainL s.heap a its.toArray ∧ xs.length ≤ sizeLine := by
  rcases h with h | ⟨o, its, n, hk, hc, hd, hs, hz, r⟩
  · obtain ⟨z, its, n, r, e⟩ := h.ok I.hok
    exact ⟨its, r, ⟨_, n, e, rfl, rfl, rfl⟩, z⟩
  · refine ⟨its.toList, r, ⟨o, n, I.kIn a o hk, hc, hd, by simpa using hs⟩, ?_⟩
    have e := r.length
    simp only [Array.length_toList] at e
    omega
theorem Inv.tuple (I : Inv X pins σ H s) (h : SqT X.K H a xs) : ∃ its : List Value, Vals xs its ∧ IsTup s.heap a its.toArray ∧ xs.length ≤ sizeLine := by
  rcases h with h | ⟨o, its, n, hk, hc, hs, hz, r⟩
  · obtain ⟨z, its, r, p⟩ := h.ok I.hok
    exact ⟨its, r, p, z⟩
  · refine ⟨its.toList, r, ⟨o, I.kIn a o hk, hc, n, by simpa using hs⟩, ?_⟩
    have e := r.length
    simp only [Array.length_toList] at e
    omega
theorem Inv.list_inj (I : Inv X pins σ H s) (h : SqL X.K H a xs) (h' : SqL X.K H a ys) : xs = ys := by
  obtain ⟨its, r, ⟨o, n, e, _, _, d⟩, _⟩ := I.list h
  obtain ⟨its', r', ⟨o', n', e', _, _, d'⟩, _⟩ := I.list h'
  rw [e] at e'; cases e'
  rw [d] at d'
  injection d' with d1 _
  have : its = its' := by simpa using congrArg Array.toList d1
  subst this
  exact r.inj r'
theorem Inv.tuple_inj (I : Inv X pins σ H s) (h : SqT X.K H a xs) (h' : SqT X.K H a ys) : xs = ys := by
  obtain ⟨its, r, ⟨o, e, _, n, d⟩, _⟩ := I.tuple h
  obtain ⟨its', r', ⟨o', e', _, n', d'⟩, _⟩ := I.tuple h'
  rw [e] at e'; cases e'
  rw [d] at d'
  injection d' with d1 _
  have : its = its' := by simpa using congrArg Array.toList d1
  subst this
  exact r.inj r'
end

/-! ### another wish about exceptions -/
noncomputable abbrev Cx.wish (X : Cx) (E : Value → Shared → Prop) : Cx := { X with xe := E }
/-- no exception leaves -/
noncomputable abbrev Cx.nox (X : Cx) : Cx := X.wish fun _ _ => False
theorem Cx.Ok.wish {X : Cx} (ok : X.Ok) (E : Value → Shared → Prop) : (X.wish E).Ok :=
  ⟨ok.mod, ok.kind, ok.glob, ok.blt, ok.above, ok.inj, ok.has, ok.cab, ok.hd, ok.frames, ok.stk, ok.exf, ok.bs, ok.bsz, ok.noex, ok.exfs, ok.funs, ok.frf⟩
theorem Cx.Ok.unwish {X : Cx} {E : Value → Shared → Prop} (ok : (X.wish E).Ok) : X.Ok :=
  ⟨ok.mod, ok.kind, ok.glob, ok.blt, ok.above, ok.inj, ok.has, ok.cab, ok.hd, ok.frames, ok.stk, ok.exf, ok.bs, ok.bsz, ok.noex, ok.exfs, ok.funs, ok.frf⟩
section
variable {X : Cx} {pins : List (Addr × Obj)} {σ : St} {H : Hp} {s : Shared} {E : Value → Shared → Prop}
theorem Inv.wish (I : Inv X pins σ H s) (E : Value → Shared → Prop) : Inv (X.wish E) pins σ H s := ⟨I.ok.wish E, I.os, I.bare, I.base, I.loc, I.cell, I.free, I.freeC, I.pin, I.hok, I.len⟩
theorem Inv.unwish (I : Inv (X.wish E) pins σ H s) : Inv X pins σ H s := ⟨I.ok.unwish, I.os, I.bare, I.base, I.loc, I.cell, I.free, I.freeC, I.pin, I.hok, I.len⟩
theorem SP.unwish {D : Ends} {f : Flow} {s' : Shared} (h : SP (X.wish E) pins D f s') : SP X pins D f s' := by
  cases f with
  | next => obtain ⟨σ', H', I, q⟩ := h; exact ⟨σ', H', I.unwish, q⟩
  | brk => obtain ⟨σ', H', I, q⟩ := h; exact ⟨σ', H', I.unwish, q⟩
  | cont => obtain ⟨σ', H', I, q⟩ := h; exact ⟨σ', H', I.unwish, q⟩
  | ret u => obtain ⟨v, σ', H', I, r, q⟩ := h; exact ⟨v, σ', H', I.unwish, r, q⟩
theorem PSs.nox {st : List Stmt} {t : TS} (h : PSs X.nox st t) : PSs X st t := fun pins s σ H D I hw =>
  wpAny_mono (h pins s σ H D (I.wish _) hw) (fun _ _ q => q.unwish) fun _ _ z => False.elim z
end

/-! ### blocks and small statements -/
section
variable {X : Cx} {st : Stmt} {rest : List Stmt} {t u : TS} {e : Expr} {te : TE} {pos : Pos}
noncomputable def tNext : TS := fun D σ H => D.nx σ H
noncomputable def tSeq (t u : TS) : TS := fun D σ H => t { D with nx := u D } σ H
theorem pss_nil : PSs X [] tNext := fun _ _ σ H _ I h => wpAny_execs_nil ⟨σ, H, I, h⟩
theorem pss_cons (h1 : PS X st t) (h2 : PSs X rest u) : PSs X (st :: rest) (tSeq t u) := by
  intro pins s σ H D I h
  refine wpAny_execs_cons (thn (h1 pins s σ H { D with nx := u D } I h) fun f s1 q => ?_)
  cases f with
  | next =>
    obtain ⟨σ', H', I', q⟩ := q
    exact h2 pins s1 σ' H' D I' q
  | ret v => exact q
  | brk => exact q
  | cont => exact q
theorem pss_one (h1 : PS X st t) : PSs X [st] t := by
  intro pins s σ H D I h
  refine wpAny_execs_cons (thn (h1 pins s σ H D I h) fun f s1 q => ?_)
  cases f with
  | next => exact wpAny_execs_nil q
  | ret v => exact q
  | brk => exact q
  | cont => exact q
/-- in a def's body nothing is shown -/
theorem Inv.quiet {pins : List (Addr × Obj)} {σ : St} {H : Hp} {s : Shared} (I : Inv X pins σ H s) : interactive X.env = false := by simp [interactive, I.ok.kind]
/-- an expression whose value is dropped -/
noncomputable def tDrop (te : TE) : TS := fun D σ H => te σ H fun _ H1 => D.nx σ H1
theorem ps_expr (he : PE X e te) (hs : swapsWith e none pos.line X.env = pure false := by rfl) : PS X (.Expr e pos) (tDrop te) := by
  intro pins s σ H D I h
  exact wpAny_Expr_any (thn (he pins s σ H _ I h) fun v s1 ⟨x, H1, I1, r1, q1⟩ => ⟨σ, H1, I1, q1⟩) I.quiet hs
noncomputable def tRet (te : TE) : TS := fun D σ H => te σ H D.rt
theorem ps_ret (he : PE X e te) : PS X (.Return (some e) pos) (tRet te) := by
  intro pins s σ H D I h
  exact wpAny_Return_some (thn (he pins s σ H _ I h) fun v s1 ⟨x, H1, I1, r1, q1⟩ => ⟨x, σ, H1, I1, r1, q1⟩)
noncomputable def tIfS (c : TT) (t u : TS) : TS := fun D σ H => c σ H fun b H1 => if b = true then t D σ H1 else u D σ H1
theorem ps_if {c : Expr} {a b : List Stmt} {tc : TT} (hc : PT X c tc) (ha : PSs X a t) (hb : PSs X b u) : PS X (.If c a b pos) (tIfS tc t u) := by
  intro pins s σ H D I h
  refine wpAny_If (thn (hc pins s σ H _ I h) fun d s1 ⟨H1, I1, q1⟩ => ?_)
  cases d with
  | true => exact ha pins s1 σ H1 D I1 q1
  | false => exact hb pins s1 σ H1 D I1 q1
end

/-! ### targets -/
noncomputable abbrev TG := V → St → Hp → (St → Hp → Prop) → Prop
noncomputable abbrev TGs := List V → St → Hp → (St → Hp → Prop) → Prop
noncomputable def PG (X : Cx) (target : Expr) (t : TG) : Prop :=
  ∀ (pins : List (Addr × Obj)) (s : Shared) (σ : St) (H : Hp) (v : V) (u : Value) (Q : St → Hp → Prop), Inv X pins σ H s → RelV v u → t v σ H Q →
    wpAny (model X.prog X.w) X.A (assign target X.env u) (fun _ s' => ∃ σ' H', Inv X pins σ' H' s' ∧ Q σ' H') X.xe s
/-- several targets, one after another -/
noncomputable def PGs (X : Cx) (ts : List Expr) (t : TGs) : Prop :=
  ∀ (pins : List (Addr × Obj)) (s : Shared) (σ : St) (H : Hp) (vs : List V) (us : List Value) (Q : St → Hp → Prop), Inv X pins σ H s → Vals vs us → t vs σ H Q →
    wpAny (model X.prog X.w) X.A (assignInOrder ((assignEach ts X.env).map (·.2)) us) (fun _ s' => ∃ σ' H', Inv X pins σ' H' s' ∧ Q σ' H') X.xe s
/-- o[i] = v, by values -/
noncomputable abbrev TSet := V → V → V → Hp → (Hp → Prop) → Prop
noncomputable def PSet (X : Cx) (t : TSet) : Prop :=
  ∀ (pins : List (Addr × Obj)) (s : Shared) (σ : St) (H : Hp) (o i v : V) (ov iv u : Value) (Q : Hp → Prop), Inv X pins σ H s → RelV o ov → RelV i iv → RelV v u → t o i v H Q →
    wpAny (model X.prog X.w) X.A (setItem ov iv u) (fun _ s' => ∃ H', Inv X pins σ H' s' ∧ Q H') X.xe s
section
variable {X : Cx} {pos : Pos}
noncomputable def gName (i : Nat) : TG := fun v σ H Q => Q (σ.set i (some v)) H
theorem pg_name {i : Nat} {x : Str} (hN : X.N.Nodup) (hi : X.N[i]? = some x) (hx : Loc X.env.scope x) (hf : X.fn x = true ∨ X.env.scope.names.lookup x = some .local := by first | exact .inl rfl | exact .inr rfl | assumption) : PG X (.Name x pos) (gName i) := by
  intro pins s σ H v u Q I r h
  exact wpAny_assign_Name (store_ok I hN hi hx r (fun s' I' => ⟨_, H, I', h⟩) hf)
noncomputable def gNil : TGs := fun vs σ H Q => vs = [] ∧ Q σ H
noncomputable def gCons (t : TG) (u : TGs) : TGs := fun vs σ H Q => ∃ v r, vs = v :: r ∧ t v σ H fun σ' H' => u r σ' H' Q
theorem pgs_nil : PGs X [] gNil := by
  intro pins s σ H vs us Q I r h
  obtain ⟨e, h⟩ := h
  subst e
  cases r
  exact assignInOrder_nil ⟨σ, H, I, h⟩
theorem pgs_cons {e : Expr} {es : List Expr} {t : TG} {u : TGs} (h1 : PG X e t) (h2 : PGs X es u)
    (hs : (assignEach (e :: es) X.env).map (·.2) = assign e X.env :: (assignEach es X.env).map (·.2) := by rfl) : PGs X (e :: es) (gCons t u) := by
  intro pins s σ H vs us Q I r h
  obtain ⟨v, vr, e1, h⟩ := h
  subst e1
  cases r with
  | cons r rr =>
    rw [hs]
    refine assignInOrder_cons (thn (h1 pins s σ H _ _ _ I r h) fun _ s1 ⟨σ1, H1, I1, q1⟩ => ?_)
    exact h2 pins s1 σ1 H1 _ _ Q I1 rr q1
/-- (a, b, ..) = a tuple of that length -/
noncomputable def gTup (K : PySem.W.Frag) (n : Nat) (t : TGs) : TG := fun v σ H Q => ∃ a xs, v = .ref a ∧ SqT K H a xs ∧ xs.length = n ∧ t xs σ H Q
theorem pg_tup {es : List Expr} {k : Nat} {t : TGs} {n : Nat} (hc : X.calm = true) (h : PGs X es t)
    (hn : (assignEach es X.env).length = n := by rfl) (hst : (assignEach es X.env).findIdx? (·.1) = none := by rfl) : PG X (.Tuple es k pos) (gTup X.K n t) := by
  intro pins s σ H v u Q I r hw
  obtain ⟨a, xs, e1, hq, hl, hw⟩ := hw
  subst e1
  cases r
  obtain ⟨its, rv, ht, hz⟩ := I.tuple hq
  refine assign_Tuple_tuple (I.ok.hd hc) ht (by simp [hn, ← hl, rv.length]) hst fun h' hx => ?_
  have I1 : Inv X pins σ H { s with heap := h' } := I.kept (t' := s.toks) fun b o e => hx b o (Nat.ne_of_lt (Heap.lt_size e)) e
  exact h pins _ σ H xs _ Q I1 (by simpa using rv) hw
/-- o[i] = .. -/
noncomputable def gSub (to ti : TE) (t : TSet) : TG := fun v σ H Q => to σ H fun o H1 => ti σ H1 fun i H2 => t o i v H2 fun H3 => Q σ H3
theorem pg_sub {o i : Expr} {to ti : TE} {t : TSet} (ho : PE X o to) (hi : PE X i ti) (hs : PSet X t)
    (ha : ∀ v, assign (.Subscript o i pos) X.env v = (do
      let ov ← holding [v] (eval o X.env)
      let iv ← holding [v, ov] (eval i X.env)
      standAt pos
      holding [v, ov, iv] (setItem ov iv v)
      release [v, ov, iv] []) := by intro _; rfl) : PG X (.Subscript o i pos) (gSub to ti t) := by
  intro pins s σ H v u Q I r h
  rw [ha]
  refine wpAny_bind (wpAny_holding (thn (ho pins s σ H _ I h) fun ov s1 ⟨x, H1, I1, r1, q1⟩ => ?_))
  refine wpAny_bind (wpAny_holding (thn (hi pins s1 σ H1 _ I1 q1) fun iv s2 ⟨y, H2, I2, r2, q2⟩ => ?_))
  refine wpAny_bind (wpAny_standAt (wpAny_bind (wpAny_holding (thn (hs pins s2 σ H2 x y v ov iv u _ I2 r1 r2 r q2) fun _ s3 ⟨H3, I3, q3⟩ => ?_))))
  exact wpAny_release ⟨σ, H3, I3, q3⟩
/-- target = value -/
noncomputable def tAsg (te : TE) (g : TG) : TS := fun D σ H => te σ H fun x H1 => g x σ H1 D.nx
theorem ps_asg {tg e : Expr} {te : TE} {g : TG} (he : PE X e te) (hg : PG X tg g) (hs : swapsWithSole [tg] e pos.line X.env = pure false := by rfl) (hw : swappedStores [tg] e X.env = pure none := by rfl)
    (h1 : (assignEach [tg] X.env).map (·.2) = [assign tg X.env] := by rfl) : PS X (.Assign [tg] e pos) (tAsg te g) := by
  intro pins s σ H D I h
  refine wpAny_Assign_stores (thn (he pins s σ H _ I h) fun v s1 ⟨x, H1, I1, r1, q1⟩ => ?_) hs hw
  rw [h1]
  exact thn (hg pins s1 σ H1 x v _ I1 r1 q1) fun _ s2 q => q
/-- name = value -/
theorem ps_set {i : Nat} {x : Str} {e : Expr} {te : TE} {pos' : Pos} (hN : X.N.Nodup) (hi : X.N[i]? = some x) (hx : Loc X.env.scope x) (he : PE X e te) (hs : swapsWith e (some (.Name x pos')) pos.line X.env = pure false := by rfl) (hf : X.fn x = true ∨ X.env.scope.names.lookup x = some .local := by first | exact .inl rfl | exact .inr rfl | assumption) :
    PS X (.Assign [.Name x pos'] e pos) (tAsg te (gName i)) := by
  intro pins s σ H D I h
  refine wpAny_Assign_Name (thn (he pins s σ H _ I h) fun v s1 ⟨y, H1, I1, r1, q1⟩ => ?_) hs
  exact store_ok I1 hN hi hx r1 (fun s2 I2 => ⟨_, H1, I2, q1⟩) hf
end

/-! ### while -/
section
variable {X : Cx} {pos : Pos}
end

/-! ### what a loop or a comprehension walks -/
/-- at turn i: it yields x (the heap may grow), or it stops -/
structure It where
  go : Nat → Hp → Prop
  yld : Nat → Hp → V → Hp → Prop
  stop : Nat → Hp → Prop
/-- the iterator's own objects may turn: they are not the frame's, not pinned, younger than the entry (or a comprehension's own) -/
noncomputable def FpOk (X : Cx) (pins : List (Addr × Obj)) (H : Hp) (b : Addr) : Prop :=
  H b = none ∧ b ≠ X.env.locals ∧ b ∉ X.fs ∧ (b ∈ X.ex ∨ X.s₀.heap.objs.size ≤ b) ∧ (∀ x c, X.env.cells.lookup x = some c → c ≠ b) ∧ ∀ p ∈ X.pn ++ pins, p.1 ≠ b
theorem Inv.fpOk {X : Cx} {pins : List (Addr × Obj)} {σ : St} {H H' : Hp} {s : Shared} {b : Addr} (I : Inv X pins σ H s) (hb : s.heap.objs.size ≤ b) (hn : H' b = none) : FpOk X pins H' b := by
  refine ⟨hn, Nat.ne_of_gt (Nat.lt_of_lt_of_le I.lt hb), I.nofs hb, .inr (Nat.le_trans I.sz hb), fun x c e z => ?_, fun p hp z => ?_⟩
  · obtain ⟨v, q⟩ := I.cell x c e
    exact absurd (Nat.lt_of_lt_of_le q.lt (by rw [z]; exact hb)) (Nat.lt_irrefl _)
  · exact absurd (Nat.lt_of_lt_of_le (Heap.lt_size (I.pin p hp).1) (by rw [z]; exact hb)) (Nat.lt_irrefl _)
structure Turn (P : Program) (w : World) (K : PySem.W.Frag) (tg : Expr) (J : It) (fp : List Addr) (it : Addr) (tn : Nat → Heap → Prop) : Prop where
  mem : it ∈ fp
  obj : ∀ i h, tn i h → ∀ b ∈ fp, ∃ o, h.get? b = some o ∧ ∀ v, o.data ≠ .cell v
  keep : ∀ i h h', tn i h → (∀ b ∈ fp, ∀ o, h.get? b = some o → h'.get? b = some o) → tn i h'
  item : ∀ (X : Cx), X.prog = P → X.w = w → X.K = K → X.calm = true → ∀ (i : Nat) (pins : List (Addr × Obj)) (s : Shared) (σ : St) (H : Hp) (E : Value → Shared → Prop), Inv X pins σ H s → (∀ b ∈ fp, FpOk X pins H b) → tn i s.heap → J.go i H →
    wpAny (model P w) X.A (pyNext (.ref it)) (fun r s1 => ∃ u, r = some u ∧
      wpAny (model P w) X.A (letOwnedTupleGo tg (.ref it) u) (fun _ s2 => ∃ x H', Inv X pins σ H' s2 ∧ RelV x u ∧ J.yld i H x H' ∧ tn (i + 1) s2.heap ∧ ∀ b ∈ fp, H' b = none) E s1) E s
  done : ∀ (X : Cx), X.prog = P → X.w = w → X.K = K → X.calm = true → ∀ (i : Nat) (pins : List (Addr × Obj)) (s : Shared) (σ : St) (H : Hp) (E : Value → Shared → Prop), Inv X pins σ H s → (∀ b ∈ fp, FpOk X pins H b) → tn i s.heap → J.stop i H →
    wpAny (model P w) X.A (pyNext (.ref it)) (fun r s1 => r = none ∧ Inv X pins σ H s1) E s
  self : ∀ (A : Around) (i : Nat) (s : Shared) (Q : Value → Shared → Prop) (E : Value → Shared → Prop), tn i s.heap → Q (.ref it) s → wpAny (model P w) A (pyIter (.ref it)) Q E s
noncomputable abbrev TI := St → Hp → (It → Hp → Prop) → Prop
/-- an iterator has come -/
noncomputable def PIE (X : Cx) (pins : List (Addr × Obj)) (σ : St) (tg : Expr) (R : It → Hp → Prop) (itv : Value) (s2 : Shared) : Prop :=
  ∃ (it : Addr) (fp : List Addr) (tn : Nat → Heap → Prop) (J : It) (H' : Hp), itv = .ref it ∧ Inv X pins σ H' s2 ∧ Turn X.prog X.w X.K tg J fp it tn ∧ tn 0 s2.heap ∧ (∀ b ∈ fp, FpOk X pins H' b) ∧ R J H'
noncomputable def PI (X : Cx) (tg iter : Expr) (wi : TI) : Prop :=
  ∀ (pins : List (Addr × Obj)) (s : Shared) (σ : St) (H : Hp) (R : It → Hp → Prop), Inv X pins σ H s → wi σ H R →
    wpAny (model X.prog X.w) X.A (eval iter X.env) (fun v s1 => wpAny (model X.prog X.w) X.A (pyIter v) (PIE X pins σ tg R) X.xe s1) X.xe s

/-- the step ahead of the store is nothing for an iterator that keeps no tuple -/
theorem go_of {M : Model} {A : Around} {E : Value → Shared → Prop} {s : Shared} {tg : Expr} {it : Addr} {u : Value} {o : Obj} {n : String} {vs : Array Value} {Q : Unit → Shared → Prop} (ho : s.heap.get? it = some o) (hc : o.cls = .type n) (hd : o.data = .fields vs)
    (hn : ["enumerate", "zip", "dict_itemiterator", "dict_reverseitemiterator", "odict_iterator", "itertools.zip_longest", "itertools.pairwise"].contains n = false) (hQ : Q () s) : wpAny M A (letOwnedTupleGo tg (.ref it) u) Q E s := by
  unfold letOwnedTupleGo
  cases tg <;> first
    | exact wpAny_pure hQ
    | (cases u <;> first
        | exact wpAny_pure hQ
        | (refine wpAny_bind (wpAny_load ho ?_)
           rw [hc, hd]
           show wpAny M A (if (["enumerate", "zip", "dict_itemiterator", "dict_reverseitemiterator", "odict_iterator", "itertools.zip_longest", "itertools.pairwise"].contains n && vs[0]? == some (rawInt _)) = true then _ else _) Q E s
           rw [if_neg (by intro h; rw [hn, Bool.false_and] at h; cases h)]
           exact wpAny_pure hQ))

/-- the list at a, as it stands at each turn (a loop may append to it) -/
noncomputable def Itl (K : PySem.W.Frag) (a : Addr) : It :=
  ⟨fun i H => ∃ xs x, SqL K H a xs ∧ xs[i]? = some x, fun i H x H' => H' = H ∧ ∀ xs, SqL K H a xs → xs[i]? = some x, fun i H => ∃ xs, SqL K H a xs ∧ xs.length ≤ i⟩
noncomputable def Itt (K : PySem.W.Frag) (a : Addr) : It :=
  ⟨fun i H => ∃ xs x, SqT K H a xs ∧ xs[i]? = some x, fun i H x H' => H' = H ∧ ∀ xs, SqT K H a xs → xs[i]? = some x, fun i H => ∃ xs, SqT K H a xs ∧ xs.length ≤ i⟩
/-- lo, lo + 1, .. (n of them) -/
noncomputable def Itr (lo : Int) (n : Nat) : It := ⟨fun i _ => i < n, fun i H x H' => H' = H ∧ x = .int (lo + i), fun i _ => n ≤ i⟩
theorem turn_list {P : Program} {w : World} {K : PySem.W.Frag} {tg : Expr} (a it : Addr) : Turn P w K tg (Itl K a) [it] it (fun i h => h.IsListIter it a i) where
  mem := by simp
  obj := fun i h st b hb => by
    have e : b = it := by simpa using hb
    subst e
    obtain ⟨o, e, c, d⟩ := st
    exact ⟨o, e, fun v z => by rw [d] at z; cases z⟩
  keep := fun i h h' st k => st.at fun o e => k it (by simp) o e
  item := by
    intro X hP hw hK hc i pins s σ H E I hf st hg
    subst hP hw hK
    obtain ⟨xs, x, hq, hx⟩ := hg
    obtain ⟨its, rv, p, hz⟩ := I.list hq
    obtain ⟨u, hu, ru⟩ := rv.get hx
    obtain ⟨f0, f1, f2, f3, f4, f5⟩ := hf it (by simp)
    refine wpAny_pyNext_list_item st p.isList (x := u) (by simpa using hu) fun h' st' sb => ?_
    have I1 : Inv X pins σ H { s with heap := h' } := I.turned (t' := s.toks) (fun b o hb e => (sb.2 b hb).trans e) f0 f1 f3 f4 f5
    obtain ⟨o, e, c, d⟩ := id st'
    exact ⟨u, rfl, go_of (s := { s with heap := h' }) e c d (by decide) ⟨x, H, I1, ru, ⟨rfl, fun ys hy => by rw [I.list_inj hy hq]; exact hx⟩, st', fun b hb => (hf b hb).1⟩⟩
  done := by
    intro X hP hw hK hc i pins s σ H E I hf st hg
    subst hP hw hK
    obtain ⟨xs, hq, hx⟩ := hg
    obtain ⟨its, rv, p, hz⟩ := I.list hq
    obtain ⟨f0, f1, f2, f3, f4, f5⟩ := hf it (by simp)
    have hl := rv.length
    exact wpAny_pyNext_list_end (I.ok.hd hc) st p.isList (by simp; omega) fun h' eb => ⟨rfl, I.turned (t' := s.toks) (fun b o hb e => eb b o hb e) f0 f1 f3 f4 f5⟩
  self := fun _ _ _ _ _ st h => wpAny_pyIter_listiter st h
theorem turn_tuple {P : Program} {w : World} {K : PySem.W.Frag} {tg : Expr} (a it : Addr) : Turn P w K tg (Itt K a) [it] it (fun i h => h.IsTupleIter it a i) where
  mem := by simp
  obj := fun i h st b hb => by
    have e : b = it := by simpa using hb
    subst e
    obtain ⟨o, e, c, d⟩ := st
    exact ⟨o, e, fun v z => by rw [d] at z; cases z⟩
  keep := fun i h h' st k => st.at fun o e => k it (by simp) o e
  item := by
    intro X hP hw hK hc i pins s σ H E I hf st hg
    subst hP hw hK
    obtain ⟨xs, x, hq, hx⟩ := hg
    obtain ⟨its, rv, p, hz⟩ := I.tuple hq
    obtain ⟨u, hu, ru⟩ := rv.get hx
    obtain ⟨f0, f1, f2, f3, f4, f5⟩ := hf it (by simp)
    refine wpAny_pyNext_tuple_item st (show s.heap.IsTuple a its.toArray from p) (x := u) (by simpa using hu) fun h' st' sb => ?_
    have I1 : Inv X pins σ H { s with heap := h' } := I.turned (t' := s.toks) (fun b o hb e => (sb.2 b hb).trans e) f0 f1 f3 f4 f5
    obtain ⟨o, e, c, d⟩ := id st'
    exact ⟨u, rfl, go_of (s := { s with heap := h' }) e c d (by decide) ⟨x, H, I1, ru, ⟨rfl, fun ys hy => by rw [I.tuple_inj hy hq]; exact hx⟩, st', fun b hb => (hf b hb).1⟩⟩
  done := by
    intro X hP hw hK hc i pins s σ H E I hf st hg
    subst hP hw hK
    obtain ⟨xs, hq, hx⟩ := hg
    obtain ⟨its, rv, p, hz⟩ := I.tuple hq
    obtain ⟨f0, f1, f2, f3, f4, f5⟩ := hf it (by simp)
    have hl := rv.length
    exact wpAny_pyNext_tuple_end (I.ok.hd hc) st (show s.heap.IsTuple a its.toArray from p) (by simp; omega) fun h' eb => ⟨rfl, I.turned (t' := s.toks) (fun b o hb e => eb b o hb e) f0 f1 f3 f4 f5⟩
  self := fun _ _ _ _ _ st h => wpAny_pyIter_tupleiter st h
theorem turn_range {P : Program} {w : World} {K : PySem.W.Frag} {tg : Expr} (it : Addr) (lo : Int) (n : Nat) : Turn P w K tg (Itr lo n) [it] it (fun i h => IsRangeIter h it (lo + (i : Nat) * 1) ((n : Int) - (i : Nat)) 1) where
  mem := by simp
  obj := fun i h st b hb => by
    have e : b = it := by simpa using hb
    subst e
    exact ⟨_, st, fun v z => by
      have z' : Data.fields _ = Data.cell v := z
      cases z'⟩
  keep := fun i h h' st k => k it (by simp) _ st
  item := by
    intro X hP hw hK hc i pins s σ H E I hf st hg
    subst hP hw hK
    obtain ⟨f0, f1, f2, f3, f4, f5⟩ := hf it (by simp)
    have W := Walks.range (prog := X.prog) (w := X.w) (I.ok.hd hc) it lo 1 n
    refine W.item i s _ _ hg st fun v h' tk hv st' kk => ?_
    obtain ⟨t, rfl⟩ := hv
    have I1 : Inv X pins σ H { s with heap := h', toks := tk } := I.turned (fun b o hb e => kk b o (by simpa using hb) e) f0 f1 f3 f4 f5
    refine ⟨_, rfl, go_of (s := { s with heap := h', toks := tk }) (n := "range_iterator") st' rfl rfl (by decide) ⟨.int (lo + i), H, I1, ⟨t, ?_⟩, ⟨rfl, rfl⟩, st', fun b hb => (hf b hb).1⟩⟩
    rw [Int.mul_one]
  done := by
    intro X hP hw hK hc i pins s σ H E I hf st hg
    subst hP hw hK
    obtain ⟨f0, f1, f2, f3, f4, f5⟩ := hf it (by simp)
    exact wpAny_pyNext_range_end (I.ok.hd hc) st (by have : n ≤ i := hg; omega) fun h' eb => ⟨rfl, I.turned (t' := s.toks) (fun b o hb e => eb b o hb e) f0 f1 f3 f4 f5⟩
  self := fun _ _ _ _ _ st h => wpAny_pyIter_rangeiter st h
end L2

namespace L2
open PySem PySem.Spec PyProof.Rows
section
variable {X : Cx} {tg : Expr}
noncomputable def iList (K : PySem.W.Frag) (tl : TE) : TI := fun σ H R => tl σ H fun x H1 => ∃ a, x = .ref a ∧ (∃ xs, SqL K H1 a xs) ∧ R (Itl K a) H1
noncomputable def iTup (K : PySem.W.Frag) (tl : TE) : TI := fun σ H R => tl σ H fun x H1 => ∃ a, x = .ref a ∧ (∃ xs, SqT K H1 a xs) ∧ R (Itt K a) H1
theorem pi_list {l : Expr} {tl : TE} (hl : PE X l tl) : PI X tg l (iList X.K tl) := by
  intro pins s σ H R I h
  refine thn (hl pins s σ H _ I h) fun v s1 ⟨x, H1, I1, r1, q1⟩ => ?_
  obtain ⟨a, e, ⟨xs, hq⟩, q⟩ := q1
  subst e
  cases r1
  obtain ⟨its, rv, p, hz⟩ := I1.list hq
  refine wpAny_pyIter_list p.isList ?_
  refine ⟨s1.heap.objs.size, [s1.heap.objs.size], _, _, H1, rfl, I1.kept (t' := s1.toks) fun b o e => Heap.get?_push_of_some _ e, turn_list a _, ⟨_, Heap.get?_push_size _ rfl, rfl, rfl⟩, fun b hb => ?_, q⟩
  have e : b = s1.heap.objs.size := by simpa using hb
  subst e
  exact I1.fpOk (Nat.le_refl _) (I1.hok.fresh (Nat.le_refl _))
theorem pi_tup {l : Expr} {tl : TE} (hl : PE X l tl) : PI X tg l (iTup X.K tl) := by
  intro pins s σ H R I h
  refine thn (hl pins s σ H _ I h) fun v s1 ⟨x, H1, I1, r1, q1⟩ => ?_
  obtain ⟨a, e, ⟨xs, hq⟩, q⟩ := q1
  subst e
  cases r1
  obtain ⟨its, rv, p, hz⟩ := I1.tuple hq
  refine wpAny_pyIter_tuple (show s1.heap.IsTuple a its.toArray from p) ?_
  refine ⟨s1.heap.objs.size, [s1.heap.objs.size], _, _, H1, rfl, I1.kept (t' := s1.toks) fun b o e => Heap.get?_push_of_some _ e, turn_tuple a _, ⟨_, Heap.get?_push_size _ rfl, rfl, rfl⟩, fun b hb => ?_, q⟩
  have e : b = s1.heap.objs.size := by simpa using hb
  subst e
  exact I1.fpOk (Nat.le_refl _) (I1.hok.fresh (Nat.le_refl _))
/-- a range object just made, walked -/
theorem range_it {pins : List (Addr × Obj)} {σ : St} {H : Hp} {s : Shared} {R : It → Hp → Prop} {E : Value → Shared → Prop} {lo hi : Int} {t u v : Tok} {tk : Nat} (I : Inv X pins σ H s) (h1 : -(2 ^ 62) ≤ lo) (h2 : lo < 2 ^ 62) (h3 : -(2 ^ 62) ≤ hi) (h4 : hi < 2 ^ 62)
    (q : R (Itr lo (hi - lo).toNat) H) : wpAny (model X.prog X.w) X.A (pyIter (.ref s.heap.objs.size)) (PIE X pins σ tg R) E { s with heap := s.heap.push { cls := .type "range", data := .fields #[.int lo t, .int hi u, .int 1 v] }, toks := tk } := by
  refine wpAny_pyIter_range (IsRange.new ..) (small_one h1 h2 h3 h4) ?_
  have I1 : Inv X pins σ H { s with heap := s.heap.push { cls := .type "range", data := .fields #[.int lo t, .int hi u, .int 1 v] }, toks := tk } := I.kept fun b o e => Heap.get?_push_of_some _ e
  refine ⟨(s.heap.push { cls := .type "range", data := .fields #[.int lo t, .int hi u, .int 1 v] }).objs.size, [(s.heap.push { cls := .type "range", data := .fields #[.int lo t, .int hi u, .int 1 v] }).objs.size], _, _, H, rfl,
    I1.kept (t' := tk) fun b o e => Heap.get?_push_of_some _ e, turn_range _ lo (hi - lo).toNat, ?_, fun b hb => ?_, q⟩
  · have e1 : lo + ((0 : Nat) : Int) * 1 = lo := by simp
    have e2 : (((hi - lo).toNat : Nat) : Int) - ((0 : Nat) : Int) = Builtin.Range.rangeSize lo hi 1 := by rw [rangeSize_one]; split <;> omega
    show IsRangeIter _ _ (lo + ((0 : Nat) : Int) * 1) ((((hi - lo).toNat : Nat) : Int) - ((0 : Nat) : Int)) 1
    rw [e1, e2]
    exact Heap.get?_push_size _ rfl
  · have e : b = (s.heap.push { cls := .type "range", data := .fields #[.int lo t, .int hi u, .int 1 v] }).objs.size := by simpa using hb
    subst e
    exact I1.fpOk (Nat.le_refl _) (I1.hok.fresh (Nat.le_refl _))
noncomputable def iRng1 (ta : TA) : TI := fun σ H R => ta σ H fun vs H1 => ∃ j : Int, vs = [.int j] ∧ -(2 ^ 62) ≤ j ∧ j < 2 ^ 62 ∧ R (Itr 0 j.toNat) H1
noncomputable def iRng2 (ta : TA) : TI := fun σ H R => ta σ H fun vs H1 => ∃ i j : Int, vs = [.int i, .int j] ∧ (-(2 ^ 62) ≤ i ∧ i < 2 ^ 62 ∧ -(2 ^ 62) ≤ j ∧ j < 2 ^ 62) ∧ R (Itr i (j - i).toNat) H1
theorem pi_range1 {a : Expr} {ta : TA} {p pos : Pos} (hg : Gl X "range") (hm : X.mg "range" = none) (ha : PA X [a] ta) (hs : starEach [a] X.env = [(false, eval a X.env)] := by rfl) : PI X tg (.Call (.Name "range" p) [a] [] pos) (iRng1 ta) := by
  intro pins s σ H R I h
  refine Call_ (ld_blt I hg hm boot_range (PyProof.Rows.callWith_type1 (thn (ha pos pins s σ H _ I h) fun us s1 ⟨vs, H1, I1, r1, q1⟩ => ?_) hs rfl))
  obtain ⟨j, e, q1, q2, q⟩ := q1
  subst e
  cases r1 with
  | cons r rr =>
    cases rr
    obtain ⟨t, rfl⟩ := r
    exact call_range_1 (range_it I1 (by omega) (by omega) q1 q2 (by simpa using q))
theorem pi_range2 {a b : Expr} {ta : TA} {p pos : Pos} (hg : Gl X "range") (hm : X.mg "range" = none) (ha : PA X [a, b] ta) (hs : starEach [a, b] X.env = [(false, eval a X.env), (false, eval b X.env)] := by rfl) (hs2 : starEach [b] X.env = [(false, eval b X.env)] := by rfl) :
    PI X tg (.Call (.Name "range" p) [a, b] [] pos) (iRng2 ta) := by
  intro pins s σ H R I h
  refine Call_ (ld_blt I hg hm boot_range (PyProof.Rows.callWith_type1 (thn (ha pos pins s σ H _ I h) fun us s1 ⟨vs, H1, I1, r1, q1⟩ => ?_) (by rw [hs, hs2]) (by rw [hs2]; rfl)))
  obtain ⟨i, j, e, ⟨q1, q2, q3, q4⟩, q⟩ := q1
  subst e
  cases r1 with
  | cons r rr =>
    cases rr with
    | cons r' rr =>
      cases rr
      obtain ⟨t, rfl⟩ := r
      obtain ⟨t', rfl⟩ := r'
      exact call_range_2 (range_it I1 q1 q2 q3 q4 q)

/-! ### for -/
/-- W: the invariant by the turn and a measure; N: what the body is to reach -/
noncomputable def tFor (wi : TI) (g : TG) (tb : TS) : TS := fun D σ H => wi σ H fun J H1 => ∃ W : Nat → Nat → St → Hp → Prop, (∃ m, W 0 m σ H1) ∧ ∀ i m σ H, W i m σ H →
  (J.stop i H ∧ D.nx σ H) ∨ (J.go i H ∧ ∃ N : St → Hp → Prop, (∀ σ' H', N σ' H' → ∃ m', m' < m ∧ W (i + 1) m' σ' H') ∧ ∀ x H', J.yld i H x H' → g x σ H' fun σ2 H2 => tb { D with nx := N, ct := N, bk := D.nx } σ2 H2)
/-- the records at fp as they stand -/
noncomputable def pinsAt (fp : List Addr) (h : Heap) : List (Addr × Obj) := fp.filterMap fun b => (h.get? b).map fun o => (b, o)
theorem mem_pinsAt {fp : List Addr} {h : Heap} {b : Addr} {o : Obj} (hb : b ∈ fp) (e : h.get? b = some o) : (b, o) ∈ pinsAt fp h := List.mem_filterMap.mpr ⟨b, hb, by rw [e]; rfl⟩
theorem of_pinsAt {fp : List Addr} {h : Heap} {p : Addr × Obj} (hp : p ∈ pinsAt fp h) : p.1 ∈ fp ∧ h.get? p.1 = some p.2 := by
  obtain ⟨b, hb, e⟩ := List.mem_filterMap.mp hp
  cases q : h.get? b with
  | none => rw [q] at e; cases e
  | some o =>
    rw [q] at e
    have e' : (b, o) = p := Option.some.inj e
    subst e'
    exact ⟨hb, q⟩
theorem Inv.pinned {pins : List (Addr × Obj)} {σ : St} {H : Hp} {s : Shared} {fp : List Addr} (I : Inv X pins σ H s) (hf : ∀ b ∈ fp, FpOk X pins H b) (ho : ∀ b ∈ fp, ∃ o, s.heap.get? b = some o ∧ ∀ v, o.data ≠ .cell v) : Inv X (pins ++ pinsAt fp s.heap) σ H s :=
  I.pins_of fun p hp => (List.mem_append.mp hp).elim (fun z => I.pin p (List.mem_append_right _ z)) fun z => by
    obtain ⟨hb, e⟩ := of_pinsAt z
    obtain ⟨f0, f1, f2, _⟩ := hf p.1 hb
    obtain ⟨o, e', d⟩ := ho p.1 hb
    rw [e] at e'; cases e'
    exact ⟨e, f0, f1, f2, d⟩
theorem Inv.unpinned {pins pl : List (Addr × Obj)} {σ : St} {H : Hp} {s : Shared} (I : Inv X (pins ++ pl) σ H s) : Inv X pins σ H s := I.pins_of fun p hp => I.pin p (List.mem_append_right _ (List.mem_append_left _ hp))
theorem ps_for {iter : Expr} {body : List Stmt} {wi : TI} {g : TG} {tb : TS} {pos : Pos} (hp : PassesOwn (model X.prog X.w) X.A X.env X.xe) (hc : X.calm = true) (hi : PI X tg iter wi) (hg : PG X tg g) (hb : PSs X body tb)
    (hs : ∀ x, foldedSetIterable iter X.env x = pure x := by intro _; rfl) : PS X (.For tg iter body [] pos) (tFor wi g tb) := by
  intro pins s σ H D I h
  refine wpAny_For (thn (hi pins s σ H _ I h) fun v s1 h1 => thn h1 fun itv s2 h2 => ?_) hs
  obtain ⟨it, fp, tn, J, H2, e, I2, T, st2, f2, W, ⟨m0, w0⟩, turn⟩ := h2
  subst e
  -- what stays true of the iterator's objects through the loop
  have stat : ∀ {H' : Hp}, (∀ b ∈ fp, H' b = none) → ∀ b ∈ fp, FpOk X pins H' b := fun hn b hb => ⟨hn b hb, (f2 b hb).2⟩
  refine codeAny_forLoop_any (fun n s' => ∃ i σ' H', Inv X pins σ' H' s' ∧ tn i s'.heap ∧ (∀ b ∈ fp, H' b = none) ∧ W i n σ' H') ?_ m0 ⟨0, σ, H2, I2, st2, fun b hb => (f2 b hb).1, w0⟩
  rintro n s3 ⟨i, σ3, H3, I3, st3, fr3, w3⟩
  rcases turn i n σ3 H3 w3 with ⟨stop, qn⟩ | ⟨go, N, hN, step⟩
  · refine wpAny_passesOwn hp (thn (T.done X rfl rfl rfl hc i pins s3 σ3 H3 X.xe I3 (stat fr3) st3 stop) fun r s4 ⟨hr, I4⟩ => ?_)
    subst hr
    exact wpAny_execs_nil ⟨σ3, H3, I4, qn⟩
  · refine wpAny_passesOwn hp (thn (T.item X rfl rfl rfl hc i pins s3 σ3 H3 X.xe I3 (stat fr3) st3 go) fun r s4 ⟨u, hr, h4⟩ => ?_)
    subst hr
    refine wpAny_passesOwn hp (thn h4 fun _ s5 ⟨x, H5, I5, r5, y5, st5, fr5⟩ => ?_)
    have I5' := I5.pinned (stat fr5) (T.obj _ _ st5)
    refine wpAny_passesOwn hp (thn (hg _ s5 σ3 H5 x u _ I5' r5 (step x H5 y5)) fun _ s6 ⟨σ6, H6, I6, q6⟩ => ?_)
    refine wpAny_passesOwn hp (thn (hb _ s6 σ6 H6 _ I6 q6) fun f s7 q7 => ?_)
    have again : ∀ {σ7 : St} {H7 : Hp}, Inv X (pins ++ pinsAt fp s5.heap) σ7 H7 s7 → N σ7 H7 → ∃ m, m < n ∧ ∃ i σ' H', Inv X pins σ' H' s7 ∧ tn i s7.heap ∧ (∀ b ∈ fp, H' b = none) ∧ W i m σ' H' := fun {σ7 H7} I7 n7 => by
      obtain ⟨m', hm, w7⟩ := hN σ7 H7 n7
      refine ⟨m', hm, i + 1, σ7, H7, I7.unpinned, T.keep _ _ _ st5 fun b hb o e => (I7.pin (b, o) (List.mem_append_right _ (List.mem_append_right _ (mem_pinsAt hb e)))).1, fun b hb => ?_, w7⟩
      obtain ⟨o, e, d⟩ := T.obj _ _ st5 b hb
      exact (I7.pin (b, o) (List.mem_append_right _ (List.mem_append_right _ (mem_pinsAt hb e)))).2.1
    cases f with
    | next => obtain ⟨σ7, H7, I7, n7⟩ := q7; exact again I7 n7
    | cont => obtain ⟨σ7, H7, I7, n7⟩ := q7; exact again I7 n7
    | brk => obtain ⟨σ7, H7, I7, q7⟩ := q7; exact ⟨σ7, H7, I7.unpinned, q7⟩
    | ret v => obtain ⟨x7, σ7, H7, I7, r7, q7⟩ := q7; exact ⟨x7, σ7, H7, I7.unpinned, r7, q7⟩
end

/-! ### the forms one uses -/
/-- over a list that the body leaves as it is -/
theorem for_list {K : PySem.W.Frag} {a : Addr} {xs : List V} {g : TG} {tb : TS} {D : Ends} {σ : St} {H : Hp} (Pv : Nat → St → Hp → Prop) (h0 : Pv 0 σ H) (hl : ∀ i σ H, i ≤ xs.length → Pv i σ H → SqL K H a xs)
    (hs : ∀ i x σ H, xs[i]? = some x → Pv i σ H → g x σ H fun σ2 H2 => tb { D with nx := Pv (i + 1), ct := Pv (i + 1), bk := D.nx } σ2 H2) (hd : ∀ σ H, Pv xs.length σ H → D.nx σ H) :
    ∃ W : Nat → Nat → St → Hp → Prop, (∃ m, W 0 m σ H) ∧ ∀ i m σ H, W i m σ H →
      ((Itl K a).stop i H ∧ D.nx σ H) ∨ ((Itl K a).go i H ∧ ∃ N : St → Hp → Prop, (∀ σ' H', N σ' H' → ∃ m', m' < m ∧ W (i + 1) m' σ' H') ∧ ∀ x H', (Itl K a).yld i H x H' → g x σ H' fun σ2 H2 => tb { D with nx := N, ct := N, bk := D.nx } σ2 H2) := by
  refine ⟨fun i m σ H => m = xs.length - i ∧ i ≤ xs.length ∧ Pv i σ H, ⟨xs.length, by simp, Nat.zero_le _, h0⟩, ?_⟩
  rintro i m σ H ⟨rfl, hi, p⟩
  have q := hl i σ H hi p
  by_cases hlt : i < xs.length
  · refine .inr ⟨⟨xs, xs[i], q, by simp [hlt]⟩, Pv (i + 1), fun σ' H' p' => ⟨xs.length - (i + 1), by omega, rfl, hlt, p'⟩, fun x H' y => ?_⟩
    obtain ⟨e, y⟩ := y
    subst e
    exact hs i x σ _ (y xs q) p
  · have e : i = xs.length := by omega
    subst e
    exact .inl ⟨⟨xs, q, Nat.le_refl _⟩, hd σ H p⟩
theorem for_range {lo : Int} {n : Nat} {g : TG} {tb : TS} {D : Ends} {σ : St} {H : Hp} (Pv : Nat → St → Hp → Prop) (h0 : Pv 0 σ H)
    (hs : ∀ i σ H, i < n → Pv i σ H → g (.int (lo + i)) σ H fun σ2 H2 => tb { D with nx := Pv (i + 1), ct := Pv (i + 1), bk := D.nx } σ2 H2) (hd : ∀ σ H, Pv n σ H → D.nx σ H) :
    ∃ W : Nat → Nat → St → Hp → Prop, (∃ m, W 0 m σ H) ∧ ∀ i m σ H, W i m σ H →
      ((Itr lo n).stop i H ∧ D.nx σ H) ∨ ((Itr lo n).go i H ∧ ∃ N : St → Hp → Prop, (∀ σ' H', N σ' H' → ∃ m', m' < m ∧ W (i + 1) m' σ' H') ∧ ∀ x H', (Itr lo n).yld i H x H' → g x σ H' fun σ2 H2 => tb { D with nx := N, ct := N, bk := D.nx } σ2 H2) := by
  refine ⟨fun i m σ H => m = n - i ∧ i ≤ n ∧ Pv i σ H, ⟨n, by simp, Nat.zero_le _, h0⟩, ?_⟩
  rintro i m σ H ⟨rfl, hi, p⟩
  by_cases hlt : i < n
  · refine .inr ⟨hlt, Pv (i + 1), fun σ' H' p' => ⟨n - (i + 1), by omega, rfl, hlt, p'⟩, fun x H' y => ?_⟩
    obtain ⟨e, y⟩ := y
    subst e y
    exact hs i σ _ hlt p
  · have e : i = n := by omega
    subst e
    exact .inl ⟨Nat.le_refl _, hd σ H p⟩
end L2

namespace L2
open PySem PySem.Spec PyProof.Rows

noncomputable abbrev R2 := V → V → Hp → VK → Prop
/-- a two-place operation on values: f is binaryOp op, inplaceOp op or compareOp op -/
noncomputable def OpR (X : Cx) (f : Value → Value → Sem Value) (r : R2) : Prop :=
  ∀ (pins : List (Addr × Obj)) (s : Shared) (σ : St) (H : Hp) (x y : V) (v u : Value) (Q : VK), Inv X pins σ H s → RelV x v → RelV y u → r x y H Q →
    wpAny (model X.prog X.w) X.A (f v u) (EP X pins σ Q) X.xe s
/-- a call of a value that is known (a builtin, a type) with values -/
noncomputable def CallR (X : Cx) (f : Value) (r : List V → Hp → VK → Prop) : Prop :=
  ∀ (pins : List (Addr × Obj)) (s : Shared) (σ : St) (H : Hp) (xs : List V) (us : List Value) (Q : VK), Inv X pins σ H s → Vals xs us → r xs H Q →
    wpAny (model X.prog X.w) X.A (call f us) (EP X pins σ Q) X.xe s

noncomputable def tOp (r : R2) (ta tb : TE) : TE := fun σ H Q => ta σ H fun x H1 => tb σ H1 fun y H2 => r x y H2 Q
/-- ints in, under C, and a value out -/
noncomputable def rI (C : Int → Int → Prop) (g : Int → Int → V) : R2 := fun x y H Q => ∃ i j, x = .int i ∧ y = .int j ∧ C i j ∧ Q (g i j) H
noncomputable def rI0 (g : Int → Int → V) : R2 := fun x y H Q => ∃ i j, x = .int i ∧ y = .int j ∧ Q (g i j) H

section
variable {X : Cx} {a b c : Expr} {ta tb tc : TE} {pos : Pos}

theorem binT (ha : PE X a ta) (hb : PE X b tb) {pins : List (Addr × Obj)} {s : Shared} {σ : St} {H : Hp} {R : V → V → Hp → Prop} (I : Inv X pins σ H s)
    (h : ta σ H fun x H1 => tb σ H1 fun y H2 => R x y H2) {Q : Value → Shared → Prop} {f : Value → Value → Sem Value}
    (hf : ∀ v u s2 x y H2, Inv X pins σ H2 s2 → RelV x v → RelV y u → R x y H2 → wpAny (model X.prog X.w) X.A (f v u) Q X.xe s2) :
    wpAny (model X.prog X.w) X.A (eval a X.env) (fun v s₁ => wpAny (model X.prog X.w) X.A (eval b X.env) (fun u s₂ => wpAny (model X.prog X.w) X.A (f v u) Q X.xe s₂) X.xe s₁) X.xe s := by
  refine thn (ha pins s σ H _ I h) fun v s1 ⟨x, H1, I1, r1, q1⟩ => ?_
  refine thn (hb pins s1 σ H1 _ I1 q1) fun u s2 ⟨y, H2, I2, r2, q2⟩ => ?_
  exact hf v u s2 x y H2 I2 r1 r2 q2

theorem pe_op {op : Operator} {r : R2} (ho : OpR X (binaryOp op) r) (ha : PE X a ta) (hb : PE X b tb) : PE X (.BinOp a op b pos) (tOp r ta tb) := by
  intro pins s σ H Q I h
  exact wpAny_BinOp (binT ha hb I h fun v u s2 x y H2 I2 rx ry q => ho pins s2 σ H2 x y v u Q I2 rx ry q)

/-! ### ints -/
theorem opI {f : Value → Value → Sem Value} {C : Int → Int → Prop} {g : Int → Int → Int}
    (rule : ∀ (i j : Int) (t u : Tok) (s : Shared) (Q : Value → Shared → Prop) (E : Value → Shared → Prop), C i j → Q (.int (g i j) s.toks) { s with toks := s.toks + 1 } → wpAny (model X.prog X.w) X.A (f (.int i t) (.int j u)) Q E s) :
    OpR X f (rI C fun i j => .int (g i j)) := by
  intro pins s σ H x y v u Q I rx ry h
  obtain ⟨i, j, rfl, rfl, hc, q⟩ := h
  obtain ⟨t, rfl⟩ := rx
  obtain ⟨t', rfl⟩ := ry
  exact rule i j t t' s _ _ hc ⟨.int (g i j), H, I.tok _, ⟨_, rfl⟩, q⟩
theorem opI0 {f : Value → Value → Sem Value} {g : Int → Int → Int}
    (rule : ∀ (i j : Int) (t u : Tok) (s : Shared) (Q : Value → Shared → Prop) (E : Value → Shared → Prop), Q (.int (g i j) s.toks) { s with toks := s.toks + 1 } → wpAny (model X.prog X.w) X.A (f (.int i t) (.int j u)) Q E s) :
    OpR X f (rI0 fun i j => .int (g i j)) := by
  intro pins s σ H x y v u Q I rx ry h
  obtain ⟨i, j, rfl, rfl, q⟩ := h
  obtain ⟨t, rfl⟩ := rx
  obtain ⟨t', rfl⟩ := ry
  exact rule i j t t' s _ _ ⟨.int (g i j), H, I.tok _, ⟨_, rfl⟩, q⟩
theorem opB0 {f : Value → Value → Sem Value} {g : Int → Int → Bool}
    (rule : ∀ (i j : Int) (t u : Tok) (s : Shared) (Q : Value → Shared → Prop) (E : Value → Shared → Prop), Q (.bool (g i j)) s → wpAny (model X.prog X.w) X.A (f (.int i t) (.int j u)) Q E s) :
    OpR X f (rI0 fun i j => .bl (g i j)) := by
  intro pins s σ H x y v u Q I rx ry h
  obtain ⟨i, j, rfl, rfl, q⟩ := h
  obtain ⟨t, rfl⟩ := rx
  obtain ⟨t', rfl⟩ := ry
  exact rule i j t t' s _ _ ⟨.bl (g i j), H, I, rfl, q⟩

noncomputable def CDiv (i j : Int) : Prop := 0 < j ∧ j < 1073741824
noncomputable def CMul (i j : Int) : Prop := (-(2 ^ 64) < i ∧ i < 2 ^ 64) ∨ (-(2 ^ 64) < j ∧ j < 2 ^ 64)
theorem CMul.ok {i j : Int} (h : CMul i j) : IntMulOk i j := by
  rcases h with ⟨h1, h2⟩ | ⟨h1, h2⟩
  · exact .of_left (intBits_le_64 h1 h2)
  · exact .of_right (intBits_le_64 h1 h2)

theorem op_add : OpR X (binaryOp .Add) (rI0 fun i j => .int (i + j)) := opI0 fun _ _ _ _ _ _ _ q => add_int q
theorem op_sub : OpR X (binaryOp .Sub) (rI0 fun i j => .int (i - j)) := opI0 fun _ _ _ _ _ _ _ q => sub_int q
theorem op_mul : OpR X (binaryOp .Mult) (rI CMul fun i j => .int (i * j)) := opI fun _ _ _ _ _ _ _ hc q => mul_int q hc.ok
/-- // by a positive divisor -/
theorem op_fdiv : OpR X (binaryOp .FloorDiv) (rI CDiv fun i j => .int (i / j)) := opI fun i j _ _ _ _ _ hc q => by
  have h1 : (0 : Int) < j := hc.1
  have h2 : j < 1073741824 := hc.2
  exact floordiv_int (by omega) (by rw [Int.fdiv_eq_ediv_of_nonneg i (by omega)]; exact q) (.inl (PyProof.noPylong_small (by omega)))
/-- % by a positive divisor of any size -/
theorem op_mod : OpR X (binaryOp .Mod) (rI (fun _ j => 0 < j) fun i j => .int (i % j)) := opI fun i j _ _ _ _ _ hc q => by
  have h1 : (0 : Int) < j := hc
  exact mod_int' (by omega) (by rw [Int.fmod_eq_emod_of_nonneg i (by omega)]; exact q)

/-! ### bools among ints: n += (a < b) -/
end

/-! ### comparisons -/
/-- the scalars that == tells apart as data does -/
noncomputable def scal : V → V → Bool
  | .non, .non => true | .non, .int _ => true | .int _, .non => true | .non, .bl _ => true | .bl _, .non => true | .non, .str _ => true | .str _, .non => true
  | .int _, .int _ => true | .bl _, .bl _ => true | .str _, .str _ => true | .byt _, .byt _ => true
  | .int _, .str _ => true | .str _, .int _ => true | .bl _, .str _ => true | .str _, .bl _ => true
  | _, _ => false
noncomputable def rEq : R2 := fun x y H Q => scal x y = true ∧ Q (.bl (decide (x = y))) H
noncomputable def rNe : R2 := fun x y H Q => scal x y = true ∧ Q (.bl (!decide (x = y))) H

theorem dec_int {i j : Int} : decide (V.int i = V.int j) = (i == j) := by
  rw [Bool.eq_iff_iff]
  simp
theorem dec_bl {i j : Bool} : decide (V.bl i = V.bl j) = (i == j) := by
  rw [Bool.eq_iff_iff]
  simp
theorem dec_str {i j : Str} : decide (V.str i = V.str j) = (i == j) := by
  rw [Bool.eq_iff_iff]
  simp
theorem dec_byt {i j : Array UInt8} : decide (V.byt i = V.byt j) = (i.toList == j.toList) := by
  rw [Bool.eq_iff_iff]
  cases i
  cases j
  simp

section
variable {X : Cx} {a b c : Expr} {ta tb tc : TE} {pos : Pos}
theorem fin_bl {pins : List (Addr × Obj)} {σ : St} {H : Hp} {s : Shared} {Q : VK} {k k' : Bool} (I : Inv X pins σ H s) (q : Q (.bl k) H) (e : k = k') : EP X pins σ Q (.bool k') s := by
  subst e
  exact ⟨.bl k, H, I, rfl, q⟩
theorem op_eq : OpR X (compareOp .Eq) rEq := by
  intro pins s σ H x y v u Q I rx ry h
  obtain ⟨hs, q⟩ := h
  cases x with
  | non =>
    cases rx
    cases y with
    | non => cases ry; exact PySem.EqNone.eq_none_none (fin_bl I q (by simp))
    | bl j => cases ry; exact PySem.EqNone.eq_none_bool (fin_bl I q (by simp))
    | int j => obtain ⟨t', rfl⟩ := ry; exact PySem.EqNone.eq_none_int (fin_bl I q (by simp))
    | str j => obtain ⟨t', rfl⟩ := ry; exact PySem.EqNone.eq_none_str (fin_bl I q (by simp))
    | _ => exact absurd (show false = true from hs) Bool.false_ne_true
  | bl i =>
    cases rx
    cases y with
    | non => cases ry; exact PySem.EqNone.eq_bool_none (fin_bl I q (by simp))
    | bl j => cases ry; exact eq_bool (fin_bl I q dec_bl)
    | str j => obtain ⟨t', rfl⟩ := ry; exact PySem.EqMixed.eq_bool_str (fin_bl I q (by simp))
    | _ => exact absurd (show false = true from hs) Bool.false_ne_true
  | int i =>
    obtain ⟨t, rfl⟩ := rx
    cases y with
    | non => cases ry; exact PySem.EqNone.eq_int_none (fin_bl I q (by simp))
    | int j => obtain ⟨t', rfl⟩ := ry; exact eq_int (fin_bl I q dec_int)
    | str j => obtain ⟨t', rfl⟩ := ry; exact PySem.EqMixed.eq_int_str (fin_bl I q (by simp))
    | _ => exact absurd (show false = true from hs) Bool.false_ne_true
  | str i =>
    obtain ⟨t, rfl⟩ := rx
    cases y with
    | non => cases ry; exact PySem.EqNone.eq_str_none (fin_bl I q (by simp))
    | bl j => cases ry; exact PySem.EqMixed.eq_str_bool (fin_bl I q (by simp))
    | int j => obtain ⟨t', rfl⟩ := ry; exact PySem.EqMixed.eq_str_int (fin_bl I q (by simp))
    | str j => obtain ⟨t', rfl⟩ := ry; exact eq_str (fin_bl I q dec_str)
    | _ => exact absurd (show false = true from hs) Bool.false_ne_true
  | byt i =>
    obtain ⟨t, rfl⟩ := rx
    cases y with
    | byt j => obtain ⟨t', rfl⟩ := ry; exact PySem.W.eq_bytes (fin_bl I q dec_byt)
    | _ => exact absurd (show false = true from hs) Bool.false_ne_true
  | _ => cases y <;> exact absurd (show false = true from hs) Bool.false_ne_true
theorem op_ne : OpR X (compareOp .NotEq) rNe := by
  intro pins s σ H x y v u Q I rx ry h
  obtain ⟨hs, q⟩ := h
  cases x with
  | non =>
    cases rx
    cases y with
    | non => cases ry; exact PySem.EqNone.ne_none_none (fin_bl I q (by simp))
    | bl j => cases ry; exact PySem.EqNone.ne_none_bool (fin_bl I q (by simp))
    | int j => obtain ⟨t', rfl⟩ := ry; exact PySem.EqNone.ne_none_int (fin_bl I q (by simp))
    | str j => obtain ⟨t', rfl⟩ := ry; exact PySem.EqNone.ne_none_str (fin_bl I q (by simp))
    | _ => exact absurd (show false = true from hs) Bool.false_ne_true
  | bl i =>
    cases rx
    cases y with
    | non => cases ry; exact PySem.EqNone.ne_bool_none (fin_bl I q (by simp))
    | bl j => cases ry; exact ne_bool (fin_bl I q (congrArg not dec_bl))
    | str j => obtain ⟨t', rfl⟩ := ry; exact PySem.EqMixed.ne_bool_str (fin_bl I q (by simp))
    | _ => exact absurd (show false = true from hs) Bool.false_ne_true
  | int i =>
    obtain ⟨t, rfl⟩ := rx
    cases y with
    | non => cases ry; exact PySem.EqNone.ne_int_none (fin_bl I q (by simp))
    | int j => obtain ⟨t', rfl⟩ := ry; exact ne_int (fin_bl I q (congrArg not dec_int))
    | str j => obtain ⟨t', rfl⟩ := ry; exact PySem.EqMixed.ne_int_str (fin_bl I q (by simp))
    | _ => exact absurd (show false = true from hs) Bool.false_ne_true
  | str i =>
    obtain ⟨t, rfl⟩ := rx
    cases y with
    | non => cases ry; exact PySem.EqNone.ne_str_none (fin_bl I q (by simp))
    | bl j => cases ry; exact PySem.EqMixed.ne_str_bool (fin_bl I q (by simp))
    | int j => obtain ⟨t', rfl⟩ := ry; exact PySem.EqMixed.ne_str_int (fin_bl I q (by simp))
    | str j => obtain ⟨t', rfl⟩ := ry; exact ne_str (fin_bl I q (congrArg not dec_str))
    | _ => exact absurd (show false = true from hs) Bool.false_ne_true
  | byt i =>
    obtain ⟨t, rfl⟩ := rx
    cases y with
    | byt j => obtain ⟨t', rfl⟩ := ry; exact PySem.W.ne_bytes (fin_bl I q (congrArg not dec_byt))
    | _ => exact absurd (show false = true from hs) Bool.false_ne_true
  | _ => cases y <;> exact absurd (show false = true from hs) Bool.false_ne_true

theorem op_lt : OpR X (compareOp .Lt) (rI0 fun i j => .bl (decide (i < j))) := opB0 fun _ _ _ _ _ _ _ q => lt_int q
theorem op_le : OpR X (compareOp .LtE) (rI0 fun i j => .bl (decide (i ≤ j))) := opB0 fun _ _ _ _ _ _ _ q => le_int q
theorem op_gt : OpR X (compareOp .Gt) (rI0 fun i j => .bl (decide (j < i))) := opB0 fun _ _ _ _ _ _ _ q => gt_int q
/-- the one string within the other -/
theorem op_in_str : OpR X (compareOp .In) (fun x y H Q => ∃ i j, x = .str i ∧ y = .str j ∧ Q (.bl (!(Builtin.Str.occurrences j i 0 j.length 1).isEmpty)) H) := by
  intro pins s σ H x y v u Q I rx ry h
  obtain ⟨i, j, rfl, rfl, q⟩ := h
  obtain ⟨t, rfl⟩ := rx
  obtain ⟨t', rfl⟩ := ry
  exact in_str (fin_bl I q rfl)

theorem nomark (b : Expr) {op : CmpOp} (h : op ≠ .In := by decide) (h2 : op ≠ .NotIn := by decide) : behindInMarks op b = false := by
  have e1 : (op == CmpOp.In) = false := by cases op <;> first | rfl | exact absurd rfl h
  have e2 : (op == CmpOp.NotIn) = false := by cases op <;> first | rfl | exact absurd rfl h2
  cases b <;> simp [behindInMarks, e1, e2]
/-- a comparison as a value; hm: nomark b, or (for in, not in) by with_unfolding_all rfl -/
theorem pe_cmpR {op : CmpOp} {r : R2} (ho : OpR X (compareOp op) r) (ha : PE X a ta) (hb : PE X b tb) (hm : behindInMarks op b = false) : PE X (.Compare a [op] [b] pos) (tOp r ta tb) := by
  intro pins s σ H Q I h
  exact wpAny_Compare1 (binT ha hb I h fun v u s2 x y H2 I2 rx ry q => ho pins s2 σ H2 x y v u Q I2 rx ry q) hm
/-- a reading of a value as a test -/
noncomputable def tTest (t : TE) : TT := fun σ H Q => t σ H fun x H' => ∃ k, x = .bl k ∧ Q k H'
theorem pt_cmpR {op : CmpOp} {r : R2} (ho : OpR X (compareOp op) r) (ha : PE X a ta) (hb : PE X b tb) (hm : behindInMarks op b = false) : PT X (.Compare a [op] [b] pos) (tTest (tOp r ta tb)) := by
  intro pins s σ H Q I h
  refine wpAny_isTrue_Compare1 (thn (ha pins s σ H _ I h) fun v s1 ⟨x, H1, I1, r1, q1⟩ => thn (hb pins s1 σ H1 _ I1 q1) fun u s2 ⟨y, H2, I2, r2, q2⟩ =>
    thn (ho pins s2 σ H2 x y v u _ I2 r1 r2 q2) fun c s3 ⟨z, H3, I3, r3, k, e, q3⟩ => ?_) hm
  subst e
  cases r3
  exact wpAny_truthy_bool ⟨H3, I3, q3⟩
/-- a op1 b op2 c -/
noncomputable def tChain (r r' : R2) (ta tb tc : TE) : TE := fun σ H Q => ta σ H fun x H1 => tb σ H1 fun y H2 => r x y H2 fun z H3 => ∃ k, z = .bl k ∧
  (if k = true then tc σ H3 fun w' H4 => r' y w' H4 Q else Q (.bl false) H3)
theorem pe_chain {op op' : CmpOp} {r r' : R2} (ho : OpR X (compareOp op) r) (ho' : OpR X (compareOp op') r') (ha : PE X a ta) (hb : PE X b tb) (hc : PE X c tc)
    (hm : lastMarks [op, op'] [b, c] = false := by with_unfolding_all rfl) : PE X (.Compare a [op, op'] [b, c] pos) (tChain r r' ta tb tc) := by
  intro pins s σ H Q I h
  refine Compare_chain (thn (ha pins s σ H _ I h) fun v s1 ⟨x, H1, I1, r1, q1⟩ => chain_link (thn (hb pins s1 σ H1 _ I1 q1) fun u s2 ⟨y, H2, I2, r2, q2⟩ =>
    thn (ho pins s2 σ H2 x y v u _ I2 r1 r2 q2) fun d s3 ⟨z, H3, I3, r3, k, e, q3⟩ => ?_)) hm
  subst e
  cases r3
  refine wpAny_truthy_bool ?_
  cases k with
  | false => exact ite_ff ⟨.bl false, H3, I3, rfl, q3⟩
  | true => exact ite_tt (chain_last (thn (hc pins s3 σ H3 _ I3 q3) fun w' s4 ⟨z', H4, I4, r4, q4⟩ => ho' pins s4 σ H4 y z' u w' Q I4 r2 r4 q4))
theorem pt_chain {op op' : CmpOp} {r r' : R2} (ho : OpR X (compareOp op) r) (ho' : OpR X (compareOp op') r') (ha : PE X a ta) (hb : PE X b tb) (hc : PE X c tc)
    (hm : lastMarks [op, op'] [b, c] = false := by with_unfolding_all rfl) : PT X (.Compare a [op, op'] [b, c] pos) (tTest (tChain r r' ta tb tc)) := by
  intro pins s σ H Q I h
  refine isTrue_chain (thn (ha pins s σ H _ I h) fun v s1 ⟨x, H1, I1, r1, q1⟩ => test_link (thn (hb pins s1 σ H1 _ I1 q1) fun u s2 ⟨y, H2, I2, r2, q2⟩ =>
    thn (ho pins s2 σ H2 x y v u _ I2 r1 r2 q2) fun d s3 ⟨z, H3, I3, r3, k, e, q3⟩ => ?_)) hm
  subst e
  cases r3
  refine wpAny_truthy_bool ?_
  cases k with
  | false =>
    obtain ⟨k', e', q'⟩ := q3
    cases e'
    exact ite_ff ⟨H3, I3, q'⟩
  | true =>
    refine ite_tt (test_last (thn (hc pins s3 σ H3 _ I3 q3) fun w' s4 ⟨z', H4, I4, r4, q4⟩ => thn (ho' pins s4 σ H4 y z' u w' _ I4 r2 r4 q4) fun d' s5 ⟨z2, H5, I5, r5, k2, e2, q5⟩ => ?_))
    subst e2
    cases r5
    exact wpAny_truthy_bool ⟨H5, I5, q5⟩

/-! ### truth -/
theorem line63 : (sizeLine : Nat) < 2 ^ 63 := by rw [sizeLine_eq]; decide

/-! ### strs and bytes -/

/-! ### scalar builtins, by CallR -/
theorem vals1 {x : V} {us : List Value} (r : Vals [x] us) : ∃ u, us = [u] ∧ RelV x u := by
  cases r with
  | cons r1 r2 => cases r2; exact ⟨_, rfl, r1⟩
theorem vals2 {x y : V} {us : List Value} (r : Vals [x, y] us) : ∃ u w', us = [u, w'] ∧ RelV x u ∧ RelV y w' := by
  cases r with
  | cons r1 r2 =>
    cases r2 with
    | cons r3 r4 => cases r4; exact ⟨_, _, rfl, r1, r3⟩
end
end L2

namespace L2
open PySem PySem.Spec PyProof.Rows

/-! ### an instance, its attributes a map -/
structure ObjM (h : Heap) (x dx C : Addr) (mA : Str → Option Value) : Prop where
  obj : h.get? x = some (PySem.W.instObj C dx)
  ns : h.Ns1 dx mA
  ne : dx ≠ x

theorem lookIn_ns {h : Heap} {dx : Addr} {mA : Str → Option Value} (n : h.Ns1 dx mA) : ∃ od, h.get? dx = some od ∧ ∀ name, PySem.W.lookIn name od = some (mA name) := by
  obtain ⟨o, es, ep, ho, hd, hk, _, hm⟩ := n
  refine ⟨o, ho, fun name => ?_⟩
  have e := hm name
  unfold nsFind findBy at e
  rw [← Array.find?_toList] at e
  unfold PySem.W.lookIn
  rw [hd]
  dsimp only
  split
  · rename_i y q
    rw [q] at e
    exact congrArg some e
  · rename_i q
    rw [q] at e
    have a : es.toList.any (·.refKey) = false := by
      rw [List.any_eq_false]
      intro y hy
      obtain ⟨z, t, hkey⟩ := hk y (Array.mem_toList_iff.mp hy)
      simp [DictEntry.refKey, hkey]
    have a' : ¬ es.toList.any (·.refKey) = true := by rw [a]; exact Bool.false_ne_true
    rw [if_neg a']
    exact congrArg some e

theorem ObjM.look {h : Heap} {x dx C : Addr} {mA : Str → Option Value} (I : ObjM h x dx C mA) : ∃ od, PySem.W.InstAt h x (PySem.W.instObj C dx) C (some od) ∧ ∀ name, PySem.W.lookIn name od = some (mA name) :=
  let ⟨od, ho, hl⟩ := lookIn_ns I.ns
  ⟨od, ⟨I.obj, rfl, rfl, ho⟩, hl⟩

section
variable {prog : Program} {w : World} {A : Around} {E : Value → Shared → Prop} {s : Shared} {K : PySem.W.Frag} {x dx C f : Addr} {mA : Str → Option Value} {name : Str} {v : Value}

end

/-! ### the attributes as a list of pairs -/

theorem RelO.some_of {v : V} {o : Option Value} (r : RelO (some v) o) : ∃ u, o = some u ∧ RelV v u := by
  cases o with
  | none => exact (show False from r).elim
  | some u => exact ⟨u, rfl, r⟩
theorem handed_of {v : V} {u : Value} (r : RelV v u) : PySem.W.handedIn u = true := by
  cases v with
  | non => cases (show u = Value.none from r); rfl
  | bl b => cases (show u = Value.bool b from r); rfl
  | int i => obtain ⟨t, e⟩ := (show ∃ t, u = Value.int i t from r); cases e; rfl
  | str x => obtain ⟨t, e⟩ := (show ∃ t, u = Value.str x t from r); cases e; rfl
  | byt b => obtain ⟨t, e⟩ := (show ∃ t, u = Value.bytes b t from r); cases e; rfl
  | flt b => obtain ⟨t, e⟩ := (show ∃ t, u = Value.float b t from r); cases e; rfl
  | ref a => cases (show u = Value.ref a from r); rfl
  | ty n => cases (show u = Value.type n from r); rfl

section
variable {P : Program} {w : World} {H H' : Hp} {h h' : Heap} {a C dx : Addr} {fs fs' : List (Str × V)}
theorem ins_get (hok : HOk P w H h) (e : H a = some (.ins C dx fs)) : ∃ mA, ObjM h a dx C mA ∧ (∀ f, RelO (fs.lookup f) (mA f)) ∧ PySem.Within mA (fs.map (·.1)) ∧ fs.length ≤ 1000 ∧ H dx = some (.own a) := by
  obtain ⟨d, z, ne, ob, mA, n, r, q⟩ := (show ObjOk P w H h a (.ins C dx fs) from hok a _ e)
  exact ⟨mA, ⟨ob, n, ne⟩, r, q, z, d⟩
end

/-! ### what of the text a class must have -/
structure Cls (K : PySem.W.Frag) (C : Addr) : Prop where
  pg : PySem.W.plainGet K C Str.empty = true
  hd : PySem.W.hasDictIn K C = true
  po : PySem.W.plainOver K C = true
  sa : PySem.W.findIn K (.ref C) "__setattr__" = some (some (.builtin "object.__setattr__"))
theorem Cls.get {K : PySem.W.Frag} {C : Addr} (c : Cls K C) (f : Str) : PySem.W.plainGet K C f = true := c.pg
/-- no class of it has the name -/
noncomputable def NoAttr (K : PySem.W.Frag) (C : Addr) (f : Str) : Prop := PySem.W.findIn K (.ref C) f = some none

section
variable {X : Cx} {pins : List (Addr × Obj)} {σ : St} {H : Hp} {s : Shared} {a C dx : Addr} {fs : List (Str × V)} {f : Str} {v : V} {A : Around} {E : Value → Shared → Prop}

/-- e.f where nothing but the object is asked: through attributeBase (super) and the last hold -/
theorem attr_of {prog : Program} {w : World} {env : Env} {e : Expr} {f : Str} {pos : Pos} {s : Shared} {Q : Value → Shared → Prop} (hb : attributeBase e f env (eval e env) = eval e env)
    (h : wpAny (model prog w) A (eval e env) (fun o s₁ => wpAny (model prog w) A (getAttr o f true) Q E s₁) E s) : wpAny (model prog w) A (eval (.Attribute e f pos) env) Q E s :=
  Attribute_any_ h (by rw [arm_eval_Attribute, hb])
end

/-! ### readings and rules -/

section
variable {X : Cx} {o e value : Expr} {f : Str} {pos pos' tpos : Pos} {ta tv : TE}

end

/-! ### isinstance -/
section
variable {X : Cx} {pins : List (Addr × Obj)} {σ : St} {H : Hp} {s : Shared} {A : Around} {E : Value → Shared → Prop} {Q : Value → Shared → Prop} {c : Value} {b : Bool}
/-- the type of a value, as the fragment's deciders take it; for an instance its class -/
inductive TyOf (K : PySem.W.Frag) (H : Hp) : V → Value → Prop where
  | non : TyOf K H .non (.type "NoneType")
  | bl (x : Bool) : TyOf K H (.bl x) (.type "bool")
  | int (i : Int) : TyOf K H (.int i) (.type "int")
  | str (x : Str) : TyOf K H (.str x) (.type "str")
  | flt (x : UInt64) : TyOf K H (.flt x) (.type "float")
  | lst {a : Addr} {xs : List V} (e : H a = some (.lst xs)) : TyOf K H (.ref a) (.type "list")
  | frz {a : Addr} {o : Obj} {xs : List V} (e : H a = some (.frz o (.lst xs))) : TyOf K H (.ref a) (.type "list")
  | tup {a : Addr} {xs : List V} (e : H a = some (.tup xs)) : TyOf K H (.ref a) (.type "tuple")
  | dK {a : Addr} {kvs : List (Key × V)} (e : H a = some (.dK kvs)) : TyOf K H (.ref a) (.type "dict")
  | dT {a : Addr} {kvs : List (List Key × V)} (e : H a = some (.dT kvs)) : TyOf K H (.ref a) (.type "dict")
  | ins {a C dx : Addr} {fs : List (Str × V)} (e : H a = some (.ins C dx fs)) (cl : Cls K C) (ha : PySem.W.findIn K (.ref C) "__class__" = some (some (.builtin "object.__class__")))
      (hn : PySem.W.specialIn K (.builtin "object.__class__") "__get__" = some (some (.builtin "getset_descriptor.__get__"))) (htk : PySem.W.takesIn K (.builtin "object.__class__") = some true)
      (hm : PySem.W.mroIn K C (.type "object") = some true) : TyOf K H (.ref a) (.ref C)
/-- isinstance(x, c) for one class c, a built-in or an own one: kitOne's answer -/
theorem isinst_ok {x : V} {u t : Value} (I : Inv X pins σ H s) (rx : RelV x u) (ty : TyOf X.K H x t) (e : PySem.W.kitOne X.K t c = some b) (h : ∀ tk, Q (.bool b) { s with toks := tk }) :
    wpAny (model X.prog X.w) A (call (.builtin "isinstance") [u, c]) Q E s := by
  cases ty with
  | non => cases (show u = Value.none from rx); exact PySem.W.kia_one PySem.W.kitx_none I.kIn True.intro e (fun z => nomatch z) h
  | bl y => cases (show u = Value.bool y from rx); exact PySem.W.kia_one PySem.W.kitx_bool I.kIn True.intro e (fun z => nomatch z) h
  | int i => obtain ⟨t, q⟩ := (show ∃ t, u = Value.int i t from rx); cases q; exact PySem.W.kia_one PySem.W.kitx_int I.kIn True.intro e (fun z => nomatch z) h
  | str y => obtain ⟨t, q⟩ := (show ∃ t, u = Value.str y t from rx); cases q; exact PySem.W.kia_one PySem.W.kitx_str I.kIn True.intro e (fun z => nomatch z) h
  | flt y => obtain ⟨t, q⟩ := (show ∃ t, u = Value.float y t from rx); cases q; exact PySem.W.kia_one PySem.W.kitx_float I.kIn True.intro e (fun z => nomatch z) h
  | @lst a xs ea =>
    cases (show u = Value.ref a from rx)
    obtain ⟨_, _, n, _, h1⟩ := (show ObjOk X.prog X.w H s.heap a (.lst xs) from I.hok a _ ea)
    exact PySem.W.kia_one PySem.W.kitx_list I.kIn ⟨_, h1, rfl⟩ e (fun z => nomatch z) h
  | @frz a ob xs ea =>
    cases (show u = Value.ref a from rx)
    obtain ⟨_, _, _, n, _, h1⟩ := (show ObjOk X.prog X.w H s.heap a (.frz ob (.lst xs)) from I.hok a _ ea)
    exact PySem.W.kia_one PySem.W.kitx_list I.kIn ⟨_, h1, rfl⟩ e (fun z => nomatch z) h
  | @tup a xs ea =>
    cases (show u = Value.ref a from rx)
    obtain ⟨_, _, _, p⟩ := (show ObjOk X.prog X.w H s.heap a (.tup xs) from I.hok a _ ea)
    obtain ⟨o, h1, h2, _⟩ := p
    exact PySem.W.kia_one PySem.W.kitx_tuple I.kIn ⟨o, h1, h2⟩ e (fun z => nomatch z) h
  | @dK a kvs ea =>
    cases (show u = Value.ref a from rx)
    obtain ⟨_, _, vs, _, p⟩ := (show ObjOk X.prog X.w H s.heap a (.dK kvs) from I.hok a _ ea)
    obtain ⟨o, es, ep, h1, h2, _⟩ := p
    exact PySem.W.kia_one PySem.W.kitx_dict I.kIn ⟨o, h1, h2.1⟩ e (fun z => nomatch z) h
  | @dT a kvs ea =>
    cases (show u = Value.ref a from rx)
    obtain ⟨_, _, xs, _, o, es, ep, h1, h2, _⟩ := (show ObjOk X.prog X.w H s.heap a (.dT kvs) from I.hok a _ ea)
    exact PySem.W.kia_one PySem.W.kitx_dict I.kIn ⟨o, h1, h2.1⟩ e (fun z => nomatch z) h
  | @ins a C dx fs ea cl ha hn htk hm =>
    cases (show u = Value.ref a from rx)
    obtain ⟨mA, O, _⟩ := ins_get I.hok ea
    obtain ⟨od, J, _⟩ := O.look
    exact PySem.W.kia_one (PySem.W.kitx_own (cl.get _) cl.hd ha hn htk hm) I.kIn J e (fun z => nomatch z) h
end
end L2

namespace L2
open PySem PySem.Spec PyProof.Rows

/-! ### room -/
structure Room (k : Nat) (A : Around) : Prop where
  hd : A.handled = none
  dp : A.depth + 3 * k + 5 < recursionLimit
  un : A.units + 16 * k + 200 < cLine
theorem Room.mono {j k : Nat} {A : Around} (r : Room k A) (h : j ≤ k) : Room j A := ⟨r.hd, by have := r.dp; omega, by have := r.un; omega⟩
theorem Room.deeper {k : Nat} {A : Around} (r : Room (k + 1) A) (env : Env) : Room k (A.deeper env) :=
  ⟨r.hd, by have := r.dp; show A.depth + 1 + 3 * k + 5 < _; omega, by have := r.un; show A.units + 3 + 16 * k + 200 < _; omega⟩
theorem make_depth {A : Around} {C : Addr} {us : List Value} {kw : List (Str × Value)} : (A.under (.builtin "type.__call__" ⟨.ref C :: us, kw⟩)).depth = A.depth + 1 := by
  first | rfl | simp [Around.under, Code.weight, Code.isCreation, Code.isGuard, Code.isCaller, Code.frames, Code.isFrame, guardIds]
theorem make_units {A : Around} {C : Addr} {us : List Value} {kw : List (Str × Value)} : (A.under (.builtin "type.__call__" ⟨.ref C :: us, kw⟩)).units = A.units + 1 := by
  first | rfl | simp [Around.under, Code.cUnits, Code.frames, Code.isFrame]
theorem Room.make {k : Nat} {A : Around} (r : Room (k + 1) A) (C : Addr) (us : List Value) (kw : List (Str × Value)) : Room k (A.under (.builtin "type.__call__" ⟨.ref C :: us, kw⟩)) :=
  ⟨r.hd, by have := r.dp; rw [make_depth]; omega, by have := r.un; rw [make_units]; omega⟩
theorem Room.depth {k : Nat} {A : Around} (r : Room k A) : A.depth < recursionLimit := by have := r.dp; omega
theorem Room.units {k : Nat} {A : Around} (r : Room k A) : A.units + 64 < cLine := by have := r.un; omega

/-! ### argument lists and displays -/
noncomputable def tNil : TA := fun _ H Q => Q [] H
noncomputable def tCons (ta : TE) (tr : TA) : TA := fun σ H Q => ta σ H fun x H1 => tr σ H1 fun xs H2 => Q (x :: xs) H2
section
variable {X : Cx} {e : Expr} {es : List Expr} {te : TE} {t : TA} {pos : Pos}
theorem pa_nil : PA X [] tNil := fun _ _ _ _ H Q I h => Calls.spliced_nil ⟨[], H, I, .nil, h⟩
theorem pa_cons (ha : PE X e te) (hr : PA X es t) (hs : starEach (e :: es) X.env = (false, eval e X.env) :: starEach es X.env := by rfl) : PA X (e :: es) (tCons te t) := by
  intro pos pins s σ H Q I h
  rw [hs]
  show wpAny _ _ (spliced ((false, eval e X.env) :: backTo pos (starEach es X.env))) _ _ s
  refine Calls.spliced_cons (thn (ha pins s σ H _ I h) fun u s1 ⟨x, H1, I1, r1, q1⟩ => ?_)
  exact thn (hr pos pins s1 σ H1 _ I1 q1) fun us s2 ⟨xs, H2, I2, r2, q2⟩ => ⟨x :: xs, H2, I2, .cons r1 r2, q2⟩

/-- a tuple, a list of written items -/
noncomputable def tTup (t : TA) : TE := fun σ H Q => t σ H fun xs H1 => xs.length ≤ sizeLine ∧ ∀ p, H1 p = none → Q (.ref p) (upd H1 p (.tup xs))
noncomputable def tLst (t : TA) : TE := fun σ H Q => t σ H fun xs H1 => xs.length ≤ sizeLine ∧ ∀ p, H1 p = none → Q (.ref p) (upd H1 p (.lst xs))
theorem pe_tup {x1} (h : PA X es t) : PE X (.Tuple es x1 pos) (tTup t) := by
  intro pins s σ H Q I hq
  refine wpAny_Tuple_spliced (thn (h pos pins s σ H _ I hq) fun us s1 ⟨xs, H1, I1, r, z, q⟩ => ⟨by rw [← r.length]; exact z, ?_⟩)
  have hf : H1 s1.heap.objs.size = none := I1.hok.fresh (Nat.le_refl _)
  refine ⟨.ref s1.heap.objs.size, upd H1 s1.heap.objs.size (.tup xs), I1.laid (t' := s1.toks) (fun b u e => Heap.get?_push_of_some _ e) (Nat.le_refl _) ?_, rfl, q _ hf⟩
  exact ⟨z, us, r, ⟨_, Heap.get?_push_size _ rfl, rfl, _, rfl⟩⟩
theorem pe_lst (h : PA X es t) : PE X (.List es pos) (tLst t) := by
  intro pins s σ H Q I hq
  refine wpAny_List_spliced (thn (h pos pins s σ H _ I hq) fun us s1 ⟨xs, H1, I1, r, z, q⟩ => ⟨by rw [← r.length]; exact z, ?_⟩)
  have hf : H1 s1.heap.objs.size = none := I1.hok.fresh (Nat.le_refl _)
  refine ⟨.ref s1.heap.objs.size, upd H1 s1.heap.objs.size (.lst xs), I1.laid (t' := s1.toks) (fun b u e => Heap.get?_push_of_some _ e) (Nat.le_refl _) ?_, rfl, q _ hf⟩
  exact ⟨z, us, 0, r, Heap.get?_push_size _ rfl⟩
end

/-! ### what a def promises -/
/-- a def's promise: the bound arguments in the parameters' order, the heap, the wanted end, the wanted exception -/
noncomputable abbrev Sp := List V → Hp → VK → XK → Prop
/-- how an exception lies behind a call (file 08 gives it): the callers' frames, abstract heap and state ahead of the call, the wish, the exception, the state -/
noncomputable abbrev CXT := List Env → Hp → Shared → XK → Value → Shared → Prop

/-- the state at a call -/
structure Env0 (P : Program) (w : World) (K : PySem.W.Frag) (mg : Str → Option Value) (base : Heap) (A : Around) (outer : List Env) (s : Shared) (H : Hp) : Prop where
  frames : A.frames = some outer
  mod : Mod K mg base
  bs : ∀ b o, base.get? b = some o → s.heap.get? b = some o ∧ H b = none
  bsz : base.objs.size ≤ s.heap.objs.size
  funs : s.heap.FunFrames base outer
  frf : ∀ b ∈ frs outer, H b = none
  hok : HOk P w H s.heap
  bare : AllBare s.gens
/-- a call's end -/
noncomputable def CE (outer : List Env) (P : Program) (w : World) (H : Hp) (s : Shared) (Q : VK) (u : Value) (s' : Shared) : Prop :=
  ∃ v H', s'.os = s.os ∧ AllBare s'.gens ∧ Un (frs outer) [] H H' s.heap s'.heap ∧ HOk P w H' s'.heap ∧ RelV v u ∧ Q v H'
noncomputable def CR (CX : CXT) (outer : List Env) (P : Program) (w : World) (H : Hp) (s : Shared) (Q : VK) (E : XK) (r : Result) (s' : Shared) : Prop :=
  match r with
  | .ok (.ret u) => CE outer P w H s Q u s'
  | .ok _ => False
  | .error e => CX outer H s E e s'
structure FnOk (P : Program) (w : World) (K : PySem.W.Frag) (mg : Str → Option Value) (base : Heap) (CX : CXT) (k : Nat) (f : Addr) (fd : FuncData) (ps : List Str) (sp : Sp) : Prop where
  len : ∀ vs H Q E, sp vs H Q E → vs.length = ps.length
  run : ∀ (A : Around) (outer : List Env) (s : Shared) (H : Hp) (args : Args) (us : List Value) (vs : List V) (Q : VK) (E : XK), Room k A → Env0 P w K mg base A outer s H → BindsTo s fd args (ps.zip us) → Vals vs us → sp vs H Q E →
    codeAny (model P w) A (.call (.ref f) args) (CR CX outer P w H s Q E) s

theorem Env0.make {P : Program} {w : World} {K : PySem.W.Frag} {mg : Str → Option Value} {base : Heap} {A : Around} {outer : List Env} {s : Shared} {H : Hp} (e : Env0 P w K mg base A outer s H) (C : Addr) (us : List Value) (kw : List (Str × Value)) :
    Env0 P w K mg base (A.under (.builtin "type.__call__" ⟨.ref C :: us, kw⟩)) outer s H := ⟨by first | exact e.frames | (simpa [Around.under, Code.envs, Code.isFrame, pushEnvs] using e.frames), e.mod, e.bs, e.bsz, e.funs, e.frf, e.hok, e.bare⟩

section
variable {X : Cx} {pins : List (Addr × Obj)} {σ : St} {H : Hp} {s s' : Shared}
/-- from a body: what a callee wants -/
theorem Inv.env0 (I : Inv X pins σ H s) : Env0 X.prog X.w X.K X.mg X.base X.A X.stack s H :=
  ⟨I.ok.frames, I.ok.mod, I.bs, Nat.le_trans I.ok.bsz I.sz, I.stack, I.stkFree, I.hok, I.bare⟩
/-- behind a call -/
theorem Inv.after {Q : VK} {u : Value} (I : Inv X pins σ H s) (h : CE X.stack X.prog X.w H s Q u s') : EP X pins σ Q u s' := by
  obtain ⟨v, H', os, bare, un, hok, r, q⟩ := h
  obtain ⟨hh, g, d, t, os'⟩ := s'
  obtain rfl : os' = s.os := os
  exact ⟨v, H', I.call (h' := hh) (g' := g) (d' := d) (t' := t) (ch := []) un hok bare (fun b z => absurd z (by simp)), r, q⟩
end

/-! ### calls -/
/-- f(..): the written arguments, then the defaults dvs; E: what is wanted of an exception -/
noncomputable def tCall (sp : Sp) (dvs : List V) (E : XK) (t : TA) : TE := fun σ H Q => t σ H fun vs H1 => sp (vs ++ dvs) H1 Q E

/-- how the parameters are bound: us the positional arguments, kw the keywords' values by name, ds the defaults that fill up -/
noncomputable def Binds (K : PySem.W.Frag) (fd : FuncData) (ps : List Str) (ds : List Value) : Prop :=
  ∀ (s : Shared) (us : List Value), K.In s.heap → (us ++ ds).length = ps.length → BindsTo s fd ⟨us, []⟩ (ps.zip (us ++ ds))
/-- every parameter is given -/
theorem Binds.all {K : PySem.W.Frag} {fd : FuncData} {ps : List Str} (h : ∀ us : List Value, us.length = ps.length → bindArgs fd ⟨us, []⟩ = pure (ps.zip us)) : Binds K fd ps [] := fun s us _ hl => by
  rw [List.append_nil] at hl ⊢
  exact .of_eq (h us hl)

/-- an exception of a callee reaches what this body wants of exceptions -/
noncomputable def Passes (CX : CXT) (X : Cx) (E : XK) : Prop := ∀ (pins : List (Addr × Obj)) (σ : St) (H : Hp) (s : Shared) (e : Value) (s' : Shared), Inv X pins σ H s → CX X.stack H s E e s' → X.xe e s'

section
variable {X : Cx} {CX : CXT} {k : Nat} {f C : Addr} {fd : FuncData} {ps : List Str} {sp : Sp} {dvs : List V} {ds : List Value} {E : XK} {x m : Str} {p pos apos : Pos} {e o : Expr} {es : List Expr} {ta : TE} {t : TA}

/-- the callee runs -/
theorem run_fn {pins : List (Addr × Obj)} {σ : St} {H : Hp} {s : Shared} {Q : VK} {us : List Value} {vs : List V} (F : FnOk X.prog X.w X.K X.mg X.base CX k f fd ps sp) (hr : Room k X.A) (hb : Binds X.K fd ps ds) (hd : Vals dvs ds) (hx : Passes CX X E)
    (I : Inv X pins σ H s) (r : Vals vs us) (h : sp (vs ++ dvs) H Q E) : wpAny (model X.prog X.w) X.A (call (.ref f) us) (EP X pins σ Q) X.xe s := by
  have r2 : Vals (vs ++ dvs) (us ++ ds) := r.append hd
  have hl : (us ++ ds).length = ps.length := by rw [← r2.length]; exact F.len _ _ _ _ h
  refine wpAny_call (codeAny_mono (F.run X.A X.stack s H ⟨us, []⟩ (us ++ ds) (vs ++ dvs) Q E hr I.env0 (hb s us I.kIn hl) r2 h) fun r s' hq => ?_)
  cases r with
  | error e => exact hx pins σ H s e s' I hq
  | ok fl =>
    cases fl with
    | ret u => exact I.after hq
    | next => exact False.elim hq
    | brk => exact False.elim hq
    | cont => exact False.elim hq

theorem pe_call (F : FnOk X.prog X.w X.K X.mg X.base CX k f fd ps sp) (hr : Room k X.A) (hg : Gl X x) (hm : X.mg x = some (.ref f)) (hk : PySem.W.keepIn X.K (.ref f) = true) (hb : Binds X.K fd ps ds) (hd : Vals dvs ds) (hx : Passes CX X E)
    (ha : PA X (e :: es) t) (hdb : (x == ("__debug__" : Str)) = false := by decide) (he : starEach (e :: es) X.env = (false, eval e X.env) :: starEach es X.env := by rfl) (hpl : (backTo pos (starEach es X.env)).any (·.1) = false := by rfl) :
    PE X (.Call (.Name x p) (e :: es) [] pos) (tCall sp dvs E t) := by
  intro pins s σ H Q I h
  refine wpAny_Call_Name_kw (ld_glob I hg hm ?_ hdb)
  refine PySem.W.callWith_K (h₀ := X.base) I.ok.mod.kin hk (thn (ha pos pins s σ H _ I h) fun us s1 ⟨vs, H1, I1, r, q⟩ => ⟨I1.kIn, ?_⟩) he hpl
  exact run_fn F hr hb hd hx I1 r q

end

/-! ### keywords -/
section
variable {X : Cx} {CX : CXT} {k : Nat} {f C : Addr} {fd : FuncData} {ps ks : List Str} {sp : Sp} {E : XK} {x m : Str} {p pos apos kpos : Pos} {e o : Expr} {es : List Expr} {kws : List Keyword} {te ta : TE} {t tk : TA} {nm : Option Str}

variable {g : List Value → List Value → List Value} {gV : List V → List V → List V}
end

/-! ### a def's body keeps its promise -/
/-- names: the parameters first -/
structure FnScope (N P : List Str) (sc : Scope) : Prop where
  kind : sc.kind = .function
  co : sc.isCoroutine = false
  gen : sc.isGenerator = false
  nd : N.Nodup
  pre : N.take P.length = P
  par : ∀ x ∈ P, sc.names.lookup x = some .local ∨ sc.names.lookup x = some .cell
  nofree : ∀ y ∈ sc.names, y.2 ≠ .free

theorem bindL_out {kindOf : Str → Option NameKind} {x : Str} : ∀ {binds : List (Str × Value)} {m : Str → Option Value}, (∀ v, (x, v) ∉ binds) → bindL kindOf binds m x = m x
  | [], _, _ => rfl
  | (n, v) :: r, m, h => by
    unfold bindL
    rw [bindL_out fun w hw => h w (List.mem_cons_of_mem _ hw)]
    split
    · have : x ≠ n := by rintro rfl; exact h v List.mem_cons_self
      simp [this]
    · rfl
theorem bindC_out {kindOf : Str → Option NameKind} {x : Str} : ∀ {binds : List (Str × Value)} {m : Str → Option Value}, (∀ v, (x, v) ∉ binds) → bindC kindOf binds m x = m x
  | [], _, _ => rfl
  | (n, v) :: r, m, h => by
    unfold bindC
    rw [bindC_out fun w hw => h w (List.mem_cons_of_mem _ hw)]
    split
    · rfl
    · have : x ≠ n := by rintro rfl; exact h v List.mem_cons_self
      simp [this]
theorem bindL_get {kindOf : Str → Option NameKind} {x : Str} {v : Value} : ∀ {P : List Str} {vs : List Value} {i : Nat} {m : Str → Option Value}, P.Nodup → P[i]? = some x → vs[i]? = some v → kindOf x = some .local →
    bindL kindOf (P.zip vs) m x = some v
  | [], _, _, _, _, h, _, _ => by simp at h
  | _ :: _, [], _, _, _, _, h, _ => by simp at h
  | p :: P, w :: vs, 0, m, nd, h1, h2, hk => by
    simp at h1 h2; subst h1; subst h2
    show bindL kindOf ((p, w) :: P.zip vs) m p = _
    unfold bindL
    rw [bindL_out fun v hv => (List.nodup_cons.mp nd).1 (List.of_mem_zip hv).1, if_pos hk]
    simp
  | p :: P, w :: vs, i + 1, m, nd, h1, h2, hk => by
    show bindL kindOf ((p, w) :: P.zip vs) m x = _
    unfold bindL
    exact bindL_get (i := i) (List.nodup_cons.mp nd).2 (by simpa using h1) (by simpa using h2) hk
theorem bindC_get {kindOf : Str → Option NameKind} {x : Str} {v : Value} : ∀ {P : List Str} {vs : List Value} {i : Nat} {m : Str → Option Value}, P.Nodup → P[i]? = some x → vs[i]? = some v → kindOf x ≠ some .local →
    bindC kindOf (P.zip vs) m x = some v
  | [], _, _, _, _, h, _, _ => by simp at h
  | _ :: _, [], _, _, _, _, h, _ => by simp at h
  | p :: P, w :: vs, 0, m, nd, h1, h2, hk => by
    simp at h1 h2; subst h1; subst h2
    show bindC kindOf ((p, w) :: P.zip vs) m p = _
    unfold bindC
    rw [bindC_out fun v hv => (List.nodup_cons.mp nd).1 (List.of_mem_zip hv).1, if_neg hk]
    simp
  | p :: P, w :: vs, i + 1, m, nd, h1, h2, hk => by
    show bindC kindOf ((p, w) :: P.zip vs) m x = _
    unfold bindC
    exact bindC_get (i := i) (List.nodup_cons.mp nd).2 (by simpa using h1) (by simpa using h2) hk

/-- the names' values at the entry -/
noncomputable def start (N : List Str) (vs : List V) : St := vs.map some ++ List.replicate (N.length - vs.length) none

/-- the context of a def's body, at its entry; an exception leaves the frame, then lies as CX says -/
noncomputable def cxOf (CX : CXT) (P : Program) (w : World) (K : PySem.W.Frag) (mg : Str → Option Value) (base : Heap) (N : List Str) (qual : Str) (scope : Scope) (f : Addr) (cd : Value) (A : Around) (outer : List Env) (s : Shared) (H : Hp) (E : XK) : Cx where
  prog := P
  w := w
  K := K
  mg := mg
  base := base
  A := A.deeper (envOfC qual scope s.heap.objs.size f cd)
  N := N
  s₀ := s
  H₀ := H
  env := envOfC qual scope s.heap.objs.size f cd
  outer := outer
  stack := envOfC qual scope s.heap.objs.size f cd :: outer
  ex := []
  calm := true
  fn := fun _ => true
  pn := []
  xe := fun e s' => wpAny (model P w) (A.deeper (envOfC qual scope s.heap.objs.size f cd)) (leaving (envOfC qual scope s.heap.objs.size f cd) e) (fun _ s'' => CX outer H s E e s'') (fun e' s'' => CX outer H s E e' s'') s'

theorem cell_has {sc : Scope} {n : Nat} {x : Str} (h : sc.names.lookup x = some .cell) : ∃ c, (cellsFrom n sc.names []).lookup x = some c := by
  have q := PySem.W.cellsFrom_some sc.names n [] (.inl h)
  exact Option.isSome_iff_exists.mp q

theorem inv_start {CX : CXT} {P : Program} {w : World} {K : PySem.W.Frag} {mg : Str → Option Value} {base : Heap} {N ps : List Str} {qual : Str} {scope : Scope} {f : Addr} {cd : Value} {A : Around} {outer : List Env} {s s1 : Shared} {H : Hp} {E : XK} {us : List Value} {vs : List V}
    (S : FnScope N ps scope) (hd : A.handled = none) (e0 : Env0 P w K mg base A outer s H) (hl : vs.length = ps.length) (r : Vals vs us)
    (x : InCallC s s.heap.objs.size (bindL (envOfC qual scope s.heap.objs.size f cd).kindOf (ps.zip us) fun _ => none) (cellsFrom (s.heap.objs.size + 1) scope.names []) (bindC (envOfC qual scope s.heap.objs.size f cd).kindOf (ps.zip us) fun _ => none) s1) :
    Inv (cxOf CX P w K mg base N qual scope f cd A outer s H E) [] (start N vs) H s1 := by
  have hpl : ps.length ≤ N.length := by have := congrArg List.length S.pre; rw [List.length_take] at this; omega
  obtain ⟨h1, tk, rfl, hk⟩ := x.done
  have noA : ∀ b : Addr, b ∉ (cxOf CX P w K mg base N qual scope f cd A outer s H E).ex := fun b z => absurd (show b ∈ ([] : List Addr) from z) (by simp)
  refine ⟨⟨e0.mod, S.kind, rfl, rfl, Nat.le_refl _, fun y z c h1 h2 => ?_, fun y hy => ?_, fun y c _ h => ?_, fun _ => hd, Around.frames_deeper e0.frames, .inr ⟨rfl, rfl⟩, fun b z => absurd z (noA b), e0.bs, e0.bsz, fun b _ _ => noA b, fun b z => absurd z (noA b), e0.funs, e0.frf⟩,
    rfl, e0.bare, Un.kept hk, ⟨_, x.toInCall.ns, fun i y v h1 h2 h3 => ?_⟩, fun y c h => ⟨_, x.cell y c h⟩, e0.hok.fresh (Nat.le_refl _), fun y c h => ?_, fun p hp => absurd (show p ∈ ([] : List (Addr × Obj)) from hp) (by simp), e0.hok.kept hk, ?_⟩
  · exact name_of_addr x.apart (PySem.mem_of_lookup h1) (PySem.mem_of_lookup h2)
  · have hy : scope.names.lookup y = some .cell ∨ scope.names.lookup y = some .free := hy
    rcases hy with hy | hy
    · exact cell_has hy
    · exact absurd rfl (S.nofree _ (PySem.mem_of_lookup hy))
  · exact Nat.le_of_lt (x.above y c (PySem.mem_of_lookup h))
  · have hi : i < vs.length := by
      unfold start at h2
      by_cases hi : i < vs.length
      · exact hi
      · rw [List.getElem?_append_right (by simpa using hi)] at h2
        rw [List.getElem?_replicate] at h2
        split at h2 <;> cases h2
    have ha : vs[i]? = some v := by
      unfold start at h2
      rw [List.getElem?_append_left (by simpa using hi), List.getElem?_map] at h2
      cases e : vs[i]? with
      | none => rw [e] at h2; cases h2
      | some a => rw [e] at h2; cases h2; rfl
    obtain ⟨u, hu, rv⟩ := r.get ha
    have hp : ps[i]? = some y := by
      rw [← S.pre, List.getElem?_take_of_lt (by omega)]; exact h1
    have ndP : ps.Nodup := by rw [← S.pre]; exact S.nd.sublist (List.take_sublist _ _)
    refine ⟨u, rv, ?_⟩
    rcases S.par y (List.mem_of_getElem? hp) with k | k
    · exact .inl ⟨k, bindL_get ndP hp hu k⟩
    · obtain ⟨c, e⟩ := cell_has (n := s.heap.objs.size + 1) k
      refine .inr ⟨.inl k, c, e, ?_⟩
      have q := x.cell y c e
      rw [bindC_get ndP hp hu (by show scope.names.lookup y ≠ _; rw [k]; decide)] at q
      exact q
  · exact e0.hok.fresh (Nat.le_of_lt (x.above y c (PySem.mem_of_lookup h)))
  · unfold start
    show _ = N.length
    rw [List.length_append, List.length_map, List.length_replicate]
    omega

/-- THE RULE: a def (or a method) of the text, by its body. The body's reading t is chosen for each entry; it is run at the parameters' values -/
theorem fn_of {CX : CXT} {P : Program} {w : World} {K : PySem.W.Frag} {mg : Str → Option Value} {base : Heap} {k : Nat} {f : Addr} {name qual : Str} {params : Arguments} {body : List Stmt} {scope : Scope} {dV kV doc pm cdv ct oc : Value} {an od : Option Addr}
    {osl : Array (Option Value)} {N ps : List Str} {sp : Sp} (lk : K.lookup f = some ⟨oc, od, .func (PySem.W.fnOf name qual params body scope dV kV doc pm an cdv ct), osl⟩) (hcd : PySem.W.codeIn K cdv qual = true) (S : FnScope N ps scope)
    (len : ∀ vs H Q E, sp vs H Q E → vs.length = ps.length)
    (hbody : ∀ (A : Around) (outer : List Env) (s : Shared) (H : Hp) (vs : List V) (Q : VK) (E : XK), Room k (A.deeper (envOfC qual scope s.heap.objs.size f cdv)) → sp vs H Q E →
      ∃ t, PSs (cxOf CX P w K mg base N qual scope f cdv A outer s H E) body t ∧ t { nx := fun _ H' => Q .non H', rt := Q } (start N vs) H) :
    FnOk P w K mg base CX (k + 1) f (PySem.W.fnOf name qual params body scope dV kV doc pm an cdv ct) ps sp := by
  refine ⟨len, fun A outer s H args us vs Q E hr e0 hb r hsp => ?_⟩
  have hl := len _ _ _ _ hsp
  have KX : K.In s.heap := e0.mod.kin.keeps fun b o e => (e0.bs b o e).1
  have lim : s.heap.NoLimit := e0.mod.nolimit.keeps fun b o e => (e0.bs b o e).1
  have hkind : ∀ y ∈ ps.zip us, scope.names.lookup y.1 = some .local ∨ (scope.names.lookup y.1 = some .cell ∧ ((cellsFrom (s.heap.objs.size + 1) scope.names []).lookup y.1).isSome = true) := fun ⟨n, v⟩ hy => by
    rcases S.par n (List.of_mem_zip hy).1 with q | q
    · exact .inl q
    · exact .inr ⟨q, PySem.W.cellsFrom_some _ _ _ (.inl q)⟩
  refine codeAny_call_function hr.depth (KX _ _ lk) rfl S.co S.gen rfl (PySem.W.codeRec_of KX hcd) (hb _ _ _ _ ?_)
  refine wpAny_newFunctionEnv_cells S.kind hkind fun env he s1 x => ?_
  subst he
  refine ⟨lim.keeps x.toInCall.keep, codeAny_func ?_⟩
  obtain ⟨t, ht, hq⟩ := hbody A outer s H vs Q E (hr.deeper _) hsp
  have I : Inv (cxOf CX P w K mg base N qual scope f cdv A outer s H E) [] (start N vs) H s1 := inv_start S hr.hd e0 hl r x
  refine wpAny_mono (ht [] s1 (start N vs) H _ I hq) (fun fl s' hs => ?_) fun e s' hs => hs
  have fin : ∀ {σ' : St} {H' : Hp} {v : V} {u : Value}, Inv (cxOf CX P w K mg base N qual scope f cdv A outer s H E) [] σ' H' s' → RelV v u → Q v H' → CE outer P w H s Q u s' :=
    fun {σ' H' v u} J rv q => ⟨v, H', J.os, J.bare, J.base, J.hok, rv, q⟩
  cases fl with
  | ret u =>
    obtain ⟨v, σ', H', J, rv, q⟩ := hs
    exact fin J rv q
  | next =>
    obtain ⟨σ', H', J, q⟩ := hs
    exact fin (v := V.non) (u := Value.none) J rfl q
  | brk =>
    obtain ⟨_, _, _, q⟩ := hs
    exact False.elim q
  | cont =>
    obtain ⟨_, _, _, q⟩ := hs
    exact False.elim q
end L2

namespace L2
open PySem PySem.Spec PyProof.Rows
section
variable {X : Cx} {x : Str} {p pos : Pos} {e : Expr} {es : List Expr} {t : TA} {id T : String} {r : List V → Hp → VK → Prop}

noncomputable def tCB (r : List V → Hp → VK → Prop) (t : TA) : TE := fun σ H Q => t σ H fun vs H1 => r vs H1 Q
/-- f(e, ..), f a built-in function -/
theorem pe_callB (hc : CallR X (.builtin id) r) (hg : Gl X x) (hm : X.mg x = none) (hv : bootBuiltins x = some (.builtin id)) (ha : PA X (e :: es) t) (hn : x ≠ "__name__" := by decide) (hdb : (x == ("__debug__" : Str)) = false := by decide)
    (he : starEach (e :: es) X.env = (false, eval e X.env) :: starEach es X.env := by rfl) (hpl : (backTo pos (starEach es X.env)).any (·.1) = false := by rfl) : PE X (.Call (.Name x p) (e :: es) [] pos) (tCB r t) := by
  intro pins s σ H Q I h
  refine wpAny_Call_Name_kw (ld_blt I hg hm hv ?_ hn hdb)
  exact PyProof.Rows.callWith_builtin1 (thn (ha pos pins s σ H _ I h) fun us s1 ⟨vs, H1, I1, r1, q1⟩ => hc pins s1 σ H1 vs us Q I1 r1 q1) he hpl
/-- T(e, ..), T a built-in type -/
theorem pe_callTy (hc : CallR X (.type T) r) (hg : Gl X x) (hm : X.mg x = none) (hv : bootBuiltins x = some (.type T)) (ha : PA X (e :: es) t) (hn : x ≠ "__name__" := by decide) (hdb : (x == ("__debug__" : Str)) = false := by decide)
    (he : starEach (e :: es) X.env = (false, eval e X.env) :: starEach es X.env := by rfl) (hpl : (backTo pos (starEach es X.env)).any (·.1) = false := by rfl) : PE X (.Call (.Name x p) (e :: es) [] pos) (tCB r t) := by
  intro pins s σ H Q I h
  refine wpAny_Call_Name_kw (ld_blt I hg hm hv ?_ hn hdb)
  exact PyProof.Rows.callWith_type1 (thn (ha pos pins s σ H _ I h) fun us s1 ⟨vs, H1, I1, r1, q1⟩ => hc pins s1 σ H1 vs us Q I1 r1 q1) he hpl
end
end L2

namespace HT
open PySem PyProof.Rows

theorem eqAt_int (A : Around) (s : Shared) (a : Int) (t : Tok) (c : Int) (u : Tok) : ∃ e, SeqAt.EqAt A s (.int a t) (.int c u) e ∧ (e = true ↔ a = c) :=
  ⟨(a == c), SeqAt.EqAt.int_int a t c u, by simp⟩

section
open PySem.SeqAt
open PySem.AutoSeq1 (wpAny_loadPart')
open PySem.MeetsSeq PySem.MeetsSeq2 PySem.MeetsSeq3

end

section
variable {prog : Program} {w : World} {A : Around} {E : Value → Shared → Prop} {s : Shared}

/-- t + u, t not empty -/
theorem cat_tup {t b : Addr} {vs ws : List Value} {Q : Value → Shared → Prop} (ht : IsTup s.heap t vs.toArray) (hb : IsTup s.heap b ws.toArray) (hv : vs ≠ [])
    (h1 : ws = [] → Q (.ref t) s) (h2 : ws ≠ [] → Q (.ref s.heap.objs.size) { s with heap := s.heap.push { cls := .type "tuple", data := .seq (vs ++ ws).toArray } })
    (hsz : vs.length + ws.length ≤ sizeLine) : wpAny (model prog w) A (binaryOp .Add (.ref t) (.ref b)) Q E s := by
  obtain ⟨⟨cls, dd, data, sl⟩, ho, hc, n, hd⟩ := id ht
  obtain ⟨⟨cls2, dd2, data2, sl2⟩, ho2, hc2, n2, hd2⟩ := id hb
  simp only at hc hd hc2 hd2
  subst hc hd hc2 hd2
  have e : vs.toArray ++ ws.toArray = (vs ++ ws).toArray := by simp
  by_cases hw : ws = []
  · exact concat_meets ⟨_, ho, rfl⟩ ⟨_, ho2, rfl⟩ noFill_tuple_add seq_tuple_add PySem.F.slot_tuple_add PySem.F.entry_tuple_add (PySem.F.args_tuple_add_2 _ _)
      (tuple_addW1 t b vs.toArray ws.toArray n n2 dd dd2 sl sl2 (by simpa using hv) (by simp [hw])) ⟨ho, ho2, h1 hw⟩
  · refine concat_meets ⟨_, ho, rfl⟩ ⟨_, ho2, rfl⟩ noFill_tuple_add seq_tuple_add PySem.F.slot_tuple_add PySem.F.entry_tuple_add (PySem.F.args_tuple_add_2 _ _)
      (tuple_addW2 t b vs.toArray ws.toArray n n2 dd dd2 sl sl2 (by simpa using hv) (by simpa using hw) (by rw [List.size_toArray, List.size_toArray]; exact hsz)) ⟨ho, ho2, ?_⟩
    rw [e]
    exact h2 hw

/-! ### t[a:b], not the whole -/
/-- a slice's bound as a place among n (d where it is left out) -/
noncomputable def sIx (n d : Nat) : Option Int → Nat
  | none => d
  | some v => if v < 0 then (v + (n : Int)).toNat else min v.toNat n
theorem sIx_le (n d : Nat) (hd : d ≤ n) (o : Option Int) : sIx n d o ≤ n := by
  cases o with
  | none => exact hd
  | some v =>
    show (if v < 0 then (v + (n : Int)).toNat else min v.toNat n) ≤ n
    by_cases hv : v < 0
    · rw [if_pos hv]; omega
    · rw [if_neg hv]; exact Nat.min_le_right _ _
theorem clip_eq (v : Int) (n d : Nat) : (if v < 0 then max (v + (n : Int)) 0 else min v (n : Int)) = ((sIx n d (some v) : Nat) : Int) := by
  show (if v < 0 then max (v + (n : Int)) 0 else min v (n : Int)) = (((if v < 0 then (v + (n : Int)).toNat else min v.toNat n) : Nat) : Int)
  by_cases hv : v < 0
  · simp only [if_pos hv]; omega
  · simp only [if_neg hv]; omega
theorem adjust_gen (lo hi : Option Int) (n : Nat) : Builtin.Slice.sliceAdjust lo hi 1 (n : Int) = (((sIx n 0 lo : Nat) : Int), ((sIx n n hi : Nat) : Int)) := by
  have h1 : ¬ ((1 : Int) < 0) := by omega
  unfold Builtin.Slice.sliceAdjust
  simp only [h1, if_false]
  refine Prod.ext ?_ ?_
  · cases lo with
    | none => rfl
    | some v => exact clip_eq v n 0
  · cases hi with
    | none => rfl
    | some v => exact clip_eq v n n
theorem places_gen (i j : Nat) : Builtin.Slice.slicePlaces (i : Int) (j : Int) 1 = j - i := by
  unfold Builtin.Slice.slicePlaces
  have h1 : (1 : Int) > 0 := by omega
  simp only [h1, if_true, Int.ediv_one]
  split <;> omega
theorem slicePart_ {v : Value} {o : Option Int} {Q : Option Int → Shared → Prop} (p : IsPart v o) (h : Q o s) : wpAny (model prog w) A (Builtin.Slice.slicePartIndex v) Q E s := by
  cases p with
  | none => exact slicePart_none h
  | int i t => exact slicePart_int h
theorem sliceApplied_gen {sl : Addr} {vl vu : Value} {lo hi : Option Int} {n : Nat} {Q : Int × Int × Nat → Shared → Prop} (hs : s.heap.IsSliceOf sl vl vu .none) (pl : IsPart vl lo) (pu : IsPart vu hi)
    (h : Q (((sIx n 0 lo : Nat) : Int), 1, sIx n n hi - sIx n 0 lo) s) : wpAny (model prog w) A (Builtin.Slice.sliceApplied (.ref sl) (pure (n : Int))) Q E s := by
  obtain ⟨os, hos, hcs, hds⟩ := id hs
  unfold Builtin.Slice.sliceApplied Builtin.Slice.sliceFields
  refine wpAny_bind (wpAny_bind (wpAny_field hos hds (x := vl) rfl (wpAny_bind (wpAny_field hos hds (x := vu) rfl (wpAny_bind (wpAny_field hos hds (x := .none) rfl (wpAny_pure ?_)))))))
  refine wpAny_bind (slicePart_none ?_)
  show wpAny _ _ (if ((1 : Int) == 0) = true then _ else _) _ _ s
  rw [if_neg (by decide)]
  refine wpAny_bind (slicePart_ pl (wpAny_bind (slicePart_ pu (wpAny_bind (wpAny_pure ?_)))))
  show wpAny _ _ (match Builtin.Slice.sliceAdjust lo hi 1 (n : Int) with | (lo, hi) => pure (lo, (1 : Int), Builtin.Slice.slicePlaces lo hi 1)) _ _ s
  rw [adjust_gen lo hi n]
  show wpAny _ _ (pure (((sIx n 0 lo : Nat) : Int), (1 : Int), Builtin.Slice.slicePlaces ((sIx n 0 lo : Nat) : Int) ((sIx n n hi : Nat) : Int) 1)) _ _ s
  rw [places_gen]
  exact wpAny_pure h
theorem pick_gen (xs : Array Value) (i k : Nat) : ((List.range k).filterMap fun (m : Nat) => xs[((i : Int) + (m : Int) * 1).toNat]?).toArray = ((xs.toList.drop i).take k).toArray := by
  have e : (fun (m : Nat) => xs[((i : Int) + (m : Int) * 1).toNat]?) = fun m => xs[i + m]? := by
    funext m
    have : ((i : Int) + (m : Int) * 1).toNat = i + m := by omega
    rw [this]
  rw [e]
  have := pick_run xs i k
  rw [List.filterMap_map] at this
  have e2 : ((fun x => xs[x]?) ∘ fun x => i + x) = fun m => xs[i + m]? := rfl
  rw [e2] at this
  rw [this]

theorem getItem_tuple_cut {t sl : Addr} {items : Array Value} {vl vu : Value} {lo hi : Option Int} {Q : Value → Shared → Prop} (ht : IsTup s.heap t items) (hs : s.heap.IsSliceOf sl vl vu .none) (pl : IsPart vl lo) (pu : IsPart vu hi)
    (hw : ¬ (sIx items.size 0 lo = 0 ∧ sIx items.size items.size hi = items.size))
    (h : Q (.ref s.heap.objs.size) { s with heap := s.heap.push { cls := .type "tuple", data := .seq ((items.toList.drop (sIx items.size 0 lo)).take (sIx items.size items.size hi - sIx items.size 0 lo)).toArray } })
    (hsz : items.size ≤ sizeLine) : wpAny (model prog w) A (getItem (.ref t) (.ref sl)) Q E s := by
  have htake : sizeOk (.seq ((items.toList.drop (sIx items.size 0 lo)).take (sIx items.size items.size hi - sIx items.size 0 lo)).toArray) := by
    show ((items.toList.drop (sIx items.size 0 lo)).take (sIx items.size items.size hi - sIx items.size 0 lo)).toArray.size ≤ sizeLine
    rw [List.size_toArray, List.length_take, List.length_drop, Array.length_toList]
    omega
  have hj : sIx items.size items.size hi ≤ items.size := sIx_le _ _ (Nat.le_refl _) hi
  obtain ⟨os, hos, hcs, hds⟩ := id hs
  have hTs : s.TypeIs (.ref sl) "slice" := ⟨os, hos, hcs⟩
  unfold getItem
  try with_reducible refine wpAny_holding ?_
  first | refine wpAny_bind (wpAny_pure ?_) | skip
  refine wpAny_bind (wpAny_sequenceKey ht.typeIs (by decide) ?_)
  refine wpAny_bind (wpAny_callSpecial?_slot (name := Str.ofString "__getitem__") ht.typeIs PyProof.Rows.slot_tuple_getitem
    (wpAny_call_entry PyProof.Rows.slot_tuple_getitem ht.typeIs entry_tuple_getitem ?_ (args_tuple_getitem _ _)))
  show wpAny _ _ (Builtin.Tuple.tupleItemsOf (.ref t) >>= _) _ _ s
  refine wpAny_bind (tupleItemsOf_ ht ?_)
  refine wpAny_bind (wpAny_typeOf hTs ?_)
  rw [if_pos (by decide)]
  refine wpAny_bind (sliceApplied_gen hs pl pu ?_)
  have hno : ¬ ((((sIx items.size 0 lo : Nat) : Int) == 0 && (1 : Int) == 1 && (sIx items.size items.size hi - sIx items.size 0 lo) == items.size) = true) := by
    intro q
    rw [Bool.and_eq_true, Bool.and_eq_true] at q
    have q1 : ((sIx items.size 0 lo : Nat) : Int) = 0 := eq_of_beq q.1.1
    have q2 : sIx items.size items.size hi - sIx items.size 0 lo = items.size := eq_of_beq q.2
    exact hw ⟨by omega, by omega⟩
  show wpAny _ _ (if (((sIx items.size 0 lo : Nat) : Int) == 0 && (1 : Int) == 1 && (sIx items.size items.size hi - sIx items.size 0 lo) == items.size) = true then _ else _) _ _ s
  rw [if_neg hno, pick_gen]
  first
    | exact wpAny_bind (m := Builtin.Tuple.tupleExact _) (wpAny_newObj_type (wpAny_pure ⟨_, rfl, wpAny_pure h⟩) htake)
    | exact wpAny_bind (m := Builtin.Tuple.tupleExact _) (wpAny_newObj_type (wpAny_bind (wpAny_pure (wpAny_pure ⟨_, rfl, wpAny_pure h⟩))) htake)
    | exact wpAny_bind (wpAny_bind (m := Builtin.Tuple.tupleExact _) (wpAny_newObj_type (wpAny_pure (wpAny_pure ⟨_, rfl, wpAny_pure h⟩)) htake))
    | exact wpAny_bind (wpAny_bind (m := Builtin.Tuple.tupleExact _) (wpAny_newObj_type (wpAny_pure ⟨_, rfl, wpAny_pure h⟩) htake))
end
end HT

namespace L2
open PySem PySem.Spec PyProof.Rows

/-! ### the parts of a slice -/
noncomputable abbrev TO := St → Hp → (Option Int → Hp → Prop) → Prop
/-- a slice's part (left out, or an int) -/
noncomputable def PO (X : Cx) (e : Option Expr) (t : TO) : Prop :=
  ∀ (pins : List (Addr × Obj)) (s : Shared) (σ : St) (H : Hp) (Q : Option Int → Hp → Prop), Inv X pins σ H s → t σ H Q →
    wpAny (model X.prog X.w) X.A (evalPart e X.env) (fun u s' => ∃ o H', Inv X pins σ H' s' ∧ IsPart u o ∧ Q o H') X.xe s
noncomputable def tNoPart : TO := fun _ H Q => Q none H
noncomputable def tPart (t : TE) : TO := fun σ H Q => t σ H fun x H1 => ∃ i, x = .int i ∧ Q (some i) H1

theorem intsAre_of {ns : List Int} : ∀ {us : List Value}, Vals (ns.map V.int) us → IntsAre us ns := by
  induction ns with
  | nil => intro us r; rw [List.map_nil] at r; cases r; exact .nil
  | cons n ns ih =>
    intro us r
    rw [List.map_cons] at r
    cases r with
    | cons r1 r2 =>
      obtain ⟨t, e⟩ := r1
      subst e
      exact .cons n t (ih r2)

section
variable {X : Cx} {e : Expr} {te : TE} {lo hi : Option Expr} {tl th : TO} {pos p2 : Pos}

theorem po_none : PO X none tNoPart := by
  intro pins s σ H Q I h
  rw [evalPart_none]
  exact wpAny_pure ⟨none, H, I, .none, h⟩
theorem po_some (h : PE X e te) : PO X (some e) (tPart te) := by
  intro pins s σ H Q I hw
  rw [evalPart_some]
  refine thn (h pins s σ H _ I hw) fun u s1 ⟨x, H1, I1, r1, q1⟩ => ?_
  obtain ⟨i, rfl, q⟩ := q1
  obtain ⟨t, rfl⟩ := r1
  exact ⟨some i, H1, I1, .int i t, q⟩

/-- what a slice of a value is, by values: the slice object stands at sl -/
noncomputable def SlR (X : Cx) (r : V → Option Int → Option Int → Hp → VK → Prop) : Prop :=
  ∀ (pins : List (Addr × Obj)) (s : Shared) (σ : St) (H : Hp) (x : V) (v vl vu : Value) (lo hi : Option Int) (sl : Addr) (Q : VK), Inv X pins σ H s → RelV x v → s.heap.IsSliceOf sl vl vu .none → IsPart vl lo → IsPart vu hi → r x lo hi H Q →
    ∃ T id, typeLookup (.type T) "__getitem__" = pure (some (.builtin id)) ∧ s.TypeIs v T ∧ wpAny (model X.prog X.w) X.A (getItem v (.ref sl)) (EP X pins σ Q) X.xe s
noncomputable def tSl (r : V → Option Int → Option Int → Hp → VK → Prop) (te : TE) (tl th : TO) : TE := fun σ H Q => te σ H fun x H1 => tl σ H1 fun l H2 => th σ H2 fun u H3 => r x l u H3 Q
/-- a[lo:hi], any a -/
theorem pe_slice {r : V → Option Int → Option Int → Hp → VK → Prop} (hr : SlR X r) (he : PE X e te) (hl : PO X lo tl) (hu : PO X hi th) : PE X (.Subscript e (.Slice lo hi none p2) pos) (tSl r te tl th) := by
  intro pins s σ H Q I h
  refine Subscript_ (thn (he pins s σ H _ I h) fun v s1 ⟨x, H1, I1, r1, q1⟩ => ?_)
  refine wpAny_Slice (thn (hl pins s1 σ H1 _ I1 q1) fun vl s2 ⟨l, H2, I2, pl, q2⟩ => thn (hu pins s2 σ H2 _ I2 q2) fun vu s3 ⟨u, H3, I3, pu, q3⟩ => ?_)
  rw [evalPart_none]
  refine wpAny_pure ?_
  have I4 : Inv X pins σ H3 { s3 with heap := s3.heap.push { cls := .type "slice", data := .fields #[vl, vu, .none] } } := I3.kept (t' := s3.toks) fun b ob q => Heap.get?_push_of_some _ q
  obtain ⟨T, id, hT, ht, hg⟩ := hr pins { s3 with heap := s3.heap.push { cls := .type "slice", data := .fields #[vl, vu, .none] } } σ H3 x v vl vu l u s3.heap.objs.size Q I4 r1 (Heap.IsSliceOf.new ..) pl pu q3
  show wpAny (model X.prog X.w) X.A (subscriptTail e (.Slice lo hi none p2) v (.ref s3.heap.objs.size)) (EP X pins σ Q) X.xe { s3 with heap := s3.heap.push { cls := .type "slice", data := .fields #[vl, vu, .none] } }
  exact tail_any (ops := [.ref s3.heap.objs.size, v]) ht hT hg (by with_unfolding_all rfl)

/-- the items of xs[lo:hi] -/
noncomputable def cutV (xs : List V) (lo hi : Option Int) : List V := (xs.drop (HT.sIx xs.length 0 lo)).take (HT.sIx xs.length xs.length hi - HT.sIx xs.length 0 lo)
theorem cutV_length (xs : List V) (lo hi : Option Int) : (cutV xs lo hi).length ≤ xs.length := by
  unfold cutV
  rw [List.length_take, List.length_drop]
  omega
/-- t[lo:hi], not the whole of it (the whole would be t itself) -/
noncomputable def rSlT (K : PySem.W.Frag) : V → Option Int → Option Int → Hp → VK → Prop := fun x lo hi H Q => ∃ a xs, x = .ref a ∧ SqT K H a xs ∧
  ¬ (HT.sIx xs.length 0 lo = 0 ∧ HT.sIx xs.length xs.length hi = xs.length) ∧ ∀ p, H p = none → Q (.ref p) (upd H p (.tup (cutV xs lo hi)))
theorem sl_tup : SlR X (rSlT X.K) := by
  intro pins s σ H x v vl vu lo hi sl Q I rx hs pl pu h
  obtain ⟨a, xs, rfl, hx, hw, q⟩ := h
  cases rx
  obtain ⟨its, r, ht, hz⟩ := I.tuple hx
  have hlen : its.toArray.size = xs.length := by rw [List.size_toArray]; exact r.length.symm
  refine ⟨"tuple", _, PyProof.Rows.slot_tuple_getitem.lookup, ht.typeIs, ?_⟩
  refine HT.getItem_tuple_cut ht hs pl pu (by rw [hlen]; exact hw) ?_ (by rw [hlen]; exact hz)
  rw [hlen]
  refine ⟨.ref s.heap.objs.size, _, I.laid (t' := s.toks) (o := .tup (cutV xs lo hi)) (fun b ob q => Heap.get?_push_of_some _ q) (Nat.le_refl _) ?_, rfl, q _ (I.hok.fresh (Nat.le_refl _))⟩
  exact ⟨Nat.le_trans (cutV_length xs lo hi) hz, _, (r.drop (HT.sIx xs.length 0 lo)).take (HT.sIx xs.length xs.length hi - HT.sIx xs.length 0 lo), IsTup.new _ _⟩

/-! ### t < u, t + u -/
/-- t + u, t not empty: u empty gives t itself -/
noncomputable def rCatT (K : PySem.W.Frag) : R2 := fun x y H Q => ∃ a b xs ys, x = .ref a ∧ y = .ref b ∧ SqT K H a xs ∧ SqT K H b ys ∧ xs ≠ [] ∧ xs.length + ys.length ≤ sizeLine ∧
  (ys = [] → Q (.ref a) H) ∧ (ys ≠ [] → ∀ p, H p = none → Q (.ref p) (upd H p (.tup (xs ++ ys))))
theorem Vals.nil_iff {xs : List V} {us : List Value} (r : Vals xs us) : us = [] ↔ xs = [] := by
  cases r with
  | nil => simp
  | cons _ _ => simp
theorem op_catT : OpR X (binaryOp .Add) (rCatT X.K) := by
  intro pins s σ H x y v u Q I rx ry h
  obtain ⟨a, b, xs, ys, rfl, rfl, ha, hb, hx, hz, q1, q2⟩ := h
  cases rx
  cases ry
  obtain ⟨its, r1, p1, _⟩ := I.tuple ha
  obtain ⟨its2, r2, p2, _⟩ := I.tuple hb
  refine HT.cat_tup p1 p2 (fun z => hx (r1.nil_iff.mp z)) (fun z => ⟨.ref a, H, I, rfl, q1 (r2.nil_iff.mp z)⟩) (fun z => ?_) (by rw [← r1.length, ← r2.length]; exact hz)
  refine ⟨.ref s.heap.objs.size, _, I.laid (t' := s.toks) (o := .tup (xs ++ ys)) (fun b ob q => Heap.get?_push_of_some _ q) (Nat.le_refl _) ?_, rfl, q2 (fun w => z (r2.nil_iff.mpr w)) _ (I.hok.fresh (Nat.le_refl _))⟩
  exact ⟨by rw [List.length_append]; exact hz, _, r1.append r2, IsTup.new _ _⟩
end
end L2

namespace L2
open PySem PySem.Spec PyProof.Rows

/-! ### places -/
/-- the place that an index of any sign means -/
noncomputable def ixN (n : Nat) (i : Int) : Option Nat := if 0 ≤ i then (if i < n then some i.toNat else none) else if -(n : Int) ≤ i then some (i + n).toNat else none
noncomputable def atI {α : Type} (xs : List α) (i : Int) : Option α := (ixN xs.length i).bind fun j => xs[j]?
theorem ixN_seq {n : Nat} {i : Int} {j : Nat} (h : ixN n i = some j) : seqIndex? i n = some j ∧ j < n ∧ -(n : Int) ≤ i ∧ i < n := by
  unfold ixN at h
  by_cases h0 : 0 ≤ i
  · rw [if_pos h0] at h
    by_cases h1 : i < n
    · rw [if_pos h1] at h
      have e : i.toNat = j := Option.some.inj h
      exact ⟨by rw [seqIndex_of h0 h1, e], by omega, by omega, h1⟩
    · rw [if_neg h1] at h; cases h
  · rw [if_neg h0] at h
    by_cases h1 : -(n : Int) ≤ i
    · rw [if_pos h1] at h
      have e : (i + n).toNat = j := Option.some.inj h
      exact ⟨by rw [seqIndex_neg (by omega) h1, e], by omega, h1, by omega⟩
    · rw [if_neg h1] at h; cases h
theorem atI_get {α : Type} {xs : List α} {i : Int} {v : α} (h : atI xs i = some v) : ∃ j, seqIndex? i xs.length = some j ∧ xs[j]? = some v ∧ j < xs.length ∧ -(xs.length : Int) ≤ i ∧ i < xs.length := by
  unfold atI at h
  cases e : ixN xs.length i with
  | none => rw [e] at h; cases h
  | some j =>
    rw [e] at h
    obtain ⟨h1, h2, h3, h4⟩ := ixN_seq e
    exact ⟨j, h1, h, h2, h3, h4⟩
theorem atI_nat {α : Type} {xs : List α} {j : Nat} {v : α} (h : xs[j]? = some v) : atI xs (j : Int) = some v := by
  have hj : j < xs.length := (List.getElem?_eq_some_iff.mp h).1
  have e : ixN xs.length (j : Int) = some j := by
    unfold ixN
    rw [if_pos (by omega), if_pos (by omega)]; simp
  unfold atI; rw [e]; exact h

/-! ### what may be subscripted -/
/-- what stands as an index of a plain subscript -/
noncomputable def PlainIx (b : Expr) : Prop := ∀ o i, subscripted b false o i = operate [o, i] (getItem o i)
/-- a subscript by values -/
noncomputable def IxR (X : Cx) (r : R2) : Prop :=
  ∀ (value slice : Expr) (pins : List (Addr × Obj)) (s : Shared) (σ : St) (H : Hp) (x y : V) (v u : Value) (Q : VK), Inv X pins σ H s → RelV x v → RelV y u → r x y H Q →
    subscripted slice false v u = operate [v, u] (getItem v u) → wpAny (model X.prog X.w) X.A (subscriptTail value slice v u) (EP X pins σ Q) X.xe s
/-- a call of a builtin's method by values: the receiver, the arguments -/
noncomputable def MtR (X : Cx) (id : String) (r : V → List V → Hp → VK → Prop) : Prop :=
  ∀ (pins : List (Addr × Obj)) (s : Shared) (σ : St) (H : Hp) (x : V) (xs : List V) (v : Value) (us : List Value) (Q : VK), Inv X pins σ H s → RelV x v → Vals xs us → r x xs H Q →
    wpAny (model X.prog X.w) X.A (call (.builtin id) (v :: us)) (EP X pins σ Q) X.xe s
section
variable {X : Cx} {a b : Expr} {ta tb : TE} {pos : Pos}
/-- a[b] -/
theorem pe_ix {r : R2} (hr : IxR X r) (ha : PE X a ta) (hb : PE X b tb) (hs : PlainIx b) : PE X (.Subscript a b pos) (tOp r ta tb) := by
  intro pins s σ H Q I h
  exact Subscript_ (binT ha hb I h fun v u s2 x y H2 I2 rx ry q => hr a b pins s2 σ H2 x y v u Q I2 rx ry q (hs _ _))

noncomputable def rIxL (K : PySem.W.Frag) : R2 := fun x y H Q => ∃ p xs i v, x = .ref p ∧ y = .int i ∧ SqL K H p xs ∧ atI xs i = some v ∧ Q v H
noncomputable def rIxT (K : PySem.W.Frag) : R2 := fun x y H Q => ∃ p xs i v, x = .ref p ∧ y = .int i ∧ SqT K H p xs ∧ atI xs i = some v ∧ Q v H
noncomputable def rIxS : R2 := fun x y H Q => ∃ z i c, x = .str z ∧ y = .int i ∧ z.length ≤ sizeLine ∧ atI z.cps.toList i = some c ∧ Q (.str ⟨#[c]⟩) H
theorem ix_list : IxR X (rIxL X.K) := by
  intro value slice pins s σ H x y v u Q I rx ry h hs
  obtain ⟨p, xs, i, z, rfl, rfl, hq, he, q⟩ := h
  cases rx
  obtain ⟨t, rfl⟩ := ry
  obtain ⟨its, r, pl, hz⟩ := I.list hq
  obtain ⟨j, h1, h2, h3, h4, h5⟩ := atI_get he
  obtain ⟨w, ew, rw'⟩ := r.get h2
  have hl := r.length
  have hn := line63
  have fin : EP X pins σ Q w s := ⟨z, H, I, rw', q⟩
  by_cases h0 : 0 ≤ i
  · have hj : i.toNat = j := by
      rw [seqIndex_of h0 h5] at h1
      exact Option.some.inj h1
    exact item_listR pl.isList h0 (by omega) (by rw [hj]; simpa using ew) fin hs
  · have hj : (i + (its.toArray.size : Int)).toNat = j := by
      rw [seqIndex_neg (by omega) h4] at h1
      rw [List.size_toArray, ← hl]
      exact Option.some.inj h1
    exact subscriptTail_builtinR (x := w) pl.isList.typeIs slot_list_getitem.lookup
      (wpAny_getItem_list_neg (Q := fun r s' => r = w ∧ EP X pins σ Q r s') pl.isList (by omega) (by rw [List.size_toArray] <;> omega) (by omega) (by rw [hj]; simpa using ew) ⟨rfl, fin⟩) hs
theorem ix_tup : IxR X (rIxT X.K) := by
  intro value slice pins s σ H x y v u Q I rx ry h hs
  obtain ⟨p, xs, i, z, rfl, rfl, hq, he, q⟩ := h
  cases rx
  obtain ⟨t, rfl⟩ := ry
  obtain ⟨its, r, pl, hz⟩ := I.tuple hq
  obtain ⟨j, h1, h2, h3, h4, h5⟩ := atI_get he
  obtain ⟨w, ew, rw'⟩ := r.get h2
  have hl := r.length
  have hn := line63
  have fin : EP X pins σ Q w s := ⟨z, H, I, rw', q⟩
  exact subscriptTail_builtinR (x := w) pl.typeIs slot_tuple_getitem.lookup
    (getItem_tuple (j := j) (Q := fun r s' => r = w ∧ EP X pins σ Q r s') pl (by omega) (by omega) (by rw [List.size_toArray, ← hl]; exact h1) (by simpa using ew) ⟨rfl, fin⟩) hs
theorem ix_str : IxR X rIxS := by
  intro value slice pins s σ H x y v u Q I rx ry h hs
  obtain ⟨z, i, c, rfl, rfl, hz, he, q⟩ := h
  obtain ⟨t, rfl⟩ := rx
  obtain ⟨t', rfl⟩ := ry
  obtain ⟨j, h1, h2, h3, h4, h5⟩ := atI_get he
  have hl : z.cps.toList.length = z.length := by simp [Str.length]
  rw [hl] at h1 h4 h5
  have hn := line63
  exact tail_any (typeIs_str s z t) slot_str_getitem.lookup (getItem_str (c := c) (by
    have e1 : decide (i < -(2 ^ 63 : Int)) = false := decide_eq_false (by omega)
    have e2 : decide (i ≥ 2 ^ 63) = false := decide_eq_false (by omega)
    rw [e1, e2, Bool.or_false]) (by rw [h1]; simpa using h2) ⟨.str ⟨#[c]⟩, H, I.tok _, ⟨_, rfl⟩, q⟩) hs

/-! ### xs[i] = v, any sign -/
/-- the list's object behind a store -/
theorem mapSeq_set (its : List Value) (n j : Nat) (u : Value) : Obj.mapSeq (·.setIfInBounds j u) { cls := .type "list", data := .seq its.toArray n } = { cls := .type "list", data := .seq (its.set j u).toArray n } := by
  simp [Obj.mapSeq]
theorem Inv.lst {pins : List (Addr × Obj)} {σ : St} {H : Hp} {s : Shared} {p : Addr} {xs : List V} (I : Inv X pins σ H s) (h : H p = some (.lst xs)) :
    ∃ (its : List Value) (n : Nat), Vals xs its ∧ s.heap.get? p = some { cls := .type "list", data := .seq its.toArray n } ∧ xs.length ≤ sizeLine := by
  obtain ⟨z, its, n, r, e⟩ := I.hok p _ h
  exact ⟨its, n, r, e, z⟩
/-- the list at p is written by an update of its object -/
theorem Inv.lstUpd {pins : List (Addr × Obj)} {σ : St} {H : Hp} {s : Shared} {p : Addr} {xs ys : List V} {its its' : List Value} {n n' : Nat} {f : Obj → Obj} (I : Inv X pins σ H s) (h : H p = some (.lst xs))
    (ho : s.heap.get? p = some { cls := .type "list", data := .seq its.toArray n }) (hf : f { cls := .type "list", data := .seq its.toArray n } = { cls := .type "list", data := .seq its'.toArray n' }) (r : Vals ys its') (hz : ys.length ≤ sizeLine) (t : Nat) :
    Inv X pins σ (upd H p (.lst ys)) { s with heap := s.heap.update p f, toks := t } := by
  have e : (s.heap.update p f).get? p = some { cls := .type "list", data := .seq its'.toArray n' } := by
    rw [Heap.get?_update_self f ho (by rw [hf] <;> rfl), hf]
  refine I.write (x := p) (e := p) (by rw [h]; trivial) (.inl rfl) (fun b u hb q => (Heap.get?_update_other _ _ (Ne.symm hb)).trans q) ⟨_, e⟩ ?_
  exact ⟨hz, its', n', r, e⟩
noncomputable def rSetL : V → V → V → Hp → (Hp → Prop) → Prop := fun o i v H Q => ∃ p xs k j, o = .ref p ∧ i = .int k ∧ H p = some (.lst xs) ∧ ixN xs.length k = some j ∧ Q (upd H p (.lst (xs.set j v)))
theorem set_list : PSet X rSetL := by
  intro pins s σ H o i v ov iv u Q I ro ri rv h
  obtain ⟨p, xs, k, j, rfl, rfl, hp, hj, q⟩ := h
  cases ro
  obtain ⟨t, rfl⟩ := ri
  obtain ⟨its, n, r, ho, hz⟩ := I.lst hp
  obtain ⟨h1, h2, h3, h4⟩ := ixN_seq hj
  have hl := r.length
  have hn := line63
  have I' : Inv X pins σ (upd H p (.lst (xs.set j v))) { s with heap := s.heap.update p (Obj.mapSeq (·.setIfInBounds j u)) } :=
    I.lstUpd hp ho (mapSeq_set its n j u) (r.set rv j) (by rw [List.length_set]; exact hz) s.toks
  by_cases h0 : 0 ≤ k
  · have hk : k.toNat = j := by
      rw [seqIndex_of h0 h4] at h1
      exact Option.some.inj h1
    exact PySem.W.ki_setAt ho h0 (by omega) (by rw [List.size_toArray, ← hl]; exact h4) (by rw [hk]; exact ⟨_, I', q⟩)
  · have hk : (k + (its.toArray.size : Int)).toNat = j := by
      rw [seqIndex_neg (by omega) h3] at h1
      rw [List.size_toArray, ← hl]
      exact Option.some.inj h1
    exact PySem.W.ki_setBack ho (by omega) (by rw [List.size_toArray, ← hl]; exact h3) (by omega) (by rw [hk]; exact ⟨_, I', q⟩)

/-! ### slices -/
theorem slice_bounds (lo hi : Option Int) (n : Nat) : (sliceBounds lo hi none n).1 = ((HT.sIx n 0 lo : Nat) : Int) ∧ (sliceBounds lo hi none n).2.1 = ((HT.sIx n n hi : Nat) : Int) ∧ (sliceBounds lo hi none n).2.2 = 1 := by
  refine ⟨?_, ?_, rfl⟩
  · cases lo with
    | none => simp [sliceBounds, HT.sIx]
    | some i =>
      simp only [sliceBounds, HT.sIx, Option.getD_none, show (1 : Int) > 0 by decide, if_true]
      by_cases h : i < 0
      · simp only [h, if_true] <;> omega
      · simp only [h, if_false] <;> omega
  · cases hi with
    | none => simp [sliceBounds, HT.sIx]
    | some i =>
      simp only [sliceBounds, HT.sIx, Option.getD_none, show (1 : Int) > 0 by decide, if_true]
      by_cases h : i < 0
      · simp only [h, if_true] <;> omega
      · simp only [h, if_false] <;> omega
theorem slicePick_cut (its : List Value) (lo hi : Option Int) : slicePick its.toArray lo hi none = ((its.drop (HT.sIx its.length 0 lo)).take (HT.sIx its.length its.length hi - HT.sIx its.length 0 lo)).toArray := by
  obtain ⟨h1, h2, h3⟩ := slice_bounds lo hi its.toArray.size
  unfold slicePick
  rw [h1, h2, h3]
  simp only [sliceRange_one, pick_run, List.size_toArray] <;> rfl
/-- xs[lo:hi] of a list: a new list -/
noncomputable def rSlL (K : PySem.W.Frag) : V → Option Int → Option Int → Hp → VK → Prop := fun x lo hi H Q => ∃ a xs, x = .ref a ∧ SqL K H a xs ∧ ∀ p, H p = none → Q (.ref p) (upd H p (.lst (cutV xs lo hi)))
theorem sl_list : SlR X (rSlL X.K) := by
  intro pins s σ H x v vl vu lo hi sl Q I rx hs pl pu h
  obtain ⟨a, xs, rfl, hx, q⟩ := h
  cases rx
  obtain ⟨its, r, ht, hz⟩ := I.list hx
  have hlen := r.length
  refine ⟨"list", _, slot_list_getitem.lookup, ht.isList.typeIs, ?_⟩
  refine wpAny_getItem_list_slice ht.isList hs pl pu .none (by simp) ?_ (by rw [List.size_toArray] <;> omega)
  rw [slicePick_cut, ← hlen]
  refine ⟨.ref s.heap.objs.size, _, I.laid (t' := s.toks) (o := .lst (cutV xs lo hi)) (fun b ob q => Heap.get?_push_of_some _ q) (Nat.le_refl _) ?_, rfl, q _ (I.hok.fresh (Nat.le_refl _))⟩
  exact ⟨Nat.le_trans (cutV_length xs lo hi) hz, _, 0, (r.drop (HT.sIx xs.length 0 lo)).take (HT.sIx xs.length xs.length hi - HT.sIx xs.length 0 lo), Heap.get?_push_size _ rfl⟩

/-! ### in, not in: flat items -/

/-! ### len, list(x), tuple(x) of any list or tuple that is read -/
theorem call_len_seq : CallR X (.builtin "len") (fun xs H Q => ∃ p ys, xs = [.ref p] ∧ (SqL X.K H p ys ∨ SqT X.K H p ys) ∧ Q (.int ys.length) H) := by
  intro pins s σ H xs us Q I r h
  obtain ⟨p, ys, rfl, hq, q⟩ := h
  obtain ⟨u, rfl, rx⟩ := vals1 r
  cases rx
  have hn := line63
  rcases hq with hq | hq
  · obtain ⟨its, r', pl, hz⟩ := I.list hq
    have hlen := r'.length
    exact Calls.call_len_list pl.isList (by simp only [List.size_toArray] <;> omega) ⟨.int ys.length, H, I.tok _, ⟨s.toks + 1, by rw [List.size_toArray, hlen]⟩, q⟩
  · obtain ⟨its, r', pl, hz⟩ := I.tuple hq
    have hlen := r'.length
    exact len_tuple pl (by simp only [List.size_toArray] <;> omega) ⟨.int ys.length, H, I.tok _, ⟨s.toks + 1, by rw [List.size_toArray, hlen]⟩, q⟩
theorem call_len_str : CallR X (.builtin "len") (fun xs H Q => ∃ z, xs = [.str z] ∧ z.length ≤ sizeLine ∧ Q (.int z.length) H) := by
  intro pins s σ H xs us Q I r h
  obtain ⟨z, rfl, hz, q⟩ := h
  obtain ⟨u, rfl, t, rfl⟩ := vals1 r
  have hn := line63
  exact len_str (by omega) ⟨.int z.length, H, I.tok _, ⟨_, rfl⟩, q⟩
theorem call_list_of : CallR X (.type "list") (fun xs H Q => ∃ p ys, xs = [.ref p] ∧ (SqL X.K H p ys ∨ SqT X.K H p ys) ∧ ∀ l, H l = none → Q (.ref l) (upd H l (.lst ys))) := by
  intro pins s σ H xs us Q I r h
  obtain ⟨p, ys, rfl, hq, q⟩ := h
  obtain ⟨u, rfl, rx⟩ := vals1 r
  cases rx
  have fin : ∀ (its : List Value), Vals ys its → ys.length ≤ sizeLine → ∀ (h' : Heap) (c' : Nat), (∀ b o', s.heap.get? b = some o' → h'.get? b = some o') →
      h'.get? s.heap.objs.size = some { cls := .type "list", dict := none, data := .seq its.toArray c', slots := #[] } → EP X pins σ Q (.ref s.heap.objs.size) { s with heap := h' } := fun its r' hz h' c' kp e =>
    ⟨.ref s.heap.objs.size, _, I.laid (t' := s.toks) kp (Nat.le_refl _) (show ObjOk X.prog X.w _ h' _ (.lst ys) from ⟨hz, its, c', r', e⟩), rfl, q _ (I.hok.fresh (Nat.le_refl _))⟩
  rcases hq with hq | hq
  · obtain ⟨its, r', pl, hz⟩ := I.list hq
    have hlen := r'.length
    obtain ⟨o, ho, hc, n, hd⟩ := pl.isList
    exact call_list_seq p (.inl rfl) ho hc hd (fun h' c' kp e => fin its r' hz h' c' kp e) (by simp only [List.size_toArray] <;> omega)
  · obtain ⟨its, r', pl, hz⟩ := I.tuple hq
    have hlen := r'.length
    obtain ⟨o, ho, hc, n, hd⟩ := pl
    exact call_list_seq p (.inr rfl) ho hc hd (fun h' c' kp e => fin its r' hz h' c' kp e) (by simp only [List.size_toArray] <;> omega)
theorem call_tuple_of : CallR X (.type "tuple") (fun xs H Q => ∃ p ys, xs = [.ref p] ∧ ((SqL X.K H p ys ∧ ∀ l, H l = none → Q (.ref l) (upd H l (.tup ys))) ∨ (SqT X.K H p ys ∧ Q (.ref p) H))) := by
  intro pins s σ H xs us Q I r h
  obtain ⟨p, ys, rfl, h⟩ := h
  obtain ⟨u, rfl, rx⟩ := vals1 r
  cases rx
  rcases h with ⟨hq, q⟩ | ⟨hq, q⟩
  · obtain ⟨its, r', pl, hz⟩ := I.list hq
    have hlen := r'.length
    refine call_tuple_list pl.isList (fun h' kp => ?_) (by simp only [List.size_toArray] <;> omega)
    have I1 : Inv X pins σ H { s with heap := h' } := I.kept (t' := s.toks) kp
    have I2 : Inv X pins σ (upd H h'.objs.size (.tup ys)) { s with heap := h'.push { cls := .type "tuple", data := .seq its.toArray } } :=
      I1.laid (t' := s.toks) (fun b o e => Heap.get?_push_of_some _ e) (Nat.le_refl _) (show ObjOk X.prog X.w _ _ _ (.tup ys) from ⟨hz, its, r', IsTup.new _ _⟩)
    exact ⟨.ref h'.objs.size, _, I2, rfl, q _ (I1.hok.fresh (Nat.le_refl _))⟩
  · obtain ⟨its, r', pl, hz⟩ := I.tuple hq
    exact call_tuple_same pl ⟨.ref p, H, I, rfl, q⟩

/-! ### the call of a builtin's method: o.m(..) -/
/-- the value is of that builtin type -/
noncomputable def tyV (K : PySem.W.Frag) (T : String) (x : V) (H : Hp) : Prop := match x with
  | .str _ => T = "str"
  | .int _ => T = "int"
  | .ref p => (T = "list" ∧ ∃ xs, SqL K H p xs) ∨ (T = "tuple" ∧ ∃ o, K.lookup p = some o ∧ o.cls = .type "tuple" ∧ o.dict = none) ∨
      (T = "dict" ∧ ((∃ kvs, H p = some (.dK kvs)) ∨ ∃ kvs, H p = some (.dT kvs))) ∨ (T = "set" ∧ ∃ S n, H p = some (.set S n))
  | _ => False
theorem tyV_is {pins : List (Addr × Obj)} {σ : St} {H : Hp} {s : Shared} {T : String} {x : V} {v : Value} (I : Inv X pins σ H s) (r : RelV x v) (ty : tyV X.K T x H) :
    s.TypeIs v T ∧ ∀ a, v = .ref a → ∃ ob, s.heap.get? a = some ob ∧ ob.dict = none := by
  cases x with
  | str z =>
    obtain ⟨t, rfl⟩ := r
    cases (show T = "str" from ty)
    exact ⟨typeIs_str s z t, fun _ e => nomatch e⟩
  | int i =>
    obtain ⟨t, rfl⟩ := r
    cases (show T = "int" from ty)
    exact ⟨typeIs_int s i t, fun _ e => nomatch e⟩
  | ref p =>
    cases r
    rcases ty with ⟨rfl, xs, hq⟩ | ⟨rfl, o, hk, hc, hd⟩ | ⟨rfl, hk⟩ | ⟨rfl, S, n, hk⟩
    · obtain ⟨its, _, pl, _⟩ := I.list hq
      refine ⟨pl.isList.typeIs, fun a e => ?_⟩
      cases e
      obtain ⟨o, n, e, c, hd, _⟩ := pl
      exact ⟨o, e, hd⟩
    · refine ⟨⟨o, I.kIn p o hk, hc⟩, fun a e => ?_⟩
      cases e
      exact ⟨o, I.kIn _ o hk, hd⟩
    · have z : ∃ o, s.heap.get? p = some o ∧ o.ExactDict := by
        rcases hk with ⟨kvs, hk⟩ | ⟨kvs, hk⟩
        · obtain ⟨_, _, _, _, o, _, _, e, ex, _⟩ := I.hok p _ hk
          exact ⟨o, e, ex⟩
        · obtain ⟨_, _, _, _, o, _, _, e, ex, _⟩ := I.hok p _ hk
          exact ⟨o, e, ex⟩
      obtain ⟨o, e, ex⟩ := z
      refine ⟨⟨o, e, ex.1⟩, fun a e2 => ?_⟩
      cases e2
      exact ⟨o, e, ex.2.1⟩
    · obtain ⟨o, _, _, _, e, ex, _⟩ := I.hok p _ hk
      refine ⟨⟨o, e, ex.1⟩, fun a e2 => ?_⟩
      cases e2
      exact ⟨o, e, ex.2.1⟩
  | _ => exact False.elim ty
noncomputable def tBM (K : PySem.W.Frag) (T : String) (r : V → List V → Hp → VK → Prop) (to : TE) (t : TA) : TE := fun σ H Q => to σ H fun x H1 => tyV K T x H1 ∧ t σ H1 fun xs H2 => r x xs H2 Q
variable {o e : Expr} {es : List Expr} {to : TE} {t : TA} {name : Str} {apos cpos : Pos} {T id : String} {r : V → List V → Hp → VK → Prop}
theorem pe_bm (pa : PlainAttrs T) (slot : Slot T name id) (hty : typeOf (.builtin id) = pure (.type "method_descriptor")) (hm : MtR X id r) (ho : PE X o to) (ha : PA X (e :: es) t)
    (hbase : attributeBase o name X.env (eval o X.env) = eval o X.env := by rfl)
    (hfew : ((backTo cpos (starEach (e :: es) X.env)).all (fun x => !x.1) && (backToKw cpos (keywordEach [] X.env)).all (fun x => x.1.isSome)
      && decide ((e :: es).length + ([] : List Keyword).length + (if ([] : List Keyword).isEmpty then 0 else 1) < 30)) = true := by rfl)
    (hline : (apos.endLine == cpos.line) = true := by rfl) (hs : starEach (e :: es) X.env = (false, eval e X.env) :: starEach es X.env := by rfl) (hplain : (backTo cpos (starEach es X.env)).any (·.1) = false := by rfl) :
    PE X (.Call (.Attribute o name apos) (e :: es) [] cpos) (tBM X.K T r to t) := by
  intro pins s σ H Q I h
  refine wpAny_Call_method_late hbase hfew hline rfl (thn (ho pins s σ H _ I h) fun v s1 ⟨x, H1, I1, r1, ty, q1⟩ => ?_)
  obtain ⟨h1, h2⟩ := tyV_is I1 r1 ty
  refine ⟨T, id, pa, slot, hty, h1, h2, ?_⟩
  have hA := ha cpos pins s1 σ H1 _ I1 q1
  rw [hs] at hA ⊢
  refine Calls.callWith_builtin (by show (false || (backTo cpos (starEach es X.env)).any (·.1)) = false; rw [hplain] <;> rfl) (Calls.evalArgs_plain ?_)
  exact thn hA fun us s2 ⟨vs, H2, I2, r2, q2⟩ => hm pins s2 σ H2 x vs v us Q I2 r1 r2 q2
/- xs.append(e), list.index on a module's tuple .. are MtR facts of 06m -/
end
end L2

namespace L2
open PySem PySem.Spec PyProof.Rows

noncomputable def MtM (X : Cx) (id : String) (r : V → List V → Hp → VK → Prop) : Prop :=
  ∀ (pins : List (Addr × Obj)) (s : Shared) (σ : St) (H : Hp) (x : V) (xs : List V) (v : Value) (us : List Value) (Q : VK), Inv X pins σ H s → RelV x v → Vals xs us → r x xs H Q →
    wpAny (model X.prog X.w) X.A (call (.builtin id) (v :: us)) (EP X pins σ Q) X.xe s

/-! ### lists of values -/
theorem Vals.one : ∀ {x : V} {us : List Value}, Vals [x] us → ∃ u, us = [u] ∧ RelV x u
  | _, _, .cons r .nil => ⟨_, rfl, r⟩
theorem Vals.two : ∀ {x y : V} {us : List Value}, Vals [x, y] us → ∃ u v, us = [u, v] ∧ RelV x u ∧ RelV y v
  | _, _, _, .cons r (.cons q .nil) => ⟨_, _, rfl, r, q⟩
theorem Vals.eraseIdx : ∀ {xs : List V} {us : List Value} (i : Nat), Vals xs us → Vals (xs.eraseIdx i) (us.eraseIdx i)
  | _, _, _, .nil => .nil
  | _, _, 0, .cons _ t => t
  | _, _, i + 1, .cons r t => .cons r (Vals.eraseIdx i t)
theorem Vals.rep {xs : List V} {us : List Value} (h : Vals xs us) : ∀ k : Nat, Vals (List.replicate k xs).flatten (List.replicate k us).flatten
  | 0 => .nil
  | k + 1 => by
    rw [List.replicate_succ, List.replicate_succ, List.flatten_cons, List.flatten_cons]
    exact Vals.append h (Vals.rep h k)
theorem len_erase {α : Type} : ∀ (l : List α) (i : Nat), (l.eraseIdx i).length ≤ l.length
  | [], _ => Nat.le_refl _
  | _ :: _, 0 => Nat.le_succ _
  | _ :: r, i + 1 => Nat.succ_le_succ (len_erase r i)
theorem foldl_rep (its : List Value) : ∀ (k : Nat) (acc : List Value),
    List.foldl (fun x1 x2 => x1 ++ x2) acc.toArray (List.replicate k its.toArray) = (acc ++ (List.replicate k its).flatten).toArray
  | 0, acc => by simp
  | k + 1, acc => by
    have e : acc.toArray ++ its.toArray = (acc ++ its).toArray := by simp
    have e2 : (acc ++ its) ++ (List.replicate k its).flatten = acc ++ (List.replicate (k + 1) its).flatten := by
      rw [List.replicate_succ, List.flatten_cons, List.append_assoc]
    rw [← e2, ← foldl_rep its k (acc ++ its), ← e, List.replicate_succ, List.foldl_cons]

section
variable {X : Cx} {pins : List (Addr × Obj)} {σ : St} {H : Hp} {s : Shared} {l b : Addr} {xs ys zs : List V}

/-! ### the two steps: a tracked list is rewritten, a new list is laid -/
theorem Inv.lset {its its' : List Value} {n : Nat} {f : Array Value → Array Value} {t' : Nat} (I : Inv X pins σ H s) (hH : H l = some (.lst xs))
    (e : s.heap.get? l = some { cls := .type "list", data := .seq its.toArray n }) (hf : f its.toArray = its'.toArray) (hv : Vals ys its') (hz : ys.length ≤ sizeLine) :
    Inv X pins σ (upd H l (.lst ys)) { s with heap := s.heap.update l (Obj.mapSeq f), toks := t' } := by
  have q := PySem.IsL.update e f
  rw [hf] at q
  refine I.write (x := l) (e := l) (by rw [hH]; exact trivial) (.inl rfl) (fun b' u hb hu => (Heap.get?_update_other s.heap (Obj.mapSeq f) (Ne.symm hb)).trans hu) ⟨_, q⟩ ?_
  exact ⟨hz, its', _, hv, q⟩
theorem Inv.lnew {its : List Value} {t' : Nat} (I : Inv X pins σ H s) (hv : Vals ys its) (hz : ys.length ≤ sizeLine) :
    Inv X pins σ (upd H s.heap.objs.size (.lst ys)) { s with heap := s.heap.push { cls := .type "list", data := .seq its.toArray }, toks := t' } :=
  I.laid (fun _ _ q => Heap.get?_push_of_some _ q) (Nat.le_refl _) ⟨hz, its, 0, hv, Heap.get?_push_size _ rfl⟩
theorem Inv.fresh (I : Inv X pins σ H s) : H s.heap.objs.size = none := I.hok.fresh (Nat.le_refl _)
theorem Inv.lstM (I : Inv X pins σ H s) (hH : H l = some (.lst xs)) : xs.length ≤ sizeLine ∧ ∃ (its : List Value) (n : Nat), Vals xs its ∧ xs.length = its.length ∧ s.heap.get? l = some { cls := .type "list", data := .seq its.toArray n } := by
  obtain ⟨z, its, n, r, e⟩ := I.hok l _ hH
  exact ⟨z, its, n, r, r.length, e⟩

theorem notLongL {n : Nat} (h : n ≤ sizeLine) : Builtin.List.listTooLong n = false := by
  unfold Builtin.List.listTooLong
  exact decide_eq_false (by omega)
end

section
variable {X : Cx}

/-! ### methods -/
noncomputable def rAppend : V → List V → Hp → VK → Prop := fun x vs H Q => ∃ l xs y, x = .ref l ∧ vs = [y] ∧ H l = some (.lst xs) ∧ xs.length < sizeLine ∧ Q .non (upd H l (.lst (xs ++ [y])))
theorem mt_append : MtM X "list.append" rAppend := by
  intro pins s σ H x vs v us Q I rx rv h
  obtain ⟨l, xs, y, rfl, rfl, hH, hz, q⟩ := h
  cases rx
  obtain ⟨u, rfl, ru⟩ := rv.one
  obtain ⟨z, its, n, r, hl, e⟩ := I.lstM hH
  refine call_meets F.slot_list_append ⟨_, e, rfl⟩ F.entry_list_append (F.args_list_append_2 _ _) (PySem.list_append l its.toArray n u (by rw [List.size_toArray]; omega)) ⟨e, ?_⟩
  refine ⟨.non, _, I.lset (its' := its ++ [u]) hH e (by simp) (r.append (.cons ru .nil)) ?_, rfl, q⟩
  rw [List.length_append, List.length_singleton]
  omega

noncomputable def rExtend : V → List V → Hp → VK → Prop := fun x vs H Q => ∃ l b xs zs, x = .ref l ∧ vs = [.ref b] ∧ H l = some (.lst xs) ∧ H b = some (.lst zs) ∧ xs.length + zs.length ≤ sizeLine ∧ Q .non (upd H l (.lst (xs ++ zs)))
theorem mt_extend : MtM X "list.extend" rExtend := by
  intro pins s σ H x vs v us Q I rx rv h
  obtain ⟨l, b, xs, zs, rfl, rfl, hH, hB, hz, q⟩ := h
  cases rx
  obtain ⟨u, rfl, ru⟩ := rv.one
  cases ru
  obtain ⟨z, its, n, r, hl, e⟩ := I.lstM hH
  obtain ⟨z2, its2, n2, r2, hl2, e2⟩ := I.lstM hB
  have hsz : its.toArray.size + its2.toArray.size ≤ sizeLine := by rw [List.size_toArray, List.size_toArray]; omega
  have hlong : ¬ (!its.toArray.isEmpty && Builtin.List.listTooLong (its.toArray.size + its2.toArray.size)) = true := by
    rw [notLongL hsz, Bool.and_false]
    exact Bool.false_ne_true
  refine call_meets F.slot_list_extend ⟨_, e, rfl⟩ F.entry_list_extend (F.args_list_extend_2 _ _)
    (AutoSeq1.list_extend_list_list_0 l its.toArray n b its2.toArray n2 hlong (by rw [List.size_toArray]; omega) (by omega)) ⟨e, e2, ?_⟩
  refine ⟨.non, _, I.lset (its' := its ++ its2) hH e (by simp) (r.append r2) ?_, rfl, q⟩
  rw [List.length_append]
  omega

noncomputable def rPopAt : V → List V → Hp → VK → Prop := fun x vs H Q => ∃ l xs i k y, x = .ref l ∧ vs = [.int i] ∧ H l = some (.lst xs) ∧ -(2 ^ 63) ≤ i ∧ i < 2 ^ 63 ∧ seqIndex? i xs.length = some k ∧ xs[k]? = some y ∧ Q y (upd H l (.lst (xs.eraseIdx k)))
theorem mt_popAt : MtM X "list.pop" rPopAt := by
  intro pins s σ H x vs v us Q I rx rv h
  obtain ⟨l, xs, i, k, y, rfl, rfl, hH, h1, h2, hk, hy, q⟩ := h
  cases rx
  obtain ⟨u, rfl, ru⟩ := rv.one
  obtain ⟨t, rfl⟩ := ru
  obtain ⟨z, its, n, r, hl, e⟩ := I.lstM hH
  obtain ⟨w, hw, rw'⟩ := r.get hy
  refine call_meets F.slot_list_pop ⟨_, e, rfl⟩ F.entry_list_pop (F.args_list_pop_2 _ _)
    (MeetsSeq.list_pop_at l its.toArray n i t k w (fitsIndex_both h1 h2) (by rw [List.size_toArray, ← hl]; exact hk) (by rw [← Array.getElem?_toList]; exact hw) (by rw [List.size_toArray]; omega)) ⟨e, ?_⟩
  refine ⟨y, _, I.lset (its' := its.eraseIdx k) hH e ?_ (r.eraseIdx k) ?_, rw', q⟩
  · show its.toArray.eraseIdxIfInBounds k = (its.eraseIdx k).toArray
    rw [List.eraseIdxIfInBounds_toArray]
  · have := len_erase xs k
    omega

/-! ### list + list, list += list, list * int -/
noncomputable def rCat : R2 := fun x y H Q => ∃ l b xs zs, x = .ref l ∧ y = .ref b ∧ H l = some (.lst xs) ∧ H b = some (.lst zs) ∧ xs.length + zs.length ≤ sizeLine ∧ ∀ p, H p = none → Q (.ref p) (upd H p (.lst (xs ++ zs)))
theorem op_cat : OpR X (binaryOp .Add) rCat := by
  intro pins s σ H x y v u Q I rx ry h
  obtain ⟨l, b, xs, zs, rfl, rfl, hH, hB, hz, q⟩ := h
  cases rx
  cases ry
  obtain ⟨z, its, n, r, hl, e⟩ := I.lstM hH
  obtain ⟨z2, its2, n2, r2, hl2, e2⟩ := I.lstM hB
  refine PySem.P.add_list e e2 ?_ (by rw [List.size_toArray, List.size_toArray]; omega)
  have ea : its.toArray ++ its2.toArray = (its ++ its2).toArray := by simp
  rw [ea]
  exact ⟨.ref _, _, I.lnew (t' := s.toks) (r.append r2) (by rw [List.length_append]; omega), rfl, q _ I.fresh⟩
theorem len_rep {α : Type} (xs : List α) (k : Nat) : (List.replicate k xs).flatten.length = k * xs.length := by
  induction k with
  | zero => simp
  | succ k ih => rw [List.replicate_succ, List.flatten_cons, List.length_append, ih, Nat.succ_mul, Nat.add_comm]

/-! ### del xs[i] -/
end

/-! ### xs[a:b] = ys -/
section
variable {prog : Program} {w : World} {A : Around} {E : Value → Shared → Prop} {s : Shared}
end

section
variable {X : Cx}
end
end L2

namespace L2
open PySem PySem.Spec PyProof.Rows

/-! ### lists of pairs as tables -/
section
variable {κ : Type} [DecidableEq κ]
noncomputable def valV (kvs : List (κ × V)) (k : κ) : Option V := (kvs.find? fun kv => decide (kv.1 = k)).map (·.2)
/-- in its place, or at the end -/
noncomputable def putK (kvs : List (κ × V)) (k : κ) (v : V) : List (κ × V) :=
  if (kvs.any fun kv => decide (kv.1 = k)) = true then kvs.map (fun kv => if kv.1 = k then (kv.1, v) else kv) else kvs ++ [(k, v)]

theorem valV_pos {p : κ × V} {r : List (κ × V)} {k : κ} (e : p.1 = k) : valV (p :: r) k = some p.2 := by simp [valV, List.find?_cons, e]
theorem valV_neg {p : κ × V} {r : List (κ × V)} {k : κ} (e : ¬ p.1 = k) : valV (p :: r) k = valV r k := by simp [valV, List.find?_cons, e]
theorem valV_any (k : κ) : ∀ kvs : List (κ × V), (kvs.any fun kv => decide (kv.1 = k)) = (valV kvs k).isSome
  | [] => rfl
  | p :: r => by
    rw [List.any_cons]
    by_cases e : p.1 = k
    · simp only [valV_pos e, decide_eq_true e, Bool.true_or, Option.isSome_some]
    · rw [valV_neg e, decide_eq_false e, Bool.false_or]; exact valV_any k r
theorem valV_map (k j : κ) (y : V) : ∀ kvs : List (κ × V), valV (kvs.map fun kv => if kv.1 = k then (kv.1, y) else kv) j = (valV kvs j).map fun x => if j = k then y else x
  | [] => rfl
  | p :: r => by
    have ih := valV_map k j y r
    rw [List.map_cons]
    by_cases h : p.1 = k
    · rw [if_pos h]
      by_cases e : p.1 = j
      · rw [valV_pos (p := (p.1, y)) e, valV_pos e, Option.map_some, if_pos (e.symm.trans h)]
      · rw [valV_neg (p := (p.1, y)) e, valV_neg e, ih]
    · rw [if_neg h]
      by_cases e : p.1 = j
      · rw [valV_pos (p := p) e, valV_pos e, Option.map_some, if_neg (fun z => h (e.trans z))]
      · rw [valV_neg (p := p) e, valV_neg e, ih]
theorem valV_snoc (k j : κ) (y : V) : ∀ kvs : List (κ × V), valV kvs k = none → valV (kvs ++ [(k, y)]) j = if j = k then some y else valV kvs j
  | [], _ => by
    by_cases e : k = j
    · rw [if_pos e.symm]; exact valV_pos (p := (k, y)) e
    · rw [if_neg (fun z => e z.symm)]; exact valV_neg (p := (k, y)) e
  | p :: r, hn => by
    rw [List.cons_append]
    have hk : ¬ p.1 = k := fun z => by rw [valV_pos z] at hn; cases hn
    rw [valV_neg hk] at hn
    have ih := valV_snoc k j y r hn
    by_cases e : p.1 = j
    · rw [valV_pos e, valV_pos e, if_neg (fun z => hk (e.trans z))]
    · rw [valV_neg e, valV_neg e, ih]
theorem valV_put (kvs : List (κ × V)) (k j : κ) (y : V) : valV (putK kvs k y) j = if j = k then some y else valV kvs j := by
  unfold putK
  by_cases a : (kvs.any fun kv => decide (kv.1 = k)) = true
  · rw [if_pos a, valV_map]
    rw [valV_any] at a
    by_cases e : j = k
    · obtain ⟨x, hx⟩ := Option.isSome_iff_exists.mp a
      rw [if_pos e, e, hx, Option.map_some, if_pos rfl]
    · rw [if_neg e]
      cases valV kvs j with
      | none => rfl
      | some x => rw [Option.map_some, if_neg e]
  · rw [if_neg a]
    refine valV_snoc k j y kvs ?_
    rw [valV_any] at a
    cases q : valV kvs k with
    | none => rfl
    | some x => rw [q] at a; exact (a rfl).elim
theorem length_putK (kvs : List (κ × V)) (k : κ) (v : V) : (putK kvs k v).length ≤ kvs.length + 1 := by
  unfold putK
  split
  · rw [List.length_map]; omega
  · rw [List.length_append, List.length_cons, List.length_nil]; omega
theorem putK_new {kvs : List (κ × V)} {k : κ} (v : V) (h : valV kvs k = none) : putK kvs k v = kvs ++ [(k, v)] := by
  unfold putK
  rw [valV_any, h]
  exact if_neg (by decide)

theorem RelO.isSome_eq {o : Option V} {u : Option Value} (r : RelO o u) : o.isSome = u.isSome := by
  cases o with
  | none => cases u with
    | none => rfl
    | some _ => exact (show False from r).elim
  | some _ => cases u with
    | none => exact (show False from r).elim
    | some _ => rfl

/-- raw tables of the same keys -/
theorem KV.val {kvs : List (κ × V)} {vs : List (κ × Value)} (r : KV kvs vs) (k : κ) : RelO (valV kvs k) (valueAt vs k) := by
  unfold KV at r
  induction r with
  | nil => exact True.intro
  | @cons p q ps qs h t ih =>
    obtain ⟨h1, h2⟩ := h
    by_cases e : p.1 = k
    · have e' : q.1 = k := h1.symm.trans e
      have b : valueAt (q :: qs) k = some q.2 := by simp [valueAt, List.find?_cons, e']
      rw [valV_pos e, b]; exact h2
    · have e' : ¬ q.1 = k := fun z => e (h1.trans z)
      have b : valueAt (q :: qs) k = valueAt qs k := by simp [valueAt, List.find?_cons, e']
      rw [valV_neg e, b]; exact ih
theorem KV.any {kvs : List (κ × V)} {vs : List (κ × Value)} (r : KV kvs vs) (k : κ) : (kvs.any fun kv => decide (kv.1 = k)) = vs.any fun kv => decide (kv.1 = k) := by
  unfold KV at r
  induction r with
  | nil => rfl
  | cons h t ih => rw [List.any_cons, List.any_cons, ih, h.1]
theorem KV.repl {kvs : List (κ × V)} {vs : List (κ × Value)} (r : KV kvs vs) (k : κ) {y : V} {u : Value} (ry : RelV y u) :
    KV (kvs.map fun kv => if kv.1 = k then (kv.1, y) else kv) (vs.map fun kv => if kv.1 = k then (kv.1, u) else kv) := by
  unfold KV at r ⊢
  induction r with
  | nil => exact .nil
  | @cons p q ps qs h t ih =>
    rw [List.map_cons, List.map_cons]
    refine .cons ?_ ih
    obtain ⟨h1, h2⟩ := h
    by_cases e : p.1 = k
    · rw [if_pos e, if_pos (h1.symm.trans e)]; exact ⟨h1, ry⟩
    · rw [if_neg e, if_neg (fun z => e (h1.trans z))]; exact ⟨h1, h2⟩
theorem KV.put {kvs : List (κ × V)} {vs : List (κ × Value)} (r : KV kvs vs) (k : κ) {y : V} {u : Value} (ry : RelV y u) : KV (putK kvs k y) (stored vs k u) := by
  unfold putK stored
  rw [r.any k]
  by_cases e : (vs.any fun kv => decide (kv.1 = k)) = true
  · rw [if_pos e, if_pos e]; exact r.repl k ry
  · rw [if_neg e, if_neg e]; exact Paired.snoc r ⟨rfl, ry⟩
theorem KV.length {kvs : List (κ × V)} {vs : List (κ × Value)} (r : KV kvs vs) : kvs.length = vs.length := Paired.length r
end

/-! ### a tracked dict, its keys ints and texts or tuples of these -/
theorem kV_is {P : Program} {w : World} {k : Key} {u : Value} (r : RelV (kV k) u) : (mixKind P w).is k u = true := by
  cases k with
  | inl i => obtain ⟨t, e⟩ := (show ∃ t, u = Value.int i t from r); subst e; exact mixKind_int P w i t
  | inr x => obtain ⟨t, e⟩ := (show ∃ t, u = Value.str x t from r); subst e; exact mixKind_str P w x t
theorem items_are {P : Program} {w : World} : ∀ {ks : List Key} {us : List Value}, Vals (ks.map kV) us → ItemsAre (mixKind P w) ks us
  | [], _, r => by rw [List.map_nil] at r; cases r; exact .nil
  | k :: ks, _, r => by
    rw [List.map_cons] at r
    cases r with
    | cons h t => exact .cons (kV_is h) (items_are t)

/-- raw entries of a dict with tuple keys -/
noncomputable abbrev KT (H : Hp) : List (List Key × V) → List (List Key × Addr × Value) → Prop := Paired fun p q => p.1 = q.1 ∧ H q.2.1 = some (.tup (p.1.map kV)) ∧ RelV p.2 q.2.2
theorem KT.val {H : Hp} {kvs : List (List Key × V)} {xs : List (List Key × Addr × Value)} (r : KT H kvs xs) (k : List Key) : RelO (valV kvs k) ((atKey xs k).map (·.2)) := by
  induction r with
  | nil => exact True.intro
  | @cons p q ps qs h t ih =>
    obtain ⟨h1, _, h2⟩ := h
    by_cases e : p.1 = k
    · have e' : q.1 = k := h1.symm.trans e
      have b : atKey (q :: qs) k = some q.2 := by simp [atKey, List.find?_cons, e']
      rw [valV_pos e, b]; exact h2
    · have e' : ¬ q.1 = k := fun z => e (h1.trans z)
      have b : atKey (q :: qs) k = atKey qs k := by simp [atKey, List.find?_cons, e']
      rw [valV_neg e, b]; exact ih
theorem KT.repl {H : Hp} {kvs : List (List Key × V)} {xs : List (List Key × Addr × Value)} (r : KT H kvs xs) (k : List Key) {y : V} {u : Value} (ry : RelV y u) :
    KT H (kvs.map fun kv => if kv.1 = k then (kv.1, y) else kv) (xs.map (putAt k u)) := by
  induction r with
  | nil => exact .nil
  | @cons p q ps qs h t ih =>
    rw [List.map_cons, List.map_cons]
    refine .cons ?_ ih
    obtain ⟨h1, h2, h3⟩ := h
    unfold putAt
    by_cases e : p.1 = k
    · rw [if_pos e, if_pos (h1.symm.trans e)]; exact ⟨h1, h2, ry⟩
    · rw [if_neg e, if_neg (fun z => e (h1.trans z))]; exact ⟨h1, h2, h3⟩
theorem KT.put {H : Hp} {kvs : List (List Key × V)} {xs : List (List Key × Addr × Value)} (r : KT H kvs xs) (k : List Key) {b : Addr} {y : V} {u : Value} (hb : H b = some (.tup (k.map kV))) (ry : RelV y u) :
    KT H (putK kvs k y) (storedH xs k b u) := by
  have e : (kvs.any fun kv => decide (kv.1 = k)) = (atKey xs k).isSome := by
    rw [valV_any, (r.val k).isSome_eq, Option.isSome_map]
  unfold putK storedH
  rw [e]
  by_cases q : (atKey xs k).isSome = true
  · rw [if_pos q, if_pos q]; exact r.repl k ry
  · rw [if_neg q, if_neg q]; exact Paired.snoc r ⟨rfl, hb, ry⟩
theorem KT.keeps {H H' : Hp} {kvs : List (List Key × V)} {xs : List (List Key × Addr × Value)} (r : KT H kvs xs) (ht : ∀ b ys, H b = some (.tup ys) → H' b = some (.tup ys)) : KT H' kvs xs :=
  Paired.mapP r fun _ _ z => ⟨z.1, ht _ _ z.2.1, z.2.2⟩

section
variable {P : Program} {w : World} {H : Hp} {h : Heap} {a : Addr}
theorem rd_of {u : HO} (ok : HOk P w H h) (e : Rd H a u) : ObjOk P w H h a u := e.ok ok
theorem dk_rd {kvs : List (Key × V)} (ok : HOk P w H h) (e : Rd H a (.dK kvs)) : kvs.length ≤ sizeLine ∧ (a == sysModules) = false ∧ ∃ vs, KV kvs vs ∧ h.DictOf (mixKind P w) a vs :=
  show ObjOk P w H h a (.dK kvs) from rd_of ok e
theorem dk_of {kvs : List (Key × V)} (ok : HOk P w H h) (e : H a = some (.dK kvs)) : kvs.length ≤ sizeLine ∧ (a == sysModules) = false ∧ ∃ vs, KV kvs vs ∧ h.DictOf (mixKind P w) a vs := dk_rd ok (.inl e)
/-- a tracked tuple of ints and texts is a key -/
theorem key_of {ks : List Key} (ok : HOk P w H h) (e : H a = some (.tup (ks.map kV))) : (tupleKind (mixKind P w)).is h ks a := by
  obtain ⟨_, its, r, o, h1, h2, n, h3⟩ := (show ObjOk P w H h a (.tup (ks.map kV)) from ok a _ e)
  exact ⟨o, its.toArray, n, h1, h2, h3, by simpa using items_are r⟩
theorem dt_rd {kvs : List (List Key × V)} (ok : HOk P w H h) (e : Rd H a (.dT kvs)) : kvs.length ≤ sizeLine ∧ (a == sysModules) = false ∧
    ∃ xs, KT H kvs xs ∧ h.DictOfH (tupleKind (mixKind P w)) a xs := by
  obtain ⟨z, y, xs, r, o, es, ep, h1, h2, h3, h4, h5⟩ := (show ObjOk P w H h a (.dT kvs) from rd_of ok e)
  refine ⟨z, y, xs, r, o, es, ep, h1, h2, h3, h4, fun x hx => ?_, h5⟩
  have all : ∀ {l : List (List Key × V)} {m : List (List Key × Addr × Value)}, KT H l m → ∀ x ∈ m, (tupleKind (mixKind P w)).is h x.1 x.2.1 := by
    intro l m q
    induction q with
    | nil => intro x hx; exact nomatch hx
    | @cons p q ps qs hq t ih =>
      intro x hx
      rcases List.mem_cons.mp hx with e | hx
      · subst e
        exact key_of ok (by rw [← hq.1]; exact hq.2.1)
      · exact ih x hx
  exact all r x hx
theorem dt_of {kvs : List (List Key × V)} (ok : HOk P w H h) (e : H a = some (.dT kvs)) : kvs.length ≤ sizeLine ∧ (a == sysModules) = false ∧
    ∃ xs, KT H kvs xs ∧ h.DictOfH (tupleKind (mixKind P w)) a xs := dt_rd ok (.inl e)
end

/-- what the dict at a holds at the key y -/
noncomputable def DGet (H : Hp) (a : Addr) (y : V) (r : Option V) : Prop :=
  (∃ kvs k, Rd H a (.dK kvs) ∧ y = kV k ∧ r = valV kvs k) ∨ ∃ kvs k b, Rd H a (.dT kvs) ∧ y = .ref b ∧ H b = some (.tup (k.map kV)) ∧ r = valV kvs k
/-- the heap behind a[y] = v -/
noncomputable def DPut (H : Hp) (a : Addr) (y v : V) (H' : Hp) : Prop :=
  (∃ kvs k, H a = some (.dK kvs) ∧ y = kV k ∧ kvs.length < sizeLine ∧ H' = upd H a (.dK (putK kvs k v))) ∨
  ∃ kvs k b, H a = some (.dT kvs) ∧ y = .ref b ∧ H b = some (.tup (k.map kV)) ∧ kvs.length < sizeLine ∧ H' = upd H a (.dT (putK kvs k v))
theorem DGet.t {H : Hp} {a b : Addr} {kvs : List (List Key × V)} {k : List Key} (e : H a = some (.dT kvs)) (eb : H b = some (.tup (k.map kV))) : DGet H a (.ref b) (valV kvs k) := .inr ⟨kvs, k, b, .inl e, rfl, eb, rfl⟩
theorem DPut.t {H : Hp} {a b : Addr} {kvs : List (List Key × V)} {k : List Key} {v : V} (e : H a = some (.dT kvs)) (eb : H b = some (.tup (k.map kV))) (hl : kvs.length < sizeLine) :
    DPut H a (.ref b) v (upd H a (.dT (putK kvs k v))) := .inr ⟨kvs, k, b, e, rfl, eb, hl, rfl⟩

section
variable {X : Cx} {pins : List (Addr × Obj)} {σ : St} {H : Hp} {s : Shared} {a : Addr} {y v : V} {u r : Value} {o : Option V} {A : Around} {E : Value → Shared → Prop}

theorem Inv.big (I : Inv X pins σ H s) : sysModules < s.heap.objs.size := by
  have h : mainGlobals < s.heap.objs.size := (I.mod.glob.keeps I.bk).lt
  exact Nat.lt_trans (by decide) h

/-- y in d -/
theorem d_in {Q : Value → Shared → Prop} (hu : A.units + 1 < cLine) (I : Inv X pins σ H s) (g : DGet H a y o) (ry : RelV y u) (h : ∀ s', Inv X pins σ H s' → Q (.bool o.isSome) s') :
    wpAny (model X.prog X.w) A (compareOp .In u (.ref a)) Q E s := by
  rcases g with ⟨kvs, k, e, ey, l⟩ | ⟨kvs, k, b, e, ey, eb, l⟩
  · subst ey
    obtain ⟨z, hd, vs, rel, dd⟩ := dk_rd I.hok e
    refine wpAny_in_of (kV_is ry) hd dd.mapOf ?_
    rw [← (rel.val k).isSome_eq, ← l]
    exact h _ (I.tok _)
  · subst ey
    cases (show u = Value.ref b from ry)
    obtain ⟨z, hd, xs, rel, dd⟩ := dt_rd I.hok e
    refine wpAny_in_heap (tupleKind_room_in1 hu) (key_of I.hok eb) hd dd ?_
    have q := (rel.val k).isSome_eq
    rw [Option.isSome_map] at q
    rw [← q, ← l]
    exact h _ (I.tok _)
theorem d_notIn {Q : Value → Shared → Prop} (hu : A.units + 1 < cLine) (I : Inv X pins σ H s) (g : DGet H a y o) (ry : RelV y u) (h : ∀ s', Inv X pins σ H s' → Q (.bool (!o.isSome)) s') :
    wpAny (model X.prog X.w) A (compareOp .NotIn u (.ref a)) Q E s := by
  rcases g with ⟨kvs, k, e, ey, l⟩ | ⟨kvs, k, b, e, ey, eb, l⟩
  · subst ey
    obtain ⟨z, hd, vs, rel, dd⟩ := dk_rd I.hok e
    refine wpAny_notIn_of (kV_is ry) hd dd.mapOf ?_
    rw [← (rel.val k).isSome_eq, ← l]
    exact h _ (I.tok _)
  · subst ey
    cases (show u = Value.ref b from ry)
    obtain ⟨z, hd, xs, rel, dd⟩ := dt_rd I.hok e
    refine wpAny_notIn_heap (tupleKind_room_in1 hu) (key_of I.hok eb) hd dd ?_
    have q := (rel.val k).isSome_eq
    rw [Option.isSome_map] at q
    rw [← q, ← l]
    exact h _ (I.tok _)
/-- a dict's object is replaced -/
theorem d_write {h' : Heap} {t' : Nat} {ob : HO} (I : Inv X pins σ H s) (mu : Mut (H a)) (hs : Heap.SameBut a s.heap h') (he : ∃ q, h'.get? a = some q) (new : ObjOk X.prog X.w (upd H a ob) h' a ob) :
    Inv X pins σ (upd H a ob) { s with heap := h', toks := t' } :=
  I.write (x := a) (e := a) mu (.inl rfl) (fun b q hb z => (hs.2 b hb).trans z) he new
theorem dk_new {P : Program} {w : World} {H' : Hp} {h' : Heap} {kvs : List (Key × V)} {vs : List (Key × Value)} (z : kvs.length ≤ sizeLine) (hd : (a == sysModules) = false) (rel : KV kvs vs) (dd : h'.DictOf (mixKind P w) a vs) :
    ObjOk P w H' h' a (.dK kvs) := ⟨z, hd, vs, rel, dd⟩
/-- d[y] = v -/
theorem d_setItem {H' : Hp} {Q : Unit → Shared → Prop} (hu : A.units + 1 < cLine) (I : Inv X pins σ H s) (g : DPut H a y v H') (ry : RelV y u) (rv : RelV v r) (h : ∀ s', Inv X pins σ H' s' → Q () s') :
    wpAny (model X.prog X.w) A (setItem (.ref a) u r) Q E s := by
  rcases g with ⟨kvs, k, e, ey, l, eH⟩ | ⟨kvs, k, b, e, ey, eb, l, eH⟩
  · subst ey eH
    obtain ⟨z, hd, vs, rel, dd⟩ := dk_of I.hok e
    have hz : vs.length ≤ sizeLine := by rw [← rel.length]; exact z
    have hl : (putK kvs k v).length ≤ sizeLine := by have := length_putK kvs k v; omega
    refine wpAny_setItem_pairs (hsz := hz) (kV_is ry) dd fun h' dd' hs => h _ ?_
    have he : ∃ q, h'.get? a = some q := let ⟨q, _, _, hq, _⟩ := dd'; ⟨q, hq⟩
    exact d_write I (by rw [e]; exact True.intro) hs he (dk_new hl hd (rel.put k rv) dd')
  · subst ey eH
    cases (show u = Value.ref b from ry)
    obtain ⟨z, hd, xs, rel, dd⟩ := dt_of I.hok e
    have hz : xs.length ≤ sizeLine := by rw [← Paired.length rel]; exact z
    have hl : (putK kvs k v).length ≤ sizeLine := by have := length_putK kvs k v; omega
    refine wpAny_setItem_heap (hsz := hz) (tupleKind_room_in1 hu) (key_of I.hok eb) dd fun h' dd' hs => h _ ?_
    obtain ⟨q, es, ep, hq, h2, h3, h4, _, h5⟩ := dd'
    refine d_write I (by rw [e]; exact True.intro) hs ⟨q, hq⟩ ⟨hl, hd, _, (rel.put k eb rv).keeps fun c ys ec => ?_, q, es, ep, hq, h2, h3, h4, h5⟩
    rw [upd_ne (ne_of ec e (fun z => nomatch z))]
    exact ec
end

section
variable {X : Cx} {pins : List (Addr × Obj)} {σ : St} {H : Hp} {s : Shared} {a : Addr} {kvs : List (Key × V)} {k : Key} {u : Value} {A : Around} {E : Value → Shared → Prop}
end

/-! ### readings and rules -/

/-- y in d, y not in d -/
noncomputable def tDIn (ty td : TE) : TE := fun σ H Q => ty σ H fun y H1 => td σ H1 fun x H2 => ∃ a o, x = .ref a ∧ DGet H2 a y o ∧ Q (.bl o.isSome) H2
noncomputable def tDNotIn (ty td : TE) : TE := fun σ H Q => ty σ H fun y H1 => td σ H1 fun x H2 => ∃ a o, x = .ref a ∧ DGet H2 a y o ∧ Q (.bl (!o.isSome)) H2
/-- d[y] = v -/
noncomputable def sDPut (td ty tv : TE) : TS := fun D σ H => tv σ H fun v H1 => td σ H1 fun x H2 => ty σ H2 fun y H3 => ∃ a H4, x = .ref a ∧ DPut H3 a y v H4 ∧ D.nx σ H4

section
variable {X : Cx} {o i e value : Expr} {pos pos' tpos : Pos} {td ty tv : TE}
theorem pc_din (hu : X.A.units + 1 < cLine) (hi : PE X i ty) (ho : PE X o td) : PC X .In i o (tDIn ty td) := by
  intro pins s σ H Q I h
  refine thn (hi pins s σ H _ I h) fun iv s1 ⟨y, H1, I1, ry, q1⟩ => thn (ho pins s1 σ H1 _ I1 q1) fun u s2 ⟨x, H2, I2, rx, a, ov, ex, g, q2⟩ => ?_
  subst ex
  obtain rfl : u = Value.ref a := rx
  exact d_in hu I2 g ry fun s3 I3 => ⟨.bl ov.isSome, H2, I3, rfl, q2⟩
theorem pc_dnotin (hu : X.A.units + 1 < cLine) (hi : PE X i ty) (ho : PE X o td) : PC X .NotIn i o (tDNotIn ty td) := by
  intro pins s σ H Q I h
  refine thn (hi pins s σ H _ I h) fun iv s1 ⟨y, H1, I1, ry, q1⟩ => thn (ho pins s1 σ H1 _ I1 q1) fun u s2 ⟨x, H2, I2, rx, a, ov, ex, g, q2⟩ => ?_
  subst ex
  obtain rfl : u = Value.ref a := rx
  exact d_notIn hu I2 g ry fun s3 I3 => ⟨.bl (!ov.isSome), H2, I3, rfl, q2⟩
theorem ps_dput (hu : X.A.units + 1 < cLine) (ho : PE X o td) (hi : PE X i ty) (hv : PE X value tv) (hs : swapsWith value (some (.Subscript o i pos')) pos.line X.env = pure false) :
    PS X (.Assign [.Subscript o i pos'] value pos) (sDPut td ty tv) := by
  intro pins s σ H D I h
  refine wpAny_Assign_Subscript (thn (hv pins s σ H _ I h) fun r s1 ⟨v, H1, I1, rv, q1⟩ => thn (ho pins s1 σ H1 _ I1 q1) fun u s2 ⟨x, H2, I2, rx, q2⟩ => thn (hi pins s2 σ H2 _ I2 q2) fun iv s3 ⟨y, H3, I3, ry, a, H4, ex, g, q3⟩ => ?_) hs
  subst ex
  obtain rfl : u = Value.ref a := rx
  exact d_setItem hu I3 g ry rv fun s4 I4 => ⟨σ, H4, I4, q3⟩
end

/-! ### displays -/
theorem dt_empty {P : Program} {w : World} {H : Hp} (h : Heap) (hb : sysModules < h.objs.size) : ObjOk P w H (h.push { cls := .type "dict", data := .dict #[] }) h.objs.size (.dT []) :=
  ⟨Nat.zero_le _, beq_eq_false_iff_ne.mpr (Ne.symm (Nat.ne_of_lt hb)), [], .nil, _, #[], 0, Heap.get?_push_size _ rfl, ⟨rfl, rfl, rfl⟩, rfl, rfl, List.nodup_nil⟩
noncomputable def tDNewT : TE := fun _ H Q => ∀ p, H p = none → Q (.ref p) (upd H p (.dT []))
section
variable {X : Cx} {pos : Pos}
theorem pe_dnewT : PE X (.Dict [] [] pos) tDNewT := fun pins s σ H Q I h =>
  wpAny_Dict_empty ⟨.ref s.heap.objs.size, _, I.laid (a := s.heap.objs.size) (o := .dT []) (t' := s.toks) (fun _ _ q => Heap.get?_push_of_some _ q) (Nat.le_refl _) (dt_empty s.heap I.big), rfl, h _ (I.hok.fresh (Nat.le_refl _))⟩
end

/-! ### methods -/

section
variable {X : Cx} {pins : List (Addr × Obj)} {σ : St} {H : Hp} {s : Shared} {a : Addr} {y d : V} {u r : Value} {o : Option V} {A : Around} {E : Value → Shared → Prop}
end

section
variable {X : Cx} {o e f : Expr} {apos cpos : Pos} {td ty tx : TE}
end

/-! ### dict(d): a copy -/
section
variable {X : Cx} {pins : List (Addr × Obj)} {σ : St} {H : Hp} {s : Shared} {a : Addr} {kvs : List (Key × V)} {A : Around} {E : Value → Shared → Prop}
end

section
variable {X : Cx} {pins : List (Addr × Obj)} {σ : St} {H : Hp} {s : Shared} {a : Addr} {y : V} {u : Value} {A : Around} {E : Value → Shared → Prop}
end
end L2

namespace Att
open PySem PySem.W PySem.Calls PyProof.Rows

/-! ### the script -/
theorem ints_of_wellAll {P : Params} {h : Heap} : ∀ (ns : List Int) (vs : List Value), WellAll P h vs (ns.map WData.int) → IntsAre vs ns := by
  intro ns
  induction ns with
  | nil =>
    intro vs w
    rw [List.map_nil] at w
    cases w
    exact .nil
  | cons n ns ih =>
    intro vs w
    rw [List.map_cons] at w
    cases w with
    | cons a b =>
      cases a
      exact .cons _ _ (ih _ b)

theorem script_of {l : OpenLaw} {n : Nat} (hn : l.most = some n) {P : Params} {h : Heap} {args : List WData} {vals : List Value}
    (hpre : l.row.toRowW.claim.pre args = true) (hwl : WellAll P h vals args) :
    ∃ a vs ns, vals = [Value.ref a] ∧ args = [WData.list (ns.map WData.int)] ∧ h.get? a = some { cls := .type "list", data := .seq vs.toArray } ∧ IntsAre vs ns ∧ ns.length ≤ n := by
  have hsh : WShape.hasAll [] args [.list .int] = true := (pre_splitW hpre).1
  have hc : l.pre.holds [] { args := args } = true := (pre_splitW hpre).2
  obtain ⟨d, r, rfl, h1, h2⟩ := hasAllW_cons hsh
  obtain rfl := hasAllW_nil h2
  obtain ⟨xs, rfl, h3⟩ := hasW_list h1
  obtain ⟨ns, rfl⟩ := items_int h3
  have hlen : ns.length ≤ n := by
    unfold OpenLaw.pre at hc
    have h4 : (WTm.not (.lt (.lit (.int (n : Int))) (.len (.arg 0)))).holds [] { args := [.list (ns.map .int)] } = true := by
      have h4 := (holds_andW hc).1
      rw [hn] at h4
      exact h4
    have h5 := condW_of h4 (w_not (w_lt w_lit (w_len_list (w_arg rfl))))
    rw [List.length_map] at h5
    refine Nat.le_of_not_lt fun q => ?_
    have q' : (n : Int) < ((ns.length : Nat) : Int) := by omega
    first
      | (rw [decide_eq_true q'] at h5; exact absurd h5 (by decide))
      | (simp at h5; omega)
  cases hwl with
  | cons w1 w2 =>
    cases w2
    cases w1 with
    | list ho hall => exact ⟨_, _, ns, rfl, rfl, ho, ints_of_wellAll ns _ hall, hlen⟩

theorem post_true (l : OpenLaw) (args : List WData) : l.row.toRowW.claim.post args (.bool true) args = true :=
  postW_of (r := l.row.toRowW) (X := (true == true))
    (show WShape.has [] (.bool true) .bool = true by first | rfl | decide | simp [WShape.has, WShape.arms, WShape.armsAll])
    (show (WTm.eq .res (.lit (.bool true))).value [] { args := args, res := some (.bool true), after := args } = some (.bool (true == true)) from w_eq_bool (w_res rfl) w_lit) rfl

/-! ### the attachment: holds_open's last premise (the goal 'hc' behind k_head) from a wpAny of the law's body -/

/-- the same from a codeAny of the CALL (for a layer whose function contracts speak of calls) -/
theorem attach_call {l : OpenLaw} {n : Nat} {q : Program} {loose : List Str} {XP : (Str → Option Value) → Heap → Prop} {YP : World → Heap → Prop} {d : DefRec}
    (hn : l.most = some n) (hdf : d.params.defaults = [])
    (call : ∀ (w : World) (s₀ s₁ : Shared) (mg mb : Str → Option Value) (fa : Addr) (o : Obj) (pm cd doc : Value) (a : Addr) (vs : List Value) (ns : List Int),
      Ground q loose [] XP w s₀ mg mb s₁.heap → YP w s₁.heap →
      s₁.heap.get? fa = some o → o.data = .func (docDef d.name d.params d.body d.scope pm cd doc) → s₁.heap.CodeRec cd d.name → mg d.name = some (.ref fa) →
      s₁.heap.get? a = some { cls := .type "list", data := .seq vs.toArray } → IntsAre vs ns → ns.length ≤ n → s₁.gens = #[] →
      codeAny (model l.prog w) callerA (.call (.ref fa) ⟨[.ref a], []⟩) (fun r s' => r = .ok (.ret (.bool true)) ∧ OldK s₁.heap s'.heap ∧ s'.os = s₁.os ∧ AllBare s'.gens) s₁) :
    WalkO q loose XP YP l.row.toRowW d [] (fun f vs => PySem.call f vs) := by
  intro w s₀ s₁ mg mb G Y fa o pm cd doc dV kV ho hd hcd hD hmg hg args vals as hpre hlay hrd hwl hlo
  obtain rfl : dV = .none := Dflts.none hD hdf
  obtain rfl : kV = .none := Dflts.noKw hD
  obtain ⟨a, vs, ns, rfl, rfl, hobj, hints, hlen⟩ := script_of hn hpre hwl
  refine enter_call (codeAny_mono (call w s₀ s₁ mg mb fa o pm cd doc a vs ns G Y ho (fd_plain hd) hcd hmg hobj hints hlen hg) fun r s' hq => ?_)
  obtain ⟨rfl, h2, h3, h4⟩ := hq
  exact ⟨.inl ⟨.bool true, .bool true, [], rfl, fun _ => rfl, .bool true, post_true l _, fun _ => ⟨List.Pairwise.nil, fun _ hm => (nomatch hm)⟩⟩, h2, h3, h4⟩

/-! ### rules over ANY heap (no ledger) from facts about the written part K: the library's own take a ledger (News) for what they write -/
section
variable {prog : Program} {w : World} {A : Around} {E : Value → Shared → Prop} {s : Shared} {K : Frag}

/-! the whole heap as the ledger: makes every rule that writes through a ledger a rule over any heap -/

end
end Att

namespace L2
open PySem PySem.Spec PyProof.Rows

theorem vals_ints : ∀ {vs : List Value} {ns : List Int}, IntsAre vs ns → Vals (ns.map V.int) vs
  | _, _, .nil => .nil
  | _, _, .cons n t h => .cons ⟨t, rfl⟩ (vals_ints h)

/-- nothing is tracked but the script, known to the object (or it is an object of the module) -/
noncomputable def Only (H : Hp) : Prop := ∀ b, H b = none ∨ ∃ o xs, H b = some (.frz o (.lst xs))

/-- THE HEAD: the law's promise, at the heap behind the top. F, the promise of the law's def, may use that base is part of the heap (so K.In base, base.Ns mainGlobals mg stand in Mod) -/
theorem law_call {P : Program} {w : World} {K : PySem.W.Frag} {mg mb : Str → Option Value} {CX : CXT} {k : Nat} {fa a : Addr} {fd : FuncData} {x : Str} {sp : Sp} {s₁ : Shared} {vs : List Value} {ns : List Int}
    (KX : K.In s₁.heap) (hns : s₁.heap.Ns mainGlobals mg) (hb : s₁.heap.Ns builtinsNs mb) (hbb : ∀ x : Str, x ≠ "__name__" → mb x = bootBuiltins x) (hlim : s₁.heap.NoLimit) (hg : s₁.gens = #[])
    (ha : s₁.heap.get? a = some { cls := .type "list", data := .seq vs.toArray }) (hi : IntsAre vs ns) (hl : ns.length ≤ sizeLine) (hr : Room k callerA)
    (F : ∀ base : Heap, K.In base → base.Ns mainGlobals mg → FnOk P w K mg base CX k fa fd [x] sp) (hbind : ∀ (s : Shared) (u : Value), BindsTo s fd ⟨[u], []⟩ [(x, u)])
    (hsp : ∀ H : Hp, Only H → SqL K H a (ns.map V.int) → sp [.ref a] H (fun v _ => v = .bl true) fun _ _ _ => False)
    (hCX : ∀ H e s', CX [] H s₁ (fun _ _ _ => False) e s' → False) :
    codeAny (model P w) callerA (.call (.ref fa) ⟨[.ref a], []⟩) (fun r s' => r = .ok (.ret (.bool true)) ∧ OldK s₁.heap s'.heap ∧ s'.os = s₁.os ∧ AllBare s'.gens) s₁ := by
  have rv := vals_ints hi
  have lenV := hi.length
  -- from an abstract heap in which nothing but the script may be tracked
  have core : ∀ H : Hp, Only H → SqL K H a (ns.map V.int) → HOk P w H s₁.heap → (∀ b, H b ≠ none → b = a) → (H a ≠ none → K.lookup a = none) →
      codeAny (model P w) callerA (.call (.ref fa) ⟨[.ref a], []⟩) (fun r s' => r = .ok (.ret (.bool true)) ∧ OldK s₁.heap s'.heap ∧ s'.os = s₁.os ∧ AllBare s'.gens) s₁ := by
    intro H hO hS hok hA hK
    have base_of : ∀ {b : Addr} {o : Obj}, s₁.heap.get? b = some o → H b = none → (hidT s₁.heap H).get? b = some o := fun e n => hidT_get e n
    have noA : ∀ {b : Addr} {o : Obj} {es : Array DictEntry} {ep : Nat}, s₁.heap.get? b = some o → o.data = .dict es ep → H b = none := fun {b o es ep} e d => by
      cases q : H b with
      | none => rfl
      | some u =>
        have e' : b = a := hA b (by rw [q]; simp)
        subst e'
        rw [ha] at e; cases e
        have d' : Data.seq vs.toArray _ = Data.dict es ep := d
        cases d'
    have nsK : ∀ {b : Addr} {m : Str → Option Value}, s₁.heap.Ns b m → (hidT s₁.heap H).Ns b m := fun {b m} ⟨o, es, ep, e, d, r⟩ => ⟨o, es, ep, base_of e (noA e d), d, r⟩
    have hKb : K.In (hidT s₁.heap H) := fun b o e => base_of (KX b o e) (by
      cases q : H b with
      | none => rfl
      | some u =>
        have e' : b = a := hA b (by rw [q]; simp)
        subst e'
        rw [hK (by rw [q]; simp)] at e; cases e)
    have hM : Mod K mg (hidT s₁.heap H) := ⟨hKb, nsK hns, ⟨mb, nsK hb, hbb⟩, let ⟨mc, h1, h2⟩ := hlim; ⟨mc, nsK h1, h2⟩⟩
    have e0 : Env0 P w K mg (hidT s₁.heap H) callerA [] s₁ H := ⟨rfl, hM, fun b o e => of_hidT e, Nat.le_of_eq (hidT_size _ _), trivial, fun b hb => absurd (show b ∈ ([] : List Addr) from hb) (by simp), hok, .of_eq hg⟩
    refine codeAny_mono ((F _ hKb (nsK hns)).run callerA [] s₁ H ⟨[.ref a], []⟩ [.ref a] [.ref a] _ _ hr e0 (hbind s₁ (.ref a)) (.cons rfl .nil) (hsp H hO hS)) fun r s' h => ?_
    cases r with
    | error e => exact (hCX H e s' h).elim
    | ok fl =>
      cases fl with
      | next => exact False.elim h
      | brk => exact False.elim h
      | cont => exact False.elim h
      | ret u =>
        obtain ⟨v, H', os, bare, un, hok', r', q⟩ := h
        have q' : v = .bl true := q
        subst q'
        obtain rfl : u = Value.bool true := r'
        refine ⟨rfl, OldK.of_keep fun b o e => ?_, os, bare⟩
        cases q : H b with
        | none => exact un.keep b o e q (by intro z; exact absurd (show b ∈ ([] : List Addr) from z) (by simp)) (by simp)
        | some u =>
          rcases hO b with z | ⟨ob, xs, z⟩
          · rw [q] at z; cases z
          · have z2 := un.frzs b ob _ z
            obtain ⟨e1, _⟩ := hok b _ z
            obtain ⟨e2, _⟩ := hok' b _ z2
            rw [e] at e1; cases e1
            exact e2
  cases hk : K.lookup a with
  | some o =>
    -- the script is one of the module's own objects
    have e := KX a o hk
    rw [ha] at e
    cases e
    refine core (fun _ => none) (fun _ => .inl rfl) (.inr ⟨_, vs.toArray, _, hk, rfl, rfl, rfl, by rw [List.size_toArray, lenV]; exact hl, by simpa using rv⟩) (fun b u z => by have z' : (none : Option HO) = some u := z; cases z') (fun b z => absurd rfl z) fun z => absurd rfl z
  | none =>
    refine core (fun b => if b = a then some (.frz { cls := .type "list", data := .seq vs.toArray } (.lst (ns.map V.int))) else none) (fun b => ?_) (.inl (.inr ⟨{ cls := .type "list", data := .seq vs.toArray }, if_pos rfl⟩)) (fun b u z => ?_) (fun b z => ?_) fun _ => hk
    · by_cases hb : b = a
      · exact .inr ⟨_, _, if_pos hb⟩
      · exact .inl (if_neg hb)
    · by_cases hb : b = a
      · have z' := (if_pos hb).symm.trans z
        cases z'
        subst hb
        exact ⟨ha, by rw [List.length_map]; exact hl, vs, _, rv, ha⟩
      · have z' := (if_neg hb).symm.trans z
        cases z'
    · by_cases hb : b = a
      · exact hb
      · exact absurd (if_neg hb) z
end L2

namespace L2
open PySem PySem.Spec PyProof.Rows

/-- the goal that k_head leaves (case hc), from the law's promise. F gives the function object fd (K's own) once, then the promise over every base -/
theorem walk_of {l : PySem.W.OpenLaw} {n k : Nat} {q : Program} {loose : List Str} {XP : (Str → Option Value) → Heap → Prop} {YP : World → Heap → Prop} {d : DefRec} {K : Params → PySem.W.Frag} {CX : World → CXT} {sp : World → Sp} {x : Str}
    (hn : l.most = some n) (hn2 : n ≤ sizeLine) (hdf : d.params.defaults = []) (hr : Room k callerA)
    (hY : ∀ (w : World) (h : Heap), YP w h → (K w.params).In h)
    (F : ∀ (w : World) (mg : Str → Option Value) (fa : Addr) (h : Heap), (K w.params).In h → h.Ns mainGlobals mg → mg d.name = some (.ref fa) →
      ∃ fd : FuncData, (∀ (s : Shared) (u : Value), BindsTo s fd ⟨[u], []⟩ [(x, u)]) ∧
        ∀ base : Heap, (K w.params).In base → base.Ns mainGlobals mg → FnOk l.prog w (K w.params) mg base (CX w) k fa fd [x] (sp w))
    (hsp : ∀ (w : World) (H : Hp) (a : Addr) (ns : List Int), ns.length ≤ n → Only H → SqL (K w.params) H a (ns.map V.int) → sp w [.ref a] H (fun v _ => v = .bl true) fun _ _ _ => False)
    (hCX : ∀ (w : World) (H : Hp) (s : Shared) (e : Value) (s' : Shared), CX w [] H s (fun _ _ _ => False) e s' → False) :
    PySem.W.WalkO q loose XP YP l.row.toRowW d [] (fun f vs => PySem.call f vs) := by
  refine Att.attach_call hn hdf fun w s₀ s₁ mg mb fa o pm cd doc a vs ns G Y ho hd hcd hmg hobj hints hlen hg => ?_
  have KX := hY w _ Y
  obtain ⟨fd, hb, hF⟩ := F w mg fa _ KX G.T.g hmg
  exact law_call KX G.T.g G.T.b G.T.builtins G.T.nolimit hg hobj hints (Nat.le_trans hlen hn2) hr hF hb (fun H hO hS => hsp w H a ns hlen hO hS) fun H e s' => hCX w H s₁ e s'
end L2

/- THE LAST THEOREM (shape; LID, My.* are yours):
   My.Adr: a structure of the addresses that your layer names (classes, functions); My.Txt K t: a structure (Prop) of the equations over K;
   My.txt_mk : {K} {implicit addresses ..} (e1 : nsIn K mainGlobals "law" = some (some (.ref f))) (e2 : K.lookup f = some ⟨oc, od, .func (fnOf "law" "law" params body scope dV kV doc pm an cdv ct), sl⟩) (e3 : codeIn K cdv "law" = true) .. : ∃ t, My.Txt K t

set_option maxRecDepth 100000 in
set_option maxHeartbeats 0 in
theorem PySem.Challenge.cw_LID_holds : PySem.Challenge.rw_LID.Holds := by
  w_on; o_law; k_head; (case hw => w_witness2)
  k_fill
  refine L2.walk_of (l := PySem.Challenge.rw_LID) (n := 63) (k := 40) (x := "script") (CX := fun w => ..) (sp := fun _ => My.sp_law) rfl (by decide) rfl ⟨rfl, by decide, by decide⟩ (fun w h Y => PySem.W.kIn_of Y) ?F ?S ?C
  case F =>
    intro w mg fa h KX G hmg
    have T : ∃ t, My.Txt (L2.KOf KX) t := by
      dsimp only [L2.KOf]                          -- K must stand as «<heap const> w.params» for k_is
      refine' My.txt_mk ?e1 ?e2 ?e3 ..
      (case e1 => PySem.W.k_is)                    -- in the order: a name -> its address -> its object -> its parts
      (case e2 => PySem.W.k_is)
      ..
    obtain ⟨t, T⟩ := T
    have e0 := hmg.symm.trans (PySem.W.mg_of KX G T.law)
    cases e0                                       -- fa is the law's own address
    exact ⟨_, fun s u => .of_eq rfl, fun base kb nb => My.law_fn T kb nb⟩     -- if «.of_eq rfl» comes too early: refine' ⟨_, ?b, fun base kb nb => My.law_fn T kb nb⟩; exact fun s u => .of_eq rfl
  case S => exact fun w H a ns hl hO hS => ..
  case C => exact ..
(the tactic k_is has no namespace: write k_is) -/

/-! SHORT WORDS over the layer: a def of the text, its body, what a loop and a test want. -/
namespace L2
open PySem PySem.Spec PyProof.Rows

/-! ### the text by places -/
noncomputable def defArgs (s : Stmt) : Arguments := match s with
  | .FunctionDef _ a _ _ _ _ _ _ _ _ => a
  | _ => { posonlyargs := [], args := [], vararg := none, kwonlyargs := [], kw_defaults := [], kwarg := none, defaults := [] }
noncomputable def defBody (s : Stmt) : List Stmt := match s with
  | .FunctionDef _ _ b _ _ _ _ _ _ _ => b
  | _ => []
noncomputable def defScope (s : Stmt) : Scope := match s with
  | .FunctionDef _ _ _ _ _ _ sc _ _ _ => sc
  | _ => { kind := .function, names := [], isGenerator := false, isCoroutine := false }

/-! ### no exception leaves a def -/
noncomputable abbrev CX0 : CXT := fun _ _ _ _ _ _ => False
noncomputable abbrev E0 : XK := fun _ _ _ => False
theorem pass0 {X : Cx} : Passes CX0 X E0 := fun _ _ _ _ _ _ _ h => h.elim

/-! ### a def (or method) of the text as it stands behind the top -/
structure Fun (K : PySem.W.Frag) (x qual : Str) (st : Stmt) (f : Addr) (fd : FuncData) : Prop where
  ex : ∃ (oc : Value) (od : Option Addr) (kV doc pm : Value) (an : Option Addr) (cdv ct : Value) (osl : Array (Option Value)),
    fd = PySem.W.fnOf x qual (defArgs st) (defBody st) (defScope st) .none kV doc pm an cdv ct ∧ K.lookup f = some ⟨oc, od, .func fd, osl⟩ ∧ PySem.W.codeIn K cdv qual = true
  kp : PySem.W.keepIn K (.ref f) = true
section
variable {P : Program} {w : World} {K : PySem.W.Frag} {mg : Str → Option Value} {base : Heap}
/-- THE RULE for a def: its body as a term of rules, and the reading of that term -/
theorem Fun.ok {x qual : Str} {st : Stmt} {f : Addr} {fd : FuncData} {N ps : List Str} {k : Nat} {sp : Sp} (F : Fun K x qual st f fd) (S : FnScope N ps (defScope st)) (len : ∀ vs H Q E, sp vs H Q E → vs.length = ps.length)
    (hbody : ∀ (cdv : Value) (A : Around) (outer : List Env) (s : Shared) (H : Hp) (vs : List V) (Q : VK) (E : XK), Room k (A.deeper (envOfC qual (defScope st) s.heap.objs.size f cdv)) → sp vs H Q E →
      ∃ t, PSs (cxOf CX0 P w K mg base N qual (defScope st) f cdv A outer s H E).nox (defBody st) t ∧ t { nx := fun _ H' => Q .non H', rt := Q } (start N vs) H) : FnOk P w K mg base CX0 (k + 1) f fd ps sp := by
  obtain ⟨oc, od, kV, doc, pm, an, cdv, ct, osl, rfl, lk, hcd⟩ := F.ex
  refine fn_of lk hcd S len fun A outer s H vs Q E hr hsp => ?_
  obtain ⟨t, h, q⟩ := hbody cdv A outer s H vs Q E hr hsp
  exact ⟨t, h.nox, q⟩
/-- how its arguments bind (no defaults): h is «fun _ _ _ _ _ _ us hl => match us, hl with | [_, _], _ => rfl», one _ a parameter -/
theorem Fun.binds {x qual : Str} {st : Stmt} {f : Addr} {fd : FuncData} {ps : List Str} (F : Fun K x qual st f fd)
    (h : ∀ (kV doc pm : Value) (an : Option Addr) (cdv ct : Value) (us : List Value), us.length = ps.length → bindArgs (PySem.W.fnOf x qual (defArgs st) (defBody st) (defScope st) .none kV doc pm an cdv ct) ⟨us, []⟩ = pure (ps.zip us)) : Binds K fd ps [] := by
  obtain ⟨oc, od, kV, doc, pm, an, cdv, ct, osl, rfl, lk, hcd⟩ := F.ex
  exact .all (h kV doc pm an cdv ct)
theorem fun_mk {x qual : Str} {st : Stmt} {f : Addr} {oc : Value} {od an : Option Addr} {osl : Array (Option Value)} {kV doc pm cdv ct : Value} (l : K.lookup f = some ⟨oc, od, .func (PySem.W.fnOf x qual (defArgs st) (defBody st) (defScope st) .none kV doc pm an cdv ct), osl⟩)
    (c : PySem.W.codeIn K cdv qual = true) (k : PySem.W.keepIn K (.ref f) = true) : Fun K x qual st f (PySem.W.fnOf x qual (defArgs st) (defBody st) (defScope st) .none kV doc pm an cdv ct) := ⟨⟨oc, od, kV, doc, pm, an, cdv, ct, osl, rfl, l, c⟩, k⟩
end
theorem hu_of {A : Around} {k : Nat} (hr : Room k A) : A.units + 1 < cLine := Nat.lt_of_le_of_lt (Nat.add_le_add_left (by decide : 1 ≤ 64) _) hr.units
theorem small1000 {n : Nat} (h : n ≤ 1000) : n < sizeLine := Nat.lt_of_le_of_lt h (by decide)

/-! ### expressions in short: the name that stands in the i-th slot -/
section
variable {X : Cx}
theorem pv (i : Nat) {x : Str} {pos : Pos} (hN : X.N[i]? = some x := by rfl) (hv : Vis X.env.scope x := by first | exact Or.inl rfl | exact Or.inr (Or.inl rfl) | exact Or.inr (Or.inr rfl)) (hd : (x == ("__debug__" : Str)) = false := by decide)
    (hcd : (x == ("__classdict__" : Str)) = false := by decide) : PE X (.Name x pos) (tVar i) := pe_var hN hv hd hcd
end

/-! ### tests -/
theorem iteF {A B : Prop} (h : B) : if false = true then A else B := by
  rw [if_neg Bool.false_ne_true]
  exact h
theorem iteT {A B : Prop} (h : A) : if true = true then A else B := by
  rw [if_pos rfl]
  exact h
theorem ite2 {c A B : Prop} [Decidable c] (h1 : c → A) (h2 : ¬ c → B) : if c then A else B := by
  by_cases h : c
  · rw [if_pos h]
    exact h1 h
  · rw [if_neg h]
    exact h2 h

/-! ### heaps -/
/-- all that was tracked is as it was -/
noncomputable def Same (H H' : Hp) : Prop := ∀ b o, H b = some o → H' b = some o
theorem Same.trans {H H1 H2 : Hp} (a : Same H H1) (b : Same H1 H2) : Same H H2 := fun c o h => b c o (a c o h)
theorem Same.free {H H' : Hp} (e : Same H H') {l : Addr} (h : H' l = Option.none) : H l = Option.none := by
  cases q : H l with
  | none => rfl
  | some o =>
    rw [e l o q] at h
    cases h
theorem Same.seq {K : PySem.W.Frag} {H H' : Hp} {a : Addr} {xs : List V} (e : Same H H') (h : SqL K H a xs) : SqL K H' a xs := by
  rcases h with (h | ⟨o, h⟩) | h
  · exact .inl (.inl (e _ _ h))
  · exact .inl (.inr ⟨o, e _ _ h⟩)
  · exact .inr h

/-! ### a dict's pairs: keys that differ -/
section
variable {κ : Type} [DecidableEq κ]
end
end L2

set_option Elab.async false
set_option linter.all false
set_option maxRecDepth 100000
/-! Comprehensions over the hand layer: a list comprehension of one clause, with or without tests, as an expression and as the value of a name. -/
namespace L2
open PySem PySem.Spec PyProof.Rows

/-! ### the loop's turn, the step ahead of the store among it -/
section
variable {prog : Program} {w : World} {A : Around} {R : Result → Shared → Prop} {s : Shared}
theorem compLoop_go {elt target iter : Expr} {ifs : List Expr} {scope : Scope} {pos : Pos} {it acc : Value} {env : Env} (I : Nat → Shared → Prop)
    (turn : ∀ n s, I n s → wpAny (model prog w) A (pyNext it) (fun r s1 => match r with
      | none => R (.ok .next) s1
      | some v => wpAny (model prog w) A (letOwnedTupleGo target it v) (fun _ s2 => wpAny (model prog w) A (assign target env v) (fun _ s3 =>
          wpAny (model prog w) A (forIn ifs true fun c r => if r = true then do let ok ← isTrue c env (eval c env); pure (ForInStep.yield ok) else pure (ForInStep.yield r)) (fun ok s4 =>
            if ok = true then wpAny (model prog w) A (eval elt env) (fun x s5 =>
              wpAny (model prog w) A (call (.builtin "list.append") [acc, x]) (fun _ s6 => ∃ m, m < n ∧ I m s6) (fun _ _ => False) s5) (fun _ _ => False) s4
            else ∃ m, m < n ∧ I m s4) (fun _ _ => False) s3) (fun _ _ => False) s2) (fun _ _ => False) s1) (fun _ _ => False) s)
    (n : Nat) (h : I n s) :
    codeAny (model prog w) A (.compLoop (.ListComp elt [⟨target, iter, ifs, 0⟩] scope pos) 0 it acc env) R s := by
  refine codeAny_loop rfl I (fun n s hI => ?_) n h
  show wpAny _ A ((compTurn (.ListComp elt [⟨target, iter, ifs, 0⟩] scope pos) 0 it acc env).onRaise (fun x => do noteFrame x env; theTreesLotGoes x)) _ _ s
  refine wpAny_noted ?_
  rw [compTurn_list]
  refine wpAny_bind (wpAny_standAt (wpAny_bind (wpAny_mono (turn n s hI) (fun r s1 h1 => ?_) fun _ _ h' => h'.elim)))
  cases r with
  | none => exact wpAny_pure h1
  | some v =>
    refine wpAny_bind (wpAny_mono h1 (fun _ s2 h2 => wpAny_bind (wpAny_mono h2 (fun _ s3 h3 => wpAny_bind (wpAny_mono h3 (fun ok s4 h4 => ?_) fun _ _ h' => h'.elim)) fun _ _ h' => h'.elim)) fun _ _ h' => h'.elim)
    cases ok with
    | false => exact wpAny_pure ⟨rfl, h4⟩
    | true =>
      exact wpAny_bind (wpAny_bind (wpAny_mono h4 (fun x s5 h5 => wpAny_bind (wpAny_mono h5 (fun _ s6 h6 => wpAny_pure (wpAny_pure ⟨rfl, h6⟩)) fun _ _ h' => h'.elim)) fun _ _ h' => h'.elim))
end

/-! ### the context of a comprehension's block -/
noncomputable def compCx (X : Cx) (N1 : List Str) (scope : Scope) (cl : List (Str × Addr)) (C : Addr) (s0 : Shared) (H0 : Hp) (fp : List Addr) : Cx where
  prog := X.prog
  w := X.w
  K := X.K
  mg := X.mg
  base := X.base
  A := X.A
  N := N1
  s₀ := s0
  H₀ := H0
  env := compEnvC scope cl C X.env
  outer := X.stack
  stack := X.stack
  ex := fp
  fn := fun _ => false
  calm := X.calm
  pn := []
  xe := fun _ _ => False

/-- what must be seen of the text: cap gives for each name of the block the slot of the enclosing def that it takes, if any -/
structure CompOk (X : Cx) (scope : Scope) (cl : List (Str × Addr)) (N1 : List Str) (cap : List (Option Nat)) : Prop where
  clos : closureFor scope X.env = pure cl
  sub : ∀ x c, cl.lookup x = some c → X.env.cells.lookup x = some c
  kind : scope.kind = .function
  nocell : ∀ y ∈ scope.names, y.2 ≠ .cell
  names : ∀ y ∈ scope.names, y.2 = .local → scope.names.lookup y.1 = some .local
  has : ∀ x, ((relabel scope X.env).names.lookup x = some .cell ∨ (relabel scope X.env).names.lookup x = some .free) → ∃ c, cl.lookup x = some c
  len : cap.length = N1.length
  caps : ∀ (i : Nat) (x : Str) (j : Nat), N1[i]? = some x → cap[i]? = some (some j) → X.N[j]? = some x ∧ Vis X.env.scope x ∧ X.env.kindOf x ≠ some .local ∧ ((relabel scope X.env).names.lookup x = some .cell ∨ (relabel scope X.env).names.lookup x = some .free)

/-- the block's names at its start -/
noncomputable def capSt (cap : List (Option Nat)) (σ : St) : St := cap.map fun o => match o with
  | some j => (σ[j]?).getD none
  | none => none

noncomputable def PIf (X : Cx) (ifs : List Expr) (t : TT) : Prop :=
  ∀ (pins : List (Addr × Obj)) (s : Shared) (σ : St) (H : Hp) (Q : Bool → Hp → Prop), Inv X pins σ H s → t σ H Q →
    wpAny (model X.prog X.w) X.A (forIn ifs true fun c r => if r = true then do let ok ← isTrue c X.env (eval c X.env); pure (ForInStep.yield ok) else pure (ForInStep.yield r)) (TP X pins σ Q) X.xe s
theorem pif_nil {X : Cx} : PIf X [] (fun _ H Q => Q true H) := fun _ _ σ H Q I h => wpAny_tests_nil ⟨H, I, h⟩

/-- what a comprehension wants of its walk -/
noncomputable def CompW (J : It) (g : TG) (tt : TT) (te : TE) (acc : Addr) (σ0 : St) (H1 : Hp) (Q : VK) : Prop :=
  ∃ W : Nat → Nat → St → Hp → Prop, (∃ m, W 0 m σ0 (upd H1 acc (.lst []))) ∧ ∀ i m σ1 H2, W i m σ1 H2 →
    (J.stop i H2 ∧ Q (.ref acc) H2) ∨ (J.go i H2 ∧ ∃ N : St → Hp → Prop, (∀ σ' H', N σ' H' → ∃ m', m' < m ∧ W (i + 1) m' σ' H') ∧ ∀ x H3, J.yld i H2 x H3 → g x σ1 H3 fun σ4 H4 => tt σ4 H4 fun b H5 =>
      if b = true then te σ4 H5 fun y H6 => ∃ xs, H6 acc = some (.lst xs) ∧ xs.length < sizeLine ∧ N σ4 (upd H6 acc (.lst (xs ++ [y])))
      else N σ4 H5)
/-- a comprehension's reading -/
noncomputable def tComp (wi : TI) (g : TG) (tt : TT) (te : TE) (cap : List (Option Nat)) : TE := fun σ H Q => wi σ H fun J H1 => ∀ acc, H1 acc = none → CompW J g tt te acc (capSt cap σ) H1 Q

section
variable {X : Cx} {tg elt iter : Expr} {ifs : List Expr} {scope : Scope} {cl : List (Str × Addr)} {N1 : List Str} {cap : List (Option Nat)} {g : TG} {tt : TT} {te : TE} {pos : Pos}
  {pins : List (Addr × Obj)} {σ : St} {H1 : Hp} {s2 : Shared}

theorem comp_ok (K : CompOk X scope cl N1 cap) {fp : List Addr} {s : Shared} {H : Hp} (I : Inv X pins σ H s) (hf : ∀ b ∈ fp, FpOk X pins H b) (hlt : ∀ b ∈ fp, b < s.heap.objs.size) :
    (compCx X N1 scope cl s.heap.objs.size s H fp).Ok where
  mod := I.ok.mod
  kind := K.kind
  glob := I.ok.glob
  blt := I.ok.blt
  above := Nat.le_refl _
  inj := fun x y c h1 h2 => I.ok.inj x y c (K.sub x c h1) (K.sub y c h2)
  has := fun x h => K.has x h
  cab := fun x c h => by cases (show false = true from h)
  hd := I.ok.hd
  frames := I.ok.frames
  stk := .inl rfl
  exf := fun b hb => ⟨Nat.ne_of_lt (hlt b hb), fun x c h => (hf b hb).2.2.2.2.1 x c (K.sub x c h)⟩
  bs := I.bs
  bsz := Nat.le_trans I.ok.bsz I.sz
  noex := fun b o e hb => by
    rcases (hf b hb).2.2.2.1 with z | z
    · exact I.ok.noex b o e z
    · exact absurd (Nat.lt_of_lt_of_le (Heap.lt_size (I.ok.bs b o e).1) z) (Nat.lt_irrefl _)
  exfs := fun b hb z => by
    rcases List.mem_cons.mp (I.stkSub b z) with q | q
    · exact (hf b hb).2.1 q
    · exact (hf b hb).2.2.1 q
  funs := I.stack
  frf := I.stkFree

/-- the block, from the iterator on; RR as the surrounding rule wants it -/
theorem comp_run {J : It} {fp : List Addr} {it : Addr} {tn : Nat → Heap → Prop} {Q : VK} {RR : Value → Addr → Result → Shared → Prop} {E : Value → Shared → Prop}
    (K : CompOk X scope cl N1 cap) (hc : X.calm = true) (I : Inv X pins σ H1 s2) (T : Turn X.prog X.w X.K tg J fp it tn) (st2 : tn 0 s2.heap) (f2 : ∀ b ∈ fp, FpOk X pins H1 b)
    (hg : ∀ C s0 H0 fp, PG (compCx X N1 scope cl C s0 H0 fp) tg g) (ht : ∀ C s0 H0 fp, PIf (compCx X N1 scope cl C s0 H0 fp) ifs tt) (he : ∀ C s0 H0 fp, PE (compCx X N1 scope cl C s0 H0 fp) elt te)
    (h : ∀ acc, H1 acc = none → CompW J g tt te acc (capSt cap σ) H1 Q)
    (hRR : ∀ D C H' s', Inv X pins σ H' s' → (∃ m, s'.heap.Ns C m) → FpOk X pins H' C → Q (.ref D) H' → RR (.ref D) C (.ok .next) s') :
    wpAny (model X.prog X.w) X.A (newList []) (fun acc s3 => wpAny (model X.prog X.w) X.A (newFunctionEnv scope X.env.globals cl [] X.env.qual none .none (some X.env)) (fun cenv s4 =>
      codeAny (model X.prog X.w) X.A (.compStart (.ListComp elt [⟨tg, iter, ifs, 0⟩] scope pos) 0 (.ref it) acc { cenv with scope := relabel scope X.env }) (RR acc cenv.locals) s4) E s3) E s2 := by
  have fr := I.hok.fresh (Nat.le_refl s2.heap.objs.size)
  obtain ⟨W, ⟨m0, w0⟩, turn⟩ := h _ fr
  have objs := T.obj 0 _ st2
  have lt2 : ∀ b ∈ fp, b < s2.heap.objs.size := fun b hb => let ⟨o, e, _⟩ := objs b hb; Heap.lt_size e
  refine wpAny_newObj_type ?_
  -- the list is there, tracked
  have I3 : Inv X pins σ (upd H1 s2.heap.objs.size (.lst [])) { s2 with heap := s2.heap.push { cls := .type "list", data := .seq ([] : List Value).toArray }, toks := s2.toks } :=
    I.lnew (its := []) (t' := s2.toks) .nil (Nat.zero_le _)
  have old3 : ∀ b o, s2.heap.get? b = some o → (s2.heap.push { cls := .type "list", data := .seq ([] : List Value).toArray }).get? b = some o := fun b o e => Heap.get?_push_of_some _ e
  have f3 : ∀ b ∈ fp, FpOk X pins (upd H1 s2.heap.objs.size (.lst [])) b := fun b hb => by
    obtain ⟨z, r⟩ := f2 b hb
    exact ⟨by rw [upd_ne (Nat.ne_of_lt (lt2 b hb))]; exact z, r⟩
  have st3 : tn 0 (s2.heap.push { cls := .type "list", data := .seq ([] : List Value).toArray }) := T.keep _ _ _ st2 fun b _ o e => old3 b o e
  show wpAny _ _ _ _ _ { s2 with heap := s2.heap.push { cls := .type "list", data := .seq ([] : List Value).toArray }, toks := s2.toks }
  generalize hs3 : ({ s2 with heap := s2.heap.push { cls := .type "list", data := .seq ([] : List Value).toArray }, toks := s2.toks } : Shared) = s3 at *
  have hh3 : s3.heap = s2.heap.push { cls := .type "list", data := .seq ([] : List Value).toArray } := by rw [← hs3]
  rw [← hh3] at st3
  have lt3 : ∀ b ∈ fp, b < s3.heap.objs.size := fun b hb => by rw [hh3, Heap.size_push]; exact Nat.lt_succ_of_lt (lt2 b hb)
  generalize hD : s2.heap.objs.size = D at *
  generalize hH3 : upd H1 D (HO.lst []) = H3 at *
  refine wpAny_newFunctionEnv K.nocell (by intro y hy; simp at hy) (fun h1 hns sb => ?_) K.kind
  have old4 : ∀ b o, s3.heap.get? b = some o → h1.get? b = some o := fun b o e => sb.extBut b o (Nat.ne_of_lt (Heap.lt_size e)) (Heap.get?_push_of_some _ e)
  -- the block's own context
  have ok := comp_ok K I3 f3 lt3
  have I4 : Inv (compCx X N1 scope cl s3.heap.objs.size s3 H3 fp) [] (capSt cap σ) H3 { s3 with heap := h1, toks := s3.toks + ([] : List (Str × Value)).length } := by
    refine ⟨ok, rfl, I3.bare, Un.kept old4, ⟨_, hns, fun i x v e1 e2 e3 => ?_⟩, fun x c e => ?_, I3.hok.fresh (Nat.le_refl _), fun x c e => I3.freeC x c (K.sub x c e), fun p hp => absurd (show p ∈ ([] : List (Addr × Obj)) from hp) (by simp), I3.hok.kept old4, ?_⟩
    · obtain ⟨j, ej, ev⟩ : ∃ j, cap[i]? = some (some j) ∧ (σ[j]?).getD none = some v := by
        unfold capSt at e2
        rw [List.getElem?_map] at e2
        cases q : cap[i]? with
        | none => rw [q] at e2; cases e2
        | some o =>
          rw [q] at e2
          cases o with
          | none => cases e2
          | some j => exact ⟨j, rfl, Option.some.inj e2⟩
      obtain ⟨k1, k2, k3, k4⟩ := K.caps i x j e1 ej
      have ev' : σ[j]? = some (some v) := by
        cases q : σ[j]? with
        | none => rw [q] at ev; cases ev
        | some o => rw [q] at ev; exact congrArg some ev
      obtain ⟨m, hn, hl⟩ := I3.loc
      obtain ⟨u, ru, lk⟩ := hl j x v k1 ev' k2
      refine ⟨u, ru, .inr ⟨k4, ?_⟩⟩
      rcases lk with ⟨z, _⟩ | ⟨_, c, e, hcell⟩
      · exact absurd z k3
      · obtain ⟨c', e'⟩ := K.has x k4
        have ec := K.sub x c' e'
        rw [e] at ec; cases ec
        obtain ⟨o, ho, hd⟩ := hcell
        exact ⟨c, e', o, old4 _ _ ho, hd⟩
    · obtain ⟨v, o, ho, hd⟩ := I3.cell x c (K.sub x c e)
      exact ⟨v, o, old4 _ _ ho, hd⟩
    · unfold capSt
      rw [List.length_map]
      exact K.len
  have loop : ∀ s5 : Shared, s5 = { s3 with heap := h1, toks := s3.toks + ([] : List (Str × Value)).length } →
      codeAny (model X.prog X.w) X.A (.compLoop (.ListComp elt [⟨tg, iter, ifs, 0⟩] scope pos) 0 (.ref it) (.ref D) (compEnvC scope cl s3.heap.objs.size X.env)) (RR (.ref D) s3.heap.objs.size) s5 := by
    rintro s5 rfl
    have st4 : tn 0 h1 := T.keep _ _ _ st3 fun b _ o e => old4 b o e
    have stat : ∀ {H' : Hp}, (∀ b ∈ fp, H' b = none) → ∀ b ∈ fp, FpOk (compCx X N1 scope cl s3.heap.objs.size s3 H3 fp) [] H' b := fun {H'} hn b hb =>
      ⟨hn b hb, (ok.exf b hb).1, ok.exfs b hb, .inl hb, (ok.exf b hb).2, fun p hp => absurd (show p ∈ ([] : List (Addr × Obj)) from hp) (by simp)⟩
    refine compLoop_go (fun n s' => ∃ i σ' H', Inv (compCx X N1 scope cl s3.heap.objs.size s3 H3 fp) [] σ' H' s' ∧ tn i s'.heap ∧ (∀ b ∈ fp, H' b = none) ∧ W i n σ' H') ?_ m0
      ⟨0, _, H3, I4, st4, fun b hb => (f3 b hb).1, w0⟩
    rintro n s6 ⟨i, σ6, H6, I6, st6, fr6, w6⟩
    rcases turn i n σ6 H6 w6 with ⟨stop, q⟩ | ⟨go, N, hN, step⟩
    · refine thn (T.done (compCx X N1 scope cl s3.heap.objs.size s3 H3 fp) rfl rfl rfl hc i [] s6 σ6 H6 _ I6 (stat fr6) st6 stop) fun r s7 ⟨hr, I7⟩ => ?_
      subst hr
      have I8 : Inv X pins σ H6 s7 := I3.call' (ch := fp) I7.os I7.base I7.hok I7.bare fun b hb => ⟨(f3 b hb).2.2.2.1, (f3 b hb).2.1, (f3 b hb).2.2.2.2.1, (f3 b hb).2.2.2.2.2⟩
      have hC : FpOk X pins H6 s3.heap.objs.size := I3.fpOk (Nat.le_refl _) I7.free
      obtain ⟨m, hn, _⟩ := I7.loc
      exact hRR D _ H6 s7 I8 ⟨m, hn⟩ hC q
    · refine thn (T.item (compCx X N1 scope cl s3.heap.objs.size s3 H3 fp) rfl rfl rfl hc i [] s6 σ6 H6 _ I6 (stat fr6) st6 go) fun r s7 ⟨u, hr, h7⟩ => ?_
      subst hr
      refine thn h7 fun _ s8 ⟨x, H8, I8, r8, y8, st8, fr8⟩ => ?_
      have I8' := I8.pinned (stat fr8) (T.obj _ _ st8)
      have keepT : ∀ {σ' : St} {H' : Hp} {s' : Shared}, Inv (compCx X N1 scope cl s3.heap.objs.size s3 H3 fp) ([] ++ pinsAt fp s8.heap) σ' H' s' → tn (i + 1) s'.heap ∧ ∀ b ∈ fp, H' b = none := fun {σ' H' s'} I' =>
        ⟨T.keep _ _ _ st8 fun b hb o e => (I'.pin (b, o) (List.mem_append_right _ (List.mem_append_right _ (mem_pinsAt hb e)))).1, fun b hb => by
          obtain ⟨o, e, d⟩ := T.obj _ _ st8 b hb
          exact (I'.pin (b, o) (List.mem_append_right _ (List.mem_append_right _ (mem_pinsAt hb e)))).2.1⟩
      refine thn (hg _ s3 H3 fp _ s8 σ6 H8 x u _ I8' r8 (step x H8 y8)) fun _ s9 ⟨σ9, H9, I9, q9⟩ => ?_
      refine thn (ht _ s3 H3 fp _ s9 σ9 H9 _ I9 q9) fun b s10 ⟨H10, I10, q10⟩ => ?_
      cases b with
      | false =>
        rw [if_neg Bool.false_ne_true] at q10 ⊢
        obtain ⟨m', hm, w'⟩ := hN _ _ q10
        obtain ⟨k1, k2⟩ := keepT I10
        exact ⟨m', hm, i + 1, σ9, H10, I10.unpinned, k1, k2, w'⟩
      | true =>
        rw [if_pos rfl] at q10 ⊢
        refine thn (he _ s3 H3 fp _ s10 σ9 H10 _ I10 q10) fun v s11 ⟨y, H11, I11, r11, xs, hx, hz, n11⟩ => ?_
        obtain ⟨m', hm, w'⟩ := hN _ _ n11
        refine thn (mt_append (X := compCx X N1 scope cl s3.heap.objs.size s3 H3 fp) _ s11 σ9 H11 (.ref D) [y] (.ref D) [v] (fun _ H' => H' = upd H11 D (.lst (xs ++ [y]))) I11 rfl (.cons r11 .nil) ⟨D, xs, y, rfl, rfl, hx, hz, rfl⟩) fun v' s12 ⟨y', H12, I12, r12, q12⟩ => ?_
        subst q12
        obtain ⟨k1, k2⟩ := keepT I12
        exact ⟨m', hm, i + 1, σ9, _, I12.unpinned, k1, k2, w'⟩
  have st4 : tn 0 h1 := T.keep _ _ _ st3 fun b _ o e => old4 b o e
  exact codeAny_compStart_list (loop _ rfl) (T.self X.A 0 _ _ _ st4 (loop _ rfl))

/-- the frame of the block let go -/
theorem Inv.letgo {H : Hp} {s' : Shared} {C : Addr} (I : Inv X pins σ H s') (f : FpOk X pins H C) {h' : Heap} (sb : Heap.SameBut C s'.heap h') : Inv X pins σ H { s' with heap := h' } :=
  I.turned (t' := s'.toks) (fun b o hb e => (sb.2 b hb).trans e) f.1 f.2.1 f.2.2.2.1 f.2.2.2.2.1 f.2.2.2.2.2

/-- [elt for tg in iter if ..] -/
theorem pe_comp {wi : TI} (K : CompOk X scope cl N1 cap) (hc : X.calm = true) (hi : PI X tg iter wi) (hg : ∀ C s0 H0 fp, PG (compCx X N1 scope cl C s0 H0 fp) tg g) (ht : ∀ C s0 H0 fp, PIf (compCx X N1 scope cl C s0 H0 fp) ifs tt)
    (he : ∀ C s0 H0 fp, PE (compCx X N1 scope cl C s0 H0 fp) elt te) (hs : ∀ x, foldedSetIterable iter X.env x = pure x := by intro _; rfl) :
    PE X (.ListComp elt [⟨tg, iter, ifs, 0⟩] scope pos) (tComp wi g tt te cap) := by
  intro pins s σ H Q I h
  rw [eval_ListComp]
  refine wpAny_comprehension_free (use := none) rfl hs K.clos K.kind K.names (thn (hi pins s σ H _ I h) fun v s1 h1 => thn h1 fun itv s2 h2 => ?_)
  obtain ⟨it, fp, tn, J, H2, e, I2, T, st2, f2, hq⟩ := h2
  subst e
  refine comp_run (RR := fun acc C => compPost (model X.prog X.w) X.A X.xe none (EP X pins σ Q) acc C) K hc I2 T st2 f2 hg ht he hq ?_
  rintro D C H' s' I' ⟨m, hn⟩ f q
  exact ⟨m, hn, fun h' sb => ⟨.ref D, H', I'.letgo f sb, rfl, q⟩⟩

end
/-! ### the forms one uses -/
theorem comp_range {lo : Int} {n : Nat} {g : TG} {tt : TT} {te : TE} {σ0 : St} {H1 : Hp} {acc : Addr} {Q : VK} (Pv : Nat → St → Hp → Prop) (h0 : Pv 0 σ0 (upd H1 acc (.lst [])))
    (hs : ∀ i σ H, i < n → Pv i σ H → g (.int (lo + i)) σ H fun σ4 H4 => tt σ4 H4 fun b H5 =>
      if b = true then te σ4 H5 fun y H6 => ∃ xs, H6 acc = some (.lst xs) ∧ xs.length < sizeLine ∧ Pv (i + 1) σ4 (upd H6 acc (.lst (xs ++ [y]))) else Pv (i + 1) σ4 H5)
    (hd : ∀ σ H, Pv n σ H → Q (.ref acc) H) : CompW (Itr lo n) g tt te acc σ0 H1 Q := by
  refine ⟨fun i m σ H => m = n - i ∧ i ≤ n ∧ Pv i σ H, ⟨n, by simp, Nat.zero_le _, h0⟩, ?_⟩
  rintro i m σ H ⟨rfl, hi, p⟩
  by_cases hlt : i < n
  · refine .inr ⟨hlt, Pv (i + 1), fun σ' H' p' => ⟨n - (i + 1), by omega, rfl, hlt, p'⟩, fun x H' y => ?_⟩
    obtain ⟨e, y⟩ := y
    subst e y
    exact hs i σ _ hlt p
  · have e : i = n := by omega
    subst e
    exact .inl ⟨Nat.le_refl _, hd σ H p⟩
noncomputable def clOf (cells : List (Str × Addr)) : List (Str × NameKind) → List (Str × Addr) → List (Str × Addr)
  | [], acc => acc
  | (n, k) :: r, acc => clOf cells r (if k == .free then (n, (cells.lookup n).getD 0) :: acc else acc)
theorem clos_loop {env : Env} : ∀ (names : List (Str × NameKind)) (acc : List (Str × Addr)), (∀ y ∈ names, y.2 = .free → (env.cells.lookup y.1).isSome = true) →
    (forIn names acc fun x (cs : List (Str × Addr)) => if (x.2 == NameKind.free) = true then do let c ← cellOf env x.1; pure (ForInStep.yield ((x.1, c) :: cs)) else (pure (ForInStep.yield cs) : Sem (ForInStep (List (Str × Addr))))) = pure (clOf env.cells names acc)
  | [], acc, _ => by rw [List.forIn_nil]; rfl
  | (n, k) :: r, acc, h => by
    rw [List.forIn_cons]
    by_cases hk : (k == NameKind.free) = true
    · obtain ⟨c, hc⟩ := Option.isSome_iff_exists.mp (h (n, k) List.mem_cons_self (by simpa using hk))
      have hc : env.cells.lookup n = some c := hc
      have e : cellOf env n = pure c := by unfold cellOf; rw [hc]
      simp only [hk, if_true, e, pure_bind]
      unfold clOf
      rw [if_pos hk, hc]
      exact clos_loop r _ fun y hy => h y (List.mem_cons_of_mem _ hy)
    · simp only [hk, if_false, pure_bind, Bool.false_eq_true]
      unfold clOf
      rw [if_neg hk]
      exact clos_loop r _ fun y hy => h y (List.mem_cons_of_mem _ hy)
theorem clos_of {env : Env} {scope : Scope} (h : ∀ y ∈ scope.names, y.2 = .free → (env.cells.lookup y.1).isSome = true) : closureFor scope env = pure (clOf env.cells scope.names []) := by
  unfold closureFor
  rw [← clos_loop scope.names [] h]
  simp only [bind_pure]
theorem clOf_mem {cells : List (Str × Addr)} : ∀ (names : List (Str × NameKind)) (acc : List (Str × Addr)), (∀ y ∈ names, y.2 = .free → (cells.lookup y.1).isSome = true) → (∀ p ∈ acc, cells.lookup p.1 = some p.2) →
    ∀ p ∈ clOf cells names acc, cells.lookup p.1 = some p.2
  | [], acc, _, ha, p, hp => ha p hp
  | (n, k) :: r, acc, h, ha, p, hp => by
    unfold clOf at hp
    refine clOf_mem r _ (fun y hy => h y (List.mem_cons_of_mem _ hy)) ?_ p hp
    by_cases hk : (k == NameKind.free) = true
    · rw [if_pos hk]
      intro q hq
      rcases List.mem_cons.mp hq with rfl | hq
      · obtain ⟨c, hc⟩ := Option.isSome_iff_exists.mp (h (n, k) List.mem_cons_self (by simpa using hk))
        have hc : cells.lookup n = some c := hc
        rw [hc]; rfl
      · exact ha q hq
    · rw [if_neg hk]; exact ha
theorem clOf_has {cells : List (Str × Addr)} (x : Str) : ∀ (names : List (Str × NameKind)) (acc : List (Str × Addr)), ((∃ y ∈ names, y.1 = x ∧ y.2 = .free) ∨ (acc.lookup x).isSome = true) → ((clOf cells names acc).lookup x).isSome = true
  | [], acc, h => by
    rcases h with ⟨y, hy, _⟩ | h
    · simp at hy
    · exact h
  | (n, k) :: r, acc, h => by
    unfold clOf
    refine clOf_has x r _ ?_
    rcases h with ⟨y, hy, e1, e2⟩ | h
    · rcases List.mem_cons.mp hy with rfl | hy
      · refine .inr ?_
        have hk : (k == NameKind.free) = true := by simpa using e2
        rw [if_pos hk]
        have e1 : n = x := e1
        subst e1
        simp [List.lookup_cons]
      · exact .inl ⟨y, hy, e1, e2⟩
    · refine .inr ?_
      split
      · rw [List.lookup_cons]
        split
        · rfl
        · exact h
      · exact h
theorem lookup_relabel {env : Env} {k : NameKind} : ∀ {names : List (Str × NameKind)} {x : Str}, (∀ y ∈ names, y.2 ≠ .cell) → k = .cell ∨ k = .free →
    (names.map fun (n, k) => if (k == NameKind.free && env.scope.kind == .function && env.kindOf n == some .cell) then (n, NameKind.cell) else (n, k)).lookup x = some k → ∃ y ∈ names, y.1 = x ∧ y.2 = .free
  | [], x, _, _, h => by simp at h
  | (n, j) :: r, x, hn, hk, h => by
    have ih := @lookup_relabel env k r x (fun y hy => hn y (List.mem_cons_of_mem _ hy)) hk
    rw [List.map_cons, List.lookup_cons] at h
    have e1 : ∀ (c : Bool), ((if c = true then (n, NameKind.cell) else (n, j)) : Str × NameKind).1 = n := by intro c; cases c <;> rfl
    by_cases hx : (x == n) = true
    · have hxn : n = x := (by simpa using hx : x = n).symm
      refine ⟨(n, j), List.mem_cons_self, hxn, ?_⟩
      by_cases hc : (j == NameKind.free && env.scope.kind == .function && env.kindOf n == some .cell) = true
      · simp only [Bool.and_eq_true] at hc
        simpa using hc.1.1
      · simp only [e1, hx] at h
        simp only [hc] at h
        have h : j = k := by simpa using h
        rcases hk with rfl | rfl
        · exact absurd h (hn _ List.mem_cons_self)
        · exact h
    · have hx' : (x == n) = false := by simpa using hx
      simp only [e1, hx'] at h
      obtain ⟨y, hy, r⟩ := ih h
      exact ⟨y, List.mem_cons_of_mem _ hy, r⟩
theorem relabel_free_aux {env : Env} : ∀ {names : List (Str × NameKind)} {x : Str}, names.lookup x = some .free →
    (names.map fun (n, k) => if (k == NameKind.free && env.scope.kind == .function && env.kindOf n == some .cell) then (n, NameKind.cell) else (n, k)).lookup x = some .cell ∨
    (names.map fun (n, k) => if (k == NameKind.free && env.scope.kind == .function && env.kindOf n == some .cell) then (n, NameKind.cell) else (n, k)).lookup x = some .free
  | [], _, h => by simp at h
  | (n, k) :: r, x, h => by
    have ih := @relabel_free_aux env r x
    show List.lookup x ((if (k == NameKind.free && env.scope.kind == .function && env.kindOf n == some .cell) = true then (n, NameKind.cell) else (n, k)) :: _) = _ ∨
      List.lookup x ((if (k == NameKind.free && env.scope.kind == .function && env.kindOf n == some .cell) = true then (n, NameKind.cell) else (n, k)) :: _) = _
    cases hx : x == n with
    | true =>
      simp only [List.lookup_cons, hx] at h
      cases h
      by_cases hc : (NameKind.free == NameKind.free && env.scope.kind == .function && env.kindOf n == some .cell) = true
      · rw [if_pos hc]; exact .inl (by simp only [List.lookup_cons, hx])
      · rw [if_neg hc]; exact .inr (by simp only [List.lookup_cons, hx])
    | false =>
      simp only [List.lookup_cons, hx] at h
      by_cases hc : (k == NameKind.free && env.scope.kind == .function && env.kindOf n == some .cell) = true
      · rw [if_pos hc]; simp only [List.lookup_cons, hx]; exact ih h
      · rw [if_neg hc]; simp only [List.lookup_cons, hx]; exact ih h
theorem relabel_free {scope : Scope} {env : Env} {x : Str} (h : scope.names.lookup x = some .free) : (relabel scope env).names.lookup x = some .cell ∨ (relabel scope env).names.lookup x = some .free := relabel_free_aux h

/-- a comprehension in a def's body, by what is seen of the two scopes -/
theorem compOk_def {X : Cx} {scope sc : Scope} {N1 : List Str} {cap : List (Option Nat)} (n : Nat) (hsc : X.env.scope = sc) (hcells : X.env.cells = cellsFrom n sc.names []) (kind : scope.kind = .function)
    (nocell : ∀ y ∈ scope.names, y.2 ≠ .cell) (names : ∀ y ∈ scope.names, y.2 = .local → scope.names.lookup y.1 = some .local) (free : ∀ y ∈ scope.names, y.2 = .free → sc.names.lookup y.1 = some .cell)
    (len : cap.length = N1.length)
    (caps : ∀ i, i < N1.length → ∀ x j, N1[i]? = some x → cap[i]? = some (some j) → X.N[j]? = some x ∧ sc.names.lookup x = some .cell ∧ scope.names.lookup x = some .free) :
    CompOk X scope (clOf X.env.cells scope.names []) N1 cap := by
  have fr : ∀ y ∈ scope.names, y.2 = .free → (X.env.cells.lookup y.1).isSome = true := fun y hy e => by
    rw [hcells]
    exact PySem.W.cellsFrom_some _ _ _ (.inl (free y hy e))
  have mem : ∀ p ∈ clOf X.env.cells scope.names [], X.env.cells.lookup p.1 = some p.2 := clOf_mem scope.names [] fr fun p hp => absurd hp (by simp)
  have has : ∀ x, ((relabel scope X.env).names.lookup x = some .cell ∨ (relabel scope X.env).names.lookup x = some .free) → ∃ c, (clOf X.env.cells scope.names []).lookup x = some c := fun x h => by
    have q : ∃ y ∈ scope.names, y.1 = x ∧ y.2 = .free := by
      rcases h with h | h
      · exact lookup_relabel nocell (.inl rfl) h
      · exact lookup_relabel nocell (.inr rfl) h
    exact Option.isSome_iff_exists.mp (clOf_has x scope.names [] (.inl q))
  refine ⟨clos_of fr, fun x c h => mem (x, c) (PySem.mem_of_lookup h), kind, nocell, names, has, len, fun i x j e1 e2 => ?_⟩
  have hi : i < N1.length := (List.getElem?_eq_some_iff.mp e1).1
  obtain ⟨k1, k2, k3⟩ := caps i hi x j e1 e2
  refine ⟨k1, .inr (.inl (by rw [hsc]; exact k2)), ?_, ?_⟩
  · show X.env.scope.names.lookup x ≠ _
    rw [hsc, k2]
    intro z; cases z
  · exact relabel_free k3
end L2

set_option Elab.async false
set_option linter.all false
set_option maxRecDepth 100000
/-! Data of any depth in the abstract heap: ints, texts, tuples and lists of them; == and != of two such things; isinstance. -/
namespace L2
open PySem PySem.Spec PyProof.Rows

inductive Dd where
  | int (i : Int) | str (x : Str) | tup (ds : List Dd) | lst (ds : List Dd)

/-- the thing d stands at the value v -/
inductive At (H : Hp) : Dd → V → Prop where
  | int (i : Int) : At H (.int i) (.int i)
  | str (x : Str) : At H (.str x) (.str x)
  | tup {a : Addr} {xs : List V} {ds : List Dd} (h : H a = some (.tup xs)) (r : Paired (At H) ds xs) : At H (.tup ds) (.ref a)
  | lst {a : Addr} {xs : List V} {ds : List Dd} (h : H a = some (.lst xs)) (r : Paired (At H) ds xs) : At H (.lst ds) (.ref a)
noncomputable abbrev AtL (H : Hp) : List Dd → List V → Prop := Paired (At H)

theorem At.int_inv {H : Hp} {i : Int} {v : V} (h : At H (.int i) v) : v = .int i := by cases h; rfl
theorem At.tup_inv {H : Hp} {ds : List Dd} {v : V} (h : At H (.tup ds) v) : ∃ a xs, v = .ref a ∧ H a = some (.tup xs) ∧ AtL H ds xs := by
  cases h with
  | tup h r => exact ⟨_, _, rfl, h, r⟩
theorem At.lst_inv {H : Hp} {ds : List Dd} {v : V} (h : At H (.lst ds) v) : ∃ a xs, v = .ref a ∧ H a = some (.lst xs) ∧ AtL H ds xs := by
  cases h with
  | lst h r => exact ⟨_, _, rfl, h, r⟩

theorem Paired.get {α β : Type} {F : α → β → Prop} : ∀ {l : List α} {m : List β} {i : Nat} {a : α} {b : β}, Paired F l m → l[i]? = some a → m[i]? = some b → F a b
  | _, _, _, _, _, .nil, e, _ => by simp at e
  | _, _, 0, _, _, .cons r _, e1, e2 => by simp at e1 e2; subst e1 e2; exact r
  | _, _, i + 1, a, b, .cons _ t, e1, e2 => Paired.get (i := i) t (by simpa using e1) (by simpa using e2)
theorem Paired.get1 {α β : Type} {F : α → β → Prop} {l : List α} {m : List β} {i : Nat} {a : α} (p : Paired F l m) (e : l[i]? = some a) : ∃ b, m[i]? = some b ∧ F a b := by
  have hl := p.length
  obtain ⟨hi, _⟩ := List.getElem?_eq_some_iff.mp e
  have : m[i]? = some m[i] := by simp [show i < m.length by omega]
  exact ⟨_, this, Paired.get p e this⟩
theorem Paired.get2 {α β : Type} {F : α → β → Prop} {l : List α} {m : List β} {i : Nat} {b : β} (p : Paired F l m) (e : m[i]? = some b) : ∃ a, l[i]? = some a ∧ F a b := by
  have hl := p.length
  obtain ⟨hi, _⟩ := List.getElem?_eq_some_iff.mp e
  have : l[i]? = some l[i] := by simp [show i < l.length by omega]
  exact ⟨_, this, Paired.get p this e⟩
theorem Paired.app {α β : Type} {F : α → β → Prop} : ∀ {l l' : List α} {m m' : List β}, Paired F l m → Paired F l' m' → Paired F (l ++ l') (m ++ m')
  | _, _, _, _, .nil, q => q
  | _, _, _, _, .cons r t, q => .cons r (Paired.app t q)
theorem Paired.impM {α β : Type} {F G : α → β → Prop} : ∀ {l : List α} {m : List β}, Paired F l m → (∀ a b, a ∈ l → F a b → G a b) → Paired G l m
  | _, _, .nil, _ => .nil
  | _, _, .cons r t, f => .cons (f _ _ List.mem_cons_self r) (Paired.impM t fun a b h => f a b (List.mem_cons_of_mem _ h))

theorem Same.upd_new {H : Hp} {a : Addr} {o : HO} (n : H a = none) : Same H (upd H a o) := fun b u e => by rw [upd_ne (ne_of_none e n)]; exact e

theorem At.same {H H' : Hp} (e : Same H H') : ∀ (n : Nat) {d : Dd} {v : V}, sizeOf d ≤ n → At H d v → At H' d v
  | 0, d, v, hn, _ => by cases d <;> simp at hn
  | n + 1, d, v, hn, h => by
    have lt : ∀ {ds : List Dd} {d' : Dd}, d' ∈ ds → sizeOf ds < n + 1 → sizeOf d' ≤ n := fun hm hs => by
      have := List.sizeOf_lt_of_mem hm
      omega
    cases h with
    | int i => exact .int i
    | str x => exact .str x
    | tup h r => exact .tup (e _ _ h) (Paired.impM r fun a b hm q => At.same e n (lt hm (by simp at hn; omega)) q)
    | lst h r => exact .lst (e _ _ h) (Paired.impM r fun a b hm q => At.same e n (lt hm (by simp at hn; omega)) q)
theorem At.mono {H H' : Hp} {d : Dd} {v : V} (h : At H d v) (e : Same H H') : At H' d v := At.same e _ (Nat.le_refl _) h
theorem AtL.mono {H H' : Hp} {d : List Dd} {v : List V} (h : AtL H d v) (e : Same H H') : AtL H' d v := Paired.impM h fun _ _ _ q => q.mono e

/-- things without lists lean on tuples alone, which never change -/
inductive NoL : Dd → Prop where
  | int (i : Int) : NoL (.int i)
  | str (x : Str) : NoL (.str x)
  | tup {ds : List Dd} (h : ∀ d ∈ ds, NoL d) : NoL (.tup ds)
noncomputable def SameT (H H' : Hp) : Prop := ∀ a xs, H a = some (.tup xs) → H' a = some (.tup xs)
theorem Same.t {H H' : Hp} (h : Same H H') : SameT H H' := fun a xs e => h a _ e
theorem SameT.trans {H H1 H2 : Hp} (a : SameT H H1) (b : SameT H1 H2) : SameT H H2 := fun c xs e => b c xs (a c xs e)
theorem SameT.put {H : Hp} {l : Addr} {xs : List V} {o : HO} (h : H l = some (.lst xs)) : SameT H (upd H l o) := fun a ys e => by
  rw [upd_ne (ne_of e h (fun z => by cases z))]; exact e
theorem At.sameT {H H' : Hp} (e : SameT H H') : ∀ (n : Nat) {d : Dd} {v : V}, sizeOf d ≤ n → NoL d → At H d v → At H' d v
  | 0, d, v, hn, _, _ => by cases d <;> simp at hn
  | n + 1, d, v, hn, hl, h => by
    cases h with
    | int i => exact .int i
    | str x => exact .str x
    | @tup a xs ds h r =>
      cases hl with
      | tup hl =>
        refine .tup (e _ _ h) (Paired.impM r fun d' b hm q => At.sameT e n ?_ (hl d' hm) q)
        have := List.sizeOf_lt_of_mem hm
        simp at hn
        omega
    | lst h r => cases hl
theorem At.monoT {H H' : Hp} {d : Dd} {v : V} (h : At H d v) (l : NoL d) (e : SameT H H') : At H' d v := At.sameT e _ (Nat.le_refl _) l h
theorem AtL.monoT {H H' : Hp} {d : List Dd} {v : List V} (h : AtL H d v) (l : ∀ x ∈ d, NoL x) (e : SameT H H') : AtL H' d v := Paired.impM h fun _ _ m q => q.monoT (l _ m) e
theorem Paired.snoc' {α β : Type} {F : α → β → Prop} {l : List α} {m : List β} {a : α} {b : β} (h : Paired F l m) (q : F a b) : Paired F (l ++ [a]) (m ++ [b]) := Paired.app h (.cons q .nil)

/-- no deeper than n -/
noncomputable def fits : Nat → Dd → Prop
  | _, .int _ => True
  | _, .str _ => True
  | 0, _ => False
  | n + 1, .tup ds => ∀ d ∈ ds, fits n d
  | n + 1, .lst ds => ∀ d ∈ ds, fits n d

section
variable {X : Cx} {pins : List (Addr × Obj)} {σ : St} {H : Hp} {s : Shared}
/-- what stands at a value is one thing -/
theorem At.inj {H : Hp} : ∀ (n : Nat) {d d' : Dd} {v : V}, sizeOf d ≤ n → At H d v → At H d' v → d = d'
  | 0, d, _, _, hn, _, _ => by cases d <;> simp at hn
  | n + 1, d, d', v, hn, h, h' => by
    have rec' : ∀ {ds es : List Dd} {xs : List V}, sizeOf ds ≤ n → AtL H ds xs → AtL H es xs → ds = es := by
      intro ds es xs hs r
      induction r generalizing es with
      | nil => intro q; cases q; rfl
      | @cons a b l1 l2 q t ih =>
        intro q'
        cases q' with
        | @cons a' _ l1' _ q1 t' =>
          have e1 : a = a' := At.inj n (by simp at hs; omega) q q1
          have e2 := ih (by simp at hs; omega) t'
          rw [e1, e2]
    cases h with
    | int i => cases h'; rfl
    | str x => cases h'; rfl
    | @tup a xs ds h r =>
      cases h' with
      | @tup _ ys es h1 r1 =>
        rw [h] at h1; cases h1
        rw [rec' (by simp at hn; omega) r r1]
      | @lst _ ys es h1 r1 => rw [h] at h1; cases h1
    | @lst a xs ds h r =>
      cases h' with
      | @lst _ ys es h1 r1 =>
        rw [h] at h1; cases h1
        rw [rec' (by simp at hn; omega) r r1]
      | @tup _ ys es h1 r1 => rw [h] at h1; cases h1

theorem all_range {n : Nat} {e : Nat → Bool} : ((List.range n).all e) = true ↔ ∀ j, j < n → e j = true := by
  rw [List.all_eq_true]
  exact ⟨fun h j hj => h j (List.mem_range.mpr hj), fun h j hj => h j (List.mem_range.mp hj)⟩

/-- the items' answers -/
theorem items_eq {F : Dd → Dd → Nat → Bool → Prop} {ds es : List Dd} (h : ∀ j d e, ds[j]? = some d → es[j]? = some e → ∃ b, F d e j b ∧ (b = true ↔ d = e)) :
    ∃ f : Nat → Bool, (∀ j d e, ds[j]? = some d → es[j]? = some e → F d e j (f j) ∧ (f j = true ↔ d = e)) := by
  have h' : ∀ j, ∃ b : Bool, ∀ d e, ds[j]? = some d → es[j]? = some e → F d e j b ∧ (b = true ↔ d = e) := fun j => by
    cases hd : ds[j]? with
    | none => exact ⟨true, fun d e q => by cases q⟩
    | some d =>
      cases he : es[j]? with
      | none => exact ⟨true, fun d e _ q => by cases q⟩
      | some e =>
        obtain ⟨b, q⟩ := h j d e hd he
        exact ⟨b, fun d' e' q1 q2 => by cases q1; cases q2; exact q⟩
  exact Classical.skolem.mp h'
theorem arr_at {l : List Value} {j : Nat} {q : Value} (h : j < l.toArray.size) (g : l[j]? = some q) : l.toArray[j] = q := by
  have h' : j < l.length := by simpa using h
  rw [List.getElem?_eq_getElem h'] at g
  simpa using Option.some.inj g

theorem list_ext_iff {ds es : List Dd} (hl : ds.length = es.length) {f : Nat → Bool} (h : ∀ j d e, ds[j]? = some d → es[j]? = some e → (f j = true ↔ d = e)) : (∀ j, j < ds.length → f j = true) ↔ ds = es := by
  constructor
  · intro q
    refine List.ext_getElem hl fun j h1 h2 => ?_
    exact (h j ds[j] es[j] (by simp [h1]) (by simp [h2])).mp (q j h1)
  · rintro rfl j hj
    exact (h j ds[j] ds[j] (by simp [hj]) (by simp [hj])).mpr rfl

/-- == of things -/
theorem Inv.eqAt (I : Inv X pins σ H s) : ∀ (n : Nat) {A : Around} {d e : Dd} {v x : V} {u y : Value}, fits n d → At H d v → At H e x → RelV v u → RelV x y → A.units + n < cLine →
    ∃ b, SeqAt.EqAt A s u y b ∧ (b = true ↔ d = e) := by
  intro n
  induction n with
  | zero =>
    intro A d e v x u y hf h1 h2 r1 r2 hu
    cases h1 with
    | int i =>
      obtain ⟨t, rfl⟩ := r1
      cases h2 with
      | int j => obtain ⟨t', rfl⟩ := r2; exact ⟨_, SeqAt.EqAt.int_int i t j t', by simp⟩
      | str j => obtain ⟨t', rfl⟩ := r2; exact ⟨_, SeqAt.EqAt.int_str i t j t', by simp⟩
      | tup h r => cases r2; obtain ⟨its, _, p, _⟩ := I.tuple (SqT.of (K := X.K) h); exact ⟨_, SeqAt.EqAt.int_tuple i t p (by omega), by simp⟩
      | lst h r => cases r2; obtain ⟨its, _, p, _⟩ := I.list (SqL.of (K := X.K) h); exact ⟨_, SeqAt.EqAt.int_list i t p.isList (by omega), by simp⟩
    | str i =>
      obtain ⟨t, rfl⟩ := r1
      cases h2 with
      | int j => obtain ⟨t', rfl⟩ := r2; exact ⟨_, SeqAt.EqAt.str_int i t j t', by simp⟩
      | str j => obtain ⟨t', rfl⟩ := r2; exact ⟨_, SeqAt.EqAt.str_str i t j t', by simp⟩
      | tup h r => cases r2; obtain ⟨its, _, p, _⟩ := I.tuple (SqT.of (K := X.K) h); exact ⟨_, SeqAt.EqAt.str_tuple i t p (by omega), by simp⟩
      | lst h r => cases r2; obtain ⟨its, _, p, _⟩ := I.list (SqL.of (K := X.K) h); exact ⟨_, SeqAt.EqAt.str_list i t p.isList (by omega), by simp⟩
    | tup h r => exact hf.elim
    | lst h r => exact hf.elim
  | succ n ih =>
    intro A d e v x u y hf h1 h2 r1 r2 hu
    have sub : ∀ {ds es : List Dd} {xs ys : List V} {us ws : List Value}, (∀ d ∈ ds, fits n d) → AtL H ds xs → AtL H es ys → Vals xs us → Vals ys ws →
        ∃ f : Nat → Bool, ∀ j d e, ds[j]? = some d → es[j]? = some e → (∃ p q, us[j]? = some p ∧ ws[j]? = some q ∧ SeqAt.EqAt A.in1 s p q (f j)) ∧ (f j = true ↔ d = e) := by
      intro ds es xs ys us ws hfs a1 a2 v1 v2
      refine items_eq (F := fun d e j b => ∃ p q, us[j]? = some p ∧ ws[j]? = some q ∧ SeqAt.EqAt A.in1 s p q b) fun j d e e1 e2 => ?_
      obtain ⟨x1, g1, t1⟩ := Paired.get1 a1 e1
      obtain ⟨x2, g2, t2⟩ := Paired.get1 a2 e2
      obtain ⟨p, p1, p2⟩ := v1.get g1
      obtain ⟨q, q1, q2⟩ := v2.get g2
      obtain ⟨b, hb, hb'⟩ := ih (A := A.in1) (hfs d (List.mem_of_getElem? e1)) t1 t2 p2 q2 (by show A.units + 1 + n < cLine; omega)
      exact ⟨b, ⟨p, q, p1, q1, hb⟩, hb'⟩
    cases h1 with
    | int i =>
      obtain ⟨t, rfl⟩ := r1
      cases h2 with
      | int j => obtain ⟨t', rfl⟩ := r2; exact ⟨_, SeqAt.EqAt.int_int i t j t', by simp⟩
      | str j => obtain ⟨t', rfl⟩ := r2; exact ⟨_, SeqAt.EqAt.int_str i t j t', by simp⟩
      | tup h r => cases r2; obtain ⟨its, _, p, _⟩ := I.tuple (SqT.of (K := X.K) h); exact ⟨_, SeqAt.EqAt.int_tuple i t p (by omega), by simp⟩
      | lst h r => cases r2; obtain ⟨its, _, p, _⟩ := I.list (SqL.of (K := X.K) h); exact ⟨_, SeqAt.EqAt.int_list i t p.isList (by omega), by simp⟩
    | str i =>
      obtain ⟨t, rfl⟩ := r1
      cases h2 with
      | int j => obtain ⟨t', rfl⟩ := r2; exact ⟨_, SeqAt.EqAt.str_int i t j t', by simp⟩
      | str j => obtain ⟨t', rfl⟩ := r2; exact ⟨_, SeqAt.EqAt.str_str i t j t', by simp⟩
      | tup h r => cases r2; obtain ⟨its, _, p, _⟩ := I.tuple (SqT.of (K := X.K) h); exact ⟨_, SeqAt.EqAt.str_tuple i t p (by omega), by simp⟩
      | lst h r => cases r2; obtain ⟨its, _, p, _⟩ := I.list (SqL.of (K := X.K) h); exact ⟨_, SeqAt.EqAt.str_list i t p.isList (by omega), by simp⟩
    | @tup a xs ds h r =>
      cases r1
      obtain ⟨its, rv, p, _⟩ := I.tuple (SqT.of (K := X.K) h)
      cases h2 with
      | int j => obtain ⟨t', rfl⟩ := r2; exact ⟨_, SeqAt.EqAt.tuple_int j t' p (by omega), by simp⟩
      | str j => obtain ⟨t', rfl⟩ := r2; exact ⟨_, SeqAt.EqAt.tuple_str j t' p (by omega), by simp⟩
      | @lst b ys es h' r' =>
        cases r2
        obtain ⟨its', rv', p', _⟩ := I.list (SqL.of (K := X.K) h')
        exact ⟨_, SeqAt.EqAt.tuple_list p p'.isList (by omega), by simp⟩
      | @tup b ys es h' r' =>
        cases r2
        obtain ⟨its', rv', p', _⟩ := I.tuple (SqT.of (K := X.K) h')
        by_cases hab : a = b
        · subst hab
          have e := At.inj _ (Nat.le_refl _) (At.tup h r) (At.tup h' r')
          exact ⟨true, SeqAt.EqAt.same _, by simp [e]⟩
        · obtain ⟨f, hfj⟩ := sub hf r r' rv rv'
          have l1 := r.length
          have l2 := r'.length
          have l3 := rv.length
          have l4 := rv'.length
          refine ⟨_, SeqAt.EqAt.of_refs hab (SeqAt.RcAt.tuples (e := f) p p' (by omega) fun j h1 h2 => ?_), ?_⟩
          · simp only [List.size_toArray] at h1 h2
            obtain ⟨⟨q1, q2, g1, g2, z⟩, _⟩ := hfj j ds[j] es[j] (by simp [show j < ds.length by omega]) (by simp [show j < es.length by omega])
            rw [arr_at _ g1, arr_at _ g2]
            exact z
          · rw [Bool.and_eq_true, all_range, List.size_toArray, List.size_toArray, beq_iff_eq]
            constructor
            · rintro ⟨q, el⟩
              have hl : ds.length = es.length := by omega
              rw [(list_ext_iff hl fun j d e e1 e2 => (hfj j d e e1 e2).2).mp fun j hj => q j (by omega)]
            · intro e
              injection e with e
              subst e
              refine ⟨fun j hj => ?_, by omega⟩
              exact (hfj j ds[j] ds[j] (by simp [show j < ds.length by omega]) (by simp [show j < ds.length by omega])).2.mpr rfl
    | @lst a xs ds h r =>
      cases r1
      obtain ⟨its, rv, p, _⟩ := I.list (SqL.of (K := X.K) h)
      cases h2 with
      | int j => obtain ⟨t', rfl⟩ := r2; exact ⟨_, SeqAt.EqAt.list_int j t' p.isList (by omega), by simp⟩
      | str j => obtain ⟨t', rfl⟩ := r2; exact ⟨_, SeqAt.EqAt.list_str j t' p.isList (by omega), by simp⟩
      | @tup b ys es h' r' =>
        cases r2
        obtain ⟨its', rv', p', _⟩ := I.tuple (SqT.of (K := X.K) h')
        exact ⟨_, SeqAt.EqAt.list_tuple p.isList p' (by omega), by simp⟩
      | @lst b ys es h' r' =>
        cases r2
        obtain ⟨its', rv', p', _⟩ := I.list (SqL.of (K := X.K) h')
        by_cases hab : a = b
        · subst hab
          have e := At.inj _ (Nat.le_refl _) (At.lst h r) (At.lst h' r')
          exact ⟨true, SeqAt.EqAt.same _, by simp [e]⟩
        · obtain ⟨f, hfj⟩ := sub hf r r' rv rv'
          have l1 := r.length
          have l2 := r'.length
          have l3 := rv.length
          have l4 := rv'.length
          by_cases hl : ds.length = es.length
          · refine ⟨_, SeqAt.EqAt.of_refs hab (SeqAt.RcAt.lists (e := f) p.isList p'.isList (by simp only [List.size_toArray]; omega) (by omega) fun j h1 h2 => ?_), ?_⟩
            · simp only [List.size_toArray] at h1 h2
              obtain ⟨⟨q1, q2, g1, g2, z⟩, _⟩ := hfj j ds[j] es[j] (by simp [show j < ds.length by omega]) (by simp [show j < es.length by omega])
              rw [arr_at _ g1, arr_at _ g2]
              exact z
            · rw [all_range, List.size_toArray]
              constructor
              · intro q
                rw [(list_ext_iff hl fun j d e e1 e2 => (hfj j d e e1 e2).2).mp fun j hj => q j (by omega)]
              · intro e
                injection e with e
                subst e
                intro j hj
                exact (hfj j ds[j] ds[j] (by simp [show j < ds.length by omega]) (by simp [show j < ds.length by omega])).2.mpr rfl
          · refine ⟨_, SeqAt.EqAt.of_refs hab (SeqAt.RcAt.lists_lengths p.isList p'.isList (by simp only [List.size_toArray, bne_iff_ne]; omega) (by omega)), ?_⟩
            constructor
            · intro z; cases z
            · intro e; injection e with e; exact absurd (congrArg List.length e) hl
/-- the items of two sequences, one by one -/
theorem Inv.subs (I : Inv X pins σ H s) {n : Nat} {A : Around} {ds es : List Dd} {xs ys : List V} {us ws : List Value} (hfs : ∀ d ∈ ds, fits n d) (a1 : AtL H ds xs) (a2 : AtL H es ys) (v1 : Vals xs us) (v2 : Vals ys ws) (hu : A.units + n + 1 < cLine) :
    ∃ f : Nat → Bool, (∀ j (h1 : j < us.toArray.size) (h2 : j < ws.toArray.size), SeqAt.EqAt A.in1 s us.toArray[j] ws.toArray[j] (f j)) ∧ ∀ j d e, ds[j]? = some d → es[j]? = some e → (f j = true ↔ d = e) := by
  obtain ⟨f, hf⟩ := items_eq (F := fun d e j b => ∃ p q, us[j]? = some p ∧ ws[j]? = some q ∧ SeqAt.EqAt A.in1 s p q b) fun j d e e1 e2 => by
    obtain ⟨x1, g1, t1⟩ := Paired.get1 a1 e1
    obtain ⟨x2, g2, t2⟩ := Paired.get1 a2 e2
    obtain ⟨p, p1, p2⟩ := v1.get g1
    obtain ⟨q, q1, q2⟩ := v2.get g2
    obtain ⟨b, hb, hb'⟩ := I.eqAt n (A := A.in1) (hfs d (List.mem_of_getElem? e1)) t1 t2 p2 q2 (by show A.units + 1 + n < cLine; omega)
    exact ⟨b, ⟨p, q, p1, q1, hb⟩, hb'⟩
  have l1 := a1.length
  have l2 := a2.length
  have l3 := v1.length
  have l4 := v2.length
  refine ⟨f, fun j h1 h2 => ?_, fun j d e e1 e2 => (hf j d e e1 e2).2⟩
  simp only [List.size_toArray] at h1 h2
  obtain ⟨⟨q1, q2, g1, g2, z⟩, _⟩ := hf j ds[j] es[j] (by simp [show j < ds.length by omega]) (by simp [show j < es.length by omega])
  rw [arr_at _ g1, arr_at _ g2]
  exact z
/-- both tuples, or both lists -/
noncomputable def alikeD : Dd → Dd → Prop
  | .tup _, .tup _ => True
  | .lst _, .lst _ => True
  | _, _ => False
theorem Inv.rcAt (I : Inv X pins σ H s) {n : Nat} {A : Around} {d e : Dd} {v x : V} {u y : Value} (hf : fits (n + 1) d) (hk : alikeD d e) (h1 : At H d v) (h2 : At H e x) (r1 : RelV v u) (r2 : RelV x y) (hu : A.units + n + 1 < cLine) :
    ∃ b, SeqAt.RcAt A s u y b ∧ SeqAt.RcNeAt A s u y (!b) ∧ (b = true ↔ d = e) := by
  cases h1 with
  | int i => exact hk.elim
  | str i => exact hk.elim
  | @tup a xs ds h r =>
    cases r1
    cases h2 with
    | int j => exact hk.elim
    | str j => exact hk.elim
    | lst h' r' => exact hk.elim
    | @tup b ys es h' r' =>
      cases r2
      obtain ⟨its, rv, p, _⟩ := I.tuple (SqT.of (K := X.K) h)
      obtain ⟨its', rv', p', _⟩ := I.tuple (SqT.of (K := X.K) h')
      obtain ⟨f, hfj, hfe⟩ := I.subs hf r r' rv rv' hu
      have l1 := r.length
      have l2 := r'.length
      have l3 := rv.length
      have l4 := rv'.length
      refine ⟨_, SeqAt.RcAt.tuples (e := f) p p' (by omega) hfj, SeqAt.RcNeAt.tuples (e := f) p p' (by omega) hfj, ?_⟩
      rw [Bool.and_eq_true, all_range, List.size_toArray, List.size_toArray, beq_iff_eq]
      constructor
      · rintro ⟨q, el⟩
        have hl : ds.length = es.length := by omega
        rw [(list_ext_iff hl hfe).mp fun j hj => q j (by omega)]
      · intro e
        injection e with e
        subst e
        refine ⟨fun j hj => ?_, by omega⟩
        exact (hfe j ds[j] ds[j] (by simp [show j < ds.length by omega]) (by simp [show j < ds.length by omega])).mpr rfl
  | @lst a xs ds h r =>
    cases r1
    cases h2 with
    | int j => exact hk.elim
    | str j => exact hk.elim
    | tup h' r' => exact hk.elim
    | @lst b ys es h' r' =>
      cases r2
      obtain ⟨its, rv, p, _⟩ := I.list (SqL.of (K := X.K) h)
      obtain ⟨its', rv', p', _⟩ := I.list (SqL.of (K := X.K) h')
      obtain ⟨f, hfj, hfe⟩ := I.subs hf r r' rv rv' hu
      have l1 := r.length
      have l2 := r'.length
      have l3 := rv.length
      have l4 := rv'.length
      by_cases hl : ds.length = es.length
      · refine ⟨_, SeqAt.RcAt.lists (e := f) p.isList p'.isList (by simp only [List.size_toArray]; omega) (by omega) hfj, SeqAt.RcNeAt.lists (e := f) p.isList p'.isList (by simp only [List.size_toArray]; omega) (by omega) hfj, ?_⟩
        rw [all_range, List.size_toArray]
        constructor
        · intro q
          rw [(list_ext_iff hl hfe).mp fun j hj => q j (by omega)]
        · intro e
          injection e with e
          subst e
          intro j hj
          exact (hfe j ds[j] ds[j] (by simp [show j < ds.length by omega]) (by simp [show j < ds.length by omega])).mpr rfl
      · refine ⟨false, SeqAt.RcAt.lists_lengths p.isList p'.isList (by simp only [List.size_toArray, bne_iff_ne]; omega) (by omega), SeqAt.RcNeAt.lists_lengths p.isList p'.isList (by simp only [List.size_toArray, bne_iff_ne]; omega) (by omega), ?_⟩
        constructor
        · intro z; cases z
        · intro e; injection e with e; exact absurd (congrArg List.length e) hl
end

/-- x == y, x != y of two tuples or two lists, no deeper than n + 1 -/
noncomputable def rEqD (n : Nat) : R2 := fun x y H Q => ∃ d e, fits (n + 1) d ∧ alikeD d e ∧ At H d x ∧ At H e y ∧ (d = e → Q (.bl true) H) ∧ (d ≠ e → Q (.bl false) H)
noncomputable def rNeD (n : Nat) : R2 := fun x y H Q => ∃ d e, fits (n + 1) d ∧ alikeD d e ∧ At H d x ∧ At H e y ∧ (d = e → Q (.bl false) H) ∧ (d ≠ e → Q (.bl true) H)
theorem op_eqD {X : Cx} {n : Nat} (hu : X.A.units + n + 1 < cLine) : OpR X (compareOp .Eq) (rEqD n) := by
  intro pins s σ H x y v u Q I rx ry h
  obtain ⟨d, e, hf, hk, h1, h2, q1, q2⟩ := h
  obtain ⟨b, z, _, hb⟩ := I.rcAt hf hk h1 h2 rx ry hu
  refine z X.prog X.w _ _ ?_
  cases b with
  | true => exact ⟨.bl true, H, I, rfl, q1 (hb.mp rfl)⟩
  | false => exact ⟨.bl false, H, I, rfl, q2 fun e => by cases hb.mpr e⟩
theorem op_neD {X : Cx} {n : Nat} (hu : X.A.units + n + 1 < cLine) : OpR X (compareOp .NotEq) (rNeD n) := by
  intro pins s σ H x y v u Q I rx ry h
  obtain ⟨d, e, hf, hk, h1, h2, q1, q2⟩ := h
  obtain ⟨b, _, z, hb⟩ := I.rcAt hf hk h1 h2 rx ry hu
  refine z X.prog X.w _ _ ?_
  cases b with
  | true => exact ⟨.bl false, H, I, rfl, q1 (hb.mp rfl)⟩
  | false => exact ⟨.bl true, H, I, rfl, q2 fun e => by cases hb.mpr e⟩

/-! ### isinstance(x, T), T a built-in type -/
theorem call_isinst {X : Cx} {K : PySem.W.Frag} (hK : X.K = K) : CallR X (.builtin "isinstance") (fun xs H Q => ∃ x T t b, xs = [x, .ty T] ∧ TyOf K H x t ∧ PySem.W.kitOne K t (.type T) = some b ∧ Q (.bl b) H) := by
  subst hK
  intro pins s σ H xs us Q I r h
  obtain ⟨x, T, t, b, rfl, ty, e, q⟩ := h
  obtain ⟨u, w', rfl, r1, r2⟩ := vals2 r
  cases (show w' = Value.type T from r2)
  exact isinst_ok I r1 ty e fun tk => ⟨.bl b, H, I.tok tk, rfl, q⟩
end L2

set_option Elab.async false
set_option linter.all false
set_option maxRecDepth 100000
/-! Rules with the written part K said outright (for a comprehension's block), and calls of the text's own defs in short. -/
namespace L2
open PySem PySem.Spec PyProof.Rows
section
variable {X : Cx} {K : PySem.W.Frag}
theorem ix_tupK (h : X.K = K) : IxR X (rIxT K) := by subst h; exact ix_tup
theorem ix_listK (h : X.K = K) : IxR X (rIxL K) := by subst h; exact ix_list
theorem sl_tupK (h : X.K = K) : SlR X (rSlT K) := by subst h; exact sl_tup
theorem sl_listK (h : X.K = K) : SlR X (rSlL K) := by subst h; exact sl_list
theorem call_lenK (h : X.K = K) : CallR X (.builtin "len") (fun xs H Q => ∃ p ys, xs = [.ref p] ∧ (SqL K H p ys ∨ SqT K H p ys) ∧ Q (.int ys.length) H) := by subst h; exact call_len_seq
theorem call_listK (h : X.K = K) : CallR X (.type "list") (fun xs H Q => ∃ p ys, xs = [.ref p] ∧ (SqL K H p ys ∨ SqT K H p ys) ∧ ∀ l, H l = none → Q (.ref l) (upd H l (.lst ys))) := by subst h; exact call_list_of
theorem call_tupleK (h : X.K = K) : CallR X (.type "tuple") (fun xs H Q => ∃ p ys, xs = [.ref p] ∧ ((SqL K H p ys ∧ ∀ l, H l = none → Q (.ref l) (upd H l (.tup ys))) ∨ (SqT K H p ys ∧ Q (.ref p) H))) := by subst h; exact call_tuple_of
theorem op_catTK (h : X.K = K) : OpR X (binaryOp .Add) (rCatT K) := by subst h; exact op_catT
theorem pi_listK {tg l : Expr} {tl : TE} (h : X.K = K) (hl : PE X l tl) : PI X tg l (iList K tl) := by subst h; exact pi_list hl
theorem pi_tupK {tg l : Expr} {tl : TE} (h : X.K = K) (hl : PE X l tl) : PI X tg l (iTup K tl) := by subst h; exact pi_tup hl
theorem pg_tupK {es : List Expr} {k : Nat} {t : TGs} {n : Nat} {pos : Pos} (h : X.K = K) (hc : X.calm = true) (hg : PGs X es t)
    (hn : (assignEach es X.env).length = n := by rfl) (hst : (assignEach es X.env).findIdx? (·.1) = none := by rfl) : PG X (.Tuple es k pos) (gTup K n t) := by subst h; exact pg_tup hc hg hn hst
theorem pe_bmK {T : String} {id : String} {name : Str} {r : V → List V → Hp → VK → Prop} {o e : Expr} {es : List Expr} {to : TE} {t : TA} {apos cpos : Pos} (h : X.K = K) (pa : PlainAttrs T) (slot : Slot T name id) (hty : typeOf (.builtin id) = pure (.type "method_descriptor")) (hm : MtM X id r) (ho : PE X o to) (ha : PA X (e :: es) t)
    (hbase : attributeBase o name X.env (eval o X.env) = eval o X.env := by rfl)
    (hfew : ((backTo cpos (starEach (e :: es) X.env)).all (fun x => !x.1) && (backToKw cpos (keywordEach [] X.env)).all (fun x => x.1.isSome)
      && decide ((e :: es).length + ([] : List Keyword).length + (if ([] : List Keyword).isEmpty then 0 else 1) < 30)) = true := by rfl)
    (hline : (apos.endLine == cpos.line) = true := by rfl) (hs : starEach (e :: es) X.env = (false, eval e X.env) :: starEach es X.env := by rfl) (hplain : (backTo cpos (starEach es X.env)).any (·.1) = false := by rfl) :
    PE X (.Call (.Attribute o name apos) (e :: es) [] cpos) (tBM K T r to t) := by subst h; exact pe_bm pa slot hty hm ho ha hbase hfew hline hs hplain
end

/-! ### a def of the text, ready to be called -/
structure Cal (P : Program) (w : World) (K : PySem.W.Frag) (mg : Str → Option Value) (base : Heap) (k : Nat) (x : Str) (ps : List Str) (sp : Sp) : Prop where
  ex : ∃ (f : Addr) (fd : FuncData), FnOk P w K mg base CX0 k f fd ps sp ∧ mg x = some (.ref f) ∧ PySem.W.keepIn K (.ref f) = true ∧ Binds K fd ps []
theorem pe_cal {X : Cx} {k : Nat} {x : Str} {ps : List Str} {sp : Sp} {e : Expr} {es : List Expr} {t : TA} {p pos : Pos} (c : Cal X.prog X.w X.K X.mg X.base k x ps sp) (hr : Room k X.A) (hg : Gl X x) (ha : PA X (e :: es) t)
    (hdb : (x == ("__debug__" : Str)) = false := by decide) (he : starEach (e :: es) X.env = (false, eval e X.env) :: starEach es X.env := by rfl) (hpl : (backTo pos (starEach es X.env)).any (·.1) = false := by rfl) :
    PE X (.Call (.Name x p) (e :: es) [] pos) (tCall sp [] E0 t) := by
  obtain ⟨f, fd, F, hm, hk, hb⟩ := c.ex
  exact pe_call F hr hg hm hk hb .nil pass0 ha hdb he hpl
/-- a def as the top has left it: its name, its object -/
structure At0 (K : PySem.W.Frag) (x : Str) (st : Stmt) : Prop where
  ex : ∃ (f : Addr) (fd : FuncData), Fun K x x st f fd ∧ PySem.W.nsIn K mainGlobals x = some (some (.ref f))
theorem at0_mk {K : PySem.W.Frag} {x : Str} {st : Stmt} {f : Addr} {oc : Value} {od an : Option Addr} {osl : Array (Option Value)} {kV doc pm cdv ct : Value} (a : PySem.W.nsIn K mainGlobals x = some (some (.ref f)))
    (l : K.lookup f = some ⟨oc, od, .func (PySem.W.fnOf x x (defArgs st) (defBody st) (defScope st) .none kV doc pm an cdv ct), osl⟩) (c : PySem.W.codeIn K cdv x = true) (k : PySem.W.keepIn K (.ref f) = true) : At0 K x st :=
  ⟨f, _, fun_mk l c k, a⟩
theorem At0.cal {P : Program} {w : World} {K : PySem.W.Frag} {mg : Str → Option Value} {base h : Heap} {k : Nat} {x : Str} {st : Stmt} {ps : List Str} {sp : Sp} (a : At0 K x st) (X : K.In h) (G : h.Ns mainGlobals mg)
    (hb : ∀ (kV doc pm : Value) (an : Option Addr) (cdv ct : Value) (us : List Value), us.length = ps.length → bindArgs (PySem.W.fnOf x x (defArgs st) (defBody st) (defScope st) .none kV doc pm an cdv ct) ⟨us, []⟩ = pure (ps.zip us))
    (ok : ∀ (f : Addr) (fd : FuncData), Fun K x x st f fd → FnOk P w K mg base CX0 k f fd ps sp) : Cal P w K mg base k x ps sp := by
  obtain ⟨f, fd, F, e⟩ := a.ex
  exact ⟨f, fd, ok f fd F, PySem.W.mg_of X G e, F.kp, F.binds hb⟩
end L2

set_option autoImplicit false
set_option linter.all false
set_option maxRecDepth 100000
/-! The sort of a list of any length, keys of different rank: galloping. -/
namespace GS
open PySem PyProof.Rows
noncomputable def gallop1 : Bool → Keyed → Array Keyed → Nat → Nat → Nat → StateT SortSt Sem (Option Nat) := sortPriv% PySem.Builtin.gallop
structure Cmp (prog : Program) (w : World) (A : Around) (s : Shared) (kind : SortKind) (a0 : List Keyed) (rk : Keyed → Int) : Prop where
  lt : ∀ x y, x ∈ a0 → y ∈ a0 → ∀ (E : Value → Shared → Prop) (Q : Bool → Shared → Prop), Q (decide (rk x < rk y)) s → wpAny (model prog w) A (keyLt' kind x.1 y.1) Q E s
  inj : (a0.map rk).Nodup
section
variable {prog : Program} {w : World} {A : Around} {E : Value → Shared → Prop} {s : Shared} {kind : SortKind} {a0 : List Keyed} {rk : Keyed → Int}
theorem wpS_lt (C : Cmp prog w A s kind a0 rk) {x y : Keyed} {st : SortSt} {Q : Option Bool → SortSt → Prop} (hk : kindOf st = kind) (hx : x ∈ a0) (hy : y ∈ a0) (h : Q (some (decide (rk x < rk y))) st) :
    wpS (model prog w) A E s (lt' x y) Q st := by
  rw [lt'_eq]
  refine wpS_bind (wpS_get ?_)
  rw [hk]
  refine wpS_bind (wpS_lift (wpAny_attempt (C.lt x y hx hy _ _ ⟨rfl, ?_⟩)))
  exact wpS_pure h
theorem wpS_elem {arr : Array Keyed} {i : Nat} {p : Keyed} {st : SortSt} {Q : Keyed → SortSt → Prop} (h : arr[i]? = some p) (q : Q p st) : wpS (model prog w) A E s (elem' arr i) Q st := by
  rw [elem'_eq, h]
  exact wpS_pure q
noncomputable def bey (rk : Keyed → Int) (left : Bool) (key x : Keyed) : Bool := if left = true then decide (rk x < rk key) else !decide (rk key < rk x)
theorem wpS_bey (C : Cmp prog w A s kind a0 rk) {left : Bool} {key x : Keyed} {arr : Array Keyed} {i : Nat} {st : SortSt} {Q : Option Bool → SortSt → Prop} (hk : kindOf st = kind) (hx : arr[i]? = some x) (mx : x ∈ a0) (my : key ∈ a0) (h : Q (some (bey rk left key x)) st) :
    wpS (model prog w) A E s (do let x ← elem' arr i; if left = true then lt' x key else (do let r ← lt' key x; pure (Option.map (fun b => !b) r))) Q st := by
  refine wpS_bind (wpS_elem hx ?_)
  cases left with
  | true =>
    rw [if_pos rfl]
    exact wpS_lt C hk mx my h
  | false =>
    rw [if_neg Bool.false_ne_true]
    exact wpS_bind (wpS_lt C hk my mx (wpS_pure h))

theorem wpS_gallop (C : Cmp prog w A s kind a0 rk) {left : Bool} {key : Keyed} {arr : Array Keyed} {base n hint : Nat} {st : SortSt} {Q : Option Nat → SortSt → Prop} (hk : kindOf st = kind)
    (my : key ∈ a0) (xs : Nat → Keyed) (hx : ∀ i, i < n → arr[base + i]? = some (xs i)) (mx : ∀ i, i < n → xs i ∈ a0) (hh : hint < n)
    (mono : ∀ i j, i ≤ j → j < n → bey rk left key (xs j) = true → bey rk left key (xs i) = true)
    (h : ∀ k, k ≤ n → (∀ i, i < k → bey rk left key (xs i) = true) → (∀ i, k ≤ i → i < n → bey rk left key (xs i) = false) → Q (some k) st) :
    wpS (model prog w) A E s (gallop1 left key arr base n hint) Q st := by
  refine wpS_bind (wpS_bey C hk (hx hint hh) (mx hint hh) my ?_)
  have monoF : ∀ i j, i ≤ j → j < n → bey rk left key (xs i) = false → bey rk left key (xs j) = false := fun i j hij hj hf => by
    cases e : bey rk left key (xs j) with
    | false => rfl
    | true => rw [mono i j hij hj e] at hf; cases hf
  cases hr : bey rk left key (xs hint) with
  | true =>
    dsimp only
    rw [if_pos rfl]
    refine wpS_bind (wpS_mono (wpS_forRange (I := fun i c st' => st' = st ∧ ∃ last ofs, c = (none, last, ofs) ∧ last < ofs ∧ hint + last < n ∧ bey rk left key (xs (hint + last)) = true ∧ i + 1 ≤ ofs)
      (Q := fun c st' => st' = st ∧ ∃ last ofs, c = (none, last, ofs) ∧ last < ofs ∧ hint + last < n ∧ bey rk left key (xs (hint + last)) = true ∧ (n - hint ≤ ofs ∨ (hint + ofs < n ∧ bey rk left key (xs (hint + ofs)) = false))) ?step ?fin ⟨rfl, 0, 1, rfl, by omega, by omega, hr, by omega⟩) ?post)
    case fin =>
      rintro c st' ⟨rfl, last, ofs, rfl, a1, a2, a3, a4⟩
      exact ⟨rfl, last, ofs, rfl, a1, a2, a3, .inl (by omega)⟩
    case step =>
      rintro i c st' _ hi' ⟨rfl, last, ofs, rfl, a1, a2, a3, a4⟩
      dsimp only
      by_cases hge : ofs ≥ n - hint
      · rw [if_pos hge]
        exact wpS_pure ⟨rfl, last, ofs, rfl, a1, a2, a3, .inl hge⟩
      · rw [if_neg hge]
        have hm : hint + ofs < n := by omega
        refine wpS_bind (wpS_bey C hk (hx _ hm) (mx _ hm) my ?_)
        cases e : bey rk left key (xs (hint + ofs)) with
        | true =>
          simp only [Bool.not_true, Bool.false_eq_true, if_false]
          exact wpS_pure ⟨rfl, _, _, rfl, by omega, hm, e, by omega⟩
        | false =>
          simp only [Bool.not_false, if_true]
          exact wpS_pure ⟨rfl, _, _, rfl, a1, a2, a3, .inr ⟨hm, e⟩⟩
    case post =>
      rintro c st' ⟨rfl, last, ofs, rfl, a1, a2, a3, a4⟩
      have F1 : ∀ j, j < hint + last + 1 → bey rk left key (xs j) = true := fun j hj => mono j (hint + last) (by omega) a2 a3
      have F2 : ∀ j, hint + min ofs (n - hint) ≤ j → j < n → bey rk left key (xs j) = false := fun j hj hj' => by
        rcases a4 with a4 | ⟨a4, a5⟩
        · omega
        · exact monoF (hint + ofs) j (by omega) hj' a5
      dsimp only
      refine wpS_bind (wpS_mono (wpS_forRange (I := fun i c st'' => st'' = st' ∧ ∃ lo hi, c = (none, lo, hi) ∧ lo ≤ hi ∧ hi ≤ n ∧ (∀ i, i < lo → bey rk left key (xs i) = true) ∧ (∀ i, hi ≤ i → i < n → bey rk left key (xs i) = false) ∧ hi - lo ≤ n - i)
        (Q := fun c st'' => st'' = st' ∧ ∃ k, c = (none, k, k) ∧ k ≤ n ∧ (∀ i, i < k → bey rk left key (xs i) = true) ∧ (∀ i, k ≤ i → i < n → bey rk left key (xs i) = false)) ?step2 ?fin2 ⟨rfl, hint + last + 1, hint + min ofs (n - hint), rfl, by omega, by omega, F1, F2, by omega⟩) ?post2)
      case post2 =>
        rintro c st'' ⟨rfl, k, rfl, k1, k2, k3⟩
        exact wpS_pure (h k k1 k2 k3)
      case fin2 =>
        rintro c st'' ⟨rfl, l, r, rfl, b1, b2, b3, b4, b5⟩
        have : l = r := by omega
        subst this
        exact ⟨rfl, l, rfl, b2, b3, b4⟩
      case step2 =>
        rintro i c st'' _ hi' ⟨rfl, l, r, rfl, b1, b2, b3, b4, b5⟩
        dsimp only
        by_cases hge : l ≥ r
        · rw [if_pos hge]
          have : l = r := by omega
          subst this
          exact wpS_pure ⟨rfl, l, rfl, b2, b3, b4⟩
        · rw [if_neg hge]
          have hm : l + (r - l) / 2 < n := by omega
          refine wpS_bind (wpS_bey C hk (hx _ hm) (mx _ hm) my ?_)
          cases e : bey rk left key (xs (l + (r - l) / 2)) with
          | true =>
            simp only [if_true]
            refine wpS_pure ⟨rfl, _, _, rfl, by omega, b2, fun j hj => ?_, b4, by omega⟩
            exact mono j (l + (r - l) / 2) (by omega) hm e
          | false =>
            simp only [Bool.false_eq_true, if_false]
            refine wpS_pure ⟨rfl, _, _, rfl, by omega, by omega, b3, fun j hj hj' => ?_, by omega⟩
            exact monoF _ j hj hj' e
  | false =>
    dsimp only
    rw [if_neg Bool.false_ne_true]
    refine wpS_bind (wpS_mono (wpS_forRange (I := fun i c st' => st' = st ∧ ∃ last ofs, c = (none, last, ofs) ∧ last < ofs ∧ last ≤ hint ∧ bey rk left key (xs (hint - last)) = false ∧ i + 1 ≤ ofs)
      (Q := fun c st' => st' = st ∧ ∃ last ofs, c = (none, last, ofs) ∧ last < ofs ∧ last ≤ hint ∧ bey rk left key (xs (hint - last)) = false ∧ (hint + 1 ≤ ofs ∨ (ofs ≤ hint ∧ bey rk left key (xs (hint - ofs)) = true))) ?step ?fin ⟨rfl, 0, 1, rfl, by omega, by omega, hr, by omega⟩) ?post)
    case fin =>
      rintro c st' ⟨rfl, last, ofs, rfl, a1, a2, a3, a4⟩
      exact ⟨rfl, last, ofs, rfl, a1, a2, a3, .inl (by omega)⟩
    case step =>
      rintro i c st' _ hi' ⟨rfl, last, ofs, rfl, a1, a2, a3, a4⟩
      dsimp only
      by_cases hge : ofs ≥ hint + 1
      · rw [if_pos hge]
        exact wpS_pure ⟨rfl, last, ofs, rfl, a1, a2, a3, .inl hge⟩
      · rw [if_neg hge]
        have hm : hint - ofs < n := by omega
        refine wpS_bind (wpS_bey C hk (hx _ hm) (mx _ hm) my ?_)
        cases e : bey rk left key (xs (hint - ofs)) with
        | true =>
          simp only [if_true]
          exact wpS_pure ⟨rfl, _, _, rfl, a1, a2, a3, .inr ⟨by omega, e⟩⟩
        | false =>
          simp only [Bool.false_eq_true, if_false]
          exact wpS_pure ⟨rfl, _, _, rfl, by omega, by omega, e, by omega⟩
    case post =>
      rintro c st' ⟨rfl, last, ofs, rfl, a1, a2, a3, a4⟩
      have F1 : ∀ j, j < hint + 1 - min ofs (hint + 1) → bey rk left key (xs j) = true := fun j hj => by
        rcases a4 with a4 | ⟨a4, a5⟩
        · omega
        · exact mono j (hint - ofs) (by omega) (by omega) a5
      have F2 : ∀ j, hint - last ≤ j → j < n → bey rk left key (xs j) = false := fun j hj hj' => monoF (hint - last) j hj hj' a3
      dsimp only
      refine wpS_bind (wpS_mono (wpS_forRange (I := fun i c st'' => st'' = st' ∧ ∃ lo hi, c = (none, lo, hi) ∧ lo ≤ hi ∧ hi ≤ n ∧ (∀ i, i < lo → bey rk left key (xs i) = true) ∧ (∀ i, hi ≤ i → i < n → bey rk left key (xs i) = false) ∧ hi - lo ≤ n - i)
        (Q := fun c st'' => st'' = st' ∧ ∃ k, c = (none, k, k) ∧ k ≤ n ∧ (∀ i, i < k → bey rk left key (xs i) = true) ∧ (∀ i, k ≤ i → i < n → bey rk left key (xs i) = false)) ?step2 ?fin2 ⟨rfl, hint + 1 - min ofs (hint + 1), hint - last, rfl, by omega, by omega, F1, F2, by omega⟩) ?post2)
      case post2 =>
        rintro c st'' ⟨rfl, k, rfl, k1, k2, k3⟩
        exact wpS_pure (h k k1 k2 k3)
      case fin2 =>
        rintro c st'' ⟨rfl, l, r, rfl, b1, b2, b3, b4, b5⟩
        have : l = r := by omega
        subst this
        exact ⟨rfl, l, rfl, b2, b3, b4⟩
      case step2 =>
        rintro i c st'' _ hi' ⟨rfl, l, r, rfl, b1, b2, b3, b4, b5⟩
        dsimp only
        by_cases hge : l ≥ r
        · rw [if_pos hge]
          have : l = r := by omega
          subst this
          exact wpS_pure ⟨rfl, l, rfl, b2, b3, b4⟩
        · rw [if_neg hge]
          have hm : l + (r - l) / 2 < n := by omega
          refine wpS_bind (wpS_bey C hk (hx _ hm) (mx _ hm) my ?_)
          cases e : bey rk left key (xs (l + (r - l) / 2)) with
          | true =>
            simp only [if_true]
            refine wpS_pure ⟨rfl, _, _, rfl, by omega, b2, fun j hj => ?_, b4, by omega⟩
            exact mono j (l + (r - l) / 2) (by omega) hm e
          | false =>
            simp only [Bool.false_eq_true, if_false]
            refine wpS_pure ⟨rfl, _, _, rfl, by omega, by omega, b3, fun j hj hj' => ?_, by omega⟩
            exact monoF _ j hj hj' e
end
end GS

set_option autoImplicit false
set_option linter.all false
set_option maxRecDepth 100000
/-! Merging two runs: from the left, from the right. -/
namespace GS
open PySem PyProof.Rows
noncomputable def mergeLo1 : Array Keyed → Array Keyed → StateT SortSt Sem (Array Keyed) := sortPriv% PySem.Builtin.mergeLo
noncomputable def mergeHi1 : Array Keyed → Array Keyed → StateT SortSt Sem (Array Keyed) := sortPriv% PySem.Builtin.mergeHi

/-! ### the mathematics -/
section
variable {rk : Keyed → Int} {la lb out : List Keyed} {ia ib k : Nat}
noncomputable def Up (rk : Keyed → Int) (l : List Keyed) : Prop := l.Pairwise fun x y => rk x < rk y
noncomputable def Below (rk : Keyed → Int) (l m : List Keyed) : Prop := ∀ x ∈ l, ∀ y ∈ m, rk x < rk y
structure Mg (rk : Keyed → Int) (la lb out : List Keyed) (ia ib : Nat) : Prop where
  perm : out.Perm (la.take ia ++ lb.take ib)
  up : Up rk out
  loA : Below rk out (la.drop ia)
  loB : Below rk out (lb.drop ib)
structure Good (rk : Keyed → Int) (la lb out : List Keyed) : Prop where
  perm : out.Perm (la ++ lb)
  up : Up rk out
theorem Up.app {l m : List Keyed} (h1 : Up rk l) (h2 : Up rk m) (h : Below rk l m) : Up rk (l ++ m) := List.pairwise_append.mpr ⟨h1, h2, h⟩
theorem Up.drop {l : List Keyed} (h : Up rk l) (i : Nat) : Up rk (l.drop i) := h.sublist (List.drop_sublist i l)
theorem Up.take {l : List Keyed} (h : Up rk l) (i : Nat) : Up rk (l.take i) := h.sublist (List.take_sublist i l)
theorem Up.split {l : List Keyed} (h : Up rk l) (i : Nat) : Below rk (l.take i) (l.drop i) := by
  have q : Up rk (l.take i ++ l.drop i) := by rw [List.take_append_drop]; exact h
  exact (List.pairwise_append.mp q).2.2
theorem Below.left {l l' m : List Keyed} (h : Below rk l m) (s : ∀ x ∈ l', x ∈ l) : Below rk l' m := fun x hx => h x (s x hx)
theorem Below.right {l m m' : List Keyed} (h : Below rk l m) (s : ∀ x ∈ m', x ∈ m) : Below rk l m' := fun x hx y hy => h x hx y (s y hy)
theorem Below.app {l l' m : List Keyed} (h : Below rk l m) (h' : Below rk l' m) : Below rk (l ++ l') m := fun x hx => (List.mem_append.mp hx).elim (h x) (h' x)
theorem Below.nil {l : List Keyed} : Below rk l [] := fun _ _ _ hy => by simp at hy
theorem drop_mem {l : List Keyed} {i j : Nat} (h : i ≤ j) : ∀ x ∈ l.drop j, x ∈ l.drop i := fun x hx => by
  have e : l.drop j = (l.drop i).drop (j - i) := by rw [List.drop_drop]; congr 1; omega
  rw [e] at hx
  exact List.mem_of_mem_drop hx
theorem Mg.bulkA (h : Mg rk la lb out ia ib) (ua : Up rk la) (hb : Below rk ((la.drop ia).take k) (lb.drop ib)) : Mg rk la lb (out ++ (la.drop ia).take k) (ia + k) ib where
  perm := by
    rw [List.take_add]
    refine (h.perm.append_right _).trans ?_
    rw [List.append_assoc, List.append_assoc]
    exact List.Perm.append_left _ List.perm_append_comm
  up := h.up.app ((ua.drop ia).take k) (h.loA.right fun x hx => List.mem_of_mem_take hx)
  loA := Below.app (h.loA.right (drop_mem (by omega))) (by
    have := (ua.drop ia).split k
    rwa [List.drop_drop] at this)
  loB := h.loB.app hb
theorem Mg.bulkB (h : Mg rk la lb out ia ib) (ub : Up rk lb) (hb : Below rk ((lb.drop ib).take k) (la.drop ia)) : Mg rk la lb (out ++ (lb.drop ib).take k) ia (ib + k) where
  perm := by
    rw [List.take_add, ← List.append_assoc]
    exact h.perm.append_right _
  up := h.up.app ((ub.drop ib).take k) (h.loB.right fun x hx => List.mem_of_mem_take hx)
  loA := h.loA.app hb
  loB := Below.app (h.loB.right (drop_mem (by omega))) (by
    have := (ub.drop ib).split k
    rwa [List.drop_drop] at this)
theorem take_one {l : List Keyed} {i : Nat} {x : Keyed} (h : l[i]? = some x) : (l.drop i).take 1 = [x] := by
  obtain ⟨hi, e⟩ := List.getElem?_eq_some_iff.mp h
  rw [List.drop_eq_getElem_cons hi, e]
  rfl
theorem Mg.pushA (h : Mg rk la lb out ia ib) (ua : Up rk la) {x : Keyed} (hx : la[ia]? = some x) (hb : Below rk [x] (lb.drop ib)) : Mg rk la lb (out ++ [x]) (ia + 1) ib := by
  have := h.bulkA (k := 1) ua (by rw [take_one hx]; exact hb)
  rwa [take_one hx] at this
theorem Mg.pushB (h : Mg rk la lb out ia ib) (ub : Up rk lb) {x : Keyed} (hx : lb[ib]? = some x) (hb : Below rk [x] (la.drop ia)) : Mg rk la lb (out ++ [x]) ia (ib + 1) := by
  have := h.bulkB (k := 1) ub (by rw [take_one hx]; exact hb)
  rwa [take_one hx] at this
theorem Mg.goodAB (h : Mg rk la lb out ia ib) (ua : Up rk la) (ub : Up rk lb) (hb : Below rk (la.drop ia) (lb.drop ib)) : Good rk la lb (out ++ la.drop ia ++ lb.drop ib) where
  perm := by
    refine ((h.perm.append_right _).append_right _).trans ?_
    rw [List.append_assoc, List.append_assoc]
    have e1 : (la.take ia ++ (lb.take ib ++ (la.drop ia ++ lb.drop ib))).Perm (la.take ia ++ (la.drop ia ++ (lb.take ib ++ lb.drop ib))) := by
      refine List.Perm.append_left _ ?_
      rw [← List.append_assoc, ← List.append_assoc]
      exact List.perm_append_comm.append_right _
    refine e1.trans ?_
    rw [← List.append_assoc, List.take_append_drop, List.take_append_drop]
  up := (h.up.app (ua.drop ia) h.loA).app (ub.drop ib) (h.loB.app hb)
theorem Mg.goodBA (h : Mg rk la lb out ia ib) (ua : Up rk la) (ub : Up rk lb) (hb : Below rk (lb.drop ib) (la.drop ia)) : Good rk la lb (out ++ lb.drop ib ++ la.drop ia) where
  perm := by
    refine ((h.perm.append_right _).append_right _).trans ?_
    rw [List.append_assoc, List.append_assoc]
    have e1 : (la.take ia ++ (lb.take ib ++ (lb.drop ib ++ la.drop ia))).Perm (la.take ia ++ (la.drop ia ++ (lb.take ib ++ lb.drop ib))) := by
      refine List.Perm.append_left _ ?_
      rw [← List.append_assoc]
      exact List.perm_append_comm
    refine e1.trans ?_
    rw [← List.append_assoc, List.take_append_drop, List.take_append_drop]
  up := (h.up.app (ub.drop ib) h.loB).app (ua.drop ia) (h.loA.app hb)
/-- the head of what is left is the least of it -/
theorem head_below {l : List Keyed} {i : Nat} {x : Keyed} (u : Up rk l) (h : l[i]? = some x) {y : Keyed} (hy : rk y < rk x) : Below rk [y] (l.drop i) := by
  obtain ⟨hi, e⟩ := List.getElem?_eq_some_iff.mp h
  intro z hz t ht
  have hz : z = y := by simpa using hz
  subst hz
  rw [List.drop_eq_getElem_cons hi, e] at ht
  rcases List.mem_cons.mp ht with rfl | ht
  · exact hy
  · have q := u.drop i
    rw [List.drop_eq_getElem_cons hi, e] at q
    exact Int.lt_trans hy ((List.pairwise_cons.mp q).1 t ht)
theorem up_at {l : List Keyed} (u : Up rk l) {i j : Nat} {x y : Keyed} (h : i < j) (hx : l[i]? = some x) (hy : l[j]? = some y) : rk x < rk y := by
  obtain ⟨hi, ex⟩ := List.getElem?_eq_some_iff.mp hx
  obtain ⟨hj, ey⟩ := List.getElem?_eq_some_iff.mp hy
  have := List.pairwise_iff_getElem.mp u i j hi hj h
  rw [ex, ey] at this
  exact this
end
end GS

set_option autoImplicit false
set_option linter.all false
set_option maxRecDepth 100000
namespace GS
open PySem PyProof.Rows
structure Sim (st st' : SortSt) : Prop where
  arr : arrOf st' = arrOf st
  pend : pendingOf st' = pendingOf st
  kind : kindOf st' = kindOf st
  failed : failedOf st' = failedOf st
theorem Sim.refl (st : SortSt) : Sim st st := ⟨rfl, rfl, rfl, rfl⟩
theorem Sim.trans {a b c : SortSt} (h : Sim a b) (k : Sim b c) : Sim a c := ⟨k.arr.trans h.arr, k.pend.trans h.pend, k.kind.trans h.kind, k.failed.trans h.failed⟩
/-- the two runs to be merged -/
structure Two (a0 : List Keyed) (rk : Keyed → Int) (a b : Array Keyed) : Prop where
  ma : ∀ x ∈ a.toList, x ∈ a0
  mb : ∀ x ∈ b.toList, x ∈ a0
  ua : Up rk a.toList
  ub : Up rk b.toList
  dis : ∀ x ∈ a.toList, ∀ y ∈ b.toList, rk x ≠ rk y
  na : 0 < a.size
  nb : 0 < b.size
section
variable {prog : Program} {w : World} {A : Around} {E : Value → Shared → Prop} {s : Shared} {kind : SortKind} {a0 : List Keyed} {rk : Keyed → Int}
theorem arr_get {a : Array Keyed} {i : Nat} (h : i < a.size) : ∃ x, a[i]? = some x ∧ a.toList[i]? = some x ∧ x ∈ a.toList := by
  refine ⟨a[i], by simp [h], by simp [h], by simp⟩
theorem ext_all (a : Array Keyed) (i : Nat) : (a.extract i).toList = a.toList.drop i := by
  rw [Array.toList_extract, List.extract_eq_take_drop, List.take_of_length_le (by simp)]
theorem ext_part (a : Array Keyed) (i k : Nat) : (a.extract i (i + k)).toList = (a.toList.drop i).take k := by
  rw [Array.toList_extract, List.extract_eq_take_drop, show i + k - i = k by omega]
theorem bey_mono {left : Bool} {key x y : Keyed} (h : rk x < rk y) (q : bey rk left key y = true) : bey rk left key x = true := by
  unfold bey at q ⊢
  cases left with
  | true => simp at q ⊢; omega
  | false => simp at q ⊢; omega

/-- galloping within a run, from its i-th item on -/
theorem wpS_gal (C : Cmp prog w A s kind a0 rk) {left : Bool} {key : Keyed} {a : Array Keyed} {i n hint : Nat} {st : SortSt} {Q : Option Nat → SortSt → Prop} (hk : kindOf st = kind)
    (my : key ∈ a0) (ma : ∀ x ∈ a.toList, x ∈ a0) (ua : Up rk a.toList) (hn : i + n ≤ a.size) (hh : hint < n) (dis : ∀ x ∈ a.toList, rk x ≠ rk key)
    (h : ∀ k, k ≤ n → (∀ x ∈ (a.toList.drop i).take k, rk x < rk key) → (∀ x ∈ (a.toList.drop (i + k)).take (n - k), rk key < rk x) → Q (some k) st) :
    wpS (model prog w) A E s (gallop1 left key a i n hint) Q st := by
  have at' : ∀ j, j < n → ∃ x, a[i + j]? = some x ∧ a.toList[i + j]? = some x ∧ x ∈ a.toList := fun j hj => arr_get (by omega)
  obtain ⟨d, hd⟩ : ∃ d : Keyed, d ∈ a.toList := by obtain ⟨x, _, _, m⟩ := at' hint hh; exact ⟨x, m⟩
  have xs : ∀ j, j < n → a[i + j]? = some ((a[i + j]?).getD d) ∧ (a[i + j]?).getD d ∈ a.toList := fun j hj => by
    obtain ⟨x, e, _, m⟩ := at' j hj
    rw [e]
    exact ⟨rfl, m⟩
  have lst : ∀ j, j < n → a.toList[i + j]? = some ((a[i + j]?).getD d) := fun j hj => by
    obtain ⟨x, e, e2, m⟩ := at' j hj
    rw [e, e2]; rfl
  have val : ∀ x ∈ a.toList, bey rk left key x = decide (rk x < rk key) := fun x hx => by
    have := dis x hx
    unfold bey
    cases left with
    | true => rfl
    | false =>
      rw [if_neg Bool.false_ne_true]
      by_cases q : rk x < rk key
      · rw [decide_eq_true q, decide_eq_false (by omega)]; rfl
      · rw [decide_eq_false q, decide_eq_true (by omega)]; rfl
  refine wpS_gallop C hk my (fun j => (a[i + j]?).getD d) (fun j hj => (xs j hj).1) (fun j hj => ma _ (xs j hj).2) hh (fun p q hpq hq hb => ?_) fun k hk1 hk2 hk3 => h k hk1 (fun x hx => ?_) (fun x hx => ?_)
  · rcases Nat.lt_or_eq_of_le hpq with z | z
    · exact bey_mono (up_at ua (by omega) (lst p (by omega)) (lst q hq)) hb
    · subst z; exact hb
  · obtain ⟨j, hj, e⟩ := List.mem_iff_getElem.mp hx
    rw [List.length_take, List.length_drop] at hj
    rw [List.getElem_take, List.getElem_drop] at e
    have q := hk2 j (by omega)
    have e2 := lst j (by omega)
    rw [List.getElem?_eq_getElem (by omega), e] at e2
    have e2 := Option.some.inj e2
    rw [val _ (xs j (by omega)).2, ← e2] at q
    exact of_decide_eq_true q
  · obtain ⟨j, hj, e⟩ := List.mem_iff_getElem.mp hx
    rw [List.length_take, List.length_drop] at hj
    rw [List.getElem_take, List.getElem_drop] at e
    have q := hk3 (k + j) (by omega) (by omega)
    have e2 := lst (k + j) (by omega)
    have eidx : i + (k + j) = i + k + j := by omega
    simp only [eidx] at e2 q
    rw [List.getElem?_eq_getElem (by simp at hj ⊢; omega), e] at e2
    have e2 := Option.some.inj e2
    have mem : x ∈ a.toList := List.mem_of_mem_drop (List.mem_of_mem_take hx)
    rw [← e2, val _ mem] at q
    have q := of_decide_eq_false q
    have := dis x mem
    omega
end
end GS

set_option autoImplicit false
set_option linter.all false
set_option maxRecDepth 100000
namespace GS
open PySem PyProof.Rows
section
variable {prog : Program} {w : World} {A : Around} {E : Value → Shared → Prop} {s : Shared} {kind : SortKind} {a0 : List Keyed} {rk : Keyed → Int}
/-- within a merge: what is still open -/
structure Opn (rk : Keyed → Int) (a b out : Array Keyed) (ia ib : Nat) : Prop where
  mg : Mg rk a.toList b.toList out.toList ia ib
  ha : ia + 1 < a.size
  hb : ib < b.size
theorem gen_nat {G : Prop} (P : Nat → Prop) (h : (∀ m, P m) → G) (k : ∀ m, P m) : G := h k
theorem wpS_ite {α : Type} {c : Prop} [Decidable c] {p q : StateT SortSt Sem α} {Q : α → SortSt → Prop} {st : SortSt} (hp : c → wpS (model prog w) A E s p Q st) (hn : ¬ c → wpS (model prog w) A E s q Q st) : wpS (model prog w) A E s (if c then p else q) Q st := by
  by_cases h : c
  · rw [if_pos h]; exact hp h
  · rw [if_neg h]; exact hn h
theorem ex1 {α : Type} {A B C : α → Prop} {G : Prop} (h : ∃ x, A x ∧ B x ∧ C x) (k : ∀ x, A x → B x → C x → G) : G := by
  obtain ⟨x, a, b, c⟩ := h
  exact k x a b c
theorem exs {α β : Type} {A B C D : α → β → Prop} {G : Prop} (h : ∃ x y, A x y ∧ B x y ∧ C x y ∧ D x y) (k : ∀ x y, A x y → B x y → C x y → D x y → G) : G := by
  obtain ⟨x, y, a, b, c, d⟩ := h
  exact k x y a b c d
theorem ex4 {S : Prop} {α β γ δ : Type} {P Q R : α → β → γ → δ → Prop} {G : Prop} (h : S ∧ ∃ a b c d, P a b c d ∧ Q a b c d ∧ R a b c d) (k : S → ∀ a b c d, P a b c d → Q a b c d → R a b c d → G) : G := by
  obtain ⟨s, a, b, c, d, p, q, r⟩ := h
  exact k s a b c d p q r
theorem ex5 {S : Prop} {α β γ δ ε : Type} {P Q R : α → β → γ → δ → ε → Prop} {G : Prop} (h : S ∧ ∃ a b c d e, P a b c d e ∧ Q a b c d e ∧ R a b c d e) (k : S → ∀ a b c d e, P a b c d e → Q a b c d e → R a b c d e → G) : G := by
  obtain ⟨s, a, b, c, d, e, p, q, r⟩ := h
  exact k s a b c d e p q r
theorem ex6 {S : Prop} {α β γ δ ε ζ : Type} {P Q R : α → β → γ → δ → ε → ζ → Prop} {G : Prop} (h : S ∧ ∃ a b c d e f, P a b c d e f ∧ Q a b c d e f ∧ R a b c d e f) (k : S → ∀ a b c d e f, P a b c d e f → Q a b c d e f → R a b c d e f → G) : G := by
  obtain ⟨s, a, b, c, d, e, f, p, q, r⟩ := h
  exact k s a b c d e f p q r
theorem wpS_mergeLo (C : Cmp prog w A s kind a0 rk) {a b : Array Keyed} {st : SortSt} {Q : Array Keyed → SortSt → Prop} (hk : kindOf st = kind) (T : Two a0 rk a b)
    (first : ∀ x y, a.toList[0]? = some x → b.toList[0]? = some y → rk y < rk x) (last : ∀ x, a.toList[a.size - 1]? = some x → ∀ y ∈ b.toList, rk y < rk x)
    (h : ∀ m st', Sim st st' → Good rk a.toList b.toList m.toList → Q m st') : wpS (model prog w) A E s (mergeLo1 a b) Q st := by
  have ua := T.ua
  have ub := T.ub
  refine ex1 (arr_get T.nb) fun b0 eb eb' mb0 => ?_
  refine ex1 (arr_get T.na) fun x0 ea ea' mx0 => ?_
  have bl : Below rk [b0] (a.toList.drop 0) := head_below ua ea' (first _ _ ea' eb')
  have M0 : Mg rk a.toList b.toList (#[b0] : Array Keyed).toList 0 1 := by
    have z : Mg rk a.toList b.toList [] 0 0 := ⟨by simp, List.Pairwise.nil, fun _ hx => by simp at hx, fun _ hx => by simp at hx⟩
    exact z.pushB ub eb' bl
  -- the last of a is above all of b
  have lastB : ∀ ia ib, ia + 1 = a.size → Below rk (b.toList.drop ib) (a.toList.drop ia) := fun ia ib hi y hy x hx => by
    refine ex1 (arr_get (a := a) (i := ia) (by omega)) fun z ez ez' mz => ?_
    have e : a.toList.drop ia = [z] := by
      obtain ⟨hl, e⟩ := List.getElem?_eq_some_iff.mp ez'
      rw [List.drop_eq_getElem_cons hl, e, List.drop_of_length_le (by simp; omega)]
    rw [e] at hx
    have hx : x = z := by simpa using hx
    subst hx
    exact last _ (by rw [show a.size - 1 = ia by omega]; exact ez') y (List.mem_of_mem_drop hy)
  have endB : ∀ ib, ib = b.size → b.toList.drop ib = [] := fun ib e => List.drop_of_length_le (by simp; omega)
  have endA : ∀ ia, ia = a.size → a.toList.drop ia = [] := fun ib e => List.drop_of_length_le (by simp; omega)
  refine wpS_bind (wpS_lift (wpAny_rule ⟨rfl, ?_⟩))
  refine wpS_bind (wpS_elem eb ?_)
  dsimp only
  apply wpS_ite
  · intro h1
    have h1 : 1 = b.size := by simpa using h1
    refine wpS_pure (h _ _ (Sim.refl _) ?_)
    have q := M0.goodAB ua ub (by rw [endB 1 h1]; exact Below.nil)
    simp only [Array.toList_append, ext_all, Array.toList_push]
    exact q
  · intro h1
    have h1 : ¬ 1 = b.size := by simpa using h1
    have hnb := T.nb
    have hna := T.na
    apply wpS_ite
    · intro h2
      have h2 : 0 + 1 = a.size := by simpa using h2
      refine wpS_pure (h _ _ (Sim.refl _) ?_)
      have q := M0.goodBA ua ub (lastB 0 1 h2)
      simp only [Array.toList_append, ext_all, Array.toList_push]
      exact q
    · intro h2
      have h2 : ¬ 0 + 1 = a.size := by simpa using h2
      refine wpS_bind (wpS_get ?_)
      refine wpS_bind (wpS_mono (wpS_forRange
        (I := fun i c st' => Sim st st' ∧ ∃ out ia ib mg, c = (none, out, ia, ib, mg) ∧ Opn rk a b out ia ib ∧ i + 1 ≤ ia + ib)
        (Q := fun c st' => Sim st st' ∧ ∃ m, c.1 = some m ∧ Good rk a.toList b.toList m.toList) ?step ?fin ⟨Sim.refl _, _, _, _, _, rfl, ⟨M0, by omega, by omega⟩, by omega⟩) ?post)
      case post =>
        rintro ⟨c1, c2⟩ st' ⟨sm, m, e, g⟩
        dsimp only at e ⊢
        subst e
        exact wpS_pure (h m st' sm g)
      case fin =>
        rintro c st' ⟨sm, out, ia, ib, mg, rfl, O, hp⟩
        have := O.ha
        have := O.hb
        omega
      case step =>
        intro i c st1 _ hi hI
        refine ex4 hI fun sm1 out1 ia1 ib1 mg1 ec O1 hp1 => ?_
        clear hI
        subst ec
        dsimp only
        -- one by one
        refine wpS_bind (wpS_mono (wpS_forRange
          (I := fun j c st' => Sim st st' ∧ ∃ out ia ib ac bc, c = (none, out, ia, ib, ac, bc) ∧ Opn rk a b out ia ib ∧ ia1 + ib1 + j ≤ ia + ib)
          (Q := fun c st' => Sim st st' ∧ ((∃ m, c.1 = some m ∧ Good rk a.toList b.toList m.toList) ∨ ∃ out ia ib ac bc, c = (none, out, ia, ib, ac, bc) ∧ Opn rk a b out ia ib ∧ ia1 + ib1 + 1 ≤ ia + ib)) ?s2 ?f2 ⟨sm1, _, _, _, _, _, rfl, O1, by omega⟩) ?p2)
        case f2 =>
          rintro c st' ⟨sm, out, ia, ib, ac, bc, rfl, O, hp⟩
          exact ⟨sm, .inr ⟨out, ia, ib, ac, bc, rfl, O, by omega⟩⟩
        case s2 =>
          intro j c st2 _ hj hI
          refine ex5 hI fun sm2 out ia ib ac bc ec O hp => ?_
          clear hI
          subst ec
          dsimp only
          have M := O.mg
          have hia := O.ha
          have hib := O.hb
          refine ex1 (arr_get (a := a) (i := ia) (by omega)) fun x e1 e2 mx => ?_
          refine ex1 (arr_get O.hb) fun y e3 e4 my => ?_
          refine wpS_bind (wpS_elem e3 (wpS_bind (wpS_elem e1 (wpS_bind (wpS_lt C (sm2.kind.trans hk) (T.mb _ my) (T.ma _ mx) ?_)))))
          have dxy := T.dis x mx y my
          apply wpS_ite
          · intro hw
            have hw : rk y < rk x := of_decide_eq_true hw
            refine wpS_bind (wpS_elem e3 ?_)
            have M' := M.pushB ub e4 (head_below ua e2 hw)
            apply wpS_ite
            · intro h3
              have h3 : ib + 1 = b.size := by simpa using h3
              refine wpS_pure ⟨sm2, .inl ⟨_, rfl, ?_⟩⟩
              have q := M'.goodAB ua ub (by rw [endB _ h3]; exact Below.nil)
              simp only [Array.toList_append, ext_all, Array.toList_push]
              exact q
            · intro h3
              have h3 : ¬ ib + 1 = b.size := by simpa using h3
              have O' : Opn rk a b (out.push y) ia (ib + 1) := ⟨by simpa using M', hia, by omega⟩
              apply wpS_ite
              · intro h4
                exact wpS_pure ⟨sm2, .inr ⟨_, _, _, _, _, rfl, O', by omega⟩⟩
              · intro h4
                exact wpS_pure ⟨sm2, _, _, _, _, _, rfl, O', by omega⟩
          · intro hw
            have hw : ¬ rk y < rk x := fun z => hw (decide_eq_true z)
            refine wpS_bind (wpS_elem e1 ?_)
            have M' := M.pushA ua e2 (head_below ub e4 (by omega))
            apply wpS_ite
            · intro h3
              have h3 : ia + 1 + 1 = a.size := by simpa using h3
              refine wpS_pure ⟨sm2, .inl ⟨_, rfl, ?_⟩⟩
              have q := M'.goodBA ua ub (lastB _ _ h3)
              simp only [Array.toList_append, ext_all, Array.toList_push]
              exact q
            · intro h3
              have h3 : ¬ ia + 1 + 1 = a.size := by simpa using h3
              have O' : Opn rk a b (out.push x) (ia + 1) ib := ⟨by simpa using M', by omega, hib⟩
              apply wpS_ite
              · intro h4
                exact wpS_pure ⟨sm2, .inr ⟨_, _, _, _, _, rfl, O', by omega⟩⟩
              · intro h4
                exact wpS_pure ⟨sm2, _, _, _, _, _, rfl, O', by omega⟩
        case p2 =>
          rintro c st2 ⟨sm2, (⟨m, e, g⟩ | ⟨out2, ia2, ib2, ac2, bc2, rfl, O2, hp2⟩)⟩
          · obtain ⟨c1, c2⟩ := c
            dsimp only at e ⊢
            subst e
            exact wpS_pure ⟨sm2, m, rfl, g⟩
          · dsimp only
            refine wpS_bind (wpS_lift (wpAny_rule ⟨rfl, ?_⟩))
            -- galloping
            refine wpS_bind (wpS_mono (wpS_forRange
              (I := fun j c st' => Sim st st' ∧ ∃ out ia ib mg ac bc, c = (none, out, ia, ib, mg, ac, bc) ∧ Opn rk a b out ia ib ∧ ia1 + ib1 + 1 ≤ ia + ib)
              (Q := fun c st' => Sim st st' ∧ ((∃ m, c.1 = some m ∧ Good rk a.toList b.toList m.toList) ∨ ∃ out ia ib mg ac bc, c = (none, out, ia, ib, mg, ac, bc) ∧ Opn rk a b out ia ib ∧ ia1 + ib1 + 1 ≤ ia + ib)) ?s3 ?f3 ⟨sm2, _, _, _, _, _, _, rfl, O2, hp2⟩) ?p3)
            case f3 =>
              rintro c st' ⟨sm, out, ia, ib, mg, ac, bc, rfl, O, hp⟩
              exact ⟨sm, .inr ⟨out, ia, ib, mg, ac, bc, rfl, O, hp⟩⟩
            case p3 =>
              rintro c st3 ⟨sm3, (⟨m, e, g⟩ | ⟨out, ia, ib, mg, ac, bc, rfl, O, hp⟩)⟩
              · obtain ⟨c1, c2⟩ := c
                dsimp only at e ⊢
                subst e
                exact wpS_pure ⟨sm3, m, rfl, g⟩
              · dsimp only
                refine wpS_bind (wpS_modify ?_)
                exact wpS_pure ⟨sm3.trans ⟨rfl, rfl, rfl, rfl⟩, _, _, _, _, rfl, O, by omega⟩
            case s3 =>
              intro j c st3 _ hj hI
              refine ex6 hI fun sm3 out ia ib mg ac bc ec O hp => ?_
              clear hI
              subst ec
              dsimp only
              have M := O.mg
              have hia := O.ha
              have hib := O.hb
              refine ex1 (arr_get O.hb) fun y e3 e4 my => ?_
              refine gen_nat ?P ?hgA ?hgB
              case hgA =>
                intro key
                apply wpS_ite
                · intro hg
                  generalize mg - 1 = m1
                  exact key m1
                · intro hg
                  exact key mg
              intro mg
              all_goals
                refine wpS_bind (wpS_modify ?_)
                refine wpS_bind (wpS_elem e3 ?_)
                refine wpS_bind (wpS_gal C (by exact sm3.kind.trans hk) (T.mb _ my) T.ma ua (by omega) (by omega) (fun x hx => T.dis x hx y my) fun k hk1 hk2 hk3 => ?_)
                dsimp only
                have Mk := M.bulkA (k := k) ua (fun x hx => head_below ub e4 (hk2 x hx) x (by simp))
                have yA : Below rk [y] (a.toList.drop (ia + k)) := fun z hz t ht => by
                  have hz : z = y := by simpa using hz
                  subst hz
                  refine hk3 t ?_
                  rw [List.take_of_length_le (by simp; omega)]
                  exact ht
                -- k items of a go out, perhaps none
                have stepA : (∃ out' ia', out' = out ++ a.extract ia (ia + k) ∧ ia' = ia + k ∧ Mg rk a.toList b.toList out'.toList ia' ib ∧ Below rk [y] (a.toList.drop ia')) :=
                  ⟨_, _, rfl, rfl, by simpa [ext_part] using Mk, yA⟩
                apply wpS_ite
                case' hp =>
                  intro hk0
                  refine exs stepA fun out' ia' eo ei M' yA' => ?_
                  rw [← eo, ← ei]
                  have hia' : ia' ≤ a.size := by omega
                case' hn =>
                  intro hk0
                  have k0 : k = 0 := by omega
                  subst k0
                  refine exs (show ∃ out' ia', out' = out ∧ ia' = ia ∧ Mg rk a.toList b.toList out'.toList ia' ib ∧ Below rk [y] (a.toList.drop ia') from ⟨_, _, rfl, rfl, M, yA⟩) fun out' ia' eo ei M' yA' => ?_
                  rw [← eo, ← ei]
                  have hia' : ia' + 1 < a.size := by omega
                case' hp =>
                  apply wpS_ite
                  case' hp =>
                    intro h3
                    have h3 : ia' + 1 = a.size := by simpa using h3
                    refine wpS_pure ⟨sm3.trans ⟨rfl, rfl, rfl, rfl⟩, .inl ⟨_, rfl, ?_⟩⟩
                    have q := M'.goodBA ua ub (lastB _ _ h3)
                    simp only [Array.toList_append, ext_all, Array.toList_push]
                    exact q
                  intro h3
                  have h3 : ¬ ia' + 1 = a.size := by simpa using h3
                  apply wpS_ite
                  case' hp =>
                    intro h4
                    have h4 : ia' = a.size := by simpa using h4
                    refine wpS_pure ⟨sm3.trans ⟨rfl, rfl, rfl, rfl⟩, .inl ⟨_, rfl, ?_⟩⟩
                    have q := M'.goodAB ua ub (by rw [endA _ h4]; exact fun _ hx => by simp at hx)
                    simp only [Array.toList_append, ext_all, Array.toList_push]
                    exact q
                  intro h4
                  have h4 : ¬ ia' = a.size := by simpa using h4
                  have hia'' : ia' + 1 < a.size := by omega
                  clear hia'
                  have hia' := hia''
              all_goals
                refine wpS_bind (wpS_elem e3 ?_)
                have M2 := M'.pushB ub e4 yA'
                apply wpS_ite
                case' hp =>
                  intro h5
                  have h5 : ib + 1 = b.size := by simpa using h5
                  refine wpS_pure ⟨sm3.trans ⟨rfl, rfl, rfl, rfl⟩, .inl ⟨_, rfl, ?_⟩⟩
                  have q := M2.goodAB ua ub (by rw [endB _ h5]; exact Below.nil)
                  simp only [Array.toList_append, ext_all, Array.toList_push]
                  exact q
                intro h5
                have h5 : ¬ ib + 1 = b.size := by simpa using h5
                refine ex1 (arr_get (a := a) (i := ia') (by omega)) fun x e1 e2 mx => ?_
                refine wpS_bind (wpS_elem e1 ?_)
                refine wpS_bind (wpS_gal C (by exact sm3.kind.trans hk) (T.ma _ mx) T.mb ub (by omega) (by omega) (fun z hz => (T.dis x mx z hz).symm) fun k' hk1' hk2' hk3' => ?_)
                dsimp only
                have Mk' := M2.bulkB (k := k') ub (fun z hz => head_below ua e2 (hk2' z hz) z (by simp))
                have xB : Below rk [x] (b.toList.drop (ib + 1 + k')) := fun z hz t ht => by
                  have hz : z = x := by simpa using hz
                  subst hz
                  refine hk3' t ?_
                  rw [List.take_of_length_le (by simp; omega)]
                  exact ht
                have e5 : (out'.push y).toList = out'.toList ++ [y] := Array.toList_push
                have stepB : (∃ out3 ib', out3 = out'.push y ++ b.extract (ib + 1) (ib + 1 + k') ∧ ib' = ib + 1 + k' ∧ Mg rk a.toList b.toList out3.toList ia' ib' ∧ Below rk [x] (b.toList.drop ib')) :=
                  ⟨_, _, rfl, rfl, by rw [Array.toList_append, ext_part, e5]; exact Mk', xB⟩
                apply wpS_ite
                case' hp =>
                  intro hk0'
                  refine exs stepB fun out3 ib' eo3 ei3 M3 xB' => ?_
                  rw [← eo3, ← ei3]
                  apply wpS_ite
                  case' hp =>
                    intro h6
                    have h6 : ib' = b.size := by simpa using h6
                    refine wpS_pure ⟨sm3.trans ⟨rfl, rfl, rfl, rfl⟩, .inl ⟨_, rfl, ?_⟩⟩
                    have q := M3.goodAB ua ub (by rw [endB _ h6]; exact Below.nil)
                    simp only [Array.toList_append, ext_all, Array.toList_push]
                    exact q
                  intro h6
                  have h6 : ¬ ib' = b.size := by simpa using h6
                  have hib' : ib' < b.size := by omega
                case' hn =>
                  intro hk0'
                  have k0 : k' = 0 := by omega
                  subst k0
                  refine exs (show ∃ out3 ib', out3 = out'.push y ∧ ib' = ib + 1 ∧ Mg rk a.toList b.toList out3.toList ia' ib' ∧ Below rk [x] (b.toList.drop ib') from ⟨_, _, rfl, rfl, by rw [e5]; exact M2, xB⟩) fun out3 ib' eo3 ei3 M3 xB' => ?_
                  rw [← eo3, ← ei3]
                  have hib' : ib' < b.size := by omega
              all_goals
                refine wpS_bind (wpS_elem e1 ?_)
                have M4 := M3.pushA ua e2 xB'
                apply wpS_ite
                case' hp =>
                  intro h7
                  have h7 : ia' + 1 + 1 = a.size := by simpa using h7
                  refine wpS_pure ⟨sm3.trans ⟨rfl, rfl, rfl, rfl⟩, .inl ⟨_, rfl, ?_⟩⟩
                  have q := M4.goodBA ua ub (lastB _ _ h7)
                  simp only [Array.toList_append, ext_all, Array.toList_push]
                  exact q
                intro h7
                have h7 : ¬ ia' + 1 + 1 = a.size := by simpa using h7
                have O4 : Opn rk a b (out3.push x) (ia' + 1) ib' := ⟨by rw [Array.toList_push]; exact M4, by omega, hib'⟩
                apply wpS_ite <;> intro _
                · exact wpS_pure ⟨sm3.trans ⟨rfl, rfl, rfl, rfl⟩, .inr ⟨_, _, _, _, _, _, rfl, O4, by omega⟩⟩
                · exact wpS_pure ⟨sm3.trans ⟨rfl, rfl, rfl, rfl⟩, _, _, _, _, _, _, rfl, O4, by omega⟩
end
end GS

set_option autoImplicit false
set_option linter.all false
set_option maxRecDepth 100000
namespace GS
open PySem PyProof.Rows
section
variable {rk : Keyed → Int} {la lb R : List Keyed} {na nb k : Nat}
structure Mh (rk : Keyed → Int) (la lb R : List Keyed) (na nb : Nat) : Prop where
  perm : R.Perm (la.drop na ++ lb.drop nb)
  up : Up rk R
  hiA : Below rk (la.take na) R
  hiB : Below rk (lb.take nb) R
theorem Below.appR {l m m' : List Keyed} (h : Below rk l m) (h' : Below rk l m') : Below rk l (m ++ m') := fun x hx y hy => (List.mem_append.mp hy).elim (h x hx y) (h' x hx y)
theorem take_mem {l : List Keyed} {i j : Nat} (h : i ≤ j) : ∀ x ∈ l.take i, x ∈ l.take j := fun x hx => by
  have e : l.take i = (l.take j).take i := by rw [List.take_take]; congr 1; omega
  rw [e] at hx
  exact List.mem_of_mem_take hx
theorem drop_cut {l : List Keyed} {i j : Nat} (h : i ≤ j) : l.drop i = (l.take j).drop i ++ l.drop j := by
  have e : l = l.take j ++ l.drop j := (List.take_append_drop j l).symm
  by_cases hj : j ≤ l.length
  · conv => lhs; rw [e]
    rw [List.drop_append_of_le_length (by rw [List.length_take]; omega)]
  · rw [List.take_of_length_le (by omega), List.drop_of_length_le (i := j) (by omega), List.append_nil]
theorem Mh.bulkA (h : Mh rk la lb R na nb) (ua : Up rk la) (hk : k ≤ na) (hb : Below rk (lb.take nb) ((la.take na).drop k)) : Mh rk la lb ((la.take na).drop k ++ R) k nb where
  perm := by
    rw [drop_cut (l := la) hk, List.append_assoc]
    exact List.Perm.append_left _ h.perm
  up := ((ua.take na).drop k).app h.up (h.hiA.left fun x hx => List.mem_of_mem_drop hx)
  hiA := Below.appR (by
    have := (ua.take na).split k
    rw [List.take_take, show min k na = k by omega] at this
    exact this) (h.hiA.left (take_mem hk))
  hiB := hb.appR h.hiB
theorem Mh.bulkB (h : Mh rk la lb R na nb) (ub : Up rk lb) (hk : k ≤ nb) (hb : Below rk (la.take na) ((lb.take nb).drop k)) : Mh rk la lb ((lb.take nb).drop k ++ R) na k where
  perm := by
    rw [drop_cut (l := lb) hk, ← List.append_assoc]
    refine (List.Perm.append_left _ h.perm).trans ?_
    rw [← List.append_assoc]
    exact List.perm_append_comm.append_right _
  up := ((ub.take nb).drop k).app h.up (h.hiB.left fun x hx => List.mem_of_mem_drop hx)
  hiA := hb.appR h.hiA
  hiB := Below.appR (by
    have := (ub.take nb).split k
    rw [List.take_take, show min k nb = k by omega] at this
    exact this) (h.hiB.left (take_mem hk))
theorem last_one {l : List Keyed} {i : Nat} {x : Keyed} (h : l[i]? = some x) : (l.take (i + 1)).drop i = [x] := by
  rw [List.drop_take, show i + 1 - i = 1 by omega]
  exact take_one h
theorem Mh.pushA (h : Mh rk la lb R (na + 1) nb) (ua : Up rk la) {x : Keyed} (hx : la[na]? = some x) (hb : Below rk (lb.take nb) [x]) : Mh rk la lb (x :: R) na nb := by
  have := h.bulkA (k := na) ua (by omega) (by rw [last_one hx]; exact hb)
  rwa [last_one hx] at this
theorem Mh.pushB (h : Mh rk la lb R na (nb + 1)) (ub : Up rk lb) {x : Keyed} (hx : lb[nb]? = some x) (hb : Below rk (la.take na) [x]) : Mh rk la lb (x :: R) na nb := by
  have := h.bulkB (k := nb) ub (by omega) (by rw [last_one hx]; exact hb)
  rwa [last_one hx] at this
theorem Mh.goodAB (h : Mh rk la lb R na nb) (ua : Up rk la) (ub : Up rk lb) (hb : Below rk (la.take na) (lb.take nb)) : Good rk la lb (la.take na ++ lb.take nb ++ R) where
  perm := by
    refine (List.Perm.append_left _ h.perm).trans ?_
    have e1 : (la.take na ++ lb.take nb ++ (la.drop na ++ lb.drop nb)).Perm (la.take na ++ la.drop na ++ (lb.take nb ++ lb.drop nb)) := by
      rw [List.append_assoc, List.append_assoc]
      refine List.Perm.append_left _ ?_
      rw [← List.append_assoc, ← List.append_assoc]
      exact List.perm_append_comm.append_right _
    rw [List.take_append_drop, List.take_append_drop] at e1
    exact e1
  up := ((ua.take na).app (ub.take nb) hb).app h.up (h.hiA.app h.hiB)
theorem Mh.goodBA (h : Mh rk la lb R na nb) (ua : Up rk la) (ub : Up rk lb) (hb : Below rk (lb.take nb) (la.take na)) : Good rk la lb (lb.take nb ++ la.take na ++ R) where
  perm := by
    refine (List.Perm.append_left _ h.perm).trans ?_
    have e1 : (lb.take nb ++ la.take na ++ (la.drop na ++ lb.drop nb)).Perm (la.take na ++ la.drop na ++ (lb.take nb ++ lb.drop nb)) := by
      rw [List.append_assoc, ← List.append_assoc (la.take na)]
      rw [← List.append_assoc, ← List.append_assoc (la.take na ++ la.drop na)]
      exact List.perm_append_comm.append_right _
    rw [List.take_append_drop, List.take_append_drop] at e1
    exact e1
  up := ((ub.take nb).app (ua.take na) hb).app h.up (h.hiB.app h.hiA)
/-- the last of what is left is the greatest of it -/
theorem last_above {l : List Keyed} {i : Nat} {x : Keyed} (u : Up rk l) (h : l[i]? = some x) {y : Keyed} (hy : rk x < rk y) : Below rk (l.take (i + 1)) [y] := by
  obtain ⟨hi, e⟩ := List.getElem?_eq_some_iff.mp h
  intro z hz t ht
  have ht : t = y := by simpa using ht
  subst ht
  rw [List.take_succ_eq_append_getElem hi, e] at hz
  rcases List.mem_append.mp hz with hz | hz
  · have q := u.split i
    have : x ∈ l.drop i := by rw [List.drop_eq_getElem_cons hi, e]; exact List.mem_cons_self
    exact Int.lt_trans (q z hz x this) hy
  · have hz : z = x := by simpa using hz
    subst hz
    exact hy
end
theorem ext_pre (a : Array Keyed) (n : Nat) : (a.extract 0 n).toList = a.toList.take n := by
  rw [Array.toList_extract, List.extract_eq_take_drop, List.drop_zero, Nat.sub_zero]
theorem ext_mid (a : Array Keyed) (i j : Nat) : (a.extract i j).toList = (a.toList.take j).drop i := by
  rw [Array.toList_extract, List.extract_eq_take_drop, List.drop_take]
section
variable {prog : Program} {w : World} {A : Around} {E : Value → Shared → Prop} {s : Shared} {kind : SortKind} {a0 : List Keyed} {rk : Keyed → Int}
structure Oph (rk : Keyed → Int) (a b out : Array Keyed) (na nb : Nat) : Prop where
  mh : Mh rk a.toList b.toList out.toList.reverse na nb
  ha : 0 < na
  la : na < a.size
  hb : 1 < nb
  lb : nb ≤ b.size
theorem wpS_mergeHi (C : Cmp prog w A s kind a0 rk) {a b : Array Keyed} {st : SortSt} {Q : Array Keyed → SortSt → Prop} (hk : kindOf st = kind) (T : Two a0 rk a b)
    (first : ∀ x, b.toList[0]? = some x → ∀ y ∈ a.toList, rk x < rk y) (last : ∀ x, a.toList[a.size - 1]? = some x → ∀ y ∈ b.toList, rk y < rk x)
    (h : ∀ m st', Sim st st' → Good rk a.toList b.toList m.toList → Q m st') : wpS (model prog w) A E s (mergeHi1 a b) Q st := by
  have ua := T.ua
  have ub := T.ub
  have hna := T.na
  have hnb := T.nb
  refine ex1 (arr_get (a := a) (i := a.size - 1) (by omega)) fun x0 ea ea' mx0 => ?_
  have M0 : Mh rk a.toList b.toList (#[x0] : Array Keyed).toList.reverse (a.size - 1) b.size := by
    have z : Mh rk a.toList b.toList [] (a.size - 1 + 1) b.size := ⟨by rw [List.drop_of_length_le (by simp; omega), List.drop_of_length_le (by simp)]; simp, List.Pairwise.nil, Below.nil, Below.nil⟩
    refine z.pushA ua ea' fun y hy t ht => ?_
    have ht : t = x0 := by simpa using ht
    subst ht
    exact last _ ea' y (List.mem_of_mem_take hy)
  -- the first of b is below all of a
  have firstB : ∀ na nb, nb = 1 → Below rk (b.toList.take nb) (a.toList.take na) := fun na nb hi y hy x hx => by
    subst hi
    refine ex1 (arr_get T.nb) fun z ez ez' mz => ?_
    have e : b.toList.take 1 = [z] := by
      have := take_one ez'
      rwa [List.drop_zero] at this
    rw [e] at hy
    have hy : y = z := by simpa using hy
    subst hy
    exact first _ ez' x (List.mem_of_mem_take hx)
  refine wpS_bind (wpS_lift (wpAny_rule ⟨rfl, ?_⟩))
  refine wpS_bind (wpS_elem ea ?_)
  dsimp only
  apply wpS_ite
  · intro h1
    have h1 : a.size - 1 = 0 := by simpa using h1
    refine wpS_pure (h _ _ (Sim.refl _) ?_)
    have q := M0.goodAB ua ub (by rw [h1]; intro x hx; simp at hx)
    simp only [Array.toList_append, ext_pre, Array.toList_push, Array.toList_reverse]
    exact q
  · intro h1
    have h1 : ¬ a.size - 1 = 0 := by simpa using h1
    apply wpS_ite
    · intro h2
      have h2 : b.size = 1 := by simpa using h2
      refine wpS_pure (h _ _ (Sim.refl _) ?_)
      have q := M0.goodBA ua ub (firstB _ _ h2)
      simp only [Array.toList_append, ext_pre, Array.toList_push, Array.toList_reverse]
      exact q
    · intro h2
      have h2 : ¬ b.size = 1 := by simpa using h2
      refine wpS_bind (wpS_get ?_)
      refine wpS_bind (wpS_mono (wpS_forRange
        (I := fun i c st' => Sim st st' ∧ ∃ na nb out mg, c = (none, na, nb, out, mg) ∧ Oph rk a b out na nb ∧ na + nb + i + 1 ≤ a.size + b.size)
        (Q := fun c st' => Sim st st' ∧ ∃ m, c.1 = some m ∧ Good rk a.toList b.toList m.toList) ?step ?fin ⟨Sim.refl _, _, _, _, _, rfl, ⟨M0, by omega, by omega, by omega, by omega⟩, by omega⟩) ?post)
      case post =>
        rintro ⟨c1, c2⟩ st' ⟨sm, m, e, g⟩
        dsimp only at e ⊢
        subst e
        exact wpS_pure (h m st' sm g)
      case fin =>
        rintro c st' ⟨sm, na, nb, out, mg, rfl, O, hp⟩
        have := O.ha
        have := O.hb
        omega
      case step =>
        intro i c st1 _ hi hI
        refine ex4 hI fun sm1 na1 nb1 out1 mg1 ec O1 hp1 => ?_
        clear hI
        subst ec
        dsimp only
        -- one by one
        refine wpS_bind (wpS_mono (wpS_forRange
          (I := fun j c st' => Sim st st' ∧ ∃ na nb out ac bc, c = (none, na, nb, out, ac, bc) ∧ Oph rk a b out na nb ∧ na + nb + j ≤ na1 + nb1)
          (Q := fun c st' => Sim st st' ∧ ((∃ m, c.1 = some m ∧ Good rk a.toList b.toList m.toList) ∨ ∃ na nb out ac bc, c = (none, na, nb, out, ac, bc) ∧ Oph rk a b out na nb ∧ na + nb + 1 ≤ na1 + nb1)) ?s2 ?f2 ⟨sm1, _, _, _, _, _, rfl, O1, by omega⟩) ?p2)
        case f2 =>
          rintro c st' ⟨sm, na, nb, out, ac, bc, rfl, O, hp⟩
          exact ⟨sm, .inr ⟨na, nb, out, ac, bc, rfl, O, by omega⟩⟩
        case s2 =>
          intro j c st2 _ hj hI
          refine ex5 hI fun sm2 na nb out ac bc ec O hp => ?_
          clear hI
          subst ec
          refine Exists.elim (show ∃ p, na = p + 1 from ⟨na - 1, by have := O.ha; omega⟩) fun p ep => ?_
          subst ep
          refine Exists.elim (show ∃ q, nb = q + 1 from ⟨nb - 1, by have := O.hb; omega⟩) fun q ep => ?_
          subst ep
          dsimp only [Nat.add_one_sub_one]
          have M := O.mh
          have hla := O.la
          have hlb := O.lb
          have hqb := O.hb
          refine ex1 (arr_get (a := a) (i := p) (by omega)) fun x e1 e2 mx => ?_
          refine ex1 (arr_get (a := b) (i := q) (by omega)) fun y e3 e4 my => ?_
          refine wpS_bind (wpS_elem e3 (wpS_bind (wpS_elem e1 (wpS_bind (wpS_lt C (sm2.kind.trans hk) (T.mb _ my) (T.ma _ mx) ?_)))))
          have dxy := T.dis x mx y my
          apply wpS_ite
          · intro hw
            have hw : rk y < rk x := of_decide_eq_true hw
            refine wpS_bind (wpS_elem e1 ?_)
            have M' := M.pushA ua e2 (last_above ub e4 hw)
            apply wpS_ite
            · intro h3
              have h3 : p = 0 := by simpa using h3
              refine wpS_pure ⟨sm2, .inl ⟨_, rfl, ?_⟩⟩
              have q := M'.goodAB ua ub (by rw [h3]; intro x hx; simp at hx)
              simp only [Array.toList_append, ext_pre, Array.toList_push, Array.toList_reverse, List.reverse_append, List.reverse_cons, List.reverse_nil, List.nil_append, List.cons_append]
              exact q
            · intro h3
              have h3 : ¬ p = 0 := by simpa using h3
              have O' : Oph rk a b (out.push x) p (q + 1) := ⟨by simpa using M', by omega, by omega, hqb, hlb⟩
              apply wpS_ite
              · intro h4
                exact wpS_pure ⟨sm2, .inr ⟨_, _, _, _, _, rfl, O', by omega⟩⟩
              · intro h4
                exact wpS_pure ⟨sm2, _, _, _, _, _, rfl, O', by omega⟩
          · intro hw
            have hw : ¬ rk y < rk x := fun z => hw (decide_eq_true z)
            refine wpS_bind (wpS_elem e3 ?_)
            have M' := M.pushB ub e4 (last_above ua e2 (by omega))
            apply wpS_ite
            · intro h3
              have h3 : q = 1 := by simpa using h3
              refine wpS_pure ⟨sm2, .inl ⟨_, rfl, ?_⟩⟩
              have q := M'.goodBA ua ub (firstB _ _ h3)
              simp only [Array.toList_append, ext_pre, Array.toList_push, Array.toList_reverse, List.reverse_append, List.reverse_cons, List.reverse_nil, List.nil_append, List.cons_append]
              exact q
            · intro h3
              have h3 : ¬ q = 1 := by simpa using h3
              have O' : Oph rk a b (out.push y) (p + 1) q := ⟨by simpa using M', by omega, hla, by omega, by omega⟩
              apply wpS_ite
              · intro h4
                exact wpS_pure ⟨sm2, .inr ⟨_, _, _, _, _, rfl, O', by omega⟩⟩
              · intro h4
                exact wpS_pure ⟨sm2, _, _, _, _, _, rfl, O', by omega⟩
        case p2 =>
          rintro c st2 ⟨sm2, (⟨m, e, g⟩ | ⟨na2, nb2, out2, ac2, bc2, rfl, O2, hp2⟩)⟩
          · obtain ⟨c1, c2⟩ := c
            dsimp only at e ⊢
            subst e
            exact wpS_pure ⟨sm2, m, rfl, g⟩
          · dsimp only
            refine wpS_bind (wpS_lift (wpAny_rule ⟨rfl, ?_⟩))
            -- galloping
            refine wpS_bind (wpS_mono (wpS_forRange
              (I := fun j c st' => Sim st st' ∧ ∃ na nb out mg ac bc, c = (none, na, nb, out, mg, ac, bc) ∧ Oph rk a b out na nb ∧ na + nb + 1 ≤ na1 + nb1)
              (Q := fun c st' => Sim st st' ∧ ((∃ m, c.1 = some m ∧ Good rk a.toList b.toList m.toList) ∨ ∃ na nb out mg ac bc, c = (none, na, nb, out, mg, ac, bc) ∧ Oph rk a b out na nb ∧ na + nb + 1 ≤ na1 + nb1)) ?s3 ?f3 ⟨sm2, _, _, _, _, _, _, rfl, O2, hp2⟩) ?p3)
            case f3 =>
              rintro c st' ⟨sm, na, nb, out, mg, ac, bc, rfl, O, hp⟩
              exact ⟨sm, .inr ⟨na, nb, out, mg, ac, bc, rfl, O, hp⟩⟩
            case p3 =>
              rintro c st3 ⟨sm3, (⟨m, e, g⟩ | ⟨na, nb, out, mg, ac, bc, rfl, O, hp⟩)⟩
              · obtain ⟨c1, c2⟩ := c
                dsimp only at e ⊢
                subst e
                exact wpS_pure ⟨sm3, m, rfl, g⟩
              · dsimp only
                refine wpS_bind (wpS_modify ?_)
                exact wpS_pure ⟨sm3.trans ⟨rfl, rfl, rfl, rfl⟩, _, _, _, _, rfl, O, by omega⟩
            case s3 =>
              intro j c st3 _ hj hI
              refine ex6 hI fun sm3 na nb out mg ac bc ec O hp => ?_
              clear hI
              subst ec
              refine Exists.elim (show ∃ q, nb = q + 1 from ⟨nb - 1, by have := O.hb; omega⟩) fun q ep => ?_
              subst ep
              dsimp only [Nat.add_one_sub_one]
              have M := O.mh
              have hha := O.ha
              have hla := O.la
              have hlb := O.lb
              have hqb := O.hb
              refine ex1 (arr_get (a := b) (i := q) (by omega)) fun y e3 e4 my => ?_
              refine gen_nat ?P ?hgA ?hgB
              case hgA =>
                intro key
                apply wpS_ite
                · intro hg
                  generalize mg - 1 = m1
                  exact key m1
                · intro hg
                  exact key mg
              intro mg
              all_goals
                refine wpS_bind (wpS_modify ?_)
                refine wpS_bind (wpS_elem e3 ?_)
                refine wpS_bind (wpS_gal C (by exact sm3.kind.trans hk) (T.mb _ my) T.ma ua (by omega) (by omega) (fun x hx => T.dis x hx y my) fun k hk1 hk2 hk3 => ?_)
                dsimp only
                rw [List.drop_zero] at hk2
                rw [Nat.zero_add, ← List.drop_take] at hk3
                have Mk := M.bulkA (k := k) ua hk1 (fun x hx t ht => last_above ub e4 (hk3 t ht) x hx t (by simp))
                have yA : Below rk (a.toList.take k) [y] := fun z hz t ht => by
                  have ht : t = y := by simpa using ht
                  subst ht
                  exact hk2 z hz
                have stepA : (∃ out' na', out' = out ++ (a.extract k na).reverse ∧ na' = k ∧ Mh rk a.toList b.toList out'.toList.reverse na' (q + 1) ∧ Below rk (a.toList.take na') [y]) :=
                  ⟨_, _, rfl, rfl, by rw [Array.toList_append, Array.toList_reverse, List.reverse_append, List.reverse_reverse, ext_mid]; exact Mk, yA⟩
                apply wpS_ite
                case' hp =>
                  intro hk0
                  refine exs stepA fun out' na' eo ei M' yA' => ?_
                  subst ei
                  rw [← eo]
                  apply wpS_ite
                  case' hp =>
                    intro h3
                    have h3 : na' = 0 := by simpa using h3
                    refine wpS_pure ⟨sm3.trans ⟨rfl, rfl, rfl, rfl⟩, .inl ⟨_, rfl, ?_⟩⟩
                    have g := M'.goodAB ua ub (by rw [h3]; intro x hx; simp at hx)
                    simp only [Array.toList_append, ext_pre, Array.toList_push, Array.toList_reverse]
                    exact g
                  intro h3
                  have h3 : ¬ na' = 0 := by simpa using h3
                  have hna' : 0 < na' ∧ na' ≤ na := by omega
                case' hn =>
                  intro hk0
                  have k0 : k = na := by omega
                  subst k0
                  refine exs (show ∃ out' na', out' = out ∧ na' = k ∧ Mh rk a.toList b.toList out'.toList.reverse na' (q + 1) ∧ Below rk (a.toList.take na') [y] from ⟨_, _, rfl, rfl, M, yA⟩) fun out' na' eo ei M' yA' => ?_
                  subst ei
                  rw [← eo]
                  have hna' : 0 < na' ∧ na' ≤ na' := by omega
              all_goals
                refine Exists.elim (show ∃ p, na' = p + 1 from ⟨na' - 1, by omega⟩) fun p ep => ?_
                subst ep
                dsimp only [Nat.add_one_sub_one]
                refine wpS_bind (wpS_elem e3 ?_)
                have M2 := M'.pushB ub e4 yA'
                apply wpS_ite
                case' hp =>
                  intro h5
                  have h5 : q = 1 := by simpa using h5
                  refine wpS_pure ⟨sm3.trans ⟨rfl, rfl, rfl, rfl⟩, .inl ⟨_, rfl, ?_⟩⟩
                  have g := M2.goodBA ua ub (firstB _ _ h5)
                  simp only [Array.toList_append, ext_pre, Array.toList_push, Array.toList_reverse, List.reverse_append, List.reverse_cons, List.reverse_nil, List.nil_append, List.cons_append]
                  exact g
                intro h5
                have h5 : ¬ q = 1 := by simpa using h5
                refine ex1 (arr_get (a := a) (i := p) (by omega)) fun x e1 e2 mx => ?_
                refine wpS_bind (wpS_elem e1 ?_)
                refine wpS_bind (wpS_gal C (by exact sm3.kind.trans hk) (T.ma _ mx) T.mb ub (by omega) (by omega) (fun z hz => (T.dis x mx z hz).symm) fun k' hk1' hk2' hk3' => ?_)
                dsimp only
                rw [List.drop_zero] at hk2'
                rw [Nat.zero_add, ← List.drop_take] at hk3'
                have Mk' := M2.bulkB (k := k') ub hk1' (fun z hz t ht => last_above ua e2 (hk3' t ht) z hz t (by simp))
                have xB : Below rk (b.toList.take k') [x] := fun z hz t ht => by
                  have ht : t = x := by simpa using ht
                  subst ht
                  exact hk2' z hz
                have e5 : (out'.push y).toList.reverse = y :: out'.toList.reverse := by simp
                have stepB : (∃ out3 nb', out3 = out'.push y ++ (b.extract k' q).reverse ∧ nb' = k' ∧ Mh rk a.toList b.toList out3.toList.reverse (p + 1) nb' ∧ Below rk (b.toList.take nb') [x]) :=
                  ⟨_, _, rfl, rfl, by rw [Array.toList_append, Array.toList_reverse, List.reverse_append, List.reverse_reverse, ext_mid, e5]; exact Mk', xB⟩
                apply wpS_ite
                case' hp =>
                  intro hk0'
                  refine exs stepB fun out3 nb' eo3 ei3 M3 xB' => ?_
                  subst ei3
                  rw [← eo3]
                  apply wpS_ite
                  case' hp =>
                    intro h6
                    have h6 : nb' = 1 := by simpa using h6
                    refine wpS_pure ⟨sm3.trans ⟨rfl, rfl, rfl, rfl⟩, .inl ⟨_, rfl, ?_⟩⟩
                    have g := M3.goodBA ua ub (firstB _ _ h6)
                    simp only [Array.toList_append, ext_pre, Array.toList_push, Array.toList_reverse]
                    exact g
                  intro h6
                  have h6 : ¬ nb' = 1 := by simpa using h6
                  apply wpS_ite
                  case' hp =>
                    intro h8
                    have h8 : nb' = 0 := by simpa using h8
                    refine wpS_pure ⟨sm3.trans ⟨rfl, rfl, rfl, rfl⟩, .inl ⟨_, rfl, ?_⟩⟩
                    have g := M3.goodAB ua ub (by rw [h8]; exact fun _ _ _ hy => by simp at hy)
                    simp only [Array.toList_append, ext_pre, Array.toList_push, Array.toList_reverse]
                    exact g
                  intro h8
                  have h8 : ¬ nb' = 0 := by simpa using h8
                  have hnb' : 1 < nb' ∧ nb' ≤ q := by omega
                case' hn =>
                  intro hk0'
                  have k0 : k' = q := by omega
                  subst k0
                  refine exs (show ∃ out3 nb', out3 = out'.push y ∧ nb' = k' ∧ Mh rk a.toList b.toList out3.toList.reverse (p + 1) nb' ∧ Below rk (b.toList.take nb') [x] from ⟨_, _, rfl, rfl, by rw [e5]; exact M2, xB⟩) fun out3 nb' eo3 ei3 M3 xB' => ?_
                  subst ei3
                  rw [← eo3]
                  have hnb' : 1 < nb' ∧ nb' ≤ nb' := by omega
              all_goals
                refine wpS_bind (wpS_elem e1 ?_)
                have M4 := M3.pushA ua e2 xB'
                apply wpS_ite
                case' hp =>
                  intro h7
                  have h7 : p = 0 := by simpa using h7
                  refine wpS_pure ⟨sm3.trans ⟨rfl, rfl, rfl, rfl⟩, .inl ⟨_, rfl, ?_⟩⟩
                  have g := M4.goodAB ua ub (by rw [h7]; intro x hx; simp at hx)
                  simp only [Array.toList_append, ext_pre, Array.toList_push, Array.toList_reverse, List.reverse_append, List.reverse_cons, List.reverse_nil, List.nil_append, List.cons_append]
                  exact g
                intro h7
                have h7 : ¬ p = 0 := by simpa using h7
                have O4 : Oph rk a b (out3.push x) p nb' := ⟨by simpa using M4, by omega, by omega, by omega, by omega⟩
                apply wpS_ite <;> intro _
                · exact wpS_pure ⟨sm3.trans ⟨rfl, rfl, rfl, rfl⟩, .inr ⟨_, _, _, _, _, _, rfl, O4, by omega⟩⟩
                · exact wpS_pure ⟨sm3.trans ⟨rfl, rfl, rfl, rfl⟩, _, _, _, _, _, _, rfl, O4, by omega⟩
end
end GS

set_option autoImplicit false
set_option linter.all false
set_option maxRecDepth 100000
/-! Runs counted and grown, anywhere in the array. -/
namespace GS
open PySem PyProof.Rows
noncomputable def countRun1 : Nat → Nat → StateT SortSt Sem (Option Nat) := sortPriv% PySem.Builtin.countRun
noncomputable def binarySort1 : Nat → Nat → Nat → StateT SortSt Sem Bool := sortPriv% PySem.Builtin.binarySort
/-- the rank at a place -/
noncomputable def rA (rk : Keyed → Int) (xs : Array Keyed) (i : Nat) : Int := match xs[i]? with | some p => rk p | none => 0
noncomputable def UpTo (rk : Keyed → Int) (xs : Array Keyed) (lo hi : Nat) : Prop := ∀ i j, lo ≤ i → i < j → j < hi → rA rk xs i < rA rk xs j
noncomputable def DownTo (rk : Keyed → Int) (xs : Array Keyed) (lo hi : Nat) : Prop := ∀ i j, lo ≤ i → i < j → j < hi → rA rk xs j < rA rk xs i
/-- the state with its array -/
structure Arr (kind : SortKind) (a0 : List Keyed) (st : SortSt) : Prop where
  kind : kindOf st = kind
  failed : failedOf st = none
  perm : (arrOf st).toList.Perm a0
section
variable {kind : SortKind} {a0 : List Keyed} {rk : Keyed → Int} {st : SortSt}
theorem rA_of {xs : Array Keyed} {i : Nat} {p : Keyed} (h : xs[i]? = some p) : rA rk xs i = rk p := by unfold rA; rw [h]
theorem rA_congr {xs ys : Array Keyed} {i j : Nat} (h : xs[i]? = ys[j]?) : rA rk xs i = rA rk ys j := by unfold rA; rw [h]
theorem Arr.size (h : Arr kind a0 st) : (arrOf st).size = a0.length := by simpa using h.perm.length_eq
theorem Arr.get (h : Arr kind a0 st) {i : Nat} (hi : i < a0.length) : ∃ p, (arrOf st)[i]? = some p ∧ p ∈ a0 ∧ rA rk (arrOf st) i = rk p := by
  have hs := h.size
  obtain ⟨x, e1, e2, m⟩ := arr_get (a := arrOf st) (i := i) (by omega)
  exact ⟨x, e1, h.perm.mem_iff.mp m, rA_of e1⟩
theorem Arr.ne (h : Arr kind a0 st) (inj : (a0.map rk).Nodup) {i j : Nat} (hi : i < a0.length) (hj : j < a0.length) (n : i ≠ j) : rA rk (arrOf st) i ≠ rA rk (arrOf st) j := by
  have hs := h.size
  have nd : ((arrOf st).toList.map rk).Nodup := (h.perm.map rk).nodup_iff.mpr inj
  obtain ⟨p, e1, _, r1⟩ := h.get (rk := rk) hi
  obtain ⟨q, e2, _, r2⟩ := h.get (rk := rk) hj
  rw [r1, r2]
  intro e
  have l1 : ((arrOf st).toList.map rk)[i]? = some (rk p) := by rw [List.getElem?_map, Array.getElem?_toList, e1]; rfl
  have l2 : ((arrOf st).toList.map rk)[j]? = some (rk p) := by rw [List.getElem?_map, Array.getElem?_toList, e2, e]; rfl
  obtain ⟨h1, g1⟩ := List.getElem?_eq_some_iff.mp l1
  obtain ⟨h2, g2⟩ := List.getElem?_eq_some_iff.mp l2
  exact n ((List.getElem_inj nd).mp (g1.trans g2.symm))
theorem Arr.setArr (h : Arr kind a0 st) {xs : Array Keyed} (p : xs.Perm (arrOf st)) : Arr kind a0 (PyProof.Rows.setArr st xs) := ⟨h.kind, h.failed, (Array.perm_iff_toList_perm.mp p).trans h.perm⟩
/-- nothing else is changed but the array, and that within lo .. hi -/
structure Only (st st' : SortSt) (lo hi : Nat) : Prop where
  pend : pendingOf st' = pendingOf st
  out : ∀ k, k < lo ∨ hi ≤ k → (arrOf st')[k]? = (arrOf st)[k]?
theorem Only.refl (st : SortSt) (lo hi : Nat) : Only st st lo hi := ⟨rfl, fun _ _ => rfl⟩
theorem Only.trans {a b c : SortSt} {lo hi : Nat} (h : Only a b lo hi) (k : Only b c lo hi) : Only a c lo hi := ⟨k.pend.trans h.pend, fun i hi => (k.out i hi).trans (h.out i hi)⟩
theorem Only.wide {a b : SortSt} {lo hi lo' hi' : Nat} (h : Only a b lo hi) (h1 : lo' ≤ lo) (h2 : hi ≤ hi') : Only a b lo' hi' := ⟨h.pend, fun i hi => h.out i (by omega)⟩
end
section
variable {prog : Program} {w : World} {A : Around} {E : Value → Shared → Prop} {s : Shared} {kind : SortKind} {a0 : List Keyed} {rk : Keyed → Int}
theorem wpS_ltAtA (C : Cmp prog w A s kind a0 rk) {st : SortSt} {i j : Nat} {Q : Option Bool → SortSt → Prop} (h : Arr kind a0 st) (hi : i < a0.length) (hj : j < a0.length) (q : Q (some (decide (rA rk (arrOf st) i < rA rk (arrOf st) j))) st) :
    wpS (model prog w) A E s (ltAt' i j) Q st := by
  obtain ⟨x, e1, m1, r1⟩ := h.get (rk := rk) hi
  obtain ⟨y, e2, m2, r2⟩ := h.get (rk := rk) hj
  rw [r1, r2] at q
  rw [ltAt'_eq]
  refine wpS_bind (wpS_get ?_)
  exact wpS_bind (wpS_elem e1 (wpS_bind (wpS_elem e2 (wpS_lt C h.kind m1 m2 q))))

theorem wpS_countRunA (C : Cmp prog w A s kind a0 rk) {st : SortSt} {lo nrem : Nat} {Q : Option Nat → SortSt → Prop} (h : Arr kind a0 st) (hl : lo + nrem = a0.length) (h1 : 1 ≤ nrem)
    (q : ∀ m st', Arr kind a0 st' → 1 ≤ m → m ≤ nrem → UpTo rk (arrOf st') lo (lo + m) → Only st st' lo (lo + m) → Q (some m) st') : wpS (model prog w) A E s (countRun1 lo nrem) Q st := by
  have up1 : UpTo rk (arrOf st) lo (lo + 1) := fun i j a b c => by omega
  refine wpS_bind (wpS_mono (wpS_forRange (I := fun x c st' => st' = st ∧ c = (none, x) ∧ 1 ≤ x ∧ UpTo rk (arrOf st) lo (lo + x))
    (Q := fun c st' => st' = st ∧ ∃ n, c = (none, n) ∧ 1 ≤ n ∧ n ≤ nrem ∧ UpTo rk (arrOf st) lo (lo + n) ∧ (n = nrem ∨ rA rk (arrOf st) (lo + n) < rA rk (arrOf st) (lo + n - 1))) ?step ?fin ⟨rfl, rfl, by omega, up1⟩) ?post)
  case fin =>
    rintro c st' ⟨rfl, rfl, a1, a2⟩
    rw [show max 1 nrem = nrem by omega] at a2 ⊢
    exact ⟨rfl, nrem, rfl, by omega, Nat.le_refl _, a2, .inl rfl⟩
  case step =>
    rintro x c st' _ hx ⟨rfl, rfl, a1, a2⟩
    dsimp only
    refine wpS_bind (wpS_ltAtA C h (by omega) (by omega) ?_)
    by_cases hw : rA rk (arrOf st') (lo + x) < rA rk (arrOf st') (lo + x - 1)
    · simp only [decide_eq_true hw, if_true]
      exact wpS_pure ⟨rfl, x, rfl, a1, by omega, a2, .inr hw⟩
    · simp only [decide_eq_false hw, Bool.false_eq_true, if_false]
      refine wpS_pure ⟨rfl, rfl, by omega, fun i j b1 b2 b3 => ?_⟩
      have d := h.ne C.inj (i := lo + x) (j := lo + x - 1) (by omega) (by omega) (by omega)
      by_cases hj : j < lo + x
      · exact a2 i j b1 b2 hj
      · have e : j = lo + x := by omega
        subst e
        by_cases hi : i = lo + x - 1
        · subst hi; omega
        · have := a2 i (lo + x - 1) b1 (by omega) (by omega)
          omega
  case post =>
    rintro c st' ⟨rfl, n, rfl, n1, n2, n3, n4⟩
    dsimp only
    by_cases e1 : (n == nrem) = true
    · rw [if_pos e1]
      exact wpS_pure (q n st' h n1 n2 n3 (Only.refl _ _ _))
    · rw [if_neg e1]
      have e1 : ¬ n = nrem := by simpa using e1
      have n4 := n4.resolve_left e1
      by_cases hn : n > 1
      · rw [if_pos hn]
        refine wpS_bind (wpS_ltAtA C h (by omega) (by omega) ?_)
        have hw : rA rk (arrOf st') lo < rA rk (arrOf st') (lo + n - 1) := n3 lo (lo + n - 1) (by omega) (by omega) (by omega)
        simp only [decide_eq_true hw, if_true]
        exact wpS_pure (q n st' h n1 n2 n3 (Only.refl _ _ _))
      · rw [if_neg hn]
        have en : n = 1 := by omega
        subst en
        refine wpS_bind (wpS_lift (wpAny_rule ⟨rfl, ?_⟩))
        have dn : DownTo rk (arrOf st') lo (lo + 2) := fun i j b1 b2 b3 => by
          have ei : i = lo := by omega
          have ej : j = lo + 1 := by omega
          subst ei ej
          exact n4
        refine wpS_bind (wpS_mono (wpS_forRange (I := fun x c st'' => st'' = st' ∧ c = (none, x, 0) ∧ 2 ≤ x ∧ DownTo rk (arrOf st') lo (lo + x))
          (Q := fun c st'' => st'' = st' ∧ ∃ n, c = (none, n, 0) ∧ 2 ≤ n ∧ n ≤ nrem ∧ DownTo rk (arrOf st') lo (lo + n)) ?step2 ?fin2 ⟨rfl, rfl, by omega, dn⟩) ?post2)
        case fin2 =>
          rintro c st'' ⟨rfl, rfl, a1, a2⟩
          rw [show max (1 + 1) nrem = nrem by omega] at a2 ⊢
          exact ⟨rfl, nrem, rfl, by omega, Nat.le_refl _, a2⟩
        case step2 =>
          rintro x c st'' _ hx ⟨rfl, rfl, a1, a2⟩
          dsimp only
          refine wpS_bind (wpS_ltAtA C h (by omega) (by omega) ?_)
          have d := h.ne C.inj (i := lo + x) (j := lo + x - 1) (by omega) (by omega) (by omega)
          by_cases hw : rA rk (arrOf st'') (lo + x) < rA rk (arrOf st'') (lo + x - 1)
          · simp only [decide_eq_true hw, if_true]
            rw [if_neg (by omega)]
            refine wpS_pure ⟨rfl, rfl, by omega, fun i j b1 b2 b3 => ?_⟩
            by_cases hj : j < lo + x
            · exact a2 i j b1 b2 hj
            · have e : j = lo + x := by omega
              subst e
              by_cases hi : i = lo + x - 1
              · subst hi; omega
              · have := a2 i (lo + x - 1) b1 (by omega) (by omega)
                omega
          · simp only [decide_eq_false hw, Bool.false_eq_true, if_false]
            refine wpS_bind (wpS_ltAtA C h (by omega) (by omega) ?_)
            have hw' : rA rk (arrOf st'') (lo + x - 1) < rA rk (arrOf st'') (lo + x) := by omega
            simp only [decide_eq_true hw', if_true]
            exact wpS_pure ⟨rfl, x, rfl, a1, by omega, a2⟩
        case post2 =>
          rintro c st'' ⟨rfl, n, rfl, m1, m2, m3⟩
          dsimp only
          rw [if_neg (by omega)]
          refine wpS_bind (wpS_modify ?_)
          -- the run turned about
          have hsz := h.size
          have hA : Arr kind a0 (PyProof.Rows.setArr st'' (mirror (arrOf st'') lo (lo + n) ((lo + n - lo) / 2))) := h.setArr (mirror_perm _ _ _ _)
          have gt : ∀ k, (mirror (arrOf st'') lo (lo + n) ((lo + n - lo) / 2))[k]? = if lo ≤ k ∧ k < lo + n then (arrOf st'')[lo + (lo + n) - 1 - k]? else (arrOf st'')[k]? := fun k => getElem?_mirror_all (by omega) k
          have up2 : UpTo rk (mirror (arrOf st'') lo (lo + n) ((lo + n - lo) / 2)) lo (lo + n) := fun i j b1 b2 b3 => by
            have g1 := gt i
            have g2 := gt j
            rw [if_pos (by omega)] at g1 g2
            rw [rA_congr g1, rA_congr g2]
            exact m3 _ _ (by omega) (by omega) (by omega)
          have on2 : Only st'' (PyProof.Rows.setArr st'' (mirror (arrOf st'') lo (lo + n) ((lo + n - lo) / 2))) lo (lo + n) := ⟨rfl, fun k hk => by
            have g := gt k
            rw [if_neg (by omega)] at g
            exact g⟩
          show wpS (model prog w) A E s _ _ (PyProof.Rows.setArr st'' (mirror (arrOf st'') lo (lo + n) ((lo + n - lo) / 2)))
          generalize hst3 : PyProof.Rows.setArr st'' (mirror (arrOf st'') lo (lo + n) ((lo + n - lo) / 2)) = st3 at *
          have up3 : UpTo rk (arrOf st3) lo (lo + n) := by rw [← hst3]; exact up2
          refine wpS_bind (wpS_mono (wpS_forRange (I := fun x c st4 => st4 = st3 ∧ c = (none, x) ∧ n ≤ x ∧ UpTo rk (arrOf st3) lo (lo + x))
            (Q := fun c st4 => st4 = st3 ∧ ∃ m, c = (none, m) ∧ n ≤ m ∧ m ≤ nrem ∧ UpTo rk (arrOf st3) lo (lo + m)) ?step3 ?fin3 ⟨rfl, rfl, by omega, up3⟩) ?post3)
          case fin3 =>
            rintro c st4 ⟨rfl, rfl, a1, a2⟩
            rw [show max n nrem = nrem by omega] at a2 ⊢
            exact ⟨rfl, nrem, rfl, by omega, Nat.le_refl _, a2⟩
          case step3 =>
            rintro x c st4 _ hx ⟨rfl, rfl, a1, a2⟩
            dsimp only
            refine wpS_bind (wpS_ltAtA C hA (by omega) (by omega) ?_)
            have d := hA.ne C.inj (i := lo + x) (j := lo + x - 1) (by omega) (by omega) (by omega)
            by_cases hw : rA rk (arrOf st4) (lo + x) < rA rk (arrOf st4) (lo + x - 1)
            · simp only [decide_eq_true hw, if_true]
              exact wpS_pure ⟨rfl, x, rfl, a1, by omega, a2⟩
            · simp only [decide_eq_false hw, Bool.false_eq_true, if_false]
              refine wpS_pure ⟨rfl, rfl, by omega, fun i j b1 b2 b3 => ?_⟩
              by_cases hj : j < lo + x
              · exact a2 i j b1 b2 hj
              · have e : j = lo + x := by omega
                subst e
                by_cases hi : i = lo + x - 1
                · subst hi; omega
                · have := a2 i (lo + x - 1) b1 (by omega) (by omega)
                  omega
          case post3 =>
            rintro c st4 ⟨rfl, m, rfl, k1, k2, k3⟩
            exact wpS_pure (q m st4 hA (by omega) k2 k3 (on2.wide (Nat.le_refl _) (by omega)))

theorem wpS_binarySortA (C : Cmp prog w A s kind a0 rk) {st : SortSt} {lo n ok : Nat} {Q : Bool → SortSt → Prop} (h : Arr kind a0 st) (hl : lo + n ≤ a0.length) (hok : ok ≤ n) (hu : UpTo rk (arrOf st) lo (lo + ok))
    (q : ∀ st', Arr kind a0 st' → UpTo rk (arrOf st') lo (lo + n) → Only st st' lo (lo + n) → Q true st') : wpS (model prog w) A E s (binarySort1 lo n ok) Q st := by
  refine wpS_bind (wpS_mono (wpS_forRange (I := fun k c st' => c = (none, ()) ∧ Arr kind a0 st' ∧ UpTo rk (arrOf st') lo (lo + min k n) ∧ Only st st' lo (lo + n))
    (Q := fun c st' => c = (none, ()) ∧ Arr kind a0 st' ∧ UpTo rk (arrOf st') lo (lo + n) ∧ Only st st' lo (lo + n)) ?step ?fin ?init) ?post)
  case post =>
    rintro c st' ⟨rfl, a1, a2, a3⟩
    exact wpS_pure (q st' a1 a2 a3)
  case init =>
    refine ⟨rfl, h, fun i j b1 b2 b3 => ?_, Only.refl _ _ _⟩
    by_cases z : ok = 0
    · omega
    · exact hu i j b1 b2 (by omega)
  case fin =>
    rintro c st' ⟨hc, a1, a2, a3⟩
    rw [show min (max (max ok 1) n) n = n by omega] at a2
    exact ⟨hc, a1, a2, a3⟩
  case step =>
    rintro k c st' hak hkn ⟨rfl, a1, a2, a3⟩
    rw [show min k n = k by omega] at a2
    refine wpS_bind (wpS_mono (wpS_forRange (I := fun x c st'' => st'' = st' ∧ ∃ l r, c = (none, l, r) ∧ l ≤ r ∧ r ≤ k ∧ r - l ≤ k - x ∧
        (∀ i, i < l → rA rk (arrOf st') (lo + i) < rA rk (arrOf st') (lo + k)) ∧ (∀ i, r ≤ i → i < k → rA rk (arrOf st') (lo + k) < rA rk (arrOf st') (lo + i)))
      (Q := fun c st'' => st'' = st' ∧ ∃ l r, c = (none, l, r) ∧ l ≤ k ∧
        (∀ i, i < l → rA rk (arrOf st') (lo + i) < rA rk (arrOf st') (lo + k)) ∧ (∀ i, l ≤ i → i < k → rA rk (arrOf st') (lo + k) < rA rk (arrOf st') (lo + i))) ?istep ?ifin ?iinit) ?ipost)
    case iinit => exact ⟨rfl, 0, k, rfl, by omega, by omega, by omega, fun i hi => by omega, fun i h1 h2 => by omega⟩
    case ifin =>
      rintro c st'' ⟨rfl, l, r, rfl, hlr, hrk, hm, hlo, hhi⟩
      have : l = r := by omega
      subst this
      exact ⟨rfl, l, l, rfl, hrk, hlo, hhi⟩
    case istep =>
      rintro x c st'' _ hxk ⟨rfl, l, r, rfl, hlr, hrk, hm, hlo, hhi⟩
      dsimp only
      by_cases hge : l ≥ r
      · rw [if_pos hge]
        have : l = r := by omega
        subst this
        exact wpS_pure ⟨rfl, l, l, rfl, hrk, hlo, hhi⟩
      · rw [if_neg hge]
        refine wpS_bind (wpS_ltAtA C a1 (by omega) (by omega) ?_)
        have d := a1.ne C.inj (i := lo + k) (j := lo + (l + r) / 2) (by omega) (by omega) (by omega)
        by_cases hless : rA rk (arrOf st'') (lo + k) < rA rk (arrOf st'') (lo + (l + r) / 2)
        · simp only [decide_eq_true hless, if_true]
          refine wpS_pure ⟨rfl, l, (l + r) / 2, rfl, by omega, by omega, by omega, hlo, fun i h1 h2 => ?_⟩
          by_cases e : i = (l + r) / 2
          · subst e; exact hless
          · have := a2 (lo + (l + r) / 2) (lo + i) (by omega) (by omega) (by omega)
            omega
        · simp only [decide_eq_false hless, Bool.false_eq_true, if_false]
          refine wpS_pure ⟨rfl, (l + r) / 2 + 1, r, rfl, by omega, by omega, by omega, fun i h1 => ?_, hhi⟩
          by_cases e : i = (l + r) / 2
          · subst e; omega
          · have := a2 (lo + i) (lo + (l + r) / 2) (by omega) (by omega) (by omega)
            omega
    case ipost =>
      rintro c st'' ⟨rfl, l, r, rfl, hlk, hlo, hhi⟩
      dsimp only
      refine wpS_bind (wpS_modify (wpS_pure ⟨rfl, ?_⟩))
      have hsz := a1.size
      show Arr kind a0 (PyProof.Rows.setArr st'' (bubble (arrOf st'') (lo + k) (lo + k - (lo + l)))) ∧ UpTo rk (bubble (arrOf st'') (lo + k) (lo + k - (lo + l))) lo (lo + min (k + 1) n) ∧ Only st (PyProof.Rows.setArr st'' (bubble (arrOf st'') (lo + k) (lo + k - (lo + l)))) lo (lo + n)
      have gt : ∀ i, (bubble (arrOf st'') (lo + k) (lo + k - (lo + l)))[i]? = if i = lo + l then (arrOf st'')[lo + k]? else if lo + l < i ∧ i ≤ lo + k then (arrOf st'')[i - 1]? else (arrOf st'')[i]? := fun i => by
        have := getElem?_bubble (xs := arrOf st'') (src := lo + k) (by omega) (lo + k - (lo + l)) (by omega) i
        rw [show lo + k - (lo + k - (lo + l)) = lo + l by omega] at this
        exact this
      refine ⟨a1.setArr (bubble_perm _ _ _), fun i j b1 b2 b3 => ?_, a3.trans ⟨rfl, fun i hi => ?_⟩⟩
      · rw [show min (k + 1) n = k + 1 by omega] at b3
        have g1 := gt i
        have g2 := gt j
        by_cases c1 : i = lo + l
        · rw [if_pos c1] at g1
          rw [if_neg (by omega), if_pos (by omega)] at g2
          rw [rA_congr g1, rA_congr g2]
          have := hhi (j - 1 - lo) (by omega) (by omega)
          rwa [show lo + (j - 1 - lo) = j - 1 by omega] at this
        · rw [if_neg c1] at g1
          by_cases c2 : lo + l < i ∧ i ≤ lo + k
          · rw [if_pos c2] at g1
            rw [if_neg (by omega), if_pos (by omega)] at g2
            rw [rA_congr g1, rA_congr g2]
            exact a2 _ _ (by omega) (by omega) (by omega)
          · rw [if_neg c2] at g1
            rw [rA_congr g1]
            by_cases c3 : j = lo + l
            · rw [if_pos c3] at g2
              rw [rA_congr g2]
              have := hlo (i - lo) (by omega)
              rwa [show lo + (i - lo) = i by omega] at this
            · rw [if_neg c3] at g2
              by_cases c4 : lo + l < j ∧ j ≤ lo + k
              · rw [if_pos c4] at g2
                rw [rA_congr g2]
                exact a2 _ _ b1 (by omega) (by omega)
              · rw [if_neg c4] at g2
                rw [rA_congr g2]
                exact a2 _ _ b1 b2 (by omega)
      · have g := gt i
        rw [if_neg (by omega), if_neg (by omega)] at g
        exact g
end
end GS

set_option autoImplicit false
set_option linter.all false
set_option maxRecDepth 100000
/-! Two runs of the array merged in their place. -/
namespace GS
open PySem PyProof.Rows
noncomputable def mergeAt1 : Nat → StateT SortSt Sem Bool := sortPriv% PySem.Builtin.mergeAt
/-! ### what is written back -/
theorem fold_get (b : Nat) : ∀ (m : List Keyed) (o : Nat) (xs : Array Keyed), b + o + m.length ≤ xs.size → ∀ k, ((m.zipIdx o).foldl (fun a x => a.setIfInBounds (b + x.2) x.1) xs)[k]? = if b + o ≤ k ∧ k < b + o + m.length then m[k - (b + o)]? else xs[k]?
  | [], o, xs, h, k => by
    rw [List.zipIdx_nil, List.foldl_nil, if_neg (by simp <;> omega)]
  | x :: m, o, xs, h, k => by
    simp only [List.length_cons] at h
    rw [List.zipIdx_cons, List.foldl_cons, fold_get b m (o + 1) _ (by rw [Array.size_setIfInBounds]; omega) k]
    simp only [List.length_cons]
    by_cases c1 : k = b + o
    · subst c1
      rw [if_neg (by omega), if_pos (by omega), Array.getElem?_setIfInBounds, if_pos rfl, if_pos (by omega)]
      simp
    · by_cases c2 : b + (o + 1) ≤ k ∧ k < b + (o + 1) + m.length
      · rw [if_pos c2, if_pos (by omega), show k - (b + o) = (k - (b + (o + 1))) + 1 by omega, List.getElem?_cons_succ]
      · rw [if_neg c2, if_neg (by omega), Array.getElem?_setIfInBounds, if_neg (by omega)]
theorem list_cut (l : List Keyed) (i n : Nat) : l = l.take i ++ (l.drop i).take n ++ l.drop (i + n) := by
  rw [List.append_assoc, ← List.drop_drop, List.take_append_drop, List.take_append_drop]
theorem fold_list {m : List Keyed} {b : Nat} {xs : Array Keyed} (h : b + m.length ≤ xs.size) : (m.zipIdx.foldl (fun a x => a.setIfInBounds (b + x.2) x.1) xs).toList = xs.toList.take b ++ m ++ xs.toList.drop (b + m.length) := by
  have hl : xs.toList.length = xs.size := Array.length_toList
  refine List.ext_getElem? fun k => ?_
  rw [Array.getElem?_toList, fold_get b m 0 xs (by omega) k, Nat.add_zero]
  by_cases c1 : k < b
  · rw [if_neg (by omega), List.append_assoc, List.getElem?_append_left (by rw [List.length_take]; omega), List.getElem?_take_of_lt c1, Array.getElem?_toList]
  · by_cases c2 : k < b + m.length
    · rw [if_pos (by omega), List.append_assoc, List.getElem?_append_right (by rw [List.length_take]; omega), List.length_take, Nat.min_eq_left (by omega), List.getElem?_append_left (by omega)]
    · rw [if_neg (by omega), List.getElem?_append_right (by rw [List.length_append, List.length_take]; omega), List.length_append, List.length_take, Nat.min_eq_left (by omega), List.getElem?_drop, ← Array.getElem?_toList]
      congr 1
      omega
section
variable {prog : Program} {w : World} {A : Around} {E : Value → Shared → Prop} {s : Shared} {kind : SortKind} {a0 : List Keyed} {rk : Keyed → Int}
/-- galloping in a part of the array that rises -/
theorem wpS_galA (C : Cmp prog w A s kind a0 rk) {left : Bool} {key : Keyed} {st : SortSt} {st0 : SortSt} {base n hint : Nat} {Q : Option Nat → SortSt → Prop} (h : Arr kind a0 st0) (hk : kindOf st = kind)
    (my : key ∈ a0) (hn : base + n ≤ a0.length) (hu : UpTo rk (arrOf st0) base (base + n)) (hh : hint < n) (dis : ∀ i, base ≤ i → i < base + n → rA rk (arrOf st0) i ≠ rk key)
    (q : ∀ k, k ≤ n → (∀ i, base ≤ i → i < base + k → rA rk (arrOf st0) i < rk key) → (∀ i, base + k ≤ i → i < base + n → rk key < rA rk (arrOf st0) i) → Q (some k) st) :
    wpS (model prog w) A E s (gallop1 left key (arrOf st0) base n hint) Q st := by
  have hs := h.size
  have at' : ∀ j, j < n → ∃ x, (arrOf st0)[base + j]? = some x ∧ x ∈ a0 ∧ rA rk (arrOf st0) (base + j) = rk x := fun j hj => h.get (by omega)
  have xs : ∀ j, j < n → (arrOf st0)[base + j]? = some (((arrOf st0)[base + j]?).getD key) ∧ ((arrOf st0)[base + j]?).getD key ∈ a0 ∧ rA rk (arrOf st0) (base + j) = rk (((arrOf st0)[base + j]?).getD key) := fun j hj => by
    obtain ⟨x, e, m, r⟩ := at' j hj
    rw [e]
    exact ⟨rfl, m, r⟩
  have val : ∀ j, j < n → bey rk left key (((arrOf st0)[base + j]?).getD key) = decide (rA rk (arrOf st0) (base + j) < rk key) := fun j hj => by
    have d := dis (base + j) (by omega) (by omega)
    rw [(xs j hj).2.2] at d ⊢
    unfold bey
    cases left with
    | true => rfl
    | false =>
      rw [if_neg Bool.false_ne_true]
      by_cases z : rk (((arrOf st0)[base + j]?).getD key) < rk key
      · rw [decide_eq_true z, decide_eq_false (by omega)]; rfl
      · rw [decide_eq_false z, decide_eq_true (by omega)]; rfl
  refine wpS_gallop C hk my (fun j => ((arrOf st0)[base + j]?).getD key) (fun j hj => (xs j hj).1) (fun j hj => (xs j hj).2.1) hh (fun i j hij hj hb => ?_) fun k hk1 hk2 hk3 => q k hk1 (fun i b1 b2 => ?_) (fun i b1 b2 => ?_)
  · rw [val j hj] at hb
    rw [val i (by omega)]
    have hb := of_decide_eq_true hb
    refine decide_eq_true ?_
    rcases Nat.lt_or_eq_of_le hij with z | z
    · have := hu (base + i) (base + j) (by omega) (by omega) (by omega)
      omega
    · subst z; exact hb
  · have z := hk2 (i - base) (by omega)
    rw [val (i - base) (by omega)] at z
    have z := of_decide_eq_true z
    rwa [show base + (i - base) = i by omega] at z
  · have z := hk3 (i - base) (by omega) (by omega)
    rw [val (i - base) (by omega)] at z
    have z := of_decide_eq_false z
    rw [show base + (i - base) = i by omega] at z
    have := dis i (by omega) b2
    omega
/-- a part that rises, as a list -/
theorem up_ext {xs : Array Keyed} {i j : Nat} (hj : j ≤ xs.size) (hu : UpTo rk xs i j) : Up rk (xs.extract i j).toList := by
  refine List.pairwise_iff_getElem.mpr fun p q hp hq hpq => ?_
  rw [ext_mid] at hp hq
  simp only [List.length_drop, List.length_take, Array.length_toList] at hp hq
  have gp : ∀ p (hp : p < (xs.extract i j).toList.length), xs[i + p]? = some (xs.extract i j).toList[p] := fun p hp => by
    have e : (xs.extract i j).toList[p]? = some (xs.extract i j).toList[p] := List.getElem?_eq_getElem hp
    have e2 : (xs.extract i j).toList[p]? = xs[i + p]? := by
      rw [ext_mid] at hp
      simp only [List.length_drop, List.length_take, Array.length_toList] at hp
      rw [ext_mid, List.getElem?_drop, List.getElem?_take_of_lt (by omega), Array.getElem?_toList]
    exact e2.symm.trans e
  have r1 := rA_of (rk := rk) (gp p (by rw [ext_mid]; simp; omega))
  have r2 := rA_of (rk := rk) (gp q (by rw [ext_mid]; simp; omega))
  rw [← r1, ← r2]
  exact hu _ _ (by omega) (by omega) (by omega)
theorem mem_ext {xs : Array Keyed} {i j : Nat} {x : Keyed} (hj : j ≤ xs.size) (h : x ∈ (xs.extract i j).toList) : ∃ p, i ≤ p ∧ p < j ∧ xs[p]? = some x := by
  obtain ⟨p, hp, e⟩ := List.mem_iff_getElem.mp h
  have e' : (xs.extract i j).toList[p]? = some x := by rw [List.getElem?_eq_getElem hp, e]
  rw [ext_mid] at hp e'
  simp only [List.length_drop, List.length_take, Array.length_toList] at hp
  rw [List.getElem?_drop, List.getElem?_take_of_lt (by omega), Array.getElem?_toList] at e'
  exact ⟨i + p, by omega, by omega, e'⟩

theorem wpS_mergeAtA (C : Cmp prog w A s kind a0 rk) {st : SortSt} {i sa na pw sb nb pw' : Nat} {Q : Bool → SortSt → Prop} (h : Arr kind a0 st) (p1 : (pendingOf st)[i]? = some (sa, na, pw)) (p2 : (pendingOf st)[i + 1]? = some (sb, nb, pw'))
    (hs : sb = sa + na) (hna : 1 ≤ na) (hnb : 1 ≤ nb) (hl : sb + nb ≤ a0.length) (u1 : UpTo rk (arrOf st) sa sb) (u2 : UpTo rk (arrOf st) sb (sb + nb))
    (q : ∀ st', Arr kind a0 st' → pendingOf st' = ((pendingOf st).setIfInBounds i (sa, na + nb, pw)).eraseIdxIfInBounds (i + 1) → UpTo rk (arrOf st') sa (sb + nb) → (∀ k, k < sa ∨ sb + nb ≤ k → (arrOf st')[k]? = (arrOf st)[k]?) → Q true st') :
    wpS (model prog w) A E s (mergeAt1 i) Q st := by
  refine wpS_bind (wpS_get ?_)
  dsimp only
  rw [p1, p2]
  dsimp only
  have hsz := h.size
  refine wpS_bind ?_
  show wpS (model prog w) A E s (modify fun _ => SortSt.mk' (kindOf st) (arrOf st) (((pendingOf st).setIfInBounds i (sa, na + nb, pw)).eraseIdxIfInBounds (i + 1)) (gallopOf st) (failedOf st)) _ st
  refine wpS_modify ?_
  generalize hst1 : SortSt.mk' (kindOf st) (arrOf st) (((pendingOf st).setIfInBounds i (sa, na + nb, pw)).eraseIdxIfInBounds (i + 1)) (gallopOf st) (failedOf st) = st1
  have k1 : kindOf st1 = kind := by rw [← hst1]; exact h.kind
  have f1 : failedOf st1 = none := by rw [← hst1]; exact h.failed
  have ar1 : arrOf st1 = arrOf st := by rw [← hst1]
  have pe1 : pendingOf st1 = ((pendingOf st).setIfInBounds i (sa, na + nb, pw)).eraseIdxIfInBounds (i + 1) := by rw [← hst1]
  have A1 : Arr kind a0 st1 := ⟨k1, f1, by rw [ar1]; exact h.perm⟩
  obtain ⟨y, e3, my, ry⟩ := h.get (rk := rk) (i := sb) (by omega)
  have dn : ∀ p p', p < a0.length → p' < a0.length → p ≠ p' → rA rk (arrOf st) p ≠ rA rk (arrOf st) p' := fun p p' a b c => h.ne C.inj a b c
  refine wpS_bind (wpS_elem e3 ?_)
  refine wpS_bind (wpS_galA C h k1 my (by omega) (by rw [← hs]; exact u1) (by omega) (fun p b1 b2 => by rw [← ry]; exact dn p sb (by omega) (by omega) (by omega)) fun k hk1 hk2 hk3 => ?_)
  dsimp only
  rw [← ry] at hk2 hk3
  -- all of the first run is ahead of the second: nothing to do
  have whole : (∀ p p', sa ≤ p → p < sb → sb ≤ p' → p' < sb + nb → rA rk (arrOf st) p < rA rk (arrOf st) p') → UpTo rk (arrOf st) sa (sb + nb) := fun z p p' b1 b2 b3 => by
    by_cases c1 : p' < sb
    · exact u1 p p' b1 b2 c1
    · by_cases c2 : p < sb
      · exact z p p' b1 c2 (by omega) b3
      · exact u2 p p' (by omega) b2 b3
  have geB : ∀ p', sb ≤ p' → p' < sb + nb → rA rk (arrOf st) sb ≤ rA rk (arrOf st) p' := fun p' b1 b2 => by
    by_cases c : p' = sb
    · subst c; exact Int.le_refl _
    · exact Int.le_of_lt (u2 sb p' (Nat.le_refl _) (by omega) b2)
  have leA : ∀ p, sa ≤ p → p < sb → rA rk (arrOf st) p ≤ rA rk (arrOf st) (sb - 1) := fun p b1 b2 => by
    by_cases c : p = sb - 1
    · subst c; exact Int.le_refl _
    · exact Int.le_of_lt (u1 p (sb - 1) b1 (by omega) (by omega))
  by_cases h0 : (na - k == 0) = true
  · rw [if_pos h0]
    have h0 : na - k = 0 := by simpa using h0
    refine wpS_pure (q st1 A1 pe1 ?_ fun j _ => by rw [ar1])
    rw [ar1]
    refine whole fun p p' b1 b2 b3 b4 => ?_
    have := hk2 p b1 (by omega)
    have := geB p' b3 b4
    omega
  · rw [if_neg h0]
    have h0 : ¬ na - k = 0 := by simpa using h0
    have hix : sa + k + (na - k) - 1 = sb - 1 := by omega
    rw [hix]
    obtain ⟨x, e1, mx, rx⟩ := h.get (rk := rk) (i := sb - 1) (by omega)
    refine wpS_bind (wpS_elem e1 ?_)
    refine wpS_bind (wpS_galA C h k1 mx (by omega) u2 (by omega) (fun p b1 b2 => by rw [← rx]; exact dn p (sb - 1) (by omega) (by omega) (by omega)) fun nb' hk1' hk2' hk3' => ?_)
    dsimp only
    rw [← rx] at hk2' hk3'
    by_cases h9 : (nb' == 0) = true
    · rw [if_pos h9]
      have h9 : nb' = 0 := by simpa using h9
      refine wpS_pure (q st1 A1 pe1 ?_ fun j _ => by rw [ar1])
      rw [ar1]
      refine whole fun p p' b1 b2 b3 b4 => ?_
      have := hk3' p' (by omega) b4
      have := leA p b1 b2
      omega
    · rw [if_neg h9]
      have h9 : ¬ nb' = 0 := by simpa using h9
      have ux : UpTo rk (arrOf st) (sa + k) sb := fun p p' b1 b2 b3 => u1 p p' (by omega) b2 b3
      have uy : UpTo rk (arrOf st) sb (sb + nb') := fun p p' b1 b2 b3 => u2 p p' b1 b2 (by omega)
      have sx : ((arrOf st).extract (sa + k) sb).size = na - k := by rw [Array.size_extract]; omega
      have sy : ((arrOf st).extract sb (sb + nb')).size = nb' := by rw [Array.size_extract]; omega
      have T : Two a0 rk ((arrOf st).extract (sa + k) sb) ((arrOf st).extract sb (sb + nb')) := by
        refine ⟨fun z hz => ?_, fun z hz => ?_, up_ext (by omega) ux, up_ext (by omega) uy, fun z hz t ht => ?_, by omega, by omega⟩
        · obtain ⟨p, b1, b2, e⟩ := mem_ext (by omega) hz
          obtain ⟨z', e', m', _⟩ := h.get (rk := rk) (i := p) (by omega)
          rw [e] at e'; cases e'; exact m'
        · obtain ⟨p, b1, b2, e⟩ := mem_ext (by omega) hz
          obtain ⟨z', e', m', _⟩ := h.get (rk := rk) (i := p) (by omega)
          rw [e] at e'; cases e'; exact m'
        · obtain ⟨p, b1, b2, e⟩ := mem_ext (by omega) hz
          obtain ⟨p', b1', b2', e'⟩ := mem_ext (by omega) ht
          rw [← rA_of (rk := rk) e, ← rA_of (rk := rk) e']
          exact dn p p' (by omega) (by omega) (by omega)
      have exy : ∀ z t, z ∈ ((arrOf st).extract (sa + k) sb).toList → ((arrOf st).extract sb (sb + nb')).toList[0]? = some t → rk t < rk z := fun z t hz ht => by
        obtain ⟨p, b1, b2, e⟩ := mem_ext (by omega) hz
        rw [ext_mid, List.getElem?_drop, Nat.add_zero, List.getElem?_take_of_lt (by omega), Array.getElem?_toList] at ht
        rw [← rA_of (rk := rk) e, ← rA_of (rk := rk) ht]
        exact hk3 p b1 (by omega)
      have last : ∀ z, ((arrOf st).extract (sa + k) sb).toList[((arrOf st).extract (sa + k) sb).size - 1]? = some z → ∀ t ∈ ((arrOf st).extract sb (sb + nb')).toList, rk t < rk z := fun z hz t ht => by
        obtain ⟨p, b1, b2, e⟩ := mem_ext (by omega) ht
        rw [sx, ext_mid, List.getElem?_drop, show sa + k + (na - k - 1) = sb - 1 by omega, List.getElem?_take_of_lt (by omega), Array.getElem?_toList] at hz
        rw [← rA_of (rk := rk) e, ← rA_of (rk := rk) hz]
        exact hk2' p b1 b2
      -- both ways of merging: the same end
      have fin : ∀ (m : Array Keyed) (st2 : SortSt), Sim st1 st2 → Good rk ((arrOf st).extract (sa + k) sb).toList ((arrOf st).extract sb (sb + nb')).toList m.toList →
          Q true (SortSt.mk' (kindOf st2) (m.toList.zipIdx.foldl (fun a x => a.setIfInBounds (sa + k + x.2) x.1) (arrOf st2)) (pendingOf st2) (gallopOf st2) (failedOf st2)) := fun m st2 sm g => by
        have lm : m.toList.length = (na - k) + nb' := by
          have := g.perm.length_eq
          rw [List.length_append, Array.length_toList, Array.length_toList, Array.length_toList, sx, sy] at this
          simpa using this
        have ea : arrOf st2 = arrOf st := sm.arr.trans ar1
        have hfit : sa + k + m.toList.length ≤ (arrOf st).size := by omega
        have gt : ∀ j, (m.toList.zipIdx.foldl (fun a x => a.setIfInBounds (sa + k + x.2) x.1) (arrOf st))[j]? = if sa + k ≤ j ∧ j < sa + k + m.toList.length then m.toList[j - (sa + k)]? else (arrOf st)[j]? := fun j => by
          have := fold_get (sa + k) m.toList 0 (arrOf st) (by omega) j
          simpa using this
        -- a rank of the merged part is one of the two runs'
        have inm : ∀ j, sa + k ≤ j → j < sa + k + m.toList.length → ∃ p, sa + k ≤ p ∧ p < sb + nb' ∧ rA rk (m.toList.zipIdx.foldl (fun a x => a.setIfInBounds (sa + k + x.2) x.1) (arrOf st)) j = rA rk (arrOf st) p := fun j b1 b2 => by
          have e := gt j
          rw [if_pos ⟨b1, b2⟩, List.getElem?_eq_getElem (by omega)] at e
          have mem : m.toList[j - (sa + k)]'(by omega) ∈ ((arrOf st).extract (sa + k) sb).toList ++ ((arrOf st).extract sb (sb + nb')).toList := g.perm.mem_iff.mp (List.getElem_mem _)
          rw [rA_of e]
          rcases List.mem_append.mp mem with z | z
          · obtain ⟨p, c1, c2, ep⟩ := mem_ext (by omega) z
            exact ⟨p, c1, by omega, (rA_of ep).symm⟩
          · obtain ⟨p, c1, c2, ep⟩ := mem_ext (by omega) z
            exact ⟨p, by omega, c2, (rA_of ep).symm⟩
        have lowp : ∀ j p, sa ≤ j → j < sa + k → sa + k ≤ p → p < sb + nb' → rA rk (arrOf st) j < rA rk (arrOf st) p := fun j p b1 b2 b3 b4 => by
          by_cases c : p < sb
          · exact u1 j p b1 (by omega) c
          · have := hk2 j b1 b2
            have := geB p (by omega) (by omega)
            omega
        have highp : ∀ j p, sb + nb' ≤ j → j < sb + nb → sa + k ≤ p → p < sb + nb' → rA rk (arrOf st) p < rA rk (arrOf st) j := fun j p b1 b2 b3 b4 => by
          by_cases c : p < sb
          · have := hk3' j b1 b2
            have := leA p (by omega) c
            omega
          · exact u2 p j (by omega) (by omega) b2
        refine q _ ⟨sm.kind.trans k1, sm.failed.trans f1, ?_⟩ (sm.pend.trans pe1) ?_ ?_
        · show (m.toList.zipIdx.foldl (fun a x => a.setIfInBounds (sa + k + x.2) x.1) (arrOf st2)).toList.Perm a0
          rw [ea, fold_list hfit]
          refine List.Perm.trans ?_ h.perm
          have e0 := list_cut (arrOf st).toList (sa + k) m.toList.length
          have e1' : ((arrOf st).toList.drop (sa + k)).take m.toList.length = ((arrOf st).extract (sa + k) sb).toList ++ ((arrOf st).extract sb (sb + nb')).toList := by
            have c1 : na - k + nb' = sb + nb' - (sa + k) := by omega
            rw [lm, ext_mid, ext_mid, c1, ← List.drop_take]
            have := drop_cut (l := (arrOf st).toList.take (sb + nb')) (i := sa + k) (j := sb) (by omega)
            rw [List.take_take, show min sb (sb + nb') = sb by omega] at this
            exact this
          conv => rhs; rw [e0, e1']
          exact (List.Perm.append_left _ g.perm).append_right _
        · show UpTo rk (m.toList.zipIdx.foldl (fun a x => a.setIfInBounds (sa + k + x.2) x.1) (arrOf st2)) sa (sb + nb)
          rw [ea]
          have hm : sa + k + m.toList.length = sb + nb' := by omega
          intro p p' b1 b2 b3
          by_cases c1 : p < sa + k
          · have g1 := gt p
            rw [if_neg (by omega)] at g1
            rw [rA_congr g1]
            by_cases c2 : p' < sa + k
            · have g2 := gt p'
              rw [if_neg (by omega)] at g2
              rw [rA_congr g2]
              exact u1 p p' b1 b2 (by omega)
            · by_cases c3 : p' < sb + nb'
              · obtain ⟨r, d1, d2, er⟩ := inm p' (by omega) (by omega)
                rw [er]
                exact lowp p r b1 c1 d1 d2
              · have g2 := gt p'
                rw [if_neg (by omega)] at g2
                rw [rA_congr g2]
                have := hk2 p b1 c1
                have := geB p' (by omega) b3
                omega
          · by_cases c2 : p' < sb + nb'
            · have g1 := gt p
              have g2 := gt p'
              rw [if_pos (by omega), List.getElem?_eq_getElem (by omega)] at g1 g2
              rw [rA_of g1, rA_of g2]
              exact List.pairwise_iff_getElem.mp g.up _ _ _ _ (by omega)
            · have g2 := gt p'
              rw [if_neg (by omega)] at g2
              rw [rA_congr g2]
              by_cases c3 : p < sb + nb'
              · obtain ⟨r, d1, d2, er⟩ := inm p (by omega) (by omega)
                rw [er]
                exact highp p' r (by omega) b3 d1 d2
              · have g1 := gt p
                rw [if_neg (by omega)] at g1
                rw [rA_congr g1]
                exact u2 p p' (by omega) b2 b3
        · intro j hj
          show (m.toList.zipIdx.foldl (fun a x => a.setIfInBounds (sa + k + x.2) x.1) (arrOf st2))[j]? = (arrOf st)[j]?
          rw [ea, gt j, if_neg (by omega)]
      have f2 : ∀ st2, Sim st1 st2 → failedOf st2 = none := fun st2 sm => sm.failed.trans f1
      split
      · refine wpS_bind (wpS_mergeLo C k1 T (fun z t hz ht => exy z t (List.mem_of_getElem? hz) ht) last fun m st2 sm g => ?_)
        refine wpS_bind (wpS_modify (wpS_bind (wpS_get (wpS_pure ?_))))
        have e : (failedOf st2).isNone = true := by rw [f2 st2 sm]; rfl
        show Q ((failedOf st2).isNone) _
        rw [e]
        exact fin m st2 sm g
      · refine wpS_bind (wpS_mergeHi C k1 T (fun t ht z hz => exy z t hz ht) last fun m st2 sm g => ?_)
        refine wpS_bind (wpS_modify (wpS_bind (wpS_get (wpS_pure ?_))))
        have e : (failedOf st2).isNone = true := by rw [f2 st2 sm]; rfl
        show Q ((failedOf st2).isNone) _
        rw [e]
        exact fin m st2 sm g
end
end GS

set_option autoImplicit false
set_option linter.all false
set_option maxRecDepth 100000
/-! All runs: the whole sort. -/
namespace GS
open PySem PyProof.Rows
noncomputable def sortRuns1 : StateT SortSt Sem Unit := sortPriv% PySem.Builtin.sortRuns
/-- the pending runs lie side by side from lo to hi, each rising -/
noncomputable def Runs (rk : Keyed → Int) (xs : Array Keyed) : List (Nat × Nat × Nat) → Nat → Nat → Prop
  | [], lo, hi => lo = hi
  | (s, n, _) :: r, lo, hi => s = lo ∧ 1 ≤ n ∧ UpTo rk xs lo (lo + n) ∧ Runs rk xs r (lo + n) hi
section
variable {rk : Keyed → Int} {xs ys : Array Keyed}
theorem UpTo.congr {lo hi : Nat} (h : UpTo rk xs lo hi) (e : ∀ k, lo ≤ k → k < hi → ys[k]? = xs[k]?) : UpTo rk ys lo hi := fun i j a b c => by
  rw [rA_congr (e i a (by omega)), rA_congr (e j (by omega) c)]
  exact h i j a b c
theorem Runs.le : ∀ {ps : List (Nat × Nat × Nat)} {lo hi : Nat}, Runs rk xs ps lo hi → lo + ps.length ≤ hi
  | [], lo, hi, h => by have : lo = hi := h; simp; omega
  | (s, n, p) :: r, lo, hi, h => by
    obtain ⟨_, h1, _, h2⟩ := h
    have := Runs.le h2
    simp only [List.length_cons]
    omega
theorem Runs.congr : ∀ {ps : List (Nat × Nat × Nat)} {lo hi : Nat}, Runs rk xs ps lo hi → (∀ k, lo ≤ k → k < hi → ys[k]? = xs[k]?) → Runs rk ys ps lo hi
  | [], lo, hi, h, _ => h
  | (s, n, p) :: r, lo, hi, h, e => by
    obtain ⟨h0, h1, h2, h3⟩ := h
    have := Runs.le h3
    exact ⟨h0, h1, h2.congr fun k a b => e k a (by omega), Runs.congr h3 fun k a b => e k (by omega) b⟩
theorem Runs.snoc : ∀ {ps : List (Nat × Nat × Nat)} {lo mid n p : Nat}, Runs rk xs ps lo mid → 1 ≤ n → UpTo rk xs mid (mid + n) → Runs rk xs (ps ++ [(mid, n, p)]) lo (mid + n)
  | [], lo, mid, n, p, h, h1, h2 => by
    have e : lo = mid := h
    subst e
    exact ⟨rfl, h1, h2, rfl⟩
  | (s, m, q) :: r, lo, mid, n, p, h, h1, h2 => by
    obtain ⟨a, b, c, d⟩ := h
    exact ⟨a, b, c, Runs.snoc d h1 h2⟩
/-- the powers don't matter -/
theorem Runs.power : ∀ {ps qs : List (Nat × Nat × Nat)} {lo hi : Nat}, Runs rk xs ps lo hi → ps.map (fun x => (x.1, x.2.1)) = qs.map (fun x => (x.1, x.2.1)) → Runs rk xs qs lo hi
  | [], [], _, _, h, _ => h
  | [], _ :: _, _, _, _, e => by simp at e
  | _ :: _, [], _, _, _, e => by simp at e
  | (s, n, p) :: r, (s', n', p') :: r', lo, hi, h, e => by
    simp only [List.map_cons, List.cons.injEq, Prod.mk.injEq] at e
    obtain ⟨⟨e1, e2⟩, e3⟩ := e
    subst e1 e2
    obtain ⟨a, b, c, d⟩ := h
    exact ⟨a, b, c, Runs.power d e3⟩
/-- two neighbours of the runs -/
theorem Runs.two : ∀ {ps : List (Nat × Nat × Nat)} {lo hi i sa na pw sb nb pw' : Nat}, Runs rk xs ps lo hi → ps[i]? = some (sa, na, pw) → ps[i + 1]? = some (sb, nb, pw') →
    lo ≤ sa ∧ sb = sa + na ∧ 1 ≤ na ∧ 1 ≤ nb ∧ sb + nb ≤ hi ∧ UpTo rk xs sa sb ∧ UpTo rk xs sb (sb + nb)
  | [], _, _, _, _, _, _, _, _, _, _, e, _ => by simp at e
  | (s, n, p) :: r, lo, hi, 0, sa, na, pw, sb, nb, pw', h, e1, e2 => by
    simp only [List.getElem?_cons_zero, Option.some.injEq, Prod.mk.injEq] at e1
    obtain ⟨rfl, rfl, rfl⟩ := e1
    obtain ⟨rfl, h1, h2, h3⟩ := h
    cases r with
    | nil => simp at e2
    | cons x r' =>
      obtain ⟨s', n', p'⟩ := x
      simp only [Nat.zero_add, List.getElem?_cons_succ, List.getElem?_cons_zero, Option.some.injEq, Prod.mk.injEq] at e2
      obtain ⟨rfl, rfl, rfl⟩ := e2
      obtain ⟨rfl, g1, g2, g3⟩ := h3
      have := Runs.le g3
      exact ⟨Nat.le_refl _, rfl, h1, g1, by omega, h2, g2⟩
  | (s, n, p) :: r, lo, hi, i + 1, sa, na, pw, sb, nb, pw', h, e1, e2 => by
    obtain ⟨_, h1, h2, h3⟩ := h
    have z := Runs.two (i := i) h3 (by simpa using e1) (by simpa using e2)
    exact ⟨by omega, z.2⟩
/-- .. merged -/
theorem Runs.merge : ∀ {ps : List (Nat × Nat × Nat)} {lo hi i sa na pw sb nb pw' : Nat}, Runs rk xs ps lo hi → ps[i]? = some (sa, na, pw) → ps[i + 1]? = some (sb, nb, pw') →
    UpTo rk ys sa (sb + nb) → (∀ k, k < sa ∨ sb + nb ≤ k → ys[k]? = xs[k]?) → Runs rk ys ((ps.set i (sa, na + nb, pw)).eraseIdx (i + 1)) lo hi
  | [], _, _, _, _, _, _, _, _, _, _, e, _, _, _ => by simp at e
  | (s, n, p) :: r, lo, hi, 0, sa, na, pw, sb, nb, pw', h, e1, e2, u, o => by
    simp only [List.getElem?_cons_zero, Option.some.injEq, Prod.mk.injEq] at e1
    obtain ⟨rfl, rfl, rfl⟩ := e1
    obtain ⟨rfl, h1, h2, h3⟩ := h
    cases r with
    | nil => simp at e2
    | cons x r' =>
      obtain ⟨s', n', p'⟩ := x
      simp only [Nat.zero_add, List.getElem?_cons_succ, List.getElem?_cons_zero, Option.some.injEq, Prod.mk.injEq] at e2
      obtain ⟨rfl, rfl, rfl⟩ := e2
      obtain ⟨rfl, g1, g2, g3⟩ := h3
      rw [List.set_cons_zero, Nat.zero_add, List.eraseIdx_cons_succ, List.eraseIdx_cons_zero]
      refine ⟨rfl, by omega, by rw [← Nat.add_assoc]; exact u, ?_⟩
      rw [← Nat.add_assoc]
      exact g3.congr fun k a b => o k (by omega)
  | (s, n, p) :: r, lo, hi, i + 1, sa, na, pw, sb, nb, pw', h, e1, e2, u, o => by
    obtain ⟨h0, h1, h2, h3⟩ := h
    have e1' : r[i]? = some (sa, na, pw) := by simpa using e1
    have e2' : r[i + 1]? = some (sb, nb, pw') := by simpa using e2
    have z := Runs.two h3 e1' e2'
    rw [List.set_cons_succ, List.eraseIdx_cons_succ]
    exact ⟨h0, h1, h2.congr fun k a b => o k (by omega), Runs.merge h3 e1' e2' u o⟩
end
section
variable {prog : Program} {w : World} {A : Around} {E : Value → Shared → Prop} {s : Shared} {kind : SortKind} {a0 : List Keyed} {rk : Keyed → Int}
/-- a merge among the pending runs -/
theorem wpS_mergeRuns (C : Cmp prog w A s kind a0 rk) {st : SortSt} {i hi : Nat} {Q : Bool → SortSt → Prop} (h : Arr kind a0 st) (hr : Runs rk (arrOf st) (pendingOf st).toList 0 hi) (hh : hi ≤ a0.length) (hi2 : i + 1 < (pendingOf st).size)
    (q : ∀ st', Arr kind a0 st' → Runs rk (arrOf st') (pendingOf st').toList 0 hi → (pendingOf st').size + 1 = (pendingOf st).size → (∀ k, hi ≤ k → (arrOf st')[k]? = (arrOf st)[k]?) → Q true st') :
    wpS (model prog w) A E s (mergeAt1 i) Q st := by
  obtain ⟨⟨sa, na, pw⟩, e1⟩ : ∃ x, (pendingOf st)[i]? = some x := ⟨_, by rw [Array.getElem?_eq_getElem (by omega)]⟩
  obtain ⟨⟨sb, nb, pw'⟩, e2⟩ : ∃ x, (pendingOf st)[i + 1]? = some x := ⟨_, by rw [Array.getElem?_eq_getElem hi2]⟩
  have l1 : (pendingOf st).toList[i]? = some (sa, na, pw) := by rw [Array.getElem?_toList]; exact e1
  have l2 : (pendingOf st).toList[i + 1]? = some (sb, nb, pw') := by rw [Array.getElem?_toList]; exact e2
  obtain ⟨z0, z1, z2, z3, z4, z5, z6⟩ := hr.two l1 l2
  refine wpS_mergeAtA C h e1 e2 z1 z2 z3 (by omega) z5 z6 fun st' h' pe u o => ?_
  have pl : (pendingOf st').toList = ((pendingOf st).toList.set i (sa, na + nb, pw)).eraseIdx (i + 1) := by
    rw [pe]
    simp [Array.eraseIdxIfInBounds, hi2]
  refine q st' h' ?_ ?_ fun k hk => o k (by omega)
  · rw [pl]
    exact hr.merge l1 l2 u o
  · have := congrArg List.length pl
    rw [List.length_eraseIdx, List.length_set] at this
    simp only [Array.length_toList] at this
    rw [if_pos (by omega)] at this
    omega
end
end GS

set_option autoImplicit false
set_option linter.all false
set_option maxRecDepth 100000
namespace GS
open PySem PyProof.Rows
section
variable {prog : Program} {w : World} {A : Around} {E : Value → Shared → Prop} {s : Shared} {kind : SortKind} {a0 : List Keyed} {rk : Keyed → Int}
theorem ite_or {c : Prop} [Decidable c] {x y : Nat} : (if c then x else y) = y ∨ (if c then x else y) = x := by
  by_cases h : c
  · rw [if_pos h]; exact .inr rfl
  · rw [if_neg h]; exact .inl rfl
theorem wpS_sortRunsA (C : Cmp prog w A s kind a0 rk) {st : SortSt} {Q : Unit → SortSt → Prop} (h : Arr kind a0 st) (hp : pendingOf st = #[]) (q : ∀ st', Arr kind a0 st' → UpTo rk (arrOf st') 0 a0.length → Q () st') :
    wpS (model prog w) A E s sortRuns1 Q st := by
  have hsz := h.size
  refine wpS_bind (wpS_get ?_)
  dsimp only
  refine wpS_bind (wpS_mono (wpS_forRange
    (I := fun i c st' => ∃ lo, c = (none, lo) ∧ lo ≤ a0.length ∧ Arr kind a0 st' ∧ Runs rk (arrOf st') (pendingOf st').toList 0 lo ∧ (i ≤ lo ∨ lo = a0.length))
    (Q := fun c st' => ∃ lo, c = (none, lo) ∧ lo = a0.length ∧ Arr kind a0 st' ∧ Runs rk (arrOf st') (pendingOf st').toList 0 lo) ?step ?fin ⟨0, rfl, by omega, h, by rw [hp]; rfl, .inl (by omega)⟩) ?post)
  case fin =>
    rintro c st' ⟨lo, rfl, h1, h2, h3, h4⟩
    have h4 : max 0 (arrOf st).size ≤ lo ∨ lo = a0.length := h4
    exact ⟨lo, rfl, by omega, h2, h3⟩
  case step =>
    rintro i c st1 _ hi ⟨lo, rfl, h1, h2, h3, h4⟩
    dsimp only
    by_cases hge : lo ≥ (arrOf st).size
    · rw [if_pos hge]
      exact wpS_pure ⟨lo, rfl, by omega, h2, h3⟩
    · rw [if_neg hge]
      refine wpS_bind (wpS_countRunA C h2 (by show lo + ((arrOf st).size - lo) = _; omega) (by show 1 ≤ (arrOf st).size - lo; omega) fun m st2 A2 m1 m2 u2 o2 => ?_)
      have m2 : m ≤ (arrOf st).size - lo := m2
      dsimp only
      have R2 : Runs rk (arrOf st2) (pendingOf st2).toList 0 lo := by
        rw [o2.pend]
        exact h3.congr fun k a b => o2.out k (by omega)
      -- behind the run: the same for both ways
      split
      case' isTrue hmin =>
        refine wpS_bind (wpS_lift (wpAny_rule ⟨rfl, ?_⟩))
        refine wpS_bind (wpS_binarySortA C A2 (n := min ((arrOf st).size - lo) _) (by omega) (by omega) u2 fun st3 A3 u3 o3 => ?_)
        simp only [Bool.not_true, Bool.false_eq_true, if_false]
        have R3 : Runs rk (arrOf st3) (pendingOf st3).toList 0 lo := by
          rw [o3.pend]
          exact R2.congr fun k a b => o3.out k (by omega)
        have hn : ∃ n, n = min ((arrOf st).size - lo) (PyProof.Rows.minRun' (arrOf st).size (arrOf st).size 0) ∧ 1 ≤ n ∧ lo + n ≤ a0.length ∧ UpTo rk (arrOf st3) lo (lo + n) :=
          ⟨_, rfl, by have : m < PyProof.Rows.minRun' (arrOf st).size (arrOf st).size 0 := hmin; omega, by omega, u3⟩
        obtain ⟨n, en, n1, n2, un⟩ := hn
      case' isFalse hmin =>
        obtain ⟨st3, est, A3, R3⟩ : ∃ st3, st3 = st2 ∧ Arr kind a0 st3 ∧ Runs rk (arrOf st3) (pendingOf st3).toList 0 lo := ⟨_, rfl, A2, R2⟩
        have u2' : UpTo rk (arrOf st3) lo (lo + m) := by rw [est]; exact u2
        obtain ⟨n, en, n1, n2, un⟩ : ∃ n, n = m ∧ 1 ≤ n ∧ lo + n ≤ a0.length ∧ UpTo rk (arrOf st3) lo (lo + n) := ⟨_, rfl, m1, by omega, u2'⟩
        rw [← est]
      all_goals
        subst en
        have hlo : i ≤ lo := by omega
        refine wpS_bind (wpS_get ?_)
        rcases hb : (pendingOf st3).back? with _ | ⟨s1, k1, p1⟩
        · dsimp only
          refine wpS_bind (wpS_modify (wpS_pure ⟨_, rfl, n2, ⟨A3.kind, A3.failed, A3.perm⟩, ?_, .inl (Nat.add_le_add hlo n1)⟩))
          have z := R3.snoc (p := 0) n1 un
          rw [← Array.toList_push] at z
          exact z
        · dsimp only
          refine wpS_bind (wpS_mono (wpS_forRange
            (I := fun j c st' => c = (none, ()) ∧ Arr kind a0 st' ∧ Runs rk (arrOf st') (pendingOf st').toList 0 lo ∧ ∀ k, lo ≤ k → (arrOf st')[k]? = (arrOf st3)[k]?)
            (Q := fun c st' => c = (none, ()) ∧ Arr kind a0 st' ∧ Runs rk (arrOf st') (pendingOf st').toList 0 lo ∧ ∀ k, lo ≤ k → (arrOf st')[k]? = (arrOf st3)[k]?) ?sA (fun _ _ z => z) ⟨rfl, A3, R3, fun _ _ => rfl⟩) ?pA)
          case pA =>
            rintro c st4 ⟨rfl, B1, B2, B3⟩
            dsimp only
            refine wpS_bind (wpS_modify (wpS_bind (wpS_modify (wpS_pure ⟨_, rfl, n2, ⟨B1.kind, B1.failed, B1.perm⟩, ?_, .inl (Nat.add_le_add hlo n1)⟩))))
            have un4 := UpTo.congr (ys := arrOf st4) un fun k a _ => B3 k a
            have key : ∀ pw, Runs rk (arrOf st4) ((pendingOf st4).modify ((pendingOf st4).size - 1) fun x => (x.1, x.2.1, pw)).toList 0 lo := fun pw => by
              refine B2.power ?_
              rw [Array.toList_modify]
              refine List.ext_getElem? fun t => ?_
              rw [List.getElem?_map, List.getElem?_map, List.getElem?_modify]
              cases (pendingOf st4).toList[t]? with
              | none => rfl
              | some v =>
                simp only [Option.map_some]
                split <;> rfl
            have key2 := fun pw => (key pw).snoc (p := 0) n1 un4
            simp only [← Array.toList_push] at key2
            exact key2 _
          case sA =>
            rintro j c st4 _ hj ⟨rfl, B1, B2, B3⟩
            refine wpS_bind (wpS_get ?_)
            by_cases c1 : (pendingOf st4).size > 1
            · rw [if_pos c1]
              obtain ⟨⟨x1, x2, x3⟩, ex⟩ : ∃ x, (pendingOf st4)[(pendingOf st4).size - 2]? = some x := ⟨_, Array.getElem?_eq_getElem (by omega)⟩
              rw [ex]
              dsimp only
              split
              · exact wpS_pure ⟨rfl, B1, B2, B3⟩
              · refine wpS_bind (wpS_mergeRuns C B1 B2 h1 (by show (pendingOf st4).size - 2 + 1 < _; omega) fun st5 D1 D2 D3 D4 => ?_)
                simp only [Bool.not_true, Bool.false_eq_true, if_false]
                exact wpS_pure ⟨rfl, D1, D2, fun k hk => (D4 k hk).trans (B3 k hk)⟩
            · rw [if_neg c1]
              exact wpS_pure ⟨rfl, B1, B2, B3⟩
  case post =>
    rintro c st1 ⟨lo, rfl, rfl, A1, R1⟩
    dsimp only
    refine wpS_bind (wpS_mono (wpS_forRange
      (I := fun i c st' => c = (none, ()) ∧ Arr kind a0 st' ∧ Runs rk (arrOf st') (pendingOf st').toList 0 a0.length ∧ ((pendingOf st').size ≤ 1 ∨ (pendingOf st').size + i ≤ a0.length))
      (Q := fun c st' => c = (none, ()) ∧ Arr kind a0 st' ∧ Runs rk (arrOf st') (pendingOf st').toList 0 a0.length ∧ (pendingOf st').size ≤ 1) ?s4 ?f4 ⟨rfl, A1, R1, .inr (by have := R1.le; simpa using this)⟩) ?p4)
    case f4 =>
      rintro c st' ⟨hc, B1, B2, B3⟩
      have B3 : (pendingOf st').size ≤ 1 ∨ (pendingOf st').size + max 0 (arrOf st).size ≤ a0.length := B3
      exact ⟨hc, B1, B2, by omega⟩
    case p4 =>
      rintro c st' ⟨rfl, B1, B2, B3⟩
      refine wpS_pure (q st' B1 ?_)
      cases e : (pendingOf st').toList with
      | nil =>
        rw [e] at B2
        have : 0 = a0.length := B2
        intro a b c d f
        omega
      | cons x r =>
        have : r = [] := by
          have := congrArg List.length e
          simp only [Array.length_toList, List.length_cons] at this
          exact List.eq_nil_of_length_eq_zero (by omega)
        subst this
        obtain ⟨sx, nx, px⟩ := x
        rw [e] at B2
        obtain ⟨_, _, u, z⟩ := B2
        have z : 0 + nx = a0.length := z
        rw [z] at u
        exact u
    case s4 =>
      rintro i c st' _ hi ⟨rfl, B1, B2, B3⟩
      refine wpS_bind (wpS_get ?_)
      by_cases c1 : (pendingOf st').size ≤ 1
      · rw [if_pos c1]
        exact wpS_pure ⟨rfl, B1, B2, c1⟩
      · rw [if_neg c1]
        have hp1 : ∀ (z : Nat), z = (pendingOf st').size - 2 ∨ z = (pendingOf st').size - 2 - 1 → z + 1 < (pendingOf st').size := fun z hz => by omega
        refine wpS_bind (wpS_mergeRuns C B1 B2 (Nat.le_refl _) (hp1 _ ?idx) fun st2 D1 D2 D3 D4 => ?rest)
        case idx => exact ite_or
        case rest =>
          simp only [Bool.not_true, Bool.false_eq_true, if_false]
          exact wpS_pure ⟨rfl, D1, D2, by omega⟩
end
end GS

set_option autoImplicit false
set_option linter.all false
set_option maxRecDepth 100000
/-! sorted(xs) of a list of tuples that begin with two ints, no two alike. -/
namespace GS
open PySem PyProof.Rows PySem.W
section
variable {prog : Program} {w : World} {A : Around} {E : Value → Shared → Prop} {s : Shared}
theorem up_all {rk : Keyed → Int} {xs : Array Keyed} (h : UpTo rk xs 0 xs.size) : xs.toList.Pairwise fun x y => rk x < rk y := by
  refine List.pairwise_iff_getElem.mpr fun i j hi hj hij => ?_
  have hi' : i < xs.size := by simpa using hi
  have hj' : j < xs.size := by simpa using hj
  have z := h i j (Nat.zero_le _) hij hj'
  rw [rA_of (Array.getElem?_eq_getElem hi'), rA_of (Array.getElem?_eq_getElem hj')] at z
  simpa using z
theorem perm_snd {xs vs : List Value} {ps : List Keyed} (h : ps.Perm (vs.zip vs)) : (ps.map (·.2)).Perm vs := by
  have := h.map (·.2)
  rwa [List.map_snd_zip (by simp)] at this
theorem mem_zip_same {vs : List Value} {p : Keyed} (h : p ∈ vs.zip vs) : p.1 = p.2 ∧ p.1 ∈ vs := mem_zip_self h

/-- the heap while it sorts: all that stood there but the list itself -/
noncomputable def Rest (a : Addr) (h h' : Heap) : Prop := ∀ b o, b ≠ a → h.get? b = some o → h'.get? b = some o

theorem sort_tree {a : Addr} {vs : List Value} {n : Nat} {kind : SortKind} {rk : Value → Int} {P : Fin → Shared → Prop} (ho : s.heap.get? a = some (seqObj "list" vs.toArray n)) (hlen : vs.length ≤ sizeLine)
    (hkk : 2 ≤ vs.length → ∀ (s' : Shared) (Q : SortKind → Shared → Prop), Rest a s.heap s'.heap → Q kind s' → wpAny (model prog w) A (keyKind' vs.toArray) Q E s')
    (hlt : ∀ (s' : Shared), Rest a s.heap s'.heap → ∀ x y, x ∈ vs → y ∈ vs → ∀ (E : Value → Shared → Prop) (Q : Bool → Shared → Prop), Q (decide (rk x < rk y)) s' → wpAny (model prog w) A (keyLt' kind x y) Q E s')
    (inj : (vs.map rk).Nodup)
    (h : ∀ out : List Value, out.Perm vs → out.Pairwise (fun x y => rk x < rk y) → P (.done (.ret .none)) { s with heap := sortedHeap s.heap a vs out.toArray }) :
    wpAny (model prog w) A (Builtin.«list.sort» ⟨[.ref a], []⟩) P E s := by
  rw [list_sort_plain]
  have ha : a < s.heap.objs.size := Heap.lt_size ho
  refine wpAny_bind (listItems_at ho rfl (wpAny_bind (listUpdate_at ho rfl ?_)))
  obtain ⟨e1, ho1⟩ : ∃ e1, (s.heap.update a (Obj.mapSeq fun _ => #[])).get? a = some (seqObj "list" #[] e1) := ⟨_, get?_update_seq ho (fun _ => #[])⟩
  refine wpAny_bind (seqEpoch_at ho1 rfl (wpAny_bind (wpAny_newTuple (wpAny_bind (wpAny_newList (wpAny_holding ?_))))))
  -- the state while it sorts
  generalize hs6 : ({ s with heap := ((s.heap.update a (Obj.mapSeq fun _ => #[])).push (seqObj "tuple" vs.toArray 0)).push (seqObj "list" #[] 0) } : Shared) = s6
  have ho6 : s6.heap.get? a = some (seqObj "list" #[] e1) := by
    rw [← hs6]
    show (((s.heap.update a (Obj.mapSeq fun _ => #[])).push (seqObj "tuple" vs.toArray 0)).push (seqObj "list" #[] 0)).get? a = _
    exact Heap.get?_push_of_some _ (Heap.get?_push_of_some _ ho1)
  have rest : Rest a s.heap s6.heap := fun b o hb e => by
    rw [← hs6]
    exact Heap.get?_push_of_some _ (Heap.get?_push_of_some _ ((Heap.get?_update_other s.heap _ (Ne.symm hb)).trans e))
  have fin : ∀ out : List Value, out.Perm vs → out.Pairwise (fun x y => rk x < rk y) → P (.done (.ret .none)) { s6 with heap := s6.heap.update a (Obj.mapSeq fun _ => out.toArray) } := fun out p o => by
    have q := h out p o
    rw [← hs6]
    exact q
  dsimp only
  have hsz : vs.toArray.size = vs.length := by simp
  have ez : vs.toArray.zip vs.toArray = (vs.zip vs).toArray := by simp
  by_cases h2 : vs.toArray.size < 2
  · rw [if_pos h2, if_pos h2]
    refine wpAny_bind (wpAny_pure ?_)
    rw [StateT.run_pure]
    refine wpAny_bind (wpAny_pure ?_)
    dsimp only
    have em : (arrOf (SortSt.mk' general' (vs.toArray.zip vs.toArray) #[] 7 none)).map (·.2) = vs.toArray := by
      show (vs.toArray.zip vs.toArray).map (·.2) = _
      rw [ez, List.map_toArray, List.map_snd_zip (by simp)]
    rw [em]
    refine wpAny_bind (seqEpoch_at ho6 rfl (wpAny_bind (listUpdate_at ho6 rfl ?_ (hsz2 := by simp; omega))))
    simp only [bne_self_eq_false, Bool.false_eq_true, if_false]
    refine wpAny_pure (fin vs (List.Perm.refl _) ?_)
    match vs, hsz, h2 with
    | [], _, _ => exact List.Pairwise.nil
    | [x], _, _ => exact List.pairwise_singleton _ _
    | _ :: _ :: _, _, h2 => simp at h2; omega
  · rw [if_neg h2, if_neg h2]
    have C : Cmp prog w A s6 kind (vs.zip vs) (fun p => rk p.1) := ⟨fun x y hx hy E' Q q => hlt s6 rest x.1 y.1 (mem_zip_same hx).2 (mem_zip_same hy).2 E' Q q, by
      have e : (vs.zip vs).map (fun p => rk p.1) = vs.map rk := by
        have : (vs.zip vs).map (fun p => rk p.1) = ((vs.zip vs).map (·.1)).map rk := by rw [List.map_map]; rfl
        rw [this, List.map_fst_zip (by simp)]
      rw [e]
      exact inj⟩
    refine wpAny_bind (hkk (by omega) s6 _ rest ?_)
    have ar : Arr kind (vs.zip vs) (SortSt.mk' kind (vs.toArray.zip vs.toArray) #[] 7 none) := ⟨rfl, rfl, by
      show (vs.toArray.zip vs.toArray).toList.Perm _
      rw [ez]⟩
    refine wpAny_bind (wpAny_mono (wpS_sortRunsA (E := E) C ar rfl (Q := fun _ st' => Arr kind (vs.zip vs) st' ∧ UpTo (fun p => rk p.1) (arrOf st') 0 (vs.zip vs).length) fun st' B u => ⟨B, u⟩) ?_ fun _ _ e => e)
    rintro ⟨⟨⟩, st'⟩ s' ⟨rfl, B, u⟩
    dsimp only
    have bs := B.size
    have pm : ((arrOf st').toList.map (·.2)).Perm vs := perm_snd (xs := vs) B.perm
    have em : (arrOf st').map (·.2) = ((arrOf st').toList.map (·.2)).toArray := by
      apply Array.toList_inj.mp
      rw [Array.toList_map]
    have up : ((arrOf st').toList.map (·.2)).Pairwise fun x y => rk x < rk y := by
      rw [← bs] at u
      refine List.Pairwise.map _ (fun x y z => z) ((up_all u).imp_of_mem fun {x y} hx hy z => ?_)
      have e1 := (mem_zip_same (B.perm.mem_iff.mp hx)).1
      have e2 := (mem_zip_same (B.perm.mem_iff.mp hy)).1
      rw [← e1, ← e2]
      exact z
    rw [em]
    refine wpAny_bind (seqEpoch_at ho6 rfl (wpAny_bind (listUpdate_at ho6 rfl ?_ (hsz2 := by
      have := pm.length_eq
      rw [List.size_toArray, this]; omega))))
    rw [B.failed]
    simp only [bne_self_eq_false, Bool.false_eq_true, if_false]
    exact wpAny_pure (fin _ pm up)

/-- sorted(l) -/
theorem sorted_any {l : Addr} {vs : List Value} {kind : SortKind} {rk : Value → Int} {Q : Value → Shared → Prop} (hl : s.heap.IsList l vs.toArray) (hlen : vs.length ≤ sizeLine)
    (hkk : 2 ≤ vs.length → ∀ (A : Around) (s' : Shared) (Q : SortKind → Shared → Prop), (∀ b o, s.heap.get? b = some o → s'.heap.get? b = some o) → Q kind s' → wpAny (model prog w) A (keyKind' vs.toArray) Q (fun _ _ => False) s')
    (hlt : ∀ (A : Around) (s' : Shared), (∀ b o, s.heap.get? b = some o → s'.heap.get? b = some o) → ∀ x y, x ∈ vs → y ∈ vs → ∀ (E : Value → Shared → Prop) (Q : Bool → Shared → Prop), Q (decide (rk x < rk y)) s' → wpAny (model prog w) A (keyLt' kind x y) Q E s')
    (inj : (vs.map rk).Nodup)
    (h : ∀ out : List Value, out.Perm vs → out.Pairwise (fun x y => rk x < rk y) → Q (.ref (s.heap.objs.size + 1)) { s with heap := sortedAll s.heap vs out.toArray }) :
    wpAny (model prog w) A (call (.builtin "sorted") [.ref l]) Q E s := by
  refine Calls.call_function_entry kind_sorted plain_sorted entry_sorted (args_sorted1 _) ?_
  unfold Builtin.«sorted»
  refine wpAny_bind (m := checkCount "sorted" 1 1 _) (wpAny_pure (wpAny_bind (collect_list hl (wpAny_bind (wpAny_newList ?_)) hlen)))
  have hsz : ((s.heap.push (seqObj "list" #[] 0)).update s.heap.objs.size (Obj.mapSeq (· ++ vs.toArray))).objs.size = s.heap.objs.size + 1 := by
    rw [Heap.size_update, size_push']
  generalize hh8 : (((s.heap.push (seqObj "list" #[] 0)).update s.heap.objs.size (Obj.mapSeq (· ++ vs.toArray))).push (seqObj "list" vs.toArray 0)) = h8
  have hoL : h8.get? (s.heap.objs.size + 1) = some (seqObj "list" vs.toArray 0) := by
    rw [← hh8, ← hsz]; exact Heap.get?_push_size _ rfl
  have old : ∀ b o, s.heap.get? b = some o → h8.get? b = some o := fun b o e => by
    rw [← hh8]
    refine Heap.get?_push_of_some _ ((Heap.get?_update_other _ _ ?_).trans (Heap.get?_push_of_some _ e))
    exact (Nat.ne_of_lt (Heap.lt_size e)).symm
  dsimp only
  rw [hsz]
  have lift : ∀ s' : Shared, Rest (s.heap.objs.size + 1) h8 s'.heap → ∀ b o, s.heap.get? b = some o → s'.heap.get? b = some o := fun s' r b o e =>
    r b o (Nat.ne_of_lt (Nat.lt_succ_of_lt (Heap.lt_size e))) (old b o e)
  refine wpAny_bind (wpAny_holding (wpAny_call_entry slot_list_sort ⟨_, hoL, rfl⟩ entry_list_sort (sort_tree (s := { s with heap := h8 }) (kind := kind) (rk := rk) hoL hlen
    (fun h2 s' Q' r q => wpAny_mono (hkk h2 _ s' Q' (lift s' r) q) (fun _ _ z => z) fun _ _ z => z.elim) (fun s' r => hlt _ s' (lift s' r)) inj fun out p o => ⟨_, rfl, ?_⟩) (args_list_sort _)))
  have q := h out p o
  unfold sortedAll at q
  rw [hh8] at q
  exact wpAny_pure ⟨_, rfl, q⟩

/-! ### tuples that begin with two ints -/
/-- at x stands a tuple (t, l, ..) -/
noncomputable def TwoAt (h : Heap) (x : Value) (t l : Int) : Prop := ∃ a o xs n t1 t2 rest, x = .ref a ∧ h.get? a = some o ∧ o.cls = .type "tuple" ∧ o.data = .seq xs n ∧ xs.toList = .int t t1 :: .int l t2 :: rest
theorem TwoAt.keep {h h' : Heap} {x : Value} {t l : Int} (q : TwoAt h x t l) (k : ∀ b o, h.get? b = some o → h'.get? b = some o) : TwoAt h' x t l := by
  obtain ⟨a, o, xs, n, t1, t2, rest, e, g, r⟩ := q
  exact ⟨a, o, xs, n, t1, t2, rest, e, k _ _ g, r⟩
theorem kat_same {b fin : Bool} {Q : Bool → Shared → Prop} (h : Q fin s) : ∀ (l : List Value) (i : Nat), KatLex prog w A b fin Q (l.zip l) i s
  | [], i => by simpa using kat_nil h
  | x :: l, i => by
    rw [List.zip_cons_cons]
    exact kat_cons (SeqAt.EqAt.same x prog w _ _ (kat_yes (kat_same h l (i + 1))))
theorem lt_two {x y : Value} {t l t' l' : Int} {Q : Bool → Shared → Prop} (hx : TwoAt s.heap x t l) (hy : TwoAt s.heap y t' l') (same : t = t' → l = l' → x = y)
    (h : Q (decide (t < t' ∨ (t = t' ∧ l < l'))) s) : wpAny (model prog w) A (keyLt' (tuples' true) x y) Q E s := by
  by_cases hxy : x = y
  · subst hxy
    obtain ⟨a, o, xs, n, t1, t2, rest, rfl, g, c, d, e⟩ := hx
    obtain ⟨a', o', xs', n', t1', t2', rest', ea, g', c', d', e'⟩ := hy
    cases ea
    rw [g] at g'; cases g'
    rw [d] at d'; cases d'
    rw [e] at e'
    simp only [List.cons.injEq, Value.int.injEq] at e'
    obtain ⟨⟨rfl, _⟩, ⟨rfl, _⟩, _⟩ := e'
    refine kat_lt g d g d ?_
    have hf : decide (xs.size < xs.size) = decide (t < t ∨ (t = t ∧ l < l)) := by simp
    rw [hf]
    exact kat_same h xs.toList 0
  · obtain ⟨a, o, xs, n, t1, t2, rest, rfl, g, c, d, e⟩ := hx
    obtain ⟨a', o', xs', n', t1', t2', rest', rfl, g', c', d', e'⟩ := hy
    refine kat_lt g d g' d' ?_
    rw [e, e', List.zip_cons_cons, List.zip_cons_cons]
    refine kat_cons (SeqAt.EqAt.int_int t t1 t' t1' prog w _ _ ?_)
    by_cases ht : t = t'
    · have ht' : (t == t') = true := by simpa using ht
      rw [ht']
      refine kat_yes (kat_cons (SeqAt.EqAt.int_int l t2 l' t2' prog w _ _ ?_))
      have hl : l ≠ l' := fun z => hxy (same ht z)
      have hl' : (l == l') = false := by simpa using hl
      rw [hl']
      refine kat_no ?_
      show wpAny (model prog w) A (oneLt' false _ _) _ _ s
      refine kat_one _ _ (lt_int ?_)
      show Q (decide (l < l')) s
      have : decide (l < l') = decide (t < t' ∨ (t = t' ∧ l < l')) := by
        by_cases z : l < l'
        · rw [decide_eq_true z, decide_eq_true (.inr ⟨ht, z⟩)]
        · rw [decide_eq_false z, decide_eq_false (by rintro (q | q); · omega
                                                     · exact z q.2)]
      rw [this]
      exact h
    · have ht' : (t == t') = false := by simpa using ht
      rw [ht']
      refine kat_no ?_
      show wpAny (model prog w) A (oneLt' true _ _) _ _ s
      refine oneLt_int ?_
      have : decide (t < t') = decide (t < t' ∨ (t = t' ∧ l < l')) := by
        by_cases z : t < t'
        · rw [decide_eq_true z, decide_eq_true (.inl z)]
        · rw [decide_eq_false z, decide_eq_false (by rintro (q | q); · exact z q
                                                     · exact ht q.1)]
      rw [this]
      exact h
theorem kind_two {vs : List Value} {Q : SortKind → Shared → Prop} (h : ∀ v ∈ vs, ∃ t l, TwoAt s.heap v t l) (hne : 0 < vs.length) (q : Q (tuples' true) s) : wpAny (model prog w) A (keyKind' vs.toArray) Q E s := by
  have mk : ∀ vs : List Value, (∀ v ∈ vs, ∃ t l, TwoAt s.heap v t l) → ∃ fs : List Value, KatTups s.heap vs fs ∧ fs.length = vs.length ∧ ∀ f ∈ fs, ∃ t t1, f = .int t t1 := by
    intro vs
    induction vs with
    | nil => exact fun _ => ⟨[], KatTups.nil, rfl, fun f hf => by simp at hf⟩
    | cons v vs ih =>
      intro h
      obtain ⟨fs, k1, k2, k3⟩ := ih fun x hx => h x (List.mem_cons_of_mem _ hx)
      obtain ⟨t, l, a, o, xs, n, t1, t2, rest, rfl, g, c, d, e⟩ := h v List.mem_cons_self
      refine ⟨.int t t1 :: fs, KatTups.cons g c d (by rw [← Array.getElem?_toList, e]; rfl) k1, by simp [k2], fun f hf => ?_⟩
      rcases List.mem_cons.mp hf with rfl | hf
      · exact ⟨_, _, rfl⟩
      · exact k3 f hf
  obtain ⟨fs, k1, k2, k3⟩ := mk vs h
  refine kat_kind (T := .type "int") k1 (by omega) (fun v hv => ?_) (by simp) q
  obtain ⟨t, t1, rfl⟩ := k3 v hv
  exact Looks.of_pure rfl
end
end GS

set_option Elab.async false
set_option linter.all false
set_option maxRecDepth 100000
/-! More rules over the hand layer: sorted of tuples, join of texts, enumerate. -/
namespace L2
open PySem PySem.Spec PyProof.Rows

/-! ### sorted(xs): tuples that begin with two ints, no two alike -/
noncomputable def lex2 (p q : Int × Int) : Prop := p.1 < q.1 ∨ (p.1 = q.1 ∧ p.2 < q.2)
noncomputable def rSorted (K : PySem.W.Frag) : List V → Hp → VK → Prop := fun xs H Q => ∃ (p : Addr) (vs : List V) (f : V → Int × Int), xs = [.ref p] ∧ SqL K H p vs ∧
  (∀ v ∈ vs, ∃ a rest, v = .ref a ∧ SqT K H a (.int (f v).1 :: .int (f v).2 :: rest)) ∧ (vs.map f).Nodup ∧ (∀ v ∈ vs, 0 ≤ (f v).2 ∧ (f v).2 < 1000) ∧
  ∀ q vs', H q = none → vs'.Perm vs → vs'.Pairwise (fun u v => lex2 (f u) (f v)) → Q (.ref q) (upd H q (.lst vs'))
noncomputable def refV : Value → V
  | .ref a => .ref a
  | _ => .non
theorem refs_of : ∀ {vs : List V} {us : List Value}, Vals vs us → (∀ v ∈ vs, ∃ a, v = V.ref a) → us.map refV = vs ∧ ∀ u ∈ us, ∃ a, u = Value.ref a
  | _, _, .nil, _ => ⟨rfl, fun u hu => by simp at hu⟩
  | v :: vs, u :: us, .cons r t, h => by
    obtain ⟨a, rfl⟩ := h v List.mem_cons_self
    cases r
    obtain ⟨h1, h2⟩ := refs_of t fun x hx => h x (List.mem_cons_of_mem _ hx)
    refine ⟨by rw [List.map_cons, h1]; rfl, fun x hx => ?_⟩
    rcases List.mem_cons.mp hx with rfl | hx
    · exact ⟨a, rfl⟩
    · exact h2 x hx
theorem vals_refs : ∀ {us : List Value}, (∀ u ∈ us, ∃ a, u = Value.ref a) → Vals (us.map refV) us
  | [], _ => .nil
  | u :: us, h => by
    obtain ⟨a, rfl⟩ := h u List.mem_cons_self
    exact .cons rfl (vals_refs fun x hx => h x (List.mem_cons_of_mem _ hx))
theorem call_sortedT {X : Cx} {K : PySem.W.Frag} (hK : X.K = K) : CallR X (.builtin "sorted") (rSorted K) := by
  subst hK
  intro pins s σ H xs us Q I r h
  obtain ⟨p, vs, f, rfl, hp, hv, nd, bd, q⟩ := h
  obtain ⟨u, rfl, ru⟩ := vals1 r
  cases ru
  obtain ⟨its, rv, pl, hz⟩ := I.list hp
  obtain ⟨em, isr⟩ := refs_of rv fun v hv' => by obtain ⟨a, _, e, _⟩ := hv v hv'; exact ⟨a, e⟩
  have hlen := rv.length
  -- each item: a tuple with its two ints
  have two : ∀ x ∈ its, GS.TwoAt s.heap x (f (refV x)).1 (f (refV x)).2 ∧ refV x ∈ vs := fun x hx => by
    have mem : refV x ∈ vs := by rw [← em]; exact List.mem_map.mpr ⟨x, hx, rfl⟩
    obtain ⟨a, rest, e, ht⟩ := hv _ mem
    obtain ⟨b, rfl⟩ := isr x hx
    have e : b = a := by have : V.ref b = V.ref a := e; injection this
    subst e
    obtain ⟨tt, r2, ⟨o, ho, hc, n, hd⟩, _⟩ := I.tuple ht
    cases r2 with
    | cons r2 t2 =>
      cases t2 with
      | cons r3 t3 =>
        obtain ⟨t1, rfl⟩ := r2
        obtain ⟨t2, rfl⟩ := r3
        exact ⟨⟨b, o, _, n, t1, t2, _, rfl, ho, hc, hd, rfl⟩, mem⟩
  let rk : Value → Int := fun x => (f (refV x)).1 * 1000 + (f (refV x)).2
  have nd2 : vs.Nodup := by
    exact List.Pairwise.of_map (S := (· ≠ ·)) (R := (· ≠ ·)) f (fun a b h e => h (congrArg f e)) nd
  have finj : ∀ u ∈ vs, ∀ v ∈ vs, f u = f v → u = v := fun u hu v hv' e => by
    obtain ⟨i, hi, ei⟩ := List.mem_iff_getElem.mp hu
    obtain ⟨j, hj, ej⟩ := List.mem_iff_getElem.mp hv'
    have : i = j := (List.getElem_inj (h₀ := by simpa using hi) (h₁ := by simpa using hj) nd).mp (by simp [ei, ej, e])
    subst this
    rw [← ei, ← ej]
  have refinj : ∀ x ∈ its, ∀ y ∈ its, refV x = refV y → x = y := fun x hx y hy e => by
    obtain ⟨a, rfl⟩ := isr x hx
    obtain ⟨b, rfl⟩ := isr y hy
    have : V.ref a = V.ref b := e
    injection this with this
    rw [this]
  have dec : ∀ x ∈ its, ∀ y ∈ its, decide (rk x < rk y) = decide ((f (refV x)).1 < (f (refV y)).1 ∨ ((f (refV x)).1 = (f (refV y)).1 ∧ (f (refV x)).2 < (f (refV y)).2)) := fun x hx y hy => by
    have b1 := bd _ (two x hx).2
    have b2 := bd _ (two y hy).2
    have : (rk x < rk y) ↔ ((f (refV x)).1 < (f (refV y)).1 ∨ ((f (refV x)).1 = (f (refV y)).1 ∧ (f (refV x)).2 < (f (refV y)).2)) := by
      show (f (refV x)).1 * 1000 + (f (refV x)).2 < (f (refV y)).1 * 1000 + (f (refV y)).2 ↔ _
      omega
    exact decide_eq_decide.mpr this
  have ndr : (its.map rk).Nodup := by
    have e : (its.map rk) = vs.map fun v => (f v).1 * 1000 + (f v).2 := by rw [← em, List.map_map]; rfl
    rw [e]
    refine List.Pairwise.map _ (R := fun u v => u ∈ vs ∧ v ∈ vs ∧ u ≠ v) (fun u v z e => ?_) (nd2.imp_of_mem fun {u v} hu hv' z => ⟨hu, hv', z⟩)
    have b1 := bd u z.1
    have b2 := bd v z.2.1
    have e1 : (f u).1 = (f v).1 := by omega
    have e2 : (f u).2 = (f v).2 := by omega
    exact z.2.2 (finj u z.1 v z.2.1 (Prod.ext e1 e2))
  refine GS.sorted_any (kind := tuples' true) (rk := rk) pl.isList (by omega) (fun h2 A s' Q' k q' => ?_) (fun A s' k x y hx hy E' Q' q' => ?_) ndr fun out hp' ho => ?_
  · exact GS.kind_two (fun v hv' => ⟨_, _, (two v hv').1.keep k⟩) (by omega) q'
  · rw [dec x hx y hy] at q'
    exact GS.lt_two ((two x hx).1.keep k) ((two y hy).1.keep k) (fun e1 e2 => refinj x hx y hy (finj _ (two x hx).2 _ (two y hy).2 (Prod.ext e1 e2))) q'
  · have iso : ∀ u ∈ out, ∃ a, u = Value.ref a := fun u hu => isr u (hp'.mem_iff.mp hu)
    obtain ⟨e, he⟩ := sortedAll_at s.heap its out.toArray
    have pv : (out.map refV).Perm vs := by rw [← em]; exact hp'.map refV
    refine ⟨.ref (s.heap.objs.size + 1), _, I.laid (a := s.heap.objs.size + 1) (o := .lst (out.map refV)) (t' := s.toks) (fun b u e => sortedAll_old e) (Nat.le_succ _) ⟨?_, out, e, vals_refs iso, he⟩, rfl,
      q _ _ (I.hok.fresh (Nat.le_succ _)) pv ?_⟩
    · have := pv.length_eq
      rw [this]; exact hz
    · refine List.Pairwise.map _ (R := fun x y => x ∈ out ∧ y ∈ out ∧ rk x < rk y) (fun x y z => ?_) (ho.imp_of_mem fun {x y} hx hy z => ⟨hx, hy, z⟩)
      have d := dec x (hp'.mem_iff.mp z.1) y (hp'.mem_iff.mp z.2.1)
      rw [decide_eq_true z.2.2] at d
      have z' := of_decide_eq_true d.symm
      exact z'

/-! ### sep.join(xs): a list of texts -/
noncomputable def strJ (sep : Str) (ys : List Str) : Str := PySem.Txt.join sep ys
noncomputable def rJoin (K : PySem.W.Frag) : V → List V → Hp → VK → Prop := fun x vs H Q => ∃ (sep : Str) (p : Addr) (ys : List Str), x = .str sep ∧ vs = [.ref p] ∧ SqL K H p (ys.map V.str) ∧ (ys.map (·.length)).sum + ys.length * sep.length ≤ 16777216 ∧ Q (.str (strJ sep ys)) H
theorem strsAre_of : ∀ {ys : List Str} {us : List Value}, Vals (ys.map V.str) us → StrsAre us ys
  | [], _, .nil => .nil
  | y :: ys, u :: us, .cons r t => by
    obtain ⟨t', rfl⟩ := r
    exact .cons y t' (strsAre_of t)
theorem mt_join {X : Cx} {K : PySem.W.Frag} (hK : X.K = K) : MtM X "str.join" (rJoin K) := by
  subst hK
  intro pins s σ H x vs v us Q I rx rv h
  obtain ⟨sep, p, ys, rfl, rfl, hp, hok, q⟩ := h
  obtain ⟨t, rfl⟩ := rx
  obtain ⟨u, rfl, ru⟩ := rv.one
  cases ru
  obtain ⟨its, r, pl, hz⟩ := I.list hp
  exact join_list (ys := ys) pl.isList (by simpa using strsAre_of r) hok fun t' k => ⟨.str (strJ sep ys), H, I.tok k, ⟨t', rfl⟩, q⟩

/-! ### enumerate(xs): pairs (i, x), for a target that takes them apart -/
noncomputable def Ite (K : PySem.W.Frag) (a : Addr) : It :=
  ⟨fun i H => ∃ xs x, SqL K H a xs ∧ xs[i]? = some x, fun i H x H' => ∃ t y, H t = none ∧ x = .ref t ∧ H' = upd H t (.tup [.int (i : Int), y]) ∧ ∀ xs, SqL K H a xs → xs[i]? = some y, fun i H => ∃ xs, SqL K H a xs ∧ xs.length ≤ i⟩
theorem turn_enum {P : Program} {w : World} {K : PySem.W.Frag} {es : List Expr} {k : Nat} {pos : Pos} (a e it : Addr) (hne : e ≠ it) :
    Turn P w K (.Tuple es k pos) (Ite K a) [e, it] e (fun i h => (∃ old, IsEnum h e it (i : Nat) old) ∧ h.IsListIter it a i) where
  mem := by simp
  obj := fun i h st b hb => by
    obtain ⟨⟨old, he⟩, ⟨o, ho, c, d⟩⟩ := st
    rcases List.mem_cons.mp hb with rfl | hb
    · exact ⟨_, he, fun v z => by cases (show Data.fields _ = Data.cell v from z)⟩
    · have e : b = it := by simpa using hb
      subst e
      exact ⟨o, ho, fun v z => by rw [d] at z; cases z⟩
  keep := fun i h h' st k => by
    obtain ⟨⟨old, he⟩, hit⟩ := st
    exact ⟨⟨old, k e (by simp) _ he⟩, hit.at fun o q => k it (by simp) o q⟩
  item := by
    intro X hP hw hK hc i pins s σ H E I hf st hg
    subst hP hw hK
    obtain ⟨xs, x, hq, hx⟩ := hg
    obtain ⟨its, rv, p, hz⟩ := I.list hq
    obtain ⟨u, hu, ru⟩ := rv.get hx
    obtain ⟨⟨old, he⟩, hit⟩ := st
    obtain ⟨f0, f1, f2, f3, f4, f5⟩ := hf e (by simp)
    obtain ⟨g0, g1, g2, g3, g4, g5⟩ := hf it (by simp)
    have helt : e < s.heap.objs.size := Heap.lt_size he
    have hilt : it < s.heap.objs.size := by obtain ⟨_, q, _⟩ := hit; exact Heap.lt_size q
    refine wpAny_pyNext_enum_item he hit p.isList (x := u) (by simpa using hu) hne fun h1 ho1 hit1 ht1 hsz1 hk1 => ?_
    refine ⟨_, rfl, wpAny_letOwnedTupleGo_enum ho1 fun h2 he2 sb2 => ?_⟩
    have k2 : ∀ b o, b ≠ e → b ≠ it → s.heap.get? b = some o → h2.get? b = some o := fun b o hb hb' q => (sb2.2 b hb).trans (hk1 b o hb hb' q)
    have fr : H s.heap.objs.size = none := I.hok.fresh (Nat.le_refl _)
    have tr : ∀ b o, H b = some o → b ≠ e ∧ b ≠ it ∧ b ≠ s.heap.objs.size := fun b o q => ⟨fun z => (by rw [z, f0] at q; cases q), fun z => (by rw [z, g0] at q; cases q), fun z => (by rw [z, fr] at q; cases q)⟩
    have nch : ∀ b, b ∉ [e, it] → b ≠ e ∧ b ≠ it := fun b hb => ⟨fun z => hb (by simp [z]), fun z => hb (by simp [z])⟩
    have tup2 : IsTup h2 s.heap.objs.size [.int i s.toks, u].toArray := ⟨_, (sb2.2 _ (Nat.ne_of_gt helt)).trans ht1, rfl, _, rfl⟩
    have I2 : Inv X pins σ (upd H s.heap.objs.size (.tup [.int (i : Int), x])) { s with heap := h2, toks := s.toks + 1 } := by
      refine I.step (g' := s.gens) (d' := s.drawn) (ch := [e, it]) (fun b hb => ?_) (fun b o _ _ hb q _ => k2 b o (nch b hb).1 (nch b hb).2 q) (fun b o _ _ hb q _ => ⟨o.slots, k2 b o (nch b hb).1 (nch b hb).2 q⟩)
        (fun b o hb q n => ?_) (fun b o hb q => ⟨o, k2 b o (nch b hb).1 (nch b hb).2 q⟩) (fun b ys q => ?_) (fun b o u q => ?_) (fun b ps q => ⟨#[], ?_⟩) (fun m hm => ?_) (fun b o q => ?_) I.bare
      · rcases List.mem_cons.mp hb with rfl | hb
        · exact ⟨f3, f1, f4, f5⟩
        · have e : b = it := by simpa using hb
          subst e
          exact ⟨g3, g1, g4, g5⟩
      · rw [upd_ne (Nat.ne_of_lt (Heap.lt_size q))]; exact n
      · rw [upd_ne (tr b _ q).2.2]; exact q
      · rw [upd_ne (tr b _ q).2.2]; exact q
      · rw [upd_ne (tr b _ q).2.2, q]; simp
      · obtain ⟨o, es', ep, ho, r⟩ := hm
        exact ⟨o, es', ep, k2 _ o (Ne.symm f1) (Ne.symm g1) ho, r⟩
      · by_cases hb : b = s.heap.objs.size
        · subst hb
          rw [upd_same] at q
          cases q
          exact ⟨by show 2 ≤ sizeLine; decide, [.int i s.toks, u], .cons ⟨_, rfl⟩ (.cons ru .nil), tup2⟩
        · rw [upd_ne hb] at q
          refine (I.hok b o q).stay (fun c v hc' z => ?_) (fun c z => ?_) fun c ys z => ?_
          · have : c ≠ e ∧ c ≠ it := by
              rcases hc' with rfl | hc'
              · exact ⟨(tr _ _ q).1, (tr _ _ q).2.1⟩
              · exact ⟨(tr _ _ hc').1, (tr _ _ hc').2.1⟩
            exact k2 c v this.1 this.2 z
          · rw [upd_ne (tr c _ z).2.2]; exact z
          · rw [upd_ne (tr c _ z).2.2]; exact z
    refine ⟨.ref s.heap.objs.size, _, I2, rfl, ⟨_, x, fr, rfl, rfl, fun ys hy => by rw [I.list_inj hy hq]; exact hx⟩, ⟨⟨_, by simpa using he2⟩, hit1.at fun o q => (sb2.2 it (Ne.symm hne)).trans q⟩, fun b hb => ?_⟩
    rcases List.mem_cons.mp hb with rfl | hb
    · rw [upd_ne (Nat.ne_of_lt helt)]; exact f0
    · have e : b = it := by simpa using hb
      subst e
      rw [upd_ne (Nat.ne_of_lt hilt)]; exact g0
  done := by
    intro X hP hw hK hc i pins s σ H E I hf st hg
    subst hP hw hK
    obtain ⟨xs, hq, hx⟩ := hg
    obtain ⟨its, rv, p, hz⟩ := I.list hq
    obtain ⟨⟨old, he⟩, hit⟩ := st
    obtain ⟨g0, g1, g2, g3, g4, g5⟩ := hf it (by simp)
    have hl := rv.length
    exact wpAny_pyNext_enum_end (I.ok.hd hc) he hit p.isList (by simp; omega) fun h' eb => ⟨rfl, I.turned (t' := s.toks) (fun b o hb q => eb b o hb q) g0 g1 g3 g4 g5⟩
  self := fun _ _ _ _ _ st h => by
    obtain ⟨⟨old, he⟩, _⟩ := st
    exact wpAny_pyIter_enum he h
noncomputable def iEnum (K : PySem.W.Frag) (ta : TA) : TI := fun σ H R => ta σ H fun vs H1 => ∃ a, vs = [.ref a] ∧ (∃ xs, SqL K H1 a xs) ∧ R (Ite K a) H1
theorem pi_enum {X : Cx} {K : PySem.W.Frag} {es : List Expr} {k : Nat} {tpos : Pos} {a : Expr} {ta : TA} {p pos : Pos} (hK : X.K = K) (hg : Gl X "enumerate") (hm : X.mg "enumerate" = none) (ha : PA X [a] ta) (hs : starEach [a] X.env = [(false, eval a X.env)] := by rfl) :
    PI X (.Tuple es k tpos) (.Call (.Name "enumerate" p) [a] [] pos) (iEnum K ta) := by
  subst hK
  intro pins s σ H R I h
  refine Call_ (ld_blt I hg hm boot_enumerate (PyProof.Rows.callWith_type1 (thn (ha pos pins s σ H _ I h) fun us s1 ⟨vs, H1, I1, r1, q1⟩ => ?_) hs rfl))
  obtain ⟨b, e, ⟨xs, hq⟩, q⟩ := q1
  subst e
  cases r1 with
  | cons r rr =>
    cases rr
    cases r
    obtain ⟨its, rv, pl, hz⟩ := I1.list hq
    refine call_enumerate_list pl.isList fun h' he hit hsz hk => ?_
    have I2 : Inv X pins σ H1 { s1 with heap := h' } := I1.kept (t' := s1.toks) hk
    refine wpAny_pyIter_enum he ?_
    refine ⟨s1.heap.objs.size + 1, [s1.heap.objs.size + 1, s1.heap.objs.size], _, _, H1, rfl, I2, turn_enum b _ _ (Nat.succ_ne_self _), ⟨⟨_, he⟩, hit⟩, fun c hc => ?_, q⟩
    have hc' : s1.heap.objs.size ≤ c := by
      rcases List.mem_cons.mp hc with hc | hc
      · rw [hc]; exact Nat.le_succ _
      · have : c = s1.heap.objs.size := by simpa using hc
        rw [this]; exact Nat.le_refl _
    exact I1.fpOk hc' (I1.hok.fresh hc')
/-- over the pairs of a list that the body leaves as it is -/
theorem for_enum {K : PySem.W.Frag} {a : Addr} {xs : List V} {g : TG} {tb : TS} {D : Ends} {σ : St} {H : Hp} (Pv : Nat → St → Hp → Prop) (h0 : Pv 0 σ H) (hl : ∀ i σ H, i ≤ xs.length → Pv i σ H → SqL K H a xs)
    (hs : ∀ i x σ H t, xs[i]? = some x → Pv i σ H → H t = none → g (.ref t) σ (upd H t (.tup [.int (i : Int), x])) fun σ2 H2 => tb { D with nx := Pv (i + 1), ct := Pv (i + 1), bk := D.nx } σ2 H2) (hd : ∀ σ H, Pv xs.length σ H → D.nx σ H) :
    ∃ W : Nat → Nat → St → Hp → Prop, (∃ m, W 0 m σ H) ∧ ∀ i m σ H, W i m σ H →
      ((Ite K a).stop i H ∧ D.nx σ H) ∨ ((Ite K a).go i H ∧ ∃ N : St → Hp → Prop, (∀ σ' H', N σ' H' → ∃ m', m' < m ∧ W (i + 1) m' σ' H') ∧ ∀ x H', (Ite K a).yld i H x H' → g x σ H' fun σ2 H2 => tb { D with nx := N, ct := N, bk := D.nx } σ2 H2) := by
  refine ⟨fun i m σ H => m = xs.length - i ∧ i ≤ xs.length ∧ Pv i σ H, ⟨xs.length, by simp, Nat.zero_le _, h0⟩, ?_⟩
  rintro i m σ H ⟨rfl, hi, p⟩
  have q := hl i σ H hi p
  by_cases hlt : i < xs.length
  · refine .inr ⟨⟨xs, xs[i], q, by simp [hlt]⟩, Pv (i + 1), fun σ' H' p' => ⟨xs.length - (i + 1), by omega, rfl, hlt, p'⟩, fun x H' y => ?_⟩
    obtain ⟨t, z, ht, e1, e2, y⟩ := y
    subst e1 e2
    exact hs i z σ H t (y xs q) p ht
  · have e : i = xs.length := by omega
    subst e
    exact .inl ⟨⟨xs, q, Nat.le_refl _⟩, hd σ H p⟩
end L2

set_option Elab.async false
set_option linter.all false
set_option maxRecDepth 100000
/-! a tuple times a number -/
namespace L2
open PySem PySem.Spec PyProof.Rows PySem.W
open Sem (wp)
theorem noFill_tuple_mul : fillsNumberSlot (.type "tuple") "mul" = pure false :=
  PySem.fillsNumberSlot_seq (id := "tuple.__mul__") (r := some (.builtin "tuple.__rmul__")) F.slot_tuple_mul.lookup (by decide +kernel) F.slot_tuple_rmul.lookup (by decide +kernel)
theorem repeat_tuple : seqRepeat? (.type "tuple") = pure (some (.builtin "tuple.__mul__")) := by
  unfold seqRepeat?
  rw [PySem.seqSlot_of (T := "tuple") (name := "__mul__") (id := "tuple.__mul__") F.slot_tuple_mul.lookup (by decide +kernel), PySem.seqSlot_of (T := "tuple") (name := "__rmul__") (id := "tuple.__rmul__") F.slot_tuple_rmul.lookup (by decide +kernel)]
  rfl
section
variable {prog : Program} {w : World} {A : Around} {E : Value → Shared → Prop} {hp : Heap} {g : Array GenState} {d : Drawn} {tk : Nat} {os : OsState} {a : Addr} {dd : Option Addr} {sl : Array (Option Value)} {its : Array Value} {n : Nat} {k : Int} {t : Tok}
theorem rmul_no {Q : Value → Shared → Prop} (e : hp.get? a = some { cls := .type "tuple", dict := dd, data := .seq its n, slots := sl }) (h : Q .notImplemented ⟨hp, g, d, tk, os⟩) : wpAny (model prog w) A (call (.builtin "int.__rmul__") [.int k t, .ref a]) Q E ⟨hp, g, d, tk, os⟩ := by
  refine wpAny_call (codeAny_call_builtin F.slot_int_rmul.plain F.entry_int_rmul (F.slot_int_rmul.check _ _ _ _ _ _ _ _ (typeIs_int _ k t) (F.args_int_rmul_2 _ _) ?_))
  wp_walk
  exact h
theorem tmul_call {Q : Value → Shared → Prop} (e : hp.get? a = some { cls := .type "tuple", dict := dd, data := .seq its n, slots := sl }) (k0 : 0 ≤ k) (k1 : k ≤ 1000) (hne : its.isEmpty = false) (hz : its.size * k.toNat ≤ 1000)
    (h1 : k = 1 → Q (.ref a) ⟨hp, g, d, tk, os⟩) (h2 : k ≠ 1 → Q (.ref hp.objs.size) ⟨hp.push { cls := .type "tuple", data := .seq (List.foldl (· ++ ·) #[] (List.replicate k.toNat its)) }, g, d, tk, os⟩) :
    wpAny (model prog w) A (call (.builtin "tuple.__mul__") [.ref a, .int k t]) Q E ⟨hp, g, d, tk, os⟩ := by
  refine wpAny_call (codeAny_call_builtin F.slot_tuple_mul.plain F.entry_tuple_mul (F.slot_tuple_mul.check _ _ _ _ _ _ _ _ ⟨_, e, rfl⟩ (F.args_tuple_mul_2 _ _) ?_))
  have c1 : (decide (k < -(2 ^ 63)) || decide (k ≥ 2 ^ 63)) = false := by
    rw [Bool.or_eq_false_iff]
    exact ⟨decide_eq_false (by omega), decide_eq_false (by omega)⟩
  by_cases hk : k = 1
  · subst hk
    wp_walk
    exact h1 rfl
  · have c2 : (its.isEmpty || k == 1) = false := by rw [hne, Bool.false_or]; exact beq_eq_false_iff_ne.mpr hk
    wp_walk
    rw [c1, if_neg Bool.false_ne_true]
    wp_walk
    rw [hne, Bool.or_false]
    by_cases hk0 : k = 0
    · subst hk0
      wp_walk
      exact h2 hk
    · have c3 : decide (k ≤ 0) = false := decide_eq_false (by omega)
      have kk : (k.toNat : Int) = k := Int.toNat_of_nonneg k0
      have hz' : (its.size : Int) * k ≤ 1000 := by rw [← kk, ← Int.natCast_mul]; omega
      have c4 : ¬ ((its.size : Int) * k > (2 ^ 63 - 1) / 8) := by omega
      have c5 : Builtin.Tuple.tupleTooMany ((its.size : Int) * k) = false := by
        unfold Builtin.Tuple.tupleTooMany
        exact decide_eq_false (by rw [sizeLine_eq]; omega)
      rw [c3, if_neg Bool.false_ne_true, if_neg c4, c5, if_neg Bool.false_ne_true]
      have c6 : ¬ ((List.foldl (fun x1 x2 => x1 ++ x2) #[] (List.replicate k.toNat its)).size > sizeLine) := by
        have f0 : List.foldl (fun x1 x2 => x1 ++ x2) #[] (List.replicate k.toNat its) = (List.replicate k.toNat its.toList).flatten.toArray := by
          have := foldl_rep its.toList k.toNat []
          rw [List.nil_append] at this
          exact this
        rw [f0, List.size_toArray, len_rep, Array.length_toList, Nat.mul_comm, sizeLine_eq]
        omega
      wp_walk
      exact h2 hk
end
/-- a tuple that isn't empty, times a number -/
noncomputable def rRepT (K : PySem.W.Frag) : R2 := fun x y H Q => ∃ a k xs, x = .ref a ∧ y = .int k ∧ SqT K H a xs ∧ xs ≠ [] ∧ 0 ≤ k ∧ k ≤ 1000 ∧ xs.length * k.toNat ≤ 1000 ∧ (k = 1 → Q (.ref a) H) ∧ (k ≠ 1 → ∀ p, H p = none → Q (.ref p) (upd H p (.tup (List.replicate k.toNat xs).flatten)))
theorem op_repT {X : Cx} : OpR X (binaryOp .Mult) (rRepT X.K) := by
  intro pins s σ H x y v u Q I rx ry h
  obtain ⟨a, k, xs, rfl, rfl, ha, hne, k0, k1, hz, q1, q2⟩ := h
  cases rx
  obtain ⟨t, rfl⟩ := ry
  obtain ⟨its, r, p, _⟩ := I.tuple ha
  obtain ⟨⟨cls, dd, data, sl⟩, ho, hc, n, hd⟩ := id p
  simp only at hc hd
  subst hc hd
  have hl := r.length
  have ne : its.toArray.isEmpty = false := by
    cases its with
    | nil => exact absurd (by cases r; rfl) hne
    | cons _ _ => rfl
  obtain ⟨hp, g, d, tk, os⟩ := s
  refine wpAny_binaryOp_repeat_ref (T := "tuple") (U := "int") (by decide) ⟨_, ho, rfl⟩ (fun s' => typeIs_int s' k t) noFill_tuple_mul F.fills_int_mul F.slot_int_rmul repeat_tuple F.slot_int_index.lookup (rmul_no ho ⟨rfl, ⟨_, ho, rfl⟩, ?_⟩)
  refine tmul_call ho k0 k1 ne (by rw [List.size_toArray, ← hl]; exact hz) (fun z => ⟨.ref a, H, I, rfl, q1 z⟩) fun z => ?_
  have f0 : List.foldl (fun x1 x2 => x1 ++ x2) #[] (List.replicate k.toNat its.toArray) = (List.replicate k.toNat its).flatten.toArray := by
    have := foldl_rep its k.toNat []
    rw [List.nil_append] at this
    exact this
  rw [f0]
  refine ⟨.ref hp.objs.size, _, I.laid (t' := tk) (o := .tup (List.replicate k.toNat xs).flatten) (fun b ob q => Heap.get?_push_of_some _ q) (Nat.le_refl _) ?_, rfl, q2 z _ (I.hok.fresh (Nat.le_refl _))⟩
  exact ⟨by rw [len_rep, Nat.mul_comm, sizeLine_eq]; omega, _, r.rep k.toNat, IsTup.new _ _⟩
end L2

set_option Elab.async false
set_option linter.all false
set_option maxRecDepth 100000
/-! () + t, t + u; a tuple times a number, for a named part of the text -/
namespace L2
open PySem PySem.Spec PyProof.Rows PySem.W
open Sem (wp)
theorem op_repTK {X : Cx} {K : PySem.W.Frag} (h : X.K = K) : OpR X (binaryOp .Mult) (rRepT K) := by subst h; exact op_repT
end L2

set_option Elab.async false
set_option linter.all false
set_option maxRecDepth 100000
/-! a list times a number -/
namespace L2
open PySem PySem.Spec PyProof.Rows PySem.W
open Sem (wp)
end L2

set_option Elab.async false
set_option linter.all false
set_option maxRecDepth 100000
/-! for a, b in zip(xs, ys): two lists that are tracked. -/
namespace L2
open PySem PySem.Spec PyProof.Rows
end L2

set_option Elab.async false
set_option linter.all false
set_option maxRecDepth 100000
/-! list(zip(a, b)) -/
namespace L2
open PySem PySem.Spec PyProof.Rows
section
variable {prog : Program} {w : World} {A : Around} {E : Value → Shared → Prop} {s : Shared}
end
section
variable {prog : Program} {w : World} {A : Around} {R : Result → Shared → Prop}

end

/-! ### the rule -/
end L2

set_option Elab.async false
set_option linter.all false
set_option maxRecDepth 100000
/-! any([..]) and all([..]) of a list of truths -/
namespace L2
open PySem PySem.Spec PyProof.Rows
theorem bools_are : ∀ {bs : List Bool} {us : List Value}, Vals (bs.map V.bl) us → LSm.BoolsAre us bs
  | [], _, .nil => .nil
  | b :: bs, _, .cons r t => by cases r; exact .cons b (bools_are t)
noncomputable def rAll (K : PySem.W.Frag) : List V → Hp → VK → Prop := fun xs H Q => ∃ (a : Addr) (bs : List Bool), xs = [.ref a] ∧ SqL K H a (bs.map V.bl) ∧ Q (.bl (bs.all id)) H
theorem call_all {X : Cx} {K : PySem.W.Frag} (hK : X.K = K) (hc : X.calm = true) : CallR X (.builtin "all") (rAll K) := by
  subst hK
  intro pins s σ H xs us Q I rv h
  obtain ⟨l, bs, rfl, hl, q⟩ := h
  obtain ⟨u, rfl, ru⟩ := vals1 rv
  cases ru
  obtain ⟨vs, r2, pl, hz⟩ := I.list hl
  have hb := bools_are r2
  have hL := pl.isList
  have hlt : l < s.heap.objs.size := by obtain ⟨_, e, _⟩ := hL; exact Heap.lt_size e
  refine call_all_walk (wpAny_pyIter_list hL ?_)
  refine ⟨s.heap.objs.size, [s.heap.objs.size, l], [s.heap.objs.size], vs.toArray.size, _, _, fun i => (bs[i]?).getD true, rfl, Walks.list (A := X.A.in1) (I.ok.hd hc) _ l (Nat.ne_of_lt hlt) vs.toArray,
    ⟨⟨_, Heap.get?_push_size _ rfl, rfl, rfl⟩, hL.push _⟩, fun i v s' Q' E' hP hQ => ?_, fun h' tk hk => ?_⟩
  · obtain ⟨b, e, rfl⟩ := hb.get i v (by simpa using hP)
    simp only [e, Option.getD_some] at hQ
    exact wpAny_truthy_bool hQ
  · have e : ((List.range vs.toArray.size).all fun i => (bs[i]?).getD true) = bs.all id := by
      rw [List.size_toArray, hb.length]; exact LSm.range_all bs
    rw [e]
    exact ⟨.bl _, _, I.kept (t' := tk) (LSm.kept_iter hk), rfl, q⟩
end L2

set_option Elab.async false
set_option linter.all false
set_option maxRecDepth 100000
/-! max([..]) of a list of whole numbers -/
namespace L2
open PySem PySem.Spec PyProof.Rows
end L2

set_option Elab.async false
set_option linter.all false
set_option maxRecDepth 100000
/-! list(reversed(xs)) -/
namespace L2
open PySem PySem.Spec PyProof.Rows
section
variable {prog : Program} {w : World} {A : Around} {s : Shared} {R : Result → Shared → Prop}
end
end L2

set_option Elab.async false
set_option linter.all false
/-! spans, sizes and chains: plain facts -/
namespace SZ
/-! ### the chain -/
end SZ

set_option Elab.async false
set_option linter.all false
set_option maxRecDepth 100000
/-! sum([..]), min([..]) of whole numbers; [.. for i, x in enumerate(xs)] -/
namespace L2
open PySem PySem.Spec PyProof.Rows
end L2

set_option Elab.async false
set_option linter.all false
set_option maxRecDepth 100000
/-! max([..], default=d) of whole numbers -/
namespace L2
open PySem PySem.Spec PyProof.Rows
section
variable {prog : Program} {w : World} {A : Around} {R : Result → Shared → Prop} {I : Addr} {fp wr : List Addr} {n : Nat} {P : Nat → Value → Prop} {St : Nat → Heap → Prop}
end
section
variable {prog : Program} {w : World} {A : Around} {E : Value → Shared → Prop} {s : Shared} {l : Addr} {xs : Array (Int × Tok)}
end
end L2

set_option Elab.async false
set_option linter.all false
set_option maxRecDepth 100000
/-! s.split(sep) -/
namespace L2
open PySem PySem.Spec PyProof.Rows
end L2

set_option Elab.async false
set_option linter.all false
/-! a text of words with one sign between them, split at that sign -/
namespace GT
open PySem L2 PySem.StrLaws
end GT
namespace GT
open PySem L2 PySem.StrLaws
end GT

set_option Elab.async false
set_option linter.all false
/-! words in rows of signs: as many as go -/
namespace GT
open PySem L2
end GT

set_option Elab.async false
set_option linter.all false
set_option maxRecDepth 100000
/-! Tables: cells that cover each place just once. -/
namespace GT
open PySem L2

structure Cell where
  top : Nat
  left : Nat
  h : Nat
  w : Nat
  words : List Str
noncomputable def signs : Str := "abcdefghijklmnopqrstuvwxyz0123456789"
structure WordOk (x : Str) : Prop where
  lo : 1 ≤ x.length
  hi : x.length ≤ 12
  all : ∀ c ∈ x.cps.toList, c ∈ signs.cps.toList
structure WordsOk (ws : List Str) : Prop where
  few : ws.length ≤ 12
  each : ∀ x ∈ ws, WordOk x
noncomputable def wordsD (ws : List Str) : Dd := .tup (ws.map Dd.str)
noncomputable def Cell.D (x : Cell) : Dd := .tup [.int x.top, .int x.left, .int x.h, .int x.w, wordsD x.words]
noncomputable def tabD (R C : Nat) (cs : List Cell) : Dd := .tup [.int R, .int C, .lst (cs.map Cell.D)]
noncomputable def inC (x : Cell) (r c : Nat) : Prop := x.top ≤ r ∧ r < x.top + x.h ∧ x.left ≤ c ∧ c < x.left + x.w
structure Fit (R C : Nat) (x : Cell) : Prop where
  h1 : 1 ≤ x.h
  w1 : 1 ≤ x.w
  down : x.top + x.h ≤ R
  across : x.left + x.w ≤ C
  words : WordsOk x.words
noncomputable def Apart (x y : Cell) : Prop := ∀ r c, inC x r c → ¬ inC y r c
theorem Apart.symm {x y : Cell} (h : Apart x y) : Apart y x := fun r c a b => h r c b a
noncomputable def cov (cs : List Cell) (r c : Nat) : Prop := ∃ x ∈ cs, inC x r c
noncomputable def Before (x y : Cell) : Prop := x.top < y.top ∨ (x.top = y.top ∧ x.left < y.left)
/-- some of the places -/
structure Part (R C : Nat) (cs : List Cell) : Prop where
  fit : ∀ x ∈ cs, Fit R C x
  dis : cs.Pairwise Apart
structure Tiles (R C : Nat) (cs : List Cell) : Prop extends Part R C cs where
  all : ∀ r c, r < R → c < C → cov cs r c
  ord : cs.Pairwise Before
theorem Part.nil (R C : Nat) : Part R C [] := ⟨fun _ hx => by simp at hx, .nil⟩
theorem Part.snoc {R C : Nat} {cs : List Cell} {x : Cell} (p : Part R C cs) (f : Fit R C x) (d : ∀ r c, inC x r c → ¬ cov cs r c) : Part R C (cs ++ [x]) where
  fit := fun y hy => (List.mem_append.mp hy).elim (p.fit y) fun z => by
    have : y = x := by simpa using z
    rw [this]; exact f
  dis := List.pairwise_append.mpr ⟨p.dis, List.pairwise_singleton _ _, fun y hy z hz r c h1 h2 => by
    have : z = x := by simpa using hz
    rw [this] at h2
    exact d r c h2 ⟨y, hy, h1⟩⟩
theorem cov_snoc {cs : List Cell} {x : Cell} {r c : Nat} : cov (cs ++ [x]) r c ↔ cov cs r c ∨ inC x r c := by
  constructor
  · rintro ⟨y, hy, h⟩
    rcases List.mem_append.mp hy with hy | hy
    · exact .inl ⟨y, hy, h⟩
    · have : y = x := by simpa using hy
      rw [this] at h; exact .inr h
  · rintro (⟨y, hy, h⟩ | h)
    · exact ⟨y, List.mem_append_left _ hy, h⟩
    · exact ⟨x, List.mem_append_right _ (by simp), h⟩
theorem cov_perm {cs cs' : List Cell} (p : cs'.Perm cs) {r c : Nat} (h : cov cs r c) : cov cs' r c := by
  obtain ⟨x, hx, i⟩ := h
  exact ⟨x, p.mem_iff.mpr hx, i⟩
theorem Part.perm {R C : Nat} {cs cs' : List Cell} (p : Part R C cs) (q : cs'.Perm cs) : Part R C cs' where
  fit := fun x hx => p.fit x (q.mem_iff.mp hx)
  dis := (q.pairwise_iff fun {x y} h => Apart.symm h).mpr p.dis
noncomputable def key (x : Cell) : Int × Int := ((x.top : Int), (x.left : Int))
theorem Part.keys {R C : Nat} {cs : List Cell} (p : Part R C cs) : (cs.map key).Nodup := by
  refine List.Pairwise.map _ (R := fun x y => Fit R C x ∧ Fit R C y ∧ Apart x y) (fun x y z e => ?_) (p.dis.imp_of_mem fun {x y} hx hy z => ⟨p.fit x hx, p.fit y hy, z⟩)
  obtain ⟨f, g, a⟩ := z
  unfold key at e
  have e1 : (x.top : Int) = y.top := congrArg Prod.fst e
  have e2 : (x.left : Int) = y.left := congrArg Prod.snd e
  have h1 := f.h1
  have h2 := f.w1
  have h3 := g.h1
  have h4 := g.w1
  exact a x.top x.left ⟨by omega, by omega, by omega, by omega⟩ ⟨by omega, by omega, by omega, by omega⟩

/-! ### cells in the heap -/
theorem Cell.D_inj {x y : Cell} (h : x.D = y.D) : key x = key y := by
  unfold Cell.D at h
  injection h with h
  simp only [List.cons.injEq, Dd.int.injEq] at h
  unfold key
  rw [h.1, h.2.1]
theorem wordsD_nol (ws : List Str) : NoL (wordsD ws) := .tup fun d hd => by
  obtain ⟨w, _, rfl⟩ := List.mem_map.mp hd
  exact .str w
theorem Cell.D_nol (x : Cell) : NoL x.D := .tup fun d hd => by
  simp only [List.mem_cons, List.mem_nil_iff, or_false] at hd
  rcases hd with rfl | rfl | rfl | rfl | rfl
  · exact .int _
  · exact .int _
  · exact .int _
  · exact .int _
  · exact wordsD_nol _
theorem cells_nol (cs : List Cell) : ∀ d ∈ cs.map Cell.D, NoL d := fun d hd => by
  obtain ⟨x, _, rfl⟩ := List.mem_map.mp hd
  exact x.D_nol
theorem wordsD_fits (ws : List Str) (n : Nat) : fits (n + 1) (wordsD ws) := fun d hd => by
  obtain ⟨w, _, rfl⟩ := List.mem_map.mp hd
  cases n <;> trivial
theorem Cell.D_fits (x : Cell) (n : Nat) : fits (n + 2) x.D := fun d hd => by
  simp only [List.mem_cons, List.mem_nil_iff, or_false] at hd
  rcases hd with rfl | rfl | rfl | rfl | rfl
  · trivial
  · trivial
  · trivial
  · trivial
  · exact wordsD_fits _ n
theorem tabD_fits (R C : Nat) (cs : List Cell) (n : Nat) : fits (n + 4) (tabD R C cs) := fun d hd => by
  simp only [List.mem_cons, List.mem_nil_iff, or_false] at hd
  rcases hd with rfl | rfl | rfl
  · trivial
  · trivial
  · intro d hd
    obtain ⟨x, _, rfl⟩ := List.mem_map.mp hd
    exact x.D_fits n
/-- a cell's value, taken apart -/
theorem Cell.at_inv {H : Hp} {x : Cell} {v : V} (h : At H x.D v) : ∃ a b ws, v = .ref a ∧ H a = some (.tup [.int x.top, .int x.left, .int x.h, .int x.w, .ref b]) ∧ H b = some (.tup ws) ∧ AtL H (x.words.map Dd.str) ws := by
  obtain ⟨a, xs, rfl, ha, r⟩ := h.tup_inv
  cases r with
  | cons h1 r =>
    cases r with
    | cons h2 r =>
      cases r with
      | cons h3 r =>
        cases r with
        | cons h4 r =>
          cases r with
          | cons h5 r =>
            cases r
            obtain ⟨b, ws, rfl, hb, rw'⟩ := h5.tup_inv
            rw [h1.int_inv, h2.int_inv, h3.int_inv, h4.int_inv] at ha
            exact ⟨a, b, ws, rfl, ha, hb, rw'⟩
theorem Cell.at_mk {H : Hp} {x : Cell} {a b : Addr} {ws : List V} (ha : H a = some (.tup [.int x.top, .int x.left, .int x.h, .int x.w, .ref b])) (hb : H b = some (.tup ws)) (r : AtL H (x.words.map Dd.str) ws) : At H x.D (.ref a) :=
  .tup ha (.cons (.int _) (.cons (.int _) (.cons (.int _) (.cons (.int _) (.cons (.tup hb r) .nil)))))
theorem tab_inv {H : Hp} {R C : Nat} {cs : List Cell} {v : V} (h : At H (tabD R C cs) v) : ∃ a l ys, v = .ref a ∧ H a = some (.tup [.int R, .int C, .ref l]) ∧ H l = some (.lst ys) ∧ AtL H (cs.map Cell.D) ys := by
  obtain ⟨a, xs, rfl, ha, r⟩ := h.tup_inv
  cases r with
  | cons h1 r =>
    cases r with
    | cons h2 r =>
      cases r with
      | cons h3 r =>
        cases r
        obtain ⟨l, ys, rfl, hl, ry⟩ := h3.lst_inv
        rw [h1.int_inv, h2.int_inv] at ha
        exact ⟨a, l, ys, rfl, ha, hl, ry⟩
theorem tab_mk {H : Hp} {R C : Nat} {cs : List Cell} {a l : Addr} {ys : List V} (ha : H a = some (.tup [.int R, .int C, .ref l])) (hl : H l = some (.lst ys)) (r : AtL H (cs.map Cell.D) ys) : At H (tabD R C cs) (.ref a) :=
  .tup ha (.cons (.int _) (.cons (.int _) (.cons (.lst hl r) .nil)))

/-- a permutation of the one side is one of the other -/
theorem paired_perm {α β : Type} {F : α → β → Prop} {m m' : List β} (p : m'.Perm m) : ∀ {l : List α}, Paired F l m → ∃ l', l'.Perm l ∧ Paired F l' m' := by
  induction p with
  | nil => intro l h; exact ⟨l, .refl _, h⟩
  | cons x _ ih =>
    intro l h
    cases h with
    | cons r t =>
      obtain ⟨l', p', h'⟩ := ih t
      exact ⟨_, p'.cons _, .cons r h'⟩
  | swap x y m =>
    intro l h
    cases h with
    | cons r t =>
      cases t with
      | cons r' t' => exact ⟨_, List.Perm.swap _ _ _, .cons r' (.cons r t')⟩
  | trans _ _ ih1 ih2 =>
    intro l h
    obtain ⟨l1, p1, h1⟩ := ih2 h
    obtain ⟨l2, p2, h2⟩ := ih1 h1
    exact ⟨l2, p2.trans p1, h2⟩
theorem cells_perm {H : Hp} {cs : List Cell} {xs xs' : List V} (p : xs'.Perm xs) (h : AtL H (cs.map Cell.D) xs) : ∃ cs' : List Cell, cs'.Perm cs ∧ AtL H (cs'.map Cell.D) xs' := by
  have h1 : ∀ {cs : List Cell} {xs : List V}, AtL H (cs.map Cell.D) xs → Paired (fun x v => At H x.D v) cs xs := by
    intro cs
    induction cs with
    | nil => intro xs h; cases h; exact .nil
    | cons x cs ih => intro xs h; cases h with | cons r t => exact .cons r (ih t)
  have h2 : ∀ {cs : List Cell} {xs : List V}, Paired (fun x v => At H x.D v) cs xs → AtL H (cs.map Cell.D) xs := by
    intro cs xs h
    induction h with
    | nil => exact .nil
    | cons r _ ih => exact .cons r ih
  obtain ⟨cs', q, r⟩ := paired_perm p (h1 h)
  exact ⟨cs', q, h2 r⟩
/-- what sorted asks: the two ints of each item -/
theorem cells_key {H : Hp} {cs : List Cell} {xs : List V} (h : AtL H (cs.map Cell.D) xs) : ∃ f : V → Int × Int, ∀ (i : Nat) (x : Cell) (v : V), cs[i]? = some x → xs[i]? = some v → f v = key x := by
  classical
  refine ⟨fun v => if q : ∃ x ∈ cs, At H x.D v then key q.choose else (0, 0), fun i x v e1 e2 => ?_⟩
  have at1 : At H x.D v := Paired.get h (i := i) (by rw [List.getElem?_map, e1]; rfl) e2
  have q : ∃ x ∈ cs, At H x.D v := ⟨x, List.mem_of_getElem? e1, at1⟩
  simp only [q, dite_true]
  exact Cell.D_inj (At.inj _ (Nat.le_refl _) q.choose_spec.2 at1)
theorem cells_keys {H : Hp} {cs : List Cell} {xs : List V} (h : AtL H (cs.map Cell.D) xs) {f : V → Int × Int} (hf : ∀ (i : Nat) (x : Cell) (v : V), cs[i]? = some x → xs[i]? = some v → f v = key x) : xs.map f = cs.map key := by
  have hl : cs.length = xs.length := by simpa using h.length
  refine List.ext_getElem (by simp [hl]) fun i h1 h2 => ?_
  simp only [List.getElem_map]
  exact hf i _ _ (List.getElem?_eq_getElem (by simpa using h2)) (List.getElem?_eq_getElem (by simpa using h1))
/-- sorted(cells), ready to use -/
theorem sorted_cells {K : PySem.W.Frag} {R C : Nat} {cs : List Cell} {H : Hp} {l : Addr} {xs : List V} {Q : VK} (hl : H l = some (.lst xs)) (p : Part R C cs) (hC : C ≤ 1000) (h : AtL H (cs.map Cell.D) xs)
    (q : ∀ (r : Addr) (cs' : List Cell) (xs' : List V), H r = none → cs'.Perm cs → cs'.Pairwise Before → AtL (upd H r (.lst xs')) (cs'.map Cell.D) xs' → Q (.ref r) (upd H r (.lst xs'))) : rSorted K [.ref l] H Q := by
  obtain ⟨f, hf⟩ := cells_key h
  have hm := cells_keys h hf
  have hlen : cs.length = xs.length := by simpa using h.length
  have at' : ∀ v ∈ xs, ∃ x ∈ cs, At H x.D v ∧ f v = key x := fun v hv => by
    obtain ⟨i, hi, e⟩ := List.mem_iff_getElem.mp hv
    have e2 : xs[i]? = some v := by rw [List.getElem?_eq_getElem hi, e]
    have e1 : cs[i]? = some cs[i] := List.getElem?_eq_getElem (by omega)
    exact ⟨cs[i], List.getElem_mem _, Paired.get h (i := i) (by rw [List.getElem?_map, e1]; rfl) e2, hf i _ _ e1 e2⟩
  refine ⟨l, xs, f, rfl, SqL.of hl, fun v hv => ?_, by rw [hm]; exact p.keys, fun v hv => ?_, fun r xs' hr hp ho => ?_⟩
  · obtain ⟨x, hx, a, e⟩ := at' v hv
    obtain ⟨b, c, ws, rfl, hb, _, _⟩ := Cell.at_inv a
    rw [e]
    exact ⟨b, _, rfl, SqT.of hb⟩
  · obtain ⟨x, hx, a, e⟩ := at' v hv
    have g := p.fit x hx
    have := g.across
    have := g.w1
    rw [e]
    show 0 ≤ (x.left : Int) ∧ (x.left : Int) < 1000
    omega
  · obtain ⟨cs', pc, hc⟩ := cells_perm hp h
    have hf' : ∀ (i : Nat) (x : Cell) (v : V), cs'[i]? = some x → xs'[i]? = some v → f v = key x := fun i x v e1 e2 => by
      have a1 : At H x.D v := Paired.get hc (i := i) (by rw [List.getElem?_map, e1]; rfl) e2
      obtain ⟨y, _, a2, e⟩ := at' v (hp.mem_iff.mp (List.mem_of_getElem? e2))
      rw [e]
      exact Cell.D_inj (At.inj _ (Nat.le_refl _) a2 a1)
    have hm' := cells_keys hc hf'
    have ord : cs'.Pairwise Before := by
      have o1 : (xs'.map f).Pairwise lex2 := List.pairwise_map.mpr ho
      rw [hm'] at o1
      refine (List.pairwise_map.mp o1).imp fun {x y} z => ?_
      unfold lex2 key at z
      unfold Before
      simp only at z
      omega
    exact q r cs' xs' hr pc ord (hc.mono (Same.upd_new hr))
theorem Part.tiles {R C : Nat} {cs cs' : List Cell} (p : Part R C cs) (all : ∀ r c, r < R → c < C → cov cs r c) (q : cs'.Perm cs) (o : cs'.Pairwise Before) : Tiles R C cs' :=
  { p.perm q with all := fun r c h1 h2 => cov_perm q (all r c h1 h2), ord := o }
theorem signs_len : signs.cps.toList.length = 36 := by decide +kernel
theorem signs_small : signs.length ≤ sizeLine := by
  have e : signs.length = 36 := by decide +kernel
  rw [e]; decide
theorem join_list_cps : ∀ ys : List Str, (Str.join Str.empty ys).cps.toList = (ys.map (fun y => y.cps.toList)).flatten
  | [] => rfl
  | [x] => by simp [Str.join]
  | x :: y :: ys => by
    have ih := join_list_cps (y :: ys)
    have e : Str.join Str.empty (x :: y :: ys) = x ++ Str.empty ++ Str.join Str.empty (y :: ys) := rfl
    rw [e]
    show ((x.cps ++ Str.empty.cps) ++ (Str.join Str.empty (y :: ys)).cps).toList = _
    rw [Array.toList_append, Array.toList_append, ih]
    simp [Str.empty]
theorem join_word {ys : List Str} (h : ∀ y ∈ ys, ∃ c ∈ signs.cps.toList, y = ⟨#[c]⟩) (h1 : 1 ≤ ys.length) (h2 : ys.length ≤ 12) : WordOk (strJ "" ys) := by
  have e : (strJ "" ys).cps.toList = (ys.map (fun y => y.cps.toList)).flatten := by
    have z : strJ "" ys = Str.join Str.empty ys := PySem.StrLaws.glued_eq_join _ _
    rw [z]
    exact join_list_cps ys
  have l : ∀ ys : List Str, (∀ y ∈ ys, ∃ c ∈ signs.cps.toList, y = ⟨#[c]⟩) → (ys.map (fun y => y.cps.toList)).flatten.length = ys.length ∧ ∀ c ∈ (ys.map (fun y => y.cps.toList)).flatten, c ∈ signs.cps.toList := by
    intro ys
    induction ys with
    | nil => exact fun _ => ⟨rfl, fun c hc => by simp at hc⟩
    | cons y ys ih =>
      intro h
      obtain ⟨i1, i2⟩ := ih fun z hz => h z (List.mem_cons_of_mem _ hz)
      obtain ⟨c, hc, rfl⟩ := h y List.mem_cons_self
      refine ⟨by rw [List.map_cons, List.flatten_cons, List.length_append, i1, List.length_cons]; simp; omega, fun d hd => ?_⟩
      rw [List.map_cons, List.flatten_cons] at hd
      rcases List.mem_append.mp hd with hd | hd
      · have : d = c := by simpa using hd
        rw [this]; exact hc
      · exact i2 d hd
  obtain ⟨l1, l2⟩ := l ys h
  have ll : (strJ "" ys).length = ys.length := by
    show (strJ "" ys).cps.size = _
    rw [← Array.length_toList, e, l1]
  exact ⟨by omega, by omega, fun c hc => l2 c (by rw [← e]; exact hc)⟩
theorem strs_at (H : Hp) : ∀ ws : List Str, AtL H (ws.map Dd.str) (ws.map V.str)
  | [] => .nil
  | w :: ws => .cons (.str w) (strs_at H ws)
end GT

set_option Elab.async false
set_option linter.all false
/-! rows of words, filled step by step -/
namespace GT
open PySem L2
end GT
namespace L2
open PySem
theorem call_len_strK {X : Cx} {K : PySem.W.Frag} (h : X.K = K) : CallR X (.builtin "len") (fun xs H Q => ∃ z, xs = [.str z] ∧ z.length ≤ sizeLine ∧ Q (.int z.length) H) := call_len_str
end L2

set_option Elab.async false
set_option linter.all false
set_option maxRecDepth 100000
/-! Deeds on tables: a row put in, a row taken out, the table turned about; what becomes of the cells. -/
namespace GT
open PySem L2

/-! ### a row put in -/

/-! ### a row taken out -/

/-! ### turned about -/
/-- how many cells there may be -/
theorem nodup_len : ∀ (n : Nat) (l : List Nat), l.Nodup → (∀ x ∈ l, x < n) → l.length ≤ n
  | 0, [], _, _ => Nat.le_refl _
  | 0, x :: l, _, h => absurd (h x List.mem_cons_self) (by omega)
  | n + 1, l, nd, h => by
    by_cases hn : n ∈ l
    · have := nodup_len n (l.erase n) (nd.erase n) fun x hx => by
        have h1 := h x (List.mem_of_mem_erase hx)
        have h2 : x ≠ n := fun e => by subst e; exact (nd.not_mem_erase) hx
        omega
      rw [List.length_erase_of_mem hn] at this
      omega
    · have := nodup_len n l nd fun x hx => by
        have h1 := h x hx
        have h2 : x ≠ n := fun e => hn (e ▸ hx)
        omega
      omega
theorem Part.few {R C : Nat} {cs : List Cell} (p : Part R C cs) : cs.length ≤ R * C := by
  have key : (cs.map fun x => x.top * C + x.left).Nodup := by
    refine List.Pairwise.map _ (R := fun x y => Fit R C x ∧ Fit R C y ∧ Apart x y) (fun x y z e => ?_) (p.dis.imp_of_mem fun {x y} hx hy z => ⟨p.fit x hx, p.fit y hy, z⟩)
    obtain ⟨f, g, a⟩ := z
    have h1 := f.h1
    have h2 := f.w1
    have h3 := g.h1
    have h4 := g.w1
    have h5 := f.across
    have h6 := g.across
    have e1 : x.top = y.top := by
      have a1 : (x.top * C + x.left) / C = x.top := by rw [Nat.mul_comm, Nat.mul_add_div (by omega), Nat.div_eq_of_lt (by omega)]; omega
      have a2 : (y.top * C + y.left) / C = y.top := by rw [Nat.mul_comm, Nat.mul_add_div (by omega), Nat.div_eq_of_lt (by omega)]; omega
      have e : x.top * C + x.left = y.top * C + y.left := e
      rw [← a1, ← a2, e]
    have e2 : x.left = y.left := by
      have e : x.top * C + x.left = y.top * C + y.left := e
      rw [e1] at e
      omega
    exact a x.top x.left ⟨by omega, by omega, by omega, by omega⟩ ⟨by omega, by omega, by omega, by omega⟩
  have := nodup_len (R * C) _ key fun z hz => by
    obtain ⟨x, hx, rfl⟩ := List.mem_map.mp hz
    have f := p.fit x hx
    have h1 := f.h1
    have h2 := f.w1
    have h5 := f.across
    have h6 := f.down
    have : (x.top + 1) * C ≤ R * C := Nat.mul_le_mul_right C (by omega)
    rw [Nat.succ_mul] at this
    omega
  rwa [List.length_map] at this
/-! ### the order of the cells does not matter -/
/-! ### a row and a column, in either order -/
end GT

set_option Elab.async false
set_option linter.all false
set_option maxRecDepth 100000
/-! comprehensions over tuples, comprehensions within comprehensions; what cells need -/
namespace L2
open PySem
theorem comp_tup {K : PySem.W.Frag} {a : Addr} {xs : List V} {g : TG} {tt : TT} {te : TE} {σ0 : St} {H1 : Hp} {acc : Addr} {Q : VK} (Pv : Nat → St → Hp → Prop) (h0 : Pv 0 σ0 (upd H1 acc (.lst [])))
    (hl : ∀ i σ H, i ≤ xs.length → Pv i σ H → SqT K H a xs)
    (hs : ∀ i x σ H, xs[i]? = some x → Pv i σ H → g x σ H fun σ4 H4 => tt σ4 H4 fun b H5 =>
      if b = true then te σ4 H5 fun y H6 => ∃ ys, H6 acc = some (.lst ys) ∧ ys.length < sizeLine ∧ Pv (i + 1) σ4 (upd H6 acc (.lst (ys ++ [y]))) else Pv (i + 1) σ4 H5)
    (hd : ∀ σ H, Pv xs.length σ H → Q (.ref acc) H) : CompW (Itt K a) g tt te acc σ0 H1 Q := by
  refine ⟨fun i m σ H => m = xs.length - i ∧ i ≤ xs.length ∧ Pv i σ H, ⟨xs.length, by simp, Nat.zero_le _, h0⟩, ?_⟩
  rintro i m σ H ⟨rfl, hi, p⟩
  have q := hl i σ H hi p
  by_cases hlt : i < xs.length
  · refine .inr ⟨⟨xs, xs[i], q, by simp [hlt]⟩, Pv (i + 1), fun σ' H' p' => ⟨xs.length - (i + 1), by omega, rfl, hlt, p'⟩, fun x H' y => ?_⟩
    obtain ⟨e, y⟩ := y
    subst e
    exact hs i x σ _ (y xs q) p
  · have e : i = xs.length := by omega
    subst e
    exact .inl ⟨⟨xs, q, Nat.le_refl _⟩, hd σ H p⟩
/-- a block that takes no name from outside -/
theorem compOk_shut {X : Cx} {scope : Scope} {N1 : List Str} {cap : List (Option Nat)} (kind : scope.kind = .function)
    (nocell : ∀ y ∈ scope.names, y.2 ≠ .cell) (names : ∀ y ∈ scope.names, y.2 = .local → scope.names.lookup y.1 = some .local) (free : ∀ y ∈ scope.names, y.2 ≠ .free)
    (len : cap.length = N1.length) (caps : ∀ i, i < N1.length → ∀ x j, N1[i]? = some x → cap[i]? = some (some j) → False) :
    CompOk X scope (clOf X.env.cells scope.names []) N1 cap := by
  have fr : ∀ y ∈ scope.names, y.2 = .free → (X.env.cells.lookup y.1).isSome = true := fun y hy e => absurd e (free y hy)
  have mem : ∀ p ∈ clOf X.env.cells scope.names [], X.env.cells.lookup p.1 = some p.2 := clOf_mem scope.names [] fr fun p hp => absurd hp (by simp)
  have has : ∀ x, ((relabel scope X.env).names.lookup x = some .cell ∨ (relabel scope X.env).names.lookup x = some .free) → ∃ c, (clOf X.env.cells scope.names []).lookup x = some c := fun x h => by
    have q : ∃ y ∈ scope.names, y.1 = x ∧ y.2 = .free := by
      rcases h with h | h
      · exact lookup_relabel nocell (.inl rfl) h
      · exact lookup_relabel nocell (.inr rfl) h
    exact Option.isSome_iff_exists.mp (clOf_has x scope.names [] (.inl q))
  exact ⟨clos_of fr, fun x c h => mem (x, c) (PySem.mem_of_lookup h), kind, nocell, names, has, len, fun i x j e1 e2 => (caps i (List.getElem?_eq_some_iff.mp e1).1 x j e1 e2).elim⟩
end L2
namespace GT
open PySem L2
theorem strs_eq {H : Hp} : ∀ {ws : List Str} {vs : List V}, AtL H (ws.map Dd.str) vs → vs = ws.map V.str
  | [], [], _ => rfl
  | w :: ws, v :: vs, h => by
    cases h with
    | cons h1 h2 =>
      rw [strs_eq h2]
      cases h1
      rfl
end GT

set_option Elab.async false
set_option linter.all false
set_option maxRecDepth 100000
/-! enumerate(x) of a text, for a target that takes the pairs apart -/
namespace L2
open PySem PySem.Spec PyProof.Rows PySem.W
open Sem (wp)
end L2

set_option Elab.async false
set_option linter.all false
set_option maxRecDepth 100000
/-! s.endswith(t); lists of truth values that are the same -/
namespace L2
open PySem PySem.Spec PyProof.Rows
section
variable {es r : List Expr} {pos : Pos} {env : Env}
end
end L2

set_option Elab.async false
set_option linter.all false
set_option maxRecDepth 100000
/-! a text walked sign by sign; str(x), int(x); a try whose suite lets nothing go -/
namespace L2
open PySem PySem.Spec PyProof.Rows PySem.W
noncomputable def Itx (x : Str) : It := ⟨fun i _ => i < x.cps.size, fun i H v H' => H' = H ∧ ∃ c, x.cps[i]? = some c ∧ v = .str ⟨#[c]⟩, fun i _ => x.cps.size ≤ i⟩
theorem walksS {prog : Program} {w : World} {A : Around} (hh : A.handled = none) (it : Addr) (x : Str) (t : Tok) : Walks prog w A it [it] [it] x.cps.size (SignAt x) (fun i h => h.IsStrIter it (strIterType x) x t i) := by
  unfold strIterType
  split
  · exact Walks.strAscii hh it x t
  · exact Walks.strWide hh it x t
theorem strIter_plain (x : Str) : ["enumerate", "zip", "dict_itemiterator", "dict_reverseitemiterator", "odict_iterator", "itertools.zip_longest", "itertools.pairwise"].contains (strIterType x) = false := by
  unfold strIterType
  split <;> decide
theorem turn_str {P : Program} {w : World} {K : PySem.W.Frag} {tg : Expr} (it : Addr) (x : Str) (t : Tok) : Turn P w K tg (Itx x) [it] it (fun i h => i ≤ x.cps.size ∧ h.IsStrIter it (strIterType x) x t i) where
  mem := by simp
  obj := fun i h st b hb => by
    have e : b = it := by simpa using hb
    subst e
    obtain ⟨_, o, e, c, d⟩ := st
    exact ⟨o, e, fun v z => by rw [d] at z; cases z⟩
  keep := fun i h h' st k => by
    obtain ⟨hi, o, e, r⟩ := st
    exact ⟨hi, o, k it (by simp) o e, r⟩
  item := by
    intro X hP hw hK hc i pins s σ H E I hf st hg
    subst hP hw hK
    obtain ⟨f0, f1, f2, f3, f4, f5⟩ := hf it (by simp)
    have W := walksS (prog := X.prog) (w := X.w) (A := X.A) (I.ok.hd hc) it x t
    refine W.item i s _ _ hg st.2 fun v h' tk hv st' kk => ?_
    obtain ⟨c, u, hcx, rfl⟩ := hv
    have I1 : Inv X pins σ H { s with heap := h', toks := tk } := I.turned (fun b o hb e => kk b o (by simpa using hb) e) f0 f1 f3 f4 f5
    obtain ⟨o, e, cl, d⟩ := id st'
    exact ⟨_, rfl, go_of (s := { s with heap := h', toks := tk }) e cl d (strIter_plain x) ⟨.str ⟨#[c]⟩, H, I1, ⟨u, rfl⟩, ⟨rfl, c, hcx, rfl⟩, ⟨hg, st'⟩, fun b hb => (hf b hb).1⟩⟩
  done := by
    intro X hP hw hK hc i pins s σ H E I hf st hg
    subst hP hw hK
    obtain ⟨f0, f1, f2, f3, f4, f5⟩ := hf it (by simp)
    obtain ⟨hi, st⟩ := st
    have e : i = x.cps.size := Nat.le_antisymm hi hg
    subst e
    have W := walksS (prog := X.prog) (w := X.w) (A := X.A) (I.ok.hd hc) it x t
    exact W.done s _ _ st fun h' tk kk => ⟨rfl, I.turned (fun b o hb e => kk b o (by simpa using hb) e) f0 f1 f3 f4 f5⟩
  self := fun A i s Q E st h => by
    obtain ⟨_, st⟩ := st
    unfold strIterType at st
    split at st
    · exact wpAny_pyIter_striter_ascii st h
    · exact wpAny_pyIter_striter_wide st h
theorem iter_str {prog : Program} {w : World} {A : Around} {E : Value → Shared → Prop} {s : Shared} {x : Str} {t : Tok} {Q : Value → Shared → Prop}
    (hQ : ∀ o : Obj, (s.heap.push o).IsStrIter s.heap.objs.size (strIterType x) x t 0 → Q (.ref s.heap.objs.size) { s with heap := s.heap.push o }) : wpAny (model prog w) A (pyIter (.str x t)) Q E s := by
  cases ha : x.cps.all (· < 128)
  · have e : strIterType x = "str_iterator" := by unfold strIterType; rw [ha]; rfl
    rw [e] at hQ
    exact wpAny_pyIter_wide ha (hQ _ ⟨_, Heap.get?_push_size _ rfl, rfl, rfl⟩)
  · have e : strIterType x = "str_ascii_iterator" := by unfold strIterType; rw [ha]; rfl
    rw [e] at hQ
    exact wpAny_pyIter_ascii ha (hQ _ ⟨_, Heap.get?_push_size _ rfl, rfl, rfl⟩)
noncomputable def iStr (tl : TE) : TI := fun σ H R => tl σ H fun v H1 => ∃ x, v = .str x ∧ R (Itx x) H1
theorem pi_strK {X : Cx} {K : PySem.W.Frag} {tg l : Expr} {tl : TE} (hK : X.K = K) (hl : PE X l tl) : PI X tg l (iStr tl) := by
  intro pins s σ H R I h
  refine thn (hl pins s σ H _ I h) fun v s1 ⟨x, H1, I1, r1, q1⟩ => ?_
  obtain ⟨x, e, q⟩ := q1
  subst e
  obtain ⟨t, rfl⟩ := r1
  refine iter_str fun o hit => ?_
  refine ⟨s1.heap.objs.size, [s1.heap.objs.size], _, _, H1, rfl, I1.kept (t' := s1.toks) fun b o e => Heap.get?_push_of_some _ e, turn_str _ x t, ⟨Nat.zero_le _, hit⟩, fun b hb => ?_, q⟩
  have e : b = s1.heap.objs.size := by simpa using hb
  subst e
  exact I1.fpOk (Nat.le_refl _) (I1.hok.fresh (Nat.le_refl _))
theorem comp_str {x : Str} {g : TG} {tt : TT} {te : TE} {σ0 : St} {H1 : Hp} {acc : Addr} {Q : VK} (Pv : Nat → St → Hp → Prop) (h0 : Pv 0 σ0 (upd H1 acc (.lst [])))
    (hs : ∀ i c σ H, x.cps[i]? = some c → Pv i σ H → g (.str ⟨#[c]⟩) σ H fun σ4 H4 => tt σ4 H4 fun b H5 =>
      if b = true then te σ4 H5 fun y H6 => ∃ ys, H6 acc = some (.lst ys) ∧ ys.length < sizeLine ∧ Pv (i + 1) σ4 (upd H6 acc (.lst (ys ++ [y]))) else Pv (i + 1) σ4 H5)
    (hd : ∀ σ H, Pv x.cps.size σ H → Q (.ref acc) H) : CompW (Itx x) g tt te acc σ0 H1 Q := by
  refine ⟨fun i m σ H => m = x.cps.size - i ∧ i ≤ x.cps.size ∧ Pv i σ H, ⟨x.cps.size, by simp, Nat.zero_le _, h0⟩, ?_⟩
  rintro i m σ H ⟨rfl, hi, p⟩
  by_cases hlt : i < x.cps.size
  · refine .inr ⟨hlt, Pv (i + 1), fun σ' H' p' => ⟨x.cps.size - (i + 1), by omega, rfl, hlt, p'⟩, fun v H' y => ?_⟩
    obtain ⟨e, c, hc, ev⟩ := y
    subst e ev
    exact hs i c σ _ hc p
  · have e : i = x.cps.size := by omega
    subst e
    exact .inl ⟨Nat.le_refl _, hd σ H p⟩
noncomputable def rStr : List V → Hp → VK → Prop := fun xs H Q => ∃ v, xs = [v] ∧ ((∃ i : Int, v = .int i ∧ i.natAbs.log2 < 1920 ∧ Q (.str (Str.ofString (toString i))) H) ∨ (∃ x, v = .str x ∧ Q (.str x) H))
theorem call_strI {X : Cx} : CallR X (.type "str") rStr := by
  intro pins s σ H xs us Q I r h
  obtain ⟨v, rfl, h⟩ := h
  obtain ⟨u, rfl, rx⟩ := vals1 r
  rcases h with ⟨i, rfl, hi, q⟩ | ⟨x, rfl, q⟩
  · obtain ⟨t, rfl⟩ := rx
    exact P.str_of_int hi ⟨.str _, H, I.tok _, ⟨_, rfl⟩, q⟩
  · obtain ⟨t, rfl⟩ := rx
    exact P.str_of_str ⟨.str x, H, I, ⟨t, rfl⟩, q⟩
section
variable {X : Cx} {st : Stmt} {ts : TS} {h0 : ExceptHandler} {hs : List ExceptHandler} {tpos : Pos}
end
end L2

set_option Elab.async false
set_option linter.all false
set_option maxRecDepth 100000
/-! sorted(xs, key=f): f a def of the text that tells a new tuple of two ints, no two alike. -/
namespace GS
open PySem PyProof.Rows PySem.W
section
variable {prog : Program} {w : World} {A : Around} {E : Value → Shared → Prop} {s : Shared}
end
end GS
namespace L2
open PySem PySem.Spec PyProof.Rows PySem.W
end L2

set_option Elab.async false
set_option linter.all false
set_option maxRecDepth 100000
/-! An exception on its way through the frames: its class and its dict stay. -/
namespace L2
open PySem PySem.Spec PyProof.Rows PySem.W
theorem dict_mapFields (f : Array Value → Array Value) (o : Obj) : (Obj.mapFields f o).dict = o.dict := by unfold Obj.mapFields; split <;> rfl
/-- how far the trace is: none yet, or the mark of its newest entry -/
noncomputable def Trail (B h : Heap) (e : Addr) (vs : Array Value) : Option Value → Prop
  | none => vs[1]? = some .none
  | some fl => ∃ T oT ts, vs[1]? = some (.ref T) ∧ B.get? T = none ∧ T ≠ e ∧ h.get? T = some oT ∧ oT.data = .fields ts ∧ ts[3]? = some fl
structure Sta (B : Heap) (l : List Env) (e : Addr) (cls : Value) (dd : Option Addr) (tr : Option Value) (h : Heap) : Prop where
  stay : B.StaysIn h
  new : B.get? e = none
  funs : h.FunFrames B l
  obj : ∃ oe vs, h.get? e = some oe ∧ oe.cls = cls ∧ oe.dict = dd ∧ oe.data = .fields vs ∧ 1 < vs.size ∧ Trail B h e vs tr
theorem Sta.tail {B h : Heap} {env : Env} {l : List Env} {e : Addr} {cls : Value} {dd : Option Addr} {tr : Option Value} (x : Sta B (env :: l) e cls dd tr h) : Sta B l e cls dd tr h :=
  ⟨x.stay, x.new, x.funs.2.2, x.obj⟩
section
variable {M : Model} {A : Around} {E : Value → Shared → Prop} {s : Shared} {B : Heap} {env : Env} {l outer : List Env} {L e : Addr} {cls : Value} {dd : Option Addr} {Q : Unit → Shared → Prop}
theorem sta_entry {oe : Obj} {vs : Array Value} {head : Value} {nx : Bool} (hfr : A.frames = some (env :: outer)) (hl : s.heap.FunFrames B (env :: outer)) (hf : env.frame = some L) (st : B.StaysIn s.heap) (new : B.get? e = none)
    (he : s.heap.get? e = some oe) (hd : oe.data = .fields vs) (hz : 1 < vs.size) (k : ∀ h', Sta B (env :: outer) e oe.cls oe.dict (some (rawInt L)) h' → s.heap.UpToSlots h' → Q () { s with heap := h' }) :
    wpAny M A (do let a ← frameOf env; let pl ← entryPlaceOf L nx; let b ← EntryCells.newEntry head a .none (rawInt L) .none pl; setField (.ref e) 1 b) Q E s := by
  have nofr : e ∉ (env :: outer).filterMap (·.frame) := fun hm => by
    obtain ⟨_, o, ho, hn⟩ := hl.mem hm
    rw [he] at ho; cases ho; exact hn vs hd
  refine wpAny_bind (wpAny_frameOf_fun hfr hl hf fun h1 so => wpAny_bind (wpAny_entryPlaceOf fun pl hpl => ?_))
  unfold EntryCells.newEntry newFields
  refine wpAny_bind (wpAny_newObj_type ?_ (hpl.sizeOk5 _ _ _ _ _))
  obtain ⟨ts, hts, h3⟩ : ∃ ts : Array Value, ts = ([head, .ref L, .none, rawInt L, .none] ++ (if pl.isEmpty then List.replicate 6 Value.none else pl)).toArray ∧ ts[3]? = some (rawInt L) :=
    ⟨_, rfl, by first | (simp; done) | (rcases hpl with rfl | ⟨_, _, _, _, _, _, _, rfl⟩ <;> simp)⟩
  rw [← hts]
  have e1 : h1.get? e = some oe := (so.2.1 e nofr).trans he
  have st1 : B.StaysIn h1 := fun b o q => (so.2.1 b fun hm => by rw [(hl.mem hm).1] at q; cases q).trans (st b o q)
  have e2 := Heap.get?_push_of_some (h := h1) { cls := .type "traceback", dict := none, data := .fields ts } e1
  have hne : h1.objs.size ≠ e := Nat.ne_of_gt (Heap.lt_size e1)
  refine wpAny_setField e2 hd hz (k _ ?_ ?_)
  all_goals
    have d3 := Obj.data_mapFields hd (·.setIfInBounds 1 (Value.ref h1.objs.size))
    have e3 := Heap.get?_update_self (Obj.mapFields (·.setIfInBounds 1 (Value.ref h1.objs.size))) e2 (Obj.isFreed_of_fields d3)
    have old : ∀ b o, b ≠ e → h1.get? b = some o → ((h1.push { cls := .type "traceback", dict := none, data := .fields ts }).update e (Obj.mapFields (·.setIfInBounds 1 (Value.ref h1.objs.size)))).get? b = some o := fun b o nb q => by
      rw [Heap.get?_update_other _ _ (Ne.symm nb)]
      exact Heap.get?_push_of_some _ q
    have norec : ∀ b o, s.heap.get? b = some o → (∀ ws, o.data ≠ .fields ws) → b ≠ e := fun b o q hn z => by
      rw [z, he] at q; cases q; exact hn vs hd
  · refine ⟨fun b o q => old b o (fun z => by rw [z, new] at q; cases q) (st1 b o q), new, hl.of_keeps fun b o q hn => ?_, _, _, e3, Obj.cls_mapFields _ _, dict_mapFields _ _, d3, by simpa using hz, h1.objs.size, _, ts, by simp [hz], st1.fresh, hne,
      (Heap.get?_update_other _ _ (Ne.symm hne)).trans (Heap.get?_push_size h1 rfl), rfl, h3⟩
    obtain ⟨sl, q1⟩ := so.2.2 b o q
    exact ⟨_, old b _ (norec b o q hn) q1, rfl⟩
  · intro b o q hn
    obtain ⟨sl, q1⟩ := so.2.2 b o q
    exact ⟨sl, old b _ (norec b o q hn) q1⟩
/-- the frame is noted, the first time or when the exception comes from another one -/
theorem sta_note {tr : Option Value} (hfr : A.frames = some (env :: outer)) (hf : env.frame = some L) (htr : tr = none ∨ tr = some .none) (x : Sta B (env :: outer) e cls dd tr s.heap)
    (k : ∀ h', Sta B (env :: outer) e cls dd (some (rawInt L)) h' → s.heap.UpToSlots h' → Q () { s with heap := h' }) : wpAny M A (noteFrame (.ref e) env) Q E s := by
  obtain ⟨st, new, hl, oe, vs, he, hc, hdd, hd, hz, tl⟩ := x
  unfold noteFrame
  simp only [hf]
  rcases htr with rfl | rfl
  · have h1 : vs[1]? = some .none := tl
    refine wpAny_bind (wpAny_field he hd h1 ?_)
    rw [if_neg (by decide)]
    exact sta_entry hfr hl hf st new he hd hz fun h' y u => k h' (by rw [← hc, ← hdd]; exact y) u
  · obtain ⟨T, oT, ts, h1, nT, hTe, hT, dT, h3⟩ := tl
    refine wpAny_bind (wpAny_field he hd h1 ?_)
    rw [if_pos (show (Value.ref T != Value.none) = true from by simp)]
    refine wpAny_bind (wpAny_field hT dT h3 ?_)
    rw [if_neg (show ¬ ((Value.none == rawInt L) = true) from by simp [rawInt])]
    refine wpAny_bind (wpAny_setField hT dT (Array.getElem?_eq_some_iff.mp h3).1 ?_)
    have other : ∀ b, b ≠ T → (s.heap.update T (Obj.mapFields (·.setIfInBounds 3 Value.none))).get? b = s.heap.get? b := fun b hb => Heap.get?_update_other _ _ (Ne.symm hb)
    have norec : ∀ b o, s.heap.get? b = some o → (∀ ws, o.data ≠ .fields ws) → b ≠ T := fun b o q hn z => by
      rw [z, hT] at q; cases q; exact hn ts dT
    refine sta_entry hfr (hl.of_keeps fun b o q hn => ⟨o, (other b (norec b o q hn)).trans q, rfl⟩) hf (fun b o q => (other b fun z => by rw [z, nT] at q; cases q).trans (st b o q)) new ((other e (Ne.symm hTe)).trans he) hd hz
      fun h' y u => k h' (by rw [← hc, ← hdd]; exact y) fun b o q hn => u b o ((other b (norec b o q hn)).trans q) hn
/-- the mark is taken off -/
theorem sta_off {fl : Value} (x : Sta B l e cls dd (some fl) s.heap) (k : ∀ h', Sta B l e cls dd (some .none) h' → s.heap.UpToSlots h' → Q () { s with heap := h' }) : wpAny M A (setFlight (.ref e) none) Q E s := by
  obtain ⟨st, new, hl, oe, vs, he, hc, hdd, hd, hz, T, oT, ts, h1, nT, hTe, hT, dT, h3⟩ := x
  have h3z : 3 < ts.size := (Array.getElem?_eq_some_iff.mp h3).1
  have other : ∀ b, b ≠ T → (s.heap.update T (Obj.mapFields (·.setIfInBounds 3 ((none : Option Addr).elim Value.none fun f => rawInt f)))).get? b = s.heap.get? b := fun b hb => Heap.get?_update_other _ _ (Ne.symm hb)
  have norec : ∀ b o, s.heap.get? b = some o → (∀ ws, o.data ≠ .fields ws) → b ≠ T := fun b o q hn z => by
    rw [z, hT] at q; cases q; exact hn ts dT
  unfold setFlight
  refine wpAny_bind (wpAny_field he hd h1 ?_)
  rw [if_pos (show (Value.ref T != Value.none) = true from by simp)]
  refine wpAny_setField hT dT h3z (k _ ⟨fun b o q => (other b fun z => by rw [z, nT] at q; cases q).trans (st b o q), new, hl.of_keeps fun b o q hn => ⟨o, (other b (norec b o q hn)).trans q, rfl⟩, oe, vs,
    (other e (Ne.symm hTe)).trans he, hc, hdd, hd, hz, T, _, _, h1, nT, hTe, Heap.get?_update_self _ hT (Obj.isFreed_of_fields (Obj.data_mapFields dT _)), Obj.data_mapFields dT _, by simp [h3z]⟩ fun b o q hn => ⟨o.slots, (other b (norec b o q hn)).trans q⟩)
/-- an exception leaves a frame -/
theorem sta_leave {tr : Option Value} (hfr : A.frames = some (env :: outer)) (hf : env.frame = some L) (htr : tr = none ∨ tr = some .none) (x : Sta B (env :: outer) e cls dd tr s.heap)
    (k : ∀ h', Sta B outer e cls dd (some .none) h' → s.heap.UpToSlots h' → Q () { s with heap := h' }) : wpAny M A (leaving env (.ref e)) Q E s := by
  unfold leaving
  exact wpAny_bind (sta_note hfr hf htr x fun h1 y u => sta_off y fun h2 z u2 => k h2 z.tail (u.trans u2))
end
end L2

set_option Elab.async false
set_option linter.all false
set_option maxRecDepth 100000
/-! Exceptions of the text's own classes: raised, passed on by a def, caught. -/
namespace L2
open PySem PySem.Spec PyProof.Rows PySem.W

theorem ObjOk.there {P : Program} {w : World} {H : Hp} {h : Heap} {a : Addr} : ∀ {o : HO}, ObjOk P w H h a o → ∃ u, h.get? a = some u
  | .lst xs, x => by obtain ⟨_, _, _, _, e⟩ := x; exact ⟨_, e⟩
  | .tup xs, x => by obtain ⟨_, _, _, o, e, _⟩ := x; exact ⟨_, e⟩
  | .dK kvs, x => by obtain ⟨_, _, _, _, o, _, _, e, _⟩ := x; exact ⟨_, e⟩
  | .dT kvs, x => by obtain ⟨_, _, _, _, o, _, _, e, _⟩ := x; exact ⟨_, e⟩
  | .set S n, x => by obtain ⟨o, _, _, _, e, _⟩ := x; exact ⟨_, e⟩
  | .ins C dx fs, x => by obtain ⟨_, _, _, e, _⟩ := x; exact ⟨_, e⟩
  | .own y, x => by obtain ⟨_, e⟩ := x; exact ⟨_, e⟩
  | .xd fs, x => by obtain ⟨_, ⟨_, _, _, e, _⟩, _⟩ := x; exact ⟨_, e⟩
  | .rng lo hi, x => by obtain ⟨_, _, _, e⟩ := x; exact ⟨_, e⟩
  | .frz ob u, x => by obtain ⟨e, _⟩ := x; exact ⟨_, e⟩
  | .tbl ps, x => ⟨_, (show h.get? a = some _ from x)⟩
  | .met f y, x => ⟨_, (show h.get? a = some _ from x)⟩
  | .ext φ, x => by obtain ⟨_, ⟨_, e⟩, _⟩ := x; exact ⟨_, e⟩

/-- an exception on its way: B is what stays as it is -/
structure Fly (P : Program) (w : World) (base : Heap) (outer : List Env) (H : Hp) (s : Shared) (s' : Shared) (ea : Addr) (cls : Value) (dd : Option Addr) (B : Heap) (H' : Hp) : Prop where
  os : s'.os = s.os
  bare : AllBare s'.gens
  fly : Sta B outer ea cls dd (some .none) s'.heap
  hok : HOk P w H' B
  bst : base.StaysIn B
  un : Un (frs outer) [] H H' s.heap s'.heap
  keepB : ∀ b o, s.heap.get? b = some o → H b = none → b ∉ frs outer → B.get? b = some o
  thereB : ∀ b o, s.heap.get? b = some o → b ∉ frs outer → ∃ o', B.get? b = some o'
noncomputable def CX1 (P : Program) (w : World) (base : Heap) : CXT := fun outer H s E e s' => ∃ (ea : Addr) (cls : Value) (dd : Option Addr) (B : Heap) (H' : Hp), e = .ref ea ∧ Fly P w base outer H s s' ea cls dd B H' ∧ E cls dd H'

section
variable {P : Program} {w : World} {base : Heap} {outer : List Env} {H H' : Hp} {s s' : Shared} {ea : Addr} {cls : Value} {dd : Option Addr} {B : Heap}
theorem Fly.notB (f : Fly P w base outer H s s' ea cls dd B H') : H' ea = none := by
  cases e : H' ea with
  | none => rfl
  | some o =>
    obtain ⟨u, q⟩ := ObjOk.there (f.hok ea o e)
    rw [f.fly.new] at q; cases q
/-- the heap goes on: what B holds stays, all else up to slots -/
theorem Fly.go (f : Fly P w base outer H s s' ea cls dd B H') {l : List Env} {h' : Heap} (fl : Sta B l ea cls dd (some .none) h') (up : s'.heap.UpToSlots h') : Un (frs outer) [] H H' s.heap h' where
  keep := fun b o e n hb _ => fl.stay b o (f.keepB b o e n hb)
  slot := fun b o e n hb hx => by
    obtain ⟨sl, e1⟩ := f.un.slot b o e n hb hx
    obtain ⟨_, o', e2, d⟩ := f.fly.funs.mem hb
    rw [e1] at e2
    have e2 := Option.some.inj e2
    subst e2
    obtain ⟨sl', e3⟩ := up b _ e1 d
    exact ⟨sl', e3⟩
  free := f.un.free
  there := fun b o e hx => by
    by_cases hb : b ∈ frs outer
    · obtain ⟨_, o', e2, d⟩ := f.fly.funs.mem hb
      obtain ⟨sl, e3⟩ := up b _ e2 d
      exact ⟨_, e3⟩
    · obtain ⟨o', e1⟩ := f.thereB b o e hb
      exact ⟨o', fl.stay b o' e1⟩
  tups := f.un.tups
  frzs := f.un.frzs
  tbls := f.un.tbls
end
/-- the abstract heap without the thing at a -/
noncomputable def offH (H : Hp) (a : Addr) : Hp := fun b => if b = a then none else H b
theorem offH_ne {H : Hp} {a b : Addr} (h : b ≠ a) : offH H a b = H b := by unfold offH; rw [if_neg h]
theorem offH_same {H : Hp} {a : Addr} : offH H a a = none := by unfold offH; rw [if_pos rfl]
theorem offH_free {H : Hp} {a b : Addr} (h : H b = none) : offH H a b = none := by
  by_cases q : b = a
  · rw [q, offH_same]
  · rw [offH_ne q, h]
noncomputable def LooseAt (H : Hp) (a : Addr) : Prop := H a = none ∨ ∃ φ, H a = some (.ext φ)
theorem LooseAt.ne {H : Hp} {a b : Addr} {o : HO} (l : LooseAt H a) (e : H b = some o) (h : ∀ φ, o ≠ .ext φ) : b ≠ a := by
  rintro rfl
  rcases l with z | ⟨φ, z⟩
  · rw [z] at e; cases e
  · rw [z] at e; cases e; exact h φ rfl
/-- the same of one that has been made before and may have a dict -/
noncomputable def LetsD (X : Cx) (E : XK) : Prop := ∀ (pins : List (Addr × Obj)) (σ : St) (H : Hp) (s : Shared) (ea : Addr) (oe : Obj) (vs : Array Value), Inv X pins σ H s → s.heap.get? ea = some oe → oe.data = .fields vs → 1 < vs.size → vs[1]? = some .none → X.s₀.heap.get? ea = none → LooseAt H ea →
  E oe.cls oe.dict (offH H ea) → X.xe (.ref ea) s
section
variable {P : Program} {w : World} {K : PySem.W.Frag} {mg : Str → Option Value} {base : Heap} {N : List Str} {qual : Str} {scope : Scope} {f : Addr} {cd : Value} {A : Around} {outer : List Env} {s₀ : Shared} {H₀ : Hp} {E : XK}
theorem letsD_def : LetsD (cxOf (CX1 P w base) P w K mg base N qual scope f cd A outer s₀ H₀ E) E := by
  intro pins σ H s ea oe vs I he hd hz h1 hnew lo hE
  have st := I.stack
  have hin : ∀ env ∈ (envOfC qual scope s₀.heap.objs.size f cd :: outer), ∀ b, env.frame = some b → b ∈ ea :: frs (envOfC qual scope s₀.heap.objs.size f cd :: outer) := fun env he b hb => List.mem_cons_of_mem _ (List.mem_filterMap.mpr ⟨env, he, hb⟩)
  have eas : ∀ b o, s₀.heap.get? b = some o → b ≠ ea := fun b o e z => by
    have hnew : s₀.heap.get? ea = none := hnew
    rw [z, hnew] at e; cases e
  have nst : ∀ b o, s₀.heap.get? b = some o → b ∉ frs outer → b ∉ ea :: frs (envOfC qual scope s₀.heap.objs.size f cd :: outer) := fun b o e hb hm => by
    rcases List.mem_cons.mp hm with z | hm
    · exact eas b o e z
    rcases List.mem_cons.mp (I.stkSub b hm) with z | z
    · exact absurd (Heap.lt_size e) (by rw [z]; exact Nat.not_lt.mpr I.ok.above)
    · exact hb z
  have sta : Sta (hideAll s.heap (ea :: frs (envOfC qual scope s₀.heap.objs.size f cd :: outer))) (envOfC qual scope s₀.heap.objs.size f cd :: outer) ea oe.cls oe.dict none s.heap :=
    ⟨fun b o q => of_hideAll _ q, hideAll_none _ List.mem_cons_self, funFrames_hide st hin, oe, vs, he, rfl, rfl, hd, hz, h1⟩
  refine sta_leave I.ok.frames rfl (.inl rfl) sta fun h'' x1 x4 => ?_
  have up : s.heap.UpToSlots h'' := x4
  have inB : ∀ b o, s.heap.get? b = some o → b ∉ ea :: frs (envOfC qual scope s₀.heap.objs.size f cd :: outer) → (hideAll s.heap (ea :: frs (envOfC qual scope s₀.heap.objs.size f cd :: outer))).get? b = some o := fun b o e hb => hideAll_get _ e hb
  have fwd : ∀ b o, H b = some o → (∀ φ, o ≠ .ext φ) → offH H ea b = some o := fun b o e h => by rw [offH_ne (lo.ne e h)]; exact e
  have nb : ∀ b, (∃ o, H b = some o ∧ ∀ φ, o ≠ .ext φ) ∨ (b ≠ ea ∧ H b ≠ none) → b ∉ ea :: frs (envOfC qual scope s₀.heap.objs.size f cd :: outer) := fun b h hm => by
    have hne : b ≠ ea := by
      rcases h with ⟨o, e, h⟩ | h
      · exact lo.ne e h
      · exact h.1
    rcases List.mem_cons.mp hm with z | hm
    · exact hne z
    have hf := I.stkFree b hm
    rcases h with ⟨o, e, _⟩ | h
    · rw [hf] at e; cases e
    · exact h.2 hf
  refine ⟨ea, oe.cls, oe.dict, _, offH H ea, rfl, ⟨I.os, I.bare, x1, fun a o e => ?_, fun b o e => ?_, ⟨fun b o e n hb _ => ?_, fun b o e n hb _ => ?_, fun b o e n _ => offH_free (I.base.free b o e n (by intro z; cases z)), fun b o e _ => ?_,
    fun b xs e => fwd b _ (I.base.tups b xs e) (by intro φ z; cases z), fun b o u e => fwd b _ (I.base.frzs b o u e) (by intro φ z; cases z), fun b ps e => ?_⟩, fun b o e n hb => ?_, fun b o e hb => ?_⟩, hE⟩
  · have ne : a ≠ ea := fun z => by rw [z, offH_same] at e; cases e
    rw [offH_ne ne] at e
    refine (I.hok a o e).stay (fun b u hb q => inB b u q (nb b ?_)) (fun b q => fwd b _ q (by intro φ z; cases z)) fun b xs q => fwd b _ q (by intro φ z; cases z)
    rcases hb with rfl | hb
    · exact .inr ⟨ne, by rw [e]; intro z; cases z⟩
    · exact .inl ⟨_, hb, by intro φ z; cases z⟩
  · refine inB b o (I.bk b o e) fun hm => ?_
    have hb := I.bs b o e
    rcases List.mem_cons.mp hm with z | hm
    · obtain ⟨o', e'⟩ := I.ok.bs b o e
      exact eas b o (I.ok.bs b o e).1 z
    have z : base.get? b = none := (st.mem hm).1
    rw [z] at e; cases e
  · exact x1.stay b o (inB b o (I.base.keep b o e n hb (by intro z; cases z)) (nst b o e hb))
  · obtain ⟨sl, e1⟩ := I.base.slot b o e n hb (by intro z; cases z)
    obtain ⟨_, o', e2, d⟩ := I.ok.funs.mem hb
    have e2 : s₀.heap.get? b = some o' := e2
    rw [e] at e2
    have e2 := Option.some.inj e2
    subst e2
    obtain ⟨sl', e3⟩ := up b _ e1 d
    exact ⟨sl', e3⟩
  · obtain ⟨o', e1⟩ := I.base.there b o e (by intro z; cases z)
    by_cases hb : b ∈ frs (envOfC qual scope s₀.heap.objs.size f cd :: outer)
    · obtain ⟨_, o2, e2, d⟩ := st.mem hb
      obtain ⟨sl, e3⟩ := up b _ e2 d
      exact ⟨_, e3⟩
    · exact ⟨o', x1.stay b o' (inB b o' e1 (by
        intro hm
        rcases List.mem_cons.mp hm with z | hm
        · exact eas b o e z
        · exact hb hm))⟩
  · obtain ⟨m, e1⟩ := I.base.tbls b ps e
    exact ⟨m, fwd b _ e1 (by intro φ z; cases z)⟩
  · exact inB b o (I.base.keep b o e n hb (by intro z; cases z)) (nst b o e hb)
  · obtain ⟨o', e1⟩ := I.base.there b o e (by intro z; cases z)
    exact ⟨o', inB b o' e1 (nst b o e hb)⟩
end
/-! ### caught -/
/-- within an except suite: the exception stands at ea, as oe -/
noncomputable def exCx (X : Cx) (ea : Addr) (oe : Obj) : Cx := { X with A := X.A.mark (some (.ref ea)), calm := false, pn := (ea, oe) :: X.pn, xe := fun _ _ => False }
theorem Inv.toEx {X : Cx} {pins : List (Addr × Obj)} {σ : St} {H : Hp} {s : Shared} {ea : Addr} {oe : Obj} {vs : Array Value} (I : Inv X pins σ H s) (he : s.heap.get? ea = some oe) (hd : oe.data = .fields vs) (hn : H ea = none) : Inv (exCx X ea oe) pins σ H s where
  ok := ⟨I.ok.mod, I.ok.kind, I.ok.glob, I.ok.blt, I.ok.above, I.ok.inj, I.ok.has, I.ok.cab, fun z => (by cases z), I.ok.frames, I.ok.stk, I.ok.exf, I.ok.bs, I.ok.bsz, I.ok.noex, I.ok.exfs, I.ok.funs, I.ok.frf⟩
  os := I.os
  bare := I.bare
  base := I.base
  loc := I.loc
  cell := I.cell
  free := I.free
  freeC := I.freeC
  pin := fun p hp => by
    rcases List.mem_cons.mp hp with rfl | hp
    · refine ⟨he, hn, fun z => ?_, fun z => ?_, fun v z => by rw [hd] at z; cases z⟩
      · obtain ⟨m, ⟨o, es, ep, ho, hdo, _⟩, _⟩ := I.loc
        have z : ea = X.env.locals := z
        rw [← z, he] at ho
        cases ho
        rw [hd] at hdo; cases hdo
      · obtain ⟨_, o, ho, d⟩ := I.funs.mem z
        have ho : s.heap.get? ea = some o := ho
        rw [he] at ho
        cases ho
        exact d vs hd
    · exact I.pin p hp
  hok := I.hok
  len := I.len
theorem Inv.ofEx {X : Cx} {pins : List (Addr × Obj)} {σ : St} {H : Hp} {s : Shared} {ea : Addr} {oe : Obj} (ok : X.Ok) (I : Inv (exCx X ea oe) pins σ H s) : Inv X pins σ H s :=
  ⟨ok, I.os, I.bare, I.base, I.loc, I.cell, I.free, I.freeC, fun p hp => I.pin p (List.mem_cons_of_mem _ hp), I.hok, I.len⟩
theorem SP.ofEx {X : Cx} {pins : List (Addr × Obj)} {D : Ends} {f : Flow} {s : Shared} {ea : Addr} {oe : Obj} (ok : X.Ok) (h : SP (exCx X ea oe) pins D f s) : SP X pins D f s := by
  cases f with
  | next => obtain ⟨σ', H', I, q⟩ := h; exact ⟨σ', H', I.ofEx ok, q⟩
  | brk => obtain ⟨σ', H', I, q⟩ := h; exact ⟨σ', H', I.ofEx ok, q⟩
  | cont => obtain ⟨σ', H', I, q⟩ := h; exact ⟨σ', H', I.ofEx ok, q⟩
  | ret u => obtain ⟨v, σ', H', I, r, q⟩ := h; exact ⟨v, σ', H', I.ofEx ok, r, q⟩
theorem exc_ty {M : Model} {h : Heap} {ea : Addr} {oe : Obj} {cls : Value} (he : h.get? ea = some oe) (hc : oe.cls = cls) : Looks M h (typeOf (.ref ea)) cls := hc ▸ (Looks.ld he).andThen .now
/-- an exception has come into a try of this def -/
theorem landed {X : Cx} {pins : List (Addr × Obj)} {σ : St} {H H' : Hp} {s s' : Shared} {ea : Addr} {cls : Value} {dd : Option Addr} {B h' : Heap} (I : Inv X pins σ H s) (F : Fly X.prog X.w X.base X.stack H s s' ea cls dd B H') (fl : Sta B X.stack ea cls dd (some .none) h') (up : s'.heap.UpToSlots h') :
    ∃ oe vs, Inv X pins σ H' { s' with heap := h' } ∧ h'.get? ea = some oe ∧ oe.cls = cls ∧ oe.data = .fields vs := by
  have u := F.go fl up
  obtain ⟨oe, vs, he, hc, hq, hd, _⟩ := fl.obj
  exact ⟨oe, vs, I.call' (s' := { s' with heap := h' }) (ch := []) F.os u (F.hok.kept fun b o q => fl.stay b o q) F.bare (fun b z => absurd z (by simp)), he, hc, hd⟩
theorem Fly.on {P : Program} {w : World} {base : Heap} {outer : List Env} {H H' : Hp} {s s' : Shared} {ea : Addr} {cls : Value} {dd : Option Addr} {B h' : Heap} (F : Fly P w base outer H s s' ea cls dd B H') (fl : Sta B outer ea cls dd (some .none) h') (up : s'.heap.UpToSlots h') :
    Fly P w base outer H s { s' with heap := h' } ea cls dd B H' := ⟨F.os, F.bare, fl, F.hok, F.bst, F.go fl up, F.keepB, F.thereB⟩
/-- how an exception is caught by the one clause «except x: suite» -/
noncomputable def Catch (X : Cx) (pins : List (Addr × Obj)) (D : Ends) (hs : List ExceptHandler) : Value → Shared → Prop := fun e s₁ =>
  wpAny (model X.prog X.w) X.A (noteFrame e X.env) (fun _ s₂ => wpAny (model X.prog X.w) X.A (setFlight e none) (fun _ s₃ => wpAny (model X.prog X.w) X.A (handleBy e X.env hs) (SP X pins D) X.xe s₃) X.xe s₂) X.xe s₁

/-! ### calls of defs that may raise -/
structure Cal1 (P : Program) (w : World) (K : PySem.W.Frag) (mg : Str → Option Value) (base : Heap) (k : Nat) (x : Str) (ps : List Str) (sp : Sp) : Prop where
  ex : ∃ (f : Addr) (fd : FuncData), FnOk P w K mg base (CX1 P w base) k f fd ps sp ∧ mg x = some (.ref f) ∧ PySem.W.keepIn K (.ref f) = true ∧ Binds K fd ps []
theorem pass10 {P : Program} {w : World} {base : Heap} {X : Cx} : Passes (CX1 P w base) X E0 := fun _ _ _ _ _ _ _ ⟨_, _, _, _, _, _, _, h⟩ => h.elim
/-- .. where it is known that nothing is raised -/
theorem pe_cal1 {X : Cx} {k : Nat} {x : Str} {ps : List Str} {sp : Sp} {e : Expr} {es : List Expr} {t : TA} {p pos : Pos} (c : Cal1 X.prog X.w X.K X.mg X.base k x ps sp) (hr : Room k X.A) (hg : Gl X x) (ha : PA X (e :: es) t)
    (hdb : (x == ("__debug__" : Str)) = false := by decide) (he : starEach (e :: es) X.env = (false, eval e X.env) :: starEach es X.env := by rfl) (hpl : (backTo pos (starEach es X.env)).any (·.1) = false := by rfl) :
    PE X (.Call (.Name x p) (e :: es) [] pos) (tCall sp [] E0 t) := by
  obtain ⟨f, fd, F, hm, hk, hb⟩ := c.ex
  exact pe_call F hr hg hm hk hb .nil pass10 ha hdb he hpl
/-- a def that may raise, by its body -/
theorem Fun.ok1 {P : Program} {w : World} {K : PySem.W.Frag} {mg : Str → Option Value} {base : Heap} {x qual : Str} {st : Stmt} {f : Addr} {fd : FuncData} {N ps : List Str} {k : Nat} {sp : Sp} (F : Fun K x qual st f fd) (S : FnScope N ps (defScope st)) (len : ∀ vs H Q E, sp vs H Q E → vs.length = ps.length)
    (hbody : ∀ (cdv : Value) (A : Around) (outer : List Env) (s : Shared) (H : Hp) (vs : List V) (Q : VK) (E : XK), Room k (A.deeper (envOfC qual (defScope st) s.heap.objs.size f cdv)) → sp vs H Q E →
      ∃ t, PSs (cxOf (CX1 P w base) P w K mg base N qual (defScope st) f cdv A outer s H E) (defBody st) t ∧ t { nx := fun _ H' => Q .non H', rt := Q } (start N vs) H) : FnOk P w K mg base (CX1 P w base) (k + 1) f fd ps sp := by
  obtain ⟨oc, od, kV, doc, pm, an, cdv, ct, osl, rfl, lk, hcd⟩ := F.ex
  exact fn_of lk hcd S len fun A outer s H vs Q E hr hsp => hbody cdv A outer s H vs Q E hr hsp
theorem At0.cal1 {P : Program} {w : World} {K : PySem.W.Frag} {mg : Str → Option Value} {base h : Heap} {k : Nat} {x : Str} {st : Stmt} {ps : List Str} {sp : Sp} (a : At0 K x st) (X : K.In h) (G : h.Ns mainGlobals mg)
    (hb : ∀ (kV doc pm : Value) (an : Option Addr) (cdv ct : Value) (us : List Value), us.length = ps.length → bindArgs (PySem.W.fnOf x x (defArgs st) (defBody st) (defScope st) .none kV doc pm an cdv ct) ⟨us, []⟩ = pure (ps.zip us))
    (ok : ∀ (f : Addr) (fd : FuncData), Fun K x x st f fd → FnOk P w K mg base (CX1 P w base) k f fd ps sp) : Cal1 P w K mg base k x ps sp := by
  obtain ⟨f, fd, F, e⟩ := a.ex
  exact ⟨f, fd, ok f fd F, PySem.W.mg_of X G e, F.kp, F.binds hb⟩
/-- a class of the text's own, over ValueError -/
structure ExcC (K : PySem.W.Frag) (mg : Str → Option Value) (base : Heap) (x : Str) (C : Addr) : Prop where
  own : ∃ bmB newId B initId, ExcBaseFacts B newId initId bmB ∧ OwnCls x C bmB newId mg base
  mg : mg x = some (.ref C)
theorem own_mk {K : PySem.W.Frag} {base : Heap} {mg : Str → Option Value} {x : Str} {C : Addr} {bmB : List Value} {newId : String} (X : K.In base) (G : base.Ns mainGlobals mg) (e : nsIn K mainGlobals x = some (some (.ref C))) (q : excIn K C bmB newId = true) : OwnCls x C bmB newId mg base := by
  refine ⟨mg_of X G e, ?_⟩
  unfold excIn at q
  split at q
  · rename_i dd cd sl ho
    split at q
    · rename_i C' bm k0 k1 k2 k3 n k5 hm hs
      simp only [Bool.and_eq_true, beq_iff_eq, Bool.not_eq_true'] at q
      obtain ⟨⟨⟨⟨⟨e1, e2⟩, hdel⟩, htl⟩, hok⟩, hni⟩ := q
      subst e1 e2
      obtain ⟨nm, bs, mro, ns, qn, hd, sn, sub, ab, col, del⟩ := cd
      simp only at hm hdel hok hni
      subst hm hdel
      have hsl : sl = #[k0, k1, k2, k3, some (.builtin n), k5] := by
        cases sl
        simp only at hs
        rw [hs]
      subst hsl
      exact ⟨bm, ns, nm, qn, bs, hd, sn, sub, ab, col, dd, k0, k1, k2, k3, k5, _, X _ _ ho, .of_isNs (isNs_of_in X hok), nsMap_none_of_in X hok hni, tail_of_in X htl⟩
    · cases q
  · cases q
/-! ### try: f(..) except C: suite -/
section
variable {X : Cx} {k : Nat} {x y : Str} {C L : Addr} {ps : List Str} {sp : Sp} {e : Expr} {es : List Expr} {t : TA} {ts : TS} {env0 : List Env} {p np pos epos tpos hpos : Pos} {b0 : Stmt} {suite : List Stmt}
/-- the call in the try's body -/
theorem try_call {pins : List (Addr × Obj)} {s : Shared} {σ : St} {H : Hp} {Q : VK} {E : XK} {XE : Value → Shared → Prop} (c : Cal1 X.prog X.w X.K X.mg X.base k x ps sp) (hr : Room k X.A) (hg : Gl X x) (ha : PA (X.wish XE) (e :: es) t) (I : Inv X pins σ H s)
    (hx : ∀ (H1 : Hp) (s1 : Shared) (v : Value) (s2 : Shared), Inv X pins σ H1 s1 → CX1 X.prog X.w X.base X.stack H1 s1 E v s2 → XE v s2) (h : t σ H fun vs H1 => sp vs H1 Q E)
    (hdb : (x == ("__debug__" : Str)) = false) (he : starEach (e :: es) X.env = (false, eval e X.env) :: starEach es X.env) (hpl : (backTo pos (starEach es X.env)).any (·.1) = false) :
    wpAny (model X.prog X.w) X.A (eval (.Call (.Name x p) (e :: es) [] pos) X.env) (EP X pins σ Q) XE s := by
  obtain ⟨f, fd, F, hm, hk, hb⟩ := c.ex
  refine wpAny_Call_Name_kw (ld_glob I hg hm ?_ hdb)
  refine PySem.W.callWith_K (h₀ := X.base) I.ok.mod.kin hk (thn (ha pos pins s σ H _ (I.wish XE) h) fun us s1 ⟨vs, H1, I1, r, q⟩ => ⟨I1.kIn, ?_⟩) he hpl
  have I1 := I1.unwish
  have hl : (us ++ ([] : List Value)).length = ps.length := by rw [List.append_nil, ← r.length]; exact F.len _ _ _ _ q
  have hb' := hb s1 us I1.kIn hl
  rw [List.append_nil] at hb'
  refine wpAny_call (codeAny_mono (F.run X.A X.stack s1 H1 ⟨us, []⟩ us vs Q E hr I1.env0 hb' r q) fun res s2 hq => ?_)
  cases res with
  | error v => exact hx H1 s1 v s2 I1 hq
  | ok fl =>
    cases fl with
    | ret u => exact I1.after hq
    | next => exact False.elim hq
    | brk => exact False.elim hq
    | cont => exact False.elim hq
end
/-! ### try: f(..) except C as e: return isinstance(e, ValueError) -/
theorem isinst_true {prog : Program} {w : World} {A : Around} {E : Value → Shared → Prop} {s : Shared} {x c t : Value} {K : PySem.W.Frag} {Q : Value → Shared → Prop} (X : K.In s.heap) (LT : Looks (model prog w) s.heap (typeOf x) t) (ne : (t == c) = false) (e : kitOne K t c = some true)
    (hx : x ≠ .builtin "__main__.__loader__#opaque") (h : Q (.bool true) s) : wpAny (model prog w) A (call (.builtin "isinstance") [x, c]) Q E s := by
  refine call_isinstance_of ?_ hx
  obtain ⟨hh, g, d, tk, os⟩ := s
  unfold kitOne at e
  rw [if_neg (by rw [ne]; exact Bool.false_ne_true)] at e
  unfold Builtin.«isinstance.nested»
  refine wpAny_bind (LT.at ?_)
  rw [if_neg (by rw [ne]; exact Bool.false_ne_true)]
  obtain ⟨hty, his, hsub⟩ := kit_cls (M := model prog w) X e
  have LI : Looks (model prog w) hh (isInstance x c) true := LT.andThen hsub
  refine wpAny_bind (hty.at ?_)
  rw [if_pos (by decide)]
  k_delta "plainIsInstance"
  refine wpAny_bind (wpAny_bind (his.at ?_))
  simp only [Bool.not_true, Bool.false_eq_true, if_false]
  refine wpAny_bind (LI.at ?_)
  first
    | exact wpAny_pure (wpAny_pure h)
    | (simp only [if_true]; first | exact wpAny_pure (wpAny_pure h) | exact wpAny_pure h | exact wpAny_bind (wpAny_pure (wpAny_pure h)))
theorem call_excIs {X : Cx} {ea : Addr} {oe : Obj} {T : String} : CallR (exCx X ea oe) (.builtin "isinstance") (fun xs H Q => xs = [.ref ea, .ty T] ∧ (oe.cls == .type T) = false ∧ kitOne X.K oe.cls (.type T) = some true ∧ Q (.bl true) H) := by
  intro pins s σ H xs us Q I r h
  obtain ⟨rfl, ne, e, q⟩ := h
  obtain ⟨u, w', rfl, r1, r2⟩ := vals2 r
  cases r1
  cases (show w' = Value.type T from r2)
  have pe := (I.pin (ea, oe) List.mem_cons_self).1
  exact isinst_true I.kIn (exc_ty pe rfl) ne e (by intro z; cases z) ⟨.bl true, H, I, rfl, q⟩
theorem Inv.forgot {X : Cx} {pins : List (Addr × Obj)} {σ : St} {H : Hp} {s : Shared} {m' : Str → Option Value} {h' : Heap} {t' : Nat} (I : Inv X pins σ H s) (hn : h'.Ns X.env.locals m') (sb : Heap.SameBut X.env.locals s.heap h') : Inv X pins (List.replicate X.N.length none) H { s with heap := h', toks := t' } where
  ok := I.ok
  os := I.os
  bare := I.bare
  base := by
    have ne : ∀ b o, X.s₀.heap.get? b = some o → b ≠ X.env.locals := fun b o e => Nat.ne_of_lt (Nat.lt_of_lt_of_le (Heap.lt_size e) I.ok.above)
    refine ⟨fun b o e n hb hx => (sb.2 b (ne b o e)).trans (I.base.keep b o e n hb hx), fun b o e n hb hx => ?_, I.base.free, fun b o e hx => ?_, I.base.tups, I.base.frzs, I.base.tbls⟩
    · obtain ⟨sl, e1⟩ := I.base.slot b o e n hb hx
      exact ⟨sl, (sb.2 b (ne b o e)).trans e1⟩
    · obtain ⟨o', e1⟩ := I.base.there b o e hx
      exact ⟨o', (sb.2 b (ne b o e)).trans e1⟩
  loc := ⟨m', hn, fun i x v _ e _ => by
    rw [List.getElem?_replicate] at e
    split at e
    · cases e
    · cases e⟩
  cell := fun x c e => by
    obtain ⟨v, z⟩ := I.cell x c e
    exact ⟨v, z.sameBut sb (I.cne x c e)⟩
  free := I.free
  freeC := I.freeC
  pin := fun p hp => by
    obtain ⟨e, n, ne, nf, d⟩ := I.pin p hp
    exact ⟨(sb.2 p.1 ne).trans e, n, ne, nf, d⟩
  hok := fun b ob e => by
    refine (I.hok b ob e).stay (fun c w' hc q => (sb.2 c ?_).trans q) (fun _ q => q) fun _ _ q => q
    rintro rfl
    rcases hc with hc | hc
    · rw [← hc, I.free] at e; cases e
    · rw [I.free] at hc; cases hc
  len := by simp
theorem catchIs {X : Cx} {pins : List (Addr × Obj)} {σ : St} {H H' : Hp} {s s' : Shared} {ea L : Addr} {cls : Value} {dd : Option Addr} {B : Heap} {D : Ends} {y n : Str} {C : Addr} {i : Nat} {np hpos p1 p2 p3 p4 p5 : Pos} {rest : List ExceptHandler} {env0 : List Env}
    (hst : X.stack = X.env :: env0) (hfr : X.env.frame = some L) (hg : Gl X y) (hm : X.mg y = some (.ref C)) (hx : exmOne X.K cls (.ref C) = some true) (I : Inv X pins σ H s) (F : Fly X.prog X.w X.base X.stack H s s' ea cls dd B H')
    (hN : X.N.Nodup) (hi : X.N[i]? = some n) (hl : X.env.scope.names.lookup n = some .local) (hgI : Gl X "isinstance") (hmI : X.mg "isinstance" = none) (hgV : Gl X "ValueError") (hmV : X.mg "ValueError" = none)
    (ne : (cls == .type "ValueError") = false) (hk : kitOne X.K cls (.type "ValueError") = some true) (q : D.rt (.bl true) H') (hdb : (y == ("__debug__" : Str)) = false := by decide) (hdn : (n == ("__debug__" : Str)) = false := by decide) (hcn : (n == ("__classdict__" : Str)) = false := by decide)
    (he : starEach [.Name n p2, .Name "ValueError" p3] X.env = (false, eval (.Name n p2) X.env) :: starEach [.Name "ValueError" p3] X.env := by rfl) (hpl : (backTo p4 (starEach [.Name "ValueError" p3] X.env)).any (·.1) = false := by rfl) :
    Catch X pins D (.ExceptHandler (some (.Name y np)) (some n) [.Return (some (.Call (.Name "isinstance" p1) [.Name n p2, .Name "ValueError" p3] [] p4)) p5] hpos :: rest) (.ref ea) s' := by
  have frs1 : X.A.frames = some (X.env :: env0) := by rw [← hst]; exact I.ok.frames
  have fly1 := F.fly
  rw [hst] at fly1
  refine sta_note frs1 hfr (.inr rfl) fly1 fun h1 held1 up1 => ?_
  refine sta_off held1 fun h2 fl2 up2 => ?_
  rw [← hst] at fl2
  have F2 := F.on fl2 (up1.trans up2)
  obtain ⟨oe, vs, I2, he2, hc2, hd2⟩ := landed I F fl2 (up1.trans up2)
  have X2 := I2.toEx (oe := oe) he2 hd2 F.notB
  refine wpAny_handleBy_cons (codeAny_handlers_test ?_) (by intro z; cases z)
  refine ld_glob X2 hg hm ?_ hdb
  refine (exm_one I2.kIn (exc_ty he2 hc2) hx).here ?_
  rw [if_pos rfl]
  refine codeAny_handlers_suite_as ?_
  refine sta_off fl2 fun h3 fl3 up3 => ?_
  obtain ⟨oe3, vs3, I3, he3, hc3, hd3⟩ := landed I F2 fl3 up3
  have X3 := I3.toEx (oe := oe3) he3 hd3 F.notB
  refine store_ok (X := exCx X ea oe3) (v := .ref ea) X3 hN hi (.inl hl) rfl (fun s4 X4 => ?_) (.inr hl)
  have hiσ : i < σ.length := by rw [I.len]; exact (List.getElem?_eq_some_iff.mp hi).1
  have vis : Vis (exCx X ea oe3).env.scope n := .inl hl
  have term : PSs (exCx X ea oe3) [.Return (some (.Call (.Name "isinstance" p1) [.Name n p2, .Name "ValueError" p3] [] p4)) p5] _ :=
    pss_one (ps_ret (pe_callB (call_excIs (T := "ValueError")) hgI hmI PyProof.Rows.boot_isinstance (pa_cons (pe_var hi vis hdn hcn) (pa_cons (pe_bltn (v := .ty "ValueError") hgV hmV PyProof.Rows.Boot.«ValueError» rfl) pa_nil)) (he := he) (hpl := hpl)))
  refine wpAny_mono (term pins _ _ H' { nx := fun _ _ => False, rt := D.rt } X4 ⟨.ref ea, by rw [List.getElem?_set_self hiσ], rfl, by rw [hc3]; exact ne, by rw [hc3]; exact hk, q⟩) (fun fl s5 h5 => ?_) fun _ _ z => z.elim
  -- the name goes
  have h6 := SP.ofEx I.ok h5
  have fin : ∀ {σ' : St} {H5 : Hp}, Inv X pins σ' H5 s5 → ∀ Q : Unit → Shared → Prop, (∀ σ'' s6, Inv X pins σ'' H5 s6 → Q () s6) → wpAny (model X.prog X.w) X.A (do bindName X.env n .none; unbindBehindTheSuite X.env n hpos) Q X.xe s5 := fun {σ' H5} I5 Q k => by
    obtain ⟨m, hn5, _⟩ := I5.loc
    refine wpAny_nameGoes hl hn5 (by rw [I.ok.kind]; rfl) fun h' m' hn' sb' => ?_
    exact k _ _ (I5.forgot (t' := s5.toks + 1) hn' sb')
  cases fl with
  | ret u =>
    obtain ⟨v, σ5, H5, I5, r5, q5⟩ := h6
    exact fin I5 _ fun σ'' s6 I6 => ⟨v, σ'', H5, I6, r5, q5⟩
  | next => 
    obtain ⟨σ5, H5, I5, q5⟩ := h5
    exact q5.elim
  | brk => 
    obtain ⟨σ5, H5, I5, q5⟩ := h5
    exact q5.elim
  | cont => 
    obtain ⟨σ5, H5, I5, q5⟩ := h5
    exact q5.elim
section
variable {X : Cx} {k : Nat} {x y n : Str} {C L : Addr} {ps : List Str} {sp : Sp} {e : Expr} {es : List Expr} {t : TA} {env0 : List Env} {p np pos epos tpos hpos p1 p2 p3 p4 p5 : Pos} {i : Nat}
noncomputable def tTryIs (K : PySem.W.Frag) (C : Addr) (sp : Sp) (t : TA) : TS := fun D σ H => t σ H fun vs H1 => sp vs H1 (fun _ H2 => D.nx σ H2) (fun cls _ H2 => exmOne K cls (.ref C) = some true ∧ (cls == .type "ValueError") = false ∧ kitOne K cls (.type "ValueError") = some true ∧ D.rt (.bl true) H2)
theorem ps_tryIs (c : Cal1 X.prog X.w X.K X.mg X.base k x ps sp) (hr : Room k X.A) (hst : X.stack = X.env :: env0) (hfr : X.env.frame = some L) (hg : Gl X x) (hgy : Gl X y) (hmy : X.mg y = some (.ref C)) (ha : ∀ XE, PA (X.wish XE) (e :: es) t)
    (hN : X.N.Nodup) (hi : X.N[i]? = some n) (hl : X.env.scope.names.lookup n = some .local) (hgI : Gl X "isinstance") (hmI : X.mg "isinstance" = none) (hgV : Gl X "ValueError") (hmV : X.mg "ValueError" = none)
    (hdb : (x == ("__debug__" : Str)) = false := by decide) (hdy : (y == ("__debug__" : Str)) = false := by decide) (hdn : (n == ("__debug__" : Str)) = false := by decide) (hcn : (n == ("__classdict__" : Str)) = false := by decide)
    (he : starEach (e :: es) X.env = (false, eval e X.env) :: starEach es X.env := by rfl) (hpl : (backTo pos (starEach es X.env)).any (·.1) = false := by rfl) (hsw : swapsWith (.Call (.Name x p) (e :: es) [] pos) none epos.line X.env = pure false := by rfl)
    (he2 : starEach [.Name n p2, .Name "ValueError" p3] X.env = (false, eval (.Name n p2) X.env) :: starEach [.Name "ValueError" p3] X.env := by rfl) (hpl2 : (backTo p4 (starEach [.Name "ValueError" p3] X.env)).any (·.1) = false := by rfl) :
    PS X (.Try [.Expr (.Call (.Name x p) (e :: es) [] pos) epos] [.ExceptHandler (some (.Name y np)) (some n) [.Return (some (.Call (.Name "isinstance" p1) [.Name n p2, .Name "ValueError" p3] [] p4)) p5] hpos] [] [] tpos) (tTryIs X.K C sp t) := by
  intro pins s σ H D I h
  refine wpAny_Try_except ?_
  refine wpAny_execs_cons ?_
  refine wpAny_mono (wpAny_Expr_any (Q := fun f s1 => f = .next ∧ ∃ H1, Inv X pins σ H1 s1 ∧ D.nx σ H1) (E := Catch X pins D [.ExceptHandler (some (.Name y np)) (some n) [.Return (some (.Call (.Name "isinstance" p1) [.Name n p2, .Name "ValueError" p3] [] p4)) p5] hpos])
    (wpAny_mono (try_call (E := fun cls _ H2 => exmOne X.K cls (.ref C) = some true ∧ (cls == .type "ValueError") = false ∧ kitOne X.K cls (.type "ValueError") = some true ∧ D.rt (.bl true) H2) (Q := fun _ H2 => D.nx σ H2) c hr hg (ha _) I (fun H1 s1 v s2 I1 ⟨ea, cls, dd, B, H', ev, F, hx, ne, hk, q⟩ => ?_) h hdb he hpl) (fun v s1 ⟨z, H1, I1, _, q⟩ => ⟨rfl, H1, I1, q⟩) fun _ _ z => z) I.quiet hsw) (fun f s1 ⟨ef, H1, I1, q⟩ => ?_) fun _ _ z => z
  · subst ef
    exact wpAny_execs_nil (wpAny_execs_nil ⟨σ, H1, I1, q⟩)
  · subst ev
    exact catchIs hst hfr hgy hmy hx I1 F hN hi hl hgI hmI hgV hmV ne hk q hdy hdn hcn he2 hpl2
end
/-! ### try: z = f(..) except C: suite -/
section
variable {X : Cx} {k : Nat} {x y z : Str} {C L : Addr} {ps : List Str} {sp : Sp} {e : Expr} {es : List Expr} {t : TA} {ts : TS} {env0 : List Env} {p np pos zpos apos tpos hpos : Pos} {b0 : Stmt} {suite : List Stmt} {i : Nat}
end
end L2

set_option Elab.async false
set_option linter.all false
set_option maxRecDepth 100000
/-! sorted(cells, key=first_place) -/
namespace GT
open PySem L2
end GT

set_option Elab.async false
set_option linter.all false
set_option maxRecDepth 100000
/-! Tables mirrored. -/
namespace GT
open PySem L2
end GT

set_option Elab.async false
set_option linter.all false
set_option maxRecDepth 100000
/-! A cell parted into cells of one place each. -/
namespace GT
open PySem L2
noncomputable def partCell (x : Cell) (j : Nat) : Cell := ⟨x.top + j / x.w, x.left + j % x.w, 1, 1, if j = 0 then x.words else []⟩
noncomputable def placeD (x : Cell) (j : Nat) : Dd := .tup [.int ((x.top + j / x.w : Nat) : Int), .int ((x.left + j % x.w : Nat) : Int)]
theorem placeD_nol (x : Cell) (j : Nat) : NoL (placeD x j) := .tup fun d hd => by
  simp only [List.mem_cons, List.mem_nil_iff, or_false] at hd
  rcases hd with rfl | rfl
  · exact .int _
  · exact .int _
theorem places_nol (x : Cell) (l : List Nat) : ∀ d ∈ l.map (placeD x), NoL d := fun d hd => by
  obtain ⟨j, _, rfl⟩ := List.mem_map.mp hd
  exact placeD_nol x j
theorem inC_part {x : Cell} {j r c : Nat} : inC (partCell x j) r c ↔ r = x.top + j / x.w ∧ c = x.left + j % x.w := by
  unfold inC partCell
  show x.top + j / x.w ≤ r ∧ r < x.top + j / x.w + 1 ∧ x.left + j % x.w ≤ c ∧ c < x.left + j % x.w + 1 ↔ _
  omega
theorem row_of {w i j : Nat} (hj : j < w) : (i * w + j) / w = i ∧ (i * w + j) % w = j := by
  have hw : 0 < w := by omega
  constructor
  · rw [Nat.mul_comm, Nat.mul_add_div hw, Nat.div_eq_of_lt hj]; rfl
  · rw [Nat.mul_comm, Nat.mul_add_mod, Nat.mod_eq_of_lt hj]
theorem part_sub {x : Cell} {j r c : Nat} (hj : j < x.h * x.w) (h : inC (partCell x j) r c) : inC x r c := by
  obtain ⟨e1, e2⟩ := inC_part.mp h
  have hw : 0 < x.w := Nat.pos_of_ne_zero fun e => by rw [e] at hj; omega
  have a1 : j / x.w < x.h := by rw [Nat.div_lt_iff_lt_mul hw]; exact hj
  have a2 : j % x.w < x.w := Nat.mod_lt _ hw
  generalize j / x.w = q1 at *
  generalize j % x.w = q2 at *
  exact ⟨by omega, by omega, by omega, by omega⟩
theorem part_cov {x : Cell} {r c : Nat} (h : inC x r c) : ∃ j, j < x.h * x.w ∧ inC (partCell x j) r c := by
  unfold inC at h
  obtain ⟨q1, q2⟩ := row_of (w := x.w) (i := r - x.top) (j := c - x.left) (by omega)
  refine ⟨(r - x.top) * x.w + (c - x.left), ?_, inC_part.mpr ⟨by rw [q1]; omega, by rw [q2]; omega⟩⟩
  have : (r - x.top + 1) * x.w ≤ x.h * x.w := Nat.mul_le_mul_right _ (by omega)
  rw [Nat.succ_mul] at this
  omega
theorem places_row (x : Cell) (i : Nat) : (List.range (i * x.w)).map (placeD x) ++ (List.range x.w).map (fun j => Dd.tup [.int ((x.top + i : Nat) : Int), .int ((x.left + j : Nat) : Int)]) = (List.range ((i + 1) * x.w)).map (placeD x) := by
  rw [Nat.succ_mul, List.range_add, List.map_append, List.map_map]
  congr 1
  refine List.map_congr_left fun j hj => ?_
  obtain ⟨q1, q2⟩ := row_of (w := x.w) (i := i) (j := j) (List.mem_range.mp hj)
  show _ = placeD x (i * x.w + j)
  unfold placeD
  rw [q1, q2]
end GT

set_option Elab.async false
set_option linter.all false
set_option maxRecDepth 100000
/-! rows of numbers and words, written with blanks and line ends, and taken apart again -/
namespace GT
open PySem L2
theorem sign_in : ∀ c ∈ signs.cps.toList, (!(Builtin.Str.occurrences signs ⟨#[c]⟩ 0 signs.length 1).isEmpty) = true := by decide +kernel
end GT

set_option Elab.async false
set_option linter.all false
set_option maxRecDepth 100000
/-! An exception of an own class whose `__init__` is a def of the class: made, raised. -/
namespace L2
open PySem PySem.Spec PyProof.Rows PySem.W
open Sem (wp)
section
variable {prog : Program} {w : World} {A : Around} {E : Value → Shared → Prop} {h : Heap} {g : Array GenState} {d : Drawn} {t : Nat} {os : OsState}
variable {nm q : Str} {C N : Addr} {bs bm bmB : List Value} {hdct : Bool} {sn : List Str} {sub : List Value} {ab : Bool} {col : Option Bool} {dd : Option Addr} {k0 k1 k2 k3 k5 : Option Value} {B newId initId : String}
/-- what `C(..)` has made before the class's own `__init__` runs -/
noncomputable def rawExc (h : Heap) (C : Addr) (us : List Value) : Heap := (h.push { cls := .type "tuple", data := .seq us.toArray }).push { cls := .ref C, data := .fields #[.ref h.objs.size, .none, .none, .none, .bool false, .none] }
theorem rawExc_keep {us : List Value} {b : Addr} {o : Obj} (e : h.get? b = some o) : (rawExc h C us).get? b = some o := Heap.get?_push_of_some _ (Heap.get?_push_of_some _ e)
theorem rawExc_at {us : List Value} : (rawExc h C us).get? (h.objs.size + 1) = some { cls := .ref C, data := .fields #[.ref h.objs.size, .none, .none, .none, .bool false, .none] } := by unfold rawExc; heap_get
theorem type_call_init (F : ExcBaseFacts B newId initId bmB) (T : OwnTail h bmB bm) {mN : Str → Option Value} {us : List Value} {fI : Addr} {oI : Obj} {Q : Fin → Shared → Prop}
    (hC : h.get? C = some (excClassObj nm q C N bs bm hdct sn sub ab col dd k0 k1 k2 k3 k5 newId)) (hn : h.Ns N mN) (hi : mN "__init__" = some (.ref fI)) (hf : h.get? fI = some oI) (hc : oI.cls = .type "function") (hl : us.length ≤ sizeLine)
    (k : wpAny (model prog w) A (call (.ref fI) (.ref (h.objs.size + 1) :: us)) (fun r s' => r = .none ∧ Q (.done (.ret (.ref (h.objs.size + 1)))) s') E ⟨rawExc h C us, g, d, t, os⟩) :
    wpAny (model prog w) A (Builtin.«type.__call__» ⟨.ref C :: us, []⟩) Q E ⟨h, g, d, t, os⟩ := by
  repeat (first | with_reducible refine wpAny_loadPart_at hC ?_ | with_reducible refine wpAny_madeBy_exc hC ?_ | wp_step)
  refine codeAny_call_builtin_code (Code.quiet_builtin _ F.quiet) (wpAny_check_new_subT F T hC ?_)
  refine codeAny_exc_new_subT F T hC ?_ hl
  show wpAny _ _ _ _ _ ⟨rawExc h C us, g, d, t, os⟩
  have hC1 := rawExc_keep (C := C) (us := us) hC
  have hn1 : (rawExc h C us).Ns N mN := hn.keeps fun b o e => rawExc_keep e
  have T1 := T.keeps fun b o e => rawExc_keep (C := C) (us := us) e
  have he := rawExc_at (h := h) (C := C) (us := us)
  have me : (Value.ref C :: bm).contains (.ref C) = true := by simp
  unfold isInstance
  repeat (first | with_reducible refine wpAny_loadPart_at he ?_ | (with_reducible refine wpAny_isSubtype_exc hC1 ?_; rw [me]) | wp_step)
  show wpAny _ _ (typeLookup (.ref C) _) _ _ _
  refine wpAny_typeLookup_tail hC1 hn1 T1 F.mroIs F.init.lookup ?_
  rw [hi]
  refine wpAny_holding (wpAny_bind ?_)
  unfold bindSpecial
  refine wpAny_bind (wpAny_typeOf (T := "function") ⟨_, rawExc_keep hf, hc⟩ ?_)
  rw [if_pos (by decide)]
  refine wpAny_pure (wpAny_bind (wpAny_mono k (fun r s' hr => ?_) fun _ _ x => x))
  obtain ⟨rfl, hQ⟩ := hr
  wp_walk
  exact hQ
theorem call_init (F : ExcBaseFacts B newId initId bmB) (T : OwnTail h bmB bm) {mN : Str → Option Value} {us : List Value} {fI : Addr} {oI : Obj} {Q : Value → Shared → Prop}
    (hC : h.get? C = some (excClassObj nm q C N bs bm hdct sn sub ab col dd k0 k1 k2 k3 k5 newId)) (hn : h.Ns N mN) (hi : mN "__init__" = some (.ref fI)) (hf : h.get? fI = some oI) (hc : oI.cls = .type "function") (hl : us.length ≤ sizeLine)
    (k : wpAny (model prog w) (A.under (.builtin "type.__call__" ⟨.ref C :: us, []⟩)) (call (.ref fI) (.ref (h.objs.size + 1) :: us)) (fun r s' => r = .none ∧ Q (.ref (h.objs.size + 1)) s') E ⟨rawExc h C us, g, d, t, os⟩) :
    wpAny (model prog w) A (call (.ref C) us) Q E ⟨h, g, d, t, os⟩ := by
  have f1 := tc_lookup
  have f2 := tc_bind (.ref C)
  have hT : (⟨h, g, d, t, os⟩ : Shared).TypeIs (.ref C) "type" := ⟨_, hC, rfl⟩
  refine wpAny_call (codeAny_of_tree ?_)
  show wpAny _ _ (callAny (.ref C) _) _ _ _
  repeat (any_goals (first | assumption | with_reducible refine wpAny_loadPart_at hC ?_ | wp_step))
  refine ⟨rfl, ?_⟩
  exact codeAny_call_builtin_at (Code.quiet_builtin _ (by decide +kernel)) entry_typeCall (wpAny_check_type_call_sub hC (type_call_init F T hC hn hi hf hc hl k))
end
section
variable {M : Model} {A : Around} {E : Value → Shared → Prop} {env : Env}
variable {nm q : Str} {C N : Addr} {bs bm : List Value} {hdct : Bool} {sn : List Str} {sub : List Value} {ab : Bool} {col : Option Bool} {dd : Option Addr} {k0 k1 k2 k3 k5 : Option Value} {newId : String}
/-- an exception with what its `__init__` gave it -/
noncomputable abbrev excObj (C : Addr) (dx : Option Addr) (a0 : Value) (sl : Array (Option Value)) : Obj := { cls := .ref C, dict := dx, data := .fields #[a0, .none, .none, .none, .bool false, .none], slots := sl }
/-- raise of an exception that has a dict of its own too -/
theorem raise_made {s : Shared} {x : Sem Value} {Q : Flow → Shared → Prop} (hbase : bm.contains (.type "BaseException") = true) (hh : A.handled = none)
    (h : wpAny M A x (fun v s1 => ∃ e dx a0 sl, v = .ref e ∧ s1.heap.get? C = some (excClassObj nm q C N bs bm hdct sn sub ab col dd k0 k1 k2 k3 k5 newId) ∧ s1.heap.get? e = some (excObj C dx a0 sl) ∧ E (.ref e) s1) E s) :
    wpAny M A (raiseStmt env (some x) none) Q E s := by
  have hcB : (Value.ref C :: bm).contains (.type "BaseException") = true := by rw [List.contains_cons, hbase, Bool.or_true]
  unfold raiseStmt
  refine wpAny_bind (wpAny_mono h (fun v s1 h1 => ?_) fun _ _ x => x)
  obtain ⟨e, dx, a0, sl, rfl, hC, he, hE⟩ := h1
  obtain ⟨hp, g, d, tk, os⟩ := s1
  repeat (first | with_reducible refine wpAny_loadPart_at he ?_ | with_reducible refine wpAny_loadPart_at hC ?_ | (with_reducible refine wpAny_isSubtype_exc hC ?_; rw [hcB]) | wp_step)
  exact wpAny_raiseNew_none hh hE
end
section
variable {prog : Program} {w : World} {A : Around} {E : Value → Shared → Prop} {s : Shared} {env : Env}
variable {nm q : Str} {C N : Addr} {bs bm bmB : List Value} {hdct : Bool} {sn : List Str} {sub : List Value} {ab : Bool} {col : Option Bool} {dd : Option Addr} {k0 k1 k2 k3 k5 : Option Value} {B newId initId : String}
/-- raise C(..), the class with an `__init__` of its own -/
theorem raise_init (F : ExcBaseFacts B newId initId bmB) {mN : Str → Option Value} {fI : Addr} {oI : Obj} {x : Str} {np cpos pos : Pos} {args : List Expr} {Q : Flow → Shared → Prop}
    (hbase : bm.contains (.type "BaseException") = true) (hh : A.handled = none) (hplain : (backTo cpos (starEach args env)).any (·.1) = false) (hi : mN "__init__" = some (.ref fI)) (hc : oI.cls = .type "function")
    (h : wpAny (model prog w) A (eval (.Name x np) env) (fun f s1 => f = .ref C ∧ wpAny (model prog w) A (evalArgs (.ref C) true (backTo cpos (starEach args env)) [])
      (fun a s2 => a.kw = [] ∧ a.pos.length ≤ sizeLine ∧ s2.heap.get? C = some (excClassObj nm q C N bs bm hdct sn sub ab col dd k0 k1 k2 k3 k5 newId) ∧ s2.heap.Ns N mN ∧ OwnTail s2.heap bmB bm ∧ s2.heap.get? fI = some oI ∧
        wpAny (model prog w) (A.under (.builtin "type.__call__" ⟨.ref C :: a.pos, []⟩)) (call (.ref fI) (.ref (s2.heap.objs.size + 1) :: a.pos))
          (fun r s3 => r = .none ∧ s3.heap.get? C = some (excClassObj nm q C N bs bm hdct sn sub ab col dd k0 k1 k2 k3 k5 newId) ∧ (∃ dx a0 sl, s3.heap.get? (s2.heap.objs.size + 1) = some (excObj C dx a0 sl)) ∧ E (.ref (s2.heap.objs.size + 1)) s3) E { s2 with heap := rawExc s2.heap C a.pos }) E s1) E s) :
    wpAny (model prog w) A (exec (.Raise (some (.Call (.Name x np) args [] cpos)) none pos) env) Q E s := by
  rw [arm_exec_Raise]
  refine wpAny_bind (wpAny_standAt (raise_made (C := C) (nm := nm) (q := q) (N := N) (bs := bs) (bm := bm) (hdct := hdct) (sn := sn) (sub := sub) (ab := ab) (col := col) (dd := dd) (k0 := k0) (k1 := k1) (k2 := k2) (k3 := k3) (k5 := k5) (newId := newId) hbase hh (wpAny_bind (wpAny_mono (wpAny_Call_ofName (wpAny_mono h (fun f s1 h1 => ?_) fun _ _ x => x)) (fun v s3 h3 => wpAny_bind (wpAny_standAt (wpAny_pure h3))) fun _ _ x => x))))
  obtain ⟨rfl, h1⟩ := h1
  unfold callWith
  refine wpAny_bind (wpAny_holding (wpAny_mono h1 (fun a s2 h2 => wpAny_bind (wpAny_standAt ?_)) fun _ _ x => x))
  obtain ⟨apos, akw⟩ := a
  obtain ⟨hkw, hlen, hC, hn, T, hf, h2⟩ := h2
  obtain rfl : akw = [] := hkw
  obtain ⟨hp, g, d, tk, os⟩ := s2
  simp only [hplain]
  refine wpAny_bind (wpAny_keeperOf_exc hC ?_)
  refine wpAny_bind (call_init F T hC hn hi hf hc hlen (wpAny_mono h2 (fun r s3 h3 => ⟨h3.1, wpAny_bind (wpAny_holding (wpAny_point (wpAny_pure ?_)))⟩) fun _ _ x => x))
  obtain ⟨_, hC3, ⟨dx, a0, sl, he⟩, hE⟩ := h3
  exact ⟨_, dx, a0, sl, rfl, hC3, he, hE⟩
end
end L2

set_option Elab.async false
set_option linter.all false
set_option maxRecDepth 100000
/-! The `__init__` of an own exception: the text of it, the base's `__init__`, self.at = at. -/
namespace L2
open PySem PySem.Spec PyProof.Rows PySem.W
open Sem (wp)
/-- an own exception that is still being made: its class, its dict -/
noncomputable abbrev ExcO (a C : Addr) (dx : Option Addr) : HO := .ext fun h => ∃ a0 sl, h.get? a = some (excObj C dx (.ref a0) sl)
theorem excO_ok {P : Program} {w : World} {H : Hp} {h : Heap} {a C : Addr} {dx : Option Addr} {a0 : Addr} {sl : Array (Option Value)} (e : h.get? a = some (excObj C dx (.ref a0) sl)) : ObjOk P w H h a (ExcO a C dx) :=
  ⟨⟨a0, sl, e⟩, ⟨_, e⟩, fun h1 h2 ⟨b0, sl', z⟩ k => ⟨b0, sl', k _ z⟩⟩
/-- an own class of exceptions with an `__init__` -/
structure OwnI (x : Str) (C fI : Addr) (bmB : List Value) (newId : String) (mg : Str → Option Value) (base : Heap) : Prop where
  bound : mg x = some (.ref C)
  obj : ∃ (tl : List Value) (N : Addr) (nm q : Str) (bs : List Value) (hdct : Bool) (sn : List Str) (sub : List Value) (ab : Bool) (col : Option Bool) (dd : Option Addr) (k0 k1 k2 k3 k5 : Option Value) (mN : Str → Option Value) (oI : Obj),
    base.get? C = some (excClassObj nm q C N bs tl hdct sn sub ab col dd k0 k1 k2 k3 k5 newId) ∧ base.Ns N mN ∧ mN "__init__" = some (.ref fI) ∧ OwnTail base bmB tl ∧ base.get? fI = some oI ∧ oI.cls = .type "function"
/-- f"a{e!r}b" where e is a number or None -/
noncomputable def tFR (te : TE) : TE := fun σ H Q => te σ H fun v H1 => ((∃ n : Int, v = .int n ∧ n.natAbs.log2 < 1920) ∨ v = .non) ∧ ∀ x, Q (.str x) H1
/-- the base's own `__init__` -/
theorem call_bexc {X : Cx} {x0 : Str} {C fI : Addr} {B newId initId : String} {bmB : List Value} (F : ExcBaseFacts B newId initId bmB) (O : OwnI x0 C fI bmB newId X.mg X.base) :
    CallR X (.builtin initId) (fun xs H Q => ∃ e x, xs = [.ref e, .str x] ∧ H e = some (ExcO e C none) ∧ Q .non H) := by
  intro pins s σ H xs us Q I r h
  obtain ⟨e, x, rfl, hH, q⟩ := h
  obtain ⟨u1, u2, rfl, r1, r2⟩ := vals2 r
  cases r1
  obtain ⟨t, rfl⟩ := r2
  obtain ⟨⟨a0, sl, he⟩, _⟩ := I.hok e _ hH
  obtain ⟨tl, N, nm, q', bs, hdct, sn, sub, ab, col, dd, k0, k1, k2, k3, k5, mN, oI, hC, hN, hi, T, hf, hc⟩ := O.obj
  have hC1 := I.bk _ _ hC
  have T1 := T.keeps I.bk
  obtain ⟨hp, g, d, tk, os⟩ := s
  refine wpAny_call (codeAny_call_builtin F.init.plain F.initEntry (wpAny_check_init_subT F T1 hC1 he rfl ?_))
  wp_walk
  have hne : hp.objs.size ≠ e := Nat.ne_of_gt (Heap.lt_size he)
  have h1 := Heap.get?_push_of_some { cls := .type "tuple", data := .seq #[Value.str x t] } he
  have h2 := Heap.get?_update_self (Obj.mapFields (·.setIfInBounds 0 (Value.ref hp.objs.size))) h1 rfl
  have hu : upd H e (ExcO e C none) = H := funext fun b => by
    by_cases z : b = e
    · rw [z, upd_same, hH]
    · rw [upd_ne z]
  refine ⟨.non, H, ?_, rfl, q⟩
  rw [← hu]
  refine I.write (x := e) (e := e) (t' := tk) (by rw [hH]; exact True.intro) (.inl rfl) (fun b u nb z => ?_) ⟨_, h2⟩ (excO_ok (a0 := hp.objs.size) (sl := sl) h2)
  rw [Heap.get?_update_other _ _ (Ne.symm nb)]
  exact Heap.get?_push_of_some _ z
end L2

set_option Elab.async false
set_option linter.all false
set_option maxRecDepth 100000
/-! self.at = at and e.at, for an own exception. -/
namespace L2
open PySem PySem.Spec PyProof.Rows PySem.W
open Sem (wp)
noncomputable abbrev errMro : List Value := [.type "ValueError", .type "Exception", .type "BaseException", .type "object"]
noncomputable def refB : Value → Bool
  | .ref _ => true
  | _ => false
/-- own classes, then ValueError and what is above it -/
noncomputable def onlyErr (l : List Value) : Bool := l.dropWhile refB == errMro
theorem onlyErr_split {l : List Value} (h : onlyErr l = true) : ∃ l1 : List Value, l = l1 ++ errMro ∧ ∀ v ∈ l1, refB v = true :=
  ⟨l.takeWhile refB, by rw [← beq_iff_eq.mp h]; exact (List.takeWhile_append_dropWhile).symm, fun v hv => by
    induction l with
    | nil => cases hv
    | cons a r ih =>
      rw [List.takeWhile_cons] at hv
      split at hv
      · rename_i ha
        rcases List.mem_cons.mp hv with rfl | hv
        · exact ha
        · exact ih (by unfold onlyErr at h ⊢; rw [List.dropWhile_cons, if_pos ha] at h; exact h) hv
      · cases hv⟩
theorem refuse_refs (self : Value) : ∀ (l1 : List Value), (∀ v ∈ l1, refB v = true) → refuseLoop self "__setattr__" (l1 ++ errMro) = pure ()
  | [], _ => PySem.F.store_ValueError.passes self
  | v :: r, h => by
    have hv := h v List.mem_cons_self
    cases v <;> first | (cases hv; done) | skip
    rw [List.cons_append, refuseLoop_ref]
    exact refuse_refs self r fun u hu => h u (List.mem_cons_of_mem _ hu)
theorem onlyErr_pass (self : Value) {l : List Value} (h : onlyErr l = true) : refuseLoop self "__setattr__" l = pure () := by
  obtain ⟨l1, rfl, hl⟩ := onlyErr_split h
  exact refuse_refs self l1 hl
theorem onlyErr_has {l : List Value} {v : Value} (h : onlyErr l = true) (hv : errMro.contains v = true) : l.contains v = true := by
  obtain ⟨l1, rfl, _⟩ := onlyErr_split h
  rw [List.contains_iff_mem] at hv ⊢
  exact List.mem_append_right _ hv
noncomputable def errOver (K : Frag) (C : Addr) : Bool := (clsIn K C).any fun cd => onlyErr cd.mro
section
variable {prog : Program} {w : World} {A : Around} {R : Result → Shared → Prop} {s : Shared} {K : Frag} {x C : Addr}
theorem err_isIn {ox : Obj} {od : Option Obj} {T : String} (X : K.In s.heap) (I : InstAt s.heap x ox C od) (hp : errOver K C = true) (hT : errMro.contains (.type T) = true) : Looks (model prog w) s.heap (isInstance (.ref x) (.type T)) true := by
  obtain ⟨cd, hc, ho⟩ := any_some hp
  have ne : cd.mro.isEmpty = false := by
    cases q : cd.mro with
    | nil => rw [q] at ho; cases ho
    | cons _ _ => rfl
  exact I.type.andThen (looks_mroIn X (by unfold mroIn; rw [hc, Option.bind_some, if_neg (by rw [ne]; decide), onlyErr_has ho hT]))
theorem osa_err {ox : Obj} {od : Option Obj} {name : Str} {tk : Tok} {v : Value} (X : K.In s.heap) (I : InstAt s.heap x ox C od) (hp : errOver K C = true) (ha : findIn K (.ref C) name = some none)
    (h : wpAny (model prog w) A.in1 (Builtin.ObjectAttr.storeInOwnDict (.ref x) (.ref C) (.str name tk) name v false)
      (fun fin s' => match fin with | .done f => R (.ok f) s' | .again c' => c'.quiet = true ∧ codeAny (model prog w) A c' R s') (fun e s' => R (.error e) s') s) :
    codeAny (model prog w) A (.call (.builtin "object.__setattr__") ⟨[.ref x, .str name tk, v], []⟩) R s := by
  have SF := PySem.F.store_object
  obtain ⟨cd, hc, ho⟩ := any_some hp
  have sub : Looks (model prog w) s.heap (isInstance (.ref x) (.type "object")) true := err_isIn X I hp (by decide)
  refine codeAny_call_builtin SF.slot.plain SF.entry (@check_slot (model prog w) _ _ s "object.__setattr__" "object" "__setattr__" (.ref x) [.str name tk, v] [] _ SF.kind SF.split sub (SF.args (.ref x) (.str name tk) v) ?_)
  have hm : Looks (model prog w) s.heap (mroOf (.ref C)) cd.mro := (looks_clsIn X hc).andThen .now
  rw [osa_eq, refuse_eq]
  refine wpAny_bind (wpAny_bind (I.type.here (wpAny_bind (hm.here ?_))))
  rw [onlyErr_pass _ ho]
  exact wpAny_pure (wpAny_bind (I.type.here (wpAny_bind ((looks_findIn X ha).here (wpAny_bind (wpAny_pure h))))))
end
section
variable {prog : Program} {w : World} {A : Around} {E : Value → Shared → Prop} {s : Shared} {K : Frag} {x C : Addr} {name : Str} {v a0 : Value} {sl : Array (Option Value)}
theorem set_exc {Q : Unit → Shared → Prop} (X : K.In s.heap) (hx : s.heap.get? x = some (excObj C none a0 sl)) (hs : findIn K (.ref C) "__setattr__" = some (some (.builtin "object.__setattr__"))) (hp : errOver K C = true)
    (ha : findIn K (.ref C) name = some none) (hh : hasDictIn K C = true)
    (h : ∀ (h' : Heap) (tk : Nat), h'.get? x = some (excObj C (some s.heap.objs.size) a0 sl) → h'.Ns1 s.heap.objs.size (fun y => if y = name then some v else none) → (∀ b o, b ≠ x → s.heap.get? b = some o → h'.get? b = some o) → Q () { s with heap := h', toks := tk }) :
    wpAny (model prog w) A (setAttr (.ref x) name v) Q E s := by
  have J : InstAt s.heap x (excObj C none a0 sl) C none := ⟨hx, rfl, rfl, True.intro⟩
  refine PySem.W.set_plain X J hs (osa_err (s := { s with toks := s.toks + 1 }) X J hp ha ?_)
  obtain ⟨cd, hc, hd⟩ := any_some hh
  refine wpAny_bind (wpAny_pure (wpAny_bind (wpAny_bind (wpAny_loadPart hx (wpAny_bind (PySem.W.Looks.here (s := { s with toks := s.toks + 1 }) (PySem.W.looks_clsIn X hc) ?_))))))
  rw [hd]
  have hx1 : (s.heap.push { cls := .type "dict", data := .dict #[] }).get? x = some (excObj C none a0 sl) := Heap.get?_push_of_some _ hx
  have hxs : x ≠ s.heap.objs.size := Nat.ne_of_lt (Heap.lt_size hx)
  refine wpAny_bind (wpAny_alloc' ?_)
  refine wpAny_bind (wpAny_update' hx1 ?_)
  refine wpAny_pure ?_
  have hgd : ((s.heap.push { cls := .type "dict", data := .dict #[] }).update x fun o => { cls := o.cls, dict := some s.heap.objs.size, data := o.data, slots := o.slots }).get? s.heap.objs.size = some { cls := .type "dict", data := .dict #[] } :=
    (Heap.get?_update_ne _ _ _ _ hxs.symm).trans (Heap.get?_push_at rfl rfl)
  have hgx : ((s.heap.push { cls := .type "dict", data := .dict #[] }).update x fun o => { cls := o.cls, dict := some s.heap.objs.size, data := o.data, slots := o.slots }).get? x = some (excObj C (some s.heap.objs.size) a0 sl) :=
    Heap.get?_update_self _ hx1 rfl
  have hnd : ((s.heap.push { cls := .type "dict", data := .dict #[] }).update x fun o => { cls := o.cls, dict := some s.heap.objs.size, data := o.data, slots := o.slots }).Ns s.heap.objs.size (fun _ => none) :=
    ⟨_, #[], _, hgd, rfl, fun e he => absurd he (by simp), fun _ => rfl⟩
  show wpAny _ _ (Builtin.ObjectAttr.storeInDict s.heap.objs.size (.str name s.toks) name v) _ _ _
  unfold Builtin.ObjectAttr.storeInDict Builtin.ObjectAttr.newKeyGuard
  refine wpAny_bind (wpAny_pure (wpAny_bind (wpAny_nsSet1 (Heap.Ns1.of_empty hnd) fun h' hn' hs' => ?_)))
  obtain ⟨oD, esD, epD, hoD, hdD, hcD⟩ := hn'.count (Within.cons name v Within.nil)
  refine wpAny_bind (wpAny_lookBehind hoD (by rw [hdD]; exact pastItsLine_dict (Nat.le_trans hcD (by rw [List.length_cons, List.length_nil, sizeLine_eq]; omega))) ?_)
  refine wpAny_pure (h h' _ ((hs'.2 x hxs).trans hgx) hn' fun b o nb z => ?_)
  exact (hs'.2 b (Nat.ne_of_lt (Heap.lt_size z))).trans ((Heap.get?_update_ne _ _ _ _ nb).trans (Heap.get?_push_of_some _ z))
end
end L2

set_option Elab.async false
set_option linter.all false
set_option maxRecDepth 100000
/-! The statements of such an `__init__`; e.at behind an except. -/
namespace L2
open PySem PySem.Spec PyProof.Rows PySem.W
open Sem (wp)
/-- what of the text an own class of exceptions must have -/
structure ExcK (K : Frag) (C : Addr) : Prop where
  sa : findIn K (.ref C) "__setattr__" = some (some (.builtin "object.__setattr__"))
  eo : errOver K C = true
  hd : hasDictIn K C = true
  ga : findIn K (.ref C) "__getattribute__" = some (some (.builtin "BaseException.__getattribute__"))
  gn : findIn K (.ref C) "__getattr__" = some none
theorem xd_one {P : Program} {w : World} {H : Hp} {h : Heap} {a : Addr} {f : Str} {y : V} {u : Value} (r : RelV y u) (n : h.Ns1 a (fun z => if z = f then some u else none)) : ObjOk P w H h a (.xd [(f, y)]) :=
  ⟨_, n, fun g => by
    show RelO (List.lookup g [(f, y)]) (if g = f then some u else none)
    by_cases q : g = f
    · subst q
      rw [if_pos rfl, List.lookup_cons, show (g == g) = true from by simp]
      exact r
    · rw [if_neg q, List.lookup_cons, show (g == f) = false from by simpa using q]
      exact True.intro⟩
section
variable {X : Cx} {pins : List (Addr × Obj)} {σ : St} {H : Hp} {s : Shared} {h' : Heap} {e C dx : Addr} {f : Str} {y : V} {u : Value} {a0 : Addr} {sl : Array (Option Value)}
theorem Inv.excDict {t' : Nat} (I : Inv X pins σ H s) (hH : H e = some (ExcO e C none)) (hd : dx = s.heap.objs.size) (he : h'.get? e = some (excObj C (some dx) (.ref a0) sl)) (r : RelV y u) (hn : h'.Ns1 dx (fun z => if z = f then some u else none))
    (k : ∀ b o, b ≠ e → s.heap.get? b = some o → h'.get? b = some o) : Inv X pins σ (upd (upd H dx (.xd [(f, y)])) e (ExcO e C (some dx))) { s with heap := h', toks := t' } := by
  have fresh : H dx = none := I.hok.fresh (by rw [hd]; exact Nat.le_refl _)
  have hne : ∀ b o, H b = some o → (∀ φ, o ≠ .ext φ) → b ≠ e := fun b o q n z => by rw [z, hH] at q; cases q; exact n _ rfl
  have hnd : ∀ b o, H b = some o → b ≠ dx := fun b o q z => by rw [z, fresh] at q; cases q
  have fwd : ∀ b o, H b = some o → (∀ φ, o ≠ .ext φ) → upd (upd H dx (.xd [(f, y)])) e (ExcO e C (some dx)) b = some o := fun b o q n => by rw [upd_ne (hne b o q n), upd_ne (hnd b o q)]; exact q
  have nfe : ∀ b, H b = none → b ≠ e := fun b n z => by rw [z, hH] at n; cases n
  refine I.un ⟨fun b o q n _ _ => k b o (nfe b n) q, fun b o q n _ _ => ⟨o.slots, k b o (nfe b n) q⟩, fun b o q n _ => ?_, fun b o q _ => ?_, fun b xs q => fwd b _ q (by intro φ z; cases z), fun b o u q => fwd b _ q (by intro φ z; cases z),
    fun b ps q => ⟨#[], by rw [Array.append_empty]; exact fwd b _ q (by intro φ z; cases z)⟩⟩ fun b o q => ?_
  · rw [upd_ne (nfe b n), upd_ne (fun z => absurd (Heap.lt_size q) (by rw [z, hd]; exact Nat.lt_irrefl _))]; exact n
  · by_cases z : b = e
    · exact ⟨_, z ▸ he⟩
    · exact ⟨o, k b o z q⟩
  · by_cases z : b = e
    · subst z
      rw [upd_same] at q; cases q
      exact excO_ok he
    · rw [upd_ne z] at q
      by_cases z2 : b = dx
      · subst z2
        rw [upd_same] at q; cases q
        exact xd_one r hn
      · rw [upd_ne z2] at q
        refine (I.hok b o q).stay (fun c v hc g => k c v ?_ g) (fun c g => fwd c _ g (by intro φ z; cases z)) fun c xs g => fwd c _ g (by intro φ z; cases z)
        rcases hc with rfl | hc
        · exact z
        · exact hne c _ hc (by intro φ z; cases z)
end
/-- self.f = value, the first attribute of an own exception -/
noncomputable def sExc (C : Addr) (ta tv : TE) (f : Str) : TS := fun D σ H => tv σ H fun y H1 => ta σ H1 fun x H2 => ∃ e, x = .ref e ∧ H2 e = some (ExcO e C none) ∧ ∀ dx, H2 dx = none → dx ≠ e → D.nx σ (upd (upd H2 dx (.xd [(f, y)])) e (ExcO e C (some dx)))
theorem ps_setExc {X : Cx} {o value : Expr} {f : Str} {pos pos' : Pos} {ta tv : TE} {C : Addr} (c : ExcK X.K C) (n : NoAttr X.K C f) (ha : PE X o ta) (hv : PE X value tv) (hs : swapsWith value (some (.Attribute o f pos')) pos.line X.env = pure false := by rfl) :
    PS X (.Assign [.Attribute o f pos'] value pos) (sExc C ta tv f) := by
  intro pins s σ H D I h
  refine plainObj_wpAny_Assign_Attribute (thn (hv pins s σ H _ I h) fun u s1 ⟨y, H1, I1, ry, q⟩ => thn (ha pins s1 σ H1 _ I1 q) fun ov s2 ⟨x, H2, I2, rx, e, ex, ee, q2⟩ => ?_) hs
  subst ex
  obtain rfl : ov = Value.ref e := rx
  obtain ⟨⟨a0, sl, he⟩, _⟩ := I2.hok e _ ee
  refine set_exc I2.kIn he c.sa c.eo n c.hd fun h' tk hx hn k => ⟨σ, _, I2.excDict (t' := tk) ee rfl hx ry hn k, q2 _ (I2.hok.fresh (Nat.le_refl _)) (Ne.symm (Nat.ne_of_lt (Heap.lt_size he)))⟩
/-- G.__init__(e, ..), G an own class that has none of its own -/
theorem pe_baseInit {X : Cx} {G : Str} {Cg : Addr} {mc : Value} {initId : String} {r : List V → Hp → VK → Prop} {e : Expr} {es : List Expr} {t : TA} {p apos pos : Pos} {pl : Sem Bool} (hc : CallR X (.builtin initId) r) (hg : Gl X G) (hm : X.mg G = some (.ref Cg))
    (h1 : specialIn X.K (.ref Cg) "__getattribute__" = some (some (.builtin "type.__getattribute__"))) (h2 : readsIn X.K Cg mc = true) (h3 : findCls X.K (.ref Cg) mc "__init__" = some (.val (.builtin initId))) (h4 : handedIn (.builtin initId) = true) (ha : PA X (e :: es) t)
    (hdb : (G == ("__debug__" : Str)) = false := by decide) (hst : starEach (e :: es) X.env = (false, eval e X.env) :: starEach es X.env := by rfl) (hpl : (backTo pos (starEach es X.env)).any (·.1) = false := by rfl)
    (ht : eval (.Call (.Attribute (.Name G p) "__init__" apos) (e :: es) [] pos) X.env = (do
      let ov ← eval (.Name G p) X.env
      standAt apos.atName
      let (f, first) ← holding [ov] (getMethod ov "__init__" pl)
      callWith pos f first (backTo pos (starEach (e :: es) X.env)) (backToKw pos (keywordEach [] X.env))) := by rfl) :
    PE X (.Call (.Attribute (.Name G p) "__init__" apos) (e :: es) [] pos) (tCB r t) := by
  intro pins s σ H Q I h
  refine PySem.W.methodCall_KW (pl := pl) (ld_glob I hg hm (method_cls I.kIn h1 (cls_value I.kIn h2 h3 h4 ?_)) hdb) ht
  exact PyProof.Rows.callWith_builtin1 (thn (ha pos pins _ σ H _ (I.tok _) h) fun us s1 ⟨vs, H1, I1, r1, q1⟩ => hc pins s1 σ H1 vs us Q I1 r1 q1) hst hpl
end L2

set_option Elab.async false
set_option linter.all false
set_option maxRecDepth 100000
/-! raise C(at), where C's own `__init__` keeps at. -/
namespace L2
open PySem PySem.Spec PyProof.Rows PySem.W
open Sem (wp)
noncomputable def SmallOr (y : V) : Prop := (∃ n : Int, y = .int n ∧ n.natAbs.log2 < 1920) ∨ y = .non
/-- what such an `__init__` does -/
noncomputable def spExcInit (C : Addr) : Sp := fun vs H Q _ => ∃ e y, vs = [.ref e, y] ∧ SmallOr y ∧ H e = some (ExcO e C none) ∧ ∀ dx, H dx = none → dx ≠ e → Q .non (upd (upd H dx (.xd [("at", y)])) e (ExcO e C (some dx)))
/-- raise C(e) -/
noncomputable def tRaiseI (C : Addr) (E : XK) (t : TA) : TS := fun _ σ H => t σ H fun vs H1 => ∃ y, vs = [y] ∧ SmallOr y ∧ ∀ dx, H1 dx = none → E (.ref C) (some dx) (upd H1 dx (.xd [("at", y)]))
theorem ps_raiseI {X : Cx} {x : Str} {C fI : Addr} {bmB : List Value} {newId B initId : String} {E : XK} {e0 : Expr} {t : TA} {np cpos pos : Pos} {k : Nat} {fd : FuncData} {ps : List Str} (FB : ExcBaseFacts B newId initId bmB) (O : OwnI x C fI bmB newId X.mg X.base)
    (F : FnOk X.prog X.w X.K X.mg X.base CX0 k fI fd ps (spExcInit C)) (hb : Binds X.K fd ps []) (hr : Room (k + 1) X.A) (hc : X.calm = true) (hg : Gl X x) (L : LetsD X E) (ha : PA X [e0] t)
    (hdb : (x == ("__debug__" : Str)) = false := by decide) (he : starEach [e0] X.env = (false, eval e0 X.env) :: starEach [] X.env := by rfl) (hpl : (backTo cpos (starEach [] X.env)).any (·.1) = false := by rfl) :
    PS X (.Raise (some (.Call (.Name x np) [e0] [] cpos)) none pos) (tRaiseI C E t) := by
  intro pins s σ H D I h
  obtain ⟨tl, N, nm, q, bs, hdct, sn, sub, ab, col, dd, k0, k1, k2, k3, k5, mN, oI, hC, hN, hi, T, hf, hcf⟩ := O.obj
  have hpl2 : (backTo cpos (starEach [e0] X.env)).any (·.1) = false := by
    rw [he]
    show (false || (backTo cpos (starEach [] X.env)).any (·.1)) = false
    rw [hpl]; rfl
  refine raise_init (C := C) (nm := nm) (q := q) (N := N) (bs := bs) (bm := tl) (hdct := hdct) (sn := sn) (sub := sub) (ab := ab) (col := col) (dd := dd) (k0 := k0) (k1 := k1) (k2 := k2) (k3 := k3) (k5 := k5)
    FB (mN := mN) (T.hasType FB.hasBase) (I.ok.hd hc) hpl2 hi hcf (ld_glob I hg O.bound ⟨rfl, ?_⟩ hdb)
  have hh := thn (ha cpos pins s σ H _ I h) (Q' := fun us s2 => us.length ≤ sizeLine ∧ (∀ b o, X.base.get? b = some o → s2.heap.get? b = some o) ∧
    wpAny (model X.prog X.w) (X.A.under (.builtin "type.__call__" ⟨.ref C :: us, []⟩)) (call (.ref fI) (.ref (s2.heap.objs.size + 1) :: us))
      (fun r s3 => r = .none ∧ s3.heap.get? C = some (excClassObj nm q C N bs tl hdct sn sub ab col dd k0 k1 k2 k3 k5 newId) ∧ (∃ dx a0 sl, s3.heap.get? (s2.heap.objs.size + 1) = some (excObj C dx a0 sl)) ∧ X.xe (.ref (s2.heap.objs.size + 1)) s3) X.xe { s2 with heap := rawExc s2.heap C us })
    fun us s1 ⟨vs, H1, I1, r1, y, ev, hy, q1⟩ => ?_
  · rw [he] at hh ⊢
    exact Calls.evalArgs_plain (wpAny_mono hh (fun us s2 h2 => ⟨rfl, h2.1, h2.2.1 _ _ hC, hN.keeps h2.2.1, T.keeps h2.2.1, h2.2.1 _ _ hf, h2.2.2⟩) fun _ _ y => y)
  subst ev
  obtain ⟨u, rfl, ru⟩ := vals1 r1
  have fe : H1 (s1.heap.objs.size + 1) = none := I1.hok.fresh (Nat.le_succ _)
  have I2 : Inv X pins σ (upd H1 (s1.heap.objs.size + 1) (ExcO (s1.heap.objs.size + 1) C none)) { s1 with heap := rawExc s1.heap C [u], toks := s1.toks } :=
    I1.laid (fun b o e => rawExc_keep e) (Nat.le_succ _) (excO_ok rawExc_at)
  refine ⟨by rw [sizeLine_eq]; simp, I1.bk, wpAny_call (codeAny_mono (F.run _ X.stack _ _ ⟨[.ref (s1.heap.objs.size + 1), u], []⟩ [.ref (s1.heap.objs.size + 1), u] [.ref (s1.heap.objs.size + 1), y]
    (fun v H' => v = .non ∧ ∃ dx, H1 dx = none ∧ dx ≠ s1.heap.objs.size + 1 ∧ H' = upd (upd (upd H1 (s1.heap.objs.size + 1) (ExcO (s1.heap.objs.size + 1) C none)) dx (.xd [("at", y)])) (s1.heap.objs.size + 1) (ExcO (s1.heap.objs.size + 1) C (some dx)))
    (fun _ _ _ => False) (hr.make C [u] []) (I2.env0.make C [u] []) (hb _ [.ref (s1.heap.objs.size + 1), u] I2.kIn ?_) (.cons rfl (.cons ru .nil)) ?_) fun r s' hq' => ?_)⟩
  · have := F.len [.ref (s1.heap.objs.size + 1), y] (upd H1 (s1.heap.objs.size + 1) (ExcO (s1.heap.objs.size + 1) C none)) (fun _ _ => True) (fun _ _ _ => True) ⟨_, y, rfl, hy, upd_same, fun _ _ _ => True.intro⟩
    exact this
  · exact ⟨_, y, rfl, hy, upd_same, fun dx n ne => ⟨rfl, dx, by rw [upd_ne ne] at n; exact n, ne, rfl⟩⟩
  · cases r with
    | error e => exact False.elim hq'
    | ok fl =>
      cases fl with
      | ret w1 =>
        obtain ⟨v, H', I3, rv, ⟨ev, dx, hn, hne, eH⟩⟩ := I2.after hq'
        subst ev
        subst eH
        obtain rfl : w1 = Value.none := rv
        obtain ⟨⟨a0, sl, hx⟩, _⟩ := I3.hok _ _ upd_same
        refine ⟨rfl, I3.bk _ _ hC, ⟨_, _, _, hx⟩, ?_⟩
        refine L pins σ _ _ _ _ _ I3 hx rfl (by simp) rfl (Heap.get?_none_of_le (Nat.le_succ_of_le I1.sz)) (.inr ⟨_, upd_same⟩) ?_
        have eo : offH (upd (upd (upd H1 (s1.heap.objs.size + 1) (ExcO (s1.heap.objs.size + 1) C none)) dx (.xd [("at", y)])) (s1.heap.objs.size + 1) (ExcO (s1.heap.objs.size + 1) C (some dx))) (s1.heap.objs.size + 1) = upd H1 dx (.xd [("at", y)]) := funext fun b => by
          by_cases z : b = s1.heap.objs.size + 1
          · rw [z, offH_same, upd_ne (Ne.symm hne), fe]
          · rw [offH_ne z, upd_ne z]
            by_cases z2 : b = dx
            · rw [z2, upd_same, upd_same]
            · rw [upd_ne z2, upd_ne z, upd_ne z2]
        rw [eo]
        exact q1 dx hn
      | next => exact False.elim hq'
      | brk => exact False.elim hq'
      | cont => exact False.elim hq'
end L2

set_option Elab.async false
set_option linter.all false
set_option maxRecDepth 100000
/-! except C as e: return .. e.at .. -/
namespace L2
open PySem PySem.Spec PyProof.Rows PySem.W
open Sem (wp)
section
variable {prog : Program} {w : World} {A : Around} {E : Value → Shared → Prop} {s : Shared} {K : Frag} {x C : Addr} {ox : Obj} {od : Option Obj} {name : Str} {expr : Bool} {Q : Value → Shared → Prop}
theorem get_exc {v : Value} (X : K.In s.heap) (I : InstAt s.heap x ox C od) (c : ExcK K C) (hf : findObj K C od name = some (.value v)) (hh : handedIn v = true) (h : Q v { s with toks := s.toks + 1 }) :
    wpAny (model prog w) A (getAttr (.ref x) name expr) Q E s := by
  have FB := PySem.F.attrBase_ValueError
  obtain ⟨hp, g, d, t, os⟩ := s
  have L0 := I.type (M := model prog w)
  have L1 := looks_findIn (M := model prog w) X c.ga
  have L2 := looks_findIn (M := model prog w) X c.gn
  have L3 := looks_find (M := model prog w) X I hf
  have S := err_isIn (prog := prog) (w := w) (s := ⟨hp, g, d, t, os⟩) (T := "BaseException") X I c.eo (by decide)
  unfold getAttr getAttrBy
  refine wpAny_bind (wpAny_mkText (wpAny_holding (wpAny_bind (L0.at (wpAny_bind (L1.at ?_))))))
  have ne : (Value.builtin "BaseException.__getattribute__" == Value.builtin "object.__getattribute__") = false := by decide +kernel
  dsimp only
  rw [ne, Bool.and_false, if_neg (by decide)]
  unfold getAttrByItsOwn
  refine wpAny_bind ?_
  show wpAny _ _ (typeLookup (.ref C) "__getattr__") _ _ _
  refine L2.at ?_
  have hx0 : (expr && onTheHeap (Value.builtin "BaseException.__getattribute__")) = false := by cases expr <;> rfl
  unfold callGetattribute
  rw [hx0, if_neg (by decide)]
  refine wpAny_bind (wpAny_attempt (wpAny_holding ?_))
  unfold boundAndCalled
  rw [FB.ga.bind (.ref x)]
  refine wpAny_bind (wpAny_pure (wpAny_call (codeAny_call_builtin FB.ga.plain F.entry_bexc_ga ?_)))
  refine @check_slot (model prog w) _ _ ⟨hp, g, d, t + 1, os⟩ "BaseException.__getattribute__" "BaseException" "__getattribute__" (.ref x) [.str name t] [] _ (by decide +kernel) (by decide +kernel) S (F.args_bexc_ga (.ref x) (.str name t)) ?_
  unfold Builtin.«object.__getattribute__»
  refine wpAny_bind (wpAny_pure (wpAny_bind (wpAny_pure (wpAny_bind (L0.at (wpAny_bind (L3.at ?_)))))))
  refine wpAny_pure ?_
  show wpAny _ _ (handedOut v) _ _ _
  rw [handedOut_of hh]; exact wpAny_pure h
end
/-- an exception has come into a try of this def: its class, its dict -/
theorem landedD {X : Cx} {pins : List (Addr × Obj)} {σ : St} {H H' : Hp} {s s' : Shared} {ea : Addr} {cls : Value} {dd : Option Addr} {B h' : Heap} (I : Inv X pins σ H s) (F : Fly X.prog X.w X.base X.stack H s s' ea cls dd B H') (fl : Sta B X.stack ea cls dd (some .none) h') (up : s'.heap.UpToSlots h') :
    ∃ oe vs, Inv X pins σ H' { s' with heap := h' } ∧ h'.get? ea = some oe ∧ oe.cls = cls ∧ oe.data = .fields vs ∧ oe.dict = dd := by
  have u := F.go fl up
  obtain ⟨oe, vs, he, hc, hq, hd, _⟩ := fl.obj
  exact ⟨oe, vs, I.call' (s' := { s' with heap := h' }) (ch := []) F.os u (F.hok.kept fun b o q => fl.stay b o q) F.bare (fun b z => absurd z (by simp)), he, hc, hd, hq⟩
/-- except y as n: a suite that returns -/
theorem catchAs {X : Cx} {pins : List (Addr × Obj)} {σ : St} {H H' : Hp} {s s' : Shared} {ea L : Addr} {cls : Value} {dd : Option Addr} {B : Heap} {D : Ends} {y n : Str} {C : Addr} {i : Nat} {np hpos : Pos} {b0 : Stmt} {suite : List Stmt} {ts : TS} {rest : List ExceptHandler} {env0 : List Env}
    (hst : X.stack = X.env :: env0) (hfr : X.env.frame = some L) (hg : Gl X y) (hm : X.mg y = some (.ref C)) (hx : exmOne X.K cls (.ref C) = some true) (I : Inv X pins σ H s) (F : Fly X.prog X.w X.base X.stack H s s' ea cls dd B H')
    (hN : X.N.Nodup) (hi : X.N[i]? = some n) (hl : X.env.scope.names.lookup n = some .local) (hsu : ∀ oe vs, oe.cls = cls → oe.data = .fields vs → oe.dict = dd → PSs (exCx X ea oe) (b0 :: suite) ts)
    (q : ts { nx := fun _ _ => False, rt := D.rt } (σ.set i (some (.ref ea))) H') (hdb : (y == ("__debug__" : Str)) = false := by decide) :
    Catch X pins D (.ExceptHandler (some (.Name y np)) (some n) (b0 :: suite) hpos :: rest) (.ref ea) s' := by
  have frs1 : X.A.frames = some (X.env :: env0) := by rw [← hst]; exact I.ok.frames
  have fly1 := F.fly
  rw [hst] at fly1
  refine sta_note frs1 hfr (.inr rfl) fly1 fun h1 held1 up1 => sta_off held1 fun h2 fl2 up2 => ?_
  rw [← hst] at fl2
  have F2 := F.on fl2 (up1.trans up2)
  obtain ⟨oe, vs, I2, he2, hc2, hd2, _⟩ := landedD I F fl2 (up1.trans up2)
  have X2 := I2.toEx (oe := oe) he2 hd2 F.notB
  refine wpAny_handleBy_cons (codeAny_handlers_test (ld_glob X2 hg hm ((exm_one I2.kIn (exc_ty he2 hc2) hx).here ?_) hdb)) (by intro z; cases z)
  rw [if_pos rfl]
  refine codeAny_handlers_suite_as (sta_off fl2 fun h3 fl3 up3 => ?_)
  obtain ⟨oe3, vs3, I3, he3, hc3, hd3, hq3⟩ := landedD I F2 fl3 up3
  have X3 := I3.toEx (oe := oe3) he3 hd3 F.notB
  refine store_ok (X := exCx X ea oe3) (v := .ref ea) X3 hN hi (.inl hl) rfl (fun s4 X4 => ?_) (.inr hl)
  refine wpAny_mono (hsu oe3 vs3 hc3 hd3 hq3 pins _ _ H' { nx := fun _ _ => False, rt := D.rt } X4 q) (fun fl s5 h5 => ?_) fun _ _ z => z.elim
  have h6 := SP.ofEx I.ok h5
  have fin : ∀ {σ' : St} {H5 : Hp}, Inv X pins σ' H5 s5 → ∀ Q : Unit → Shared → Prop, (∀ σ'' s6, Inv X pins σ'' H5 s6 → Q () s6) → wpAny (model X.prog X.w) X.A (do bindName X.env n .none; unbindBehindTheSuite X.env n hpos) Q X.xe s5 := fun {σ' H5} I5 Q k => by
    obtain ⟨m, hn5, _⟩ := I5.loc
    refine wpAny_nameGoes hl hn5 (by rw [I.ok.kind]; rfl) fun h' m' hn' sb' => ?_
    exact k _ _ (I5.forgot (t' := s5.toks + 1) hn' sb')
  cases fl with
  | ret u =>
    obtain ⟨v, σ5, H5, I5, r5, q5⟩ := h6
    exact fin I5 _ fun σ'' s6 I6 => ⟨v, σ'', H5, I6, r5, q5⟩
  | next =>
    obtain ⟨σ5, H5, I5, q5⟩ := h5
    exact q5.elim
  | brk =>
    obtain ⟨σ5, H5, I5, q5⟩ := h5
    exact q5.elim
  | cont =>
    obtain ⟨σ5, H5, I5, q5⟩ := h5
    exact q5.elim
/-- e.f, of the exception that was caught -/
noncomputable def tExcAt (ea : Addr) (dd : Option Addr) (te : TE) (f : Str) : TE := fun σ H Q => te σ H fun x H1 => x = .ref ea ∧ ∃ dx fs v, dd = some dx ∧ H1 dx = some (.xd fs) ∧ fs.lookup f = some v ∧ Q v H1
theorem pe_excAt {X : Cx} {ea C : Addr} {oe : Obj} {vs : Array Value} {dd : Option Addr} {f : Str} {e : Expr} {te : TE} {pos : Pos} (c : ExcK X.K C) (n : NoAttr X.K C f) (hc : oe.cls = .ref C) (hdat : oe.data = .fields vs) (hd : oe.dict = dd) (he : PE (exCx X ea oe) e te)
    (hb : attributeBase e f X.env (eval e X.env) = eval e X.env := by rfl) : PE (exCx X ea oe) (.Attribute e f pos) (tExcAt ea dd te f) := by
  intro pins s σ H Q I h
  refine attr_of hb (thn (he pins s σ H _ I h) fun u s1 ⟨x, H1, I1, rx, ex, dx, fs, v, ed, eh, l, q⟩ => ?_)
  subst ex
  obtain rfl : u = Value.ref ea := rx
  have pe := (I1.pin (ea, oe) List.mem_cons_self).1
  obtain ⟨mA, n1, r⟩ := (show ObjOk _ _ _ _ dx (.xd fs) from I1.hok dx _ eh)
  obtain ⟨od, ho, hl⟩ := lookIn_ns n1
  obtain ⟨w1, hu, ru⟩ := RelO.some_of (v := v) (o := mA f) (by rw [← l]; exact r f)
  have J : InstAt s1.heap ea oe C (some od) := ⟨pe, hc, by unfold notCls; rw [hdat], by rw [hd, ed]; exact ho⟩
  exact get_exc I1.kIn J c (PySem.W.findObj_own c.hd n rfl (by rw [hl, hu])) (handed_of ru) ⟨v, H1, I1.tok _, ru, q⟩
section
variable {X : Cx} {k : Nat} {x y n : Str} {C L : Addr} {ps : List Str} {sp : Sp} {e : Expr} {es : List Expr} {t : TA} {env0 : List Env} {p np pos epos tpos hpos : Pos} {i : Nat} {b0 : Stmt} {suite : List Stmt} {ts : Addr → Option Addr → TS}
/-- try: x(..) except y as n: suite, a class without classes under it -/
noncomputable def tTryAs (K : PySem.W.Frag) (C : Addr) (sp : Sp) (t : TA) (i : Nat) (ts : Addr → Option Addr → TS) : TS := fun D σ H => t σ H fun vs H1 => sp vs H1 (fun _ H2 => D.nx σ H2) (fun cls dd H2 => cls = .ref C ∧ ∀ ea, H2 ea = none → ts ea dd { nx := fun _ _ => False, rt := D.rt } (σ.set i (some (.ref ea))) H2)
theorem ps_tryAs (c : Cal1 X.prog X.w X.K X.mg X.base k x ps sp) (hr : Room k X.A) (hst : X.stack = X.env :: env0) (hfr : X.env.frame = some L) (hg : Gl X x) (hgy : Gl X y) (hmy : X.mg y = some (.ref C)) (hex : exmOne X.K (.ref C) (.ref C) = some true) (ha : ∀ XE, PA (X.wish XE) (e :: es) t)
    (hN : X.N.Nodup) (hi : X.N[i]? = some n) (hl : X.env.scope.names.lookup n = some .local) (hsu : ∀ ea oe vs dd, oe.cls = .ref C → oe.data = .fields vs → oe.dict = dd → PSs (exCx X ea oe) (b0 :: suite) (ts ea dd))
    (hdb : (x == ("__debug__" : Str)) = false := by decide) (hdy : (y == ("__debug__" : Str)) = false := by decide)
    (he : starEach (e :: es) X.env = (false, eval e X.env) :: starEach es X.env := by rfl) (hpl : (backTo pos (starEach es X.env)).any (·.1) = false := by rfl) (hsw : swapsWith (.Call (.Name x p) (e :: es) [] pos) none epos.line X.env = pure false := by rfl) :
    PS X (.Try [.Expr (.Call (.Name x p) (e :: es) [] pos) epos] [.ExceptHandler (some (.Name y np)) (some n) (b0 :: suite) hpos] [] [] tpos) (tTryAs X.K C sp t i ts) := by
  intro pins s σ H D I h
  refine wpAny_Try_except (wpAny_execs_cons ?_)
  refine wpAny_mono (wpAny_Expr_any (Q := fun f s1 => f = .next ∧ ∃ H1, Inv X pins σ H1 s1 ∧ D.nx σ H1) (E := Catch X pins D [.ExceptHandler (some (.Name y np)) (some n) (b0 :: suite) hpos])
    (wpAny_mono (try_call (E := fun cls dd H2 => cls = .ref C ∧ ∀ ea, H2 ea = none → ts ea dd { nx := fun _ _ => False, rt := D.rt } (σ.set i (some (.ref ea))) H2) (Q := fun _ H2 => D.nx σ H2) c hr hg (ha _) I (fun H1 s1 v s2 I1 ⟨ea, cls, dd, B, H', ev, F, hx, q⟩ => ?_) h hdb he hpl) (fun v s1 ⟨z, H1, I1, _, q⟩ => ⟨rfl, H1, I1, q⟩) fun _ _ z => z) I.quiet hsw) (fun f s1 ⟨ef, H1, I1, q⟩ => ?_) fun _ _ z => z
  · subst ef
    exact wpAny_execs_nil (wpAny_execs_nil ⟨σ, H1, I1, q⟩)
  · subst ev
    subst hx
    exact catchAs hst hfr hgy hmy hex I1 F hN hi hl (fun oe vs hc hd hq => hsu ea oe vs dd hc hd hq) (q ea F.notB) hdy
end
end L2

set_option Elab.async false
set_option linter.all false
set_option maxRecDepth 100000
/-! An own class of exceptions with an `__init__`, as it stands behind the top. -/
namespace L2
open PySem PySem.Spec PyProof.Rows PySem.W
noncomputable def clsBody (s : Stmt) : List Stmt := match s with
  | .ClassDef _ _ _ b _ _ _ _ _ _ _ => b
  | _ => []
/-- the class at C is one of exceptions, with the def at fI as its `__init__` -/
noncomputable def excJIn (K : Frag) (C fI : Addr) (bmB : List Value) (newId : String) : Bool := match K.lookup C with
  | some ⟨.type "type", _, .cls cd, sl⟩ => (match cd.mro, sl.toList with
    | .ref C' :: bm, [_, _, _, _, some (.builtin n), _] => C' == C && n == newId && !cd.hasDel && tailIn K bmB bm && nsOkIn K cd.ns && nsIn K cd.ns "__init__" == some (some (.ref fI)) && typeIn K (.ref fI) == some (.type "function")
    | _, _ => false)
  | _ => false
theorem nsMap_some_of_in {K : Frag} {h : Heap} {N : Addr} {x : Str} {v : Value} (X : K.In h) (e : nsOkIn K N = true) (q : nsIn K N x = some (some v)) : h.nsMap N x = some v := by
  have G : h.Ns N (h.nsMap N) := .of_isNs (isNs_of_in X e)
  obtain ⟨o, es, ep, ho, hd, _, hf⟩ := G
  unfold nsIn at q
  split at q
  · rename_i c d es' n' sl lk
    have := X _ _ lk
    rw [ho] at this
    cases this
    cases hd
    split at q
    · rename_i en he
      cases q
      rw [← hf]
      unfold nsFind findBy
      rw [← Array.find?_toList, he]
      rfl
    · split at q <;> cases q
  · cases q
theorem fn_cls {K : Frag} {h : Heap} {f : Addr} (X : K.In h) (e : typeIn K (.ref f) = some (.type "function")) : ∃ o, h.get? f = some o ∧ o.cls = .type "function" := by
  obtain ⟨o, ho, hc⟩ := Option.map_eq_some_iff.mp (show (K.lookup f).map (·.cls) = some (.type "function") from e)
  exact ⟨o, X _ _ ho, hc⟩
theorem ownI_mk {K : Frag} {base : Heap} {mg : Str → Option Value} {x : Str} {C fI : Addr} {bmB : List Value} {newId : String} (X : K.In base) (G : base.Ns mainGlobals mg) (e : nsIn K mainGlobals x = some (some (.ref C))) (q : excJIn K C fI bmB newId = true) : OwnI x C fI bmB newId mg base := by
  refine ⟨mg_of X G e, ?_⟩
  unfold excJIn at q
  split at q
  · rename_i dd cd sl ho
    split at q
    · rename_i C' bm k0 k1 k2 k3 n k5 hm hs
      simp only [Bool.and_eq_true, beq_iff_eq, Bool.not_eq_true'] at q
      obtain ⟨⟨⟨⟨⟨⟨e1, e2⟩, hdel⟩, htl⟩, hok⟩, hni⟩, hfn⟩ := q
      subst e1 e2
      obtain ⟨nm, bs, mro, ns, qn, hd, sn, sub, ab, col, del⟩ := cd
      simp only at hm hdel hok hni
      subst hm hdel
      have hsl : sl = #[k0, k1, k2, k3, some (.builtin n), k5] := by
        cases sl
        simp only at hs
        rw [hs]
      subst hsl
      obtain ⟨oI, ho1, ho2⟩ := fn_cls X hfn
      exact ⟨bm, ns, nm, qn, bs, hd, sn, sub, ab, col, dd, k0, k1, k2, k3, k5, _, oI, X _ _ ho, .of_isNs (isNs_of_in X hok), nsMap_some_of_in X hok hni, tail_of_in X htl, ho1, ho2⟩
    · cases q
  · cases q
/-- all that is read of such a class -/
structure JX (K : Frag) (x qual : Str) (st : Stmt) (C : Addr) : Prop where
  ex : ∃ (fI : Addr) (fd : FuncData), nsIn K mainGlobals x = some (some (.ref C)) ∧ excJIn K C fI errMro "ValueError.__new__" = true ∧ Fun K "__init__" qual st fI fd
  k : ExcK K C
  n : NoAttr K C "at"
  m : exmOne K (.ref C) (.ref C) = some true
  g : ∃ Cg : Addr, nsIn K mainGlobals "GridError" = some (some (.ref Cg)) ∧ specialIn K (.ref Cg) "__getattribute__" = some (some (.builtin "type.__getattribute__")) ∧ readsIn K Cg (.type "type") = true ∧ findCls K (.ref Cg) (.type "type") "__init__" = some (.val (.builtin "ValueError.__init__"))
/-- one that may be raised -/
structure ExcJ (P : Program) (w : World) (K : Frag) (mg : Str → Option Value) (base : Heap) (x : Str) (C : Addr) : Prop where
  ex : ∃ (fI : Addr) (fd : FuncData) (ps : List Str), OwnI x C fI errMro "ValueError.__new__" mg base ∧ FnOk P w K mg base CX0 1 fI fd ps (spExcInit C) ∧ Binds K fd ps []
  mg : mg x = some (.ref C)
  k : ExcK K C
  n : NoAttr K C "at"
  m : exmOne K (.ref C) (.ref C) = some true
theorem ps_raiseJ {X : Cx} {x : Str} {C : Addr} {E : XK} {e0 : Expr} {t : TA} {np cpos pos : Pos} {k : Nat} (O : ExcJ X.prog X.w X.K X.mg X.base x C) (hr : Room (k + 2) X.A) (hc : X.calm = true) (hg : Gl X x) (L : LetsD X E) (ha : PA X [e0] t)
    (hdb : (x == ("__debug__" : Str)) = false := by decide) (he : starEach [e0] X.env = (false, eval e0 X.env) :: starEach [] X.env := by rfl) (hpl : (backTo cpos (starEach [] X.env)).any (·.1) = false := by rfl) :
    PS X (.Raise (some (.Call (.Name x np) [e0] [] cpos)) none pos) (tRaiseI C E t) := by
  obtain ⟨fI, fd, ps, o, f, b⟩ := O.ex
  exact ps_raiseI PySem.F.excBase_ValueError o f b (hr.mono (by omega)) hc hg L ha hdb he hpl
theorem jx_mk {K : Frag} {x qual : Str} {st : Stmt} {C fI Cg : Addr} {cd : ClassData} {oc : Value} {od an : Option Addr} {osl : Array (Option Value)} {kV doc pm cdv ct : Value} (e : nsIn K mainGlobals x = some (some (.ref C))) (c : clsIn K C = some cd) (i : nsIn K cd.ns "__init__" = some (some (.ref fI)))
    (q : excJIn K C fI errMro "ValueError.__new__" = true) (l : K.lookup fI = some ⟨oc, od, .func (PySem.W.fnOf "__init__" qual (defArgs st) (defBody st) (defScope st) .none kV doc pm an cdv ct), osl⟩) (co : codeIn K cdv qual = true) (kp : keepIn K (.ref fI) = true)
    (k1 : findIn K (.ref C) "__setattr__" = some (some (.builtin "object.__setattr__"))) (k2 : errOver K C = true) (k3 : hasDictIn K C = true) (k4 : findIn K (.ref C) "__getattribute__" = some (some (.builtin "BaseException.__getattribute__"))) (k5 : findIn K (.ref C) "__getattr__" = some none)
    (n : findIn K (.ref C) "at" = some none) (m : exmOne K (.ref C) (.ref C) = some true) (g0 : nsIn K mainGlobals "GridError" = some (some (.ref Cg))) (g1 : specialIn K (.ref Cg) "__getattribute__" = some (some (.builtin "type.__getattribute__"))) (g2 : readsIn K Cg (.type "type") = true)
    (g3 : findCls K (.ref Cg) (.type "type") "__init__" = some (.val (.builtin "ValueError.__init__"))) : JX K x qual st C :=
  ⟨⟨fI, _, e, q, fun_mk l co kp⟩, ⟨k1, k2, k3, k4, k5⟩, n, m, Cg, g0, g1, g2, g3⟩
theorem small_log {n : Nat} (h : n ≤ 1000) : ((n : Int)).natAbs.log2 < 1920 := by
  rw [Int.natAbs_natCast]
  by_cases z : n = 0
  · subst z; decide
  · exact Nat.lt_of_lt_of_le ((Nat.log2_lt z).mpr (Nat.lt_of_le_of_lt h (by decide : 1000 < 2 ^ 10))) (by decide)
theorem two_vals {α : Type} {P : List α → Prop} (h : ∀ a b, P [a, b]) : ∀ us : List α, us.length = 2 → P us
  | [a, b], _ => h a b
end L2

set_option Elab.async false
set_option linter.all false
set_option autoImplicit false
set_option maxRecDepth 100000
/-! things of any kind; list.insert -/
namespace L2
open PySem PySem.Spec PyProof.Rows
section
variable {X : Cx}
noncomputable def rInsert : V → List V → Hp → VK → Prop := fun x vs H Q => ∃ l xs k y, x = .ref l ∧ vs = [.int ((k : Nat) : Int), y] ∧ H l = some (.lst xs) ∧ k ≤ xs.length ∧ xs.length < 1000 ∧ Q .non (upd H l (.lst (xs.take k ++ y :: xs.drop k)))
theorem mt_insert : MtM X "list.insert" rInsert := by
  intro pins s σ H x vs v us Q I rx rv h
  obtain ⟨l, xs, k, y, rfl, rfl, hH, hk, hz, q⟩ := h
  cases rx
  obtain ⟨u, u2, rfl, ru, ru2⟩ := rv.two
  obtain ⟨t, rfl⟩ := ru
  obtain ⟨z, its, n, r, hl, e⟩ := I.lstM hH
  have sl : (1000 : Nat) < sizeLine := by rw [sizeLine_eq]; omega
  have fi : ¬(!Builtin.List.listFitsIndex (k : Int)) = true := by
    rw [fitsIndex_both (by omega) (by omega)]
    exact Bool.false_ne_true
  have hsz : its.toArray.size ≤ sizeLine := by rw [List.size_toArray]; omega
  have hk2 : (if (k : Int) < 0 then ((k : Int) + (its.toArray.size : Int)).toNat else min (k : Int).toNat its.toArray.size) = k := by
    rw [if_neg (by omega), List.size_toArray, ← hl]
    omega
  generalize (k : Int) = x at fi hk2 ⊢
  refine call_meets PySem.F.slot_list_insert ⟨_, e, rfl⟩ PySem.F.entry_list_insert (PySem.F.args_list_insert_3 _ _ _) (PySem.AutoSeq1.list_insert_list_int_val_1 l its.toArray n x t u2 fi hsz) ⟨e, ?_⟩
  refine ⟨.non, _, I.lset (its' := its.take k ++ u2 :: its.drop k) hH e ?_ ((r.take k).append (.cons ru2 (r.drop k))) ?_, rfl, q⟩
  · show (its.toArray.extract 0 (if x < 0 then (x + (its.toArray.size : Int)).toNat else min x.toNat its.toArray.size)).push u2 ++ its.toArray.extract (if x < 0 then (x + (its.toArray.size : Int)).toNat else min x.toNat its.toArray.size) = _
    rw [hk2]
    apply Array.toList_inj.mp
    simp
    exact List.take_of_length_le (by rw [List.length_drop]; omega)
  · rw [List.length_append, List.length_take, List.length_cons, List.length_drop]
    omega
end
end L2

namespace GT
open PySem L2
/-- a thing of any kind -/
inductive Thg where
  | non | bl (b : Bool) | int (i : Int) | str (x : Str) | tup (ds : List Thg) | lst (ds : List Thg)
inductive AtG (H : Hp) : Thg → V → Prop where
  | non : AtG H .non .non
  | bl (b : Bool) : AtG H (.bl b) (.bl b)
  | int (i : Int) : AtG H (.int i) (.int i)
  | str (x : Str) (h : x.length ≤ 1000) : AtG H (.str x) (.str x)
  | tup {a : Addr} {xs : List V} {ds : List Thg} (h : H a = some (.tup xs)) (r : Paired (AtG H) ds xs) : AtG H (.tup ds) (.ref a)
  | lst {a : Addr} {xs : List V} {ds : List Thg} (h : H a = some (.lst xs)) (r : Paired (AtG H) ds xs) : AtG H (.lst ds) (.ref a)
noncomputable abbrev AtGL (H : Hp) : List Thg → List V → Prop := Paired (AtG H)
mutual
theorem AtG.mono {H H' : Hp} (s : Same H H') : ∀ {g : Thg} {v : V}, AtG H g v → AtG H' g v
  | _, _, .non => .non
  | _, _, .bl b => .bl b
  | _, _, .int i => .int i
  | _, _, .str x h => .str x h
  | _, _, .tup h r => .tup (s _ _ h) (AtGL.mono s r)
  | _, _, .lst h r => .lst (s _ _ h) (AtGL.mono s r)
theorem AtGL.mono {H H' : Hp} (s : Same H H') : ∀ {g : List Thg} {v : List V}, AtGL H g v → AtGL H' g v
  | _, _, .nil => .nil
  | _, _, .cons h r => .cons (AtG.mono s h) (AtGL.mono s r)
end
noncomputable def tyG : Thg → String
  | .non => "NoneType" | .bl _ => "bool" | .int _ => "int" | .str _ => "str" | .tup _ => "tuple" | .lst _ => "list"
theorem AtG.ty {K : PySem.W.Frag} {H : Hp} {g : Thg} {v : V} (h : AtG H g v) : TyOf K H v (.type (tyG g)) := by
  cases h with
  | non => exact .non
  | bl b => exact .bl b
  | int i => exact .int i
  | str x _ => exact .str x
  | tup h _ => exact .tup h
  | lst h _ => exact .lst h
noncomputable def isInt : Thg → Bool | .int _ => true | .bl _ => true | _ => false
noncomputable def isBl : Thg → Bool | .bl _ => true | _ => false
noncomputable def isStr : Thg → Bool | .str _ => true | _ => false
noncomputable def isTup : Thg → Bool | .tup _ => true | _ => false
noncomputable def isLst : Thg → Bool | .lst _ => true | _ => false
theorem kit_int {K : PySem.W.Frag} (g : Thg) : PySem.W.kitOne K (.type (tyG g)) (.type "int") = some (isInt g) := by cases g <;> rfl
theorem kit_bl {K : PySem.W.Frag} (g : Thg) : PySem.W.kitOne K (.type (tyG g)) (.type "bool") = some (isBl g) := by cases g <;> rfl
theorem kit_str {K : PySem.W.Frag} (g : Thg) : PySem.W.kitOne K (.type (tyG g)) (.type "str") = some (isStr g) := by cases g <;> rfl
theorem kit_tup {K : PySem.W.Frag} (g : Thg) : PySem.W.kitOne K (.type (tyG g)) (.type "tuple") = some (isTup g) := by cases g <;> rfl
theorem kit_lst {K : PySem.W.Frag} (g : Thg) : PySem.W.kitOne K (.type (tyG g)) (.type "list") = some (isLst g) := by cases g <;> rfl
noncomputable def isNumG : Thg → Bool | .int _ => true | _ => false
noncomputable def isSideG : Thg → Bool | .int i => decide (1 ≤ i) && decide (i ≤ 16) | _ => false
noncomputable def inSg (c : Nat) : Bool := !(Builtin.Str.occurrences signs ⟨#[c]⟩ 0 signs.length 1).isEmpty
noncomputable def isWordG : Thg → Bool | .str x => decide (1 ≤ x.length) && decide (x.length ≤ 12) && x.cps.toList.all inSg | _ => false
noncomputable def areWordsG : Thg → Bool | .tup ds => decide (ds.length ≤ 12) && ds.all isWordG | _ => false
noncomputable def isCellG : Thg → Bool | .tup [.int a, .int b, .int c, .int d, e] => decide (0 ≤ a) && decide (0 ≤ b) && decide (1 ≤ c) && decide (1 ≤ d) && areWordsG e | _ => false
noncomputable def isFrameG : Thg → Bool | .tup [a, b, .lst _] => isSideG a && isSideG b | _ => false
noncomputable def Cell.G (x : Cell) : Thg := .tup [.int x.top, .int x.left, .int x.h, .int x.w, .tup (x.words.map Thg.str)]
end GT

set_option Elab.async false
set_option linter.all false
set_option autoImplicit false
set_option maxRecDepth 100000
namespace GT
open PySem L2
theorem AtG.tup_inv {H : Hp} {ds : List Thg} {v : V} (h : AtG H (.tup ds) v) : ∃ a xs, v = .ref a ∧ H a = some (.tup xs) ∧ AtGL H ds xs := by
  cases h with
  | tup h r => exact ⟨_, _, rfl, h, r⟩
theorem AtG.lst_inv {H : Hp} {ds : List Thg} {v : V} (h : AtG H (.lst ds) v) : ∃ a xs, v = .ref a ∧ H a = some (.lst xs) ∧ AtGL H ds xs := by
  cases h with
  | lst h r => exact ⟨_, _, rfl, h, r⟩
theorem AtG.int_inv {H : Hp} {i : Int} {v : V} (h : AtG H (.int i) v) : v = .int i := by cases h; rfl
theorem AtG.str_inv {H : Hp} {x : Str} {v : V} (h : AtG H (.str x) v) : v = .str x ∧ x.length ≤ 1000 := by cases h; exact ⟨rfl, by assumption⟩
theorem strsG_at {H : Hp} : ∀ {ws : List Str}, (∀ x ∈ ws, x.length ≤ 1000) → AtGL H (ws.map Thg.str) (ws.map V.str)
  | [], _ => .nil
  | x :: ws, h => .cons (.str x (h x List.mem_cons_self)) (strsG_at fun y hy => h y (List.mem_cons_of_mem _ hy))
theorem strsG_eq {H : Hp} : ∀ {ws : List Str} {vs : List V}, AtGL H (ws.map Thg.str) vs → vs = ws.map V.str
  | [], [], _ => rfl
  | x :: ws, v :: vs, h => by
    cases h with
    | cons h r =>
      rw [h.str_inv.1, strsG_eq r]
      rfl
theorem Cell.atG {H : Hp} {x : Cell} {v : V} (h : At H x.D v) (ok : ∀ y ∈ x.words, y.length ≤ 1000) : AtG H x.G v := by
  obtain ⟨b, wb, ws, rfl, hb, hwb, aws⟩ := Cell.at_inv h
  rw [strs_eq aws] at hwb
  exact .tup hb (.cons (.int _) (.cons (.int _) (.cons (.int _) (.cons (.int _) (.cons (.tup hwb (strsG_at ok)) .nil)))))
theorem WordsOk.small {ws : List Str} (h : WordsOk ws) : ∀ y ∈ ws, y.length ≤ 1000 := fun y hy => by have := (h.each y hy).hi; omega
theorem Cell.ofG {H : Hp} {x : Cell} {v : V} (h : AtG H x.G v) : At H x.D v := by
  obtain ⟨a, xs, rfl, ha, r⟩ := h.tup_inv
  cases r with
  | cons h1 r =>
    cases r with
    | cons h2 r =>
      cases r with
      | cons h3 r =>
        cases r with
        | cons h4 r =>
          cases r with
          | cons h5 r =>
            cases r
            rw [h1.int_inv, h2.int_inv, h3.int_inv, h4.int_inv] at ha
            obtain ⟨b, ys, rfl, hb, rb⟩ := h5.tup_inv
            rw [strsG_eq rb] at hb
            exact Cell.at_mk (x := x) (b := b) (ws := x.words.map V.str) ha hb (strs_at _ _)
theorem word_ok {x : Str} (h : WordOk x) : isWordG (.str x) = true := by
  unfold isWordG
  rw [Bool.and_eq_true, Bool.and_eq_true]
  exact ⟨⟨decide_eq_true h.lo, decide_eq_true h.hi⟩, List.all_eq_true.mpr fun c hc => sign_in c (h.all c hc)⟩
theorem words_ok {ws : List Str} (h : WordsOk ws) : areWordsG (.tup (ws.map Thg.str)) = true := by
  unfold areWordsG
  rw [Bool.and_eq_true]
  refine ⟨decide_eq_true (by rw [List.length_map]; exact h.few), List.all_eq_true.mpr fun g hg => ?_⟩
  obtain ⟨x, hx, rfl⟩ := List.mem_map.mp hg
  exact word_ok (h.each x hx)
theorem cell_ok {x : Cell} (h1 : 1 ≤ x.h) (w1 : 1 ≤ x.w) (h : WordsOk x.words) : isCellG x.G = true := by
  unfold Cell.G isCellG
  simp only [Bool.and_eq_true, decide_eq_true_eq]
  refine ⟨⟨⟨⟨by omega, by omega⟩, by omega⟩, by omega⟩, words_ok h⟩
theorem strs_of : ∀ {ds : List Thg}, ds.all isWordG = true → ∃ ws : List Str, ds = ws.map Thg.str
  | [], _ => ⟨[], rfl⟩
  | d :: ds, h => by
    rw [List.all_cons, Bool.and_eq_true] at h
    obtain ⟨ws, rfl⟩ := strs_of h.2
    cases d with
    | str x => exact ⟨x :: ws, rfl⟩
    | _ => cases h.1
theorem cell_inv {g : Thg} (h : isCellG g = true) : ∃ x : Cell, g = x.G ∧ 1 ≤ x.h ∧ 1 ≤ x.w := by
  unfold isCellG at h
  split at h
  · rename_i a b c d e
    simp only [Bool.and_eq_true, decide_eq_true_eq] at h
    obtain ⟨⟨⟨⟨ha, hb⟩, hc⟩, hd⟩, he⟩ := h
    cases e with
    | tup ds =>
      have he : (decide (ds.length ≤ 12) && ds.all isWordG) = true := he
      rw [Bool.and_eq_true] at he
      obtain ⟨ws, rfl⟩ := strs_of he.2
      refine ⟨⟨a.toNat, b.toNat, c.toNat, d.toNat, ws⟩, ?_, by show 1 ≤ c.toNat; omega, by show 1 ≤ d.toNat; omega⟩
      unfold Cell.G
      have e1 : ((a.toNat : Nat) : Int) = a := by omega
      have e2 : ((b.toNat : Nat) : Int) = b := by omega
      have e3 : ((c.toNat : Nat) : Int) = c := by omega
      have e4 : ((d.toNat : Nat) : Int) = d := by omega
      rw [e1, e2, e3, e4]
    | _ => cases he
  · cases h
/-- no cell that goes behind cs -/
noncomputable def Wrong (R C : Nat) (cs : List Cell) (g : Thg) : Prop := isCellG g = false ∨ ∃ x : Cell, g = x.G ∧ (R < x.top + x.h ∨ C < x.left + x.w ∨ (∃ y, cs.getLast? = some y ∧ ¬ Before y x) ∨ ∃ y ∈ cs, ∃ r c, inC x r c ∧ inC y r c)
theorem cell_G_inj {x y : Cell} (h : x.G = y.G) : x = y := by
  unfold Cell.G at h
  obtain ⟨a, b, c, d, e⟩ := x
  obtain ⟨a', b', c', d', e'⟩ := y
  simp only [Thg.tup.injEq, List.cons.injEq, Thg.int.injEq, and_true] at h
  obtain ⟨h1, h2, h3, h4, h5⟩ := h
  have inj : ∀ {l m : List Str}, l.map Thg.str = m.map Thg.str → l = m := fun {l m} q => by
    have := congrArg (List.map fun g => match g with | Thg.str x => x | _ => (Str.ofString "")) q
    rw [List.map_map, List.map_map] at this
    have e : ((fun g => match g with | Thg.str x => x | _ => (Str.ofString "")) ∘ Thg.str) = id := rfl
    rw [e, List.map_id, List.map_id] at this
    exact this
  have h5 := inj h5
  congr 1 <;> omega
end GT

set_option Elab.async false
set_option linter.all false
set_option autoImplicit false
set_option maxRecDepth 100000
namespace GT
open PySem L2
noncomputable def Fault (R C : Nat) (gs : List Thg) : Option Nat → Prop
  | some k => ∃ cs : List Cell, cs.length = k ∧ Part R C cs ∧ cs.Pairwise Before ∧ ∃ x, gs[k]? = some x ∧ gs.take k = cs.map Cell.G ∧ Wrong R C cs x
  | none => ∃ cs : List Cell, Part R C cs ∧ cs.Pairwise Before ∧ gs = cs.map Cell.G ∧ ∃ r c, r < R ∧ c < C ∧ ¬ cov cs r c
noncomputable def atV : Option Nat → V
  | some k => .int (k : Int)
  | none => .non
section
variable {R C : Nat} {cs : List Cell}
theorem Part.subl {ds : List Cell} (p : Part R C cs) (h : ds.Sublist cs) : Part R C ds := ⟨fun x hx => p.fit x (h.subset hx), p.dis.sublist h⟩
theorem Before.irr (x : Cell) : ¬ Before x x := by unfold Before; omega
theorem Before.no {x y : Cell} (h : Before x y) : ¬ Before y x := by unfold Before at *; omega
/-- a wrong thing in the place of a cell -/
theorem fault_at (t : Tiles R C cs) {k : Nat} {gs : List Thg} {x : Thg} (hk : k ≤ cs.length) (h1 : gs.take k = (cs.map Cell.G).take k) (h2 : gs[k]? = some x) (hw : Wrong R C (cs.take k) x) : Fault R C gs (some k) :=
  ⟨cs.take k, by rw [List.length_take]; omega, t.toPart.subl (List.take_sublist ..), t.ord.sublist (List.take_sublist ..), x, h2, by rw [h1, List.map_take], hw⟩
theorem take_set_same {α : Type} {l : List α} {k j : Nat} {x : α} (h : k ≤ j) : (l.set j x).take k = l.take k := by
  refine List.ext_getElem? fun i => ?_
  by_cases z : i < k
  · rw [List.getElem?_take_of_lt z, List.getElem?_take_of_lt z, List.getElem?_set_ne (by omega)]
  · rw [List.getElem?_eq_none (by rw [List.length_take]; omega), List.getElem?_eq_none (by rw [List.length_take]; omega)]
/-- a cell put in again behind itself -/
theorem fault_twice (t : Tiles R C cs) {k : Nat} {x : Cell} (hx : cs[k]? = some x) {gs : List Thg} (e : gs = (cs.map Cell.G).take (k + 1) ++ x.G :: (cs.map Cell.G).drop (k + 1)) : Fault R C gs (some (k + 1)) := by
  have hk := (List.getElem?_eq_some_iff.mp hx).1
  have l1 : ((cs.map Cell.G).take (k + 1)).length = k + 1 := by rw [List.length_take, List.length_map]; omega
  refine fault_at t (x := x.G) (by omega) (by rw [e, List.take_append_of_le_length (by omega), List.take_of_length_le (by omega)]) (by rw [e, List.getElem?_append_right (by omega), l1, Nat.sub_self]; rfl) (.inr ⟨x, rfl, .inr (.inr (.inl ⟨x, ?_, Before.irr x⟩))⟩)
  rw [List.getLast?_eq_getElem?, List.length_take, Nat.min_eq_left (by omega), Nat.add_sub_cancel, List.getElem?_take_of_lt (by omega)]
  exact hx
/-- two cells changed about -/
theorem fault_swap (t : Tiles R C cs) {k : Nat} {x y : Cell} (hx : cs[k]? = some x) (hy : cs[k + 1]? = some y) {gs : List Thg} (e : gs = ((cs.map Cell.G).set k y.G).set (k + 1) x.G) : Fault R C gs (some (k + 1)) := by
  have hk := (List.getElem?_eq_some_iff.mp hy).1
  have be : Before x y := by
    have := List.pairwise_iff_getElem.mp t.ord k (k + 1) (by omega) hk (by omega)
    rw [(List.getElem?_eq_some_iff.mp hx).2, (List.getElem?_eq_some_iff.mp hy).2] at this
    exact this
  have ez : cs.take (k + 2) = cs.take k ++ [x, y] := by
    rw [List.take_add_one, List.take_add_one, hx, hy, List.append_assoc]
    rfl
  have sub : (cs.take k ++ [y]).Sublist (cs.take (k + 2)) := by
    rw [ez]
    exact List.Sublist.append (List.Sublist.refl _) (List.Sublist.cons _ (List.Sublist.refl _))
  have sub2 : (cs.take k ++ [y]).Sublist cs := sub.trans (List.take_sublist ..)
  refine ⟨cs.take k ++ [y], by rw [List.length_append, List.length_take]; simp; omega, t.toPart.subl sub2, t.ord.sublist sub2, x.G, ?_, ?_, .inr ⟨x, rfl, .inr (.inr (.inl ⟨y, by simp, be.no⟩))⟩⟩
  · rw [e, List.getElem?_set_self (by rw [List.length_set, List.length_map]; omega)]
  · rw [e, take_set_same (Nat.le_refl _), List.take_add_one, take_set_same (Nat.le_refl _), List.getElem?_set_self (by rw [List.length_map]; omega), List.map_append, List.map_take]
    rfl
theorem map_erase {α β : Type} (f : α → β) : ∀ (l : List α) (k : Nat), (l.map f).eraseIdx k = (l.eraseIdx k).map f
  | [], _ => rfl
  | _ :: _, 0 => rfl
  | a :: l, k + 1 => by
    show f a :: (l.map f).eraseIdx k = f a :: (l.eraseIdx k).map f
    rw [map_erase f l k]
/-- a cell left out -/
theorem fault_less (t : Tiles R C cs) {k : Nat} {x : Cell} (hx : cs[k]? = some x) : Fault R C ((cs.map Cell.G).eraseIdx k) none := by
  have hk := List.getElem?_eq_some_iff.mp hx
  have fx := t.toPart.fit x (List.mem_of_getElem? hx)
  have a1 := fx.h1
  have a2 := fx.w1
  have a3 := fx.down
  have a4 := fx.across
  refine ⟨cs.eraseIdx k, t.toPart.subl (List.eraseIdx_sublist ..), t.ord.sublist (List.eraseIdx_sublist ..), map_erase _ _ _, x.top, x.left, by omega, by omega, ?_⟩
  rintro ⟨y, hy, iy⟩
  obtain ⟨j, hj⟩ := List.mem_iff_getElem?.mp hy
  have ix : inC x x.top x.left := by unfold inC; omega
  rw [List.getElem?_eraseIdx] at hj
  split at hj
  · rename_i hlt
    have hj2 := List.getElem?_eq_some_iff.mp hj
    have := List.pairwise_iff_getElem.mp t.dis j k hj2.1 hk.1 hlt
    rw [hj2.2, hk.2] at this
    exact this _ _ iy ix
  · rename_i hlt
    have hj2 := List.getElem?_eq_some_iff.mp hj
    have := List.pairwise_iff_getElem.mp t.dis k (j + 1) hk.1 hj2.1 (by omega)
    rw [hj2.2, hk.2] at this
    exact this _ _ ix iy
end
/-- the first that covers a place twice -/
theorem first_twice {ds : List Cell} : ∀ n, n ≤ ds.length → (ds.take n).Pairwise Apart ∨ ∃ k x, ds[k]? = some x ∧ (ds.take k).Pairwise Apart ∧ ∃ y ∈ ds.take k, ∃ r c, inC x r c ∧ inC y r c
  | 0, _ => .inl (by rw [List.take_zero]; exact .nil)
  | n + 1, h => by
    rcases first_twice (ds := ds) n (by omega) with p | p
    · obtain ⟨x, hx⟩ : ∃ x, ds[n]? = some x := ⟨_, List.getElem?_eq_getElem (by omega)⟩
      by_cases z : ∃ y ∈ ds.take n, ∃ r c, inC x r c ∧ inC y r c
      · exact .inr ⟨n, x, hx, p, z⟩
      · refine .inl ?_
        rw [List.take_add_one, hx]
        refine List.pairwise_append.mpr ⟨p, List.pairwise_singleton _ _, fun y hy x' hx' r c h1 h2 => ?_⟩
        have : x' = x := by simpa using hx'
        subst this
        exact z ⟨y, hy, r, c, h2, h1⟩
    · exact .inr p
section
variable {R C : Nat} {cs : List Cell}
/-- a cell that has grown over another one -/
theorem grown_twice (t : Tiles R C cs) {k : Nat} {x x' : Cell} (hx : cs[k]? = some x) (f' : Fit R C x') (e1 : x'.top = x.top) (e2 : x'.left = x.left) {r c : Nat} (hr : r < R) (hc : c < C) (i' : inC x' r c) (no : ¬ inC x r c) :
    ∃ i y, (cs.set k x')[i]? = some y ∧ Part R C ((cs.set k x').take i) ∧ Fit R C y ∧ (∃ z ∈ (cs.set k x').take i, ∃ r c, inC y r c ∧ inC z r c) ∧ Fault R C ((cs.set k x').map Cell.G) (some i) := by
  have hk := (List.getElem?_eq_some_iff.mp hx).1
  have fit : ∀ y ∈ cs.set k x', Fit R C y := fun y hy => by
    rcases List.mem_or_eq_of_mem_set hy with h | h
    · exact t.toPart.fit y h
    · rw [h]; exact f'
  have ord : (cs.set k x').Pairwise Before := by
    refine List.pairwise_iff_getElem.mpr fun i j hi hj hij => ?_
    rw [List.length_set] at hi hj
    have o := List.pairwise_iff_getElem.mp t.ord i j hi hj hij
    have gx : cs[k] = x := (List.getElem?_eq_some_iff.mp hx).2
    have same : ∀ (m : Nat) (hm : m < cs.length), ((cs.set k x')[m]'(by rw [List.length_set]; exact hm)).top = cs[m].top ∧ ((cs.set k x')[m]'(by rw [List.length_set]; exact hm)).left = cs[m].left := fun m hm => by
      rw [List.getElem_set]
      split
      · rename_i h
        subst h
        rw [gx]
        exact ⟨e1, e2⟩
      · exact ⟨rfl, rfl⟩
    obtain ⟨s1, s2⟩ := same i hi
    obtain ⟨s3, s4⟩ := same j hj
    unfold Before at o ⊢
    rw [s1, s2, s3, s4]
    exact o
  rcases first_twice (ds := cs.set k x') (cs.set k x').length (Nat.le_refl _) with p | ⟨i, y, hy, pa, hit⟩
  · exfalso
    rw [List.take_length] at p
    obtain ⟨y, hy, iy⟩ := t.all r c hr hc
    obtain ⟨j, hj⟩ := List.mem_iff_getElem?.mp hy
    have hj2 := (List.getElem?_eq_some_iff.mp hj).1
    have ne : j ≠ k := fun z => by
      subst z
      rw [hx] at hj
      cases hj
      exact no iy
    have g1 : (cs.set k x')[k]? = some x' := List.getElem?_set_self hk
    have g2 : (cs.set k x')[j]? = some y := by rw [List.getElem?_set_ne (Ne.symm ne)]; exact hj
    obtain ⟨l1, q1⟩ := List.getElem?_eq_some_iff.mp g1
    obtain ⟨l2, q2⟩ := List.getElem?_eq_some_iff.mp g2
    rcases Nat.lt_or_gt_of_ne ne with z | z
    · have := List.pairwise_iff_getElem.mp p j k l2 l1 z
      rw [q1, q2] at this
      exact this _ _ iy i'
    · have := List.pairwise_iff_getElem.mp p k j l1 l2 z
      rw [q1, q2] at this
      exact this _ _ i' iy
  · have hil := (List.getElem?_eq_some_iff.mp hy).1
    have pp : Part R C ((cs.set k x').take i) := ⟨fun z hz => fit z (List.mem_of_mem_take hz), pa⟩
    refine ⟨i, y, hy, pp, fit y (List.mem_of_getElem? hy), hit, (cs.set k x').take i, by rw [List.length_take]; omega, pp, ord.sublist (List.take_sublist ..), y.G, by rw [List.getElem?_map, hy]; rfl, by rw [List.map_take], .inr ⟨y, rfl, .inr (.inr (.inr ?_))⟩⟩
    obtain ⟨z, hz, r0, c0, h1, h2⟩ := hit
    exact ⟨z, hz, r0, c0, h1, h2⟩
end
end GT

set_option Elab.async false
set_option linter.all false
set_option maxRecDepth 100000
/-! Tables set below one another, and blocks cut out. -/
namespace GT
open PySem L2
/-! ### blocks -/
/-! ### two tables, cut out again -/
end GT

set_option Elab.async false
set_option linter.all false
set_option maxRecDepth 100000
/-! Blocks that meet, blocks closed, tables finer than others. -/
namespace GT
open PySem L2
end GT

set_option Elab.async false
set_option linter.all false
set_option maxRecDepth 100000
/-! t <= u of tuples of ints; len of a dict of places -/
namespace HT
open PySem PyProof.Rows
noncomputable def lexLe : List Int → List Int → Bool
  | [], [] => true
  | [], _ :: _ => true
  | _ :: _, [] => false
  | x :: xs, y :: ys => if x = y then lexLe xs ys else decide (x ≤ y)
theorem lexLe_cons (x y : Int) (xs ys : List Int) : lexLe (x :: xs) (y :: ys) = if x = y then lexLe xs ys else decide (x ≤ y) := rfl
theorem rcLe_int (A : Around) (s : Shared) (a : Int) (t : Tok) (c : Int) (u : Tok) (prog : Program) (w : World) (E : Value → Shared → Prop) (Q : Value → Shared → Prop) (h : Q (.bool (decide (a ≤ c))) s) :
    wpAny (model prog w) A (richCompare .LtE (.int a t) (.int c u)) Q E s :=
  (PyProof.Rows.le_int h : wpAny (model prog w) A (compareOp .LtE (.int a t) (.int c u)) Q E s)
section
open PySem.SeqAt
open PySem.AutoSeq1 (wpAny_loadPart')
open PySem.MeetsSeq PySem.MeetsSeq2 PySem.MeetsSeq3
theorem tuple_le_ints (l b : Addr) (items items2 : Array Value) (n n2 : Nat) (dd dd2 : Option Addr) (sl sl2 : Array (Option Value)) (ns ms : List Int) (hi : IntsAre items.toList ns) (hj : IntsAre items2.toList ms) :
    Meets (Builtin.«tuple.__le__» ⟨[.ref l, .ref b], []⟩)
      (fun _ R s => s.heap.get? l = some { cls := .type "tuple", dict := dd, data := .seq items n, slots := sl } ∧ s.heap.get? b = some { cls := .type "tuple", dict := dd2, data := .seq items2 n2, slots := sl2 } ∧
        R (.ok (.ret (.bool (lexLe ns ms)))) s) :=
  .of_wp fun prog w A R s h => by
    obtain ⟨hp, g, d, tk, os⟩ := s; obtain ⟨hl, hb, h⟩ := h
    have f2 := AutoSeq1.sub_tuple_tuple
    have z1 : items.size = ns.length := by rw [← hi.length]; simp
    have z2 : items2.size = ms.length := by rw [← hj.length]; simp
    wp_walk using wpAny_loadPart' hl, wpAny_loadPart' hb, wpAny_forIn_list _ (fun rest b s' => b.1 = none ∧ s' = ⟨hp, g, d, tk, os⟩ ∧ ∃ (vs ws : List Value) (ns' ms' : List Int), rest = vs.zip ws ∧
      IntsAre vs ns' ∧ IntsAre ws ms' ∧ ns'.length + items2.size = ms'.length + items.size ∧ R (.ok (.ret (.bool (lexLe ns' ms')))) ⟨hp, g, d, tk, os⟩) _
    case turn =>
      rintro ⟨y, x⟩ rest b s' ⟨hb', rfl, vs, ws, ns', ms', hz, hvi, hwi, hlen, hR⟩
      cases hvi with
      | nil => rw [List.zip_nil_left] at hz; cases hz
      | cons a t hvi' =>
        cases hwi with
        | nil => rw [List.zip_nil_right] at hz; cases hz
        | cons c u hwi' =>
          rw [List.zip_cons_cons] at hz
          injection hz with hyx hrest
          injection hyx with hy hx
          subst hy hx
          rw [lexLe_cons] at hR
          simp only [List.length_cons] at hlen
          obtain ⟨e, he, hiff⟩ := eqAt_int A.in1 ⟨hp, g, d, tk, os⟩ a t c u
          refine wpAny_bind (he prog w _ _ ?_)
          cases e with
          | true =>
            rw [if_pos (hiff.mp rfl)] at hR
            wp_walk
            exact ⟨rfl, rfl, _, _, _, _, hrest, hvi', hwi', by omega, hR⟩
          | false =>
            rw [if_neg (fun q => absurd (hiff.mpr q) Bool.false_ne_true)] at hR
            have hri := rcLe_int A.in1 ⟨hp, g, d, tk, os⟩ a t c u prog w
            wp_walk using hri
            exact ⟨_, rfl, by simpa using hR⟩
    case fin =>
      rintro ⟨b1, b2⟩ s' ⟨hb', rfl, vs, ws, ns', ms', hz, hvi, hwi, hlen, hR⟩
      simp only at hb'
      subst hb'
      have hv : lexLe ns' ms' = decide (items.size ≤ items2.size) := by
        cases hvi with
        | nil =>
          cases hwi with
          | nil =>
            simp only [List.length_nil] at hlen
            exact (decide_eq_true (by omega)).symm
          | cons c u hw =>
            simp only [List.length_nil, List.length_cons] at hlen
            exact (decide_eq_true (by omega)).symm
        | cons a t hv =>
          cases hwi with
          | nil =>
            simp only [List.length_nil, List.length_cons] at hlen
            exact (decide_eq_false (by omega)).symm
          | cons c u hw =>
            rw [List.zip_cons_cons] at hz
            cases hz
      rw [hv] at hR
      wp_walk
      exact ⟨_, rfl, by simpa [Builtin.Tuple.tupleCompareSizes] using hR⟩
    case h =>
      exact ⟨rfl, rfl, items.toList, items2.toList, ns, ms, rfl, hi, hj, by omega, h⟩
end
section
variable {prog : Program} {w : World} {A : Around} {E : Value → Shared → Prop} {s : Shared}
theorem le_tupInts {l b : Addr} {items items2 : Array Value} {ns ms : List Int} {Q : Value → Shared → Prop} (hl : IsTup s.heap l items) (hb : IsTup s.heap b items2) (hi : IntsAre items.toList ns) (hj : IntsAre items2.toList ms)
    (hu : A.units < cLine) (h : Q (.bool (lexLe ns ms)) s) : wpAny (model prog w) A (compareOp .LtE (.ref l) (.ref b)) Q E s := by
  obtain ⟨⟨cls, dd, data, sl⟩, ho, hc, n, hd⟩ := id hl
  obtain ⟨⟨cls2, dd2, data2, sl2⟩, ho2, hc2, n2, hd2⟩ := id hb
  simp only at hc hd hc2 hd2
  subst hc hd hc2 hd2
  exact richCompare_meets_room (op := .LtE) ⟨_, ho, rfl⟩ ⟨_, ho2, rfl⟩ PySem.F.slot_tuple_le PySem.F.entry_tuple_le (PySem.F.args_tuple_le_2 _ _) (tuple_le_ints l b items items2 n n2 dd dd2 sl sl2 ns ms hi hj)
    ⟨ho, ho2, show Value.bool (lexLe ns ms) ≠ Value.notImplemented ∧ Q (.bool (lexLe ns ms)) s from ⟨(fun x => nomatch x), h⟩⟩ hu
end
end HT
namespace L2
open PySem PySem.Spec PyProof.Rows
noncomputable def rLeT (K : PySem.W.Frag) : R2 := fun x y H Q => ∃ a b ns ms, x = .ref a ∧ y = .ref b ∧ SqT K H a (ns.map V.int) ∧ SqT K H b (ms.map V.int) ∧ Q (.bl (HT.lexLe ns ms)) H
theorem op_leT {X : Cx} {K : PySem.W.Frag} (hK : X.K = K) (hu : X.A.units < cLine) : OpR X (compareOp .LtE) (rLeT K) := by
  subst hK
  intro pins s σ H x y v u Q I rx ry h
  obtain ⟨a, b, ns, ms, rfl, rfl, ha, hb, q⟩ := h
  cases rx
  cases ry
  obtain ⟨its, r1, p1, _⟩ := I.tuple ha
  obtain ⟨its2, r2, p2, _⟩ := I.tuple hb
  have i1 : IntsAre its.toArray.toList ns := intsAre_of r1
  have i2 : IntsAre its2.toArray.toList ms := intsAre_of r2
  exact HT.le_tupInts p1 p2 i1 i2 hu ⟨.bl (HT.lexLe ns ms), H, I, rfl, q⟩
section
variable {prog : Program} {w : World} {KK : Type} [DecidableEq KK] {A : Around} {E : Value → Shared → Prop} {s : Shared}
theorem meets_len_raw {d : Addr} {o : Obj} {es : Array DictEntry} {ep : Nat} (hd : (d == sysModules) = false) :
    MeetsIn prog w (Builtin.«dict.__len__» ⟨[.ref d], []⟩) (fun _ R s => s.heap.get? d = some o ∧ o.data = .dict es ep ∧ R (.ok (.ret (.int es.size s.toks))) { s with toks := s.toks + 1 }) :=
  .of_wp fun A R s ⟨ho, hdat, h⟩ => by
    show wpAny _ _ (dictSize d >>= _) _ _ s
    unfold dictSize
    refine wpAny_bind (wpAny_bind (wpAny_dictEntries ho hdat (wpAny_pure ?_)))
    show wpAny _ _ (Builtin.Dict.pendingCount d >>= _) _ _ s
    refine wpAny_bind (wpAny_pendingCount_other hd ?_)
    refine wpAny_ret_mkInt ?_
    rw [Nat.add_zero]; exact h
end
end L2
namespace L2
open PySem PySem.Spec PyProof.Rows
section
variable {prog : Program} {w : World} {A : Around} {E : Value → Shared → Prop} {s : Shared}
theorem len_body_raw {d : Addr} {o : Obj} {es : Array DictEntry} {ep : Nat} {Q : Value → Shared → Prop} (hd : (d == sysModules) = false) (ho : s.heap.get? d = some o) (hT : s.TypeIs (.ref d) "dict") (hdat : o.data = .dict es ep) (hfit : (es.size : Int) < 2 ^ 63)
    (h : Q (.int es.size (s.toks + 1)) { s with toks := s.toks + 1 + 1 }) : wpAny (model prog w) A (Builtin.«len» ⟨[.ref d], []⟩) (fun fin s' => ∃ r, fin = .done (.ret r) ∧ Q r s') E s := by
  unfold Builtin.«len»
  refine wpAny_bind (m := oneArg "len" _) (wpAny_pure ?_)
  refine wpAny_bind (m := callSpecial? (.ref d) (Str.ofString "__len__")) (wpAny_callSpecial?_slot (name := Str.ofString "__len__") hT F.slot_dict_len
    (call_meetsIn F.slot_dict_len hT F.entry_dict_len (F.args_dict_len_1 _) (meets_len_raw (o := o) (es := es) (ep := ep) hd) ⟨ho, hdat, ?_⟩))
  show wpAny _ _ _ _ _ { s with toks := s.toks + 1 }
  refine wpAny_bind (wpAny_holding (wpAny_pure ?_))
  refine wpAny_bind (wpAny_letGo ?_)
  show wpAny _ _ (if ((es.size : Nat) : Int) < 0 then _ else _) _ _ _
  rw [if_neg (by omega)]
  show wpAny _ _ (if ((es.size : Nat) : Int) ≥ 2 ^ 63 then _ else _) _ _ _
  rw [if_neg (by omega)]
  exact wpAny_bind (wpAny_mkInt (wpAny_pure ⟨_, rfl, h⟩))
theorem call_len_raw {d : Addr} {o : Obj} {es : Array DictEntry} {ep : Nat} {Q : Value → Shared → Prop} (hd : (d == sysModules) = false) (ho : s.heap.get? d = some o) (hT : s.TypeIs (.ref d) "dict") (hdat : o.data = .dict es ep) (hfit : (es.size : Int) < 2 ^ 63)
    (h : Q (.int es.size (s.toks + 1)) { s with toks := s.toks + 1 + 1 }) : wpAny (model prog w) A (call (.builtin "len") [.ref d]) Q E s :=
  Calls.call_function_entry kind_len plain_len entry_len (args_len1 _) (len_body_raw hd ho hT hdat hfit h)
end
theorem call_lenDT {X : Cx} {K : PySem.W.Frag} (hK : X.K = K) : CallR X (.builtin "len") (fun xs H Q => ∃ a kvs, xs = [V.ref a] ∧ H a = some (.dT kvs) ∧ Q (.int kvs.length) H) := by
  intro pins s σ H xs us Q I r h
  obtain ⟨a, kvs, rfl, ha, q⟩ := h
  obtain ⟨u, rfl, ru⟩ := vals1 r
  cases ru
  obtain ⟨z, hd, xs, rx, o, es, ep, ho, hx, hdat, hes, hn⟩ := (show ObjOk X.prog X.w H s.heap a (.dT kvs) from I.hok a _ ha)
  have l1 := rx.length
  have l2 : es.size = kvs.length := by
    have := congrArg List.length hes
    rw [List.length_map, Array.length_toList] at this
    omega
  refine call_len_raw hd ho ⟨o, ho, hx.1⟩ hdat ?_ ?_
  · rw [l2]
    rw [sizeLine_eq] at z
    omega
  · rw [l2]
    exact ⟨.int kvs.length, H, I.tok _, ⟨_, rfl⟩, q⟩
end L2

set_option Elab.async false
set_option linter.all false
set_option autoImplicit false
/-! Drawings: where the lines are, what stands at a place. -/
namespace GT
open PySem L2

section
variable {ns : List Nat} {i : Nat} {p q : Int}
end

/-! signs -/
end GT

set_option Elab.async false
set_option linter.all false
set_option autoImplicit false
/-! Drawings: words, and the picture by owners. -/
namespace GT
open PySem L2

/-! the law's spots -/
end GT

set_option Elab.async false
set_option linter.all false
set_option autoImplicit false
/-! the words of a text, by its codes -/
namespace GT
open PySem PySem.StrLaws
end GT

set_option Elab.async false
set_option linter.all false
set_option autoImplicit false
/-! what is seen of a drawing -/
namespace GT
open PySem L2
section
variable {R C : Nat} {cs : List Cell} {hs ws : List Nat} {T : Cell → List (List Str)}
end
/-! words in padded rows -/
end GT

set_option Elab.async false
set_option linter.all false
set_option maxRecDepth 100000
/-! x[f:b] of a text, x.split(), a comprehension over enumerate of a text -/
namespace L2
open PySem PySem.Spec PyProof.Rows PySem.W
end L2

set_option Elab.async false
set_option linter.all false
set_option maxRecDepth 100000
/-! Open lines and bands. -/
namespace GT
open PySem L2
end GT

set_option Elab.async false
set_option linter.all false
set_option maxRecDepth 100000
/-! try: if c: f(..) else: g(..) except C: .. -/
namespace L2
open PySem PySem.Spec PyProof.Rows PySem.W
section
variable {X : Cx} {k1 k2 : Nat} {x1 x2 y : Str} {C L : Addr} {ps1 ps2 : List Str} {sp1 sp2 : Sp} {c e1 e2 : Expr} {es1 es2 : List Expr} {tc : TT} {t1 t2 : TA} {ts : TS} {env0 : List Env} {p1 p2 np pos1 pos2 epos1 epos2 ipos tpos hpos : Pos} {b0 : Stmt} {suite : List Stmt}
end
section
variable {X : Cx} {k1 k2 : Nat} {x1 x2 y n : Str} {C L : Addr} {ps1 ps2 : List Str} {sp1 sp2 : Sp} {c e1 e2 : Expr} {es1 es2 : List Expr} {tc : TT} {t1 t2 : TA} {env0 : List Env} {p1 p2 np pos1 pos2 epos1 epos2 ipos tpos hpos q1 q2 q3 q4 q5 : Pos} {i : Nat}
end
end L2

set_option Elab.async false
set_option linter.all false
set_option maxRecDepth 100000
/-! except C1 as n: a suite that returns; except C2: a suite -/
namespace L2
open PySem PySem.Spec PyProof.Rows PySem.W
section
variable {X : Cx} {k : Nat} {x y z n : Str} {C C2 L : Addr} {ps : List Str} {sp : Sp} {e : Expr} {es : List Expr} {t : TA} {env0 : List Env} {p np np2 pos epos tpos hpos hpos2 : Pos} {i : Nat} {b0 b1 : Stmt} {suite suite1 : List Stmt} {ts : Addr → Option Addr → TS} {ts1 : TS}
end
end L2

set_option Elab.async false
set_option linter.all false
set_option maxRecDepth 100000
/-! except C as e: a suite that goes on behind the try -/
namespace L2
open PySem PySem.Spec PyProof.Rows PySem.W
open Sem (wp)
section
variable {X : Cx} {k : Nat} {x y n : Str} {C L : Addr} {ps : List Str} {sp : Sp} {e : Expr} {es : List Expr} {t : TA} {env0 : List Env} {p np pos epos tpos hpos : Pos} {i : Nat} {b0 : Stmt} {suite : List Stmt} {ts : Value → Addr → Option Addr → TS}
end
end L2

set_option Elab.async false
set_option linter.all false
set_option maxRecDepth 100000
namespace L2
open PySem PySem.Spec PyProof.Rows PySem.W
open Sem (wp)
/-- f"a{e!r}" where e is a number or None -/
theorem pe_fstr1 {X : Cx} {a : Str} {j1 : Nat} {e : Expr} {te : TE} {p p1 p2 : Pos} (he : PE X e te) (hz : a.length ≤ 1000 := by decide) :
    PE X (.JoinedStr [.Constant (.str a) j1 p1, .FormattedValue e 114 none p2] p) (tFR te) := by
  intro pins s σ H Q I h
  have el : (Str.empty ++ a).length = a.length := by rw [strLen_append]; exact Nat.zero_add _
  refine wpAny_JoinedStr (Calls.Constant_str ⟨a, _, rfl, by rw [el, sizeLine_eq]; omega, ?_⟩)
  have key : ∀ (x : Str) (H1 : Hp) (s1 : Shared), x.length ≤ 2000 → Inv X pins σ H1 s1 → Q (.str (Str.empty ++ a ++ x)) H1 → ∀ t, wpAny (model X.prog X.w) X.A (formatField (.str x t) Str.empty)
      (fun v s2 => ∃ y t, v = .str y t ∧ (Str.empty ++ a ++ y).length ≤ sizeLine ∧ Joins (model X.prog X.w) X.A X.xe [] (Str.empty ++ a ++ y) (fun out s3 => out.length ≤ sizeLine ∧ EP X pins σ Q (.str out s3.toks) { s3 with toks := s3.toks + 1 }) s2) X.xe s1 := fun x H1 s1 hx I1 q t => by
    have l1 : (Str.empty ++ a ++ x).length ≤ sizeLine := by rw [strLen_append, el, sizeLine_eq]; omega
    refine PyProof.Rows.formatField_str (fun t' tk => ⟨x, t', rfl, l1, l1, ⟨.str _, H1, (I1.tok tk).tok _, ⟨_, rfl⟩, q⟩⟩) (by rw [sizeLine_eq]; omega)
  refine wpAny_FormattedValue_repr (wpAny_mono (he pins _ σ H _ (I.tok _) h) (fun u s1 ⟨v, H1, I1, r, hv, q⟩ => ?_) fun _ _ z => z)
  rcases hv with ⟨n, rfl, hn⟩ | rfl
  · obtain ⟨t, rfl⟩ := r
    refine wpAny_pyReprObj_gives (typeIs_int _ n t) F.slot_int_repr F.entry_int_repr (F.args_int_repr_1 _) (gives_int_repr n t hn) (key _ H1 _ ?_ (I1.tok _) (q _) _) (hx := int_text_fits hn)
    have e := int_text_length_le (k := 1920) (by decide) hn
    rw [PySem.ofString_length]; omega
  · obtain rfl : u = Value.none := r
    exact wpAny_pyReprObj_gives (typeIs_none _) F.slot_NoneType_repr F.entry_NoneType_repr (F.args_NoneType_repr_1 _) gives_none_repr (key _ H1 _ (by decide) (I1.tok _) (q _) _) (hx := by decide)
end L2

set_option Elab.async false
set_option linter.all false
set_option autoImplicit false
set_option maxRecDepth 100000
namespace KL
theorem ex_1 {α0 : Type} {P : α0 → Prop} {G : Prop} (h : ∃ a, P a) (k : ∀ a, P a → G) : G := by
  obtain ⟨a, p⟩ := h
  exact k a p
theorem ex_2 {α0 α1 : Type} {P : α0 → α1 → Prop} {G : Prop} (h : ∃ a b, P a b) (k : ∀ a b, P a b → G) : G := by
  obtain ⟨a, b, p⟩ := h
  exact k a b p
theorem ex_3 {α0 α1 α2 : Type} {P : α0 → α1 → α2 → Prop} {G : Prop} (h : ∃ a b c, P a b c) (k : ∀ a b c, P a b c → G) : G := by
  obtain ⟨a, b, c, p⟩ := h
  exact k a b c p
theorem ex_4 {α0 α1 α2 α3 : Type} {P : α0 → α1 → α2 → α3 → Prop} {G : Prop} (h : ∃ a b c d, P a b c d) (k : ∀ a b c d, P a b c d → G) : G := by
  obtain ⟨a, b, c, d, p⟩ := h
  exact k a b c d p
theorem ex_5 {α0 α1 α2 α3 α4 : Type} {P : α0 → α1 → α2 → α3 → α4 → Prop} {G : Prop} (h : ∃ a b c d e, P a b c d e) (k : ∀ a b c d e, P a b c d e → G) : G := by
  obtain ⟨a, b, c, d, e, p⟩ := h
  exact k a b c d e p
theorem ex_7 {α0 α1 α2 α3 α4 α5 α6 : Type} {P : α0 → α1 → α2 → α3 → α4 → α5 → α6 → Prop} {G : Prop} (h : ∃ a b c d e f g, P a b c d e f g) (k : ∀ a b c d e f g, P a b c d e f g → G) : G := by
  obtain ⟨a, b, c, d, e, f, g, p⟩ := h
  exact k a b c d e f g p
open PySem L2 GT PyProof.Rows
noncomputable def top (i : Nat) : Stmt := PySem.Challenge.pw_gridframe_k01_tables.main.body.getD i (.Pass ⟨0, 0, 0, 0⟩)
structure Txt (mg : Str → Option Value) : Prop where
  len : mg "len" = none
  range : mg "range" = none
  isinstance : mg "isinstance" = none
  int : mg "int" = none
  bool : mg "bool" = none
  tuple : mg "tuple" = none
  list : mg "list" = none
  sorted : mg "sorted" = none
  enumerate : mg "enumerate" = none
  zip : mg "zip" = none
  str : mg "str" = none
  all : mg "all" = none
  min : mg "min" = none
  max : mg "max" = none
  sum : mg "sum" = none
  ValueError : mg "ValueError" = none
  any : mg "any" = none
  reversed : mg "reversed" = none
noncomputable def scopeOf (e : Expr) : Scope := match e with
  | .ListComp _ _ sc _ => sc
  | _ => { kind := .function, names := [], isGenerator := false, isCoroutine := false }
noncomputable def exprOf (s : Stmt) : Expr := match s with
  | .Expr e _ => e
  | .Assign _ e _ => e
  | .Return (some e) _ => e
  | _ => .Constant .none 0 ⟨0, 0, 0, 0⟩
noncomputable def operandOf (e : Expr) : Expr := match e with
  | .UnaryOp _ x _ => x
  | .Compare x _ _ _ => x
  | _ => e
noncomputable def argOf (e : Expr) (i : Nat) : Expr := match e with
  | .Call _ as _ _ => as.getD i (.Constant .none 0 ⟨0, 0, 0, 0⟩)
  | _ => .Constant .none 0 ⟨0, 0, 0, 0⟩
noncomputable def bodyOf (s : Stmt) : List Stmt := match s with
  | .For _ _ b _ _ => b
  | .While _ b _ _ => b
  | .If _ b _ _ => b
  | _ => []
noncomputable def nth (l : List Stmt) (i : Nat) : Stmt := l.getD i (.Pass ⟨0, 0, 0, 0⟩)
noncomputable def testOf (s : Stmt) : Expr := match s with
  | .If e _ _ _ => e
  | _ => .Constant .none 0 ⟨0, 0, 0, 0⟩
/-! ### the promises of the table's making -/
noncomputable def spCell (K : PySem.W.Frag) : Sp := fun vs H Q _ => ∃ (a : Addr) (ns : List Int) (k : Nat), vs = [.ref a, .int k] ∧ SqL K H a (ns.map V.int) ∧ Q (.int (ns.getD k 0)) H
noncomputable def spMix : Sp := fun vs H Q _ => ∃ c p m : Int, vs = [.int c, .int p, .int m] ∧ 0 < p ∧ 0 < m ∧ Q (.int (c * 48271 % p % m)) H
noncomputable def spLarge (K : PySem.W.Frag) : Sp := fun vs H Q _ => ∃ (a : Addr) (ns : List Int), vs = [.ref a] ∧ SqL K H a (ns.map V.int) ∧ ∀ b, Q (.bl b) H
noncomputable def spWord : Sp := fun vs H Q _ => ∃ (seed : Int) (n : Nat), vs = [.int seed, .int n] ∧ 1 ≤ n ∧ n ≤ 12 ∧ ∀ w H', Same H H' → WordOk w → Q (.str w) H'
noncomputable def spWords : Sp := fun vs H Q _ => ∃ seed : Int, vs = [.int seed] ∧ ∀ v ws H', Same H H' → WordsOk ws → At H' (wordsD ws) v → Q v H'
noncomputable def spBlock : Sp := fun vs H Q _ => ∃ (c : Int) (R C : Nat), vs = [.int c, .int R, .int C] ∧ 1 ≤ R ∧ 1 ≤ C ∧
  ∀ (t l h w : Nat) (a : Addr) (H' : Hp), Same H H' → t < R → l < C → 1 ≤ h → h ≤ 3 → 1 ≤ w → w ≤ 3 → H' a = some (.tup [.int t, .int l, .int h, .int w]) → Q (.ref a) H'
noncomputable def pl (r c : Nat) : List Key := [Sum.inl (r : Int), Sum.inl (c : Int)]
noncomputable def spFree : Sp := fun vs H Q _ => ∃ (b d : Addr) (t l h w R C : Nat) (kvs : List (List Key × V)), vs = [.ref b, .int R, .int C, .ref d] ∧ H b = some (.tup [.int t, .int l, .int h, .int w]) ∧ H d = some (.dT kvs) ∧ t ≤ 100 ∧ l ≤ 100 ∧ h ≤ 3 ∧ w ≤ 3 ∧
  (∀ H', Same H H' → Q (.bl false) H') ∧ (t + h ≤ R → l + w ≤ C → (∀ r c, t ≤ r → r < t + h → l ≤ c → c < l + w → valV kvs (pl r c) = none) → ∀ H', Same H H' → Q (.bl true) H')
noncomputable def spTable (K : PySem.W.Frag) : Sp := fun vs H Q _ => ∃ (a : Addr) (ns : List Int) (R C : Nat), vs = [.ref a, .int R, .int C] ∧ SqL K H a (ns.map V.int) ∧ ns.length ≤ 67 ∧ 1 ≤ R ∧ R ≤ 17 ∧ 1 ≤ C ∧ C ≤ 17 ∧
  ∀ v cs H', Same H H' → Tiles R C cs → At H' (tabD R C cs) v → Q v H'
noncomputable def spSize (K : PySem.W.Frag) : Sp := fun vs H Q _ => ∃ (a : Addr) (ns : List Int) (k : Nat), vs = [.ref a, .int k] ∧ SqL K H a (ns.map V.int) ∧ ∀ n : Nat, 1 ≤ n → n ≤ 16 → Q (.int n) H
noncomputable def spMade (K : PySem.W.Frag) : Sp := fun vs H Q _ => ∃ (a : Addr) (ns : List Int), vs = [.ref a] ∧ SqL K H a (ns.map V.int) ∧ ns.length ≤ 63 ∧
  ∀ v R C cs H', Same H H' → 1 ≤ R → R ≤ 16 → 1 ≤ C → C ≤ 16 → Tiles R C cs → At H' (tabD R C cs) v → Q v H'
noncomputable def spCopy : Sp := fun vs H Q _ => ∃ (v : V) (R C : Nat) (cs : List Cell), vs = [v] ∧ At H (tabD R C cs) v ∧ ∀ v' H', Same H H' → At H' (tabD R C cs) v' → Q v' H'

section
variable {P : Program} {w : World} {K : PySem.W.Frag} {mg : Str → Option Value} {base : Heap}

theorem sc__law_cell : FnScope ["_law_script", "_law_k"] ["_law_script", "_law_k"] (defScope (top 19)) := ⟨rfl, rfl, rfl, by decide +kernel, rfl, by decide +kernel, by decide +kernel⟩
theorem ok__law_cell (T : Txt mg) (f : Addr) (fd : FuncData) (F : Fun K "_law_cell" "_law_cell" (top 19) f fd) : FnOk P w K mg base CX0 1 f fd ["_law_script", "_law_k"] (spCell K) := by
  refine F.ok sc__law_cell (fun vs H Q E h => ?_) (fun cdv A outer s H vs Q E hr h => ?_)
  · obtain ⟨a, ns, k, rfl, _⟩ := h; rfl
  · obtain ⟨a, ns, k, rfl, hs, q⟩ := h
    refine ⟨_, (pss_cons (ps_if (pt_cmpR op_lt (pv 1) (pe_callB (call_lenK (K := K) rfl) (by rfl) T.len PySem.boot_len (pa_cons (pv 0) pa_nil)) (nomark _)) (pss_one (ps_ret (pe_ix (ix_listK (K := K) rfl) (pv 0) (pv 1) (fun _ _ => rfl)))) pss_nil)
      (pss_one (ps_ret pe_int))), ?_⟩
    refine ⟨_, rfl, _, rfl, a, _, rfl, .inl hs, _, _, rfl, rfl, _, rfl, ?_⟩
    refine ite2 (fun hlt => ?_) (fun hlt => ?_)
    · have hlt := of_decide_eq_true hlt
      rw [List.length_map] at hlt
      refine ⟨_, rfl, _, rfl, a, _, (k : Int), (.int (ns.getD k 0)), rfl, rfl, hs, atI_nat ?_, q⟩
      rw [List.getElem?_map, List.getElem?_eq_getElem (by omega)]
      simp [List.getD_eq_getElem?_getD, List.getElem?_eq_getElem (show k < ns.length by omega)]
    · have hlt : ¬ ((k : Int) < ((ns.map V.int).length : Int)) := fun z => hlt (decide_eq_true z)
      rw [List.length_map] at hlt
      have e : ns.getD k 0 = 0 := by
        rw [List.getD_eq_getElem?_getD, List.getElem?_eq_none (by omega)]; rfl
      rw [e] at q
      exact q

theorem sc__law_mix : FnScope ["_law_cell_here", "_law_prime", "_law_many"] ["_law_cell_here", "_law_prime", "_law_many"] (defScope (top 20)) := ⟨rfl, rfl, rfl, by decide +kernel, rfl, by decide +kernel, by decide +kernel⟩
theorem ok__law_mix (f : Addr) (fd : FuncData) (F : Fun K "_law_mix" "_law_mix" (top 20) f fd) : FnOk P w K mg base CX0 1 f fd ["_law_cell_here", "_law_prime", "_law_many"] spMix := by
  refine F.ok sc__law_mix (fun vs H Q E h => ?_) (fun cdv A outer s H vs Q E hr h => ?_)
  · obtain ⟨c, p, m, rfl, _⟩ := h; rfl
  · obtain ⟨c, p, m, rfl, hp, hm, q⟩ := h
    refine ⟨_, (pss_one (ps_ret (pe_op op_mod (pe_op op_mod (pe_op op_mul (pv 0) pe_int) (pv 1)) (pv 2)))), ?_⟩
    exact ⟨_, rfl, _, _, rfl, rfl, .inr ⟨by decide, by decide⟩, _, rfl, _, _, rfl, rfl, hp, _, rfl, _, _, rfl, rfl, hm, q⟩

theorem sc__law_large : FnScope ["_law_script"] ["_law_script"] (defScope (top 21)) := ⟨rfl, rfl, rfl, by decide +kernel, rfl, by decide +kernel, by decide +kernel⟩
theorem ok__law_large (T : Txt mg) (c__law_cell : Cal P w K mg base 1 "_law_cell" ["_law_script", "_law_k"] (spCell K)) (c__law_mix : Cal P w K mg base 1 "_law_mix" ["_law_cell_here", "_law_prime", "_law_many"] spMix)
    (f : Addr) (fd : FuncData) (F : Fun K "_law_large" "_law_large" (top 21) f fd) : FnOk P w K mg base CX0 2 f fd ["_law_script"] (spLarge K) := by
  refine F.ok sc__law_large (fun vs H Q E h => ?_) (fun cdv A outer s H vs Q E hr h => ?_)
  · obtain ⟨a, ns, rfl, _⟩ := h; rfl
  · obtain ⟨a, ns, rfl, hs, q⟩ := h
    have hr__law_cell : Room 1 (A.deeper (envOfC "_law_large" (defScope (top 21)) s.heap.objs.size f cdv)) := hr
    have hr__law_mix := hr__law_cell
    refine ⟨_, (pss_one (ps_ret (pe_cmpR op_eq (pe_cal c__law_mix hr__law_mix rfl (pa_cons (pe_op op_add (pe_cal c__law_cell hr__law_cell rfl (pa_cons (pv 0) (pa_cons pe_int pa_nil))) (pe_op op_mul pe_int (pe_callB (call_lenK (K := K) rfl) (by rfl) T.len PySem.boot_len (pa_cons (pv 0) pa_nil)))) (pa_cons pe_int (pa_cons pe_int pa_nil)))) pe_int (nomark _)))), ?_⟩
    refine ⟨_, rfl, a, ns, 0, rfl, hs, _, rfl, a, _, rfl, .inl hs, _, _, rfl, rfl, .inl ⟨by decide, by decide⟩, _, _, rfl, rfl, _, _, _, rfl, by decide, by decide, rfl, ?_⟩
    exact q _

theorem sc__law_word : FnScope ["_law_seed", "_law_size_here", "_law_signs"] ["_law_seed", "_law_size_here"] (defScope (top 22)) := ⟨rfl, rfl, rfl, by decide +kernel, rfl, by decide +kernel, by decide +kernel⟩
theorem nd_word : (["_law_k", "_law_signs", "_law_seed"] : List Str).Nodup := by decide +kernel
noncomputable abbrev wordScope : Scope := scopeOf (argOf (exprOf (nth (defBody (top 22)) 1)) 0)
set_option maxHeartbeats 2000000 in
theorem ok__law_word (T : Txt mg) (c__law_mix : Cal P w K mg base 1 "_law_mix" ["_law_cell_here", "_law_prime", "_law_many"] spMix)
    (f : Addr) (fd : FuncData) (F : Fun K "_law_word" "_law_word" (top 22) f fd) : FnOk P w K mg base CX0 2 f fd ["_law_seed", "_law_size_here"] spWord := by
  refine F.ok sc__law_word (fun vs H Q E h => ?_) (fun cdv A outer s H vs Q E hr h => ?_)
  · obtain ⟨a, ns, rfl, _⟩ := h; rfl
  · obtain ⟨seed, n, rfl, n1, n2, k⟩ := h
    have hr__law_mix : Room 1 (A.deeper (envOfC "_law_word" (defScope (top 22)) s.heap.objs.size f cdv)) := hr
    have co_word := compOk_def (X := (cxOf CX0 P w K mg base ["_law_seed", "_law_size_here", "_law_signs"] "_law_word" (defScope (top 22)) f cdv A outer s H E).nox) (N1 := ["_law_k", "_law_signs", "_law_seed"]) (cap := [none, some 2, some 0])
      (scope := wordScope) (sc := defScope (top 22)) (s.heap.objs.size + 1) rfl rfl rfl
      (by decide +kernel) (by decide +kernel) (by decide +kernel) rfl (by
        intro i hi x j e1 e2
        match i, hi, e1, e2 with
        | 0, _, e1, e2 => cases e2
        | 1, _, e1, e2 => cases e1; cases e2; exact ⟨rfl, rfl, rfl⟩
        | 2, _, e1, e2 => cases e1; cases e2; exact ⟨rfl, rfl, rfl⟩)
    refine ⟨_, (pss_cons (ps_set (i := 2) sc__law_word.nd rfl (by first | exact Or.inl rfl | exact Or.inr rfl) pe_str)
      (pss_one (ps_ret (pe_bmK (K := K) rfl PySem.F.plainAttrs_str PySem.F.slot_str_join PySem.F.type_str_join (mt_join (K := K) rfl) pe_str (pa_cons (pe_comp co_word rfl (pi_range1 rfl T.range (pa_cons (pv 1) pa_nil)) (fun _ _ _ _ => (pg_name (i := 0) nd_word rfl (by first | exact Or.inl rfl | exact Or.inr rfl) (Or.inr rfl))) (fun _ _ _ _ => pif_nil) (fun _ _ _ _ => (pe_ix (ix_str) (pv 1) (pe_cal c__law_mix hr__law_mix rfl (pa_cons (pe_op op_add (pv 2) (pe_op op_mul (pe_op op_mul pe_int (pv 0)) (pv 0))) (pa_cons pe_int (pa_cons pe_int pa_nil)))) (fun _ _ => rfl)))) pa_nil))))), ?_⟩
    have nn : ((n : Int)).toNat = n := by omega
    generalize hsg : Str.ofString "abcdefghijklmnopqrstuvwxyz0123456789" = sg
    have esg : sg = GT.signs := hsg.symm
    have len36 : sg.cps.toList.length = 36 := by rw [esg]; exact signs_len
    have lenS : sg.length ≤ sizeLine := by rw [esg]; exact signs_small
    refine ⟨rfl, _, rfl, (n : Int), rfl, by omega, by omega, fun acc hacc => ?_⟩
    rw [nn]
    refine comp_range (lo := 0) (n := n) (fun j σ1 H3 => ∃ (kk : Option V) (ys : List Str), σ1 = [kk, some (.str sg), some (.int seed)] ∧ Same H H3 ∧ H3 acc = some (.lst (ys.map V.str)) ∧ ys.length = j ∧ ∀ y ∈ ys, ∃ c ∈ sg.cps.toList, y = ⟨#[c]⟩)
      ⟨none, [], rfl, Same.upd_new hacc, upd_same, rfl, fun y hy => by simp at hy⟩ ?_ ?_
    · intro j σ1 H3 hj hI
      refine ex_2 hI fun kk ys hJ => ?_
      have eI := hJ.1
      have s3 := hJ.2.1
      have h3 := hJ.2.2.1
      have l3 := hJ.2.2.2.1
      have a3 := hJ.2.2.2.2
      clear hI hJ
      subst eI
      dsimp only [gName]
      rw [if_pos rfl]
      refine ⟨_, rfl, _, rfl, _, rfl, _, _, rfl, rfl, .inl ⟨by decide, by decide⟩, _, rfl, _, _, rfl, rfl, .inr ⟨by omega, by omega⟩, _, _, rfl, rfl, _, _, _, rfl, by decide, by decide, ?_⟩
      dsimp only
      generalize hz : (seed + 7 * (0 + (j : Int)) * (0 + (j : Int))) * 48271 % 9931 % 36 = z
      have z0 : 0 ≤ z := by omega
      have z1 : z < 36 := by omega
      obtain ⟨c, gz⟩ : ∃ c, sg.cps.toList[z.toNat]? = some c := ⟨_, List.getElem?_eq_getElem (by omega)⟩
      have ez : ((z.toNat : Nat) : Int) = z := by omega
      refine ⟨sg, z, c, rfl, rfl, lenS, by rw [← ez]; exact atI_nat gz, ?_⟩
      refine ⟨ys.map V.str, h3, small1000 (by rw [List.length_map]; omega), ?_⟩
      refine ⟨_, ys ++ [⟨#[c]⟩], rfl, fun b o e => ?_, by rw [upd_same, List.map_append]; rfl, by rw [List.length_append, l3]; rfl, fun y hy => ?_⟩
      · rw [upd_ne (ne_of_none e hacc)]
        exact s3 _ _ e
      · rcases List.mem_append.mp hy with hy | hy
        · exact a3 y hy
        · have : y = ⟨#[c]⟩ := by simpa using hy
          exact ⟨_, List.mem_of_getElem? gz, this⟩
    · intro σ1 H3 hI
      refine ex_2 hI fun kk ys hJ => ?_
      have eI := hJ.1
      have s3 := hJ.2.1
      have h3 := hJ.2.2.1
      have l3 := hJ.2.2.2.1
      have a3 := hJ.2.2.2.2
      clear hI hJ
      subst eI
      have one : ∀ y ∈ ys, y.length = 1 := fun y hy => by obtain ⟨c, _, rfl⟩ := a3 y hy; rfl
      have sum1 : (ys.map (·.length)).sum = ys.length := by
        clear h3 l3 a3
        induction ys with
        | nil => rfl
        | cons y ys ih => rw [List.map_cons, List.sum_cons, ih (fun z hz => one z (List.mem_cons_of_mem _ hz)), one y List.mem_cons_self, List.length_cons]; omega
      refine ⟨_, acc, ys, rfl, rfl, SqL.of h3, by rw [sum1]; show ys.length + ys.length * 0 ≤ _; omega, ?_⟩
      refine k _ _ s3 (join_word ?_ ?_ ?_)
      · rw [esg] at a3; exact a3
      · omega
      · omega

theorem sc__law_words : FnScope ["_law_seed", "_law_found", "_law_many", "_law_k", "_law_size_here"] ["_law_seed"] (defScope (top 23)) := ⟨rfl, rfl, rfl, by decide +kernel, rfl, by decide +kernel, by decide +kernel⟩
set_option maxHeartbeats 2000000 in
theorem ok__law_words (T : Txt mg) (c__law_mix : Cal P w K mg base 1 "_law_mix" ["_law_cell_here", "_law_prime", "_law_many"] spMix) (c__law_word : Cal P w K mg base 2 "_law_word" ["_law_seed", "_law_size_here"] spWord)
    (f : Addr) (fd : FuncData) (F : Fun K "_law_words" "_law_words" (top 23) f fd) : FnOk P w K mg base CX0 3 f fd ["_law_seed"] spWords := by
  refine F.ok sc__law_words (fun vs H Q E h => ?_) (fun cdv A outer s H vs Q E hr h => ?_)
  · obtain ⟨a, rfl, _⟩ := h; rfl
  · obtain ⟨seed, rfl, k⟩ := h
    have hr__law_word : Room 2 (A.deeper (envOfC "_law_words" (defScope (top 23)) s.heap.objs.size f cdv)) := hr
    have hr__law_mix : Room 1 (A.deeper (envOfC "_law_words" (defScope (top 23)) s.heap.objs.size f cdv)) := hr.mono (by decide)
    refine ⟨_, (pss_cons (ps_set (i := 1) sc__law_words.nd rfl (by first | exact Or.inl rfl | exact Or.inr rfl) (pe_lst pa_nil))
      (pss_cons (ps_set (i := 2) sc__law_words.nd rfl (by first | exact Or.inl rfl | exact Or.inr rfl) (pe_cal c__law_mix hr__law_mix rfl (pa_cons (pv 0) (pa_cons pe_int (pa_cons pe_int pa_nil)))))
      (pss_cons (ps_if (pt_cmpR op_eq (pe_cal c__law_mix hr__law_mix rfl (pa_cons (pv 0) (pa_cons pe_int (pa_cons pe_int pa_nil)))) pe_int (nomark _)) (pss_one (ps_set (i := 2) sc__law_words.nd rfl (by first | exact Or.inl rfl | exact Or.inr rfl) (pe_cal c__law_mix hr__law_mix rfl (pa_cons (pv 0) (pa_cons pe_int (pa_cons pe_int pa_nil)))))) pss_nil)
      (pss_cons (ps_for PassesOwn.never rfl (pi_range1 rfl T.range (pa_cons (pv 2) pa_nil)) (pg_name (i := 3) sc__law_words.nd rfl (by first | exact Or.inl rfl | exact Or.inr rfl)) (pss_cons (ps_set (i := 4) sc__law_words.nd rfl (by first | exact Or.inl rfl | exact Or.inr rfl) (pe_op op_add pe_int (pe_cal c__law_mix hr__law_mix rfl (pa_cons (pe_op op_add (pv 0) (pe_op op_mul (pe_op op_mul pe_int (pv 3)) (pv 3))) (pa_cons pe_int (pa_cons pe_int pa_nil))))))
      (pss_one (ps_expr (pe_bmK (K := K) rfl PySem.F.plainAttrs_list PySem.F.slot_list_append PySem.F.type_list_append mt_append (pv 1) (pa_cons (pe_cal c__law_word hr__law_word rfl (pa_cons (pe_op op_add (pv 0) (pe_op op_mul (pe_op op_mul pe_int (pv 3)) (pv 3))) (pa_cons (pv 4) pa_nil))) pa_nil))))))
      (pss_one (ps_ret (pe_callTy (call_tupleK (K := K) rfl) (by rfl) T.tuple PyProof.Rows.boot_tuple (pa_cons (pv 1) pa_nil)))))))), ?_⟩
    refine ⟨by show 0 ≤ sizeLine; decide, fun l hl => ?_⟩
    refine ⟨_, rfl, _, _, _, rfl, by decide, by decide, ?_⟩
    refine ⟨_, rfl, _, _, _, rfl, by decide, by decide, rfl, _, rfl, ?_⟩
    refine ite2 (fun _ => ?_) (fun _ => ?_)
    case' refine_1 =>
      refine ⟨_, rfl, _, _, _, rfl, by decide, by decide, ?_⟩
      generalize hm : seed * 48271 % 9901 % 13 = m
      have hm1 : 0 ≤ m ∧ m ≤ 12 := by omega
    case' refine_2 =>
      generalize hm : seed * 48271 % 9949 % 4 = m
      have hm1 : 0 ≤ m ∧ m ≤ 12 := by omega
    all_goals
      refine ⟨_, rfl, m, rfl, by omega, by omega, ?_⟩
      refine for_range (n := m.toNat) (fun i σ H2 => ∃ (kk sz : Option V) (ws : List Str), σ = [some (.int seed), some (.ref l), some (.int m), kk, sz] ∧ Same H H2 ∧ H2 l = some (.lst (ws.map V.str)) ∧ ws.length = i ∧ ∀ x ∈ ws, WordOk x)
        ⟨none, none, [], rfl, Same.upd_new hl, upd_same, rfl, fun x hx => by simp at hx⟩ ?_ ?_
      · intro i σ H2 hi hI
        refine ex_3 hI fun kk sz ws hJ => ?_
        have eI := hJ.1
        have s2 := hJ.2.1
        have h2 := hJ.2.2.1
        have l2 := hJ.2.2.2.1
        have o2 := hJ.2.2.2.2
        clear hI hJ
        subst eI
        refine ⟨_, rfl, _, rfl, _, _, rfl, rfl, .inl ⟨by decide, by decide⟩, _, rfl, _, _, rfl, rfl, .inr ⟨by omega, by omega⟩, _, _, rfl, rfl, _, _, _, rfl, by decide, by decide, _, _, rfl, rfl, ?_⟩
        dsimp only
        obtain ⟨n, en, n1, n2⟩ : ∃ n : Nat, 1 + (seed + 13 * (0 + (i : Int)) * (0 + (i : Int))) * 48271 % 9941 % 12 = (n : Int) ∧ 1 ≤ n ∧ n ≤ 12 := ⟨(1 + (seed + 13 * (0 + (i : Int)) * (0 + (i : Int))) * 48271 % 9941 % 12).toNat, by omega, by omega, by omega⟩
        rw [en]
        refine ⟨_, rfl, .inl ⟨rfl, _, SqL.of h2⟩, _, rfl, _, rfl, _, _, rfl, rfl, .inl ⟨by decide, by decide⟩, _, rfl, _, _, rfl, rfl, .inr ⟨by omega, by omega⟩, _, _, rfl, rfl, _, rfl, _, n, rfl, n1, n2, fun x H3 s3 ox => ?_⟩
        have h3 := s3 _ _ h2
        refine ⟨l, _, .str x, rfl, rfl, h3, small1000 (by rw [List.length_map]; omega), ?_⟩
        refine ⟨_, _, ws ++ [x], rfl, fun b o e => ?_, by rw [upd_same, List.map_append]; rfl, by rw [List.length_append, l2]; rfl, fun y hy => ?_⟩
        · rw [upd_ne (ne_of_none e hl)]
          exact s3 _ _ (s2 _ _ e)
        · rcases List.mem_append.mp hy with hy | hy
          · exact o2 y hy
          · have : y = x := by simpa using hy
            rw [this]; exact ox
      · intro σ H2 hI
        refine ex_3 hI fun kk sz ws hJ => ?_
        have eI := hJ.1
        have s2 := hJ.2.1
        have h2 := hJ.2.2.1
        have l2 := hJ.2.2.2.1
        have o2 := hJ.2.2.2.2
        clear hI hJ
        subst eI
        refine ⟨_, rfl, l, _, rfl, .inl ⟨SqL.of h2, fun t ht => ?_⟩⟩
        refine k _ ws _ (s2.trans (Same.upd_new ht)) ⟨by omega, o2⟩ (.tup upd_same (strs_at _ ws))

theorem sc__law_block : FnScope ["_law_cell_here", "_law_rows", "_law_columns", "_law_top", "_law_left"] ["_law_cell_here", "_law_rows", "_law_columns"] (defScope (top 25)) := ⟨rfl, rfl, rfl, by decide +kernel, rfl, by decide +kernel, by decide +kernel⟩
set_option maxHeartbeats 2000000 in
theorem ok__law_block (T : Txt mg) (c__law_mix : Cal P w K mg base 1 "_law_mix" ["_law_cell_here", "_law_prime", "_law_many"] spMix)
    (f : Addr) (fd : FuncData) (F : Fun K "_law_block" "_law_block" (top 25) f fd) : FnOk P w K mg base CX0 2 f fd ["_law_cell_here", "_law_rows", "_law_columns"] spBlock := by
  refine F.ok sc__law_block (fun vs H Q E h => ?_) (fun cdv A outer s H vs Q E hr h => ?_)
  · obtain ⟨c, R, C, rfl, _⟩ := h; rfl
  · obtain ⟨c, R, C, rfl, hR, hC, k⟩ := h
    have hr__law_mix : Room 1 (A.deeper (envOfC "_law_block" (defScope (top 25)) s.heap.objs.size f cdv)) := hr
    have R0 : (0 : Int) < (R : Int) := by omega
    have C0 : (0 : Int) < (C : Int) := by omega
    refine ⟨_, (pss_cons (ps_set (i := 3) sc__law_block.nd rfl (by first | exact Or.inl rfl | exact Or.inr rfl) (pe_cal c__law_mix hr__law_mix rfl (pa_cons (pv 0) (pa_cons pe_int (pa_cons (pv 1) pa_nil)))))
      (pss_cons (ps_set (i := 4) sc__law_block.nd rfl (by first | exact Or.inl rfl | exact Or.inr rfl) (pe_cal c__law_mix hr__law_mix rfl (pa_cons (pv 0) (pa_cons pe_int (pa_cons (pv 2) pa_nil)))))
      (pss_one (ps_ret (pe_tup (pa_cons (pv 3) (pa_cons (pv 4) (pa_cons (pe_op op_add pe_int (pe_cal c__law_mix hr__law_mix rfl (pa_cons (pv 0) (pa_cons pe_int (pa_cons pe_int pa_nil))))) (pa_cons (pe_op op_add pe_int (pe_cal c__law_mix hr__law_mix rfl (pa_cons (pv 0) (pa_cons pe_int (pa_cons pe_int pa_nil))))) pa_nil))))))))), ?_⟩
    refine ⟨_, rfl, _, rfl, _, _, _, rfl, by decide, R0, ?_⟩
    refine ⟨_, rfl, _, rfl, _, _, _, rfl, by decide, C0, ?_⟩
    refine ⟨_, rfl, _, rfl, _, rfl, _, _, _, rfl, by decide, by decide, _, _, rfl, rfl, _, rfl, _, _, _, rfl, by decide, by decide, _, _, rfl, rfl, by show 4 ≤ sizeLine; decide, fun p hp => ?_⟩
    dsimp only
    have a1 := Int.emod_nonneg (c * 48271 % 9973) (by omega : (R : Int) ≠ 0)
    have a2 := Int.emod_lt_of_pos (c * 48271 % 9973) R0
    have b1 := Int.emod_nonneg (c * 48271 % 9967) (by omega : (C : Int) ≠ 0)
    have b2 := Int.emod_lt_of_pos (c * 48271 % 9967) C0
    generalize c * 48271 % 9973 % (R : Int) = t at *
    generalize c * 48271 % 9967 % (C : Int) = l at *
    obtain ⟨t, rfl⟩ := Int.eq_ofNat_of_zero_le a1
    obtain ⟨l, rfl⟩ := Int.eq_ofNat_of_zero_le b1
    obtain ⟨h, eh, h1, h2⟩ : ∃ h : Nat, 1 + c * 48271 % 10007 % 3 = (h : Int) ∧ 1 ≤ h ∧ h ≤ 3 := ⟨(1 + c * 48271 % 10007 % 3).toNat, by omega, by omega, by omega⟩
    obtain ⟨w, ew, w1, w2⟩ : ∃ w : Nat, 1 + c * 48271 % 9923 % 3 = (w : Int) ∧ 1 ≤ w ∧ w ≤ 3 := ⟨(1 + c * 48271 % 9923 % 3).toNat, by omega, by omega, by omega⟩
    rw [eh, ew]
    exact k t l h w p _ (Same.upd_new hp) (by omega) (by omega) h1 h2 w1 w2 upd_same

theorem sc__law_free : FnScope ["_law_block_here", "_law_rows", "_law_columns", "_law_taken", "_law_row", "_law_column"] ["_law_block_here", "_law_rows", "_law_columns", "_law_taken"] (defScope (top 24)) := ⟨rfl, rfl, rfl, by decide +kernel, rfl, by decide +kernel, by decide +kernel⟩
set_option maxHeartbeats 2000000 in
theorem ok__law_free (T : Txt mg) (f : Addr) (fd : FuncData) (F : Fun K "_law_free" "_law_free" (top 24) f fd) : FnOk P w K mg base CX0 1 f fd ["_law_block_here", "_law_rows", "_law_columns", "_law_taken"] spFree := by
  refine F.ok sc__law_free (fun vs H Q E h => ?_) (fun cdv A outer s H vs Q E hr h => ?_)
  · obtain ⟨b, d, t, l, h, w, R, C, kvs, rfl, _⟩ := h; rfl
  · obtain ⟨b, d, t, l, h, w, R, C, kvs, rfl, hb, hd, t0, l0, h3, w3, qF, qT⟩ := h
    have hu := hu_of hr
    refine ⟨_, (pss_cons (ps_if (PW.pt (pw_or (pt_cmpR op_gt (pe_op op_add (pe_ix (ix_tupK (K := K) rfl) (pv 0) pe_int (fun _ _ => rfl)) (pe_ix (ix_tupK (K := K) rfl) (pv 0) pe_int (fun _ _ => rfl))) (pv 1) (nomark _)) (pw_or1 (pt_cmpR op_gt (pe_op op_add (pe_ix (ix_tupK (K := K) rfl) (pv 0) pe_int (fun _ _ => rfl)) (pe_ix (ix_tupK (K := K) rfl) (pv 0) pe_int (fun _ _ => rfl))) (pv 2) (nomark _))))) (pss_one (ps_ret pe_bl)) pss_nil)
      (pss_cons (ps_for PassesOwn.never rfl (pi_range2 rfl T.range (pa_cons (pe_ix (ix_tupK (K := K) rfl) (pv 0) pe_int (fun _ _ => rfl)) (pa_cons (pe_op op_add (pe_ix (ix_tupK (K := K) rfl) (pv 0) pe_int (fun _ _ => rfl)) (pe_ix (ix_tupK (K := K) rfl) (pv 0) pe_int (fun _ _ => rfl))) pa_nil))) (pg_name (i := 4) sc__law_free.nd rfl (by first | exact Or.inl rfl | exact Or.inr rfl)) (pss_one (ps_for PassesOwn.never rfl (pi_range2 rfl T.range (pa_cons (pe_ix (ix_tupK (K := K) rfl) (pv 0) pe_int (fun _ _ => rfl)) (pa_cons (pe_op op_add (pe_ix (ix_tupK (K := K) rfl) (pv 0) pe_int (fun _ _ => rfl)) (pe_ix (ix_tupK (K := K) rfl) (pv 0) pe_int (fun _ _ => rfl))) pa_nil))) (pg_name (i := 5) sc__law_free.nd rfl (by first | exact Or.inl rfl | exact Or.inr rfl)) (pss_one (ps_if (pt_cmp (pc_din hu (pe_tup (pa_cons (pv 4) (pa_cons (pv 5) pa_nil))) (pv 3)) (by rfl)) (pss_one (ps_ret pe_bl)) pss_nil)))))
      (pss_one (ps_ret pe_bl)))), ?_⟩
    refine ⟨_, rfl, b, _, (0 : Int), _, rfl, rfl, SqT.of hb, rfl, _, rfl, b, _, (2 : Int), _, rfl, rfl, SqT.of hb, rfl, _, _, rfl, rfl, _, rfl, _, _, rfl, rfl, _, rfl, ?_⟩
    refine ite2 (fun _ => iteT (qF H fun _ _ z => z)) (fun n1 => ?_)
    refine ⟨_, rfl, b, _, (1 : Int), _, rfl, rfl, SqT.of hb, rfl, _, rfl, b, _, (3 : Int), _, rfl, rfl, SqT.of hb, rfl, _, _, rfl, rfl, _, rfl, _, _, rfl, rfl, _, rfl, ?_⟩
    refine ite2 (fun _ => qF H fun _ _ z => z) (fun n2 => ?_)
    have d1 : t + h ≤ R := by
      have : ¬ ((R : Int) < (t : Int) + (h : Int)) := fun z => n1 (decide_eq_true z)
      omega
    have d2 : l + w ≤ C := by
      have : ¬ ((C : Int) < (l : Int) + (w : Int)) := fun z => n2 (decide_eq_true z)
      omega
    refine ⟨_, rfl, b, _, (0 : Int), _, rfl, rfl, SqT.of hb, rfl, _, rfl, b, _, (0 : Int), _, rfl, rfl, SqT.of hb, rfl, _, rfl, b, _, (2 : Int), _, rfl, rfl, SqT.of hb, rfl, _, _, rfl, rfl, (t : Int), (t : Int) + (h : Int), rfl, ⟨by omega, by omega, by omega, by omega⟩, ?_⟩
    have eh : ((t : Int) + (h : Int) - (t : Int)).toNat = h := by omega
    have ew : ((l : Int) + (w : Int) - (l : Int)).toNat = w := by omega
    rw [eh]
    refine for_range (n := h) (fun i σ H2 => ∃ (x y : Option V), σ = [some (.ref b), some (.int R), some (.int C), some (.ref d), x, y] ∧ Same H H2 ∧ ∀ r c, t ≤ r → r < t + i → l ≤ c → c < l + w → valV kvs (pl r c) = none)
      ⟨_, _, rfl, fun _ _ z => z, fun r c h1 h2 => by omega⟩ ?_ ?_
    · intro i σ H2 hi hI
      refine ex_2 hI fun x y hJ => ?_
      have eI := hJ.1
      have s2 := hJ.2.1
      have a2 := hJ.2.2
      clear hI hJ
      subst eI
      have hb2 := s2 _ _ hb
      refine ⟨_, rfl, b, _, (1 : Int), _, rfl, rfl, SqT.of hb2, rfl, _, rfl, b, _, (1 : Int), _, rfl, rfl, SqT.of hb2, rfl, _, rfl, b, _, (3 : Int), _, rfl, rfl, SqT.of hb2, rfl, _, _, rfl, rfl, (l : Int), (l : Int) + (w : Int), rfl, ⟨by omega, by omega, by omega, by omega⟩, ?_⟩
      rw [ew]
      refine for_range (n := w) (fun j σ H3 => ∃ (y : Option V), σ = [some (.ref b), some (.int R), some (.int C), some (.ref d), some (.int ((t : Int) + (i : Int))), y] ∧ Same H H3 ∧ ∀ c, l ≤ c → c < l + j → valV kvs (pl (t + i) c) = none)
        ⟨_, rfl, s2, fun c h1 h2 => by omega⟩ ?_ ?_
      · rintro j σ H3 hj ⟨y, rfl, s3, a3⟩
        have e1 : (t : Int) + (i : Int) = ((t + i : Nat) : Int) := by simp
        have e2 : (l : Int) + (j : Int) = ((l + j : Nat) : Int) := by simp
        rw [e2, e1]
        refine ⟨_, rfl, _, rfl, by show 2 ≤ sizeLine; decide, fun p hp => ?_⟩
        have s4 := s3.trans (Same.upd_new (o := .tup [.int ((t + i : Nat) : Int), .int ((l + j : Nat) : Int)]) hp)
        refine ⟨_, rfl, d, _, rfl, DGet.t (k := pl (t + i) (l + j)) (s4 _ _ hd) upd_same, _, rfl, ?_⟩
        cases e : valV kvs (pl (t + i) (l + j)) with
        | some v => exact iteT (qF _ s4)
        | none =>
          refine iteF ?_
          refine ⟨_, rfl, s4, fun c h1 h2 => ?_⟩
          by_cases hc : c = l + j
          · subst hc; exact e
          · exact a3 c h1 (by omega)
      · rintro σ H3 ⟨y, rfl, s3, a3⟩
        refine ⟨_, _, rfl, s3, fun r c h1 h2 h4 h5 => ?_⟩
        by_cases hc : r = t + i
        · subst hc; exact a3 c h4 h5
        · exact a2 r c h1 (by omega) h4 h5
    · intro σ H2 hI
      refine ex_2 hI fun x y hJ => ?_
      have eI := hJ.1
      have s2 := hJ.2.1
      have a2 := hJ.2.2
      clear hI hJ
      subst eI
      exact qT d1 d2 a2 H2 s2

end
end KL

set_option Elab.async false
set_option linter.all false
set_option autoImplicit false
set_option maxRecDepth 100000
namespace KL
open PySem L2 GT PyProof.Rows
theorem SameT.putD {H : Hp} {d : Addr} {kvs : List (List Key × V)} {o : HO} (h : H d = some (.dT kvs)) : SameT H (upd H d o) := fun a ys e => by
  rw [upd_ne (ne_of e h (fun z => by cases z))]; exact e
theorem pl_inj {r c r' c' : Nat} : pl r c = pl r' c' ↔ r = r' ∧ c = c' := by
  unfold pl
  constructor
  · intro h
    simp only [List.cons.injEq, Sum.inl.injEq] at h
    omega
  · rintro ⟨rfl, rfl⟩; rfl
theorem valV_pl {kvs : List (List Key × V)} {r c r' c' : Nat} {v : V} : (valV (putK kvs (pl r c) v) (pl r' c')).isSome = true ↔ (valV kvs (pl r' c')).isSome = true ∨ (r' = r ∧ c' = c) := by
  rw [valV_put]
  by_cases h : pl r' c' = pl r c
  · rw [if_pos h]
    exact ⟨fun _ => .inr (pl_inj.mp h), fun _ => rfl⟩
  · rw [if_neg h]
    exact ⟨fun z => .inl z, fun z => z.elim id fun z => absurd (pl_inj.mpr z) h⟩
theorem cut_ints {ns : List Int} {lo hi : Option Int} : (∀ x ∈ cutV (ns.map V.int) lo hi, ∃ z, x = V.int z) ∧ (cutV (ns.map V.int) lo hi).length ≤ ns.length := by
  constructor
  · intro x hx
    have : x ∈ ns.map V.int := List.mem_of_mem_drop (List.mem_of_mem_take hx)
    obtain ⟨z, _, rfl⟩ := List.mem_map.mp this
    exact ⟨z, rfl⟩
  · have := cutV_length (ns.map V.int) lo hi
    rwa [List.length_map] at this
section
variable {P : Program} {w : World} {K : PySem.W.Frag} {mg : Str → Option Value} {base : Heap}
/-- between two turns of the first loop -/
structure One (H : Hp) (R C : Nat) (d l p : Addr) (items : List V) (i : Nat) (cs : List Cell) (kvs : List (List Key × V)) (xs : List V) (H2 : Hp) : Prop where
  same : Same H H2
  it : H2 p = some (.lst items)
  dd : H2 d = some (.dT kvs)
  ll : H2 l = some (.lst xs)
  at' : AtL H2 (cs.map Cell.D) xs
  part : Part R C cs
  few : cs.length ≤ i
  fewk : kvs.length ≤ 9 * i
  cov : ∀ r c, (valV kvs (pl r c)).isSome = true ↔ cov cs r c
noncomputable def TabInv (a : Addr) (H : Hp) (R C : Nat) (d l p : Addr) (items : List V) (i : Nat) (σ : L2.St) (H2 : Hp) : Prop := ∃ (c5 c6 c7 c8 : Option V) (cs : List Cell) (kvs : List (List Key × V)) (xs : List V),
        σ = [some (.ref a), some (.int R), some (.int C), some (.ref d), some (.ref l), c5, c6, c7, c8, none] ∧ One H R C d l p items i cs kvs xs H2
noncomputable def TabI2 (a : Addr) (R C : Nat) (d l : Addr) (z : Int) (b : Addr) (H H8 : Hp) (p : Addr) (items xs : List V) (r : Addr) (i : Nat) (cs : List Cell) (X : Cell) (t : Nat) (i2 : Nat) (σ : L2.St) (H9 : Hp) : Prop := ∃ (c7 c8 : Option V) (kv : List (List Key × V)), σ = [some (.ref a), some (.int R), some (.int C), some (.ref d), some (.ref l), some (.int z), some (.ref b), c7, c8, none] ∧
            Same H H9 ∧ SameT H8 H9 ∧ H9 p = some (.lst items) ∧ H9 d = some (.dT kv) ∧ H9 l = some (.lst (xs ++ [.ref r])) ∧ kv.length ≤ 9 * i + 3 * i2 ∧ ∀ r' c', (valV kv (pl r' c')).isSome = true ↔ GT.cov cs r' c' ∨ (inC X r' c' ∧ r' < t + i2)
noncomputable def TabI3 (a : Addr) (R C : Nat) (d l : Addr) (z : Int) (b : Addr) (H H8 : Hp) (p : Addr) (items xs : List V) (r : Addr) (i : Nat) (cs : List Cell) (X : Cell) (t : Nat) (lf i2 : Nat) (j : Nat) (σ : L2.St) (H10 : Hp) : Prop := ∃ (c8 : Option V) (kv : List (List Key × V)), σ = [some (.ref a), some (.int R), some (.int C), some (.ref d), some (.ref l), some (.int z), some (.ref b), some (.int ((t : Int) + (i2 : Int))), c8, none] ∧
              Same H H10 ∧ SameT H8 H10 ∧ H10 p = some (.lst items) ∧ H10 d = some (.dT kv) ∧ H10 l = some (.lst (xs ++ [.ref r])) ∧ kv.length ≤ 9 * i + 3 * i2 + j ∧
              ∀ r' c', (valV kv (pl r' c')).isSome = true ↔ GT.cov cs r' c' ∨ (inC X r' c' ∧ (r' < t + i2 ∨ (r' = t + i2 ∧ c' < lf + j)))
noncomputable def TabI4 (a : Addr) (R C : Nat) (d l : Addr) (c5 c6 : Option V) (H : Hp) (kvs : List (List Key × V)) (cs1 : List Cell) (i : Nat) (σ : L2.St) (H3 : Hp) : Prop := ∃ (c7 c8 c9 : Option V) (cs : List Cell) (xs : List V), σ = [some (.ref a), some (.int R), some (.int C), some (.ref d), some (.ref l), c5, c6, c7, c8, c9] ∧
          Same H H3 ∧ H3 d = some (.dT kvs) ∧ H3 l = some (.lst xs) ∧ AtL H3 (cs.map Cell.D) xs ∧ Part R C cs ∧ cs.length ≤ 67 + 17 * i ∧ ∀ r c, r < R → c < C → (GT.cov cs r c ↔ GT.cov cs1 r c ∨ r < i)

theorem sc__law_table : FnScope ["_law_script", "_law_rows", "_law_columns", "_law_taken", "_law_cells", "_law_cell_here", "_law_block_here", "_law_row", "_law_column", "_law_seed"] ["_law_script", "_law_rows", "_law_columns"] (defScope (top 26)) := ⟨rfl, rfl, rfl, by decide +kernel, rfl, by decide +kernel, by decide +kernel⟩
set_option maxHeartbeats 4000000 in
theorem ok__law_table (T : Txt mg) (c__law_cell : Cal P w K mg base 1 "_law_cell" ["_law_script", "_law_k"] (spCell K)) (c__law_words : Cal P w K mg base 3 "_law_words" ["_law_seed"] spWords)
    (c__law_block : Cal P w K mg base 2 "_law_block" ["_law_cell_here", "_law_rows", "_law_columns"] spBlock) (c__law_free : Cal P w K mg base 1 "_law_free" ["_law_block_here", "_law_rows", "_law_columns", "_law_taken"] spFree)
    (f : Addr) (fd : FuncData) (F : Fun K "_law_table" "_law_table" (top 26) f fd) : FnOk P w K mg base CX0 4 f fd ["_law_script", "_law_rows", "_law_columns"] (spTable K) := by
  refine F.ok sc__law_table (fun vs H Q E h => ?_) (fun cdv A outer s H vs Q E hr h => ?_)
  · obtain ⟨a, ns, R, C, rfl, _⟩ := h; rfl
  · obtain ⟨a, ns, R, C, rfl, hs, hlen, hR1, hR2, hC1, hC2, k⟩ := h
    have hr__law_words : Room 3 (A.deeper (envOfC "_law_table" (defScope (top 26)) s.heap.objs.size f cdv)) := hr
    have hr__law_block : Room 2 (A.deeper (envOfC "_law_table" (defScope (top 26)) s.heap.objs.size f cdv)) := hr.mono (by decide)
    have hr__law_cell : Room 1 (A.deeper (envOfC "_law_table" (defScope (top 26)) s.heap.objs.size f cdv)) := hr.mono (by decide)
    have hr__law_free := hr__law_cell
    have hu := hu_of hr
    refine ⟨_, (pss_cons (ps_set (i := 3) sc__law_table.nd rfl (by first | exact Or.inl rfl | exact Or.inr rfl) pe_dnewT)
      (pss_cons (ps_set (i := 4) sc__law_table.nd rfl (by first | exact Or.inl rfl | exact Or.inr rfl) (pe_lst pa_nil))
      (pss_cons (ps_for PassesOwn.never rfl (pi_listK (K := K) rfl (pe_slice (sl_listK (K := K) rfl) (pv 0) (po_some pe_int) (po_some (pe_op op_add (pe_op op_add pe_int (pv 1)) (pv 2))))) (pg_name (i := 5) sc__law_table.nd rfl (by first | exact Or.inl rfl | exact Or.inr rfl)) (pss_cons (ps_set (i := 6) sc__law_table.nd rfl (by first | exact Or.inl rfl | exact Or.inr rfl) (pe_cal c__law_block hr__law_block rfl (pa_cons (pv 5) (pa_cons (pv 1) (pa_cons (pv 2) pa_nil)))))
      (pss_one (ps_if (pt_val (pe_cal c__law_free hr__law_free rfl (pa_cons (pv 6) (pa_cons (pv 1) (pa_cons (pv 2) (pa_cons (pv 3) pa_nil)))))) (pss_cons (ps_expr (pe_bmK (K := K) rfl PySem.F.plainAttrs_list PySem.F.slot_list_append PySem.F.type_list_append mt_append (pv 4) (pa_cons (pe_op (op_catTK (K := K) rfl) (pv 6) (pe_tup (pa_cons (pe_cal c__law_words hr__law_words rfl (pa_cons (pv 5) pa_nil)) pa_nil))) pa_nil)))
      (pss_one (ps_for PassesOwn.never rfl (pi_range2 rfl T.range (pa_cons (pe_ix (ix_tupK (K := K) rfl) (pv 6) pe_int (fun _ _ => rfl)) (pa_cons (pe_op op_add (pe_ix (ix_tupK (K := K) rfl) (pv 6) pe_int (fun _ _ => rfl)) (pe_ix (ix_tupK (K := K) rfl) (pv 6) pe_int (fun _ _ => rfl))) pa_nil))) (pg_name (i := 7) sc__law_table.nd rfl (by first | exact Or.inl rfl | exact Or.inr rfl)) (pss_one (ps_for PassesOwn.never rfl (pi_range2 rfl T.range (pa_cons (pe_ix (ix_tupK (K := K) rfl) (pv 6) pe_int (fun _ _ => rfl)) (pa_cons (pe_op op_add (pe_ix (ix_tupK (K := K) rfl) (pv 6) pe_int (fun _ _ => rfl)) (pe_ix (ix_tupK (K := K) rfl) (pv 6) pe_int (fun _ _ => rfl))) pa_nil))) (pg_name (i := 8) sc__law_table.nd rfl (by first | exact Or.inl rfl | exact Or.inr rfl)) (pss_one (ps_dput hu (pv 3) (pe_tup (pa_cons (pv 7) (pa_cons (pv 8) pa_nil))) pe_bl rfl))))))) pss_nil))))
      (pss_cons (ps_for PassesOwn.never rfl (pi_range1 rfl T.range (pa_cons (pv 1) pa_nil)) (pg_name (i := 7) sc__law_table.nd rfl (by first | exact Or.inl rfl | exact Or.inr rfl)) (pss_one (ps_for PassesOwn.never rfl (pi_range1 rfl T.range (pa_cons (pv 2) pa_nil)) (pg_name (i := 8) sc__law_table.nd rfl (by first | exact Or.inl rfl | exact Or.inr rfl)) (pss_one (ps_if (pt_cmp (pc_dnotin hu (pe_tup (pa_cons (pv 7) (pa_cons (pv 8) pa_nil))) (pv 3)) (by rfl)) (pss_cons (ps_set (i := 9) sc__law_table.nd rfl (by first | exact Or.inl rfl | exact Or.inr rfl) (pe_op op_add (pe_op op_mul (pe_op op_mul pe_int (pv 7)) (pv 7)) (pe_op op_mul (pe_op op_mul pe_int (pv 8)) (pv 8))))
      (pss_cons (ps_set (i := 9) sc__law_table.nd rfl (by first | exact Or.inl rfl | exact Or.inr rfl) (pe_op op_add (pv 9) (pe_cal c__law_cell hr__law_cell rfl (pa_cons (pv 0) (pa_cons (pe_op op_add pe_int (pe_op op_mod (pe_op op_add (pv 7) (pe_op op_mul pe_int (pv 8))) pe_int)) pa_nil)))))
      (pss_one (ps_expr (pe_bmK (K := K) rfl PySem.F.plainAttrs_list PySem.F.slot_list_append PySem.F.type_list_append mt_append (pv 4) (pa_cons (pe_tup (pa_cons (pv 7) (pa_cons (pv 8) (pa_cons pe_int (pa_cons pe_int (pa_cons (pe_cal c__law_words hr__law_words rfl (pa_cons (pv 9) pa_nil)) pa_nil)))))) pa_nil)))))) pss_nil)))))
      (pss_one (ps_ret (pe_tup (pa_cons (pv 1) (pa_cons (pv 2) (pa_cons (pe_callB (call_sortedT (K := K) rfl) (by rfl) T.sorted PyProof.Rows.boot_sorted (pa_cons (pv 4) pa_nil)) pa_nil)))))))))), ?_⟩
    intro d hd0
    refine ⟨by show 0 ≤ sizeLine; decide, fun l hl0 => ?_⟩
    have ndl : l ≠ d := by intro e; subst e; rw [upd_same] at hl0; cases hl0
    have hl : H l = none := by rw [upd_ne ndl] at hl0; exact hl0
    have s1 : Same H (upd (upd H d (.dT [])) l (.lst [])) := (Same.upd_new hd0).trans (Same.upd_new hl0)
    have RC : (2 : Int) + (R : Int) + (C : Int) = ((2 + R + C : Nat) : Int) := by simp
    refine ⟨_, rfl, _, rfl, _, rfl, _, _, rfl, rfl, _, rfl, _, _, rfl, rfl, _, rfl, a, _, rfl, s1.seq hs, fun p hp => ⟨p, rfl, ⟨_, SqL.of upd_same⟩, ?_⟩⟩
    have npd : p ≠ d := by
      intro e; subst e; rw [upd_ne ndl.symm, upd_same] at hp; cases hp
    have npl : p ≠ l := by intro e; subst e; rw [upd_same] at hp; cases hp
    have hp0 : H p = none := s1.free hp
    obtain ⟨itsI, ilen⟩ := cut_ints (ns := ns) (lo := some 2) (hi := some ((2 : Int) + (R : Int) + (C : Int)))
    generalize hit : cutV (ns.map V.int) (some 2) (some ((2 : Int) + (R : Int) + (C : Int))) = items at *
    have s2 := Same.upd_new (o := .lst items) hp
    -- the first loop: blocks
    refine for_list (K := K) (a := p) (xs := items) (TabInv a H R C d l p items)
      ⟨none, none, none, none, [], [], [], rfl, s1.trans s2, upd_same, by rw [upd_ne npd.symm, upd_ne ndl.symm, upd_same], by rw [upd_ne npl.symm, upd_same], .nil, Part.nil R C, Nat.le_refl _, Nat.le_refl _, fun r c => by
        constructor
        · intro z; cases z
        · rintro ⟨x, hx, _⟩; simp at hx⟩
      (fun i σ H2 _ ⟨_, _, _, _, _, _, _, _, o⟩ => SqL.of o.it) ?_ ?_
    · intro i x σ H2 hi hI
      refine ex_7 hI fun c5 c6 c7 c8 cs kvs xs hJ => ?_
      have eI := hJ.1
      have O := hJ.2
      clear hI hJ
      subst eI
      obtain ⟨z, rfl⟩ := itsI x (List.mem_of_getElem? hi)
      have hil : i < items.length := (List.getElem?_eq_some_iff.mp hi).1
      have lx := O.at'.length
      rw [List.length_map] at lx
      refine ⟨_, rfl, _, rfl, _, rfl, z, R, C, rfl, hR1, hC1, fun t lf h w b H3 s3 ht hlf h1 h2 w1 w2 hb => ?_⟩
      refine ⟨_, rfl, _, rfl, _, rfl, _, rfl, b, d, t, lf, h, w, R, C, kvs, rfl, hb, s3 _ _ O.dd, by omega, by omega, h2, w2, fun H4 s4 => ⟨false, rfl, iteF ?_⟩, fun d1 d2 fr H4 s4 => ⟨true, rfl, iteT ?_⟩⟩
      · have s34 := s3.trans s4
        exact ⟨_, _, _, _, cs, kvs, xs, rfl, O.same.trans s34, s34 _ _ O.it, s34 _ _ O.dd, s34 _ _ O.ll, O.at'.mono s34, O.part, Nat.le_succ_of_le O.few, by have := O.fewk; omega, O.cov⟩
      · have s34 := s3.trans s4
        refine ⟨_, rfl, .inl ⟨rfl, _, SqL.of (s34 _ _ O.ll)⟩, _, rfl, _, rfl, z, rfl, fun v ws H5 s5 ow av => ⟨by show 1 ≤ sizeLine; decide, fun q hq => ?_⟩⟩
        have s6 := Same.upd_new (o := .tup [v]) hq
        refine ⟨b, q, _, _, rfl, rfl, SqT.of (s6 _ _ (s5 _ _ (s4 _ _ hb))), SqT.of upd_same, (by intro z; cases z), (by show 5 ≤ sizeLine; decide), (fun z => by cases z), fun _ r hrn => ?_⟩
        have s7 := Same.upd_new (o := .tup ([.int t, .int lf, .int h, .int w] ++ [v])) hrn
        have s27 := ((s34.trans s5).trans s6).trans s7
        generalize hH7 : upd (upd H5 q (.tup [v])) r (.tup ([.int t, .int lf, .int h, .int w] ++ [v])) = H7 at *
        have hr7 : H7 r = some (.tup ([.int t, .int lf, .int h, .int w] ++ [v])) := by rw [← hH7]; exact upd_same
        have l7 := s27 _ _ O.ll
        refine ⟨l, xs, .ref r, rfl, rfl, l7, small1000 (by have := O.few; omega), ?_⟩
        obtain ⟨bb, wv, rfl, hbb, aw⟩ := av.tup_inv
        have t8 : SameT H7 (upd H7 l (.lst (xs ++ [.ref r]))) := SameT.put l7
        let X : Cell := ⟨t, lf, h, w, ws⟩
        have fx : Fit R C X := ⟨h1, w1, d1, d2, ow⟩
        have dx : ∀ r' c', inC X r' c' → ¬ GT.cov cs r' c' := fun r' c' hin hc => by
          have := (O.cov r' c').mpr hc
          rw [fr r' c' hin.1 hin.2.1 hin.2.2.1 hin.2.2.2] at this
          cases this
        have s57 := s6.trans s7
        have aX : At (upd H7 l (.lst (xs ++ [.ref r]))) X.D (.ref r) := Cell.at_mk (x := X) (t8 _ _ hr7) (t8 _ _ (s57 _ _ hbb)) ((aw.mono s57).monoT (fun d hd => by obtain ⟨w', _, rfl⟩ := List.mem_map.mp hd; exact .str w') t8)
        have aL : AtL (upd H7 l (.lst (xs ++ [.ref r]))) ((cs ++ [X]).map Cell.D) (xs ++ [.ref r]) := by
          rw [List.map_append]
          exact Paired.snoc' ((O.at'.mono s27).monoT (cells_nol cs) t8) aX
        have PX := O.part.snoc fx dx
        have nbl : b ≠ l := ne_of (s3 _ _ O.ll) hb (by intro z; cases z) |>.symm
        have ndl7 : d ≠ l := ne_of O.dd O.ll (by intro z; cases z)
        have hb7 : H7 b = some (.tup [.int t, .int lf, .int h, .int w]) := s57 _ _ (s5 _ _ (s4 _ _ hb))
        have hb8 : (upd H7 l (.lst (xs ++ [.ref r]))) b = some (.tup [.int t, .int lf, .int h, .int w]) := t8 _ _ hb7
        have fk := O.fewk
        have start8 : Same H (upd H7 l (.lst (xs ++ [.ref r]))) := fun b' o e => by
          rw [upd_ne (ne_of_none e hl)]
          exact s27 _ _ (O.same _ _ e)
        have p8 : (upd H7 l (.lst (xs ++ [.ref r]))) p = some (.lst items) := by
          rw [upd_ne npl]; exact s27 _ _ O.it
        have d8 : (upd H7 l (.lst (xs ++ [.ref r]))) d = some (.dT kvs) := by rw [upd_ne ndl7]; exact s27 _ _ O.dd
        generalize hH8 : upd H7 l (.lst (xs ++ [.ref r])) = H8 at *
        have l8 : H8 l = some (.lst (xs ++ [.ref r])) := by rw [← hH8]; exact upd_same
        have ehh : ((t : Int) + (h : Int) - (t : Int)).toNat = h := by omega
        have eww : ((lf : Int) + (w : Int) - (lf : Int)).toNat = w := by omega
        -- its places are taken
        refine ⟨_, rfl, b, _, (0 : Int), _, rfl, rfl, SqT.of hb8, rfl, _, rfl, b, _, (0 : Int), _, rfl, rfl, SqT.of hb8, rfl, _, rfl, b, _, (2 : Int), _, rfl, rfl, SqT.of hb8, rfl, _, _, rfl, rfl, (t : Int), (t : Int) + (h : Int), rfl, ⟨by omega, by omega, by omega, by omega⟩, ?_⟩
        rw [ehh]
        refine for_range (n := h) (TabI2 a R C d l z b H H8 p items xs r i cs X t)
          ⟨_, _, kvs, rfl, start8, fun _ _ z => z, p8, d8, l8, by omega, fun r' c' => by
            rw [O.cov r' c']
            exact ⟨fun z => .inl z, fun z => z.elim id fun z => absurd z.2 (by have := z.1.1; show ¬ r' < t + 0; have : t ≤ r' := this; omega)⟩⟩ ?_ ?_
        · intro i2 σ H9 hi2 hI
          refine ex_3 hI fun c7 c8 kv hJ => ?_
          have eI := hJ.1
          have s9 := hJ.2.1
          have t9 := hJ.2.2.1
          have p9 := hJ.2.2.2.1
          have d9 := hJ.2.2.2.2.1
          have l9 := hJ.2.2.2.2.2.1
          have f9 := hJ.2.2.2.2.2.2.1
          have v9 := hJ.2.2.2.2.2.2.2
          clear hI hJ
          subst eI
          have hb9 := t9 _ _ hb8
          refine ⟨_, rfl, b, _, (1 : Int), _, rfl, rfl, SqT.of hb9, rfl, _, rfl, b, _, (1 : Int), _, rfl, rfl, SqT.of hb9, rfl, _, rfl, b, _, (3 : Int), _, rfl, rfl, SqT.of hb9, rfl, _, _, rfl, rfl, (lf : Int), (lf : Int) + (w : Int), rfl, ⟨by omega, by omega, by omega, by omega⟩, ?_⟩
          rw [eww]
          refine for_range (n := w) (TabI3 a R C d l z b H H8 p items xs r i cs X t lf i2)
            ⟨_, kv, rfl, s9, t9, p9, d9, l9, by omega, fun r' c' => by
              rw [v9 r' c']
              refine ⟨fun z => z.imp id fun z => ⟨z.1, .inl z.2⟩, fun z => z.imp id fun z => ⟨z.1, z.2.elim id fun q => ?_⟩⟩
              have : lf ≤ c' := z.1.2.2.1
              omega⟩ ?_ ?_
          · intro j σ H10 hj hI
            refine ex_2 hI fun c8 kv hJ => ?_
            have eI := hJ.1
            have s10 := hJ.2.1
            have t10 := hJ.2.2.1
            have p10 := hJ.2.2.2.1
            have d10 := hJ.2.2.2.2.1
            have l10 := hJ.2.2.2.2.2.1
            have f10 := hJ.2.2.2.2.2.2.1
            have v10 := hJ.2.2.2.2.2.2.2
            clear hI hJ
            subst eI
            have e1 : (t : Int) + (i2 : Int) = ((t + i2 : Nat) : Int) := by simp
            have e2 : (lf : Int) + (j : Int) = ((lf + j : Nat) : Int) := by simp
            rw [e2, e1]
            refine ⟨_, rfl, _, rfl, _, rfl, by show 2 ≤ sizeLine; decide, fun q2 hq2 => ?_⟩
            have s11 := Same.upd_new (o := .tup [.int ((t + i2 : Nat) : Int), .int ((lf + j : Nat) : Int)]) hq2
            have d11 := s11 _ _ d10
            refine ⟨d, _, rfl, DPut.t (k := pl (t + i2) (lf + j)) d11 upd_same (small1000 (by omega)), ?_⟩
            have ndp : p ≠ d := ne_of p10 d10 (by intro z; cases z)
            have ndl10 : l ≠ d := ne_of l10 d10 (by intro z; cases z)
            refine ⟨_, _, rfl, fun b' o e => ?_, (t10.trans s11.t).trans (SameT.putD d11), ?_, upd_same, ?_, ?_, fun r' c' => ?_⟩
            · rw [upd_ne (ne_of_none e hd0)]
              exact s11 _ _ (s10 _ _ e)
            · rw [upd_ne ndp]; exact s11 _ _ p10
            · rw [upd_ne ndl10]; exact s11 _ _ l10
            · have := length_putK kv (pl (t + i2) (lf + j)) (V.bl true)
              omega
            · rw [valV_pl, v10 r' c']
              constructor
              · rintro ((z | z) | z)
                · exact .inl z
                · exact .inr ⟨z.1, z.2.imp id fun q => ⟨q.1, by omega⟩⟩
                · refine .inr ⟨⟨?_, ?_, ?_, ?_⟩, .inr ⟨z.1, by omega⟩⟩
                  · show t ≤ r'; omega
                  · show r' < t + h; omega
                  · show lf ≤ c'; omega
                  · show c' < lf + w; omega
              · rintro (z | z)
                · exact .inl (.inl z)
                · by_cases he : r' = t + i2 ∧ c' = lf + j
                  · exact .inr he
                  · exact .inl (.inr ⟨z.1, z.2.imp id fun q => ⟨q.1, by omega⟩⟩)
          · intro σ H10 hI
            refine ex_2 hI fun c8 kv hJ => ?_
            have eI := hJ.1
            have s10 := hJ.2.1
            have t10 := hJ.2.2.1
            have p10 := hJ.2.2.2.1
            have d10 := hJ.2.2.2.2.1
            have l10 := hJ.2.2.2.2.2.1
            have f10 := hJ.2.2.2.2.2.2.1
            have v10 := hJ.2.2.2.2.2.2.2
            clear hI hJ
            subst eI
            refine ⟨_, _, kv, rfl, s10, t10, p10, d10, l10, by omega, fun r' c' => ?_⟩
            rw [v10 r' c']
            refine ⟨fun z => z.imp id fun z => ⟨z.1, by omega⟩, fun z => z.imp id fun z => ⟨z.1, ?_⟩⟩
            have : c' < lf + w := z.1.2.2.2
            omega
        · intro σ H9 hI
          refine ex_3 hI fun c7 c8 kv hJ => ?_
          have eI := hJ.1
          have s9 := hJ.2.1
          have t9 := hJ.2.2.1
          have p9 := hJ.2.2.2.1
          have d9 := hJ.2.2.2.2.1
          have l9 := hJ.2.2.2.2.2.1
          have f9 := hJ.2.2.2.2.2.2.1
          have v9 := hJ.2.2.2.2.2.2.2
          clear hI hJ
          subst eI
          refine ⟨_, _, _, _, cs ++ [X], kv, xs ++ [.ref r], rfl, s9, p9, d9, l9, aL.monoT (cells_nol _) t9, PX, by rw [List.length_append]; have := O.few; show _ + 1 ≤ _; omega, by omega, fun r' c' => ?_⟩
          rw [v9 r' c', cov_snoc]
          refine ⟨fun z => z.imp id fun z => z.1, fun z => z.imp id fun z => ⟨z, ?_⟩⟩
          exact z.2.1
    · intro σ H2 hI
      refine ex_7 hI fun c5 c6 c7 c8 cs1 kvs xs1 hJ => ?_
      have eI := hJ.1
      have O := hJ.2
      clear hI hJ
      subst eI
      have lx1 := O.at'.length
      rw [List.length_map] at lx1
      have few1 := O.few
      have eR : ((R : Int)).toNat = R := by omega
      have eC : ((C : Int)).toNat = C := by omega
      -- the second loop: what is left, place by place
      refine ⟨_, rfl, (R : Int), rfl, by omega, by omega, ?_⟩
      rw [eR]
      refine for_range (n := R) (TabI4 a R C d l c5 c6 H kvs cs1)
        ⟨_, _, _, cs1, xs1, rfl, O.same, O.dd, O.ll, O.at', O.part, by omega, fun r c _ _ => ⟨fun z => .inl z, fun z => z.elim id fun z => by omega⟩⟩ ?_ ?_
      · intro i σ H3 hi hI
        refine ex_5 hI fun c7 c8 c9 cs xs hJ => ?_
        have eI := hJ.1
        have s3 := hJ.2.1
        have d3 := hJ.2.2.1
        have l3 := hJ.2.2.2.1
        have a3 := hJ.2.2.2.2.1
        have P3 := hJ.2.2.2.2.2.1
        have f3 := hJ.2.2.2.2.2.2.1
        have v3 := hJ.2.2.2.2.2.2.2
        clear hI hJ
        subst eI
        refine ⟨_, rfl, (C : Int), rfl, by omega, by omega, ?_⟩
        rw [eC]
        refine for_range (n := C) (fun j σ H4 => ∃ (c8 c9 : Option V) (cs : List Cell) (xs : List V), σ = [some (.ref a), some (.int R), some (.int C), some (.ref d), some (.ref l), c5, c6, some (.int (0 + (i : Int))), c8, c9] ∧
            Same H H4 ∧ H4 d = some (.dT kvs) ∧ H4 l = some (.lst xs) ∧ AtL H4 (cs.map Cell.D) xs ∧ Part R C cs ∧ cs.length ≤ 67 + 17 * i + j ∧ ∀ r c, r < R → c < C → (GT.cov cs r c ↔ GT.cov cs1 r c ∨ r < i ∨ (r = i ∧ c < j)))
          ⟨_, _, cs, xs, rfl, s3, d3, l3, a3, P3, by omega, fun r c hr' hc' => by
            rw [v3 r c hr' hc']
            exact ⟨fun z => z.imp id .inl, fun z => z.imp id fun z => by omega⟩⟩ ?_ ?_
        · intro j σ H4 hj hI
          refine ex_4 hI fun c8 c9 cs xs hJ => ?_
          have eI := hJ.1
          have s4 := hJ.2.1
          have d4 := hJ.2.2.1
          have l4 := hJ.2.2.2.1
          have a4 := hJ.2.2.2.2.1
          have P4 := hJ.2.2.2.2.2.1
          have f4 := hJ.2.2.2.2.2.2.1
          have v4 := hJ.2.2.2.2.2.2.2
          clear hI hJ
          subst eI
          have e1 : (0 : Int) + (i : Int) = ((i : Nat) : Int) := by omega
          have e2 : (0 : Int) + (j : Int) = ((j : Nat) : Int) := by omega
          rw [e2, e1]
          have lx4 := a4.length
          rw [List.length_map] at lx4
          refine ⟨_, rfl, _, rfl, by show 2 ≤ sizeLine; decide, fun q hq => ?_⟩
          have s5 := Same.upd_new (o := .tup [.int (i : Int), .int (j : Int)]) hq
          refine ⟨_, rfl, d, _, rfl, DGet.t (k := pl i j) (s5 _ _ d4) upd_same, _, rfl, ?_⟩
          cases ev : valV kvs (pl i j) with
          | some v =>
            refine iteF ?_
            have hc : GT.cov cs1 i j := (O.cov i j).mp (by rw [ev]; rfl)
            refine ⟨_, _, cs, xs, rfl, s4.trans s5, s5 _ _ d4, s5 _ _ l4, a4.mono s5, P4, by omega, fun r c hr' hc' => ?_⟩
            rw [v4 r c hr' hc']
            refine ⟨fun z => z.imp id fun z => z.imp id fun z => ⟨z.1, by omega⟩, fun z => ?_⟩
            rcases z with z | z | z
            · exact .inl z
            · exact .inr (.inl z)
            · by_cases he : c = j
              · obtain ⟨rfl, _⟩ := z
                subst he
                exact .inl hc
              · exact .inr (.inr ⟨z.1, by omega⟩)
          | none =>
            refine iteT ?_
            have hc : ¬ GT.cov cs1 i j := fun z => by
              have := (O.cov i j).mpr z
              rw [ev] at this; cases this
            generalize hH5 : upd H4 q (.tup [.int (i : Int), .int (j : Int)]) = H5 at *
            refine ⟨_, rfl, _, _, rfl, rfl, .inl ⟨by decide, by decide⟩, _, rfl, _, _, rfl, rfl, .inr ⟨by omega, by omega⟩, _, rfl, _, _, rfl, rfl, .inl ⟨by decide, by decide⟩, _, rfl, _, _, rfl, rfl, .inr ⟨by omega, by omega⟩, _, _, rfl, rfl, ?_⟩
            refine ⟨_, rfl, _, rfl, _, rfl, _, rfl, _, _, rfl, rfl, .inl ⟨by decide, by decide⟩, _, _, rfl, rfl, _, _, rfl, rfl, by show (0 : Int) < 20; decide, _, _, rfl, rfl, a, ns, (2 + (i + 3 * j) % 20), ?_, (s4.trans s5).seq hs, _, _, rfl, rfl, ?_⟩
            · have e3 : (2 : Int) + ((i : Int) + 3 * (j : Int)) % 20 = ((2 + (i + 3 * j) % 20 : Nat) : Int) := by omega
              show [V.ref a, V.int ((2 : Int) + ((i : Int) + 3 * (j : Int)) % 20)] = _
              rw [e3]
            have l5 := s5 _ _ l4
            refine ⟨_, rfl, .inl ⟨rfl, _, SqL.of l5⟩, _, rfl, _, rfl, _, rfl, _, rfl, fun v ws H6 s6 ow av => ⟨by show 5 ≤ sizeLine; decide, fun r hrn => ?_⟩⟩
            have s7 := Same.upd_new (o := .tup [.int (i : Int), .int (j : Int), .int 1, .int 1, v]) hrn
            generalize hH7 : upd H6 r (.tup [.int (i : Int), .int (j : Int), .int 1, .int 1, v]) = H7 at *
            have hr7 : H7 r = some (.tup [.int (i : Int), .int (j : Int), .int 1, .int 1, v]) := by rw [← hH7]; exact upd_same
            have s47 := (s5.trans s6).trans s7
            have l7 := s47 _ _ l4
            refine ⟨l, xs, .ref r, rfl, rfl, l7, small1000 (by have : 17 * i ≤ 17 * 17 := Nat.mul_le_mul_left _ (by omega); omega), ?_⟩
            obtain ⟨bb, wv, rfl, hbb, aw⟩ := av.tup_inv
            have t8 : SameT H7 (upd H7 l (.lst (xs ++ [.ref r]))) := SameT.put l7
            let X : Cell := ⟨i, j, 1, 1, ws⟩
            have fx : Fit R C X := ⟨Nat.le_refl _, Nat.le_refl _, by show i + 1 ≤ R; omega, by show j + 1 ≤ C; omega, ow⟩
            have inX : ∀ r' c', inC X r' c' ↔ r' = i ∧ c' = j := fun r' c' => by
              show (i ≤ r' ∧ r' < i + 1 ∧ j ≤ c' ∧ c' < j + 1) ↔ _
              omega
            have dx : ∀ r' c', inC X r' c' → ¬ GT.cov cs r' c' := fun r' c' hin hcv => by
              obtain ⟨rfl, rfl⟩ := (inX r' c').mp hin
              rcases (v4 r' c' hi hj).mp hcv with z | z | z
              · exact hc z
              · omega
              · omega
            have aX : At (upd H7 l (.lst (xs ++ [.ref r]))) X.D (.ref r) := Cell.at_mk (x := X) (t8 _ _ hr7) (t8 _ _ (s7 _ _ hbb)) ((aw.mono s7).monoT (fun d hd => by obtain ⟨w', _, rfl⟩ := List.mem_map.mp hd; exact .str w') t8)
            have ndl7 : d ≠ l := ne_of d4 l4 (by intro z; cases z)
            refine ⟨_, _, cs ++ [X], xs ++ [.ref r], rfl, fun b' o e => ?_, by rw [upd_ne ndl7]; exact s47 _ _ d4, upd_same, ?_, P4.snoc fx dx, by rw [List.length_append]; show _ + 1 ≤ _; omega, fun r' c' hr' hc' => ?_⟩
            · rw [upd_ne (ne_of_none e hl)]
              exact s47 _ _ (s4 _ _ e)
            · rw [List.map_append]
              exact Paired.snoc' ((a4.mono s47).monoT (cells_nol cs) t8) aX
            · rw [cov_snoc, v4 r' c' hr' hc', inX r' c']
              constructor
              · rintro ((z | z | z) | z)
                · exact .inl z
                · exact .inr (.inl z)
                · exact .inr (.inr ⟨z.1, by omega⟩)
                · exact .inr (.inr ⟨z.1, by omega⟩)
              · rintro (z | z | z)
                · exact .inl (.inl z)
                · exact .inl (.inr (.inl z))
                · by_cases he : c' = j
                  · exact .inr ⟨z.1, he⟩
                  · exact .inl (.inr (.inr ⟨z.1, by omega⟩))
        · intro σ H4 hI
          refine ex_4 hI fun c8 c9 cs xs hJ => ?_
          have eI := hJ.1
          have s4 := hJ.2.1
          have d4 := hJ.2.2.1
          have l4 := hJ.2.2.2.1
          have a4 := hJ.2.2.2.2.1
          have P4 := hJ.2.2.2.2.2.1
          have f4 := hJ.2.2.2.2.2.2.1
          have v4 := hJ.2.2.2.2.2.2.2
          clear hI hJ
          subst eI
          refine ⟨_, _, _, cs, xs, rfl, s4, d4, l4, a4, P4, by omega, fun r c hr' hc' => ?_⟩
          rw [v4 r c hr' hc']
          exact ⟨fun z => z.imp id fun z => by omega, fun z => z.imp id fun z => by omega⟩
      · intro σ H3 hI
        refine ex_5 hI fun c7 c8 c9 cs xs hJ => ?_
        have eI := hJ.1
        have s3 := hJ.2.1
        have d3 := hJ.2.2.1
        have l3 := hJ.2.2.2.1
        have a3 := hJ.2.2.2.2.1
        have P3 := hJ.2.2.2.2.2.1
        have f3 := hJ.2.2.2.2.2.2.1
        have v3 := hJ.2.2.2.2.2.2.2
        clear hI hJ
        subst eI
        -- sorted
        refine ⟨_, rfl, _, rfl, _, rfl, ?_⟩
        dsimp only [tNil]
        refine sorted_cells (K := K) l3 P3 (by omega) a3 fun r cs' xs' hrn pc ord at' => ?_
        refine ⟨by show 3 ≤ sizeLine; decide, fun q hq => ?_⟩
        have s4 := Same.upd_new (o := .lst xs') hrn
        have s5 := Same.upd_new (o := .tup [.int R, .int C, .ref r]) hq
        exact k _ cs' _ ((s3.trans s4).trans s5) (P3.tiles (fun r c hr' hc' => (v3 r c hr' hc').mpr (.inr hr')) pc ord) (tab_mk upd_same (s5 _ _ upd_same) (at'.mono s5))
end
end KL

set_option Elab.async false
set_option linter.all false
set_option autoImplicit false
set_option maxRecDepth 100000
namespace KL
open PySem L2 GT PyProof.Rows
section
variable {P : Program} {w : World} {K : PySem.W.Frag} {mg : Str → Option Value} {base : Heap}
theorem fin_size {Q : VK} {H : Hp} (q : ∀ n : Nat, 1 ≤ n → n ≤ 16 → Q (.int n) H) (x : Int) {m : Int} (h0 : 0 < m) (h1 : m ≤ 16) : Q (.int (1 + x % m)) H := by
  have a := Int.emod_nonneg x (by omega : m ≠ 0)
  have b := Int.emod_lt_of_pos x h0
  obtain ⟨n, en⟩ := Int.eq_ofNat_of_zero_le (by omega : 0 ≤ 1 + x % m)
  rw [en]
  exact q n (by omega) (by omega)
theorem sc__law_size : FnScope ["_law_script", "_law_k", "_law_most"] ["_law_script", "_law_k"] (defScope (top 27)) := ⟨rfl, rfl, rfl, by decide +kernel, rfl, by decide +kernel, by decide +kernel⟩
set_option maxHeartbeats 4000000 in
theorem ok__law_size (T : Txt mg) (c__law_cell : Cal P w K mg base 1 "_law_cell" ["_law_script", "_law_k"] (spCell K)) (c__law_large : Cal P w K mg base 2 "_law_large" ["_law_script"] (spLarge K)) (f : Addr) (fd : FuncData) (F : Fun K "_law_size" "_law_size" (top 27) f fd) : FnOk P w K mg base CX0 3 f fd ["_law_script", "_law_k"] (spSize K) := by
  refine F.ok sc__law_size (fun vs H Q E h => ?_) (fun cdv A outer s H vs Q E hr h => ?_)
  · obtain ⟨a, ns, k, rfl, _⟩ := h; rfl
  · obtain ⟨a, ns, k, rfl, hs, q⟩ := h
    have hr__law_cell : Room 1 (A.deeper (envOfC "_law_size" (defScope (top 27)) s.heap.objs.size f cdv)) := hr.mono (by decide)
    have hr__law_large : Room 2 (A.deeper (envOfC "_law_size" (defScope (top 27)) s.heap.objs.size f cdv)) := hr.mono (by decide)
    refine ⟨_, (pss_cons (ps_set (i := 2) sc__law_size.nd rfl (by first | exact Or.inl rfl | exact Or.inr rfl) pe_int)
      (pss_cons (ps_if (pt_val (pe_cal c__law_large hr__law_large rfl (pa_cons (pv 0) pa_nil))) (pss_one (ps_set (i := 2) sc__law_size.nd rfl (by first | exact Or.inl rfl | exact Or.inr rfl) pe_int)) pss_nil)
      (pss_cons (ps_if (pt_cmpR op_gt (pe_callB (call_lenK (K := K) rfl) (by rfl) T.len PySem.boot_len (pa_cons (pv 0) pa_nil)) pe_int (nomark _)) (pss_one (ps_set (i := 2) sc__law_size.nd rfl (by first | exact Or.inl rfl | exact Or.inr rfl) pe_int)) pss_nil)
      (pss_one (ps_ret (pe_op op_add pe_int (pe_op op_mod (pe_cal c__law_cell hr__law_cell rfl (pa_cons (pv 0) (pa_cons (pv 1) pa_nil))) (pv 2)))))))), ?_⟩
    refine ⟨_, rfl, a, ns, rfl, hs, fun b => ⟨b, rfl, ?_⟩⟩
    refine ite2 (fun _ => ?_) (fun _ => ?_)
    all_goals
      refine ⟨_, rfl, a, _, rfl, .inl hs, _, _, rfl, rfl, _, rfl, ?_⟩
      refine ite2 (fun _ => ?_) (fun _ => ?_)
    · exact ⟨_, rfl, _, rfl, a, ns, k, rfl, hs, _, rfl, _, _, rfl, rfl, by show (0 : Int) < 16; decide, _, _, rfl, rfl, fin_size q _ (by decide) (by decide)⟩
    · exact ⟨_, rfl, _, rfl, a, ns, k, rfl, hs, _, rfl, _, _, rfl, rfl, by show (0 : Int) < 9; decide, _, _, rfl, rfl, fin_size q _ (by decide) (by decide)⟩
    · exact ⟨_, rfl, _, rfl, a, ns, k, rfl, hs, _, rfl, _, _, rfl, rfl, by show (0 : Int) < 16; decide, _, _, rfl, rfl, fin_size q _ (by decide) (by decide)⟩
    · exact ⟨_, rfl, _, rfl, a, ns, k, rfl, hs, _, rfl, _, _, rfl, rfl, by show (0 : Int) < 5; decide, _, _, rfl, rfl, fin_size q _ (by decide) (by decide)⟩

theorem sc__law_made : FnScope ["_law_script", "_law_way", "_law_tall"] ["_law_script"] (defScope (top 28)) := ⟨rfl, rfl, rfl, by decide +kernel, rfl, by decide +kernel, by decide +kernel⟩
set_option maxHeartbeats 4000000 in
theorem ok__law_made (T : Txt mg) (c__law_cell : Cal P w K mg base 1 "_law_cell" ["_law_script", "_law_k"] (spCell K)) (c__law_table : Cal P w K mg base 4 "_law_table" ["_law_script", "_law_rows", "_law_columns"] (spTable K)) (c__law_size : Cal P w K mg base 3 "_law_size" ["_law_script", "_law_k"] (spSize K)) (f : Addr) (fd : FuncData) (F : Fun K "_law_made" "_law_made" (top 28) f fd) : FnOk P w K mg base CX0 5 f fd ["_law_script"] (spMade K) := by
  refine F.ok sc__law_made (fun vs H Q E h => ?_) (fun cdv A outer s H vs Q E hr h => ?_)
  · obtain ⟨a, ns, rfl, _⟩ := h; rfl
  · obtain ⟨a, ns, rfl, hs, hlen, q⟩ := h
    have hr__law_cell : Room 1 (A.deeper (envOfC "_law_made" (defScope (top 28)) s.heap.objs.size f cdv)) := hr.mono (by decide)
    have hr__law_table : Room 4 (A.deeper (envOfC "_law_made" (defScope (top 28)) s.heap.objs.size f cdv)) := hr.mono (by decide)
    have hr__law_size : Room 3 (A.deeper (envOfC "_law_made" (defScope (top 28)) s.heap.objs.size f cdv)) := hr.mono (by decide)
    obtain ⟨R, eR, R1, R2⟩ : ∃ R : Nat, 1 + ns.getD 0 0 / 40 % 16 = (R : Int) ∧ 1 ≤ R ∧ R ≤ 16 := ⟨(1 + ns.getD 0 0 / 40 % 16).toNat, by omega, by omega, by omega⟩
    obtain ⟨C, eC, C1, C2⟩ : ∃ C : Nat, 1 + ns.getD 1 0 % 3 = (C : Int) ∧ 1 ≤ C ∧ C ≤ 3 := ⟨(1 + ns.getD 1 0 % 3).toNat, by omega, by omega, by omega⟩
    refine ⟨_, (pss_cons (ps_set (i := 1) sc__law_made.nd rfl (by first | exact Or.inl rfl | exact Or.inr rfl) (pe_op op_mod (pe_op op_fdiv (pe_cal c__law_cell hr__law_cell rfl (pa_cons (pv 0) (pa_cons pe_int pa_nil))) pe_int) pe_int))
      (pss_cons (ps_set (i := 2) sc__law_made.nd rfl (by first | exact Or.inl rfl | exact Or.inr rfl) (pe_op op_add pe_int (pe_op op_mod (pe_op op_fdiv (pe_cal c__law_cell hr__law_cell rfl (pa_cons (pv 0) (pa_cons pe_int pa_nil))) pe_int) pe_int)))
      (pss_cons (ps_if (pt_cmpR op_eq (pv 1) pe_int (nomark _)) (pss_one (ps_ret (pe_cal c__law_table hr__law_table rfl (pa_cons (pv 0) (pa_cons (pv 2) (pa_cons (pe_op op_add pe_int (pe_op op_mod (pe_cal c__law_cell hr__law_cell rfl (pa_cons (pv 0) (pa_cons pe_int pa_nil))) pe_int)) pa_nil)))))) pss_nil)
      (pss_cons (ps_if (pt_cmpR op_eq (pv 1) pe_int (nomark _)) (pss_one (ps_ret (pe_cal c__law_table hr__law_table rfl (pa_cons (pv 0) (pa_cons (pe_op op_add pe_int (pe_op op_mod (pe_cal c__law_cell hr__law_cell rfl (pa_cons (pv 0) (pa_cons pe_int pa_nil))) pe_int)) (pa_cons (pv 2) pa_nil)))))) pss_nil)
      (pss_one (ps_ret (pe_cal c__law_table hr__law_table rfl (pa_cons (pv 0) (pa_cons (pe_cal c__law_size hr__law_size rfl (pa_cons (pv 0) (pa_cons pe_int pa_nil))) (pa_cons (pe_cal c__law_size hr__law_size rfl (pa_cons (pv 0) (pa_cons pe_int pa_nil))) pa_nil)))))))))), ?_⟩
    refine ⟨_, rfl, a, ns, 0, rfl, hs, _, _, rfl, rfl, ⟨by decide, by decide⟩, _, _, rfl, rfl, by show (0 : Int) < 8; decide, ?_⟩
    refine ⟨_, rfl, a, ns, 0, rfl, hs, _, _, rfl, rfl, ⟨by decide, by decide⟩, _, _, rfl, rfl, by show (0 : Int) < 16; decide, _, _, rfl, rfl, ?_⟩
    refine ⟨_, rfl, rfl, _, rfl, ?_⟩
    refine ite2 (fun _ => ?_) (fun _ => ?_)
    · refine ⟨_, rfl, _, rfl, _, rfl, a, ns, 1, rfl, hs, _, _, rfl, rfl, by show (0 : Int) < 3; decide, _, _, rfl, rfl, a, ns, R, C, ?_, hs, by omega, R1, by omega, C1, by omega, fun v cs H' s' t a' => q v R C cs H' s' R1 R2 C1 (by omega) t a'⟩
      show [V.ref a, V.int (1 + ns.getD 0 0 / 40 % 16), V.int (1 + ns.getD 1 0 % 3)] = _
      rw [eR, eC]
    refine ⟨_, rfl, rfl, _, rfl, ?_⟩
    refine ite2 (fun _ => ?_) (fun _ => ?_)
    · refine ⟨_, rfl, _, rfl, a, ns, 1, rfl, hs, _, _, rfl, rfl, by show (0 : Int) < 3; decide, _, _, rfl, rfl, _, rfl, a, ns, C, R, ?_, hs, by omega, C1, by omega, R1, by omega, fun v cs H' s' t a' => q v C R cs H' s' C1 (by omega) R1 R2 t a'⟩
      show [V.ref a, V.int (1 + ns.getD 1 0 % 3), V.int (1 + ns.getD 0 0 / 40 % 16)] = _
      rw [eR, eC]
    exact ⟨_, rfl, _, rfl, a, ns, 0, rfl, hs, fun R R1 R2 => ⟨_, rfl, a, ns, 1, rfl, hs, fun C C1 C2 => ⟨a, ns, R, C, rfl, hs, by omega, R1, by omega, C1, by omega, fun v cs H' s' t a' => q v R C cs H' s' R1 R2 C1 C2 t a'⟩⟩⟩

theorem sc__law_copy : FnScope ["_law_table_here"] ["_law_table_here"] (defScope (top 29)) := ⟨rfl, rfl, rfl, by decide +kernel, rfl, by decide +kernel, by decide +kernel⟩
set_option maxHeartbeats 4000000 in
theorem ok__law_copy (T : Txt mg) (f : Addr) (fd : FuncData) (F : Fun K "_law_copy" "_law_copy" (top 29) f fd) : FnOk P w K mg base CX0 1 f fd ["_law_table_here"] spCopy := by
  refine F.ok sc__law_copy (fun vs H Q E h => ?_) (fun cdv A outer s H vs Q E hr h => ?_)
  · obtain ⟨v, R, C, cs, rfl, _⟩ := h; rfl
  · obtain ⟨v, R, C, cs, rfl, ht, k⟩ := h
    obtain ⟨a, l, ys, rfl, ha, hl, ry⟩ := tab_inv ht
    refine ⟨_, (pss_one (ps_ret (pe_tup (pa_cons (pe_ix (ix_tupK (K := K) rfl) (pv 0) pe_int (fun _ _ => rfl)) (pa_cons (pe_ix (ix_tupK (K := K) rfl) (pv 0) pe_int (fun _ _ => rfl)) (pa_cons (pe_callTy (call_listK (K := K) rfl) (by rfl) T.list PyProof.Rows.boot_list (pa_cons (pe_ix (ix_tupK (K := K) rfl) (pv 0) pe_int (fun _ _ => rfl)) pa_nil)) pa_nil)))))), ?_⟩
    refine ⟨_, rfl, a, _, (0 : Int), _, rfl, rfl, SqT.of ha, rfl, _, rfl, a, _, (1 : Int), _, rfl, rfl, SqT.of ha, rfl, _, rfl, a, _, (2 : Int), _, rfl, rfl, SqT.of ha, rfl, l, ys, rfl, .inl (SqL.of hl), fun n hn => ⟨by show 3 ≤ sizeLine; decide, fun p hp => ?_⟩⟩
    have s1 := Same.upd_new (o := .lst ys) hn
    have s2 := Same.upd_new (o := .tup [.int R, .int C, .ref n]) hp
    exact k _ _ (s1.trans s2) (tab_mk upd_same (s2 _ _ upd_same) ((ry.mono s1).mono s2))
end
end KL

set_option Elab.async false
set_option linter.all false
set_option autoImplicit false
set_option maxRecDepth 100000
namespace KL
open PySem L2 GT PyProof.Rows
/-! ### BadTable -/
noncomputable abbrev stI_BadTable : Stmt := (clsBody (top 2)).getD 0 (.Pass ⟨0, 0, 0, 0⟩)
theorem sc_iBadTable : FnScope ["self", "at"] ["self", "at"] (defScope stI_BadTable) := ⟨rfl, rfl, rfl, by decide +kernel, rfl, by decide +kernel, by decide +kernel⟩
set_option maxHeartbeats 4000000 in
theorem j_BadTable {P : Program} {w : World} {K : PySem.W.Frag} {mg : Str → Option Value} {base : Heap} {C : Addr} (X : K.In base) (G : base.Ns mainGlobals mg) (J : JX K "BadTable" "BadTable.__init__" stI_BadTable C) : ExcJ P w K mg base "BadTable" C := by
  obtain ⟨fI, fd, e, q, F⟩ := J.ex
  obtain ⟨Cg, g0, g1, g2, g3⟩ := J.g
  have O := ownI_mk X G e q
  refine ⟨⟨fI, fd, ["self", "at"], O, ?_, F.binds (fun _ _ _ _ _ _ => two_vals fun _ _ => rfl)⟩, PySem.W.mg_of X G e, J.k, J.n, J.m⟩
  refine F.ok sc_iBadTable (fun vs H Q E h => ?_) (fun cdv A outer s H vs Q E hr h => ?_)
  · obtain ⟨e1, y, rfl, _⟩ := h; rfl
  · obtain ⟨e1, y, rfl, hy, hH, qn⟩ := h
    refine ⟨_, pss_cons (ps_expr (pe_baseInit (call_bexc PySem.F.excBase_ValueError O) rfl (PySem.W.mg_of X G g0) g1 g2 g3 rfl (pa_cons (pv 0) (pa_cons (pe_fstr1 (pv 1)) pa_nil)))) (pss_one (ps_setExc J.k J.n (pv 0) (pv 1))), ?_⟩
    exact ⟨_, rfl, _, rfl, hy, fun x => ⟨_, x, rfl, hH, _, rfl, _, rfl, _, rfl, hH, qn⟩⟩
/-! ### checked, of anything -/
theorem cellw_inv {H : Hp} {x : Cell} {v : V} (h : At H x.D v) : ∃ b wb, v = .ref b ∧ H b = some (.tup [.int x.top, .int x.left, .int x.h, .int x.w, .ref wb]) ∧ H wb = some (.tup (x.words.map V.str)) := by
  obtain ⟨b, wb, ws, rfl, hb, hwb, aws⟩ := Cell.at_inv h
  rw [strs_eq aws] at hwb
  exact ⟨b, wb, rfl, hb, hwb⟩
theorem cellw_get {H : Hp} {cs : List Cell} {ys : List V} {i : Nat} {v : V} (r : AtL H (cs.map Cell.D) ys) (h : ys[i]? = some v) : ∃ x, cs[i]? = some x ∧ At H x.D v := by
  obtain ⟨d, hd, ad⟩ := Paired.get2 r h
  rw [List.getElem?_map] at hd
  obtain ⟨s, hs, rfl⟩ := Option.map_eq_some_iff.mp hd
  exact ⟨s, hs, ad⟩
theorem few300 {R C : Nat} {cs : List Cell} (p : Part R C cs) (hR : R ≤ 16) (hC : C ≤ 16) : cs.length ≤ 300 := by
  have h1 := p.few
  have h2 : R * C ≤ 16 * 16 := Nat.mul_le_mul hR hC
  omega
theorem small200 {n : Nat} (h : n ≤ 1000) : n ≤ sizeLine := Nat.le_of_lt (small1000 h)
noncomputable def Told (H : Hp) (CX : Addr) (i : Nat) (E : XK) : Prop := ∀ (dx : Addr) (H' : Hp), Same H H' → H' dx = some (.xd [("at", .int (i : Int))]) → E (.ref CX) (some dx) H'
noncomputable def ToldN (H : Hp) (CX : Addr) (E : XK) : Prop := ∀ (dx : Addr) (H' : Hp), Same H H' → H' dx = some (.xd [("at", .non)]) → E (.ref CX) (some dx) H'
noncomputable def spG (f : Thg → Bool) : Sp := fun vs H Q _ => ∃ (v : V) (g : Thg), vs = [v] ∧ AtG H g v ∧ ∀ H', Same H H' → Q (.bl (f g)) H'
noncomputable def spSticks : Sp := fun vs H Q _ => ∃ (v : V) (x : Cell) (R C : Nat), vs = [v, .int R, .int C] ∧ At H x.D v ∧ Q (.bl (decide (R < x.top + x.h ∨ C < x.left + x.w))) H
noncomputable def spFirst : Sp := fun vs H Q _ => ∃ (v : V) (x : Cell), vs = [v] ∧ At H x.D v ∧ ∀ t H', Same H H' → H' t = some (.tup [.int x.top, .int x.left]) → Q (.ref t) H'
theorem rall2 {K : PySem.W.Frag} {H : Hp} {a : Addr} {bs : List Bool} {Q : VK} (h : H a = some (.lst (bs.map V.bl))) (q : Q (.bl (bs.all id)) H) : rAll K [.ref a] H Q := ⟨a, bs, rfl, SqL.of h, q⟩
theorem len_ne {n : Nat} {k : Int} (z : (!decide (V.int (n : Int) = V.int k)) = true) : (n : Int) ≠ k := fun e => by rw [e] at z; simp at z
theorem len_eq {n : Nat} {k : Int} (z : ¬ (!decide (V.int (n : Int) = V.int k)) = true) : (n : Int) = k := Classical.byContradiction fun e => z (by
  rw [decide_eq_false (fun y => e (by injection y))]
  rfl)
theorem three_of {α : Type} {l : List α} (h : l.length = 3) : ∃ a b c, l = [a, b, c] := by
  match l, h with
  | [a, b, c], _ => exact ⟨a, b, c, rfl⟩
theorem five_of {α : Type} {l : List α} (h : l.length = 5) : ∃ a b c d e, l = [a, b, c, d, e] := by
  match l, h with
  | [a, b, c, d, e], _ => exact ⟨a, b, c, d, e, rfl⟩
theorem frame_len {ds : List Thg} (h : ds.length ≠ 3) : isFrameG (.tup ds) = false := by
  unfold isFrameG
  split
  · rename_i heq
    injection heq with heq
    subst heq
    exact absurd rfl h
  · rfl
theorem cell_len {ds : List Thg} (h : ds.length ≠ 5) : isCellG (.tup ds) = false := by
  unfold isCellG
  split
  · rename_i heq
    injection heq with heq
    subst heq
    exact absurd rfl h
  · rfl
section
variable {P : Program} {w : World} {K : PySem.W.Frag} {mg : Str → Option Value} {base : Heap}
theorem sc_is_number : FnScope ["thing"] ["thing"] (defScope (top 11)) := ⟨rfl, rfl, rfl, by decide +kernel, rfl, by decide +kernel, by decide +kernel⟩
set_option maxHeartbeats 4000000 in
theorem ok_is_number (T : Txt mg) (f : Addr) (fd : FuncData) (F : Fun K "is_number" "is_number" (top 11) f fd) : FnOk P w K mg base CX0 1 f fd ["thing"] (spG isNumG) := by
  refine F.ok sc_is_number (fun vs H Q E h => ?_) (fun cdv A outer s H vs Q E hr h => ?_)
  · obtain ⟨v, g, rfl, _⟩ := h; rfl
  · obtain ⟨v, g, rfl, ag, q⟩ := h
    refine ⟨_, (pss_one (ps_ret (pe_and (pe_callB (call_isinst (K := K) rfl) (by rfl) T.isinstance PyProof.Rows.boot_isinstance (pa_cons (pv 0) (pa_cons (pe_bltn (v := .ty "int") rfl T.int PyProof.Rows.boot_int rfl) pa_nil))) (pe_one (pe_not (pe_callB (call_isinst (K := K) rfl) (by rfl) T.isinstance PyProof.Rows.boot_isinstance (pa_cons (pv 0) (pa_cons (pe_bltn (v := .ty "bool") rfl T.bool PyProof.Rows.boot_bool rfl) pa_nil)))))))), ?_⟩
    refine ⟨_, rfl, _, "int", _, isInt g, rfl, ag.ty, kit_int g, isInt g, rfl, ?_⟩
    have q0 := q H fun _ _ z => z
    cases g with
    | int i => exact iteT ⟨_, rfl, _, "bool", _, isBl (.int i), rfl, ag.ty, kit_bl _, _, rfl, q0⟩
    | bl b => exact iteT ⟨_, rfl, _, "bool", _, isBl (.bl b), rfl, ag.ty, kit_bl _, _, rfl, q0⟩
    | _ => exact iteF q0

theorem sc_is_side : FnScope ["thing"] ["thing"] (defScope (top 10)) := ⟨rfl, rfl, rfl, by decide +kernel, rfl, by decide +kernel, by decide +kernel⟩
set_option maxHeartbeats 4000000 in
theorem ok_is_side (k_LONGEST_SIDE : ∃ t, mg "LONGEST_SIDE" = some (.int 16 t)) (c_is_number : Cal P w K mg base 1 "is_number" ["thing"] (spG isNumG)) (f : Addr) (fd : FuncData) (F : Fun K "is_side" "is_side" (top 10) f fd) : FnOk P w K mg base CX0 2 f fd ["thing"] (spG isSideG) := by
  refine F.ok sc_is_side (fun vs H Q E h => ?_) (fun cdv A outer s H vs Q E hr h => ?_)
  · obtain ⟨v, g, rfl, _⟩ := h; rfl
  · obtain ⟨v, g, rfl, ag, q⟩ := h
    obtain ⟨t_LONGEST_SIDE, m_LONGEST_SIDE⟩ := k_LONGEST_SIDE
    have hr_is_number : Room 1 (A.deeper (envOfC "is_side" (defScope (top 10)) s.heap.objs.size f cdv)) := hr.mono (by decide)
    refine ⟨_, (pss_one (ps_ret (pe_and (pe_cal c_is_number hr_is_number rfl (pa_cons (pv 0) pa_nil)) (pe_one (pe_chain op_le op_le pe_int (pv 0) (pe_glob (v := .int 16) rfl m_LONGEST_SIDE ⟨_, rfl⟩)))))), ?_⟩
    refine ⟨_, rfl, v, g, rfl, ag, fun H1 s1 => ?_⟩
    have q1 := q H1 s1
    cases g with
    | int i =>
      obtain rfl := ag.int_inv
      refine ⟨true, rfl, iteT ?_⟩
      refine ⟨_, rfl, _, _, rfl, rfl, _, rfl, ite2 (fun z => ?_) (fun z => ?_)⟩
      · refine ⟨_, _, rfl, rfl, ?_⟩
        dsimp only
        have q1 : Q (.bl (decide (1 ≤ i) && decide (i ≤ 16))) H1 := q1
        rw [z, Bool.true_and] at q1
        exact q1
      · have q1 : Q (.bl (decide (1 ≤ i) && decide (i ≤ 16))) H1 := q1
        rw [eq_false_of_ne_true z, Bool.false_and] at q1
        exact q1
    | _ => exact ⟨false, rfl, iteF q1⟩

theorem sc_has_frame : FnScope ["thing"] ["thing"] (defScope (top 9)) := ⟨rfl, rfl, rfl, by decide +kernel, rfl, by decide +kernel, by decide +kernel⟩
set_option maxHeartbeats 4000000 in
theorem ok_has_frame (T : Txt mg) (c_is_side : Cal P w K mg base 2 "is_side" ["thing"] (spG isSideG)) (f : Addr) (fd : FuncData) (F : Fun K "has_frame" "has_frame" (top 9) f fd) : FnOk P w K mg base CX0 3 f fd ["thing"] (spG isFrameG) := by
  refine F.ok sc_has_frame (fun vs H Q E h => ?_) (fun cdv A outer s H vs Q E hr h => ?_)
  · obtain ⟨v, g, rfl, _⟩ := h; rfl
  · obtain ⟨v, g, rfl, ag, q⟩ := h
    have hr_is_side : Room 2 (A.deeper (envOfC "has_frame" (defScope (top 9)) s.heap.objs.size f cdv)) := hr.mono (by decide)
    refine ⟨_, (pss_cons (ps_if (PW.pt (pw_or (pt_not (pt_val (pe_callB (call_isinst (K := K) rfl) (by rfl) T.isinstance PyProof.Rows.boot_isinstance (pa_cons (pv 0) (pa_cons (pe_bltn (v := .ty "tuple") rfl T.tuple PyProof.Rows.boot_tuple rfl) pa_nil))))) (pw_or1 (pt_cmpR op_ne (pe_callB (call_lenK (K := K) rfl) (by rfl) T.len PySem.boot_len (pa_cons (pv 0) pa_nil)) pe_int (nomark _))))) (pss_one (ps_ret pe_bl)) pss_nil)
      (pss_one (ps_ret (pe_and (pe_cal c_is_side hr_is_side rfl (pa_cons (pe_ix (ix_tupK (K := K) rfl) (pv 0) pe_int (fun _ _ => rfl)) pa_nil)) (pe_and (pe_cal c_is_side hr_is_side rfl (pa_cons (pe_ix (ix_tupK (K := K) rfl) (pv 0) pe_int (fun _ _ => rfl)) pa_nil)) (pe_one (pe_callB (call_isinst (K := K) rfl) (by rfl) T.isinstance PyProof.Rows.boot_isinstance (pa_cons (pe_ix (ix_tupK (K := K) rfl) (pv 0) pe_int (fun _ _ => rfl)) (pa_cons (pe_bltn (v := .ty "list") rfl T.list PyProof.Rows.boot_list rfl) pa_nil))))))))), ?_⟩
    refine ⟨_, rfl, _, "tuple", _, isTup g, rfl, ag.ty, kit_tup g, isTup g, rfl, ?_⟩
    cases g with
    | tup ds =>
      obtain ⟨p, xs, rfl, hp, rx⟩ := ag.tup_inv
      refine iteF ?_
      have lx := rx.length
      refine ⟨_, rfl, p, _, rfl, .inr (SqT.of hp), rfl, _, rfl, ite2 (fun z => ?_) (fun z => ?_)⟩
      · have z := len_ne z
        have q0 := q H fun _ _ z => z
        rw [frame_len (by omega)] at q0
        exact q0
      · have z := len_eq z
        obtain ⟨a, b, c, rfl⟩ := three_of (l := ds) (by omega)
        cases rx with
        | cons r1 rx =>
        cases rx with
        | cons r2 rx =>
        cases rx with
        | cons r3 rx =>
        cases rx
        refine ⟨_, rfl, p, _, (0 : Int), _, rfl, rfl, SqT.of hp, rfl, _, a, rfl, r1, fun H1 s1 => ?_⟩
        cases e1 : isSideG a with
        | false =>
          have q1 := q H1 s1
          have no : isFrameG (.tup [a, b, c]) = false := by
            cases c <;> first | rfl | (show (isSideG a && isSideG b) = false; rw [e1]; rfl)
          rw [no] at q1
          exact ⟨false, rfl, iteF q1⟩
        | true =>
          refine ⟨true, rfl, iteT ?_⟩
          refine ⟨_, rfl, p, _, (1 : Int), _, rfl, rfl, SqT.of (s1 _ _ hp), rfl, _, b, rfl, r2.mono s1, fun H2 s2 => ?_⟩
          have s12 := s1.trans s2
          have q2 := q H2 s12
          cases e2 : isSideG b with
          | false =>
            have no : isFrameG (.tup [a, b, c]) = false := by
              cases c <;> first | rfl | (show (isSideG a && isSideG b) = false; rw [e1, e2]; rfl)
            rw [no] at q2
            exact ⟨false, rfl, iteF q2⟩
          | true =>
            refine ⟨true, rfl, iteT ?_⟩
            refine ⟨_, rfl, p, _, (2 : Int), _, rfl, rfl, SqT.of (s12 _ _ hp), rfl, _, "list", _, isLst c, rfl, (r3.mono s12).ty, kit_lst c, ?_⟩
            have yes : isFrameG (.tup [a, b, c]) = isLst c := by
              cases c <;> first | rfl | (show (isSideG a && isSideG b) = true; rw [e1, e2]; rfl)
            rw [yes] at q2
            exact q2
    | _ => exact iteT (iteT (q H fun _ _ z => z))
end
section
variable {P : Program} {w : World} {K : PySem.W.Frag} {mg : Str → Option Value} {base : Heap}
theorem nd_isw : (["sign"] : List Str).Nodup := by decide +kernel
noncomputable abbrev iswScope : Scope := scopeOf (argOf (exprOf (nth (defBody (top 14)) 1)) 0)
theorem sc_is_word : FnScope ["thing"] ["thing"] (defScope (top 14)) := ⟨rfl, rfl, rfl, by decide +kernel, rfl, by decide +kernel, by decide +kernel⟩
set_option maxHeartbeats 4000000 in
theorem ok_is_word (T : Txt mg) (k_LONGEST_WORD : ∃ t, mg "LONGEST_WORD" = some (.int 12 t)) (k_SIGNS : ∃ t, mg "SIGNS" = some (.str (Str.ofString "abcdefghijklmnopqrstuvwxyz0123456789") t)) (f : Addr) (fd : FuncData) (F : Fun K "is_word" "is_word" (top 14) f fd) : FnOk P w K mg base CX0 1 f fd ["thing"] (spG isWordG) := by
  refine F.ok sc_is_word (fun vs H Q E h => ?_) (fun cdv A outer s H vs Q E hr h => ?_)
  · obtain ⟨v, g, rfl, _⟩ := h; rfl
  · obtain ⟨v, g, rfl, ag, q⟩ := h
    obtain ⟨t_LONGEST_WORD, m_LONGEST_WORD⟩ := k_LONGEST_WORD
    obtain ⟨t_SIGNS, m_SIGNS⟩ := k_SIGNS
    have co_isw : ∀ {X : Cx}, CompOk X iswScope (clOf X.env.cells iswScope.names []) ["sign"] [none] := compOk_shut rfl (by decide +kernel) (by decide +kernel) (by decide +kernel) rfl (by
        intro i hi x j e1 e2
        match i, hi, e1, e2 with
        | 0, _, e1, e2 => cases e2)
    refine ⟨_, (pss_cons (ps_if (PW.pt (pw_or (pt_not (pt_val (pe_callB (call_isinst (K := K) rfl) (by rfl) T.isinstance PyProof.Rows.boot_isinstance (pa_cons (pv 0) (pa_cons (pe_bltn (v := .ty "str") rfl T.str PyProof.Rows.boot_str rfl) pa_nil))))) (pw_or1 (pt_not (pt_chain op_le op_le pe_int (pe_callB (call_len_strK (K := K) rfl) (by rfl) T.len PySem.boot_len (pa_cons (pv 0) pa_nil)) (pe_glob (v := .int 12) rfl m_LONGEST_WORD ⟨_, rfl⟩)))))) (pss_one (ps_ret pe_bl)) pss_nil)
      (pss_one (ps_ret (pe_callB (call_all (K := K) rfl rfl) (by rfl) T.all PyProof.Rows.boot_all (pa_cons (pe_comp co_isw rfl (pi_strK (K := K) rfl (pv 0)) (fun _ _ _ _ => (pg_name (i := 0) nd_isw rfl (by first | exact Or.inl rfl | exact Or.inr rfl) (Or.inr rfl))) (fun _ _ _ _ => pif_nil) (fun _ _ _ _ => (pe_cmpR op_in_str (pv 0) (pe_glob (v := .str (Str.ofString "abcdefghijklmnopqrstuvwxyz0123456789")) rfl m_SIGNS ⟨_, rfl⟩) (by with_unfolding_all rfl)))) pa_nil))))), ?_⟩
    generalize hsg : Str.ofString "abcdefghijklmnopqrstuvwxyz0123456789" = sg
    have esg : sg = GT.signs := hsg.symm
    refine ⟨_, rfl, _, "str", _, isStr g, rfl, ag.ty, kit_str g, isStr g, rfl, ?_⟩
    cases g with
    | str x =>
      obtain ⟨rfl, hx⟩ := ag.str_inv
      refine iteF ?_
      have q0 : ∀ H', Same H H' → Q (.bl (decide (1 ≤ x.length) && decide (x.length ≤ 12) && x.cps.toList.all inSg)) H' := q
      refine ⟨_, rfl, x, rfl, small200 (by omega), _, _, rfl, rfl, _, rfl, ite2 (fun z1 => ?_) (fun z1 => ?_)⟩
      · have z1 := of_decide_eq_true z1
        refine ⟨_, _, rfl, rfl, _, rfl, ite2 (fun z2 => ?_) (fun z2 => ?_)⟩
        · have q0 := q0 H fun _ _ z => z
          rw [Bool.not_eq_true'] at z2
          have z2 : ¬ x.length ≤ 12 := fun y => of_decide_eq_false z2 (by omega)
          rw [decide_eq_false z2, Bool.and_false, Bool.false_and] at q0
          exact q0
        · have z2 : x.length ≤ 12 := by
            have : ¬ (!decide ((x.length : Int) ≤ 12)) = true := z2
            rw [Bool.not_eq_true', Bool.not_eq_false, decide_eq_true_eq] at this
            omega
          refine ⟨_, rfl, x, rfl, fun acc hacc => ?_⟩
          refine comp_str (x := x) (fun j σ1 H2 => ∃ (c1 : Option V), σ1 = [c1] ∧ Same H H2 ∧ j ≤ 12 ∧ H2 acc = some (.lst (((x.cps.toList.take j).map inSg).map V.bl)))
            ⟨none, rfl, Same.upd_new hacc, Nat.zero_le _, upd_same⟩ ?_ ?_
          · intro j c σ1 H2 hj hI
            refine ex_1 hI fun c1 hJ => ?_
            have eI := hJ.1
            have s2 := hJ.2.1
            have j2 := hJ.2.2.1
            have h2 := hJ.2.2.2
            clear hI hJ
            subst eI
            have hjl : j < x.length := (Array.getElem?_eq_some_iff.mp hj).1
            have hjc : x.cps.toList[j]? = some c := by rw [Array.getElem?_toList]; exact hj
            dsimp only [gName]
            rw [if_pos rfl]
            refine ⟨_, rfl, _, sg, rfl, rfl, ?_⟩
            rw [esg]
            refine ⟨_, h2, small1000 (by rw [List.length_map, List.length_map, List.length_take]; omega), _, rfl, fun b o e => ?_, by omega, ?_⟩
            · rw [upd_ne (ne_of_none e hacc)]
              exact s2 _ _ e
            · rw [upd_same, List.take_add_one, hjc, List.map_append, List.map_append]
              rfl
          intro σ1 H2 hI
          refine ex_1 hI fun c1 hJ => ?_
          have s2 := hJ.2.1
          have h2 := hJ.2.2.2
          have h2 : H2 acc = some (.lst ((x.cps.toList.map inSg).map V.bl)) := by
            rw [h2]
            congr 4
            exact List.take_of_length_le (by show x.cps.toList.length ≤ x.cps.size; rw [Array.length_toList]; exact Nat.le_refl _)
          have q2 := q0 H2 s2
          rw [decide_eq_true (by omega : 1 ≤ x.length), decide_eq_true z2, Bool.true_and, Bool.true_and] at q2
          refine rall2 h2 ?_
          have e : (x.cps.toList.map inSg).all id = x.cps.toList.all inSg := by rw [List.all_map]; rfl
          rw [e]
          exact q2
      · have z1 : ¬ 1 ≤ x.length := fun y => z1 (decide_eq_true (by omega))
        have q0 := q0 H fun _ _ z => z
        rw [decide_eq_false z1, Bool.false_and, Bool.false_and] at q0
        exact ⟨false, rfl, iteT q0⟩
    | _ => exact iteT (iteT (q H fun _ _ z => z))

theorem nd_arw : (["part"] : List Str).Nodup := by decide +kernel
noncomputable abbrev arwScope : Scope := scopeOf (argOf (exprOf (nth (defBody (top 13)) 1)) 0)
theorem sc_are_words : FnScope ["thing"] ["thing"] (defScope (top 13)) := ⟨rfl, rfl, rfl, by decide +kernel, rfl, by decide +kernel, by decide +kernel⟩
set_option maxHeartbeats 4000000 in
theorem ok_are_words (T : Txt mg) (k_MOST_WORDS : ∃ t, mg "MOST_WORDS" = some (.int 12 t)) (c_is_word : Cal P w K mg base 1 "is_word" ["thing"] (spG isWordG)) (f : Addr) (fd : FuncData) (F : Fun K "are_words" "are_words" (top 13) f fd) : FnOk P w K mg base CX0 2 f fd ["thing"] (spG areWordsG) := by
  refine F.ok sc_are_words (fun vs H Q E h => ?_) (fun cdv A outer s H vs Q E hr h => ?_)
  · obtain ⟨v, g, rfl, _⟩ := h; rfl
  · obtain ⟨v, g, rfl, ag, q⟩ := h
    obtain ⟨t_MOST_WORDS, m_MOST_WORDS⟩ := k_MOST_WORDS
    have hr_is_word : Room 1 (A.deeper (envOfC "are_words" (defScope (top 13)) s.heap.objs.size f cdv)) := hr.mono (by decide)
    have co_arw : ∀ {X : Cx}, CompOk X arwScope (clOf X.env.cells arwScope.names []) ["part"] [none] := compOk_shut rfl (by decide +kernel) (by decide +kernel) (by decide +kernel) rfl (by
        intro i hi x j e1 e2
        match i, hi, e1, e2 with
        | 0, _, e1, e2 => cases e2)
    refine ⟨_, (pss_cons (ps_if (PW.pt (pw_or (pt_not (pt_val (pe_callB (call_isinst (K := K) rfl) (by rfl) T.isinstance PyProof.Rows.boot_isinstance (pa_cons (pv 0) (pa_cons (pe_bltn (v := .ty "tuple") rfl T.tuple PyProof.Rows.boot_tuple rfl) pa_nil))))) (pw_or1 (pt_cmpR op_gt (pe_callB (call_lenK (K := K) rfl) (by rfl) T.len PySem.boot_len (pa_cons (pv 0) pa_nil)) (pe_glob (v := .int 12) rfl m_MOST_WORDS ⟨_, rfl⟩) (nomark _))))) (pss_one (ps_ret pe_bl)) pss_nil)
      (pss_one (ps_ret (pe_callB (call_all (K := K) rfl rfl) (by rfl) T.all PyProof.Rows.boot_all (pa_cons (pe_comp co_arw rfl (pi_tupK (K := K) rfl (pv 0)) (fun _ _ _ _ => (pg_name (i := 0) nd_arw rfl (by first | exact Or.inl rfl | exact Or.inr rfl) (Or.inr rfl))) (fun _ _ _ _ => pif_nil) (fun _ _ _ _ => (pe_cal c_is_word hr_is_word rfl (pa_cons (pv 0) pa_nil)))) pa_nil))))), ?_⟩
    refine ⟨_, rfl, _, "tuple", _, isTup g, rfl, ag.ty, kit_tup g, isTup g, rfl, ?_⟩
    cases g with
    | tup ds =>
      obtain ⟨t, xs, rfl, ht, rx⟩ := ag.tup_inv
      have lx := rx.length
      have q0 : ∀ H', Same H H' → Q (.bl (decide (ds.length ≤ 12) && ds.all isWordG)) H' := q
      refine iteF ?_
      refine ⟨_, rfl, t, _, rfl, .inr (SqT.of ht), _, _, rfl, rfl, _, rfl, ite2 (fun z => ?_) (fun z => ?_)⟩
      · have z := of_decide_eq_true z
        have q0 := q0 H fun _ _ z => z
        rw [decide_eq_false (by omega), Bool.false_and] at q0
        exact q0
      have z : ds.length ≤ 12 := Classical.byContradiction fun y => z (decide_eq_true (by omega))
      refine ⟨_, rfl, t, rfl, ⟨_, SqT.of ht⟩, fun acc hacc => ?_⟩
      refine comp_tup (K := K) (a := t) (xs := xs) (fun j σ1 H2 => ∃ (c1 : Option V), σ1 = [c1] ∧ Same H H2 ∧ H2 acc = some (.lst (((ds.take j).map isWordG).map V.bl)))
        ⟨none, rfl, Same.upd_new hacc, upd_same⟩ (fun j σ1 H2 _ ⟨_, _, s2, _⟩ => SqT.of (s2 _ _ ht)) ?_ ?_
      · intro j x σ1 H2 hj hI
        refine ex_1 hI fun c1 hJ => ?_
        have eI := hJ.1
        have s2 := hJ.2.1
        have h2 := hJ.2.2
        clear hI hJ
        subst eI
        have hjl := (List.getElem?_eq_some_iff.mp hj).1
        obtain ⟨d, hd, ad⟩ := Paired.get2 rx hj
        dsimp only [gName]
        rw [if_pos rfl]
        refine ⟨_, rfl, x, d, rfl, ad.mono s2, fun H3 s3 => ?_⟩
        refine ⟨_, s3 _ _ h2, small1000 (by rw [List.length_map, List.length_map, List.length_take]; omega), _, rfl, fun b o e => ?_, ?_⟩
        · rw [upd_ne (ne_of_none e hacc)]
          exact s3 _ _ (s2 _ _ e)
        · rw [upd_same, List.take_add_one, hd, List.map_append, List.map_append]
          rfl
      intro σ1 H2 hI
      refine ex_1 hI fun c1 hJ => ?_
      have s2 := hJ.2.1
      have h2 := hJ.2.2
      rw [← lx, List.take_length] at h2
      have q2 := q0 H2 s2
      rw [decide_eq_true z, Bool.true_and] at q2
      refine rall2 h2 ?_
      have e : (ds.map isWordG).all id = ds.all isWordG := by rw [List.all_map]; rfl
      rw [e]
      exact q2
    | _ => exact iteT (iteT (q H fun _ _ z => z))
end

theorem cell_num {a b c d e : Thg} (h : ([a, b, c, d].map isNumG).all id = false) : isCellG (.tup [a, b, c, d, e]) = false := by
  unfold isCellG
  split
  · rename_i heq
    injection heq with heq
    simp only [List.cons.injEq, and_true] at heq
    obtain ⟨rfl, rfl, rfl, rfl, rfl⟩ := heq
    cases h
  · rfl
theorem nums_of {a b c d : Thg} (h : ([a, b, c, d].map isNumG).all id = true) : ∃ i j k l, a = .int i ∧ b = .int j ∧ c = .int k ∧ d = .int l := by
  simp only [List.map_cons, List.map_nil, List.all_cons, List.all_nil, id, Bool.and_true, Bool.and_eq_true] at h
  obtain ⟨h1, h2, h3, h4⟩ := h
  have n : ∀ {g : Thg}, isNumG g = true → ∃ i, g = .int i := fun {g} z => by cases g <;> first | exact ⟨_, rfl⟩ | cases z
  obtain ⟨i, rfl⟩ := n h1
  obtain ⟨j, rfl⟩ := n h2
  obtain ⟨k, rfl⟩ := n h3
  obtain ⟨l, rfl⟩ := n h4
  exact ⟨i, j, k, l, rfl, rfl, rfl, rfl⟩
section
variable {P : Program} {w : World} {K : PySem.W.Frag} {mg : Str → Option Value} {base : Heap}
theorem nd_icn : (["part"] : List Str).Nodup := by decide +kernel
noncomputable abbrev icnScope : Scope := scopeOf (argOf (operandOf (testOf (nth (defBody (top 12)) 1))) 0)
theorem sc_is_cell : FnScope ["thing"] ["thing"] (defScope (top 12)) := ⟨rfl, rfl, rfl, by decide +kernel, rfl, by decide +kernel, by decide +kernel⟩
set_option maxHeartbeats 4000000 in
theorem ok_is_cell (T : Txt mg) (c_is_number : Cal P w K mg base 1 "is_number" ["thing"] (spG isNumG)) (c_are_words : Cal P w K mg base 2 "are_words" ["thing"] (spG areWordsG)) (f : Addr) (fd : FuncData) (F : Fun K "is_cell" "is_cell" (top 12) f fd) : FnOk P w K mg base CX0 3 f fd ["thing"] (spG isCellG) := by
  refine F.ok sc_is_cell (fun vs H Q E h => ?_) (fun cdv A outer s H vs Q E hr h => ?_)
  · obtain ⟨v, g, rfl, _⟩ := h; rfl
  · obtain ⟨v, g, rfl, ag, q⟩ := h
    have hr_is_number : Room 1 (A.deeper (envOfC "is_cell" (defScope (top 12)) s.heap.objs.size f cdv)) := hr.mono (by decide)
    have hr_are_words : Room 2 (A.deeper (envOfC "is_cell" (defScope (top 12)) s.heap.objs.size f cdv)) := hr.mono (by decide)
    have co_icn : ∀ {X : Cx}, CompOk X icnScope (clOf X.env.cells icnScope.names []) ["part"] [none] := compOk_shut rfl (by decide +kernel) (by decide +kernel) (by decide +kernel) rfl (by
        intro i hi x j e1 e2
        match i, hi, e1, e2 with
        | 0, _, e1, e2 => cases e2)
    refine ⟨_, (pss_cons (ps_if (PW.pt (pw_or (pt_not (pt_val (pe_callB (call_isinst (K := K) rfl) (by rfl) T.isinstance PyProof.Rows.boot_isinstance (pa_cons (pv 0) (pa_cons (pe_bltn (v := .ty "tuple") rfl T.tuple PyProof.Rows.boot_tuple rfl) pa_nil))))) (pw_or1 (pt_cmpR op_ne (pe_callB (call_lenK (K := K) rfl) (by rfl) T.len PySem.boot_len (pa_cons (pv 0) pa_nil)) pe_int (nomark _))))) (pss_one (ps_ret pe_bl)) pss_nil)
      (pss_cons (ps_if (pt_not (pt_val (pe_callB (call_all (K := K) rfl rfl) (by rfl) T.all PyProof.Rows.boot_all (pa_cons (pe_comp co_icn rfl (pi_tupK (K := K) rfl (pe_slice (sl_tupK (K := K) rfl) (pv 0) po_none (po_some pe_int))) (fun _ _ _ _ => (pg_name (i := 0) nd_icn rfl (by first | exact Or.inl rfl | exact Or.inr rfl) (Or.inr rfl))) (fun _ _ _ _ => pif_nil) (fun _ _ _ _ => (pe_cal c_is_number hr_is_number rfl (pa_cons (pv 0) pa_nil)))) pa_nil)))) (pss_one (ps_ret pe_bl)) pss_nil)
      (pss_cons (ps_if (PW.pt (pw_or (pt_cmpR op_lt (pe_ix (ix_tupK (K := K) rfl) (pv 0) pe_int (fun _ _ => rfl)) pe_int (nomark _)) (pw_or (pt_cmpR op_lt (pe_ix (ix_tupK (K := K) rfl) (pv 0) pe_int (fun _ _ => rfl)) pe_int (nomark _)) (pw_or (pt_cmpR op_lt (pe_ix (ix_tupK (K := K) rfl) (pv 0) pe_int (fun _ _ => rfl)) pe_int (nomark _)) (pw_or1 (pt_cmpR op_lt (pe_ix (ix_tupK (K := K) rfl) (pv 0) pe_int (fun _ _ => rfl)) pe_int (nomark _))))))) (pss_one (ps_ret pe_bl)) pss_nil)
      (pss_one (ps_ret (pe_cal c_are_words hr_are_words rfl (pa_cons (pe_ix (ix_tupK (K := K) rfl) (pv 0) pe_int (fun _ _ => rfl)) pa_nil))))))), ?_⟩
    refine ⟨_, rfl, _, "tuple", _, isTup g, rfl, ag.ty, kit_tup g, isTup g, rfl, ?_⟩
    cases g with
    | tup ds =>
      obtain ⟨t, xs, rfl, ht, rx⟩ := ag.tup_inv
      have lx := rx.length
      refine iteF ?_
      refine ⟨_, rfl, t, _, rfl, .inr (SqT.of ht), rfl, _, rfl, ite2 (fun z => ?_) (fun z => ?_)⟩
      · have z := len_ne z
        have q0 := q H fun _ _ z => z
        rw [cell_len (by omega)] at q0
        exact q0
      have z := len_eq z
      obtain ⟨a, b, c, d, e, rfl⟩ := five_of (l := ds) (by omega)
      obtain ⟨xa, xb, xc, xd, xe, rfl⟩ := five_of (l := xs) (by omega)
      have r4 : AtGL H [a, b, c, d] [xa, xb, xc, xd] := by
        cases rx with
        | cons r1 rx =>
        cases rx with
        | cons r2 rx =>
        cases rx with
        | cons r3 rx =>
        cases rx with
        | cons r4 rx => exact .cons r1 (.cons r2 (.cons r3 (.cons r4 .nil)))
      have re : AtG H e xe := by
        cases rx with
        | cons r1 rx =>
        cases rx with
        | cons r2 rx =>
        cases rx with
        | cons r3 rx =>
        cases rx with
        | cons r4 rx =>
        cases rx with
        | cons r5 rx => exact r5
      refine ⟨_, rfl, _, rfl, t, _, rfl, SqT.of ht, (fun z => absurd z.2 (by show ¬ HT.sIx 5 5 (some 4) = 5; decide)), fun p hp => ⟨p, rfl, ⟨_, SqT.of upd_same⟩, fun acc hacc => ?_⟩⟩
      have s1 : Same H (upd H p (.tup (cutV [xa, xb, xc, xd, xe] none (some 4)))) := Same.upd_new hp
      have k1 : upd H p (.tup (cutV [xa, xb, xc, xd, xe] none (some 4))) p = some (.tup [xa, xb, xc, xd]) := upd_same
      generalize hH1 : upd H p (.tup (cutV [xa, xb, xc, xd, xe] none (some 4))) = H1 at *
      refine comp_tup (K := K) (a := p) (xs := [xa, xb, xc, xd]) (fun j σ1 H2 => ∃ (c1 : Option V), σ1 = [c1] ∧ Same H1 H2 ∧ H2 acc = some (.lst ((([a, b, c, d].take j).map isNumG).map V.bl)))
        ⟨none, rfl, Same.upd_new hacc, upd_same⟩ (fun j σ1 H2 _ ⟨_, _, s2, _⟩ => SqT.of (s2 _ _ k1)) ?_ ?_
      · intro j y σ1 H2 hj hI
        refine ex_1 hI fun c1 hJ => ?_
        have eI := hJ.1
        have s2 := hJ.2.1
        have h2 := hJ.2.2
        clear hI hJ
        subst eI
        have hjl : j < 4 := (List.getElem?_eq_some_iff.mp hj).1
        obtain ⟨d', hd, ad⟩ := Paired.get2 r4 hj
        dsimp only [gName]
        rw [if_pos rfl]
        refine ⟨_, rfl, y, d', rfl, ad.mono (s1.trans s2), fun H3 s3 => ?_⟩
        refine ⟨_, s3 _ _ h2, small1000 (by rw [List.length_map, List.length_map, List.length_take]; omega), _, rfl, fun b' o e => ?_, ?_⟩
        · rw [upd_ne (ne_of_none e hacc)]
          exact s3 _ _ (s2 _ _ e)
        · rw [upd_same, List.take_add_one, hd, List.map_append, List.map_append]
          rfl
      intro σ1 H2 hI
      refine ex_1 hI fun c1 hJ => ?_
      have s2 := hJ.2.1
      have h2 : H2 acc = some (.lst (([a, b, c, d].map isNumG).map V.bl)) := hJ.2.2
      clear hI hJ
      unfold tNil
      refine rall2 h2 ?_
      have s12 := s1.trans s2
      refine ⟨_, rfl, ?_⟩
      cases en : ([a, b, c, d].map isNumG).all id with
      | false =>
        have q2 := q H2 s12
        rw [cell_num en] at q2
        exact iteT q2
      | true =>
        refine iteF ?_
        obtain ⟨i, j, k, l, rfl, rfl, rfl, rfl⟩ := nums_of en
        have ea : xa = .int i ∧ xb = .int j ∧ xc = .int k ∧ xd = .int l := by
          cases r4 with
          | cons r1 r4 =>
          cases r4 with
          | cons r2 r4 =>
          cases r4 with
          | cons r3 r4 =>
          cases r4 with
          | cons r5 r4 => exact ⟨r1.int_inv, r2.int_inv, r3.int_inv, r5.int_inv⟩
        obtain ⟨rfl, rfl, rfl, rfl⟩ := ea
        have hb2 := s12 _ _ ht
        have q0 : ∀ H', Same H H' → Q (.bl (decide (0 ≤ i) && decide (0 ≤ j) && decide (1 ≤ k) && decide (1 ≤ l) && areWordsG e)) H' := q
        have q2 := q0 H2 s12
        refine ⟨_, rfl, t, _, (0 : Int), _, rfl, rfl, SqT.of hb2, rfl, _, _, rfl, rfl, _, rfl, ite2 (fun z => ?_) (fun z1 => ?_)⟩
        · rw [decide_eq_false (by have := of_decide_eq_true z; omega)] at q2
          exact iteT q2
        refine ⟨_, rfl, t, _, (1 : Int), _, rfl, rfl, SqT.of hb2, rfl, _, _, rfl, rfl, _, rfl, ite2 (fun z => ?_) (fun z2 => ?_)⟩
        · rw [decide_eq_false (by have := of_decide_eq_true z; omega : ¬ 0 ≤ j), Bool.and_false] at q2
          exact q2
        refine ⟨_, rfl, t, _, (2 : Int), _, rfl, rfl, SqT.of hb2, rfl, _, _, rfl, rfl, _, rfl, ite2 (fun z => ?_) (fun z3 => ?_)⟩
        · rw [decide_eq_false (by have := of_decide_eq_true z; omega : ¬ 1 ≤ k), Bool.and_false] at q2
          exact q2
        refine ⟨_, rfl, t, _, (3 : Int), _, rfl, rfl, SqT.of hb2, rfl, _, _, rfl, rfl, _, rfl, ite2 (fun z => ?_) (fun z4 => ?_)⟩
        · rw [decide_eq_false (by have := of_decide_eq_true z; omega : ¬ 1 ≤ l), Bool.and_false] at q2
          exact q2
        refine ⟨_, rfl, t, _, (4 : Int), _, rfl, rfl, SqT.of hb2, rfl, xe, e, rfl, re.mono s12, fun H3 s3 => ?_⟩
        have q3 := q0 H3 (s12.trans s3)
        rw [decide_eq_true (Int.not_lt.mp fun y => z1 (decide_eq_true y) : 0 ≤ i), decide_eq_true (Int.not_lt.mp fun y => z2 (decide_eq_true y) : 0 ≤ j), decide_eq_true (Int.not_lt.mp fun y => z3 (decide_eq_true y) : 1 ≤ k), decide_eq_true (Int.not_lt.mp fun y => z4 (decide_eq_true y) : 1 ≤ l)] at q3
        exact q3
    | _ => exact iteT (iteT (q H fun _ _ z => z))

theorem sc_sticks_out : FnScope ["cell", "rows", "columns"] ["cell", "rows", "columns"] (defScope (top 15)) := ⟨rfl, rfl, rfl, by decide +kernel, rfl, by decide +kernel, by decide +kernel⟩
set_option maxHeartbeats 4000000 in
theorem ok_sticks_out (f : Addr) (fd : FuncData) (F : Fun K "sticks_out" "sticks_out" (top 15) f fd) : FnOk P w K mg base CX0 1 f fd ["cell", "rows", "columns"] spSticks := by
  refine F.ok sc_sticks_out (fun vs H Q E h => ?_) (fun cdv A outer s H vs Q E hr h => ?_)
  · obtain ⟨v, x, R, C, rfl, _⟩ := h; rfl
  · obtain ⟨v, x, R, C, rfl, hx, q⟩ := h
    obtain ⟨b, wb, rfl, hb, hwb⟩ := cellw_inv hx
    refine ⟨_, (pss_one (ps_ret (pe_or (pe_cmpR op_gt (pe_op op_add (pe_ix (ix_tupK (K := K) rfl) (pv 0) pe_int (fun _ _ => rfl)) (pe_ix (ix_tupK (K := K) rfl) (pv 0) pe_int (fun _ _ => rfl))) (pv 1) (nomark _)) (pe_one (pe_cmpR op_gt (pe_op op_add (pe_ix (ix_tupK (K := K) rfl) (pv 0) pe_int (fun _ _ => rfl)) (pe_ix (ix_tupK (K := K) rfl) (pv 0) pe_int (fun _ _ => rfl))) (pv 2) (nomark _)))))), ?_⟩
    refine ⟨_, rfl, b, _, (0 : Int), _, rfl, rfl, SqT.of hb, rfl, _, rfl, b, _, (2 : Int), _, rfl, rfl, SqT.of hb, rfl, _, _, rfl, rfl, _, rfl, _, _, rfl, rfl, _, rfl, ite2 (fun z => ?_) (fun z => ?_)⟩
    · have z := of_decide_eq_true z
      rw [decide_eq_true (.inl (by omega))] at q
      exact q
    have z : ¬ _ := fun y => z (decide_eq_true y)
    refine ⟨_, rfl, b, _, (1 : Int), _, rfl, rfl, SqT.of hb, rfl, _, rfl, b, _, (3 : Int), _, rfl, rfl, SqT.of hb, rfl, _, _, rfl, rfl, _, rfl, _, _, rfl, rfl, ?_⟩
    dsimp only
    have e : decide ((C : Int) < (x.left : Int) + (x.w : Int)) = decide (R < x.top + x.h ∨ C < x.left + x.w) := decide_eq_decide.mpr ⟨fun y => .inr (by omega), fun y => y.elim (fun y => absurd (by omega) z) fun y => by omega⟩
    rw [e]
    exact q

theorem sc_first_place : FnScope ["cell"] ["cell"] (defScope (top 16)) := ⟨rfl, rfl, rfl, by decide +kernel, rfl, by decide +kernel, by decide +kernel⟩
set_option maxHeartbeats 4000000 in
theorem ok_first_place (f : Addr) (fd : FuncData) (F : Fun K "first_place" "first_place" (top 16) f fd) : FnOk P w K mg base CX0 1 f fd ["cell"] spFirst := by
  refine F.ok sc_first_place (fun vs H Q E h => ?_) (fun cdv A outer s H vs Q E hr h => ?_)
  · obtain ⟨v, x, rfl, _⟩ := h; rfl
  · obtain ⟨v, x, rfl, hx, q⟩ := h
    obtain ⟨b, wb, rfl, hb, hwb⟩ := cellw_inv hx
    refine ⟨_, (pss_one (ps_ret (pe_tup (pa_cons (pe_ix (ix_tupK (K := K) rfl) (pv 0) pe_int (fun _ _ => rfl)) (pa_cons (pe_ix (ix_tupK (K := K) rfl) (pv 0) pe_int (fun _ _ => rfl)) pa_nil))))), ?_⟩
    exact ⟨_, rfl, b, _, (0 : Int), _, rfl, rfl, SqT.of hb, rfl, _, rfl, b, _, (1 : Int), _, rfl, rfl, SqT.of hb, rfl, by show 2 ≤ sizeLine; decide, fun t ht => q t _ (Same.upd_new ht) upd_same⟩
end
end KL

set_option Elab.async false
set_option linter.all false
set_option autoImplicit false
set_option maxRecDepth 100000
namespace KL
open PySem L2 GT PyProof.Rows
/-! ### the places of a cell -/
noncomputable def spPlaces : Sp := fun vs H Q _ => ∃ (v : V) (x : Cell), vs = [v] ∧ At H x.D v ∧ x.top ≤ 100 ∧ x.left ≤ 100 ∧ x.h ≤ 17 ∧ x.w ≤ 17 ∧
  ∀ (r : Addr) (xs : List V) (H' : Hp), Same H H' → H' r = some (.lst xs) → AtL H' ((List.range (x.h * x.w)).map (placeD x)) xs → Q (.ref r) H'
section
variable {P : Program} {w : World} {K : PySem.W.Frag} {mg : Str → Option Value} {base : Heap}
theorem nd_plc : (["column", "row"] : List Str).Nodup := by decide +kernel
noncomputable abbrev plcScope : Scope := scopeOf (argOf (exprOf (nth (bodyOf (nth (defBody (top 17)) 1)) 0)) 0)
theorem sc_places : FnScope ["cell", "found", "row"] ["cell"] (defScope (top 17)) := ⟨rfl, rfl, rfl, by decide +kernel, rfl, by decide +kernel, by decide +kernel⟩
set_option maxHeartbeats 4000000 in
theorem ok_places (T : Txt mg) (f : Addr) (fd : FuncData) (F : Fun K "places" "places" (top 17) f fd) : FnOk P w K mg base CX0 1 f fd ["cell"] spPlaces := by
  refine F.ok sc_places (fun vs H Q E h => ?_) (fun cdv A outer s H vs Q E hr h => ?_)
  · obtain ⟨v, x, rfl, _⟩ := h; rfl
  · obtain ⟨v, x, rfl, hx, b1, b2, b3, b4, q⟩ := h
    obtain ⟨a, wb, ws, rfl, ha, hwb, aw⟩ := Cell.at_inv hx
    have co_plc := compOk_def (X := (cxOf CX0 P w K mg base ["cell", "found", "row"] "places" (defScope (top 17)) f cdv A outer s H E).nox) (N1 := ["column", "row"]) (cap := [none, some 2]) (scope := plcScope) (sc := defScope (top 17)) (s.heap.objs.size + 1) rfl rfl rfl
      (by decide +kernel) (by decide +kernel) (by decide +kernel) rfl (by
        intro i hi x j e1 e2
        match i, hi, e1, e2 with
        | 0, _, e1, e2 => cases e2
        | 1, _, e1, e2 => cases e1; cases e2; exact ⟨rfl, rfl, rfl⟩)
    have eh : ((x.top : Int) + (x.h : Int) - (x.top : Int)).toNat = x.h := by omega
    have ew : ((x.left : Int) + (x.w : Int) - (x.left : Int)).toNat = x.w := by omega
    refine ⟨_, (pss_cons (ps_set (i := 1) sc_places.nd rfl (by first | exact Or.inl rfl | exact Or.inr rfl) (pe_lst pa_nil))
      (pss_cons (ps_for PassesOwn.never rfl (pi_range2 rfl T.range (pa_cons (pe_ix (ix_tupK (K := K) rfl) (pv 0) pe_int (fun _ _ => rfl)) (pa_cons (pe_op op_add (pe_ix (ix_tupK (K := K) rfl) (pv 0) pe_int (fun _ _ => rfl)) (pe_ix (ix_tupK (K := K) rfl) (pv 0) pe_int (fun _ _ => rfl))) pa_nil))) (pg_name (i := 2) sc_places.nd rfl (by first | exact Or.inl rfl | exact Or.inr rfl)) (pss_one (ps_expr (pe_bmK (K := K) rfl PySem.F.plainAttrs_list PySem.F.slot_list_extend PySem.F.type_list_extend mt_extend (pv 1) (pa_cons (pe_comp co_plc rfl (pi_range2 rfl T.range (pa_cons (pe_ix (ix_tupK (K := K) rfl) (pv 0) pe_int (fun _ _ => rfl)) (pa_cons (pe_op op_add (pe_ix (ix_tupK (K := K) rfl) (pv 0) pe_int (fun _ _ => rfl)) (pe_ix (ix_tupK (K := K) rfl) (pv 0) pe_int (fun _ _ => rfl))) pa_nil))) (fun _ _ _ _ => (pg_name (i := 0) nd_plc rfl (by first | exact Or.inl rfl | exact Or.inr rfl) (Or.inr rfl))) (fun _ _ _ _ => pif_nil) (fun _ _ _ _ => (pe_tup (pa_cons (pv 1) (pa_cons (pv 0) pa_nil))))) pa_nil)))))
      (pss_one (ps_ret (pv 1))))), ?_⟩
    refine ⟨by show 0 ≤ sizeLine; decide, fun l hl => ?_⟩
    have s1 := Same.upd_new (o := .lst []) hl
    have ha1 := s1 _ _ ha
    refine ⟨_, rfl, a, _, (0 : Int), _, rfl, rfl, SqT.of ha1, rfl, _, rfl, a, _, (0 : Int), _, rfl, rfl, SqT.of ha1, rfl, _, rfl, a, _, (2 : Int), _, rfl, rfl, SqT.of ha1, rfl, _, _, rfl, rfl, (x.top : Int), (x.top : Int) + (x.h : Int), rfl, ⟨by omega, by omega, by omega, by omega⟩, ?_⟩
    rw [eh]
    refine for_range (n := x.h) (fun i σ H2 => ∃ (row : Option V) (xs : List V), σ = [some (.ref a), some (.ref l), row] ∧ Same H H2 ∧ H2 l = some (.lst xs) ∧ AtL H2 ((List.range (i * x.w)).map (placeD x)) xs)
      ⟨none, [], rfl, s1, upd_same, by rw [Nat.zero_mul]; exact .nil⟩ ?_ ?_
    · intro i σ H2 hi hI
      refine ex_2 hI fun row xs hJ => ?_
      have eI := hJ.1
      have s2 := hJ.2.1
      have h2l := hJ.2.2.1
      have a2 := hJ.2.2.2
      clear hI hJ
      subst eI
      have ha2 := s2 _ _ ha
      refine ⟨_, rfl, .inl ⟨rfl, _, SqL.of h2l⟩, _, rfl, a, _, (1 : Int), _, rfl, rfl, SqT.of ha2, rfl, _, rfl, a, _, (1 : Int), _, rfl, rfl, SqT.of ha2, rfl, _, rfl, a, _, (3 : Int), _, rfl, rfl, SqT.of ha2, rfl, _, _, rfl, rfl, (x.left : Int), (x.left : Int) + (x.w : Int), rfl, ⟨by omega, by omega, by omega, by omega⟩, fun acc hacc => ?_⟩
      rw [ew]
      refine comp_range (lo := (x.left : Int)) (n := x.w) (fun j σ1 H3 => ∃ (col : Option V) (ys : List V), σ1 = [col, some (.int ((x.top : Int) + (i : Int)))] ∧ Same H2 H3 ∧ H3 acc = some (.lst ys) ∧ AtL H3 ((List.range j).map (fun (j : Nat) => Dd.tup [.int ((x.top + i : Nat) : Int), .int ((x.left + j : Nat) : Int)])) ys)
        ⟨none, [], rfl, Same.upd_new hacc, upd_same, .nil⟩ ?_ ?_
      · intro j σ1 H3 hj hI
        refine ex_2 hI fun col ys hJ => ?_
        have eI := hJ.1
        have s3 := hJ.2.1
        have h3 := hJ.2.2.1
        have a3 := hJ.2.2.2
        clear hI hJ
        subst eI
        have e1 : (x.top : Int) + (i : Int) = ((x.top + i : Nat) : Int) := by simp
        have e2 : (x.left : Int) + (j : Int) = ((x.left + j : Nat) : Int) := by simp
        dsimp only [gName]
        rw [if_pos rfl]
        refine ⟨_, rfl, _, rfl, by show 2 ≤ sizeLine; decide, fun p hp => ⟨ys, ?_, ?_, ?_⟩⟩
        · exact (Same.upd_new hp) _ _ h3
        · have := a3.length
          rw [List.length_map, List.length_range] at this
          exact small1000 (by omega)
        · rw [e1, e2] at *
          have s4 := Same.upd_new (o := .tup [.int ((x.top + i : Nat) : Int), .int ((x.left + j : Nat) : Int)]) hp
          generalize hH4 : upd H3 p (.tup [.int ((x.top + i : Nat) : Int), .int ((x.left + j : Nat) : Int)]) = H4 at *
          have p4 : H4 p = some (.tup [.int ((x.top + i : Nat) : Int), .int ((x.left + j : Nat) : Int)]) := by rw [← hH4]; exact upd_same
          have t5 : SameT H4 (upd H4 acc (.lst (ys ++ [.ref p]))) := SameT.put (s4 _ _ h3)
          refine ⟨_, ys ++ [.ref p], rfl, fun b o e => ?_, upd_same, ?_⟩
          · rw [upd_ne (ne_of_none e hacc)]
            exact s4 _ _ (s3 _ _ e)
          · rw [List.range_succ, List.map_append]
            refine Paired.snoc' ((a3.mono s4).monoT (fun d hd => ?_) t5) (.tup (t5 _ _ p4) (.cons (.int _) (.cons (.int _) .nil)))
            obtain ⟨k, _, rfl⟩ := List.mem_map.mp hd
            exact .tup fun d hd => by
              simp only [List.mem_cons, List.mem_nil_iff, or_false] at hd
              rcases hd with rfl | rfl
              · exact .int _
              · exact .int _
      · intro σ1 H3 hI
        refine ex_2 hI fun col ys hJ => ?_
        have eI := hJ.1
        have s3 := hJ.2.1
        have h3 := hJ.2.2.1
        have a3 := hJ.2.2.2
        clear hI hJ
        subst eI
        have h3l := s3 _ _ h2l
        have ly := a3.length
        have lx := a2.length
        rw [List.length_map, List.length_range] at ly lx
        have hm : i * x.w ≤ 17 * 17 := Nat.mul_le_mul (by omega) b4
        refine ⟨l, acc, xs, ys, rfl, rfl, h3l, h3, Nat.le_of_lt (small1000 (by omega)), ?_⟩
        have t5 : SameT H3 (upd H3 l (.lst (xs ++ ys))) := SameT.put h3l
        refine ⟨_, xs ++ ys, rfl, fun b o e => ?_, upd_same, ?_⟩
        · rw [upd_ne (ne_of_none e hl)]
          exact s3 _ _ (s2 _ _ e)
        · rw [← places_row]
          refine Paired.app ((a2.mono s3).monoT (places_nol _ _) t5) (a3.monoT (fun d hd => ?_) t5)
          obtain ⟨k, _, rfl⟩ := List.mem_map.mp hd
          exact .tup fun d hd => by
            simp only [List.mem_cons, List.mem_nil_iff, or_false] at hd
            rcases hd with rfl | rfl
            · exact .int _
            · exact .int _
    · intro σ H2 hI
      refine ex_2 hI fun row xs hJ => ?_
      have eI := hJ.1
      have s2 := hJ.2.1
      have h2l := hJ.2.2.1
      have a2 := hJ.2.2.2
      clear hI hJ
      subst eI
      exact ⟨_, rfl, q l xs H2 s2 h2l a2⟩

end
/-! ### a dict of places -/
theorem pl_inj2 {r c r' c' : Nat} (h : pl r c = pl r' c') : r = r' ∧ c = c' := by
  unfold pl at h
  injection h with h1 h
  injection h with h2 _
  injection h1 with h1
  injection h2 with h2
  exact ⟨by omega, by omega⟩
structure Kv (R C : Nat) (kv : List (List Key × V)) (S : Nat → Nat → Prop) : Prop where
  nd : (kv.map (·.1)).Nodup
  inn : ∀ k ∈ kv.map (·.1), ∃ r c, k = pl r c ∧ r < R ∧ c < C
  val : ∀ r c, valV kv (pl r c) ≠ none ↔ S r c
theorem val_none {kv : List (List Key × V)} {k : List Key} : valV kv k = none ↔ k ∉ kv.map (·.1) := by
  unfold valV
  rw [Option.map_eq_none_iff, List.find?_eq_none]
  constructor
  · intro h hm
    obtain ⟨x, hx, rfl⟩ := List.mem_map.mp hm
    exact h x hx (decide_eq_true rfl)
  · intro h x hx z
    exact h (List.mem_map.mpr ⟨x, hx, of_decide_eq_true z⟩)
theorem Kv.put {R C r c : Nat} {kv : List (List Key × V)} {S : Nat → Nat → Prop} (h : Kv R C kv S) (n : ¬ S r c) (hr : r < R) (hc : c < C) (v : V) : putK kv (pl r c) v = kv ++ [(pl r c, v)] ∧ Kv R C (putK kv (pl r c) v) (fun r' c' => S r' c' ∨ (r' = r ∧ c' = c)) := by
  have hv : valV kv (pl r c) = none := by
    cases e : valV kv (pl r c) with
    | none => rfl
    | some o => exact absurd ((h.val r c).mp (by rw [e]; simp)) n
  have e := putK_new v hv
  refine ⟨e, ?_⟩
  have nm := val_none.mp hv
  refine ⟨?_, fun k hk => ?_, fun r' c' => ?_⟩
  · rw [e, List.map_append]
    refine List.nodup_append.mpr ⟨h.nd, by simp, fun a ha b hb z => ?_⟩
    have : b = pl r c := by simpa using hb
    rw [this] at z
    rw [z] at ha
    exact nm ha
  · rw [e, List.map_append] at hk
    rcases List.mem_append.mp hk with hk | hk
    · exact h.inn k hk
    · have : k = pl r c := by simpa using hk
      exact ⟨r, c, this, hr, hc⟩
  · rw [valV_put]
    by_cases z : pl r' c' = pl r c
    · rw [if_pos z]
      have := pl_inj2 z
      exact ⟨fun _ => .inr this, fun _ => by simp⟩
    · rw [if_neg z, h.val]
      exact ⟨fun q => .inl q, fun q => q.elim id fun q => absurd (by rw [q.1, q.2]) z⟩
theorem sub_length {α : Type} : ∀ {l m : List α}, l.Nodup → (∀ x ∈ l, x ∈ m) → l.length ≤ m.length
  | [], m, _, _ => Nat.zero_le _
  | a :: l, m, h, s => by
    obtain ⟨h1, h2⟩ := List.nodup_cons.mp h
    obtain ⟨m1, m2, e⟩ := List.append_of_mem (s a List.mem_cons_self)
    have ih := sub_length (l := l) (m := m1 ++ m2) h2 fun x hx => by
      have := s x (List.mem_cons_of_mem _ hx)
      rw [e] at this
      rcases List.mem_append.mp this with q | q
      · exact List.mem_append_left _ q
      · rcases List.mem_cons.mp q with q | q
        · rw [q] at hx
          exact absurd hx h1
        · exact List.mem_append_right _ q
    rw [e]
    rw [List.length_append] at ih ⊢
    rw [List.length_cons, List.length_cons]
    omega
noncomputable def placesL (R C : Nat) : List (List Key) := ((List.range R).map fun r => (List.range C).map fun c => pl r c).flatten
theorem places_len (R C : Nat) : (placesL R C).length = R * C := by
  unfold placesL
  rw [List.length_flatten, List.map_map]
  have : (List.length ∘ fun r => (List.range C).map fun c => pl r c) = fun _ => C := by
    funext r
    simp
  rw [this]
  clear this
  induction R with
  | zero => simp
  | succ R ih => rw [List.range_succ, List.map_append, List.sum_append, ih]; simp [Nat.succ_mul]
theorem places_mem {R C : Nat} {k : List Key} : k ∈ placesL R C ↔ ∃ r c, k = pl r c ∧ r < R ∧ c < C := by
  unfold placesL
  rw [List.mem_flatten]
  constructor
  · rintro ⟨l, hl, hk⟩
    obtain ⟨r, hr, rfl⟩ := List.mem_map.mp hl
    obtain ⟨c, hc, rfl⟩ := List.mem_map.mp hk
    exact ⟨r, c, rfl, List.mem_range.mp hr, List.mem_range.mp hc⟩
  · rintro ⟨r, c, rfl, hr, hc⟩
    exact ⟨_, List.mem_map.mpr ⟨r, List.mem_range.mpr hr, rfl⟩, List.mem_map.mpr ⟨c, List.mem_range.mpr hc, rfl⟩⟩
theorem places_nodup (R C : Nat) : (placesL R C).Nodup := by
  unfold placesL List.Nodup
  rw [List.pairwise_flatten]
  refine ⟨fun l hl => ?_, ?_⟩
  · obtain ⟨r, _, rfl⟩ := List.mem_map.mp hl
    exact List.pairwise_map.mpr (List.nodup_range.imp fun {a b} h z => h (pl_inj2 z).2)
  · refine List.pairwise_map.mpr (List.nodup_range.imp fun {a b} h x hx y hy z => ?_)
    obtain ⟨c, _, rfl⟩ := List.mem_map.mp hx
    obtain ⟨c', _, rfl⟩ := List.mem_map.mp hy
    exact h (pl_inj2 z).1
theorem Kv.count {R C : Nat} {kv : List (List Key × V)} {S : Nat → Nat → Prop} (h : Kv R C kv S) (all : ∀ r c, r < R → c < C → S r c) : kv.length = R * C := by
  have h1 := sub_length h.nd fun k hk => places_mem.mpr (h.inn k hk)
  have h2 := sub_length (places_nodup R C) fun k hk => by
    obtain ⟨r, c, rfl, hr, hc⟩ := places_mem.mp hk
    have := (h.val r c).mpr (all r c hr hc)
    by_cases z : pl r c ∈ kv.map (·.1)
    · exact z
    · exact absurd (val_none.mpr z) this
  rw [places_len, List.length_map] at h1
  rw [places_len, List.length_map] at h2
  omega
theorem Kv.few {R C : Nat} {kv : List (List Key × V)} {S : Nat → Nat → Prop} (h : Kv R C kv S) (hR : R ≤ 17) (hC : C ≤ 17) : kv.length ≤ 289 := by
  have h1 := sub_length h.nd fun k hk => places_mem.mpr (h.inn k hk)
  rw [places_len, List.length_map] at h1
  have : R * C ≤ 17 * 17 := Nat.mul_le_mul hR hC
  omega
theorem Kv.same {R C : Nat} {kv : List (List Key × V)} {S S' : Nat → Nat → Prop} (h : Kv R C kv S) (e : ∀ r c, S r c ↔ S' r c) : Kv R C kv S' := ⟨h.nd, h.inn, fun r c => (h.val r c).trans (e r c)⟩
/-! ### checked, of a thing of any kind -/
noncomputable def CkEnd (H : Hp) (CX : Addr) (Q : VK) (E : XK) (R C : Nat) (cs : List Cell) (gs : List Thg) : Prop :=
  (∃ x, gs[cs.length]? = some x ∧ gs.take cs.length = cs.map Cell.G ∧ Wrong R C cs x ∧ Told H CX cs.length E) ∨
  (gs = cs.map Cell.G ∧ (((∃ r c, r < R ∧ c < C ∧ ¬ GT.cov cs r c) ∧ ToldN H CX E) ∨
    ((∀ r c, r < R → c < C → GT.cov cs r c) ∧ ∀ (p l : Addr) (zs : List V) (H' : Hp), Same H H' → H l = none → H' p = some (.tup [.int R, .int C, .ref l]) → H' l = some (.lst zs) → AtL H' (cs.map Cell.D) zs → Q (.ref p) H')))
noncomputable def spChecked (CX : Addr) : Sp := fun vs H Q E => ∃ (v : V) (g : Thg), vs = [v] ∧ AtG H g v ∧ ((isFrameG g = false ∧ ToldN H CX E) ∨
  ∃ (R C : Nat) (cs : List Cell) (gs : List Thg), g = .tup [.int (R : Int), .int (C : Int), .lst gs] ∧ 1 ≤ R ∧ R ≤ 16 ∧ 1 ≤ C ∧ C ≤ 16 ∧ gs.length ≤ 400 ∧ Part R C cs ∧ cs.Pairwise Before ∧ CkEnd H CX Q E R C cs gs)
noncomputable def inv_ck (H1 : Hp) (p n d : Addr) (R C : Nat) (cs : List Cell) (i : Nat) (σ : L2.St) (H2 : Hp) : Prop := ∃ (kv : List (List Key × V)) (c5 c6 c7 : Option V), σ = [some (.ref p), some (.int R), some (.int C), some (.ref n), some (.ref d), c5, c6, c7] ∧ Same H1 H2 ∧ H2 d = some (.dT kv) ∧ Kv R C kv (GT.cov (cs.take i)) ∧ i ≤ cs.length
noncomputable def covP (cs : List Cell) (i : Nat) (x : Cell) (j r c : Nat) : Prop := GT.cov (cs.take i) r c ∨ ∃ k, k < j ∧ r = x.top + k / x.w ∧ c = x.left + k % x.w
noncomputable def inv_ck2 (H1 H6 : Hp) (p n d l : Addr) (xs : List V) (R C : Nat) (cs : List Cell) (i : Nat) (x : Cell) (b : V) (j : Nat) (σ : L2.St) (H2 : Hp) : Prop := ∃ (kv : List (List Key × V)) (c7 : Option V), σ = [some (.ref p), some (.int R), some (.int C), some (.ref n), some (.ref d), some (.int i), some b, c7] ∧ Same H1 H2 ∧ SameT H6 H2 ∧ H2 l = some (.lst xs) ∧ H2 d = some (.dT kv) ∧ Kv R C kv (covP cs i x j) ∧ ∀ k, k < j → ¬ GT.cov (cs.take i) (x.top + k / x.w) (x.left + k % x.w)
theorem place_in {x : Cell} {j : Nat} (hj : j < x.h * x.w) : inC x (x.top + j / x.w) (x.left + j % x.w) := part_sub hj (inC_part.mpr ⟨rfl, rfl⟩)
theorem place_new {x : Cell} {j k : Nat} (h : k < j) (e1 : x.top + j / x.w = x.top + k / x.w) (e2 : x.left + j % x.w = x.left + k % x.w) : False := by
  have a1 : j / x.w = k / x.w := by omega
  have a2 : j % x.w = k % x.w := by omega
  have b := Nat.div_add_mod j x.w
  rw [a1, a2, Nat.div_add_mod] at b
  omega
theorem cov_apart {R C i : Nat} {cs : List Cell} {x : Cell} (t : Part R C cs) (hx : cs[i]? = some x) : ∀ r c, inC x r c → ¬ GT.cov (cs.take i) r c := fun r c h1 ⟨y, hy, h2⟩ => by
  have pw := t.dis
  have hiL := (List.getElem?_eq_some_iff.mp hx).1
  rw [← List.take_append_drop i cs, List.drop_eq_getElem_cons hiL] at pw
  have := (List.pairwise_append.mp pw).2.2 y hy x (by rw [(List.getElem?_eq_some_iff.mp hx).2]; exact List.mem_cons_self)
  exact this r c h2 h1
theorem cov_whole {cs : List Cell} {i : Nat} {x : Cell} (hx : cs[i]? = some x) (r c : Nat) : covP cs i x (x.h * x.w) r c ↔ GT.cov (cs.take (i + 1)) r c := by
  rw [List.take_add_one, hx]
  show _ ↔ GT.cov (cs.take i ++ [x]) r c
  rw [cov_snoc]
  constructor
  · rintro (z | ⟨k, hk, rfl, rfl⟩)
    · exact .inl z
    · exact .inr (place_in hk)
  · rintro (z | z)
    · exact .inl z
    · obtain ⟨k, hk, hi⟩ := part_cov z
      obtain ⟨e1, e2⟩ := inC_part.mp hi
      exact .inr ⟨k, hk, e1, e2⟩
theorem place_at {H : Hp} {x : Cell} {xs : List V} {j : Nat} {v : V} {n : Nat} (a : AtL H ((List.range n).map (placeD x)) xs) (h : xs[j]? = some v) : j < n ∧ ∃ b, v = .ref b ∧ H b = some (.tup [.int ((x.top + j / x.w : Nat) : Int), .int ((x.left + j % x.w : Nat) : Int)]) := by
  have lx := a.length
  rw [List.length_map, List.length_range] at lx
  have hjl := (List.getElem?_eq_some_iff.mp h).1
  obtain ⟨d, hd, ad⟩ := Paired.get2 a h
  rw [List.getElem?_map, List.getElem?_range (by omega)] at hd
  have hd : placeD x j = d := Option.some.inj hd
  subst hd
  obtain ⟨b, us, rfl, hb, ru⟩ := ad.tup_inv
  refine ⟨by omega, b, rfl, ?_⟩
  have eu : us = [.int ((x.top + j / x.w : Nat) : Int), .int ((x.left + j % x.w : Nat) : Int)] := by
    cases ru with
    | cons g1 ru =>
      cases ru with
      | cons g2 ru =>
        cases ru
        rw [g1.int_inv, g2.int_inv]
  rw [← eu]
  exact hb
theorem lex_le {a b c d : Nat} : HT.lexLe [(a : Int), (b : Int)] [(c : Int), (d : Int)] = decide (¬ (c < a ∨ (c = a ∧ d < b))) := by
  rw [HT.lexLe_cons]
  by_cases z : (a : Int) = c
  · rw [if_pos z, HT.lexLe_cons]
    by_cases y : (b : Int) = d
    · rw [if_pos y]
      exact (decide_eq_true (by omega)).symm
    · rw [if_neg y]
      exact decide_eq_decide.mpr (by omega)
  · rw [if_neg z]
    exact decide_eq_decide.mpr (by omega)
theorem Kv.less {R C : Nat} {kv : List (List Key × V)} {S : Nat → Nat → Prop} (h : Kv R C kv S) {r c : Nat} (hr : r < R) (hc : c < C) (n : ¬ S r c) : kv.length < R * C := by
  have hn : pl r c ∉ kv.map (·.1) := fun z => n ((h.val r c).mp fun y => (val_none.mp y) z)
  have h1 := sub_length (l := pl r c :: kv.map (·.1)) (m := placesL R C) (List.nodup_cons.mpr ⟨hn, h.nd⟩) fun k hk => by
    rcases List.mem_cons.mp hk with rfl | hk
    · exact places_mem.mpr ⟨r, c, rfl, hr, hc⟩
    · exact places_mem.mpr (h.inn k hk)
  rw [places_len, List.length_cons, List.length_map] at h1
  omega
theorem atD_of : ∀ {H : Hp} {cs : List Cell} {xs : List V}, AtGL H (cs.map Cell.G) xs → AtL H (cs.map Cell.D) xs
  | _, [], [], _ => .nil
  | _, x :: cs, v :: xs, h => by
    cases h with
    | cons h r => exact .cons (Cell.ofG h) (atD_of r)
theorem and_key2 {c B : Prop} [Decidable c] {M : Prop} {N : Hp → Prop} {H : Hp} (n : ∀ H', Same H H' → B → N H') (b : ¬ c → B) (m : c → (∀ H', Same H H' → B → N H') → M) : if decide c = true then M else N H :=
  ite2 (fun z => m (of_decide_eq_true z) n) (fun z => n H (fun _ _ z => z) (b fun y => z (decide_eq_true y)))
section
variable {P : Program} {w : World} {K : PySem.W.Frag} {mg : Str → Option Value} {base : Heap}
theorem sc_checked : FnScope ["table", "rows", "columns", "cells", "covered", "at", "cell", "place"] ["table"] (defScope (top 8)) := ⟨rfl, rfl, rfl, by decide +kernel, rfl, by decide +kernel, by decide +kernel⟩
set_option maxHeartbeats 4000000 in
theorem ok_checked (T : Txt mg) {CX_BadTable : Addr} (x_BadTable : ExcJ P w K mg base "BadTable" CX_BadTable) (c_has_frame : Cal P w K mg base 3 "has_frame" ["thing"] (spG isFrameG)) (c_is_cell : Cal P w K mg base 3 "is_cell" ["thing"] (spG isCellG)) (c_sticks_out : Cal P w K mg base 1 "sticks_out" ["cell", "rows", "columns"] spSticks) (c_first_place : Cal P w K mg base 1 "first_place" ["cell"] spFirst) (c_places : Cal P w K mg base 1 "places" ["cell"] spPlaces) (f : Addr) (fd : FuncData) (F : Fun K "checked" "checked" (top 8) f fd) : FnOk P w K mg base (CX1 P w base) 5 f fd ["table"] (spChecked CX_BadTable) := by
  refine F.ok1 sc_checked (fun vs H Q E h => ?_) (fun cdv A outer s H vs Q E hr h => ?_)
  · obtain ⟨v, g, rfl, _⟩ := h; rfl
  · obtain ⟨v, g, rfl, ag, hg⟩ := h
    have hr_has_frame : Room 3 (A.deeper (envOfC "checked" (defScope (top 8)) s.heap.objs.size f cdv)) := hr.mono (by decide)
    have hr_is_cell : Room 3 (A.deeper (envOfC "checked" (defScope (top 8)) s.heap.objs.size f cdv)) := hr.mono (by decide)
    have hr_sticks_out : Room 1 (A.deeper (envOfC "checked" (defScope (top 8)) s.heap.objs.size f cdv)) := hr.mono (by decide)
    have hr_first_place : Room 1 (A.deeper (envOfC "checked" (defScope (top 8)) s.heap.objs.size f cdv)) := hr.mono (by decide)
    have hr_places : Room 1 (A.deeper (envOfC "checked" (defScope (top 8)) s.heap.objs.size f cdv)) := hr.mono (by decide)
    have hu : (A.deeper (envOfC "checked" (defScope (top 8)) s.heap.objs.size f cdv)).units + 1 < cLine := by have := hr.units; omega
    have hu0 : (A.deeper (envOfC "checked" (defScope (top 8)) s.heap.objs.size f cdv)).units < cLine := by omega
    refine ⟨_, (pss_cons (ps_if (pt_not (pt_val (pe_cal c_has_frame hr_has_frame rfl (pa_cons (pv 0) pa_nil)))) (pss_one (ps_raiseJ x_BadTable hr rfl rfl letsD_def (pa_cons pe_non pa_nil))) pss_nil)
      (pss_cons (ps_set (i := 1) sc_checked.nd rfl (by first | exact Or.inl rfl | exact Or.inr rfl) (pe_ix (ix_tupK (K := K) rfl) (pv 0) pe_int (fun _ _ => rfl)))
      (pss_cons (ps_set (i := 2) sc_checked.nd rfl (by first | exact Or.inl rfl | exact Or.inr rfl) (pe_ix (ix_tupK (K := K) rfl) (pv 0) pe_int (fun _ _ => rfl)))
      (pss_cons (ps_set (i := 3) sc_checked.nd rfl (by first | exact Or.inl rfl | exact Or.inr rfl) (pe_callTy (call_listK (K := K) rfl) (by rfl) T.list PyProof.Rows.boot_list (pa_cons (pe_ix (ix_tupK (K := K) rfl) (pv 0) pe_int (fun _ _ => rfl)) pa_nil)))
      (pss_cons (ps_set (i := 4) sc_checked.nd rfl (by first | exact Or.inl rfl | exact Or.inr rfl) pe_dnewT)
      (pss_cons (ps_for PassesOwn.leaving rfl (pi_enum (K := K) rfl rfl T.enumerate (pa_cons (pv 3) pa_nil)) (pg_tupK (K := K) (n := 2) rfl rfl (pgs_cons (pg_name (i := 5) sc_checked.nd rfl (by first | exact Or.inl rfl | exact Or.inr rfl)) (pgs_cons (pg_name (i := 6) sc_checked.nd rfl (by first | exact Or.inl rfl | exact Or.inr rfl)) pgs_nil))) (pss_cons (ps_if (PW.pt (pw_or (pt_not (pt_val (pe_cal c_is_cell hr_is_cell rfl (pa_cons (pv 6) pa_nil)))) (pw_or1 (pt_val (pe_cal c_sticks_out hr_sticks_out rfl (pa_cons (pv 6) (pa_cons (pv 1) (pa_cons (pv 2) pa_nil)))))))) (pss_one (ps_raiseJ x_BadTable hr rfl rfl letsD_def (pa_cons (pv 5) pa_nil))) pss_nil)
      (pss_cons (ps_if (PW.pt (pw_and (pt_cmpR op_gt (pv 5) pe_int (nomark _)) (pw_and1 (pt_cmpR (op_leT (K := K) rfl hu0) (pe_cal c_first_place hr_first_place rfl (pa_cons (pv 6) pa_nil)) (pe_cal c_first_place hr_first_place rfl (pa_cons (pe_ix (ix_listK (K := K) rfl) (pv 3) (pe_op op_sub (pv 5) pe_int) (fun _ _ => rfl)) pa_nil)) (nomark _))))) (pss_one (ps_raiseJ x_BadTable hr rfl rfl letsD_def (pa_cons (pv 5) pa_nil))) pss_nil)
      (pss_one (ps_for PassesOwn.leaving rfl (pi_listK (K := K) rfl (pe_cal c_places hr_places rfl (pa_cons (pv 6) pa_nil))) (pg_name (i := 7) sc_checked.nd rfl (by first | exact Or.inl rfl | exact Or.inr rfl)) (pss_cons (ps_if (pt_cmp (pc_din hu (pv 7) (pv 4)) (by rfl)) (pss_one (ps_raiseJ x_BadTable hr rfl rfl letsD_def (pa_cons (pv 5) pa_nil))) pss_nil)
      (pss_one (ps_dput hu (pv 4) (pv 7) pe_bl rfl))))))))
      (pss_cons (ps_if (pt_cmpR op_lt (pe_callB (call_lenDT (K := K) rfl) (by rfl) T.len PySem.boot_len (pa_cons (pv 4) pa_nil)) (pe_op op_mul (pv 1) (pv 2)) (nomark _)) (pss_one (ps_raiseJ x_BadTable hr rfl rfl letsD_def (pa_cons pe_non pa_nil))) pss_nil)
      (pss_one (ps_ret (pe_tup (pa_cons (pv 1) (pa_cons (pv 2) (pa_cons (pv 3) pa_nil))))))))))))), ?_⟩
    refine ⟨_, rfl, v, g, rfl, ag, fun H0 s0 => ?_⟩
    rcases hg with ⟨no, tell⟩ | ⟨R, C, cs, gs, rfl, R1, R2, C1, C2, lim, pt, ord, hend⟩
    · rw [no]
      exact ⟨false, rfl, iteT ⟨_, rfl, .inr rfl, fun dx hdx => tell dx _ (s0.trans (Same.upd_new hdx)) upd_same⟩⟩
    have yes : isFrameG (.tup [.int (R : Int), .int (C : Int), .lst gs]) = true := by
      show (decide ((1 : Int) ≤ R) && decide ((R : Int) ≤ 16) && (decide ((1 : Int) ≤ C) && decide ((C : Int) ≤ 16))) = true
      rw [decide_eq_true (by omega : (1 : Int) ≤ R), decide_eq_true (by omega : (R : Int) ≤ 16), decide_eq_true (by omega : (1 : Int) ≤ C), decide_eq_true (by omega : (C : Int) ≤ 16)]
      rfl
    rw [yes]
    refine ⟨true, rfl, iteF ?_⟩
    obtain ⟨p, xs, rfl, hp, rx⟩ := (ag.mono s0).tup_inv
    cases rx with
    | cons r1 rx =>
    cases rx with
    | cons r2 rx =>
    cases rx with
    | cons r3 rx =>
    cases rx
    obtain rfl := r1.int_inv
    obtain rfl := r2.int_inv
    obtain ⟨l, ys, rfl, hl, ry⟩ := r3.lst_inv
    have lx := ry.length
    have few := few300 pt R2 C2
    refine ⟨_, rfl, p, _, (0 : Int), _, rfl, rfl, SqT.of hp, rfl, ?_⟩
    refine ⟨_, rfl, p, _, (1 : Int), _, rfl, rfl, SqT.of hp, rfl, ?_⟩
    refine ⟨_, rfl, p, _, (2 : Int), _, rfl, rfl, SqT.of hp, rfl, l, ys, rfl, .inl (SqL.of hl), fun n hn => ?_⟩
    have s1 := Same.upd_new (o := .lst ys) hn
    have k1 := upd_same (H := H0) (a := n) (o := .lst ys)
    generalize hH1 : upd H0 n (.lst ys) = H1 at *
    have s01 := s0.trans s1
    refine fun d hd => ?_
    have s2 := Same.upd_new (o := .dT []) hd
    have k2 := upd_same (H := H1) (a := d) (o := .dT [])
    generalize hH2 : upd H1 d (.dT []) = H2 at *
    refine ⟨_, rfl, n, rfl, ⟨_, SqL.of (s2 _ _ k1)⟩, ?_⟩
    refine for_enum (K := K) (a := n) (xs := ys) (inv_ck H1 p n d R C cs) ⟨[], none, none, none, rfl, s2, k2, ⟨by simp, fun k hk => by simp at hk, fun r c => ⟨fun z => absurd rfl z, fun ⟨x, hx, _⟩ => by simp at hx⟩⟩, Nat.zero_le _⟩ (fun i σ H3 _ hI => ?_) ?_ ?_
    · obtain ⟨_, _, _, _, _, s3, _⟩ := hI
      exact SqL.of (s3 _ _ k1)
    · intro i x σ H3 tp hi hI htp
      refine ex_4 hI fun kv c5 c6 c7 hJ => ?_
      have eI := hJ.1
      have s3 := hJ.2.1
      have d3 := hJ.2.2.1
      have kv3 := hJ.2.2.2.1
      have hiC := hJ.2.2.2.2
      clear hI hJ
      subst eI
      have hiL := (List.getElem?_eq_some_iff.mp hi).1
      obtain ⟨gi, hgi, agi⟩ := Paired.get2 ry hi
      have s13 := s1.trans s3
      -- what is known of the thing at i
      have good : i < cs.length → ∃ X, cs[i]? = some X ∧ gi = X.G ∧ Fit R C X := fun z => by
        obtain ⟨X, hX⟩ : ∃ X, cs[i]? = some X := ⟨_, List.getElem?_eq_getElem z⟩
        refine ⟨X, hX, ?_, pt.fit X (List.mem_of_getElem? hX)⟩
        have : gs.take cs.length = cs.map Cell.G := by
          rcases hend with ⟨_, _, e, _⟩ | ⟨e, _⟩
          · exact e
          · rw [e, List.take_of_length_le (by rw [List.length_map]; exact Nat.le_refl _)]
        have e2 : (gs.take cs.length)[i]? = some gi := by rw [List.getElem?_take_of_lt z]; exact hgi
        rw [this, List.getElem?_map, hX] at e2
        exact (Option.some.inj e2).symm
      have bad : i = cs.length → Wrong R C cs gi ∧ Told H CX_BadTable i E := fun z => by
        rcases hend with ⟨x, e1, _, e3, e4⟩ | ⟨e, _⟩
        · rw [← z, hgi] at e1
          cases e1
          rw [z]
          exact ⟨e3, e4⟩
        · rw [e, List.getElem?_map, List.getElem?_eq_none (by omega)] at hgi
          cases hgi
      have tell : ¬ i < cs.length → Told H CX_BadTable i E := fun z => (bad (by omega)).2
      have prev : ∀ j, i = j + 1 → ∃ Y yv, cs[j]? = some Y ∧ ys[j]? = some yv ∧ At H0 Y.D yv := fun j hj => by
        obtain ⟨Y, hY⟩ : ∃ Y, cs[j]? = some Y := ⟨_, List.getElem?_eq_getElem (by omega)⟩
        have : gs.take cs.length = cs.map Cell.G := by
          rcases hend with ⟨_, _, e, _⟩ | ⟨e, _⟩
          · exact e
          · rw [e, List.take_of_length_le (by rw [List.length_map]; exact Nat.le_refl _)]
        have e2 : gs[j]? = some Y.G := by
          have : (gs.take cs.length)[j]? = some Y.G := by rw [this, List.getElem?_map, hY]; rfl
          rw [List.getElem?_take_of_lt (by omega)] at this
          exact this
        obtain ⟨yv, hyv, ay⟩ := Paired.get1 ry e2
        exact ⟨Y, yv, hY, hyv, Cell.ofG ay⟩
      have s4 := Same.upd_new (o := .tup [.int (i : Int), x]) htp
      have k4 := upd_same (H := H3) (a := tp) (o := .tup [.int (i : Int), x])
      generalize hH4 : upd H3 tp (.tup [.int (i : Int), x]) = H4 at *
      have s04 := (s0.trans s13).trans s4
      refine ⟨tp, _, rfl, SqT.of k4, rfl, _, _, rfl, _, _, rfl, rfl, ?_⟩
      refine ⟨_, rfl, x, gi, rfl, (agi.mono s13).mono s4, fun H5 s5 => ?_⟩
      have s05 := s04.trans s5
      cases ec : isCellG gi with
      | false =>
        refine ⟨false, rfl, iteT (iteT ⟨_, rfl, _, rfl, .inl ⟨_, rfl, small_log (by omega)⟩, fun dx hdx => ?_⟩)⟩
        refine tell (fun z => ?_) dx _ (s05.trans (Same.upd_new hdx)) upd_same
        obtain ⟨X, _, rfl, f⟩ := good z
        rw [cell_ok f.h1 f.w1 f.words] at ec
        cases ec
      | true =>
      refine ⟨true, rfl, iteF ?_⟩
      obtain ⟨X, rfl, x1, x2⟩ := cell_inv ec
      have ad0 : At H0 X.D x := Cell.ofG agi
      have ad5 : At H5 X.D x := (ad0.mono s13).mono (s4.trans s5)
      refine ⟨_, rfl, _, rfl, _, rfl, x, X, R, C, rfl, ad5, ?_⟩
      by_cases st : R < X.top + X.h ∨ C < X.left + X.w
      · rw [decide_eq_true st]
        refine ⟨true, rfl, iteT ⟨_, rfl, _, rfl, .inl ⟨_, rfl, small_log (by omega)⟩, fun dx hdx => ?_⟩⟩
        refine tell (fun z => ?_) dx _ (s05.trans (Same.upd_new hdx)) upd_same
        obtain ⟨Y, _, eY, f⟩ := good z
        have := cell_G_inj eY
        subst this
        have := f.down
        have := f.across
        omega
      rw [decide_eq_false st]
      refine ⟨false, rfl, iteF ?_⟩
      have f1 : X.top + X.h ≤ R := by omega
      have f2 : X.left + X.w ≤ C := by omega
      refine ⟨_, rfl, _, _, rfl, rfl, _, rfl, ?_⟩
      -- the order
      refine and_key2 (H := H5) (B := ∀ j Y, i = j + 1 → cs[j]? = some Y → Before Y X) (fun H6 s6 be => iteF ?_) (fun z j Y hj => absurd (by omega) z) (fun h0 k => ?_)
      case' refine_2 =>
        obtain ⟨j, rfl⟩ : ∃ j, i = j + 1 := ⟨i - 1, by omega⟩
        obtain ⟨Y, yv, hY, hyv, ay⟩ := prev j rfl
        have ej : ((j + 1 : Nat) : Int) - 1 = (j : Int) := by omega
        refine ⟨_, rfl, _, X, rfl, ad5, fun t7 H7 s7 k7 => ?_⟩
        have s37 := (s4.trans s5).trans s7
        refine ⟨_, rfl, _, rfl, _, _, rfl, rfl, n, _, ((j + 1 : Nat) : Int) - 1, yv, rfl, rfl, SqL.of (s37 _ _ (s3 _ _ k1)), by rw [ej]; exact atI_nat hyv, yv, Y, rfl, ay.mono (s13.trans s37), fun t8 H8 s8 k8 => ?_⟩
        by_cases be : Before Y X
        · refine ⟨t7, t8, [(X.top : Int), (X.left : Int)], [(Y.top : Int), (Y.left : Int)], rfl, rfl, SqT.of (s8 _ _ k7), SqT.of k8, false, ?_, k H8 (s7.trans s8) fun j' Y' hj' hY' => ?_⟩
          · exact congrArg V.bl (by rw [lex_le]; exact decide_eq_false fun z => z be)
          · have : j' = j := by omega
            subst this
            rw [hY] at hY'
            cases hY'
            exact be
        · refine ⟨t7, t8, [(X.top : Int), (X.left : Int)], [(Y.top : Int), (Y.left : Int)], rfl, rfl, SqT.of (s8 _ _ k7), SqT.of k8, true, ?_, iteT ⟨_, rfl, _, rfl, .inl ⟨_, rfl, small_log (by omega)⟩, fun dx hdx => ?_⟩⟩
          · exact congrArg V.bl (by rw [lex_le]; exact decide_eq_true be)
          · refine tell (fun z => ?_) dx _ (((s05.trans s7).trans s8).trans (Same.upd_new hdx)) upd_same
            obtain ⟨X', hX', eX, _⟩ := good z
            have := cell_G_inj eX
            subst this
            have hyl := (List.getElem?_eq_some_iff.mp hY)
            have := List.pairwise_iff_getElem.mp ord j (j + 1) hyl.1 z (by omega)
            rw [(List.getElem?_eq_some_iff.mp hX').2, hyl.2] at this
            exact be this
      have s46 := (s4.trans s5).trans s6
      have s06 := s05.trans s6
      refine ⟨_, rfl, _, X, rfl, ad5.mono s6, by omega, by omega, by omega, by omega, fun r xs H7 s7 h7 a7 => ⟨r, rfl, ⟨_, SqL.of h7⟩, ?_⟩⟩
      have s37 := s46.trans s7
      have hw : X.h * X.w ≤ 16 * 16 := Nat.mul_le_mul (by omega) (by omega)
      refine for_list (K := K) (a := r) (xs := xs) (inv_ck2 H1 H7 p n d r xs R C cs i X x) ⟨kv, c7, rfl, s3.trans s37, fun _ _ z => z, h7, s37 _ _ d3, kv3.same fun r c => ⟨fun z => .inl z, fun z => z.elim id fun ⟨k, hk, _⟩ => by omega⟩, fun k hk => absurd hk (Nat.not_lt_zero _)⟩ (fun j σ H8 _ hI => ?_) ?_ ?_
      · obtain ⟨_, _, _, _, _, z, _⟩ := hI
        exact SqL.of z
      · intro j v σ H8 hj hI
        refine ex_2 hI fun kv c7 hJ => ?_
        have eI := hJ.1
        have s8 := hJ.2.1
        have t8 := hJ.2.2.1
        have h8 := hJ.2.2.2.1
        have d8 := hJ.2.2.2.2.1
        have kv8 := hJ.2.2.2.2.2.1
        have no8 := hJ.2.2.2.2.2.2
        clear hI hJ
        subst eI
        obtain ⟨hjn, bj, rfl, hbj⟩ := place_at a7 hj
        have hin := place_in hjn
        have i1 := hin.2.1
        have i2 := hin.2.2.2
        have hb8 := t8 _ _ hbj
        dsimp only [gName]
        refine ⟨_, rfl, _, rfl, d, _, rfl, DGet.t (k := pl (X.top + j / X.w) (X.left + j % X.w)) d8 hb8, _, rfl, ?_⟩
        cases hv : valV kv (pl (X.top + j / X.w) (X.left + j % X.w)) with
        | some o =>
          refine iteT ⟨_, rfl, _, rfl, .inl ⟨_, rfl, small_log (by omega)⟩, fun dx hdx => ?_⟩
          refine tell (fun z => ?_) dx _ ((s01.trans s8).trans (Same.upd_new hdx)) upd_same
          have cv := (kv8.val _ _).mp (by rw [hv]; simp)
          obtain ⟨X', hX', eX, _⟩ := good z
          have := cell_G_inj eX
          subst this
          exact cv.elim (cov_apart pt hX' _ _ hin) fun ⟨k, hk, e1, e2⟩ => place_new hk e1 e2
        | none =>
          have hno : ¬ covP cs i X j (X.top + j / X.w) (X.left + j % X.w) := fun z => (kv8.val _ _).mpr z hv
          refine iteF ?_
          have kf := kv8.few (by omega) (by omega)
          obtain ⟨_, kvn⟩ := kv8.put hno (by omega) (by omega) (V.bl true)
          refine ⟨_, rfl, _, rfl, d, _, rfl, DPut.t (k := pl (X.top + j / X.w) (X.left + j % X.w)) d8 hb8 (small1000 (by omega)), ?_⟩
          refine ⟨_, some (.ref bj), rfl, fun b' o e => ?_, t8.trans (SameT.putD d8), ?_, upd_same, kvn.same fun r c => ?_, fun k hk => ?_⟩
          · rw [upd_ne (ne_of_none e hd)]
            exact s8 _ _ e
          · rw [upd_ne (ne_of h8 d8 (fun z => by cases z))]
            exact h8
          · constructor
            · rintro ((z | ⟨k, hk, e⟩) | ⟨rfl, rfl⟩)
              · exact .inl z
              · exact .inr ⟨k, by omega, e⟩
              · exact .inr ⟨j, by omega, rfl, rfl⟩
            · rintro (z | ⟨k, hk, e⟩)
              · exact .inl (.inl z)
              · by_cases z : k = j
                · rw [z] at e
                  exact .inr e
                · exact .inl (.inr ⟨k, by omega, e⟩)
          · by_cases z : k = j
            · subst z
              exact fun y => hno (.inl y)
            · exact no8 k (by omega)
      · intro σ H8 hI
        refine ex_2 hI fun kv c7 hJ => ?_
        have eI := hJ.1
        have s8 := hJ.2.1
        have d8 := hJ.2.2.2.2.1
        have kv8 := hJ.2.2.2.2.2.1
        have no8 := hJ.2.2.2.2.2.2
        clear hI hJ
        subst eI
        have la := a7.length
        rw [List.length_map, List.length_range] at la
        rw [← la] at kv8 no8
        have hlt : i < cs.length := by
          refine Classical.byContradiction fun z => ?_
          have ei : i = cs.length := by omega
          have tk : cs.take i = cs := by rw [ei, List.take_length]
          rcases (bad ei).1 with y | ⟨X', eX, y⟩
          · rw [ec] at y; cases y
          · have := cell_G_inj eX
            subst this
            rcases y with y | y | ⟨Y, hY, y⟩ | ⟨Y, hY, r0, c0, y1, y2⟩
            · omega
            · omega
            · have hpos : 0 < cs.length := by
                cases cs with
                | nil => cases hY
                | cons a as => simp
              have hg : cs[i - 1]? = some Y := by rw [List.getLast?_eq_getElem?] at hY; rw [ei]; exact hY
              exact y (be (i - 1) Y (by omega) hg)
            · obtain ⟨k, hk, hi2⟩ := part_cov y1
              obtain ⟨e1, e2⟩ := inC_part.mp hi2
              refine no8 k hk ⟨Y, by rw [tk]; exact hY, ?_⟩
              rw [← e1, ← e2]
              exact y2
        obtain ⟨X', hX', eX, _⟩ := good hlt
        have := cell_G_inj eX
        subst this
        exact ⟨kv, _, _, _, rfl, s8, d8, kv8.same (cov_whole hX'), hlt⟩
    · intro σ H3 hI
      refine ex_4 hI fun kv c5 c6 c7 hJ => ?_
      have eI := hJ.1
      have s3 := hJ.2.1
      have d3 := hJ.2.2.1
      have kv3 := hJ.2.2.2.1
      have hiC := hJ.2.2.2.2
      clear hI hJ
      subst eI
      rcases hend with ⟨x, e1, _⟩ | ⟨rfl, hend⟩
      · have := (List.getElem?_eq_some_iff.mp e1).1
        omega
      rw [List.length_map] at lx
      rw [← lx, List.take_length] at kv3
      have s03 := s01.trans s3
      refine ⟨_, rfl, d, kv, rfl, d3, _, rfl, _, rfl, _, _, rfl, rfl, .inl ⟨by omega, by omega⟩, _, _, rfl, rfl, _, rfl, ?_⟩
      rcases hend with ⟨⟨r0, c0, hr0, hc0, no⟩, tell⟩ | ⟨all, q⟩
      · have cnt := kv3.less hr0 hc0 no
        refine ite2 (fun _ => ?_) (fun z => absurd (decide_eq_true (by rw [← Int.natCast_mul]; omega)) z)
        exact ⟨_, rfl, .inr rfl, fun dx hdx => tell dx _ (s03.trans (Same.upd_new hdx)) upd_same⟩
      · have cnt := kv3.count all
        refine ite2 (fun z => absurd (of_decide_eq_true z) (by rw [cnt, Int.natCast_mul]; omega)) (fun _ => ?_)
        refine ⟨_, rfl, _, rfl, _, rfl, by show 3 ≤ sizeLine; decide, fun p2 hp2 => ?_⟩
        have s4 := Same.upd_new (o := .tup [.int (R : Int), .int (C : Int), .ref n]) hp2
        have hnH : H n = none := by
          cases e : H n with
          | none => rfl
          | some o => rw [s0 _ _ e] at hn; cases hn
        exact q _ n ys _ (s03.trans s4) hnH upd_same (s4 _ _ (s3 _ _ k1)) ((atD_of ry).mono ((s1.trans s3).trans s4))
end
end KL

set_option Elab.async false
set_option linter.all false
set_option autoImplicit false
set_option maxRecDepth 100000
namespace KL
open PySem L2 GT PyProof.Rows
/-! ### things that are no cells, things that are no tables -/
theorem by_nx {T : TS} {D : Ends} {σ : L2.St} {H : Hp} {P : L2.St → Hp → Prop} (k : ∀ N2 : L2.St → Hp → Prop, (∀ σ' H', P σ' H' → N2 σ' H') → T { D with nx := N2 } σ H) (h : ∀ σ' H', P σ' H' → D.nx σ' H') : T D σ H := k D.nx h
noncomputable def AllG (H : Hp) (PG : Thg → Prop) (xs : List V) : Prop := ∀ v ∈ xs, ∃ g, AtG H g v ∧ PG g
theorem allG_nil {H : Hp} {PG : Thg → Prop} : AllG H PG [] := fun v hv => by cases hv
theorem allG_cons {H : Hp} {PG : Thg → Prop} {v : V} {xs : List V} (h : ∃ g, AtG H g v ∧ PG g) (r : AllG H PG xs) : AllG H PG (v :: xs) := fun u hu => by
  rcases List.mem_cons.mp hu with rfl | hu
  · exact h
  · exact r u hu
theorem allG_app {H : Hp} {PG : Thg → Prop} {xs ys : List V} (h : AllG H PG xs) (r : AllG H PG ys) : AllG H PG (xs ++ ys) := fun u hu => (List.mem_append.mp hu).elim (h u) (r u)
theorem AllG.mono {H H' : Hp} {PG : Thg → Prop} {xs : List V} (h : AllG H PG xs) (s : Same H H') : AllG H' PG xs := fun u hu => by
  obtain ⟨g, a, p⟩ := h u hu
  exact ⟨g, a.mono s, p⟩
/-- the heap without the lists that were there before -/
noncomputable def offL (H G : Hp) : Hp := fun a => match H a with
  | some (.lst _) => none
  | _ => G a
theorem off_new {H G : Hp} {a : Addr} {o : HO} (h : H a = none) (e : G a = some o) : offL H G a = some o := by unfold offL; rw [h]; exact e
theorem off_tup {H G : Hp} {a : Addr} {xs : List V} {o : HO} (h : H a = some (.tup xs)) (e : G a = some o) : offL H G a = some o := by unfold offL; rw [h]; exact e
theorem offL_same {H G G' : Hp} (s : Same G G') : Same (offL H G) (offL H G') := fun a o e => by
  unfold offL at e ⊢
  split at e
  · cases e
  · exact s _ _ e
theorem off_put {H G : Hp} {l : Addr} {ys : List V} {o : HO} (h : H l = some (.lst ys)) : Same (offL H G) (upd G l o) := fun a u e => by
  unfold offL at e
  have ne : a ≠ l := fun z => by
    rw [z, h] at e
    cases e
  rw [upd_ne ne]
  split at e
  · cases e
  · exact e
theorem off_get {H G : Hp} {l : Addr} {ys : List V} (h : H l = some (.lst ys)) {a : Addr} {u : HO} (e : offL H G a = some u) : a ≠ l ∧ G a = some u := by
  unfold offL at e
  refine ⟨fun z => ?_, ?_⟩
  · rw [z, h] at e
    cases e
  · split at e
    · cases e
    · exact e
theorem free_of {H H' : Hp} {l : Addr} (s : Same H H') (h : H' l = none) : H l = none := by
  cases e : H l with
  | none => rfl
  | some o => rw [s _ _ e] at h; cases h
noncomputable def BadG (R C : Nat) (g : Thg) : Prop := isCellG g = false ∨ ∃ y : Cell, g = y.G ∧ (R < y.top + y.h ∨ C < y.left + y.w)
theorem BadG.wrong {R C : Nat} {cs : List Cell} {g : Thg} (h : BadG R C g) : Wrong R C cs g := h.elim .inl fun ⟨y, e, z⟩ => .inr ⟨y, e, z.elim .inl fun z => .inr (.inl z)⟩
theorem cell_false {a b c d : Int} {e : Thg} (h : ¬ (0 ≤ a ∧ 0 ≤ b ∧ 1 ≤ c ∧ 1 ≤ d)) : isCellG (.tup [.int a, .int b, .int c, .int d, e]) = false := by
  refine eq_false_of_ne_true fun z => h ?_
  have z : (decide (0 ≤ a) && decide (0 ≤ b) && decide (1 ≤ c) && decide (1 ≤ d) && areWordsG e) = true := z
  simp only [Bool.and_eq_true, decide_eq_true_eq] at z
  exact ⟨z.1.1.1.1, z.1.1.1.2, z.1.1.2, z.1.2⟩
theorem cell_wfalse {a b c d : Int} {e : Thg} (h : areWordsG e = false) : isCellG (.tup [.int a, .int b, .int c, .int d, e]) = false := by
  show (decide (0 ≤ a) && decide (0 ≤ b) && decide (1 ≤ c) && decide (1 ≤ d) && areWordsG e) = false
  rw [h, Bool.and_false]
theorem bad_wide {R C : Nat} (x : Cell) (h : x.left ≤ C) : ∃ y : Cell, Thg.tup [.int (x.top : Int), .int (x.left : Int), .int (x.h : Int), .int ((C : Int) - (x.left : Int) + 1), .tup (x.words.map Thg.str)] = y.G ∧ (R < y.top + y.h ∨ C < y.left + y.w) := by
  refine ⟨⟨x.top, x.left, x.h, C - x.left + 1, x.words⟩, ?_, .inr (by show C < x.left + (C - x.left + 1); omega)⟩
  have e : ((C - x.left + 1 : Nat) : Int) = (C : Int) - (x.left : Int) + 1 := by omega
  show _ = Thg.tup [.int (x.top : Int), .int (x.left : Int), .int (x.h : Int), .int ((C - x.left + 1 : Nat) : Int), .tup (x.words.map Thg.str)]
  rw [e]
theorem bad_tall {R C : Nat} (x : Cell) (h : x.top ≤ R) : ∃ y : Cell, Thg.tup [.int (x.top : Int), .int (x.left : Int), .int ((R : Int) - (x.top : Int) + 1), .int (x.w : Int), .tup (x.words.map Thg.str)] = y.G ∧ (R < y.top + y.h ∨ C < y.left + y.w) := by
  refine ⟨⟨x.top, x.left, R - x.top + 1, x.w, x.words⟩, ?_, .inl (by show R < x.top + (R - x.top + 1); omega)⟩
  have e : ((R - x.top + 1 : Nat) : Int) = (R : Int) - (x.top : Int) + 1 := by omega
  show _ = Thg.tup [.int (x.top : Int), .int (x.left : Int), .int ((R - x.top + 1 : Nat) : Int), .int (x.w : Int), .tup (x.words.map Thg.str)]
  rw [e]
theorem repG {H : Hp} : ∀ n : Nat, AtGL H (List.replicate n (Thg.str (Str.ofString "a"))) (List.replicate n (V.str (Str.ofString "a")))
  | 0 => .nil
  | n + 1 => .cons (.str _ (by decide +kernel)) (repG n)
noncomputable def spSpoilt : Sp := fun vs H Q _ => ∃ (v u : V) (way : Int) (R C : Nat) (x : Cell) (tl : V) (p : Addr), vs = [v, u, .int way] ∧ v = .ref p ∧ H p = some (.tup [.int R, .int C, tl]) ∧ At H x.D u ∧ Fit R C x ∧ R ≤ 17 ∧ C ≤ 17 ∧
  ∀ v' g H', Same H H' → AtG (offL H H') g v' → BadG R C g → Q v' H'
section
variable {P : Program} {w : World} {K : PySem.W.Frag} {mg : Str → Option Value} {base : Heap}
theorem sc__law_spoilt : FnScope ["_law_table_here", "_law_cell_here", "_law_way", "_law_top", "_law_left", "_law_height", "_law_width", "_law_words_here", "_law_some"] ["_law_table_here", "_law_cell_here", "_law_way"] (defScope (top 30)) := ⟨rfl, rfl, rfl, by decide +kernel, rfl, by decide +kernel, by decide +kernel⟩
set_option maxHeartbeats 4000000 in
theorem ok__law_spoilt (T : Txt mg) (f : Addr) (fd : FuncData) (F : Fun K "_law_spoilt" "_law_spoilt" (top 30) f fd) : FnOk P w K mg base CX0 1 f fd ["_law_table_here", "_law_cell_here", "_law_way"] spSpoilt := by
  refine F.ok sc__law_spoilt (fun vs H Q E h => ?_) (fun cdv A outer s H vs Q E hr h => ?_)
  · obtain ⟨v, u, way, R, C, x, tl, p, rfl, _⟩ := h; rfl
  · obtain ⟨v, u, way, R, C, x, tl, p, rfl, hv, hp, hx, fx, R2, C2, q⟩ := h
    subst hv
    obtain ⟨b, wb, rfl, hb, hwb⟩ := cellw_inv hx
    have wsm := fx.words.small
    have awb : AtG (offL H H) (.tup (x.words.map Thg.str)) (.ref wb) := .tup (off_tup hwb hwb) (strsG_at wsm)
    have f1 := fx.down
    have f2 := fx.across
    have hxl : x.left ≤ C := by omega
    have hxt : x.top ≤ R := by omega
    have stl : (Str.ofString (toString (x.top : Int))).length ≤ 1000 := by
      have : ∀ n : Nat, n ≤ 17 → (Str.ofString (toString (n : Int))).length ≤ 1000 := by decide +kernel
      exact this x.top (by omega)
    refine ⟨_, (pss_cons (ps_asg (pv 1) (pg_tupK (K := K) (n := 5) rfl rfl (pgs_cons (pg_name (i := 3) sc__law_spoilt.nd rfl (by first | exact Or.inl rfl | exact Or.inr rfl)) (pgs_cons (pg_name (i := 4) sc__law_spoilt.nd rfl (by first | exact Or.inl rfl | exact Or.inr rfl)) (pgs_cons (pg_name (i := 5) sc__law_spoilt.nd rfl (by first | exact Or.inl rfl | exact Or.inr rfl)) (pgs_cons (pg_name (i := 6) sc__law_spoilt.nd rfl (by first | exact Or.inl rfl | exact Or.inr rfl)) (pgs_cons (pg_name (i := 7) sc__law_spoilt.nd rfl (by first | exact Or.inl rfl | exact Or.inr rfl)) pgs_nil)))))))
      (pss_cons (ps_set (i := 8) sc__law_spoilt.nd rfl (by first | exact Or.inl rfl | exact Or.inr rfl) (pe_lst (pa_cons (pe_tup (pa_cons (pv 3) (pa_cons (pv 4) (pa_cons (pv 5) (pa_cons (pv 6) pa_nil))))) (pa_cons (pe_lst (pa_cons (pv 3) (pa_cons (pv 4) (pa_cons (pv 5) (pa_cons (pv 6) (pa_cons (pv 7) pa_nil)))))) (pa_cons (pe_tup (pa_cons (pv 3) (pa_cons (pv 4) (pa_cons pe_int (pa_cons (pv 6) (pa_cons (pv 7) pa_nil)))))) pa_nil)))))
      (pss_cons (ps_set (i := 8) sc__law_spoilt.nd rfl (by first | exact Or.inl rfl | exact Or.inr rfl) (pe_op op_cat (pv 8) (pe_lst (pa_cons (pe_tup (pa_cons (pv 3) (pa_cons (pv 4) (pa_cons (pv 5) (pa_cons (pe_op op_add (pe_op op_sub (pe_ix (ix_tupK (K := K) rfl) (pv 0) pe_int (fun _ _ => rfl)) (pv 4)) pe_int) (pa_cons (pv 7) pa_nil)))))) (pa_cons (pe_tup (pa_cons pe_bl (pa_cons (pv 4) (pa_cons (pv 5) (pa_cons (pv 6) (pa_cons (pv 7) pa_nil)))))) pa_nil)))))
      (pss_cons (ps_set (i := 8) sc__law_spoilt.nd rfl (by first | exact Or.inl rfl | exact Or.inr rfl) (pe_op op_cat (pv 8) (pe_lst (pa_cons (pe_tup (pa_cons (pv 3) (pa_cons (pv 4) (pa_cons (pe_op op_add (pe_op op_sub (pe_ix (ix_tupK (K := K) rfl) (pv 0) pe_int (fun _ _ => rfl)) (pv 3)) pe_int) (pa_cons (pv 6) (pa_cons (pv 7) pa_nil)))))) pa_nil))))
      (pss_cons (ps_set (i := 8) sc__law_spoilt.nd rfl (by first | exact Or.inl rfl | exact Or.inr rfl) (pe_op op_cat (pv 8) (pe_lst (pa_cons (pe_tup (pa_cons (pv 3) (pa_cons (pv 4) (pa_cons (pv 5) (pa_cons (pv 6) (pa_cons (pe_callTy (call_listK (K := K) rfl) (by rfl) T.list PyProof.Rows.boot_list (pa_cons (pv 7) pa_nil)) pa_nil)))))) (pa_cons (pe_tup (pa_cons (pv 3) (pa_cons (pv 4) (pa_cons (pv 5) (pa_cons (pv 6) (pa_cons (pe_tup (pa_cons pe_str pa_nil)) pa_nil)))))) pa_nil)))))
      (pss_cons (ps_set (i := 8) sc__law_spoilt.nd rfl (by first | exact Or.inl rfl | exact Or.inr rfl) (pe_op op_cat (pv 8) (pe_lst (pa_cons (pe_tup (pa_cons (pv 3) (pa_cons (pv 4) (pa_cons (pv 5) (pa_cons (pv 6) (pa_cons (pe_tup (pa_cons pe_str pa_nil)) pa_nil)))))) (pa_cons (pe_tup (pa_cons (pv 3) (pa_cons (pv 4) (pa_cons (pv 5) (pa_cons (pv 6) (pa_cons (pe_tup (pa_cons pe_str pa_nil)) pa_nil)))))) pa_nil)))))
      (pss_cons (ps_set (i := 8) sc__law_spoilt.nd rfl (by first | exact Or.inl rfl | exact Or.inr rfl) (pe_op op_cat (pv 8) (pe_lst (pa_cons (pe_tup (pa_cons (pv 3) (pa_cons (pv 4) (pa_cons (pv 5) (pa_cons (pv 6) (pa_cons (pe_op (op_repTK (K := K) rfl) (pe_tup (pa_cons pe_str pa_nil)) pe_int) pa_nil)))))) (pa_cons (pe_tup (pa_cons (pv 3) (pa_cons (pv 4) (pa_cons (pv 5) (pa_cons (pv 6) (pa_cons (pe_tup (pa_cons pe_int pa_nil)) pa_nil)))))) (pa_cons pe_non pa_nil))))))
      (pss_cons (ps_set (i := 8) sc__law_spoilt.nd rfl (by first | exact Or.inl rfl | exact Or.inr rfl) (pe_op op_cat (pv 8) (pe_lst (pa_cons (pe_tup (pa_cons (pe_callTy call_strI (by rfl) T.str PyProof.Rows.boot_str (pa_cons (pv 3) pa_nil)) (pa_cons (pv 4) (pa_cons (pv 5) (pa_cons (pv 6) (pa_cons (pv 7) pa_nil)))))) (pa_cons (pe_tup (pa_cons (pv 3) (pa_cons pe_non (pa_cons (pv 5) (pa_cons (pv 6) (pa_cons (pv 7) pa_nil)))))) pa_nil)))))
      (pss_cons (ps_set (i := 8) sc__law_spoilt.nd rfl (by first | exact Or.inl rfl | exact Or.inr rfl) (pe_op op_cat (pv 8) (pe_lst (pa_cons (pe_tup (pa_cons (pv 3) (pa_cons (pv 4) (pa_cons (pv 5) (pa_cons (pe_tup (pa_cons pe_int pa_nil)) (pa_cons (pv 7) pa_nil)))))) (pa_cons (pe_tup (pa_cons (pe_op op_sub (pe_op op_sub pe_int pe_int) (pv 3)) (pa_cons (pv 4) (pa_cons pe_int (pa_cons pe_int (pa_cons (pv 7) pa_nil)))))) pa_nil)))))
      (pss_cons (ps_set (i := 8) sc__law_spoilt.nd rfl (by first | exact Or.inl rfl | exact Or.inr rfl) (pe_op op_cat (pv 8) (pe_lst (pa_cons (pe_tup (pa_cons (pv 3) (pa_cons (pe_op op_sub pe_int pe_int) (pa_cons (pv 5) (pa_cons pe_int (pa_cons (pv 7) pa_nil)))))) (pa_cons (pe_tup (pa_cons (pv 3) (pa_cons (pv 4) (pa_cons (pe_lst (pa_cons (pv 5) pa_nil)) (pa_cons (pv 6) (pa_cons (pv 7) pa_nil)))))) pa_nil)))))
      (pss_cons (ps_set (i := 8) sc__law_spoilt.nd rfl (by first | exact Or.inl rfl | exact Or.inr rfl) (pe_op op_cat (pv 8) (pe_lst (pa_cons (pe_tup (pa_cons (pv 3) (pa_cons (pv 4) (pa_cons (pv 5) (pa_cons (pv 6) (pa_cons (pe_tup (pa_cons pe_str pa_nil)) pa_nil)))))) (pa_cons (pe_tup (pa_cons (pv 3) (pa_cons (pv 4) (pa_cons (pv 5) (pa_cons (pv 6) (pa_cons (pe_tup (pa_cons pe_str pa_nil)) pa_nil)))))) pa_nil)))))
      (pss_one (ps_ret (pe_ix (ix_listK (K := K) rfl) (pv 8) (pe_op op_mod (pv 2) pe_int) (fun _ _ => rfl))))))))))))))), ?_⟩
    refine ⟨_, rfl, b, _, rfl, SqT.of hb, rfl, _, _, rfl, _, _, rfl, _, _, rfl, _, _, rfl, _, _, rfl, rfl, ?_⟩
    have s0 : Same H H := fun _ _ z => z
    dsimp only [gName, tSeq]
    refine by_nx (T := tAsg _ _) (P := fun σ G => ∃ (ll : Addr) (xs : List V), σ = [some (.ref p), some (.ref b), some (.int way), some (.int (x.top : Int)), some (.int (x.left : Int)), some (.int (x.h : Int)), some (.int (x.w : Int)), some (.ref wb), some (.ref ll)] ∧ Same H G ∧ G ll = some (.lst xs) ∧ xs.length = 3 ∧ AllG (offL H G) (BadG R C) xs) (fun N2 k2 => ?_) ?_
    · skip
      have hp := s0 _ _ hp
      have hwb := s0 _ _ hwb
      have awb := awb.mono (offL_same (H := H) s0)
      refine ⟨_, rfl, _, rfl, _, rfl, _, rfl, by show 4 ≤ sizeLine; decide, fun t1 ht1 => ?_⟩
      have w1 := Same.upd_new (o := .tup [V.int (x.top : Int), V.int (x.left : Int), V.int (x.h : Int), V.int (x.w : Int)]) ht1
      have q1 := upd_same (H := H) (a := t1) (o := .tup [V.int (x.top : Int), V.int (x.left : Int), V.int (x.h : Int), V.int (x.w : Int)])
      generalize upd H t1 (.tup [V.int (x.top : Int), V.int (x.left : Int), V.int (x.h : Int), V.int (x.w : Int)]) = G1 at *
      refine ⟨_, rfl, _, rfl, _, rfl, _, rfl, _, rfl, by show 5 ≤ sizeLine; decide, fun t2 ht2 => ?_⟩
      have w2 := Same.upd_new (o := .lst [V.int (x.top : Int), V.int (x.left : Int), V.int (x.h : Int), V.int (x.w : Int), V.ref wb]) ht2
      have q2 := upd_same (H := G1) (a := t2) (o := .lst [V.int (x.top : Int), V.int (x.left : Int), V.int (x.h : Int), V.int (x.w : Int), V.ref wb])
      generalize upd G1 t2 (.lst [V.int (x.top : Int), V.int (x.left : Int), V.int (x.h : Int), V.int (x.w : Int), V.ref wb]) = G2 at *
      refine ⟨_, rfl, _, rfl, _, rfl, _, rfl, by show 5 ≤ sizeLine; decide, fun t3 ht3 => ?_⟩
      have w3 := Same.upd_new (o := .tup [V.int (x.top : Int), V.int (x.left : Int), V.int 0, V.int (x.w : Int), V.ref wb]) ht3
      have q3 := upd_same (H := G2) (a := t3) (o := .tup [V.int (x.top : Int), V.int (x.left : Int), V.int 0, V.int (x.w : Int), V.ref wb])
      generalize upd G2 t3 (.tup [V.int (x.top : Int), V.int (x.left : Int), V.int 0, V.int (x.w : Int), V.ref wb]) = G3 at *
      refine ⟨by show 3 ≤ sizeLine; decide, fun t4 ht4 => ?_⟩
      have w4 := Same.upd_new (o := .lst [V.ref t1, V.ref t2, V.ref t3]) ht4
      have q4 := upd_same (H := G3) (a := t4) (o := .lst [V.ref t1, V.ref t2, V.ref t3])
      generalize upd G3 t4 (.lst [V.ref t1, V.ref t2, V.ref t3]) = G4 at *
      have z4 : Same G4 G4 := fun _ _ z => z
      have z3 := w4.trans z4
      have z2 := w3.trans z3
      have z1 := w2.trans z2
      have z0 := w1.trans z1
      have f1 := free_of (s0) ht1
      have f2 := free_of (s0.trans w1) ht2
      have f3 := free_of ((s0.trans w1).trans w2) ht3
      have f4 := free_of (((s0.trans w1).trans w2).trans w3) ht4
      have zz := offL_same (H := H) z0
      exact k2 _ _ ⟨t4, _, rfl, s0.trans z0, q4, rfl, allG_cons ⟨Thg.tup [Thg.int (x.top : Int), Thg.int (x.left : Int), Thg.int (x.h : Int), Thg.int (x.w : Int)], .tup (off_new f1 (z1 _ _ q1)) (.cons (.int _) (.cons (.int _) (.cons (.int _) (.cons (.int _) (.nil))))), .inl rfl⟩ (allG_cons ⟨Thg.lst [Thg.int (x.top : Int), Thg.int (x.left : Int), Thg.int (x.h : Int), Thg.int (x.w : Int), Thg.tup (x.words.map Thg.str)], .lst (off_new f2 (z2 _ _ q2)) (.cons (.int _) (.cons (.int _) (.cons (.int _) (.cons (.int _) (.cons ((awb.mono zz)) (.nil)))))), .inl rfl⟩ (allG_cons ⟨Thg.tup [Thg.int (x.top : Int), Thg.int (x.left : Int), Thg.int 0, Thg.int (x.w : Int), Thg.tup (x.words.map Thg.str)], .tup (off_new f3 (z3 _ _ q3)) (.cons (.int _) (.cons (.int _) (.cons (.int _) (.cons (.int _) (.cons ((awb.mono zz)) (.nil)))))), .inl (cell_false (by omega))⟩ (allG_nil)))⟩
    clear s0
    rintro _ G0 ⟨ll, xs, rfl, s0, hll, lll, agl⟩
    dsimp only [gName, tSeq]
    refine by_nx (T := tAsg _ _) (P := fun σ G => ∃ (ll : Addr) (xs : List V), σ = [some (.ref p), some (.ref b), some (.int way), some (.int (x.top : Int)), some (.int (x.left : Int)), some (.int (x.h : Int)), some (.int (x.w : Int)), some (.ref wb), some (.ref ll)] ∧ Same H G ∧ G ll = some (.lst xs) ∧ xs.length = 5 ∧ AllG (offL H G) (BadG R C) xs) (fun N2 k2 => ?_) ?_
    · skip
      have hp := s0 _ _ hp
      have hwb := s0 _ _ hwb
      have awb := awb.mono (offL_same (H := H) s0)
      skip
      refine ⟨_, rfl, _, rfl, _, rfl, _, rfl, _, rfl, p, _, (1 : Int), _, rfl, rfl, SqT.of (hp), rfl, _, rfl, _, _, rfl, rfl, _, _, rfl, rfl, _, rfl, by show 5 ≤ sizeLine; decide, fun t1 ht1 => ?_⟩
      dsimp only
      have w1 := Same.upd_new (o := .tup [V.int (x.top : Int), V.int (x.left : Int), V.int (x.h : Int), V.int (((C : Int) - (x.left : Int)) + 1), V.ref wb]) ht1
      have q1 := upd_same (H := G0) (a := t1) (o := .tup [V.int (x.top : Int), V.int (x.left : Int), V.int (x.h : Int), V.int (((C : Int) - (x.left : Int)) + 1), V.ref wb])
      generalize upd G0 t1 (.tup [V.int (x.top : Int), V.int (x.left : Int), V.int (x.h : Int), V.int (((C : Int) - (x.left : Int)) + 1), V.ref wb]) = G1 at *
      refine ⟨_, rfl, _, rfl, _, rfl, _, rfl, by show 5 ≤ sizeLine; decide, fun t2 ht2 => ?_⟩
      have w2 := Same.upd_new (o := .tup [V.bl true, V.int (x.left : Int), V.int (x.h : Int), V.int (x.w : Int), V.ref wb]) ht2
      have q2 := upd_same (H := G1) (a := t2) (o := .tup [V.bl true, V.int (x.left : Int), V.int (x.h : Int), V.int (x.w : Int), V.ref wb])
      generalize upd G1 t2 (.tup [V.bl true, V.int (x.left : Int), V.int (x.h : Int), V.int (x.w : Int), V.ref wb]) = G2 at *
      refine ⟨by show 2 ≤ sizeLine; decide, fun t3 ht3 => ?_⟩
      have w3 := Same.upd_new (o := .lst [V.ref t1, V.ref t2]) ht3
      have q3 := upd_same (H := G2) (a := t3) (o := .lst [V.ref t1, V.ref t2])
      generalize upd G2 t3 (.lst [V.ref t1, V.ref t2]) = G3 at *
      refine ⟨ll, t3, _, _, rfl, rfl, w3 _ _ (w2 _ _ (w1 _ _ (hll))), q3, small200 (by rw [lll]; simp), fun t4 ht4 => ?_⟩
      have w4 := Same.upd_new (o := .lst (xs ++ [V.ref t1, V.ref t2])) ht4
      have q4 := upd_same (H := G3) (a := t4) (o := .lst (xs ++ [V.ref t1, V.ref t2]))
      generalize upd G3 t4 (.lst (xs ++ [V.ref t1, V.ref t2])) = G4 at *
      have z4 : Same G4 G4 := fun _ _ z => z
      have z3 := w4.trans z4
      have z2 := w3.trans z3
      have z1 := w2.trans z2
      have z0 := w1.trans z1
      have f1 := free_of (s0) ht1
      have f2 := free_of (s0.trans w1) ht2
      have f3 := free_of ((s0.trans w1).trans w2) ht3
      have f4 := free_of (((s0.trans w1).trans w2).trans w3) ht4
      have zz := offL_same (H := H) z0
      exact k2 _ _ ⟨t4, _, rfl, s0.trans z0, q4, by rw [List.length_append, lll]; rfl, allG_app (agl.mono zz) (allG_cons ⟨Thg.tup [Thg.int (x.top : Int), Thg.int (x.left : Int), Thg.int (x.h : Int), Thg.int (((C : Int) - (x.left : Int)) + 1), Thg.tup (x.words.map Thg.str)], .tup (off_new f1 (z1 _ _ q1)) (.cons (.int _) (.cons (.int _) (.cons (.int _) (.cons (.int _) (.cons ((awb.mono zz)) (.nil)))))), .inr (bad_wide x hxl)⟩ (allG_cons ⟨Thg.tup [Thg.bl true, Thg.int (x.left : Int), Thg.int (x.h : Int), Thg.int (x.w : Int), Thg.tup (x.words.map Thg.str)], .tup (off_new f2 (z2 _ _ q2)) (.cons (.bl _) (.cons (.int _) (.cons (.int _) (.cons (.int _) (.cons ((awb.mono zz)) (.nil)))))), .inl rfl⟩ (allG_nil)))⟩
    clear hll agl lll s0 ll xs G0
    rintro _ G0 ⟨ll, xs, rfl, s0, hll, lll, agl⟩
    dsimp only [gName, tSeq]
    refine by_nx (T := tAsg _ _) (P := fun σ G => ∃ (ll : Addr) (xs : List V), σ = [some (.ref p), some (.ref b), some (.int way), some (.int (x.top : Int)), some (.int (x.left : Int)), some (.int (x.h : Int)), some (.int (x.w : Int)), some (.ref wb), some (.ref ll)] ∧ Same H G ∧ G ll = some (.lst xs) ∧ xs.length = 6 ∧ AllG (offL H G) (BadG R C) xs) (fun N2 k2 => ?_) ?_
    · skip
      have hp := s0 _ _ hp
      have hwb := s0 _ _ hwb
      have awb := awb.mono (offL_same (H := H) s0)
      skip
      refine ⟨_, rfl, _, rfl, _, rfl, _, rfl, p, _, (0 : Int), _, rfl, rfl, SqT.of (hp), rfl, _, rfl, _, _, rfl, rfl, _, _, rfl, rfl, _, rfl, _, rfl, by show 5 ≤ sizeLine; decide, fun t1 ht1 => ?_⟩
      dsimp only
      have w1 := Same.upd_new (o := .tup [V.int (x.top : Int), V.int (x.left : Int), V.int (((R : Int) - (x.top : Int)) + 1), V.int (x.w : Int), V.ref wb]) ht1
      have q1 := upd_same (H := G0) (a := t1) (o := .tup [V.int (x.top : Int), V.int (x.left : Int), V.int (((R : Int) - (x.top : Int)) + 1), V.int (x.w : Int), V.ref wb])
      generalize upd G0 t1 (.tup [V.int (x.top : Int), V.int (x.left : Int), V.int (((R : Int) - (x.top : Int)) + 1), V.int (x.w : Int), V.ref wb]) = G1 at *
      refine ⟨by show 1 ≤ sizeLine; decide, fun t2 ht2 => ?_⟩
      have w2 := Same.upd_new (o := .lst [V.ref t1]) ht2
      have q2 := upd_same (H := G1) (a := t2) (o := .lst [V.ref t1])
      generalize upd G1 t2 (.lst [V.ref t1]) = G2 at *
      refine ⟨ll, t2, _, _, rfl, rfl, w2 _ _ (w1 _ _ (hll)), q2, small200 (by rw [lll]; simp), fun t3 ht3 => ?_⟩
      have w3 := Same.upd_new (o := .lst (xs ++ [V.ref t1])) ht3
      have q3 := upd_same (H := G2) (a := t3) (o := .lst (xs ++ [V.ref t1]))
      generalize upd G2 t3 (.lst (xs ++ [V.ref t1])) = G3 at *
      have z3 : Same G3 G3 := fun _ _ z => z
      have z2 := w3.trans z3
      have z1 := w2.trans z2
      have z0 := w1.trans z1
      have f1 := free_of (s0) ht1
      have f2 := free_of (s0.trans w1) ht2
      have f3 := free_of ((s0.trans w1).trans w2) ht3
      have zz := offL_same (H := H) z0
      exact k2 _ _ ⟨t3, _, rfl, s0.trans z0, q3, by rw [List.length_append, lll]; rfl, allG_app (agl.mono zz) (allG_cons ⟨Thg.tup [Thg.int (x.top : Int), Thg.int (x.left : Int), Thg.int (((R : Int) - (x.top : Int)) + 1), Thg.int (x.w : Int), Thg.tup (x.words.map Thg.str)], .tup (off_new f1 (z1 _ _ q1)) (.cons (.int _) (.cons (.int _) (.cons (.int _) (.cons (.int _) (.cons ((awb.mono zz)) (.nil)))))), .inr (bad_tall x hxt)⟩ (allG_nil))⟩
    clear hll agl lll s0 ll xs G0
    rintro _ G0 ⟨ll, xs, rfl, s0, hll, lll, agl⟩
    dsimp only [gName, tSeq]
    refine by_nx (T := tAsg _ _) (P := fun σ G => ∃ (ll : Addr) (xs : List V), σ = [some (.ref p), some (.ref b), some (.int way), some (.int (x.top : Int)), some (.int (x.left : Int)), some (.int (x.h : Int)), some (.int (x.w : Int)), some (.ref wb), some (.ref ll)] ∧ Same H G ∧ G ll = some (.lst xs) ∧ xs.length = 8 ∧ AllG (offL H G) (BadG R C) xs) (fun N2 k2 => ?_) ?_
    · skip
      have hp := s0 _ _ hp
      have hwb := s0 _ _ hwb
      have awb := awb.mono (offL_same (H := H) s0)
      skip
      refine ⟨_, rfl, _, rfl, _, rfl, _, rfl, _, rfl, _, rfl, wb, _, rfl, .inr (SqT.of (hwb)), fun t1 ht1 => ?_⟩
      have w1 := Same.upd_new (o := .lst (x.words.map V.str)) ht1
      have q1 := upd_same (H := G0) (a := t1) (o := .lst (x.words.map V.str))
      generalize upd G0 t1 (.lst (x.words.map V.str)) = G1 at *
      refine ⟨by show 5 ≤ sizeLine; decide, fun t2 ht2 => ?_⟩
      have w2 := Same.upd_new (o := .tup [V.int (x.top : Int), V.int (x.left : Int), V.int (x.h : Int), V.int (x.w : Int), V.ref t1]) ht2
      have q2 := upd_same (H := G1) (a := t2) (o := .tup [V.int (x.top : Int), V.int (x.left : Int), V.int (x.h : Int), V.int (x.w : Int), V.ref t1])
      generalize upd G1 t2 (.tup [V.int (x.top : Int), V.int (x.left : Int), V.int (x.h : Int), V.int (x.w : Int), V.ref t1]) = G2 at *
      refine ⟨_, rfl, _, rfl, _, rfl, _, rfl, by show 1 ≤ sizeLine; decide, fun t3 ht3 => ?_⟩
      have w3 := Same.upd_new (o := .tup [V.str (Str.ofString "a b")]) ht3
      have q3 := upd_same (H := G2) (a := t3) (o := .tup [V.str (Str.ofString "a b")])
      generalize upd G2 t3 (.tup [V.str (Str.ofString "a b")]) = G3 at *
      refine ⟨by show 5 ≤ sizeLine; decide, fun t4 ht4 => ?_⟩
      have w4 := Same.upd_new (o := .tup [V.int (x.top : Int), V.int (x.left : Int), V.int (x.h : Int), V.int (x.w : Int), V.ref t3]) ht4
      have q4 := upd_same (H := G3) (a := t4) (o := .tup [V.int (x.top : Int), V.int (x.left : Int), V.int (x.h : Int), V.int (x.w : Int), V.ref t3])
      generalize upd G3 t4 (.tup [V.int (x.top : Int), V.int (x.left : Int), V.int (x.h : Int), V.int (x.w : Int), V.ref t3]) = G4 at *
      refine ⟨by show 2 ≤ sizeLine; decide, fun t5 ht5 => ?_⟩
      have w5 := Same.upd_new (o := .lst [V.ref t2, V.ref t4]) ht5
      have q5 := upd_same (H := G4) (a := t5) (o := .lst [V.ref t2, V.ref t4])
      generalize upd G4 t5 (.lst [V.ref t2, V.ref t4]) = G5 at *
      refine ⟨ll, t5, _, _, rfl, rfl, w5 _ _ (w4 _ _ (w3 _ _ (w2 _ _ (w1 _ _ (hll))))), q5, small200 (by rw [lll]; simp), fun t6 ht6 => ?_⟩
      have w6 := Same.upd_new (o := .lst (xs ++ [V.ref t2, V.ref t4])) ht6
      have q6 := upd_same (H := G5) (a := t6) (o := .lst (xs ++ [V.ref t2, V.ref t4]))
      generalize upd G5 t6 (.lst (xs ++ [V.ref t2, V.ref t4])) = G6 at *
      have z6 : Same G6 G6 := fun _ _ z => z
      have z5 := w6.trans z6
      have z4 := w5.trans z5
      have z3 := w4.trans z4
      have z2 := w3.trans z3
      have z1 := w2.trans z2
      have z0 := w1.trans z1
      have f1 := free_of (s0) ht1
      have f2 := free_of (s0.trans w1) ht2
      have f3 := free_of ((s0.trans w1).trans w2) ht3
      have f4 := free_of (((s0.trans w1).trans w2).trans w3) ht4
      have f5 := free_of ((((s0.trans w1).trans w2).trans w3).trans w4) ht5
      have f6 := free_of (((((s0.trans w1).trans w2).trans w3).trans w4).trans w5) ht6
      have zz := offL_same (H := H) z0
      exact k2 _ _ ⟨t6, _, rfl, s0.trans z0, q6, by rw [List.length_append, lll]; rfl, allG_app (agl.mono zz) (allG_cons ⟨Thg.tup [Thg.int (x.top : Int), Thg.int (x.left : Int), Thg.int (x.h : Int), Thg.int (x.w : Int), Thg.lst (x.words.map Thg.str)], .tup (off_new f2 (z2 _ _ q2)) (.cons (.int _) (.cons (.int _) (.cons (.int _) (.cons (.int _) (.cons (.lst (off_new f1 (z1 _ _ q1)) (strsG_at wsm)) (.nil)))))), .inl (cell_wfalse rfl)⟩ (allG_cons ⟨Thg.tup [Thg.int (x.top : Int), Thg.int (x.left : Int), Thg.int (x.h : Int), Thg.int (x.w : Int), Thg.tup [Thg.str (Str.ofString "a b")]], .tup (off_new f4 (z4 _ _ q4)) (.cons (.int _) (.cons (.int _) (.cons (.int _) (.cons (.int _) (.cons (.tup (off_new f3 (z3 _ _ q3)) (.cons (.str _ (by decide +kernel)) (.nil))) (.nil)))))), .inl (cell_wfalse (by decide +kernel))⟩ (allG_nil)))⟩
    clear hll agl lll s0 ll xs G0
    rintro _ G0 ⟨ll, xs, rfl, s0, hll, lll, agl⟩
    dsimp only [gName, tSeq]
    refine by_nx (T := tAsg _ _) (P := fun σ G => ∃ (ll : Addr) (xs : List V), σ = [some (.ref p), some (.ref b), some (.int way), some (.int (x.top : Int)), some (.int (x.left : Int)), some (.int (x.h : Int)), some (.int (x.w : Int)), some (.ref wb), some (.ref ll)] ∧ Same H G ∧ G ll = some (.lst xs) ∧ xs.length = 10 ∧ AllG (offL H G) (BadG R C) xs) (fun N2 k2 => ?_) ?_
    · skip
      have hp := s0 _ _ hp
      have hwb := s0 _ _ hwb
      have awb := awb.mono (offL_same (H := H) s0)
      skip
      refine ⟨_, rfl, _, rfl, _, rfl, _, rfl, _, rfl, by show 1 ≤ sizeLine; decide, fun t1 ht1 => ?_⟩
      have w1 := Same.upd_new (o := .tup [V.str (Str.ofString "")]) ht1
      have q1 := upd_same (H := G0) (a := t1) (o := .tup [V.str (Str.ofString "")])
      generalize upd G0 t1 (.tup [V.str (Str.ofString "")]) = G1 at *
      refine ⟨by show 5 ≤ sizeLine; decide, fun t2 ht2 => ?_⟩
      have w2 := Same.upd_new (o := .tup [V.int (x.top : Int), V.int (x.left : Int), V.int (x.h : Int), V.int (x.w : Int), V.ref t1]) ht2
      have q2 := upd_same (H := G1) (a := t2) (o := .tup [V.int (x.top : Int), V.int (x.left : Int), V.int (x.h : Int), V.int (x.w : Int), V.ref t1])
      generalize upd G1 t2 (.tup [V.int (x.top : Int), V.int (x.left : Int), V.int (x.h : Int), V.int (x.w : Int), V.ref t1]) = G2 at *
      refine ⟨_, rfl, _, rfl, _, rfl, _, rfl, by show 1 ≤ sizeLine; decide, fun t3 ht3 => ?_⟩
      have w3 := Same.upd_new (o := .tup [V.str (Str.ofString "abcdefghijklm")]) ht3
      have q3 := upd_same (H := G2) (a := t3) (o := .tup [V.str (Str.ofString "abcdefghijklm")])
      generalize upd G2 t3 (.tup [V.str (Str.ofString "abcdefghijklm")]) = G3 at *
      refine ⟨by show 5 ≤ sizeLine; decide, fun t4 ht4 => ?_⟩
      have w4 := Same.upd_new (o := .tup [V.int (x.top : Int), V.int (x.left : Int), V.int (x.h : Int), V.int (x.w : Int), V.ref t3]) ht4
      have q4 := upd_same (H := G3) (a := t4) (o := .tup [V.int (x.top : Int), V.int (x.left : Int), V.int (x.h : Int), V.int (x.w : Int), V.ref t3])
      generalize upd G3 t4 (.tup [V.int (x.top : Int), V.int (x.left : Int), V.int (x.h : Int), V.int (x.w : Int), V.ref t3]) = G4 at *
      refine ⟨by show 2 ≤ sizeLine; decide, fun t5 ht5 => ?_⟩
      have w5 := Same.upd_new (o := .lst [V.ref t2, V.ref t4]) ht5
      have q5 := upd_same (H := G4) (a := t5) (o := .lst [V.ref t2, V.ref t4])
      generalize upd G4 t5 (.lst [V.ref t2, V.ref t4]) = G5 at *
      refine ⟨ll, t5, _, _, rfl, rfl, w5 _ _ (w4 _ _ (w3 _ _ (w2 _ _ (w1 _ _ (hll))))), q5, small200 (by rw [lll]; simp), fun t6 ht6 => ?_⟩
      have w6 := Same.upd_new (o := .lst (xs ++ [V.ref t2, V.ref t4])) ht6
      have q6 := upd_same (H := G5) (a := t6) (o := .lst (xs ++ [V.ref t2, V.ref t4]))
      generalize upd G5 t6 (.lst (xs ++ [V.ref t2, V.ref t4])) = G6 at *
      have z6 : Same G6 G6 := fun _ _ z => z
      have z5 := w6.trans z6
      have z4 := w5.trans z5
      have z3 := w4.trans z4
      have z2 := w3.trans z3
      have z1 := w2.trans z2
      have z0 := w1.trans z1
      have f1 := free_of (s0) ht1
      have f2 := free_of (s0.trans w1) ht2
      have f3 := free_of ((s0.trans w1).trans w2) ht3
      have f4 := free_of (((s0.trans w1).trans w2).trans w3) ht4
      have f5 := free_of ((((s0.trans w1).trans w2).trans w3).trans w4) ht5
      have f6 := free_of (((((s0.trans w1).trans w2).trans w3).trans w4).trans w5) ht6
      have zz := offL_same (H := H) z0
      exact k2 _ _ ⟨t6, _, rfl, s0.trans z0, q6, by rw [List.length_append, lll]; rfl, allG_app (agl.mono zz) (allG_cons ⟨Thg.tup [Thg.int (x.top : Int), Thg.int (x.left : Int), Thg.int (x.h : Int), Thg.int (x.w : Int), Thg.tup [Thg.str (Str.ofString "")]], .tup (off_new f2 (z2 _ _ q2)) (.cons (.int _) (.cons (.int _) (.cons (.int _) (.cons (.int _) (.cons (.tup (off_new f1 (z1 _ _ q1)) (.cons (.str _ (by decide +kernel)) (.nil))) (.nil)))))), .inl (cell_wfalse (by decide +kernel))⟩ (allG_cons ⟨Thg.tup [Thg.int (x.top : Int), Thg.int (x.left : Int), Thg.int (x.h : Int), Thg.int (x.w : Int), Thg.tup [Thg.str (Str.ofString "abcdefghijklm")]], .tup (off_new f4 (z4 _ _ q4)) (.cons (.int _) (.cons (.int _) (.cons (.int _) (.cons (.int _) (.cons (.tup (off_new f3 (z3 _ _ q3)) (.cons (.str _ (by decide +kernel)) (.nil))) (.nil)))))), .inl (cell_wfalse (by decide +kernel))⟩ (allG_nil)))⟩
    clear hll agl lll s0 ll xs G0
    rintro _ G0 ⟨ll, xs, rfl, s0, hll, lll, agl⟩
    dsimp only [gName, tSeq]
    refine by_nx (T := tAsg _ _) (P := fun σ G => ∃ (ll : Addr) (xs : List V), σ = [some (.ref p), some (.ref b), some (.int way), some (.int (x.top : Int)), some (.int (x.left : Int)), some (.int (x.h : Int)), some (.int (x.w : Int)), some (.ref wb), some (.ref ll)] ∧ Same H G ∧ G ll = some (.lst xs) ∧ xs.length = 13 ∧ AllG (offL H G) (BadG R C) xs) (fun N2 k2 => ?_) ?_
    · skip
      have hp := s0 _ _ hp
      have hwb := s0 _ _ hwb
      have awb := awb.mono (offL_same (H := H) s0)
      skip
      refine ⟨_, rfl, _, rfl, _, rfl, _, rfl, _, rfl, by show 1 ≤ sizeLine; decide, fun t1 ht1 => ?_⟩
      have w1 := Same.upd_new (o := .tup [V.str (Str.ofString "a")]) ht1
      have q1 := upd_same (H := G0) (a := t1) (o := .tup [V.str (Str.ofString "a")])
      generalize upd G0 t1 (.tup [V.str (Str.ofString "a")]) = G1 at *
      refine ⟨t1, (13 : Int), _, rfl, rfl, SqT.of q1, (by simp), by omega, by omega, (by decide), (fun z => absurd z (by decide)), fun _ t2 ht2 => ?_⟩
      have e13 : (List.replicate (13 : Int).toNat [V.str (Str.ofString "a")]).flatten = List.replicate 13 (V.str (Str.ofString "a")) := rfl
      rw [e13]
      have w2 := Same.upd_new (o := .tup (List.replicate 13 (V.str (Str.ofString "a")))) ht2
      have q2 := upd_same (H := G1) (a := t2) (o := .tup (List.replicate 13 (V.str (Str.ofString "a"))))
      generalize upd G1 t2 (.tup (List.replicate 13 (V.str (Str.ofString "a")))) = G2 at *
      refine ⟨by show 5 ≤ sizeLine; decide, fun t3 ht3 => ?_⟩
      have w3 := Same.upd_new (o := .tup [V.int (x.top : Int), V.int (x.left : Int), V.int (x.h : Int), V.int (x.w : Int), V.ref t2]) ht3
      have q3 := upd_same (H := G2) (a := t3) (o := .tup [V.int (x.top : Int), V.int (x.left : Int), V.int (x.h : Int), V.int (x.w : Int), V.ref t2])
      generalize upd G2 t3 (.tup [V.int (x.top : Int), V.int (x.left : Int), V.int (x.h : Int), V.int (x.w : Int), V.ref t2]) = G3 at *
      refine ⟨_, rfl, _, rfl, _, rfl, _, rfl, by show 1 ≤ sizeLine; decide, fun t4 ht4 => ?_⟩
      have w4 := Same.upd_new (o := .tup [V.int 7]) ht4
      have q4 := upd_same (H := G3) (a := t4) (o := .tup [V.int 7])
      generalize upd G3 t4 (.tup [V.int 7]) = G4 at *
      refine ⟨by show 5 ≤ sizeLine; decide, fun t5 ht5 => ?_⟩
      have w5 := Same.upd_new (o := .tup [V.int (x.top : Int), V.int (x.left : Int), V.int (x.h : Int), V.int (x.w : Int), V.ref t4]) ht5
      have q5 := upd_same (H := G4) (a := t5) (o := .tup [V.int (x.top : Int), V.int (x.left : Int), V.int (x.h : Int), V.int (x.w : Int), V.ref t4])
      generalize upd G4 t5 (.tup [V.int (x.top : Int), V.int (x.left : Int), V.int (x.h : Int), V.int (x.w : Int), V.ref t4]) = G5 at *
      refine ⟨by show 3 ≤ sizeLine; decide, fun t6 ht6 => ?_⟩
      have w6 := Same.upd_new (o := .lst [V.ref t3, V.ref t5, V.non]) ht6
      have q6 := upd_same (H := G5) (a := t6) (o := .lst [V.ref t3, V.ref t5, V.non])
      generalize upd G5 t6 (.lst [V.ref t3, V.ref t5, V.non]) = G6 at *
      refine ⟨ll, t6, _, _, rfl, rfl, w6 _ _ (w5 _ _ (w4 _ _ (w3 _ _ (w2 _ _ (w1 _ _ (hll)))))), q6, small200 (by rw [lll]; simp), fun t7 ht7 => ?_⟩
      have w7 := Same.upd_new (o := .lst (xs ++ [V.ref t3, V.ref t5, V.non])) ht7
      have q7 := upd_same (H := G6) (a := t7) (o := .lst (xs ++ [V.ref t3, V.ref t5, V.non]))
      generalize upd G6 t7 (.lst (xs ++ [V.ref t3, V.ref t5, V.non])) = G7 at *
      have z7 : Same G7 G7 := fun _ _ z => z
      have z6 := w7.trans z7
      have z5 := w6.trans z6
      have z4 := w5.trans z5
      have z3 := w4.trans z4
      have z2 := w3.trans z3
      have z1 := w2.trans z2
      have z0 := w1.trans z1
      have f1 := free_of (s0) ht1
      have f2 := free_of (s0.trans w1) ht2
      have f3 := free_of ((s0.trans w1).trans w2) ht3
      have f4 := free_of (((s0.trans w1).trans w2).trans w3) ht4
      have f5 := free_of ((((s0.trans w1).trans w2).trans w3).trans w4) ht5
      have f6 := free_of (((((s0.trans w1).trans w2).trans w3).trans w4).trans w5) ht6
      have f7 := free_of ((((((s0.trans w1).trans w2).trans w3).trans w4).trans w5).trans w6) ht7
      have zz := offL_same (H := H) z0
      exact k2 _ _ ⟨t7, _, rfl, s0.trans z0, q7, by rw [List.length_append, lll]; rfl, allG_app (agl.mono zz) (allG_cons ⟨Thg.tup [Thg.int (x.top : Int), Thg.int (x.left : Int), Thg.int (x.h : Int), Thg.int (x.w : Int), Thg.tup (List.replicate 13 (Thg.str (Str.ofString "a")))], .tup (off_new f3 (z3 _ _ q3)) (.cons (.int _) (.cons (.int _) (.cons (.int _) (.cons (.int _) (.cons (.tup (off_new f2 (z2 _ _ q2)) (repG _)) (.nil)))))), .inl (cell_wfalse (by decide +kernel))⟩ (allG_cons ⟨Thg.tup [Thg.int (x.top : Int), Thg.int (x.left : Int), Thg.int (x.h : Int), Thg.int (x.w : Int), Thg.tup [Thg.int 7]], .tup (off_new f5 (z5 _ _ q5)) (.cons (.int _) (.cons (.int _) (.cons (.int _) (.cons (.int _) (.cons (.tup (off_new f4 (z4 _ _ q4)) (.cons (.int _) (.nil))) (.nil)))))), .inl (cell_wfalse (by decide +kernel))⟩ (allG_cons ⟨Thg.non, .non, .inl rfl⟩ (allG_nil))))⟩
    clear hll agl lll s0 ll xs G0
    rintro _ G0 ⟨ll, xs, rfl, s0, hll, lll, agl⟩
    dsimp only [gName, tSeq]
    refine by_nx (T := tAsg _ _) (P := fun σ G => ∃ (ll : Addr) (xs : List V), σ = [some (.ref p), some (.ref b), some (.int way), some (.int (x.top : Int)), some (.int (x.left : Int)), some (.int (x.h : Int)), some (.int (x.w : Int)), some (.ref wb), some (.ref ll)] ∧ Same H G ∧ G ll = some (.lst xs) ∧ xs.length = 15 ∧ AllG (offL H G) (BadG R C) xs) (fun N2 k2 => ?_) ?_
    · skip
      have hp := s0 _ _ hp
      have hwb := s0 _ _ hwb
      have awb := awb.mono (offL_same (H := H) s0)
      skip
      refine ⟨_, rfl, _, rfl, _, rfl, .inl ⟨_, rfl, small_log (by omega), _, rfl, _, rfl, _, rfl, _, rfl, by show 5 ≤ sizeLine; decide, fun t1 ht1 => ?_⟩⟩
      have w1 := Same.upd_new (o := .tup [V.str (Str.ofString (toString (x.top : Int))), V.int (x.left : Int), V.int (x.h : Int), V.int (x.w : Int), V.ref wb]) ht1
      have q1 := upd_same (H := G0) (a := t1) (o := .tup [V.str (Str.ofString (toString (x.top : Int))), V.int (x.left : Int), V.int (x.h : Int), V.int (x.w : Int), V.ref wb])
      generalize upd G0 t1 (.tup [V.str (Str.ofString (toString (x.top : Int))), V.int (x.left : Int), V.int (x.h : Int), V.int (x.w : Int), V.ref wb]) = G1 at *
      refine ⟨_, rfl, _, rfl, _, rfl, _, rfl, by show 5 ≤ sizeLine; decide, fun t2 ht2 => ?_⟩
      have w2 := Same.upd_new (o := .tup [V.int (x.top : Int), V.non, V.int (x.h : Int), V.int (x.w : Int), V.ref wb]) ht2
      have q2 := upd_same (H := G1) (a := t2) (o := .tup [V.int (x.top : Int), V.non, V.int (x.h : Int), V.int (x.w : Int), V.ref wb])
      generalize upd G1 t2 (.tup [V.int (x.top : Int), V.non, V.int (x.h : Int), V.int (x.w : Int), V.ref wb]) = G2 at *
      refine ⟨by show 2 ≤ sizeLine; decide, fun t3 ht3 => ?_⟩
      have w3 := Same.upd_new (o := .lst [V.ref t1, V.ref t2]) ht3
      have q3 := upd_same (H := G2) (a := t3) (o := .lst [V.ref t1, V.ref t2])
      generalize upd G2 t3 (.lst [V.ref t1, V.ref t2]) = G3 at *
      refine ⟨ll, t3, _, _, rfl, rfl, w3 _ _ (w2 _ _ (w1 _ _ (hll))), q3, small200 (by rw [lll]; simp), fun t4 ht4 => ?_⟩
      have w4 := Same.upd_new (o := .lst (xs ++ [V.ref t1, V.ref t2])) ht4
      have q4 := upd_same (H := G3) (a := t4) (o := .lst (xs ++ [V.ref t1, V.ref t2]))
      generalize upd G3 t4 (.lst (xs ++ [V.ref t1, V.ref t2])) = G4 at *
      have z4 : Same G4 G4 := fun _ _ z => z
      have z3 := w4.trans z4
      have z2 := w3.trans z3
      have z1 := w2.trans z2
      have z0 := w1.trans z1
      have f1 := free_of (s0) ht1
      have f2 := free_of (s0.trans w1) ht2
      have f3 := free_of ((s0.trans w1).trans w2) ht3
      have f4 := free_of (((s0.trans w1).trans w2).trans w3) ht4
      have zz := offL_same (H := H) z0
      exact k2 _ _ ⟨t4, _, rfl, s0.trans z0, q4, by rw [List.length_append, lll]; rfl, allG_app (agl.mono zz) (allG_cons ⟨Thg.tup [Thg.str (Str.ofString (toString (x.top : Int))), Thg.int (x.left : Int), Thg.int (x.h : Int), Thg.int (x.w : Int), Thg.tup (x.words.map Thg.str)], .tup (off_new f1 (z1 _ _ q1)) (.cons (.str _ stl) (.cons (.int _) (.cons (.int _) (.cons (.int _) (.cons ((awb.mono zz)) (.nil)))))), .inl rfl⟩ (allG_cons ⟨Thg.tup [Thg.int (x.top : Int), Thg.non, Thg.int (x.h : Int), Thg.int (x.w : Int), Thg.tup (x.words.map Thg.str)], .tup (off_new f2 (z2 _ _ q2)) (.cons (.int _) (.cons (.non) (.cons (.int _) (.cons (.int _) (.cons ((awb.mono zz)) (.nil)))))), .inl rfl⟩ (allG_nil)))⟩
    clear hll agl lll s0 ll xs G0
    rintro _ G0 ⟨ll, xs, rfl, s0, hll, lll, agl⟩
    dsimp only [gName, tSeq]
    refine by_nx (T := tAsg _ _) (P := fun σ G => ∃ (ll : Addr) (xs : List V), σ = [some (.ref p), some (.ref b), some (.int way), some (.int (x.top : Int)), some (.int (x.left : Int)), some (.int (x.h : Int)), some (.int (x.w : Int)), some (.ref wb), some (.ref ll)] ∧ Same H G ∧ G ll = some (.lst xs) ∧ xs.length = 17 ∧ AllG (offL H G) (BadG R C) xs) (fun N2 k2 => ?_) ?_
    · skip
      have hp := s0 _ _ hp
      have hwb := s0 _ _ hwb
      have awb := awb.mono (offL_same (H := H) s0)
      skip
      refine ⟨_, rfl, _, rfl, _, rfl, _, rfl, by show 1 ≤ sizeLine; decide, fun t1 ht1 => ?_⟩
      have w1 := Same.upd_new (o := .tup [V.int 1]) ht1
      have q1 := upd_same (H := G0) (a := t1) (o := .tup [V.int 1])
      generalize upd G0 t1 (.tup [V.int 1]) = G1 at *
      refine ⟨_, rfl, by show 5 ≤ sizeLine; decide, fun t2 ht2 => ?_⟩
      have w2 := Same.upd_new (o := .tup [V.int (x.top : Int), V.int (x.left : Int), V.int (x.h : Int), V.ref t1, V.ref wb]) ht2
      have q2 := upd_same (H := G1) (a := t2) (o := .tup [V.int (x.top : Int), V.int (x.left : Int), V.int (x.h : Int), V.ref t1, V.ref wb])
      generalize upd G1 t2 (.tup [V.int (x.top : Int), V.int (x.left : Int), V.int (x.h : Int), V.ref t1, V.ref wb]) = G2 at *
      refine ⟨_, _, rfl, rfl, _, rfl, _, _, rfl, rfl, _, rfl, _, rfl, by show 5 ≤ sizeLine; decide, fun t3 ht3 => ?_⟩
      dsimp only
      have w3 := Same.upd_new (o := .tup [V.int (((0 : Int) - 1) - (x.top : Int)), V.int (x.left : Int), V.int 1, V.int 1, V.ref wb]) ht3
      have q3 := upd_same (H := G2) (a := t3) (o := .tup [V.int (((0 : Int) - 1) - (x.top : Int)), V.int (x.left : Int), V.int 1, V.int 1, V.ref wb])
      generalize upd G2 t3 (.tup [V.int (((0 : Int) - 1) - (x.top : Int)), V.int (x.left : Int), V.int 1, V.int 1, V.ref wb]) = G3 at *
      refine ⟨by show 2 ≤ sizeLine; decide, fun t4 ht4 => ?_⟩
      have w4 := Same.upd_new (o := .lst [V.ref t2, V.ref t3]) ht4
      have q4 := upd_same (H := G3) (a := t4) (o := .lst [V.ref t2, V.ref t3])
      generalize upd G3 t4 (.lst [V.ref t2, V.ref t3]) = G4 at *
      refine ⟨ll, t4, _, _, rfl, rfl, w4 _ _ (w3 _ _ (w2 _ _ (w1 _ _ (hll)))), q4, small200 (by rw [lll]; simp), fun t5 ht5 => ?_⟩
      have w5 := Same.upd_new (o := .lst (xs ++ [V.ref t2, V.ref t3])) ht5
      have q5 := upd_same (H := G4) (a := t5) (o := .lst (xs ++ [V.ref t2, V.ref t3]))
      generalize upd G4 t5 (.lst (xs ++ [V.ref t2, V.ref t3])) = G5 at *
      have z5 : Same G5 G5 := fun _ _ z => z
      have z4 := w5.trans z5
      have z3 := w4.trans z4
      have z2 := w3.trans z3
      have z1 := w2.trans z2
      have z0 := w1.trans z1
      have f1 := free_of (s0) ht1
      have f2 := free_of (s0.trans w1) ht2
      have f3 := free_of ((s0.trans w1).trans w2) ht3
      have f4 := free_of (((s0.trans w1).trans w2).trans w3) ht4
      have f5 := free_of ((((s0.trans w1).trans w2).trans w3).trans w4) ht5
      have zz := offL_same (H := H) z0
      exact k2 _ _ ⟨t5, _, rfl, s0.trans z0, q5, by rw [List.length_append, lll]; rfl, allG_app (agl.mono zz) (allG_cons ⟨Thg.tup [Thg.int (x.top : Int), Thg.int (x.left : Int), Thg.int (x.h : Int), Thg.tup [Thg.int 1], Thg.tup (x.words.map Thg.str)], .tup (off_new f2 (z2 _ _ q2)) (.cons (.int _) (.cons (.int _) (.cons (.int _) (.cons (.tup (off_new f1 (z1 _ _ q1)) (.cons (.int _) (.nil))) (.cons ((awb.mono zz)) (.nil)))))), .inl rfl⟩ (allG_cons ⟨Thg.tup [Thg.int (((0 : Int) - 1) - (x.top : Int)), Thg.int (x.left : Int), Thg.int 1, Thg.int 1, Thg.tup (x.words.map Thg.str)], .tup (off_new f3 (z3 _ _ q3)) (.cons (.int _) (.cons (.int _) (.cons (.int _) (.cons (.int _) (.cons ((awb.mono zz)) (.nil)))))), .inl (cell_false (by omega))⟩ (allG_nil)))⟩
    clear hll agl lll s0 ll xs G0
    rintro _ G0 ⟨ll, xs, rfl, s0, hll, lll, agl⟩
    dsimp only [gName, tSeq]
    refine by_nx (T := tAsg _ _) (P := fun σ G => ∃ (ll : Addr) (xs : List V), σ = [some (.ref p), some (.ref b), some (.int way), some (.int (x.top : Int)), some (.int (x.left : Int)), some (.int (x.h : Int)), some (.int (x.w : Int)), some (.ref wb), some (.ref ll)] ∧ Same H G ∧ G ll = some (.lst xs) ∧ xs.length = 19 ∧ AllG (offL H G) (BadG R C) xs) (fun N2 k2 => ?_) ?_
    · skip
      have hp := s0 _ _ hp
      have hwb := s0 _ _ hwb
      have awb := awb.mono (offL_same (H := H) s0)
      skip
      refine ⟨_, rfl, _, rfl, _, _, rfl, rfl, _, rfl, _, rfl, by show 5 ≤ sizeLine; decide, fun t1 ht1 => ?_⟩
      dsimp only
      have w1 := Same.upd_new (o := .tup [V.int (x.top : Int), V.int ((0 : Int) - 1), V.int (x.h : Int), V.int 2, V.ref wb]) ht1
      have q1 := upd_same (H := G0) (a := t1) (o := .tup [V.int (x.top : Int), V.int ((0 : Int) - 1), V.int (x.h : Int), V.int 2, V.ref wb])
      generalize upd G0 t1 (.tup [V.int (x.top : Int), V.int ((0 : Int) - 1), V.int (x.h : Int), V.int 2, V.ref wb]) = G1 at *
      refine ⟨_, rfl, _, rfl, _, rfl, by show 1 ≤ sizeLine; decide, fun t2 ht2 => ?_⟩
      have w2 := Same.upd_new (o := .lst [V.int (x.h : Int)]) ht2
      have q2 := upd_same (H := G1) (a := t2) (o := .lst [V.int (x.h : Int)])
      generalize upd G1 t2 (.lst [V.int (x.h : Int)]) = G2 at *
      refine ⟨_, rfl, _, rfl, by show 5 ≤ sizeLine; decide, fun t3 ht3 => ?_⟩
      have w3 := Same.upd_new (o := .tup [V.int (x.top : Int), V.int (x.left : Int), V.ref t2, V.int (x.w : Int), V.ref wb]) ht3
      have q3 := upd_same (H := G2) (a := t3) (o := .tup [V.int (x.top : Int), V.int (x.left : Int), V.ref t2, V.int (x.w : Int), V.ref wb])
      generalize upd G2 t3 (.tup [V.int (x.top : Int), V.int (x.left : Int), V.ref t2, V.int (x.w : Int), V.ref wb]) = G3 at *
      refine ⟨by show 2 ≤ sizeLine; decide, fun t4 ht4 => ?_⟩
      have w4 := Same.upd_new (o := .lst [V.ref t1, V.ref t3]) ht4
      have q4 := upd_same (H := G3) (a := t4) (o := .lst [V.ref t1, V.ref t3])
      generalize upd G3 t4 (.lst [V.ref t1, V.ref t3]) = G4 at *
      refine ⟨ll, t4, _, _, rfl, rfl, w4 _ _ (w3 _ _ (w2 _ _ (w1 _ _ (hll)))), q4, small200 (by rw [lll]; simp), fun t5 ht5 => ?_⟩
      have w5 := Same.upd_new (o := .lst (xs ++ [V.ref t1, V.ref t3])) ht5
      have q5 := upd_same (H := G4) (a := t5) (o := .lst (xs ++ [V.ref t1, V.ref t3]))
      generalize upd G4 t5 (.lst (xs ++ [V.ref t1, V.ref t3])) = G5 at *
      have z5 : Same G5 G5 := fun _ _ z => z
      have z4 := w5.trans z5
      have z3 := w4.trans z4
      have z2 := w3.trans z3
      have z1 := w2.trans z2
      have z0 := w1.trans z1
      have f1 := free_of (s0) ht1
      have f2 := free_of (s0.trans w1) ht2
      have f3 := free_of ((s0.trans w1).trans w2) ht3
      have f4 := free_of (((s0.trans w1).trans w2).trans w3) ht4
      have f5 := free_of ((((s0.trans w1).trans w2).trans w3).trans w4) ht5
      have zz := offL_same (H := H) z0
      exact k2 _ _ ⟨t5, _, rfl, s0.trans z0, q5, by rw [List.length_append, lll]; rfl, allG_app (agl.mono zz) (allG_cons ⟨Thg.tup [Thg.int (x.top : Int), Thg.int ((0 : Int) - 1), Thg.int (x.h : Int), Thg.int 2, Thg.tup (x.words.map Thg.str)], .tup (off_new f1 (z1 _ _ q1)) (.cons (.int _) (.cons (.int _) (.cons (.int _) (.cons (.int _) (.cons ((awb.mono zz)) (.nil)))))), .inl (cell_false (by omega))⟩ (allG_cons ⟨Thg.tup [Thg.int (x.top : Int), Thg.int (x.left : Int), Thg.lst [Thg.int (x.h : Int)], Thg.int (x.w : Int), Thg.tup (x.words.map Thg.str)], .tup (off_new f3 (z3 _ _ q3)) (.cons (.int _) (.cons (.int _) (.cons (.lst (off_new f2 (z2 _ _ q2)) (.cons (.int _) (.nil))) (.cons (.int _) (.cons ((awb.mono zz)) (.nil)))))), .inl rfl⟩ (allG_nil)))⟩
    clear hll agl lll s0 ll xs G0
    rintro _ G0 ⟨ll, xs, rfl, s0, hll, lll, agl⟩
    dsimp only [gName, tSeq]
    refine by_nx (T := tAsg _ _) (P := fun σ G => ∃ (ll : Addr) (xs : List V), σ = [some (.ref p), some (.ref b), some (.int way), some (.int (x.top : Int)), some (.int (x.left : Int)), some (.int (x.h : Int)), some (.int (x.w : Int)), some (.ref wb), some (.ref ll)] ∧ Same H G ∧ G ll = some (.lst xs) ∧ xs.length = 21 ∧ AllG (offL H G) (BadG R C) xs) (fun N2 k2 => ?_) ?_
    · skip
      have hp := s0 _ _ hp
      have hwb := s0 _ _ hwb
      have awb := awb.mono (offL_same (H := H) s0)
      skip
      refine ⟨_, rfl, _, rfl, _, rfl, _, rfl, _, rfl, by show 1 ≤ sizeLine; decide, fun t1 ht1 => ?_⟩
      have w1 := Same.upd_new (o := .tup [V.str (Str.ofString "aB")]) ht1
      have q1 := upd_same (H := G0) (a := t1) (o := .tup [V.str (Str.ofString "aB")])
      generalize upd G0 t1 (.tup [V.str (Str.ofString "aB")]) = G1 at *
      refine ⟨by show 5 ≤ sizeLine; decide, fun t2 ht2 => ?_⟩
      have w2 := Same.upd_new (o := .tup [V.int (x.top : Int), V.int (x.left : Int), V.int (x.h : Int), V.int (x.w : Int), V.ref t1]) ht2
      have q2 := upd_same (H := G1) (a := t2) (o := .tup [V.int (x.top : Int), V.int (x.left : Int), V.int (x.h : Int), V.int (x.w : Int), V.ref t1])
      generalize upd G1 t2 (.tup [V.int (x.top : Int), V.int (x.left : Int), V.int (x.h : Int), V.int (x.w : Int), V.ref t1]) = G2 at *
      refine ⟨_, rfl, _, rfl, _, rfl, _, rfl, by show 1 ≤ sizeLine; decide, fun t3 ht3 => ?_⟩
      have w3 := Same.upd_new (o := .tup [V.str (Str.ofString "a-b")]) ht3
      have q3 := upd_same (H := G2) (a := t3) (o := .tup [V.str (Str.ofString "a-b")])
      generalize upd G2 t3 (.tup [V.str (Str.ofString "a-b")]) = G3 at *
      refine ⟨by show 5 ≤ sizeLine; decide, fun t4 ht4 => ?_⟩
      have w4 := Same.upd_new (o := .tup [V.int (x.top : Int), V.int (x.left : Int), V.int (x.h : Int), V.int (x.w : Int), V.ref t3]) ht4
      have q4 := upd_same (H := G3) (a := t4) (o := .tup [V.int (x.top : Int), V.int (x.left : Int), V.int (x.h : Int), V.int (x.w : Int), V.ref t3])
      generalize upd G3 t4 (.tup [V.int (x.top : Int), V.int (x.left : Int), V.int (x.h : Int), V.int (x.w : Int), V.ref t3]) = G4 at *
      refine ⟨by show 2 ≤ sizeLine; decide, fun t5 ht5 => ?_⟩
      have w5 := Same.upd_new (o := .lst [V.ref t2, V.ref t4]) ht5
      have q5 := upd_same (H := G4) (a := t5) (o := .lst [V.ref t2, V.ref t4])
      generalize upd G4 t5 (.lst [V.ref t2, V.ref t4]) = G5 at *
      refine ⟨ll, t5, _, _, rfl, rfl, w5 _ _ (w4 _ _ (w3 _ _ (w2 _ _ (w1 _ _ (hll))))), q5, small200 (by rw [lll]; simp), fun t6 ht6 => ?_⟩
      have w6 := Same.upd_new (o := .lst (xs ++ [V.ref t2, V.ref t4])) ht6
      have q6 := upd_same (H := G5) (a := t6) (o := .lst (xs ++ [V.ref t2, V.ref t4]))
      generalize upd G5 t6 (.lst (xs ++ [V.ref t2, V.ref t4])) = G6 at *
      have z6 : Same G6 G6 := fun _ _ z => z
      have z5 := w6.trans z6
      have z4 := w5.trans z5
      have z3 := w4.trans z4
      have z2 := w3.trans z3
      have z1 := w2.trans z2
      have z0 := w1.trans z1
      have f1 := free_of (s0) ht1
      have f2 := free_of (s0.trans w1) ht2
      have f3 := free_of ((s0.trans w1).trans w2) ht3
      have f4 := free_of (((s0.trans w1).trans w2).trans w3) ht4
      have f5 := free_of ((((s0.trans w1).trans w2).trans w3).trans w4) ht5
      have f6 := free_of (((((s0.trans w1).trans w2).trans w3).trans w4).trans w5) ht6
      have zz := offL_same (H := H) z0
      exact k2 _ _ ⟨t6, _, rfl, s0.trans z0, q6, by rw [List.length_append, lll]; rfl, allG_app (agl.mono zz) (allG_cons ⟨Thg.tup [Thg.int (x.top : Int), Thg.int (x.left : Int), Thg.int (x.h : Int), Thg.int (x.w : Int), Thg.tup [Thg.str (Str.ofString "aB")]], .tup (off_new f2 (z2 _ _ q2)) (.cons (.int _) (.cons (.int _) (.cons (.int _) (.cons (.int _) (.cons (.tup (off_new f1 (z1 _ _ q1)) (.cons (.str _ (by decide +kernel)) (.nil))) (.nil)))))), .inl (cell_wfalse (by decide +kernel))⟩ (allG_cons ⟨Thg.tup [Thg.int (x.top : Int), Thg.int (x.left : Int), Thg.int (x.h : Int), Thg.int (x.w : Int), Thg.tup [Thg.str (Str.ofString "a-b")]], .tup (off_new f4 (z4 _ _ q4)) (.cons (.int _) (.cons (.int _) (.cons (.int _) (.cons (.int _) (.cons (.tup (off_new f3 (z3 _ _ q3)) (.cons (.str _ (by decide +kernel)) (.nil))) (.nil)))))), .inl (cell_wfalse (by decide +kernel))⟩ (allG_nil)))⟩
    clear hll agl lll s0 ll xs G0
    rintro _ G0 ⟨ll, xs, rfl, s0, hll, lll, agl⟩
    obtain ⟨k, ek, hk⟩ : ∃ k : Nat, way % 21 = (k : Int) ∧ k < 21 := ⟨(way % 21).toNat, by omega, by omega⟩
    have hy : xs[k]? = some (xs[k]'(by omega)) := List.getElem?_eq_getElem (by omega)
    obtain ⟨g, ag, pg⟩ := agl _ (List.mem_of_getElem? hy)
    exact ⟨_, rfl, _, rfl, _, _, rfl, rfl, by show (0 : Int) < 21; decide, ll, xs, _, _, rfl, rfl, SqL.of hll, by rw [ek]; exact atI_nat hy, q _ g _ s0 ag pg⟩
end
theorem atG_of : ∀ {H : Hp} {cs : List Cell} {xs : List V}, (∀ x ∈ cs, WordsOk x.words) → AtL H (cs.map Cell.D) xs → AtGL H (cs.map Cell.G) xs
  | _, [], [], _, _ => .nil
  | _, x :: cs, v :: xs, ok, h => by
    cases h with
    | cons h r => exact .cons (Cell.atG h (ok x List.mem_cons_self).small) (atG_of (fun y hy => ok y (List.mem_cons_of_mem _ hy)) r)
noncomputable def spFrameL : Sp := fun vs H Q _ => ∃ (v : V) (way : Int) (R C : Nat) (cs : List Cell), vs = [v, .int way] ∧ At H (tabD R C cs) v ∧ Part R C cs ∧ ∀ v' g H', Same H H' → AtG H' g v' → isFrameG g = false → Q v' H'
section
variable {P : Program} {w : World} {K : PySem.W.Frag} {mg : Str → Option Value} {base : Heap}
theorem sc__law_frame : FnScope ["_law_table_here", "_law_way", "_law_rows", "_law_columns", "_law_cells", "_law_some"] ["_law_table_here", "_law_way"] (defScope (top 36)) := ⟨rfl, rfl, rfl, by decide +kernel, rfl, by decide +kernel, by decide +kernel⟩
set_option maxHeartbeats 4000000 in
theorem ok__law_frame (T : Txt mg) (f : Addr) (fd : FuncData) (F : Fun K "_law_frame" "_law_frame" (top 36) f fd) : FnOk P w K mg base CX0 1 f fd ["_law_table_here", "_law_way"] spFrameL := by
  refine F.ok sc__law_frame (fun vs H Q E h => ?_) (fun cdv A outer s H vs Q E hr h => ?_)
  · obtain ⟨v, way, R, C, cs, rfl, _⟩ := h; rfl
  · obtain ⟨v, way, R, C, cs, rfl, ht, pt, q⟩ := h
    obtain ⟨p, lc, ys, rfl, hp, hlc, ry⟩ := tab_inv ht
    obtain ⟨gs, egs⟩ : ∃ gs, gs = cs.map Cell.G := ⟨_, rfl⟩
    have ags : AtGL H gs ys := by rw [egs]; exact atG_of (fun x hx => (pt.fit x hx).words) ry
    refine ⟨_, (pss_cons (ps_asg (pv 0) (pg_tupK (K := K) (n := 3) rfl rfl (pgs_cons (pg_name (i := 2) sc__law_frame.nd rfl (by first | exact Or.inl rfl | exact Or.inr rfl)) (pgs_cons (pg_name (i := 3) sc__law_frame.nd rfl (by first | exact Or.inl rfl | exact Or.inr rfl)) (pgs_cons (pg_name (i := 4) sc__law_frame.nd rfl (by first | exact Or.inl rfl | exact Or.inr rfl)) pgs_nil)))))
      (pss_cons (ps_set (i := 5) sc__law_frame.nd rfl (by first | exact Or.inl rfl | exact Or.inr rfl) (pe_lst (pa_cons (pe_lst (pa_cons (pv 2) (pa_cons (pv 3) (pa_cons (pv 4) pa_nil)))) (pa_cons (pe_tup (pa_cons (pv 2) (pa_cons (pv 3) pa_nil))) (pa_cons (pe_tup (pa_cons pe_int (pa_cons (pv 3) (pa_cons (pv 4) pa_nil)))) (pa_cons (pe_tup (pa_cons (pv 2) (pa_cons pe_int (pa_cons (pv 4) pa_nil)))) (pa_cons pe_non pa_nil)))))))
      (pss_cons (ps_set (i := 5) sc__law_frame.nd rfl (by first | exact Or.inl rfl | exact Or.inr rfl) (pe_op op_cat (pv 5) (pe_lst (pa_cons (pe_tup (pa_cons (pv 2) (pa_cons (pv 3) (pa_cons (pe_callTy (call_tupleK (K := K) rfl) (by rfl) T.tuple PyProof.Rows.boot_tuple (pa_cons (pv 4) pa_nil)) pa_nil)))) (pa_cons (pe_tup (pa_cons pe_bl (pa_cons (pv 3) (pa_cons (pv 4) pa_nil)))) (pa_cons (pe_tup (pa_cons (pv 2) (pa_cons pe_str (pa_cons (pv 4) pa_nil)))) pa_nil))))))
      (pss_one (ps_ret (pe_ix (ix_listK (K := K) rfl) (pv 5) (pe_op op_mod (pv 1) pe_int) (fun _ _ => rfl))))))), ?_⟩
    refine ⟨_, rfl, p, _, rfl, SqT.of hp, rfl, _, _, rfl, _, _, rfl, _, _, rfl, rfl, ?_⟩
    have s0 : Same H H := fun _ _ z => z
    dsimp only [gName, tSeq]
    refine by_nx (T := tAsg _ _) (P := fun σ G => ∃ (ll : Addr) (xs : List V), σ = [some (.ref p), some (.int way), some (.int (R : Int)), some (.int (C : Int)), some (.ref lc), some (.ref ll)] ∧ Same H G ∧ G ll = some (.lst xs) ∧ xs.length = 5 ∧ AllG G (fun g => isFrameG g = false) xs) (fun N2 k2 => ?_) ?_
    · skip
      have hlc := s0 _ _ hlc
      have ags := AtGL.mono s0 ags
      refine ⟨_, rfl, _, rfl, _, rfl, by show 3 ≤ sizeLine; decide, fun t1 ht1 => ?_⟩
      have w1 := Same.upd_new (o := .lst [V.int (R : Int), V.int (C : Int), V.ref lc]) ht1
      have q1 := upd_same (H := H) (a := t1) (o := .lst [V.int (R : Int), V.int (C : Int), V.ref lc])
      generalize upd H t1 (.lst [V.int (R : Int), V.int (C : Int), V.ref lc]) = G1 at *
      refine ⟨_, rfl, _, rfl, by show 2 ≤ sizeLine; decide, fun t2 ht2 => ?_⟩
      have w2 := Same.upd_new (o := .tup [V.int (R : Int), V.int (C : Int)]) ht2
      have q2 := upd_same (H := G1) (a := t2) (o := .tup [V.int (R : Int), V.int (C : Int)])
      generalize upd G1 t2 (.tup [V.int (R : Int), V.int (C : Int)]) = G2 at *
      refine ⟨_, rfl, _, rfl, by show 3 ≤ sizeLine; decide, fun t3 ht3 => ?_⟩
      have w3 := Same.upd_new (o := .tup [V.int 0, V.int (C : Int), V.ref lc]) ht3
      have q3 := upd_same (H := G2) (a := t3) (o := .tup [V.int 0, V.int (C : Int), V.ref lc])
      generalize upd G2 t3 (.tup [V.int 0, V.int (C : Int), V.ref lc]) = G3 at *
      refine ⟨_, rfl, _, rfl, by show 3 ≤ sizeLine; decide, fun t4 ht4 => ?_⟩
      have w4 := Same.upd_new (o := .tup [V.int (R : Int), V.int 17, V.ref lc]) ht4
      have q4 := upd_same (H := G3) (a := t4) (o := .tup [V.int (R : Int), V.int 17, V.ref lc])
      generalize upd G3 t4 (.tup [V.int (R : Int), V.int 17, V.ref lc]) = G4 at *
      refine ⟨by show 5 ≤ sizeLine; decide, fun t5 ht5 => ?_⟩
      have w5 := Same.upd_new (o := .lst [V.ref t1, V.ref t2, V.ref t3, V.ref t4, V.non]) ht5
      have q5 := upd_same (H := G4) (a := t5) (o := .lst [V.ref t1, V.ref t2, V.ref t3, V.ref t4, V.non])
      generalize upd G4 t5 (.lst [V.ref t1, V.ref t2, V.ref t3, V.ref t4, V.non]) = G5 at *
      have z5 : Same G5 G5 := fun _ _ z => z
      have z4 := w5.trans z5
      have z3 := w4.trans z4
      have z2 := w3.trans z3
      have z1 := w2.trans z2
      have z0 := w1.trans z1
      exact k2 _ _ ⟨t5, _, rfl, s0.trans z0, q5, rfl, allG_cons ⟨Thg.lst [Thg.int (R : Int), Thg.int (C : Int), Thg.lst gs], .lst (z1 _ _ q1) (.cons (.int _) (.cons (.int _) (.cons (.lst (z0 _ _ hlc) (AtGL.mono z0 ags)) (.nil)))), rfl⟩ (allG_cons ⟨Thg.tup [Thg.int (R : Int), Thg.int (C : Int)], .tup (z2 _ _ q2) (.cons (.int _) (.cons (.int _) (.nil))), rfl⟩ (allG_cons ⟨Thg.tup [Thg.int 0, Thg.int (C : Int), Thg.lst gs], .tup (z3 _ _ q3) (.cons (.int _) (.cons (.int _) (.cons (.lst (z0 _ _ hlc) (AtGL.mono z0 ags)) (.nil)))), rfl⟩ (allG_cons ⟨Thg.tup [Thg.int (R : Int), Thg.int 17, Thg.lst gs], .tup (z4 _ _ q4) (.cons (.int _) (.cons (.int _) (.cons (.lst (z0 _ _ hlc) (AtGL.mono z0 ags)) (.nil)))), (by show (isSideG _ && isSideG _) = false; rw [Bool.and_comm]; rfl)⟩ (allG_cons ⟨Thg.non, .non, rfl⟩ (allG_nil)))))⟩
    clear s0
    rintro _ G0 ⟨ll, xs, rfl, s0, hll, lll, agl⟩
    dsimp only [gName, tSeq]
    refine by_nx (T := tAsg _ _) (P := fun σ G => ∃ (ll : Addr) (xs : List V), σ = [some (.ref p), some (.int way), some (.int (R : Int)), some (.int (C : Int)), some (.ref lc), some (.ref ll)] ∧ Same H G ∧ G ll = some (.lst xs) ∧ xs.length = 8 ∧ AllG G (fun g => isFrameG g = false) xs) (fun N2 k2 => ?_) ?_
    · skip
      have hlc := s0 _ _ hlc
      have ags := AtGL.mono s0 ags
      skip
      refine ⟨_, rfl, _, rfl, _, rfl, _, rfl, lc, _, rfl, .inl ⟨SqL.of (hlc), fun t1 ht1 => ?_⟩⟩
      have w1 := Same.upd_new (o := .tup ys) ht1
      have q1 := upd_same (H := G0) (a := t1) (o := .tup ys)
      generalize upd G0 t1 (.tup ys) = G1 at *
      refine ⟨by show 3 ≤ sizeLine; decide, fun t2 ht2 => ?_⟩
      have w2 := Same.upd_new (o := .tup [V.int (R : Int), V.int (C : Int), V.ref t1]) ht2
      have q2 := upd_same (H := G1) (a := t2) (o := .tup [V.int (R : Int), V.int (C : Int), V.ref t1])
      generalize upd G1 t2 (.tup [V.int (R : Int), V.int (C : Int), V.ref t1]) = G2 at *
      refine ⟨_, rfl, _, rfl, by show 3 ≤ sizeLine; decide, fun t3 ht3 => ?_⟩
      have w3 := Same.upd_new (o := .tup [V.bl true, V.int (C : Int), V.ref lc]) ht3
      have q3 := upd_same (H := G2) (a := t3) (o := .tup [V.bl true, V.int (C : Int), V.ref lc])
      generalize upd G2 t3 (.tup [V.bl true, V.int (C : Int), V.ref lc]) = G3 at *
      refine ⟨_, rfl, _, rfl, by show 3 ≤ sizeLine; decide, fun t4 ht4 => ?_⟩
      have w4 := Same.upd_new (o := .tup [V.int (R : Int), V.str (Str.ofString "2"), V.ref lc]) ht4
      have q4 := upd_same (H := G3) (a := t4) (o := .tup [V.int (R : Int), V.str (Str.ofString "2"), V.ref lc])
      generalize upd G3 t4 (.tup [V.int (R : Int), V.str (Str.ofString "2"), V.ref lc]) = G4 at *
      refine ⟨by show 3 ≤ sizeLine; decide, fun t5 ht5 => ?_⟩
      have w5 := Same.upd_new (o := .lst [V.ref t2, V.ref t3, V.ref t4]) ht5
      have q5 := upd_same (H := G4) (a := t5) (o := .lst [V.ref t2, V.ref t3, V.ref t4])
      generalize upd G4 t5 (.lst [V.ref t2, V.ref t3, V.ref t4]) = G5 at *
      refine ⟨ll, t5, _, _, rfl, rfl, w5 _ _ (w4 _ _ (w3 _ _ (w2 _ _ (w1 _ _ (hll))))), q5, small200 (by rw [lll]; simp), fun t6 ht6 => ?_⟩
      have w6 := Same.upd_new (o := .lst (xs ++ [V.ref t2, V.ref t3, V.ref t4])) ht6
      have q6 := upd_same (H := G5) (a := t6) (o := .lst (xs ++ [V.ref t2, V.ref t3, V.ref t4]))
      generalize upd G5 t6 (.lst (xs ++ [V.ref t2, V.ref t3, V.ref t4])) = G6 at *
      have z6 : Same G6 G6 := fun _ _ z => z
      have z5 := w6.trans z6
      have z4 := w5.trans z5
      have z3 := w4.trans z4
      have z2 := w3.trans z3
      have z1 := w2.trans z2
      have z0 := w1.trans z1
      exact k2 _ _ ⟨t6, _, rfl, s0.trans z0, q6, by rw [List.length_append, lll]; rfl, allG_app (agl.mono z0) (allG_cons ⟨Thg.tup [Thg.int (R : Int), Thg.int (C : Int), Thg.tup gs], .tup (z2 _ _ q2) (.cons (.int _) (.cons (.int _) (.cons (.tup (z1 _ _ q1) (AtGL.mono z0 ags)) (.nil)))), rfl⟩ (allG_cons ⟨Thg.tup [Thg.bl true, Thg.int (C : Int), Thg.lst gs], .tup (z3 _ _ q3) (.cons (.bl _) (.cons (.int _) (.cons (.lst (z0 _ _ hlc) (AtGL.mono z0 ags)) (.nil)))), rfl⟩ (allG_cons ⟨Thg.tup [Thg.int (R : Int), Thg.str (Str.ofString "2"), Thg.lst gs], .tup (z4 _ _ q4) (.cons (.int _) (.cons (.str _ (by decide +kernel)) (.cons (.lst (z0 _ _ hlc) (AtGL.mono z0 ags)) (.nil)))), (by show (isSideG _ && isSideG _) = false; rw [Bool.and_comm]; rfl)⟩ (allG_nil))))⟩
    clear hll agl lll s0 ll xs G0
    rintro _ G0 ⟨ll, xs, rfl, s0, hll, lll, agl⟩
    obtain ⟨k, ek, hk⟩ : ∃ k : Nat, way % 8 = (k : Int) ∧ k < 8 := ⟨(way % 8).toNat, by omega, by omega⟩
    have hy : xs[k]? = some (xs[k]'(by omega)) := List.getElem?_eq_getElem (by omega)
    obtain ⟨g, ag, pg⟩ := agl _ (List.mem_of_getElem? hy)
    exact ⟨_, rfl, _, rfl, _, _, rfl, rfl, by show (0 : Int) < 8; decide, ll, xs, _, _, rfl, rfl, SqL.of hll, by rw [ek]; exact atI_nat hy, q _ g _ s0 ag pg⟩
end
end KL

set_option Elab.async false
set_option linter.all false
set_option autoImplicit false
set_option maxRecDepth 100000
namespace KL
open PySem L2 GT PyProof.Rows
/-! ### the first cell that covers a place twice, as the law counts it -/
noncomputable def spTwice : Sp := fun vs H Q _ => ∃ (l : Addr) (ys : List V) (cs : List Cell) (R C k : Nat) (x : Cell), vs = [.ref l] ∧ H l = some (.lst ys) ∧ AtL H (cs.map Cell.D) ys ∧ R ≤ 16 ∧ C ≤ 16 ∧ Part R C (cs.take k) ∧ cs[k]? = some x ∧ Fit R C x ∧ (∃ y ∈ cs.take k, ∃ r c, inC x r c ∧ inC y r c) ∧ ∀ H', Same H H' → Q (.int (k : Int)) H'
noncomputable def covR (cs : List Cell) (i : Nat) (X : Cell) (r j : Nat) (r0 c0 : Nat) : Prop := GT.cov (cs.take i) r0 c0 ∨ (inC X r0 c0 ∧ (r0 < X.top + r ∨ (r0 = X.top + r ∧ c0 < X.left + j)))
noncomputable def noR (cs : List Cell) (i : Nat) (X : Cell) (r j : Nat) : Prop := ∀ r0 c0, inC X r0 c0 → (r0 < X.top + r ∨ (r0 = X.top + r ∧ c0 < X.left + j)) → ¬ GT.cov (cs.take i) r0 c0
section
variable {P : Program} {w : World} {K : PySem.W.Frag} {mg : Str → Option Value} {base : Heap}
theorem sc__law_covered_twice : FnScope ["_law_cells", "_law_seen", "_law_k", "_law_cell_here", "_law_row", "_law_column"] ["_law_cells"] (defScope (top 31)) := ⟨rfl, rfl, rfl, by decide +kernel, rfl, by decide +kernel, by decide +kernel⟩
set_option maxHeartbeats 4000000 in
theorem ok__law_covered_twice (T : Txt mg) (f : Addr) (fd : FuncData) (F : Fun K "_law_covered_twice" "_law_covered_twice" (top 31) f fd) : FnOk P w K mg base CX0 1 f fd ["_law_cells"] spTwice := by
  refine F.ok sc__law_covered_twice (fun vs H Q E h => ?_) (fun cdv A outer s H vs Q E hr h => ?_)
  · obtain ⟨l, ys, cs, R, C, k, x, rfl, _⟩ := h; rfl
  · obtain ⟨l, ys, cs, R, C, k, x, rfl, hl, ry, R2, C2, pt, hx, fx, hit, q⟩ := h
    have hu := hu_of hr
    have hkL := (List.getElem?_eq_some_iff.mp hx).1
    have lx := ry.length
    rw [List.length_map] at lx
    refine ⟨_, (pss_cons (ps_set (i := 1) sc__law_covered_twice.nd rfl (by first | exact Or.inl rfl | exact Or.inr rfl) pe_dnewT)
      (pss_cons (ps_for PassesOwn.never rfl (pi_enum (K := K) rfl rfl T.enumerate (pa_cons (pv 0) pa_nil)) (pg_tupK (K := K) (n := 2) rfl rfl (pgs_cons (pg_name (i := 2) sc__law_covered_twice.nd rfl (by first | exact Or.inl rfl | exact Or.inr rfl)) (pgs_cons (pg_name (i := 3) sc__law_covered_twice.nd rfl (by first | exact Or.inl rfl | exact Or.inr rfl)) pgs_nil))) (pss_one (ps_for PassesOwn.never rfl (pi_range2 rfl T.range (pa_cons (pe_ix (ix_tupK (K := K) rfl) (pv 3) pe_int (fun _ _ => rfl)) (pa_cons (pe_op op_add (pe_ix (ix_tupK (K := K) rfl) (pv 3) pe_int (fun _ _ => rfl)) (pe_ix (ix_tupK (K := K) rfl) (pv 3) pe_int (fun _ _ => rfl))) pa_nil))) (pg_name (i := 4) sc__law_covered_twice.nd rfl (by first | exact Or.inl rfl | exact Or.inr rfl)) (pss_one (ps_for PassesOwn.never rfl (pi_range2 rfl T.range (pa_cons (pe_ix (ix_tupK (K := K) rfl) (pv 3) pe_int (fun _ _ => rfl)) (pa_cons (pe_op op_add (pe_ix (ix_tupK (K := K) rfl) (pv 3) pe_int (fun _ _ => rfl)) (pe_ix (ix_tupK (K := K) rfl) (pv 3) pe_int (fun _ _ => rfl))) pa_nil))) (pg_name (i := 5) sc__law_covered_twice.nd rfl (by first | exact Or.inl rfl | exact Or.inr rfl)) (pss_cons (ps_if (pt_cmp (pc_din hu (pe_tup (pa_cons (pv 4) (pa_cons (pv 5) pa_nil))) (pv 1)) (by rfl)) (pss_one (ps_ret (pv 2))) pss_nil)
      (pss_one (ps_dput hu (pv 1) (pe_tup (pa_cons (pv 4) (pa_cons (pv 5) pa_nil))) pe_bl rfl))))))))
      (pss_one (ps_ret pe_non)))), ?_⟩
    refine fun d hd => ?_
    have s1 := Same.upd_new (o := .dT []) hd
    have k1 := upd_same (H := H) (a := d) (o := .dT [])
    generalize hH1 : upd H d (.dT []) = H1 at *
    refine ⟨_, rfl, l, rfl, ⟨_, SqL.of (s1 _ _ hl)⟩, ?_⟩
    refine for_enum (K := K) (a := l) (xs := ys) (fun i σ H2 => ∃ (c2 c3 c4 c5 : Option V) (kv : List (List Key × V)), σ = [some (.ref l), some (.ref d), c2, c3, c4, c5] ∧ Same H H2 ∧ H2 d = some (.dT kv) ∧ Kv R C kv (GT.cov (cs.take i)) ∧ i ≤ k)
      ⟨none, none, none, none, [], rfl, s1, k1, ⟨by simp, fun k hk => by simp at hk, fun r c => ⟨fun z => absurd rfl z, fun ⟨x, hx, _⟩ => by simp at hx⟩⟩, Nat.zero_le _⟩ (fun i σ H2 _ ⟨_, _, _, _, _, _, s2, _⟩ => SqL.of (s2 _ _ hl)) ?_ ?_
    · rintro i v σ H2 tp hi ⟨c2, c3, c4, c5, kv, rfl, s2, d2, kv2, hik⟩ htp
      obtain ⟨X, hX, ad⟩ := cellw_get ry hi
      have fX : Fit R C X := by
        by_cases z : i = k
        · subst z
          rw [hx] at hX
          cases hX
          exact fx
        · refine pt.fit X (List.mem_of_getElem? (i := i) ?_)
          rw [List.getElem?_take_of_lt (by omega)]
          exact hX
      have tell : ¬ i < k → ∀ H', Same H H' → Q (.int (i : Int)) H' := fun z => by
        have : i = k := by omega
        subst this
        exact q
      have apart : i < k → ∀ r c, inC X r c → ¬ GT.cov (cs.take i) r c := fun z => by
        have := cov_apart pt (i := i) (x := X) (by rw [List.getElem?_take_of_lt z]; exact hX)
        rw [List.take_take, Nat.min_eq_left (by omega)] at this
        exact this
      have f1 := fX.down
      have f2 := fX.across
      have x1 := fX.h1
      have x2 := fX.w1
      obtain ⟨b, wb, rfl, hb, _⟩ := cellw_inv (ad.mono s2)
      have s3 := Same.upd_new (o := .tup [.int (i : Int), .ref b]) htp
      have k3 := upd_same (H := H2) (a := tp) (o := .tup [.int (i : Int), .ref b])
      generalize hH3 : upd H2 tp (.tup [.int (i : Int), .ref b]) = H3 at *
      have s03 := s2.trans s3
      have hb3 := s3 _ _ hb
      have eh : ((X.top : Int) + (X.h : Int) - (X.top : Int)).toNat = X.h := by omega
      have ew : ((X.left : Int) + (X.w : Int) - (X.left : Int)).toNat = X.w := by omega
      refine ⟨tp, _, rfl, SqT.of k3, rfl, _, _, rfl, _, _, rfl, rfl, ?_⟩
      refine ⟨_, rfl, b, _, (0 : Int), _, rfl, rfl, SqT.of hb3, rfl, _, rfl, b, _, (0 : Int), _, rfl, rfl, SqT.of hb3, rfl, _, rfl, b, _, (2 : Int), _, rfl, rfl, SqT.of hb3, rfl, _, _, rfl, rfl, (X.top : Int), (X.top : Int) + (X.h : Int), rfl, ⟨by omega, by omega, by omega, by omega⟩, ?_⟩
      rw [eh]
      refine for_range (n := X.h) (fun r σ H4 => ∃ (c4 c5 : Option V) (kv : List (List Key × V)), σ = [some (.ref l), some (.ref d), some (.int (i : Int)), some (.ref b), c4, c5] ∧ Same H H4 ∧ SameT H3 H4 ∧ H4 d = some (.dT kv) ∧ Kv R C kv (covR cs i X r 0) ∧ noR cs i X r 0)
        ⟨_, _, kv, rfl, s03, fun _ _ z => z, s3 _ _ d2, kv2.same fun r c => ⟨fun z => .inl z, fun z => z.elim id fun ⟨y, z⟩ => by unfold inC at y; omega⟩, fun r0 c0 y z => by unfold inC at y; omega⟩ ?_ ?_
      · rintro r σ H4 hr4 ⟨c4, c5, kv, rfl, s4, t4, d4, kv4, no4⟩
        have hb4 := t4 _ _ hb3
        dsimp only [gName]
        refine ⟨_, rfl, b, _, (1 : Int), _, rfl, rfl, SqT.of hb4, rfl, _, rfl, b, _, (1 : Int), _, rfl, rfl, SqT.of hb4, rfl, _, rfl, b, _, (3 : Int), _, rfl, rfl, SqT.of hb4, rfl, _, _, rfl, rfl, (X.left : Int), (X.left : Int) + (X.w : Int), rfl, ⟨by omega, by omega, by omega, by omega⟩, ?_⟩
        rw [ew]
        have e1 : (X.top : Int) + (r : Int) = ((X.top + r : Nat) : Int) := by simp
        rw [e1]
        refine for_range (n := X.w) (fun j σ H5 => ∃ (c5 : Option V) (kv : List (List Key × V)), σ = [some (.ref l), some (.ref d), some (.int (i : Int)), some (.ref b), some (.int ((X.top + r : Nat) : Int)), c5] ∧ Same H H5 ∧ SameT H3 H5 ∧ H5 d = some (.dT kv) ∧ Kv R C kv (covR cs i X r j) ∧ noR cs i X r j)
          ⟨_, kv, rfl, s4, t4, d4, kv4, no4⟩ ?_ ?_
        · rintro j σ H5 hj5 ⟨c5, kv, rfl, s5, t5, d5, kv5, no5⟩
          have e2 : (X.left : Int) + (j : Int) = ((X.left + j : Nat) : Int) := by simp
          have hin : inC X (X.top + r) (X.left + j) := by unfold inC; omega
          dsimp only [gName]
          rw [e2]
          refine ⟨_, rfl, _, rfl, by show 2 ≤ sizeLine; decide, fun p hp => ?_⟩
          have s6 := Same.upd_new (o := .tup [.int ((X.top + r : Nat) : Int), .int ((X.left + j : Nat) : Int)]) hp
          have k6 := upd_same (H := H5) (a := p) (o := .tup [.int ((X.top + r : Nat) : Int), .int ((X.left + j : Nat) : Int)])
          generalize hH6 : upd H5 p (.tup [.int ((X.top + r : Nat) : Int), .int ((X.left + j : Nat) : Int)]) = H6 at *
          have d6 := s6 _ _ d5
          refine ⟨_, rfl, d, _, rfl, DGet.t (k := pl (X.top + r) (X.left + j)) d6 k6, _, rfl, ?_⟩
          cases hv : valV kv (pl (X.top + r) (X.left + j)) with
          | some o =>
            refine iteT ⟨_, rfl, tell (fun z => ?_) _ (s5.trans s6)⟩
            have cv := (kv5.val _ _).mp (by rw [hv]; simp)
            exact cv.elim (apart z _ _ hin) fun ⟨_, y⟩ => by omega
          | none =>
            refine iteF ?_
            have hno : ¬ covR cs i X r j (X.top + r) (X.left + j) := fun z => (kv5.val _ _).mpr z hv
            have kf := kv5.few (by omega) (by omega)
            obtain ⟨_, kvn⟩ := kv5.put hno (by omega) (by omega) (V.bl true)
            refine ⟨_, rfl, _, rfl, _, rfl, by show 2 ≤ sizeLine; decide, fun p7 hp7 => ?_⟩
            have s7 := Same.upd_new (o := .tup [.int ((X.top + r : Nat) : Int), .int ((X.left + j : Nat) : Int)]) hp7
            have d7 := s7 _ _ d6
            refine ⟨d, _, rfl, DPut.t (k := pl (X.top + r) (X.left + j)) d7 upd_same (small1000 (by omega)), ?_⟩
            refine ⟨_, _, rfl, fun b' o e => ?_, ((t5.trans s6.t).trans s7.t).trans (SameT.putD d7), upd_same, kvn.same fun r0 c0 => ?_, fun r0 c0 y z => ?_⟩
            · rw [upd_ne (ne_of_none e hd)]
              exact s7 _ _ (s6 _ _ (s5 _ _ e))
            · constructor
              · rintro ((z | ⟨y, z⟩) | ⟨rfl, rfl⟩)
                · exact .inl z
                · exact .inr ⟨y, by omega⟩
                · exact .inr ⟨hin, by omega⟩
              · rintro (z | ⟨y, z⟩)
                · exact .inl (.inl z)
                · by_cases e : r0 = X.top + r ∧ c0 = X.left + j
                  · exact .inr e
                  · exact .inl (.inr ⟨y, by omega⟩)
            · by_cases e : r0 = X.top + r ∧ c0 = X.left + j
              · obtain ⟨rfl, rfl⟩ := e
                exact fun u => hno (.inl u)
              · exact no5 r0 c0 y (by omega)
        · rintro σ H5 ⟨c5, kv, rfl, s5, t5, d5, kv5, no5⟩
          refine ⟨_, _, kv, rfl, s5, t5, d5, kv5.same fun r0 c0 => ⟨fun z => z.elim .inl fun ⟨y, z⟩ => .inr ⟨y, by unfold inC at y; omega⟩, fun z => z.elim .inl fun ⟨y, z⟩ => .inr ⟨y, by unfold inC at y; omega⟩⟩, fun r0 c0 y z => no5 r0 c0 y (by unfold inC at y; omega)⟩
      · rintro σ H4 ⟨c4, c5, kv, rfl, s4, t4, d4, kv4, no4⟩
        have hlt : i < k := by
          refine Classical.byContradiction fun z => ?_
          have : i = k := by omega
          subst this
          rw [hx] at hX
          cases hX
          obtain ⟨y, hy, r0, c0, h1, h2⟩ := hit
          exact no4 r0 c0 h1 (by unfold inC at h1; omega) ⟨y, hy, h2⟩
        refine ⟨_, _, _, _, kv, rfl, s4, d4, kv4.same fun r0 c0 => ?_, hlt⟩
        rw [List.take_add_one, hX]
        show _ ↔ GT.cov (cs.take i ++ [X]) r0 c0
        rw [cov_snoc]
        exact ⟨fun z => z.elim .inl fun z => .inr z.1, fun z => z.elim .inl fun z => .inr ⟨z, by unfold inC at z; omega⟩⟩
    · rintro σ H2 ⟨c2, c3, c4, c5, kv, rfl, s2, d2, kv2, hik⟩
      omega
end
end KL

set_option Elab.async false
set_option linter.all false
set_option autoImplicit false
set_option maxRecDepth 100000
namespace KL
open PySem L2 GT PyProof.Rows
/-! ### tables made wrong -/
noncomputable def ResF (H : Hp) (R C : Nat) (Q : VK) : Prop := ∀ (p l : Addr) (zs : List V) (gs : List Thg) (o : Option Nat) (H' : Hp), Same H H' → H' p = some (.tup [.ref l, atV o]) → H' l = some (.lst zs) → AtGL H' gs zs → gs.length ≤ 400 → Fault R C gs o → Q (.ref p) H'
theorem paired_set {α β : Type} {r : α → β → Prop} : ∀ {xs : List α} {ys : List β} {k : Nat} {x : α} {y : β}, Paired r xs ys → r x y → Paired r (xs.set k x) (ys.set k y)
  | [], [], _, _, _, _, _ => .nil
  | _ :: _, _ :: _, 0, _, _, .cons _ t, h => .cons h t
  | _ :: _, _ :: _, k + 1, _, _, .cons a t, h => .cons a (paired_set (k := k) t h)
theorem paired_ins {α β : Type} {r : α → β → Prop} : ∀ {xs : List α} {ys : List β} {k : Nat} {x : α} {y : β}, Paired r xs ys → r x y → Paired r (xs.take k ++ x :: xs.drop k) (ys.take k ++ y :: ys.drop k)
  | xs, ys, 0, _, _, p, h => .cons h p
  | [], [], k + 1, _, _, _, h => .cons h .nil
  | _ :: _, _ :: _, k + 1, _, _, .cons a t, h => .cons a (paired_ins (k := k) t h)
theorem paired_erase {α β : Type} {r : α → β → Prop} : ∀ {xs : List α} {ys : List β} {k : Nat}, Paired r xs ys → Paired r (xs.eraseIdx k) (ys.eraseIdx k)
  | [], [], _, _ => .nil
  | _ :: _, _ :: _, 0, .cons _ t => t
  | _ :: _, _ :: _, k + 1, .cons a t => .cons a (paired_erase (k := k) t)
noncomputable def spGrown : Sp := fun vs H Q _ => ∃ (v : V) (R C : Nat) (cs : List Cell) (k : Nat) (x : Cell) (down : Bool), vs = [v, .int (k : Int), .bl down] ∧ At H (tabD R C cs) v ∧ Tiles R C cs ∧ R ≤ 16 ∧ C ≤ 16 ∧ cs[k]? = some x ∧ ResF H R C Q
noncomputable def spTwo (K : PySem.W.Frag) : Sp := fun vs H Q _ => ∃ (v : V) (a : Addr) (ns : List Int) (R C : Nat) (cs : List Cell) (k : Nat), vs = [v, .ref a, .int (k : Int)] ∧ SqL K H a (ns.map V.int) ∧ At H (tabD R C cs) v ∧ Tiles R C cs ∧ R ≤ 16 ∧ C ≤ 16 ∧ k < cs.length ∧ ResF H R C Q
theorem by_test {T : TT} {σ : L2.St} {H : Hp} {Q : Bool → Hp → Prop} {P : Bool → Hp → Prop} (k : ∀ Q2 : Bool → Hp → Prop, (∀ b H', P b H' → Q2 b H') → T σ H Q2) (h : ∀ b H', P b H' → Q b H') : T σ H Q := k Q h
theorem ixN_nat {n k : Nat} (h : k < n) : ixN n (k : Int) = some k := by
  unfold ixN
  simp
  omega
section
variable {P : Program} {w : World} {K : PySem.W.Frag} {mg : Str → Option Value} {base : Heap}
theorem sc__law_grown : FnScope ["_law_table_here", "_law_at_here", "_law_down", "_law_cells", "_law_top", "_law_left", "_law_height", "_law_width", "_law_words_here"] ["_law_table_here", "_law_at_here", "_law_down"] (defScope (top 32)) := ⟨rfl, rfl, rfl, by decide +kernel, rfl, by decide +kernel, by decide +kernel⟩
set_option maxHeartbeats 4000000 in
theorem ok__law_grown (T : Txt mg) (c__law_covered_twice : Cal P w K mg base 1 "_law_covered_twice" ["_law_cells"] spTwice) (f : Addr) (fd : FuncData) (F : Fun K "_law_grown" "_law_grown" (top 32) f fd) : FnOk P w K mg base CX0 2 f fd ["_law_table_here", "_law_at_here", "_law_down"] spGrown := by
  refine F.ok sc__law_grown (fun vs H Q E h => ?_) (fun cdv A outer s H vs Q E hr h => ?_)
  · obtain ⟨v, R, C, cs, k, x, down, rfl, _⟩ := h; rfl
  · obtain ⟨v, R, C, cs, k, x, down, rfl, ht, tl, R2, C2, hx, res⟩ := h
    have hr__law_covered_twice : Room 1 (A.deeper (envOfC "_law_grown" (defScope (top 32)) s.heap.objs.size f cdv)) := hr.mono (by decide)
    obtain ⟨p, lt, ys, rfl, hp, hlt, ry⟩ := tab_inv ht
    have lx := ry.length
    rw [List.length_map] at lx
    have few := few300 tl.toPart R2 C2
    have hkL := (List.getElem?_eq_some_iff.mp hx).1
    obtain ⟨yv, hyv, ay⟩ := Paired.get1 ry (show (cs.map Cell.D)[k]? = some x.D by rw [List.getElem?_map, hx]; rfl)
    have fx := tl.toPart.fit x (List.mem_of_getElem? hx)
    have x1 := fx.h1
    have x2 := fx.w1
    have f1 := fx.down
    have f2 := fx.across
    have ags := atG_of (fun x hx => (tl.toPart.fit x hx).words) ry
    obtain ⟨b, wb, rfl, hb, hwb⟩ := cellw_inv ay
    have awb : AtG H (.tup (x.words.map Thg.str)) (.ref wb) := .tup hwb (strsG_at fx.words.small)
    refine ⟨_, (pss_cons (ps_set (i := 3) sc__law_grown.nd rfl (by first | exact Or.inl rfl | exact Or.inr rfl) (pe_callTy (call_listK (K := K) rfl) (by rfl) T.list PyProof.Rows.boot_list (pa_cons (pe_ix (ix_tupK (K := K) rfl) (pv 0) pe_int (fun _ _ => rfl)) pa_nil)))
      (pss_cons (ps_asg (pe_ix (ix_listK (K := K) rfl) (pv 3) (pv 1) (fun _ _ => rfl)) (pg_tupK (K := K) (n := 5) rfl rfl (pgs_cons (pg_name (i := 4) sc__law_grown.nd rfl (by first | exact Or.inl rfl | exact Or.inr rfl)) (pgs_cons (pg_name (i := 5) sc__law_grown.nd rfl (by first | exact Or.inl rfl | exact Or.inr rfl)) (pgs_cons (pg_name (i := 6) sc__law_grown.nd rfl (by first | exact Or.inl rfl | exact Or.inr rfl)) (pgs_cons (pg_name (i := 7) sc__law_grown.nd rfl (by first | exact Or.inl rfl | exact Or.inr rfl)) (pgs_cons (pg_name (i := 8) sc__law_grown.nd rfl (by first | exact Or.inl rfl | exact Or.inr rfl)) pgs_nil)))))))
      (pss_cons (ps_if (PW.pt (pw_and (pt_val (pv 2)) (pw_and1 (pt_cmpR op_lt (pe_op op_add (pv 4) (pv 6)) (pe_ix (ix_tupK (K := K) rfl) (pv 0) pe_int (fun _ _ => rfl)) (nomark _))))) (pss_one (ps_asg (pe_tup (pa_cons (pv 4) (pa_cons (pv 5) (pa_cons (pe_op op_add (pv 6) pe_int) (pa_cons (pv 7) (pa_cons (pv 8) pa_nil)))))) (pg_sub (pv 3) (pv 1) set_list))) (pss_one (ps_if (pt_cmpR op_lt (pe_op op_add (pv 5) (pv 7)) (pe_ix (ix_tupK (K := K) rfl) (pv 0) pe_int (fun _ _ => rfl)) (nomark _)) (pss_one (ps_asg (pe_tup (pa_cons (pv 4) (pa_cons (pv 5) (pa_cons (pv 6) (pa_cons (pe_op op_add (pv 7) pe_int) (pa_cons (pv 8) pa_nil)))))) (pg_sub (pv 3) (pv 1) set_list))) (pss_cons (ps_expr (pe_bmK (K := K) rfl PySem.F.plainAttrs_list PySem.F.slot_list_insert PySem.F.type_list_insert mt_insert (pv 3) (pa_cons (pe_op op_add (pv 1) pe_int) (pa_cons (pe_ix (ix_listK (K := K) rfl) (pv 3) (pv 1) (fun _ _ => rfl)) pa_nil))))
      (pss_one (ps_ret (pe_tup (pa_cons (pv 3) (pa_cons (pe_op op_add (pv 1) pe_int) pa_nil)))))))))
      (pss_one (ps_ret (pe_tup (pa_cons (pv 3) (pa_cons (pe_cal c__law_covered_twice hr__law_covered_twice rfl (pa_cons (pv 3) pa_nil)) pa_nil)))))))), ?_⟩
    refine ⟨_, rfl, p, _, (2 : Int), _, rfl, rfl, SqT.of hp, rfl, lt, ys, rfl, .inl (SqL.of hlt), fun lc hlc => ?_⟩
    have s1 := Same.upd_new (o := .lst ys) hlc
    have k1 := upd_same (H := H) (a := lc) (o := .lst ys)
    generalize hH1 : upd H lc (.lst ys) = H1 at *
    refine ⟨_, rfl, _, rfl, lc, ys, _, .ref b, rfl, rfl, SqL.of k1, atI_nat hyv, ?_⟩
    refine ⟨b, _, rfl, SqT.of (s1 _ _ hb), rfl, _, _, rfl, _, _, rfl, _, _, rfl, _, _, rfl, _, _, rfl, rfl, ?_⟩
    -- a cell grown, and counted
    have fin : ∀ (x' : Cell) (r c : Nat), Fit R C x' → x'.top = x.top → x'.left = x.left → x'.words = x.words → r < R → c < C → inC x' r c → ¬ inC x r c → ∀ (t : Addr) (H2 : Hp), Same H1 H2 → H1 t = none → H2 t = some (.tup [.int (x'.top : Int), .int (x'.left : Int), .int (x'.h : Int), .int (x'.w : Int), .ref wb]) →
        ∃ i y, (cs.set k x')[i]? = some y ∧ Part R C ((cs.set k x').take i) ∧ Fit R C y ∧ (∃ z ∈ (cs.set k x').take i, ∃ r c, inC y r c ∧ inC z r c) ∧ Fault R C ((cs.set k x').map Cell.G) (some i) ∧
          Same H (upd H2 lc (.lst (ys.set k (.ref t)))) ∧ AtGL (upd H2 lc (.lst (ys.set k (.ref t)))) ((cs.set k x').map Cell.G) (ys.set k (.ref t)) := by
      intro x' r c f' e1 e2 e3 hr hc i1 i2 t H2 s2 ht2 k2
      obtain ⟨i, y, g1, g2, g3, g4, g5⟩ := grown_twice tl hx f' e1 e2 hr hc i1 i2
      have sm : Same H (upd H2 lc (.lst (ys.set k (.ref t)))) := fun b' o e => by
        rw [upd_ne (ne_of_none e hlc)]
        exact s2 _ _ (s1 _ _ e)
      refine ⟨i, y, g1, g2, g3, g4, g5, sm, ?_⟩
      rw [List.map_set]
      refine paired_set (AtGL.mono sm ags) ?_
      have nt : t ≠ lc := fun z => by rw [z, k1] at ht2; cases ht2
      unfold Cell.G
      rw [e3]
      exact .tup (by rw [upd_ne nt]; exact k2) (.cons (.int _) (.cons (.int _) (.cons (.int _) (.cons (.int _) (.cons (awb.mono sm) .nil)))))
    have ln : ∀ x', ((cs.set k x').map Cell.G).length ≤ 400 := fun x' => by rw [List.length_map, List.length_set]; omega
    dsimp only [gName, tSeq]
    refine by_nx (T := tIfS _ _ _) (P := fun σ H3 => ∃ (x' : Cell) (i : Nat) (y : Cell) (zs : List V), σ = [some (.ref p), some (.int (k : Int)), some (.bl down), some (.ref lc), some (.int (x.top : Int)), some (.int (x.left : Int)), some (.int (x.h : Int)), some (.int (x.w : Int)), some (.ref wb)] ∧ Same H H3 ∧ H3 lc = some (.lst zs) ∧ AtGL H3 ((cs.set k x').map Cell.G) zs ∧
      (cs.set k x')[i]? = some y ∧ Part R C ((cs.set k x').take i) ∧ Fit R C y ∧ (∃ z ∈ (cs.set k x').take i, ∃ r c, inC y r c ∧ inC z r c) ∧ Fault R C ((cs.set k x').map Cell.G) (some i)) (fun N2 k2 => ?_) ?_
    · refine by_test (T := tAnd _ _) (P := fun b H' => H1 = H' ∧ (b = true → x.top + x.h < R)) (fun Q2 h2 => ?_) ?_
      · refine ⟨_, rfl, down, rfl, ?_⟩
        cases down with
        | false => exact iteF (h2 _ _ ⟨rfl, fun z => by cases z⟩)
        | true =>
          refine iteT ⟨_, rfl, _, rfl, _, _, rfl, rfl, _, rfl, p, _, (0 : Int), _, rfl, rfl, SqT.of (s1 _ _ hp), rfl, _, _, rfl, rfl, _, rfl, h2 _ _ ⟨rfl, fun z => ?_⟩⟩
          have := of_decide_eq_true z
          omega
      rintro b' H' ⟨rfl, hb'⟩
      cases b' with
      | true =>
        have hd := hb' rfl
        refine iteT ⟨_, rfl, _, rfl, _, rfl, _, _, rfl, rfl, _, rfl, _, rfl, by show 5 ≤ sizeLine; decide, fun t ht => ?_⟩
        dsimp only
        have e : (x.h : Int) + 1 = ((x.h + 1 : Nat) : Int) := by omega
        rw [e]
        have s2 := Same.upd_new (o := .tup [.int (x.top : Int), .int (x.left : Int), .int ((x.h + 1 : Nat) : Int), .int (x.w : Int), .ref wb]) ht
        have k2' := upd_same (H := H1) (a := t) (o := .tup [.int (x.top : Int), .int (x.left : Int), .int ((x.h + 1 : Nat) : Int), .int (x.w : Int), .ref wb])
        generalize upd H1 t (.tup [.int (x.top : Int), .int (x.left : Int), .int ((x.h + 1 : Nat) : Int), .int (x.w : Int), .ref wb]) = H2 at *
        obtain ⟨i, y, g1, g2, g3, g4, g5, sm, ag⟩ := fin ⟨x.top, x.left, x.h + 1, x.w, x.words⟩ (x.top + x.h) x.left ⟨by show 1 ≤ x.h + 1; omega, x2, by show x.top + (x.h + 1) ≤ R; omega, f2, fx.words⟩ rfl rfl rfl hd (by omega) (by show x.top ≤ x.top + x.h ∧ x.top + x.h < x.top + (x.h + 1) ∧ x.left ≤ x.left ∧ x.left < x.left + x.w; omega) (by unfold inC; omega) t H2 s2 ht k2'
        exact ⟨_, rfl, _, rfl, lc, _, _, k, rfl, rfl, s2 _ _ k1, ixN_nat (by omega), k2 _ _ ⟨_, i, y, _, rfl, sm, upd_same, ag, g1, g2, g3, g4, g5⟩⟩
      | false =>
        refine iteF ⟨_, rfl, _, rfl, _, _, rfl, rfl, _, rfl, p, _, (1 : Int), _, rfl, rfl, SqT.of (s1 _ _ hp), rfl, _, _, rfl, rfl, _, rfl, ite2 (fun z => ?_) (fun z => ?_)⟩
        · have hd : x.left + x.w < C := by have := of_decide_eq_true z; omega
          refine ⟨_, rfl, _, rfl, _, rfl, _, rfl, _, _, rfl, rfl, _, rfl, by show 5 ≤ sizeLine; decide, fun t ht => ?_⟩
          dsimp only
          have e : (x.w : Int) + 1 = ((x.w + 1 : Nat) : Int) := by omega
          rw [e]
          have s2 := Same.upd_new (o := .tup [.int (x.top : Int), .int (x.left : Int), .int (x.h : Int), .int ((x.w + 1 : Nat) : Int), .ref wb]) ht
          have k2' := upd_same (H := H1) (a := t) (o := .tup [.int (x.top : Int), .int (x.left : Int), .int (x.h : Int), .int ((x.w + 1 : Nat) : Int), .ref wb])
          generalize upd H1 t (.tup [.int (x.top : Int), .int (x.left : Int), .int (x.h : Int), .int ((x.w + 1 : Nat) : Int), .ref wb]) = H2 at *
          obtain ⟨i, y, g1, g2, g3, g4, g5, sm, ag⟩ := fin ⟨x.top, x.left, x.h, x.w + 1, x.words⟩ x.top (x.left + x.w) ⟨x1, by show 1 ≤ x.w + 1; omega, f1, by show x.left + (x.w + 1) ≤ C; omega, fx.words⟩ rfl rfl rfl (by omega) hd (by show x.top ≤ x.top ∧ x.top < x.top + x.h ∧ x.left ≤ x.left + x.w ∧ x.left + x.w < x.left + (x.w + 1); omega) (by unfold inC; omega) t H2 s2 ht k2'
          exact ⟨_, rfl, _, rfl, lc, _, _, k, rfl, rfl, s2 _ _ k1, ixN_nat (by omega), k2 _ _ ⟨_, i, y, _, rfl, sm, upd_same, ag, g1, g2, g3, g4, g5⟩⟩
        · refine ⟨_, rfl, .inl ⟨rfl, _, SqL.of k1⟩, _, rfl, _, _, rfl, rfl, _, rfl, _, rfl, lc, ys, _, .ref b, rfl, rfl, SqL.of k1, atI_nat hyv, lc, ys, k + 1, .ref b, rfl, rfl, k1, by omega, by omega, ?_⟩
          have sm : Same H (upd H1 lc (.lst (ys.take (k + 1) ++ .ref b :: ys.drop (k + 1)))) := fun b' o e => by
            rw [upd_ne (ne_of_none e hlc)]
            exact s1 _ _ e
          have ag : AtGL (upd H1 lc (.lst (ys.take (k + 1) ++ .ref b :: ys.drop (k + 1)))) ((cs.map Cell.G).take (k + 1) ++ x.G :: (cs.map Cell.G).drop (k + 1)) (ys.take (k + 1) ++ .ref b :: ys.drop (k + 1)) := paired_ins (AtGL.mono sm ags) (AtG.mono sm (Cell.atG ay fx.words.small))
          refine ⟨_, rfl, _, rfl, _, _, rfl, rfl, by show 2 ≤ sizeLine; decide, fun u hu => ?_⟩
          dsimp only
          have e : (k : Int) + 1 = ((k + 1 : Nat) : Int) := by omega
          rw [e]
          have s5 := Same.upd_new (o := .tup [.ref lc, .int ((k + 1 : Nat) : Int)]) hu
          refine res u lc _ _ (some (k + 1)) _ (sm.trans s5) upd_same (s5 _ _ upd_same) (AtGL.mono s5 ag) ?_ (fault_twice tl hx rfl)
          rw [List.length_append, List.length_take, List.length_cons, List.length_drop, List.length_map]
          omega
    · rintro σ H3 ⟨x', i, y, zs, rfl, s3, k3, ag3, g1, g2, g3, g4, g5⟩
      refine ⟨_, rfl, _, rfl, lc, zs, cs.set k x', R, C, i, y, rfl, k3, atD_of ag3, R2, C2, g2, g1, g3, g4, fun H4 s4 => ⟨by show 2 ≤ sizeLine; decide, fun u hu => ?_⟩⟩
      have s5 := Same.upd_new (o := .tup [.ref lc, .int (i : Int)]) hu
      exact res u lc _ _ (some i) _ ((s3.trans s4).trans s5) upd_same (s5 _ _ (s4 _ _ k3)) (AtGL.mono (s4.trans s5) ag3) (ln x') g5
end
section
variable {P : Program} {w : World} {K : PySem.W.Frag} {mg : Str → Option Value} {base : Heap}
theorem sc__law_two : FnScope ["_law_table_here", "_law_script", "_law_at_here", "_law_cells", "_law_last"] ["_law_table_here", "_law_script", "_law_at_here"] (defScope (top 33)) := ⟨rfl, rfl, rfl, by decide +kernel, rfl, by decide +kernel, by decide +kernel⟩
set_option maxHeartbeats 4000000 in
theorem ok__law_two (T : Txt mg) (c__law_spoilt : Cal P w K mg base 1 "_law_spoilt" ["_law_table_here", "_law_cell_here", "_law_way"] spSpoilt) (c__law_cell : Cal P w K mg base 1 "_law_cell" ["_law_script", "_law_k"] (spCell K)) (f : Addr) (fd : FuncData) (F : Fun K "_law_two" "_law_two" (top 33) f fd) : FnOk P w K mg base CX0 2 f fd ["_law_table_here", "_law_script", "_law_at_here"] (spTwo K) := by
  refine F.ok sc__law_two (fun vs H Q E h => ?_) (fun cdv A outer s H vs Q E hr h => ?_)
  · obtain ⟨v, a, ns, R, C, cs, k, rfl, _⟩ := h; rfl
  · obtain ⟨v, a, ns, R, C, cs, k, rfl, hs, ht, tl, R2, C2, hkL, res⟩ := h
    have hr__law_spoilt : Room 1 (A.deeper (envOfC "_law_two" (defScope (top 33)) s.heap.objs.size f cdv)) := hr.mono (by decide)
    have hr__law_cell : Room 1 (A.deeper (envOfC "_law_two" (defScope (top 33)) s.heap.objs.size f cdv)) := hr.mono (by decide)
    obtain ⟨p, lt, ys, rfl, hp, hlt, ry⟩ := tab_inv ht
    have lx := ry.length
    rw [List.length_map] at lx
    have few := few300 tl.toPart R2 C2
    have ags := atG_of (fun x hx => (tl.toPart.fit x hx).words) ry
    have get : ∀ i, i < cs.length → ∃ X yv, cs[i]? = some X ∧ ys[i]? = some yv ∧ At H X.D yv ∧ Fit R C X := fun i hi => by
      obtain ⟨X, hX⟩ : ∃ X, cs[i]? = some X := ⟨_, List.getElem?_eq_getElem hi⟩
      obtain ⟨yv, hyv, ay⟩ := Paired.get1 ry (show (cs.map Cell.D)[i]? = some X.D by rw [List.getElem?_map, hX]; rfl)
      exact ⟨X, yv, hX, hyv, ay, tl.toPart.fit X (List.mem_of_getElem? hX)⟩
    obtain ⟨X, yv, hX, hyv, ay, fX⟩ := get k hkL
    refine ⟨_, (pss_cons (ps_set (i := 3) sc__law_two.nd rfl (by first | exact Or.inl rfl | exact Or.inr rfl) (pe_callTy (call_listK (K := K) rfl) (by rfl) T.list PyProof.Rows.boot_list (pa_cons (pe_ix (ix_tupK (K := K) rfl) (pv 0) pe_int (fun _ _ => rfl)) pa_nil)))
      (pss_cons (ps_asg (pe_cal c__law_spoilt hr__law_spoilt rfl (pa_cons (pv 0) (pa_cons (pe_ix (ix_listK (K := K) rfl) (pv 3) (pv 2) (fun _ _ => rfl)) (pa_cons (pe_cal c__law_cell hr__law_cell rfl (pa_cons (pv 1) (pa_cons pe_int pa_nil))) pa_nil)))) (pg_sub (pv 3) (pv 2) set_list))
      (pss_cons (ps_if (PW.pt (pw_and (pt_cmpR op_lt (pe_op op_add (pv 2) pe_int) (pe_callB (call_lenK (K := K) rfl) (by rfl) T.len PySem.boot_len (pa_cons (pv 3) pa_nil)) (nomark _)) (pw_and1 (pt_cmpR op_eq (pe_op op_mod (pe_cal c__law_cell hr__law_cell rfl (pa_cons (pv 1) (pa_cons pe_int pa_nil))) pe_int) pe_int (nomark _))))) (pss_cons (ps_set (i := 4) sc__law_two.nd rfl (by first | exact Or.inl rfl | exact Or.inr rfl) (pe_op op_add (pe_op op_add (pv 2) pe_int) (pe_op op_mod (pe_cal c__law_cell hr__law_cell rfl (pa_cons (pv 1) (pa_cons pe_int pa_nil))) (pe_op op_sub (pe_op op_sub (pe_callB (call_lenK (K := K) rfl) (by rfl) T.len PySem.boot_len (pa_cons (pv 3) pa_nil)) (pv 2)) pe_int))))
      (pss_one (ps_asg (pe_cal c__law_spoilt hr__law_spoilt rfl (pa_cons (pv 0) (pa_cons (pe_ix (ix_listK (K := K) rfl) (pv 3) (pv 4) (fun _ _ => rfl)) (pa_cons (pe_cal c__law_cell hr__law_cell rfl (pa_cons (pv 1) (pa_cons pe_int pa_nil))) pa_nil)))) (pg_sub (pv 3) (pv 4) set_list)))) pss_nil)
      (pss_one (ps_ret (pe_tup (pa_cons (pv 3) (pa_cons (pv 2) pa_nil)))))))), ?_⟩
    refine ⟨_, rfl, p, _, (2 : Int), _, rfl, rfl, SqT.of hp, rfl, lt, ys, rfl, .inl (SqL.of hlt), fun lc hlc => ?_⟩
    have s1 := Same.upd_new (o := .lst ys) hlc
    have k1 := upd_same (H := H) (a := lc) (o := .lst ys)
    generalize hH1 : upd H lc (.lst ys) = H1 at *
    refine ⟨_, rfl, _, rfl, _, rfl, lc, ys, _, yv, rfl, rfl, SqL.of k1, atI_nat hyv, _, rfl, a, ns, 2, rfl, s1.seq hs, _, _, _, R, C, X, _, p, rfl, rfl, s1 _ _ hp, ay.mono s1, fX, by omega, by omega, fun v2 g2 H2 s2 ag2 bad2 => ?_⟩
    refine ⟨_, rfl, _, rfl, lc, ys, _, k, rfl, rfl, s2 _ _ k1, ixN_nat (by omega), ?_⟩
    have ag3 := ag2.mono (off_put (G := H2) (o := .lst (ys.set k v2)) k1)
    have s03 : Same H (upd H2 lc (.lst (ys.set k v2))) := fun b' o e => by
      rw [upd_ne (ne_of_none e hlc)]
      exact s2 _ _ (s1 _ _ e)
    have k3 := upd_same (H := H2) (a := lc) (o := .lst (ys.set k v2))
    have agl3 : AtGL (upd H2 lc (.lst (ys.set k v2))) ((cs.map Cell.G).set k g2) (ys.set k v2) := paired_set (AtGL.mono s03 ags) ag3
    have h23 : ∀ a' u, a' ≠ lc → H2 a' = some u → upd H2 lc (.lst (ys.set k v2)) a' = some u := fun a' u n e => by rw [upd_ne n]; exact e
    generalize upd H2 lc (.lst (ys.set k v2)) = H3 at *
    have take0 : ∀ gs : List Thg, gs.take k = (cs.map Cell.G).take k → gs[k]? = some g2 → Fault R C gs (some k) := fun gs h1 h2 => fault_at tl (by omega) h1 h2 bad2.wrong
    dsimp only [gName, tSeq]
    refine by_nx (T := tIfS _ _ _) (P := fun σ H4 => ∃ (c4 : Option V) (zs : List V) (gs : List Thg), σ = [some (.ref p), some (.ref a), some (.int (k : Int)), some (.ref lc), c4] ∧ Same H H4 ∧ H4 lc = some (.lst zs) ∧ AtGL H4 gs zs ∧ gs.length ≤ 400 ∧ Fault R C gs (some k)) (fun N2 k2 => ?_) ?_
    · have none' : N2 [some (.ref p), some (.ref a), some (.int (k : Int)), some (.ref lc), none] H3 := k2 _ _ ⟨_, _, _, rfl, s03, k3, agl3, by rw [List.length_set, List.length_map]; omega, take0 _ (take_set_same (Nat.le_refl _)) (List.getElem?_set_self (by rw [List.length_map]; omega))⟩
      refine ⟨_, rfl, _, _, rfl, rfl, _, rfl, lc, _, rfl, .inl (SqL.of k3), _, _, rfl, rfl, _, rfl, ite2 (fun z => ?_) (fun _ => iteF none')⟩
      have z := of_decide_eq_true z
      rw [List.length_set] at z
      have hk2 : k + 1 < cs.length := by omega
      refine ⟨_, rfl, a, ns, 5, rfl, s03.seq hs, _, _, rfl, rfl, by show (0 : Int) < 2; decide, rfl, _, rfl, ite2 (fun _ => ?_) (fun _ => none')⟩
      obtain ⟨m, em, hm⟩ : ∃ m : Nat, ns.getD 6 0 % ((cs.length : Int) - (k : Int) - 1) = (m : Int) ∧ k + 1 + m < cs.length := by
        have p0 : (0 : Int) < (cs.length : Int) - (k : Int) - 1 := by omega
        have a1 := Int.emod_nonneg (ns.getD 6 0) (by omega : (cs.length : Int) - (k : Int) - 1 ≠ 0)
        have a2 := Int.emod_lt_of_pos (ns.getD 6 0) p0
        exact ⟨(ns.getD 6 0 % ((cs.length : Int) - (k : Int) - 1)).toNat, by omega, by omega⟩
      refine ⟨_, rfl, _, _, rfl, rfl, _, rfl, a, ns, 6, rfl, s03.seq hs, _, rfl, lc, _, rfl, .inl (SqL.of k3), _, rfl, _, _, rfl, rfl, _, _, rfl, rfl, _, _, rfl, rfl, by rw [List.length_set]; omega, _, _, rfl, rfl, ?_⟩
      dsimp only
      rw [List.length_set, ← lx, em]
      have em2 : (k : Int) + 1 + (m : Int) = ((k + 1 + m : Nat) : Int) := by omega
      rw [em2]
      obtain ⟨Y, zv, hY, hzv, az, fY⟩ := get (k + 1 + m) hm
      have hz3 : (ys.set k v2)[k + 1 + m]? = some zv := by rw [List.getElem?_set_ne (by omega)]; exact hzv
      refine ⟨_, rfl, _, rfl, _, rfl, lc, _, _, zv, rfl, rfl, SqL.of k3, atI_nat hz3, _, rfl, a, ns, 7, rfl, s03.seq hs, _, _, _, R, C, Y, _, p, rfl, rfl, s03 _ _ hp, az.mono s03, fY, by omega, by omega, fun v5 g5 H5 s5 ag5 bad5 => ?_⟩
      refine ⟨_, rfl, _, rfl, lc, _, _, k + 1 + m, rfl, rfl, s5 _ _ k3, ixN_nat (by rw [List.length_set]; omega), ?_⟩
      have ag6 := ag5.mono (off_put (G := H5) (o := .lst ((ys.set k v2).set (k + 1 + m) v5)) k3)
      have s06 : Same H (upd H5 lc (.lst ((ys.set k v2).set (k + 1 + m) v5))) := fun b' o e => by
        rw [upd_ne (ne_of_none e hlc)]
        exact s5 _ _ (s03 _ _ e)
      -- the first wrong one is still there
      have ag26 : AtG (upd H5 lc (.lst ((ys.set k v2).set (k + 1 + m) v5))) g2 v2 := ag2.mono fun a' u e => by
        obtain ⟨n, e2⟩ := off_get k1 e
        rw [upd_ne n]
        exact s5 _ _ (h23 _ _ n e2)
      refine k2 _ _ ⟨_, _, _, rfl, s06, upd_same, paired_set (paired_set (AtGL.mono s06 ags) ag26) ag6, by rw [List.length_set, List.length_set, List.length_map]; omega, take0 _ ?_ ?_⟩
      · rw [take_set_same (by omega), take_set_same (Nat.le_refl _)]
      · rw [List.getElem?_set_ne (by omega), List.getElem?_set_self (by rw [List.length_map]; omega)]
    · rintro σ H4 ⟨c4, zs, gs, rfl, s4, k4, ag4, l4, f4⟩
      refine ⟨_, rfl, _, rfl, by show 2 ≤ sizeLine; decide, fun u hu => ?_⟩
      have s5 := Same.upd_new (o := .tup [.ref lc, .int (k : Int)]) hu
      exact res u lc _ _ (some k) _ (s4.trans s5) upd_same (s5 _ _ k4) (AtGL.mono s5 ag4) l4 f4
end
end KL

set_option Elab.async false
set_option linter.all false
set_option autoImplicit false
set_option maxRecDepth 100000
namespace KL
open PySem L2 GT PyProof.Rows
/-! ### a wrong table, and where it is wrong -/
noncomputable def BadT (g : Thg) (o : Option Nat) : Prop := (isFrameG g = false ∧ o = none) ∨ ∃ (R C : Nat) (gs : List Thg), g = .tup [.int (R : Int), .int (C : Int), .lst gs] ∧ 1 ≤ R ∧ R ≤ 16 ∧ 1 ≤ C ∧ C ≤ 16 ∧ gs.length ≤ 400 ∧ Fault R C gs o
noncomputable def spBad (K : PySem.W.Frag) : Sp := fun vs H Q _ => ∃ (v : V) (a : Addr) (ns : List Int) (way : Int) (R C : Nat) (cs : List Cell), vs = [v, .ref a, .int way] ∧ SqL K H a (ns.map V.int) ∧ At H (tabD R C cs) v ∧ Tiles R C cs ∧ 1 ≤ R ∧ R ≤ 16 ∧ 1 ≤ C ∧ C ≤ 16 ∧
  ∀ (p t : Addr) (g : Thg) (o : Option Nat) (H' : Hp), Same H H' → H' p = some (.tup [.ref t, atV o]) → AtG H' g (.ref t) → BadT g o → Q (.ref p) H'
theorem seqIx {n k : Nat} (h : k < n) : seqIndex? (k : Int) n = some k := by
  unfold seqIndex?
  simp
  omega
section
variable {P : Program} {w : World} {K : PySem.W.Frag} {mg : Str → Option Value} {base : Heap}
theorem sc__law_bad : FnScope ["_law_table_here", "_law_script", "_law_way", "_law_cells", "_law_at_here", "_law_one"] ["_law_table_here", "_law_script", "_law_way"] (defScope (top 34)) := ⟨rfl, rfl, rfl, by decide +kernel, rfl, by decide +kernel, by decide +kernel⟩
set_option maxHeartbeats 4000000 in
theorem ok__law_bad (T : Txt mg) (c__law_cell : Cal P w K mg base 1 "_law_cell" ["_law_script", "_law_k"] (spCell K)) (c__law_grown : Cal P w K mg base 2 "_law_grown" ["_law_table_here", "_law_at_here", "_law_down"] spGrown) (c__law_two : Cal P w K mg base 2 "_law_two" ["_law_table_here", "_law_script", "_law_at_here"] (spTwo K)) (f : Addr) (fd : FuncData) (F : Fun K "_law_bad" "_law_bad" (top 34) f fd) : FnOk P w K mg base CX0 3 f fd ["_law_table_here", "_law_script", "_law_way"] (spBad K) := by
  refine F.ok sc__law_bad (fun vs H Q E h => ?_) (fun cdv A outer s H vs Q E hr h => ?_)
  · obtain ⟨v, a, ns, way, R, C, cs, rfl, _⟩ := h; rfl
  · obtain ⟨v, a, ns, way, R, C, cs, rfl, hs, ht, tl, R1, R2, C1, C2, res⟩ := h
    have hr__law_cell : Room 1 (A.deeper (envOfC "_law_bad" (defScope (top 34)) s.heap.objs.size f cdv)) := hr.mono (by decide)
    have hr__law_grown : Room 2 (A.deeper (envOfC "_law_bad" (defScope (top 34)) s.heap.objs.size f cdv)) := hr.mono (by decide)
    have hr__law_two : Room 2 (A.deeper (envOfC "_law_bad" (defScope (top 34)) s.heap.objs.size f cdv)) := hr.mono (by decide)
    have htD := ht
    obtain ⟨p, lt, ys, rfl, hp, hlt, ry⟩ := tab_inv ht
    have lx := ry.length
    rw [List.length_map] at lx
    have few := few300 tl.toPart R2 C2
    have ags := atG_of (fun x hx => (tl.toPart.fit x hx).words) ry
    have get : ∀ i, i < cs.length → ∃ X yv, cs[i]? = some X ∧ ys[i]? = some yv ∧ At H X.D yv ∧ Fit R C X := fun i hi => by
      obtain ⟨X, hX⟩ : ∃ X, cs[i]? = some X := ⟨_, List.getElem?_eq_getElem hi⟩
      obtain ⟨yv, hyv, ay⟩ := Paired.get1 ry (show (cs.map Cell.D)[i]? = some X.D by rw [List.getElem?_map, hX]; rfl)
      exact ⟨X, yv, hX, hyv, ay, tl.toPart.fit X (List.mem_of_getElem? hX)⟩
    have pos : 0 < cs.length := by
      obtain ⟨x, hx, _⟩ := tl.all 0 0 (by omega) (by omega)
      exact List.length_pos_of_mem hx
    refine ⟨_, (pss_cons (ps_set (i := 3) sc__law_bad.nd rfl (by first | exact Or.inl rfl | exact Or.inr rfl) (pe_callTy (call_listK (K := K) rfl) (by rfl) T.list PyProof.Rows.boot_list (pa_cons (pe_ix (ix_tupK (K := K) rfl) (pv 0) pe_int (fun _ _ => rfl)) pa_nil)))
      (pss_cons (ps_set (i := 4) sc__law_bad.nd rfl (by first | exact Or.inl rfl | exact Or.inr rfl) (pe_op op_mod (pe_cal c__law_cell hr__law_cell rfl (pa_cons (pv 1) (pa_cons pe_int pa_nil))) (pe_callB (call_lenK (K := K) rfl) (by rfl) T.len PySem.boot_len (pa_cons (pv 3) pa_nil))))
      (pss_cons (ps_if (pt_cmpR op_eq (pv 2) pe_int (nomark _)) (pss_cons (ps_expr (pe_bmK (K := K) rfl PySem.F.plainAttrs_list PySem.F.slot_list_pop PySem.F.type_list_pop mt_popAt (pv 3) (pa_cons (pv 4) pa_nil)))
      (pss_one (ps_set (i := 4) sc__law_bad.nd rfl (by first | exact Or.inl rfl | exact Or.inr rfl) pe_non))) (pss_one (ps_if (PW.pt (pw_and (pt_cmpR op_eq (pv 2) pe_int (nomark _)) (pw_and1 (pt_cmpR op_gt (pv 4) pe_int (nomark _))))) (pss_cons (ps_set (i := 5) sc__law_bad.nd rfl (by first | exact Or.inl rfl | exact Or.inr rfl) (pe_ix (ix_listK (K := K) rfl) (pv 3) (pe_op op_sub (pv 4) pe_int) (fun _ _ => rfl)))
      (pss_cons (ps_asg (pe_ix (ix_listK (K := K) rfl) (pv 3) (pv 4) (fun _ _ => rfl)) (pg_sub (pv 3) (pe_op op_sub (pv 4) pe_int) set_list))
      (pss_one (ps_asg (pv 5) (pg_sub (pv 3) (pv 4) set_list))))) (pss_one (ps_if (pt_cmpR op_eq (pv 2) pe_int (nomark _)) (pss_cons (ps_expr (pe_bmK (K := K) rfl PySem.F.plainAttrs_list PySem.F.slot_list_insert PySem.F.type_list_insert mt_insert (pv 3) (pa_cons (pe_op op_add (pv 4) pe_int) (pa_cons (pe_ix (ix_listK (K := K) rfl) (pv 3) (pv 4) (fun _ _ => rfl)) pa_nil))))
      (pss_one (ps_set (i := 4) sc__law_bad.nd rfl (by first | exact Or.inl rfl | exact Or.inr rfl) (pe_op op_add (pv 4) pe_int)))) (pss_one (ps_if (pt_cmpR op_eq (pv 2) pe_int (nomark _)) (pss_one (ps_asg (pe_cal c__law_grown hr__law_grown rfl (pa_cons (pv 0) (pa_cons (pv 4) (pa_cons (pe_cmpR op_eq (pe_op op_mod (pe_cal c__law_cell hr__law_cell rfl (pa_cons (pv 1) (pa_cons pe_int pa_nil))) pe_int) pe_int (nomark _)) pa_nil)))) (pg_tupK (K := K) (n := 2) rfl rfl (pgs_cons (pg_name (i := 3) sc__law_bad.nd rfl (by first | exact Or.inl rfl | exact Or.inr rfl)) (pgs_cons (pg_name (i := 4) sc__law_bad.nd rfl (by first | exact Or.inl rfl | exact Or.inr rfl)) pgs_nil))))) (pss_one (ps_asg (pe_cal c__law_two hr__law_two rfl (pa_cons (pv 0) (pa_cons (pv 1) (pa_cons (pv 4) pa_nil)))) (pg_tupK (K := K) (n := 2) rfl rfl (pgs_cons (pg_name (i := 3) sc__law_bad.nd rfl (by first | exact Or.inl rfl | exact Or.inr rfl)) (pgs_cons (pg_name (i := 4) sc__law_bad.nd rfl (by first | exact Or.inl rfl | exact Or.inr rfl)) pgs_nil))))))))))))
      (pss_one (ps_ret (pe_tup (pa_cons (pe_tup (pa_cons (pe_ix (ix_tupK (K := K) rfl) (pv 0) pe_int (fun _ _ => rfl)) (pa_cons (pe_ix (ix_tupK (K := K) rfl) (pv 0) pe_int (fun _ _ => rfl)) (pa_cons (pv 3) pa_nil)))) (pa_cons (pv 4) pa_nil)))))))), ?_⟩
    refine ⟨_, rfl, p, _, (2 : Int), _, rfl, rfl, SqT.of hp, rfl, lt, ys, rfl, .inl (SqL.of hlt), fun lc hlc => ?_⟩
    have s1 := Same.upd_new (o := .lst ys) hlc
    have k1 := upd_same (H := H) (a := lc) (o := .lst ys)
    generalize hH1 : upd H lc (.lst ys) = H1 at *
    refine ⟨_, rfl, a, ns, 4, rfl, s1.seq hs, _, rfl, lc, ys, rfl, .inl (SqL.of k1), _, _, rfl, rfl, by omega, ?_⟩
    obtain ⟨k, ek, hk⟩ : ∃ k : Nat, ns.getD 4 0 % (ys.length : Int) = (k : Int) ∧ k < cs.length := by
      have a1 := Int.emod_nonneg (ns.getD 4 0) (by omega : (ys.length : Int) ≠ 0)
      have a2 := Int.emod_lt_of_pos (ns.getD 4 0) (by omega : (0 : Int) < (ys.length : Int))
      exact ⟨(ns.getD 4 0 % (ys.length : Int)).toNat, by omega, by omega⟩
    dsimp only [gName, tSeq]
    rw [ek]
    obtain ⟨X, yv, hX, hyv, ay, fX⟩ := get k hk
    have upd_s : ∀ (H2 : Hp) (o : HO), Same H1 H2 → Same H (upd H2 lc o) := fun H2 o s2 b' u e => by
      rw [upd_ne (ne_of_none e hlc)]
      exact s2 _ _ (s1 _ _ e)
    refine by_nx (T := tIfS _ _ _) (P := fun σ H3 => ∃ (l : Addr) (zs : List V) (gs : List Thg) (o : Option Nat) (c5 : Option V), σ = [some (.ref p), some (.ref a), some (.int way), some (.ref l), some (atV o), c5] ∧ Same H H3 ∧ H3 l = some (.lst zs) ∧ AtGL H3 gs zs ∧ gs.length ≤ 400 ∧ Fault R C gs o) (fun N2 k2 => ?_) ?_
    · refine ⟨_, rfl, rfl, _, rfl, ite2 (fun _ => ?_) (fun _ => ?_)⟩
      · -- left out
        refine ⟨_, rfl, .inl ⟨rfl, _, SqL.of k1⟩, _, rfl, lc, ys, _, k, yv, rfl, rfl, k1, by omega, by omega, seqIx (by omega), hyv, ?_⟩
        have sm := upd_s H1 (.lst (ys.eraseIdx k)) fun _ _ z => z
        refine k2 _ _ ⟨lc, _, _, none, _, rfl, sm, upd_same, paired_erase (AtGL.mono sm ags), ?_, fault_less tl hX⟩
        have := List.length_eraseIdx_le (l := cs.map Cell.G) (i := k)
        rw [List.length_map] at this
        omega
      refine by_test (T := tAnd _ _) (P := fun b H' => H1 = H' ∧ (b = true → 0 < k)) (fun Q2 h2 => ?_) ?_
      · refine ⟨_, rfl, rfl, _, rfl, ite2 (fun _ => ?_) (fun _ => h2 _ _ ⟨rfl, fun z => by cases z⟩)⟩
        refine ⟨_, rfl, _, _, rfl, rfl, _, rfl, h2 _ _ ⟨rfl, fun z => ?_⟩⟩
        have := of_decide_eq_true z
        omega
      rintro b' H' ⟨rfl, hb'⟩
      cases b' with
      | true =>
        -- two changed about
        have k0 := hb' rfl
        obtain ⟨j, rfl⟩ : ∃ j, k = j + 1 := ⟨k - 1, by omega⟩
        obtain ⟨Y, zv, hY, hzv, az, fY⟩ := get j (by omega)
        have ej : ((j + 1 : Nat) : Int) - 1 = (j : Int) := by omega
        refine iteT ⟨_, rfl, _, rfl, _, _, rfl, rfl, lc, ys, _, zv, rfl, rfl, SqL.of k1, by rw [ej]; exact atI_nat hzv, ?_⟩
        refine ⟨_, rfl, _, rfl, lc, ys, _, yv, rfl, rfl, SqL.of k1, atI_nat hyv, ?_⟩
        refine ⟨_, rfl, _, rfl, _, _, rfl, rfl, lc, ys, _, j, rfl, rfl, k1, by rw [ej]; exact ixN_nat (by omega), ?_⟩
        refine ⟨_, rfl, _, rfl, _, rfl, lc, _, _, j + 1, rfl, rfl, upd_same, ixN_nat (by rw [List.length_set]; omega), ?_⟩
        have sm : Same H (upd (upd H1 lc (.lst (ys.set j yv))) lc (.lst ((ys.set j yv).set (j + 1) zv))) := fun b' o e => by
          rw [upd_ne (ne_of_none e hlc), upd_ne (ne_of_none e hlc)]
          exact s1 _ _ e
        refine k2 _ _ ⟨lc, _, _, some (j + 1), _, rfl, sm, upd_same, paired_set (paired_set (AtGL.mono sm ags) (AtG.mono sm (Cell.atG ay fX.words.small))) (AtG.mono sm (Cell.atG az fY.words.small)), ?_, fault_swap tl hY hX rfl⟩
        rw [List.length_set, List.length_set, List.length_map]
        omega
      | false =>
        refine iteF ⟨_, rfl, rfl, _, rfl, ite2 (fun _ => ?_) (fun _ => ?_)⟩
        · -- put in twice
          refine ⟨_, rfl, .inl ⟨rfl, _, SqL.of k1⟩, _, rfl, _, _, rfl, rfl, _, rfl, _, rfl, lc, ys, _, yv, rfl, rfl, SqL.of k1, atI_nat hyv, lc, ys, k + 1, yv, rfl, rfl, k1, by omega, by omega, ?_⟩
          have sm := upd_s H1 (.lst (ys.take (k + 1) ++ yv :: ys.drop (k + 1))) fun _ _ z => z
          refine ⟨_, rfl, _, _, rfl, rfl, ?_⟩
          have e : (k : Int) + 1 = ((k + 1 : Nat) : Int) := by omega
          dsimp only
          rw [e]
          refine k2 _ _ ⟨lc, _, _, some (k + 1), _, rfl, sm, upd_same, paired_ins (AtGL.mono sm ags) (AtG.mono sm (Cell.atG ay fX.words.small)), ?_, fault_twice tl hX rfl⟩
          rw [List.length_append, List.length_take, List.length_cons, List.length_drop, List.length_map]
          omega
        refine ⟨_, rfl, rfl, _, rfl, ite2 (fun _ => ?_) (fun _ => ?_)⟩
        · refine ⟨_, rfl, _, rfl, _, rfl, a, ns, 5, rfl, s1.seq hs, _, _, rfl, rfl, by show (0 : Int) < 2; decide, rfl, _, R, C, cs, k, X, _, rfl, htD.mono s1, tl, R2, C2, hX, ?_⟩
          intro u l2 zs gs o H2 s2 hu hl2 ag2 l400 ft
          refine ⟨u, _, rfl, SqT.of hu, rfl, _, _, rfl, _, _, rfl, rfl, ?_⟩
          exact k2 _ _ ⟨l2, zs, gs, o, _, rfl, s1.trans s2, hl2, ag2, l400, ft⟩
        · refine ⟨_, rfl, _, rfl, _, rfl, _, a, ns, R, C, cs, k, rfl, s1.seq hs, htD.mono s1, tl, R2, C2, hk, ?_⟩
          intro u l2 zs gs o H2 s2 hu hl2 ag2 l400 ft
          refine ⟨u, _, rfl, SqT.of hu, rfl, _, _, rfl, _, _, rfl, rfl, ?_⟩
          exact k2 _ _ ⟨l2, zs, gs, o, _, rfl, s1.trans s2, hl2, ag2, l400, ft⟩
    · rintro σ H3 ⟨l, zs, gs, o, c5, rfl, s3, k3, ag3, l3, f3⟩
      have hp3 := s3 _ _ hp
      refine ⟨_, rfl, p, _, (0 : Int), _, rfl, rfl, SqT.of hp3, rfl, _, rfl, p, _, (1 : Int), _, rfl, rfl, SqT.of hp3, rfl, _, rfl, by show 3 ≤ sizeLine; decide, fun t ht => ?_⟩
      have s4 := Same.upd_new (o := .tup [.int (R : Int), .int (C : Int), .ref l]) ht
      have k4 := upd_same (H := H3) (a := t) (o := .tup [.int (R : Int), .int (C : Int), .ref l])
      generalize upd H3 t (.tup [.int (R : Int), .int (C : Int), .ref l]) = H4 at *
      refine ⟨_, rfl, by show 2 ≤ sizeLine; decide, fun u hu => ?_⟩
      have s5 := Same.upd_new (o := .tup [.ref t, atV o]) hu
      refine res u t (.tup [.int (R : Int), .int (C : Int), .lst gs]) o _ ((s3.trans s4).trans s5) upd_same ?_ (.inr ⟨R, C, gs, rfl, R1, R2, C1, C2, l3, f3⟩)
      exact .tup (s5 _ _ k4) (.cons (.int _) (.cons (.int _) (.cons (.lst (s5 _ _ (s4 _ _ k3)) (AtGL.mono (s4.trans s5) ag3)) .nil)))
end
end KL

set_option Elab.async false
set_option linter.all false
set_option autoImplicit false
set_option maxRecDepth 100000
namespace KL
open PySem L2 GT PyProof.Rows
/-! ### what is refused -/
theorem bad_checked {H : Hp} {CX : Addr} {Q : VK} {E : XK} {g : Thg} {o : Option Nat} {v : V} (ag : AtG H g v) (b : BadT g o) (tell : ∀ (dx : Addr) (H' : Hp), Same H H' → H' dx = some (.xd [("at", atV o)]) → E (.ref CX) (some dx) H') : spChecked CX [v] H Q E := by
  refine ⟨v, g, rfl, ag, ?_⟩
  rcases b with ⟨no, rfl⟩ | ⟨R, C, gs, rfl, R1, R2, C1, C2, l4, ft⟩
  · exact .inl ⟨no, tell⟩
  · cases o with
    | none =>
      obtain ⟨cs, pt, ord, e, r, c, hr, hc, no⟩ := ft
      exact .inr ⟨R, C, cs, gs, rfl, R1, R2, C1, C2, l4, pt, ord, .inr ⟨e, .inl ⟨⟨r, c, hr, hc, no⟩, tell⟩⟩⟩
    | some k =>
      obtain ⟨cs, rfl, pt, ord, x, hx, ht, hw⟩ := ft
      exact .inr ⟨R, C, cs, gs, rfl, R1, R2, C1, C2, l4, pt, ord, .inl ⟨x, hx, ht, hw, tell⟩⟩
noncomputable def spGreat (K : PySem.W.Frag) : Sp := fun vs H Q _ => ∃ (a : Addr) (ns : List Int), vs = [.ref a] ∧ SqL K H a (ns.map V.int) ∧ ns.length ≤ 63 ∧ ∀ v g H', Same H H' → AtG H' g v → isFrameG g = false → Q v H'
noncomputable def spAtL : Sp := fun vs H Q _ => ∃ (v : V) (g : Thg) (o : Option Nat), vs = [v] ∧ AtG H g v ∧ BadT g o ∧ ∀ p H', Same H H' → H' p = some (.tup [.bl true, atV o]) → Q (.ref p) H'
noncomputable def spBaseL : Sp := fun vs H Q _ => ∃ (v : V) (g : Thg) (o : Option Nat), vs = [v] ∧ AtG H g v ∧ BadT g o ∧ ∀ H', Same H H' → Q (.bl true) H'
noncomputable def spSame : Sp := fun vs H Q _ => ∃ o : Option Nat, vs = [atV o, atV o] ∧ Q (.bl true) H
theorem tabG {H : Hp} {R C : Nat} {cs : List Cell} {v : V} (h : At H (tabD R C cs) v) (ok : ∀ x ∈ cs, WordsOk x.words) : AtG H (.tup [.int (R : Int), .int (C : Int), .lst (cs.map Cell.G)]) v := by
  obtain ⟨p, l, ys, rfl, hp, hl, ry⟩ := tab_inv h
  exact .tup hp (.cons (.int _) (.cons (.int _) (.cons (.lst hl (atG_of ok ry)) .nil)))
section
variable {P : Program} {w : World} {K : PySem.W.Frag} {mg : Str → Option Value} {base : Heap}
theorem sc__law_great : FnScope ["_law_script"] ["_law_script"] (defScope (top 35)) := ⟨rfl, rfl, rfl, by decide +kernel, rfl, by decide +kernel, by decide +kernel⟩
set_option maxHeartbeats 4000000 in
theorem ok__law_great (T : Txt mg) (c__law_cell : Cal P w K mg base 1 "_law_cell" ["_law_script", "_law_k"] (spCell K)) (c__law_table : Cal P w K mg base 4 "_law_table" ["_law_script", "_law_rows", "_law_columns"] (spTable K)) (f : Addr) (fd : FuncData) (F : Fun K "_law_great" "_law_great" (top 35) f fd) : FnOk P w K mg base CX0 5 f fd ["_law_script"] (spGreat K) := by
  refine F.ok sc__law_great (fun vs H Q E h => ?_) (fun cdv A outer s H vs Q E hr h => ?_)
  · obtain ⟨a, ns, rfl, _⟩ := h; rfl
  · obtain ⟨a, ns, rfl, hs, hlen, q⟩ := h
    have hr__law_cell : Room 1 (A.deeper (envOfC "_law_great" (defScope (top 35)) s.heap.objs.size f cdv)) := hr.mono (by decide)
    have hr__law_table : Room 4 (A.deeper (envOfC "_law_great" (defScope (top 35)) s.heap.objs.size f cdv)) := hr.mono (by decide)
    obtain ⟨C, eC, C1, C2⟩ : ∃ C : Nat, 1 + ns.getD 1 0 % 3 = (C : Int) ∧ 1 ≤ C ∧ C ≤ 3 := ⟨(1 + ns.getD 1 0 % 3).toNat, by omega, by omega, by omega⟩
    refine ⟨_, (pss_cons (ps_if (pt_cmpR op_eq (pe_op op_mod (pe_cal c__law_cell hr__law_cell rfl (pa_cons (pv 0) (pa_cons pe_int pa_nil))) pe_int) pe_int (nomark _)) (pss_one (ps_ret (pe_cal c__law_table hr__law_table rfl (pa_cons (pv 0) (pa_cons pe_int (pa_cons (pe_op op_add pe_int (pe_op op_mod (pe_cal c__law_cell hr__law_cell rfl (pa_cons (pv 0) (pa_cons pe_int pa_nil))) pe_int)) pa_nil)))))) pss_nil)
      (pss_one (ps_ret (pe_cal c__law_table hr__law_table rfl (pa_cons (pv 0) (pa_cons (pe_op op_add pe_int (pe_op op_mod (pe_cal c__law_cell hr__law_cell rfl (pa_cons (pv 0) (pa_cons pe_int pa_nil))) pe_int)) (pa_cons pe_int pa_nil))))))), ?_⟩
    refine ⟨_, rfl, a, ns, 5, rfl, hs, _, _, rfl, rfl, by show (0 : Int) < 2; decide, rfl, _, rfl, ite2 (fun _ => ?_) (fun _ => ?_)⟩
    · refine ⟨_, rfl, _, rfl, a, ns, 1, rfl, hs, _, _, rfl, rfl, by show (0 : Int) < 3; decide, _, _, rfl, rfl, ?_⟩
      dsimp only
      rw [eC]
      refine ⟨a, ns, 17, C, rfl, hs, by omega, by omega, by omega, by omega, by omega, fun v cs H2 s2 tl at2 => ?_⟩
      refine q v _ H2 s2 (tabG at2 fun x hx => (tl.toPart.fit x hx).words) ?_
      rfl
    · refine ⟨_, rfl, _, rfl, a, ns, 1, rfl, hs, _, _, rfl, rfl, by show (0 : Int) < 3; decide, _, _, rfl, rfl, ?_⟩
      dsimp only
      rw [eC]
      refine ⟨a, ns, C, 17, rfl, hs, by omega, by omega, by omega, by omega, by omega, fun v cs H2 s2 tl at2 => ?_⟩
      refine q v _ H2 s2 (tabG at2 fun x hx => (tl.toPart.fit x hx).words) ?_
      show (isSideG _ && isSideG _) = false
      rw [Bool.and_comm]
      rfl

theorem sc__law_at : FnScope ["_law_table_here", "e"] ["_law_table_here"] (defScope (top 37)) := ⟨rfl, rfl, rfl, by decide +kernel, rfl, by decide +kernel, by decide +kernel⟩
set_option maxHeartbeats 4000000 in
theorem ok__law_at (T : Txt mg) {CX_BadTable : Addr} (x_BadTable : ExcJ P w K mg base "BadTable" CX_BadTable) (c_checked : Cal1 P w K mg base 5 "checked" ["table"] (spChecked CX_BadTable)) (f : Addr) (fd : FuncData) (F : Fun K "_law_at" "_law_at" (top 37) f fd) : FnOk P w K mg base CX0 6 f fd ["_law_table_here"] spAtL := by
  refine F.ok sc__law_at (fun vs H Q E h => ?_) (fun cdv A outer s H vs Q E hr h => ?_)
  · obtain ⟨v, g, o, rfl, _⟩ := h; rfl
  · obtain ⟨v, g, o, rfl, ag, bad, q⟩ := h
    have hr_checked : Room 5 (A.deeper (envOfC "_law_at" (defScope (top 37)) s.heap.objs.size f cdv)) := hr.mono (by decide)
    refine ⟨_, (pss_cons (ps_tryAs (i := 1) c_checked hr_checked rfl rfl rfl rfl x_BadTable.mg x_BadTable.m (fun XE => (pa_cons (pv 0) pa_nil)) sc__law_at.nd rfl rfl (fun ea oe vs dd hc hd hq => (pss_one (ps_ret (pe_tup (pa_cons pe_bl (pa_cons (pe_excAt x_BadTable.k x_BadTable.n hc hd hq (pv 1)) pa_nil)))))))
      (pss_one (ps_ret (pe_tup (pa_cons pe_bl (pa_cons pe_non pa_nil)))))), ?_⟩
    refine ⟨_, rfl, bad_checked ag bad fun dx H2 s2 h2 => ⟨rfl, fun ea hea => ?_⟩⟩
    refine ⟨_, rfl, rfl, dx, _, _, rfl, h2, rfl, by show 2 ≤ sizeLine; decide, fun p hp => ?_⟩
    exact q p _ (s2.trans (Same.upd_new hp)) upd_same

theorem sc__law_by_base : FnScope ["_law_table_here", "e"] ["_law_table_here"] (defScope (top 38)) := ⟨rfl, rfl, rfl, by decide +kernel, rfl, by decide +kernel, by decide +kernel⟩
set_option maxHeartbeats 4000000 in
theorem ok__law_by_base (T : Txt mg) {CX_BadTable : Addr} (x_BadTable : ExcJ P w K mg base "BadTable" CX_BadTable) {CX_GridError : Addr} (x_GridError : ExcC K mg base "GridError" CX_GridError) (f_exgBadTable : PySem.W.exmOne K (.ref CX_BadTable) (.ref CX_GridError) = some true) (f_kitBadTable : PySem.W.kitOne K (.ref CX_BadTable) (.type "ValueError") = some true) (c_checked : Cal1 P w K mg base 5 "checked" ["table"] (spChecked CX_BadTable)) (f : Addr) (fd : FuncData) (F : Fun K "_law_by_base" "_law_by_base" (top 38) f fd) : FnOk P w K mg base CX0 6 f fd ["_law_table_here"] spBaseL := by
  refine F.ok sc__law_by_base (fun vs H Q E h => ?_) (fun cdv A outer s H vs Q E hr h => ?_)
  · obtain ⟨v, g, o, rfl, _⟩ := h; rfl
  · obtain ⟨v, g, o, rfl, ag, bad, q⟩ := h
    have hr_checked : Room 5 (A.deeper (envOfC "_law_by_base" (defScope (top 38)) s.heap.objs.size f cdv)) := hr.mono (by decide)
    refine ⟨_, (pss_cons (ps_tryIs (i := 1) c_checked hr_checked rfl rfl rfl rfl x_GridError.mg (fun XE => (pa_cons (pv 0) pa_nil)) sc__law_by_base.nd rfl rfl rfl T.isinstance rfl T.ValueError)
      (pss_one (ps_ret pe_bl))), ?_⟩
    exact ⟨_, rfl, bad_checked ag bad fun dx H2 s2 h2 => ⟨f_exgBadTable, rfl, f_kitBadTable, q _ s2⟩⟩

theorem sc__law_same : FnScope ["_law_found", "_law_at_here"] ["_law_found", "_law_at_here"] (defScope (top 39)) := ⟨rfl, rfl, rfl, by decide +kernel, rfl, by decide +kernel, by decide +kernel⟩
set_option maxHeartbeats 4000000 in
theorem ok__law_same (T : Txt mg) (f : Addr) (fd : FuncData) (F : Fun K "_law_same" "_law_same" (top 39) f fd) : FnOk P w K mg base CX0 1 f fd ["_law_found", "_law_at_here"] spSame := by
  refine F.ok sc__law_same (fun vs H Q E h => ?_) (fun cdv A outer s H vs Q E hr h => ?_)
  · obtain ⟨o, rfl, _⟩ := h; rfl
  · obtain ⟨o, rfl, q⟩ := h
    refine ⟨_, (pss_cons (ps_if (pt_cmp (pc_isN (pv 1))) (pss_one (ps_ret (pe_cmp (pc_isN (pv 0))))) pss_nil)
      (pss_one (ps_ret (pe_and (pe_callB (call_isinst (K := K) rfl) (by rfl) T.isinstance PyProof.Rows.boot_isinstance (pa_cons (pv 0) (pa_cons (pe_bltn (v := .ty "int") rfl T.int PyProof.Rows.boot_int rfl) pa_nil))) (pe_and (pe_not (pe_callB (call_isinst (K := K) rfl) (by rfl) T.isinstance PyProof.Rows.boot_isinstance (pa_cons (pv 0) (pa_cons (pe_bltn (v := .ty "bool") rfl T.bool PyProof.Rows.boot_bool rfl) pa_nil)))) (pe_one (pe_cmpR op_eq (pv 0) (pv 1) (nomark _)))))))), ?_⟩
    cases o with
    | none => exact ⟨_, rfl, true, rfl, iteT ⟨_, rfl, q⟩⟩
    | some k =>
      refine ⟨_, rfl, false, rfl, iteF ?_⟩
      refine ⟨_, rfl, _, "int", _, true, rfl, .int _, rfl, true, rfl, iteT ?_⟩
      refine ⟨_, rfl, _, "bool", _, false, rfl, .int _, rfl, false, rfl, true, rfl, iteT ?_⟩
      refine ⟨_, rfl, _, rfl, rfl, ?_⟩
      rw [decide_eq_true rfl]
      exact q
end
end KL

set_option Elab.async false
set_option linter.all false
set_option autoImplicit false
set_option maxRecDepth 100000
namespace KL
open PySem L2 GT PyProof.Rows
noncomputable def spLaw (K : PySem.W.Frag) : Sp := fun vs H Q _ => ∃ (a : Addr) (ns : List Int), vs = [.ref a] ∧ SqL K H a (ns.map V.int) ∧ ns.length ≤ 63 ∧ ∀ H', Q (.bl true) H'
section
variable {P : Program} {w : World} {K : PySem.W.Frag} {mg : Str → Option Value} {base : Heap}
theorem sc_law : FnScope ["_law_script", "_law_table_here", "_law_way", "_law_kept", "_law_found", "_law_at_here", "_law_bad_here", "_law_refused", "_law_place"] ["_law_script"] (defScope (top 40)) := ⟨rfl, rfl, rfl, by decide +kernel, rfl, by decide +kernel, by decide +kernel⟩
set_option maxHeartbeats 4000000 in
theorem ok_law {CX_BadTable : Addr} (T : Txt mg) (c__law_made : Cal P w K mg base 5 "_law_made" ["_law_script"] (spMade K)) (c__law_cell : Cal P w K mg base 1 "_law_cell" ["_law_script", "_law_k"] (spCell K)) (c__law_copy : Cal P w K mg base 1 "_law_copy" ["_law_table_here"] spCopy) (c_checked : Cal1 P w K mg base 5 "checked" ["table"] (spChecked CX_BadTable)) (c__law_frame : Cal P w K mg base 1 "_law_frame" ["_law_table_here", "_law_way"] spFrameL) (c__law_great : Cal P w K mg base 5 "_law_great" ["_law_script"] (spGreat K)) (c__law_bad : Cal P w K mg base 3 "_law_bad" ["_law_table_here", "_law_script", "_law_way"] (spBad K)) (c__law_at : Cal P w K mg base 6 "_law_at" ["_law_table_here"] spAtL) (c__law_same : Cal P w K mg base 1 "_law_same" ["_law_found", "_law_at_here"] spSame) (c__law_by_base : Cal P w K mg base 6 "_law_by_base" ["_law_table_here"] spBaseL) (f : Addr) (fd : FuncData) (F : Fun K "law" "law" (top 40) f fd) : FnOk P w K mg base CX0 8 f fd ["_law_script"] (spLaw K) := by
  refine F.ok sc_law (fun vs H Q E h => ?_) (fun cdv A outer s H vs Q E hr h => ?_)
  · obtain ⟨a, ns, rfl, _⟩ := h; rfl
  · obtain ⟨a, ns, rfl, hs, hlen, q⟩ := h
    have hr__law_made : Room 5 (A.deeper (envOfC "law" (defScope (top 40)) s.heap.objs.size f cdv)) := hr.mono (by decide)
    have hr__law_cell : Room 1 (A.deeper (envOfC "law" (defScope (top 40)) s.heap.objs.size f cdv)) := hr.mono (by decide)
    have hr__law_copy : Room 1 (A.deeper (envOfC "law" (defScope (top 40)) s.heap.objs.size f cdv)) := hr.mono (by decide)
    have hr_checked : Room 5 (A.deeper (envOfC "law" (defScope (top 40)) s.heap.objs.size f cdv)) := hr.mono (by decide)
    have hr__law_frame : Room 1 (A.deeper (envOfC "law" (defScope (top 40)) s.heap.objs.size f cdv)) := hr.mono (by decide)
    have hr__law_great : Room 5 (A.deeper (envOfC "law" (defScope (top 40)) s.heap.objs.size f cdv)) := hr.mono (by decide)
    have hr__law_bad : Room 3 (A.deeper (envOfC "law" (defScope (top 40)) s.heap.objs.size f cdv)) := hr.mono (by decide)
    have hr__law_at : Room 6 (A.deeper (envOfC "law" (defScope (top 40)) s.heap.objs.size f cdv)) := hr.mono (by decide)
    have hr__law_same : Room 1 (A.deeper (envOfC "law" (defScope (top 40)) s.heap.objs.size f cdv)) := hr.mono (by decide)
    have hr__law_by_base : Room 6 (A.deeper (envOfC "law" (defScope (top 40)) s.heap.objs.size f cdv)) := hr.mono (by decide)
    have hu5 : (A.deeper (envOfC "law" (defScope (top 40)) s.heap.objs.size f cdv)).units + 4 + 1 < cLine := by have := hr.units; omega
    refine ⟨_, (pss_cons (ps_set (i := 1) sc_law.nd rfl (by first | exact Or.inl rfl | exact Or.inr rfl) (pe_cal c__law_made hr__law_made rfl (pa_cons (pv 0) pa_nil)))
      (pss_cons (ps_set (i := 2) sc_law.nd rfl (by first | exact Or.inl rfl | exact Or.inr rfl) (pe_op op_mod (pe_cal c__law_cell hr__law_cell rfl (pa_cons (pv 0) (pa_cons pe_int pa_nil))) pe_int))
      (pss_cons (ps_if (pt_cmpR op_lt (pv 2) pe_int (nomark _)) (pss_cons (ps_set (i := 3) sc_law.nd rfl (by first | exact Or.inl rfl | exact Or.inr rfl) (pe_cal c__law_copy hr__law_copy rfl (pa_cons (pv 1) pa_nil)))
      (pss_cons (ps_set (i := 4) sc_law.nd rfl (by first | exact Or.inl rfl | exact Or.inr rfl) (pe_cal1 c_checked hr_checked rfl (pa_cons (pv 3) pa_nil)))
      (pss_cons (ps_if (PW.pt (pw_or (pt_cmpR (op_neD (n := 4) hu5) (pv 4) (pv 1) (nomark _)) (pw_or (pt_cmpR (op_neD (n := 4) hu5) (pv 3) (pv 1) (nomark _)) (pw_or1 (pt_not (pt_val (pe_callB (call_isinst (K := K) rfl) (by rfl) T.isinstance PyProof.Rows.boot_isinstance (pa_cons (pv 4) (pa_cons (pe_bltn (v := .ty "tuple") rfl T.tuple PyProof.Rows.boot_tuple rfl) pa_nil))))))))) (pss_one (ps_ret pe_bl)) pss_nil)
      (pss_cons (ps_expr (pe_bmK (K := K) rfl PySem.F.plainAttrs_list PySem.F.slot_list_append PySem.F.type_list_append mt_append (pe_ix (ix_tupK (K := K) rfl) (pv 4) pe_int (fun _ _ => rfl)) (pa_cons pe_int pa_nil)))
      (pss_one (ps_ret (pe_cmpR (op_eqD (n := 4) hu5) (pv 3) (pv 1) (nomark _)))))))) pss_nil)
      (pss_cons (ps_set (i := 5) sc_law.nd rfl (by first | exact Or.inl rfl | exact Or.inr rfl) pe_non)
      (pss_cons (ps_if (pt_cmpR op_eq (pv 2) pe_int (nomark _)) (pss_one (ps_set (i := 6) sc_law.nd rfl (by first | exact Or.inl rfl | exact Or.inr rfl) (pe_cal c__law_frame hr__law_frame rfl (pa_cons (pv 1) (pa_cons (pe_cal c__law_cell hr__law_cell rfl (pa_cons (pv 0) (pa_cons pe_int pa_nil))) pa_nil))))) (pss_one (ps_if (pt_cmpR op_eq (pv 2) pe_int (nomark _)) (pss_one (ps_set (i := 6) sc_law.nd rfl (by first | exact Or.inl rfl | exact Or.inr rfl) (pe_cal c__law_great hr__law_great rfl (pa_cons (pv 0) pa_nil)))) (pss_one (ps_asg (pe_cal c__law_bad hr__law_bad rfl (pa_cons (pv 1) (pa_cons (pv 0) (pa_cons (pv 2) pa_nil)))) (pg_tupK (K := K) (n := 2) rfl rfl (pgs_cons (pg_name (i := 6) sc_law.nd rfl (by first | exact Or.inl rfl | exact Or.inr rfl)) (pgs_cons (pg_name (i := 5) sc_law.nd rfl (by first | exact Or.inl rfl | exact Or.inr rfl)) pgs_nil))))))))
      (pss_cons (ps_asg (pe_cal c__law_at hr__law_at rfl (pa_cons (pv 6) pa_nil)) (pg_tupK (K := K) (n := 2) rfl rfl (pgs_cons (pg_name (i := 7) sc_law.nd rfl (by first | exact Or.inl rfl | exact Or.inr rfl)) (pgs_cons (pg_name (i := 8) sc_law.nd rfl (by first | exact Or.inl rfl | exact Or.inr rfl)) pgs_nil))))
      (pss_one (ps_ret (pe_and (pv 7) (pe_and (pe_cal c__law_same hr__law_same rfl (pa_cons (pv 8) (pa_cons (pv 5) pa_nil))) (pe_one (pe_cal c__law_by_base hr__law_by_base rfl (pa_cons (pv 6) pa_nil))))))))))))), ?_⟩
    refine ⟨_, rfl, a, ns, rfl, hs, hlen, fun v R C cs H1 s1 R1 R2 C1 C2 tl a1 => ?_⟩
    have few := few300 tl.toPart R2 C2
    have hs1 := s1.seq hs
    refine ⟨_, rfl, a, ns, 3, rfl, hs1, _, _, rfl, rfl, by show (0 : Int) < 11; decide, ?_⟩
    dsimp only [gName, tSeq]
    generalize ns.getD 3 0 % 11 = way
    refine ⟨_, rfl, _, _, rfl, rfl, _, rfl, ite2 (fun _ => ?_) (fun _ => ?_)⟩
    · refine ⟨_, rfl, v, R, C, cs, rfl, a1, fun v2 H2 s2 a2 => ?_⟩
      refine ⟨_, rfl, v2, _, rfl, tabG a2 (fun x hx => (tl.toPart.fit x hx).words), .inr ⟨R, C, cs, _, rfl, R1, R2, C1, C2, by rw [List.length_map]; omega, tl.toPart, tl.ord, .inr ⟨rfl, .inr ⟨tl.all, fun p l zs H3 s3 hl hp hl3 az => ?_⟩⟩⟩⟩
      have a3 : At H3 (tabD R C cs) (.ref p) := tab_mk hp hl3 az
      have a13 := a1.mono (s2.trans s3)
      have a23 := a2.mono s3
      have lz := az.length
      rw [List.length_map] at lz
      refine ⟨_, rfl, _, rfl, tabD R C cs, tabD R C cs, tabD_fits R C cs 1, trivial, a3, a13, fun _ => ⟨false, rfl, iteF ?_⟩, fun z => absurd rfl z⟩
      refine ⟨_, rfl, _, rfl, tabD R C cs, tabD R C cs, tabD_fits R C cs 1, trivial, a23, a13, fun _ => ⟨false, rfl, iteF ?_⟩, fun z => absurd rfl z⟩
      refine ⟨_, rfl, _, "tuple", _, true, rfl, .tup hp, rfl, true, rfl, iteF ?_⟩
      refine ⟨_, rfl, p, _, (2 : Int), _, rfl, rfl, SqT.of hp, rfl, .inl ⟨rfl, _, SqL.of hl3⟩, l, zs, _, rfl, rfl, hl3, small1000 (by omega), ?_⟩
      have sm : Same H2 (upd H3 l (.lst (zs ++ [.int 0]))) := fun b' o e => by
        rw [upd_ne (ne_of_none e hl)]
        exact s3 _ _ e
      exact ⟨_, rfl, _, rfl, tabD R C cs, tabD R C cs, tabD_fits R C cs 1, trivial, a2.mono sm, a1.mono (s2.trans sm), fun _ => q _, fun z => absurd rfl z⟩
    dsimp only [tNext, tSeq, tAsg, tC, gName]
    refine by_nx (T := tIfS _ _ _) (P := fun σ H2 => ∃ (u : V) (g : Thg) (o : Option Nat), σ = [some (.ref a), some v, some (.int way), none, none, some (atV o), some u, none, none] ∧ Same H1 H2 ∧ AtG H2 g u ∧ BadT g o) (fun N2 k2 => ?_) ?_
    · refine ⟨_, rfl, rfl, _, rfl, ite2 (fun _ => ?_) (fun _ => ?_)⟩
      · refine ⟨_, rfl, _, rfl, a, ns, 4, rfl, hs1, v, _, R, C, cs, rfl, a1, tl.toPart, fun u g H2 s2 ag no => ?_⟩
        exact k2 _ _ ⟨u, g, none, rfl, s2, ag, .inl ⟨no, rfl⟩⟩
      refine ⟨_, rfl, rfl, _, rfl, ite2 (fun _ => ?_) (fun _ => ?_)⟩
      · refine ⟨_, rfl, a, ns, rfl, hs1, hlen, fun u g H2 s2 ag no => ?_⟩
        exact k2 _ _ ⟨u, g, none, rfl, s2, ag, .inl ⟨no, rfl⟩⟩
      · refine ⟨_, rfl, _, rfl, _, rfl, v, a, ns, way, R, C, cs, rfl, hs1, a1, tl, R1, R2, C1, C2, fun p t g o H2 s2 hp ag bad => ?_⟩
        refine ⟨p, _, rfl, SqT.of hp, rfl, _, _, rfl, _, _, rfl, rfl, ?_⟩
        exact k2 _ _ ⟨_, g, o, rfl, s2, ag, bad⟩
    · rintro σ H2 ⟨u, g, o, rfl, s2, ag, bad⟩
      refine ⟨_, rfl, u, g, o, rfl, ag, bad, fun p H3 s3 hp => ?_⟩
      refine ⟨p, _, rfl, SqT.of hp, rfl, _, _, rfl, _, _, rfl, rfl, ?_⟩
      refine ⟨_, rfl, true, rfl, iteT ?_⟩
      refine ⟨_, rfl, _, rfl, o, rfl, true, rfl, iteT ?_⟩
      exact ⟨_, rfl, u, g, o, rfl, ag.mono s3, bad, fun H4 s4 => q _⟩
end
/-- all that the top has written, put together -/
theorem len1 {α : Type} {P : List α → Prop} (h : ∀ a, P [a]) : ∀ us : List α, us.length = 1 → P us
  | [a], _ => h a
theorem len2 {α : Type} {P : List α → Prop} (h : ∀ a b, P [a, b]) : ∀ us : List α, us.length = 2 → P us
  | [a, b], _ => h a b
theorem len3 {α : Type} {P : List α → Prop} (h : ∀ a b c, P [a, b, c]) : ∀ us : List α, us.length = 3 → P us
  | [a, b, c], _ => h a b c
theorem len4 {α : Type} {P : List α → Prop} (h : ∀ a b c d, P [a, b, c, d]) : ∀ us : List α, us.length = 4 → P us
  | [a, b, c, d], _ => h a b c d
set_option maxHeartbeats 4000000 in
theorem all_ok {l : PySem.W.OpenLaw} {w : World} {K : PySem.W.Frag} {h : Heap} {mg : Str → Option Value} {fa : Addr} (X : K.In h) (G : h.Ns mainGlobals mg) (hfa : mg "law" = some (.ref fa))
    (a0 : At0 K "_law_cell" (top 19))
    (a1 : At0 K "_law_mix" (top 20))
    (a2 : At0 K "_law_large" (top 21))
    (a3 : At0 K "_law_word" (top 22))
    (a4 : At0 K "_law_words" (top 23))
    (a5 : At0 K "_law_block" (top 25))
    (a6 : At0 K "_law_free" (top 24))
    (a7 : At0 K "_law_table" (top 26))
    (a8 : At0 K "_law_size" (top 27))
    (a9 : At0 K "_law_made" (top 28))
    (a10 : At0 K "_law_copy" (top 29))
    (a11 : At0 K "is_number" (top 11))
    (a12 : At0 K "is_side" (top 10))
    (a13 : At0 K "has_frame" (top 9))
    (a14 : At0 K "is_word" (top 14))
    (a15 : At0 K "are_words" (top 13))
    (a16 : At0 K "is_cell" (top 12))
    (a17 : At0 K "sticks_out" (top 15))
    (a18 : At0 K "first_place" (top 16))
    (a19 : At0 K "places" (top 17))
    (a20 : At0 K "checked" (top 8))
    (a21 : At0 K "_law_spoilt" (top 30))
    (a22 : At0 K "_law_frame" (top 36))
    (a23 : At0 K "_law_covered_twice" (top 31))
    (a24 : At0 K "_law_grown" (top 32))
    (a25 : At0 K "_law_two" (top 33))
    (a26 : At0 K "_law_bad" (top 34))
    (a27 : At0 K "_law_great" (top 35))
    (a28 : At0 K "_law_at" (top 37))
    (a29 : At0 K "_law_by_base" (top 38))
    (a30 : At0 K "_law_same" (top 39))
    (a31 : At0 K "law" (top 40))
    (z0 : PySem.W.nsIn K mainGlobals "len" = some none)
    (z1 : PySem.W.nsIn K mainGlobals "range" = some none)
    (z2 : PySem.W.nsIn K mainGlobals "isinstance" = some none)
    (z3 : PySem.W.nsIn K mainGlobals "int" = some none)
    (z4 : PySem.W.nsIn K mainGlobals "bool" = some none)
    (z5 : PySem.W.nsIn K mainGlobals "tuple" = some none)
    (z6 : PySem.W.nsIn K mainGlobals "list" = some none)
    (z7 : PySem.W.nsIn K mainGlobals "sorted" = some none)
    (z8 : PySem.W.nsIn K mainGlobals "enumerate" = some none)
    (z9 : PySem.W.nsIn K mainGlobals "zip" = some none)
    (z10 : PySem.W.nsIn K mainGlobals "str" = some none)
    (z11 : PySem.W.nsIn K mainGlobals "all" = some none)
    (z12 : PySem.W.nsIn K mainGlobals "min" = some none)
    (z13 : PySem.W.nsIn K mainGlobals "max" = some none)
    (z14 : PySem.W.nsIn K mainGlobals "sum" = some none)
    (z15 : PySem.W.nsIn K mainGlobals "ValueError" = some none)
    (z16 : PySem.W.nsIn K mainGlobals "any" = some none)
    (z17 : PySem.W.nsIn K mainGlobals "reversed" = some none)
    {tk0 : Tok} (y0 : PySem.W.nsIn K mainGlobals "LONGEST_SIDE" = some (some (.int 16 tk0)))
    {tk1 : Tok} (y1 : PySem.W.nsIn K mainGlobals "LONGEST_WORD" = some (some (.int 12 tk1)))
    {tk2 : Tok} (y2 : PySem.W.nsIn K mainGlobals "SIGNS" = some (some (.str (Str.ofString "abcdefghijklmnopqrstuvwxyz0123456789") tk2)))
    {tk3 : Tok} (y3 : PySem.W.nsIn K mainGlobals "MOST_WORDS" = some (some (.int 12 tk3)))
    {CX_GridError : Addr} {bm0 : List Value} {ni0 B0 ii0 : String} (e0 : PySem.W.nsIn K mainGlobals "GridError" = some (some (.ref CX_GridError))) (FB0 : ExcBaseFacts B0 ni0 ii0 bm0) (q0 : PySem.W.excIn K CX_GridError bm0 ni0 = true)
    {CX_BadTable : Addr} (j0 : JX K "BadTable" "BadTable.__init__" stI_BadTable CX_BadTable)
    (f_exgBadTable : PySem.W.exmOne K (.ref CX_BadTable) (.ref CX_GridError) = some true)
    (f_kitBadTable : PySem.W.kitOne K (.ref CX_BadTable) (.type "ValueError") = some true)
    : ∃ fd : FuncData, (∀ (s : Shared) (v : Value), BindsTo s fd ⟨[v], []⟩ [("_law_script", v)]) ∧ ∀ base : Heap, K.In base → base.Ns mainGlobals mg → FnOk l.prog w K mg base CX0 8 fa fd ["_law_script"] (spLaw K) := by
  have T : Txt mg := ⟨PySem.W.mg_none_of X G z0, PySem.W.mg_none_of X G z1, PySem.W.mg_none_of X G z2, PySem.W.mg_none_of X G z3, PySem.W.mg_none_of X G z4, PySem.W.mg_none_of X G z5, PySem.W.mg_none_of X G z6, PySem.W.mg_none_of X G z7, PySem.W.mg_none_of X G z8, PySem.W.mg_none_of X G z9, PySem.W.mg_none_of X G z10, PySem.W.mg_none_of X G z11, PySem.W.mg_none_of X G z12, PySem.W.mg_none_of X G z13, PySem.W.mg_none_of X G z14, PySem.W.mg_none_of X G z15, PySem.W.mg_none_of X G z16, PySem.W.mg_none_of X G z17⟩
  obtain ⟨f, fd, F, e⟩ := a31.ex
  have e0 := hfa.symm.trans (PySem.W.mg_of X G e)
  cases e0
  refine ⟨fd, ?_, fun base hKb hNb => ?_⟩
  · obtain ⟨oc, od, kV, doc, pm, an, cdv, ct, osl, rfl, lk, hcd⟩ := F.ex
    exact fun s v => .of_eq rfl
  · have k_LONGEST_SIDE : ∃ t, mg "LONGEST_SIDE" = some (.int 16 t) := ⟨_, PySem.W.mg_of X G y0⟩
    have k_LONGEST_WORD : ∃ t, mg "LONGEST_WORD" = some (.int 12 t) := ⟨_, PySem.W.mg_of X G y1⟩
    have k_SIGNS : ∃ t, mg "SIGNS" = some (.str (Str.ofString "abcdefghijklmnopqrstuvwxyz0123456789") t) := ⟨_, PySem.W.mg_of X G y2⟩
    have k_MOST_WORDS : ∃ t, mg "MOST_WORDS" = some (.int 12 t) := ⟨_, PySem.W.mg_of X G y3⟩
    have x_GridError : ExcC K mg base "GridError" CX_GridError := ⟨⟨_, _, _, _, FB0, own_mk hKb hNb e0 q0⟩, PySem.W.mg_of X G e0⟩
    have x_BadTable : ExcJ l.prog w K mg base "BadTable" CX_BadTable := j_BadTable hKb hNb j0
    have c__law_cell : Cal l.prog w K mg base 1 "_law_cell" ["_law_script", "_law_k"] (spCell K) := a0.cal X G (fun _ _ _ _ _ _ => len2 fun _ _ => rfl) (ok__law_cell T)
    have c__law_mix : Cal l.prog w K mg base 1 "_law_mix" ["_law_cell_here", "_law_prime", "_law_many"] spMix := a1.cal X G (fun _ _ _ _ _ _ => len3 fun _ _ _ => rfl) ok__law_mix
    have c__law_large : Cal l.prog w K mg base 2 "_law_large" ["_law_script"] (spLarge K) := a2.cal X G (fun _ _ _ _ _ _ => len1 fun _ => rfl) (ok__law_large T c__law_cell c__law_mix)
    have c__law_word : Cal l.prog w K mg base 2 "_law_word" ["_law_seed", "_law_size_here"] spWord := a3.cal X G (fun _ _ _ _ _ _ => len2 fun _ _ => rfl) (ok__law_word T c__law_mix)
    have c__law_words : Cal l.prog w K mg base 3 "_law_words" ["_law_seed"] spWords := a4.cal X G (fun _ _ _ _ _ _ => len1 fun _ => rfl) (ok__law_words T c__law_mix c__law_word)
    have c__law_block : Cal l.prog w K mg base 2 "_law_block" ["_law_cell_here", "_law_rows", "_law_columns"] spBlock := a5.cal X G (fun _ _ _ _ _ _ => len3 fun _ _ _ => rfl) (ok__law_block T c__law_mix)
    have c__law_free : Cal l.prog w K mg base 1 "_law_free" ["_law_block_here", "_law_rows", "_law_columns", "_law_taken"] spFree := a6.cal X G (fun _ _ _ _ _ _ => len4 fun _ _ _ _ => rfl) (ok__law_free T)
    have c__law_table : Cal l.prog w K mg base 4 "_law_table" ["_law_script", "_law_rows", "_law_columns"] (spTable K) := a7.cal X G (fun _ _ _ _ _ _ => len3 fun _ _ _ => rfl) (ok__law_table T c__law_cell c__law_words c__law_block c__law_free)
    have c__law_size : Cal l.prog w K mg base 3 "_law_size" ["_law_script", "_law_k"] (spSize K) := a8.cal X G (fun _ _ _ _ _ _ => len2 fun _ _ => rfl) (ok__law_size T c__law_cell c__law_large)
    have c__law_made : Cal l.prog w K mg base 5 "_law_made" ["_law_script"] (spMade K) := a9.cal X G (fun _ _ _ _ _ _ => len1 fun _ => rfl) (ok__law_made T c__law_cell c__law_table c__law_size)
    have c__law_copy : Cal l.prog w K mg base 1 "_law_copy" ["_law_table_here"] spCopy := a10.cal X G (fun _ _ _ _ _ _ => len1 fun _ => rfl) (ok__law_copy T)
    have c_is_number : Cal l.prog w K mg base 1 "is_number" ["thing"] (spG isNumG) := a11.cal X G (fun _ _ _ _ _ _ => len1 fun _ => rfl) (ok_is_number T)
    have c_is_side : Cal l.prog w K mg base 2 "is_side" ["thing"] (spG isSideG) := a12.cal X G (fun _ _ _ _ _ _ => len1 fun _ => rfl) (ok_is_side k_LONGEST_SIDE c_is_number)
    have c_has_frame : Cal l.prog w K mg base 3 "has_frame" ["thing"] (spG isFrameG) := a13.cal X G (fun _ _ _ _ _ _ => len1 fun _ => rfl) (ok_has_frame T c_is_side)
    have c_is_word : Cal l.prog w K mg base 1 "is_word" ["thing"] (spG isWordG) := a14.cal X G (fun _ _ _ _ _ _ => len1 fun _ => rfl) (ok_is_word T k_LONGEST_WORD k_SIGNS)
    have c_are_words : Cal l.prog w K mg base 2 "are_words" ["thing"] (spG areWordsG) := a15.cal X G (fun _ _ _ _ _ _ => len1 fun _ => rfl) (ok_are_words T k_MOST_WORDS c_is_word)
    have c_is_cell : Cal l.prog w K mg base 3 "is_cell" ["thing"] (spG isCellG) := a16.cal X G (fun _ _ _ _ _ _ => len1 fun _ => rfl) (ok_is_cell T c_is_number c_are_words)
    have c_sticks_out : Cal l.prog w K mg base 1 "sticks_out" ["cell", "rows", "columns"] spSticks := a17.cal X G (fun _ _ _ _ _ _ => len3 fun _ _ _ => rfl) ok_sticks_out
    have c_first_place : Cal l.prog w K mg base 1 "first_place" ["cell"] spFirst := a18.cal X G (fun _ _ _ _ _ _ => len1 fun _ => rfl) ok_first_place
    have c_places : Cal l.prog w K mg base 1 "places" ["cell"] spPlaces := a19.cal X G (fun _ _ _ _ _ _ => len1 fun _ => rfl) (ok_places T)
    have c_checked : Cal1 l.prog w K mg base 5 "checked" ["table"] (spChecked CX_BadTable) := a20.cal1 X G (fun _ _ _ _ _ _ => len1 fun _ => rfl) (ok_checked T x_BadTable c_has_frame c_is_cell c_sticks_out c_first_place c_places)
    have c__law_spoilt : Cal l.prog w K mg base 1 "_law_spoilt" ["_law_table_here", "_law_cell_here", "_law_way"] spSpoilt := a21.cal X G (fun _ _ _ _ _ _ => len3 fun _ _ _ => rfl) (ok__law_spoilt T)
    have c__law_frame : Cal l.prog w K mg base 1 "_law_frame" ["_law_table_here", "_law_way"] spFrameL := a22.cal X G (fun _ _ _ _ _ _ => len2 fun _ _ => rfl) (ok__law_frame T)
    have c__law_covered_twice : Cal l.prog w K mg base 1 "_law_covered_twice" ["_law_cells"] spTwice := a23.cal X G (fun _ _ _ _ _ _ => len1 fun _ => rfl) (ok__law_covered_twice T)
    have c__law_grown : Cal l.prog w K mg base 2 "_law_grown" ["_law_table_here", "_law_at_here", "_law_down"] spGrown := a24.cal X G (fun _ _ _ _ _ _ => len3 fun _ _ _ => rfl) (ok__law_grown T c__law_covered_twice)
    have c__law_two : Cal l.prog w K mg base 2 "_law_two" ["_law_table_here", "_law_script", "_law_at_here"] (spTwo K) := a25.cal X G (fun _ _ _ _ _ _ => len3 fun _ _ _ => rfl) (ok__law_two T c__law_spoilt c__law_cell)
    have c__law_bad : Cal l.prog w K mg base 3 "_law_bad" ["_law_table_here", "_law_script", "_law_way"] (spBad K) := a26.cal X G (fun _ _ _ _ _ _ => len3 fun _ _ _ => rfl) (ok__law_bad T c__law_cell c__law_grown c__law_two)
    have c__law_great : Cal l.prog w K mg base 5 "_law_great" ["_law_script"] (spGreat K) := a27.cal X G (fun _ _ _ _ _ _ => len1 fun _ => rfl) (ok__law_great T c__law_cell c__law_table)
    have c__law_at : Cal l.prog w K mg base 6 "_law_at" ["_law_table_here"] spAtL := a28.cal X G (fun _ _ _ _ _ _ => len1 fun _ => rfl) (ok__law_at T x_BadTable c_checked)
    have c__law_by_base : Cal l.prog w K mg base 6 "_law_by_base" ["_law_table_here"] spBaseL := a29.cal X G (fun _ _ _ _ _ _ => len1 fun _ => rfl) (ok__law_by_base T x_BadTable x_GridError f_exgBadTable f_kitBadTable c_checked)
    have c__law_same : Cal l.prog w K mg base 1 "_law_same" ["_law_found", "_law_at_here"] spSame := a30.cal X G (fun _ _ _ _ _ _ => len2 fun _ _ => rfl) (ok__law_same T)
    exact ok_law T c__law_made c__law_cell c__law_copy c_checked c__law_frame c__law_great c__law_bad c__law_at c__law_same c__law_by_base _ fd F
theorem walk {l : PySem.W.OpenLaw} {q : Program} {loose : List Str} {XP : (Str → Option Value) → Heap → Prop} {YP : World → Heap → Prop} {d : DefRec} {K : Params → PySem.W.Frag} (hn : l.most = some 63) (hdf : d.params.defaults = [])
    (hY : ∀ (w : World) (h : Heap), YP w h → (K w.params).In h)
    (F : ∀ (w : World) (mg : Str → Option Value) (fa : Addr) (h : Heap), (K w.params).In h → h.Ns mainGlobals mg → mg d.name = some (.ref fa) →
      ∃ fd : FuncData, (∀ (s : Shared) (u : Value), BindsTo s fd ⟨[u], []⟩ [("_law_script", u)]) ∧ ∀ base : Heap, (K w.params).In base → base.Ns mainGlobals mg → FnOk l.prog w (K w.params) mg base CX0 8 fa fd ["_law_script"] (spLaw (K w.params))) :
    PySem.W.WalkO q loose XP YP l.row.toRowW d [] (fun f vs => PySem.call f vs) :=
  L2.walk_of (n := 63) (k := 8) (x := "_law_script") (CX := fun _ => CX0) (sp := fun w => spLaw (K w.params)) hn (by decide) hdf ⟨rfl, by decide, by decide⟩ hY F (fun _ _ a ns hl _ hS => ⟨a, ns, rfl, hS, hl, fun _ => rfl⟩) fun _ _ _ _ _ z => z
end KL
noncomputable def PySem.W.Fast.tw16372714664605958261:PySem.Program:=PySem.Challenge.pw_gridframe_k01_tables
theorem PySem.W.Fast.te16372714664605958261:PySem.Challenge.pw_gridframe_k01_tables=PySem.W.Fast.tw16372714664605958261:=rfl
namespace PySem.W.Fast
theorem te2733164944314776384:True:=trivial
theorem te4448299862101115016:True:=trivial
theorem te17865595595487089415:True:=trivial
theorem te16629810204369313791:True:=trivial
theorem te15143591706819035023:True:=trivial
theorem te2384748593193154334:True:=trivial
theorem te17079351577478383081:True:=trivial
theorem te13514341379811354910:True:=trivial
theorem te1622650524135066284:True:=trivial
theorem te17477492640696590414:True:=trivial
theorem te788805666840170079:True:=trivial
theorem te6743407910413031326:True:=trivial
theorem te15199038423168670396:True:=trivial
theorem te10166310157109205493:True:=trivial
theorem te14286735303201833970:True:=trivial
theorem te10252535879882576962:True:=trivial
theorem te12892130433324553548:True:=trivial
theorem te4118069065686245512:True:=trivial
theorem te1199368408728011446:True:=trivial
theorem te3000404725213526499:True:=trivial
theorem te743256101751148834:True:=trivial
theorem te8252325591279979475:True:=trivial
theorem te634779418473682498:True:=trivial
theorem te7472286352326144643:True:=trivial
theorem te3371447799512260866:True:=trivial
theorem te3348931966501166972:True:=trivial
theorem te12872409634656880715:True:=trivial
theorem te15559057526988115036:True:=trivial
theorem te12499244652896928770:True:=trivial
theorem te11969700491609170101:True:=trivial
theorem te6030852876200451496:True:=trivial
theorem te1797498366721156636:True:=trivial
theorem te17835664162565501784:True:=trivial
theorem te667711157991277397:True:=trivial
theorem te15799328925002435251:True:=trivial
theorem te2090279137769851768:True:=trivial
theorem te11598695251602540914:True:=trivial
theorem te11520698461190516595:True:=trivial
theorem te14889166359548471547:True:=trivial
theorem te1936540207291253848:True:=trivial
theorem te16682203878902458601:True:=trivial
theorem te15983900502234077259:True:=trivial
theorem te16730315892598746864:True:=trivial
theorem te11960650074241728417:True:=trivial
theorem te9772554971306457843:True:=trivial
theorem te16139966192968584077:True:=trivial
theorem te498172661752849117:True:=trivial
theorem te17096052463905534561:True:=trivial
theorem te13789017162581997156:True:=trivial
theorem te16057436015307038372:True:=trivial
theorem te13460269088050968171:True:=trivial
theorem te6229244379574391594:True:=trivial
theorem te17585275997303899936:True:=trivial
theorem te1371219983305064060:True:=trivial
theorem te7339265729983072314:True:=trivial
theorem te9031023681595989865:True:=trivial
theorem te12132826487656717744:True:=trivial
theorem te9774245527001959360:True:=trivial
theorem te11461993763861661990:True:=trivial
theorem te11619889323051237069:True:=trivial
theorem te1594929458364253473:True:=trivial
theorem te1432349287252435838:True:=trivial
theorem te11699638599015807892:True:=trivial
theorem te4116364052866958375:True:=trivial
theorem te2386126236734482768:True:=trivial
theorem te9368075530639390061:True:=trivial
theorem te15770794141396399694:True:=trivial
theorem te8252527184295701552:True:=trivial
theorem te6302946373212346228:True:=trivial
theorem te9931535162071116564:True:=trivial
theorem te14965768627325180565:True:=trivial
theorem te6292076187741995024:True:=trivial
theorem te4505357048982491155:True:=trivial
theorem te1505575231879437522:True:=trivial
theorem te5037563163368639612:True:=trivial
theorem te15340291650972156591:True:=trivial
theorem te17679207392860667394:True:=trivial
theorem te651150763462472937:True:=trivial
theorem te4418335006158161526:True:=trivial
theorem te8037010827100209390:True:=trivial
theorem te1406456041235637235:True:=trivial
theorem te9861744044993300524:True:=trivial
theorem te4128136312415285344:True:=trivial
theorem te60191800746932425:True:=trivial
theorem te6066486682998276798:True:=trivial
theorem te615111344113984957:True:=trivial
theorem te9546452510919662166:True:=trivial
theorem te17047319646929120805:True:=trivial
theorem te11154772615538608471:True:=trivial
theorem te13664013662687932640:True:=trivial
theorem te9676495269716261739:True:=trivial
theorem te9978014986702872879:True:=trivial
theorem te10789467060669394395:True:=trivial
theorem te8114606223870107415:True:=trivial
theorem te14462731534935834723:True:=trivial
theorem te2662967042881385192:True:=trivial
theorem te4725755048036159872:True:=trivial
theorem te11852564208422624023:True:=trivial
theorem te8601844297184403558:True:=trivial
theorem te10305893598990778850:True:=trivial
theorem te8552293561049418669:True:=trivial
theorem te10336821973997062624:True:=trivial
theorem te6435821034726223015:True:=trivial
theorem te17464794604151242726:True:=trivial
theorem te13087194925760410275:True:=trivial
theorem te13684403245398982405:True:=trivial
theorem te2130289854640189063:True:=trivial
theorem te10173218859119425830:True:=trivial
theorem te12908141891802257986:True:=trivial
theorem te4761855489686329902:True:=trivial
theorem te1917876233906828788:True:=trivial
theorem te10958171359243256188:True:=trivial
theorem te12885014783839085190:True:=trivial
theorem te17357594304146702903:True:=trivial
theorem te15541921140376292183:True:=trivial
theorem te15976734722466067838:True:=trivial
theorem te8614416036888898558:True:=trivial
theorem te1871331279802535708:True:=trivial
theorem te7492051561414957621:True:=trivial
theorem te12284629046074632292:True:=trivial
theorem te9447095004293730186:True:=trivial
theorem te8046649482990653624:True:=trivial
theorem te15988095897942973148:True:=trivial
theorem te12090904147005116303:True:=trivial
theorem te3445465759891933815:True:=trivial
theorem te12809118285610041331:True:=trivial
theorem te2314615899273886782:True:=trivial
theorem te11823321187344891276:True:=trivial
theorem te118075318620448053:True:=trivial
theorem te7470479302726083070:True:=trivial
theorem te11630449548079573453:True:=trivial
theorem te9312322348643261725:True:=trivial
theorem te9793231548502013828:True:=trivial
theorem te14185529912545173795:True:=trivial
theorem te5138352489108856184:True:=trivial
theorem te10207916244752960377:True:=trivial
theorem te6530616082432724021:True:=trivial
theorem te6786946523573038121:True:=trivial
theorem te4780442992358592444:True:=trivial
theorem te5878053824445773120:True:=trivial
theorem te13038240247732270173:True:=trivial
theorem te1068575029578531538:True:=trivial
theorem te2925421258961387258:True:=trivial
theorem te6875482400572975011:True:=trivial
theorem te508360947726382817:True:=trivial
theorem te10158164996754318458:True:=trivial
theorem te16426972183962992133:True:=trivial
theorem te12493081675757041501:True:=trivial
theorem te1742555340752056286:True:=trivial
theorem te10299730950626167371:True:=trivial
theorem te12227532225636166492:True:=trivial
theorem te4580578477484129913:True:=trivial
theorem te8409881407485917197:True:=trivial
theorem te14266712770466019880:True:=trivial
theorem te15709751640860155508:True:=trivial
theorem te8468702855015819378:True:=trivial
theorem te1395928374730949685:True:=trivial
theorem te15515152812003224558:True:=trivial
theorem te4728251358335561220:True:=trivial
theorem te14997763786272220714:True:=trivial
theorem te7900934164902908629:True:=trivial
theorem te17441684618947855215:True:=trivial
theorem te16872006355889911560:True:=trivial
theorem te13967546895955470501:True:=trivial
theorem te8629983071983140244:True:=trivial
theorem te17001517528725490435:True:=trivial
theorem te1610224791379609169:True:=trivial
theorem te16370956359733583092:True:=trivial
theorem te7592765043429170723:True:=trivial
theorem te11854933406661468372:True:=trivial
theorem te881278346072171821:True:=trivial
theorem te5509325034949953292:True:=trivial
theorem te3969411131297699520:True:=trivial
theorem te594271258942551011:True:=trivial
theorem te9370198044237941739:True:=trivial
theorem te18306738860844227952:True:=trivial
theorem te3347741303429037951:True:=trivial
theorem te4690417822209859275:True:=trivial
theorem te335723215315577616:True:=trivial
theorem te5701102927610657375:True:=trivial
theorem te870329703319454156:True:=trivial
theorem te7942725391049070421:True:=trivial
theorem te7267545130356360982:True:=trivial
theorem te12055923767986818421:True:=trivial
theorem te2444761422276556972:True:=trivial
theorem te2369878711830793685:True:=trivial
theorem te10449050852952970932:True:=trivial
theorem te14153636955210677420:True:=trivial
theorem te15544400696244827769:True:=trivial
theorem te1931700965705106886:True:=trivial
theorem te179000679275264432:True:=trivial
theorem te6055884258311571855:True:=trivial
theorem te9361431698920503738:True:=trivial
theorem te5293069195387451831:True:=trivial
theorem te4660974697194163626:True:=trivial
theorem te16755688090431919687:True:=trivial
theorem te17210131297189251940:True:=trivial
theorem te9966265776916028838:True:=trivial
theorem te11951761625242170633:True:=trivial
theorem te14070123756368880712:True:=trivial
theorem te6998223007982576638:True:=trivial
theorem te18070288143446829226:True:=trivial
theorem te11571822466341277977:True:=trivial
theorem te13780137409354000073:True:=trivial
theorem te17397373833482003001:True:=trivial
theorem te4392455539287174355:True:=trivial
theorem te9872211199143555259:True:=trivial
theorem te12271641585578424081:True:=trivial
theorem te7107330742883284177:True:=trivial
theorem te4078578550887298493:True:=trivial
theorem te5067001128498908592:True:=trivial
theorem te4709941162963376207:True:=trivial
theorem te14847673481991210114:True:=trivial
theorem te4308892954110869757:True:=trivial
theorem te17886369677651567879:True:=trivial
theorem te17495277270467429987:True:=trivial
theorem te1106229249021177205:True:=trivial
theorem te8841130682970358999:True:=trivial
theorem te8249327513912636219:True:=trivial
theorem te1574376374589527287:True:=trivial
theorem te7490056665666906633:True:=trivial
end PySem.W.Fast
open PySem PySem.W PyProof.Rows
set_option maxRecDepth 100000 in
set_option maxHeartbeats 0 in
theorem PySem.Challenge.cw_gridframe_k01_tables_holds : PySem.Challenge.rw_gridframe_k01_tables.Holds := by
  w_on; o_law; k_head; (case hw => w_witness2)
  k_fill
  refine KL.walk (l := PySem.Challenge.rw_gridframe_k01_tables) rfl rfl (fun w h Y => PySem.W.kIn_of Y) ?F
  case F =>
    intro w mg fa h KX G hmg
    refine' KL.all_ok KX G hmg ?a0 ?a1 ?a2 ?a3 ?a4 ?a5 ?a6 ?a7 ?a8 ?a9 ?a10 ?a11 ?a12 ?a13 ?a14 ?a15 ?a16 ?a17 ?a18 ?a19 ?a20 ?a21 ?a22 ?a23 ?a24 ?a25 ?a26 ?a27 ?a28 ?a29 ?a30 ?a31 ?z0 ?z1 ?z2 ?z3 ?z4 ?z5 ?z6 ?z7 ?z8 ?z9 ?z10 ?z11 ?z12 ?z13 ?z14 ?z15 ?z16 ?z17 ?y0 ?y1 ?y2 ?y3 ?e0 ?FB0 ?q0 ?j0 ?f0 ?f1
    (case a0 => refine' L2.at0_mk ?na0 ?lk0 ?co0 ?kp0; (case na0 => k_is); (case lk0 => k_is); (case co0 => k_is); (case kp0 => k_is))
    (case a1 => refine' L2.at0_mk ?na1 ?lk1 ?co1 ?kp1; (case na1 => k_is); (case lk1 => k_is); (case co1 => k_is); (case kp1 => k_is))
    (case a2 => refine' L2.at0_mk ?na2 ?lk2 ?co2 ?kp2; (case na2 => k_is); (case lk2 => k_is); (case co2 => k_is); (case kp2 => k_is))
    (case a3 => refine' L2.at0_mk ?na3 ?lk3 ?co3 ?kp3; (case na3 => k_is); (case lk3 => k_is); (case co3 => k_is); (case kp3 => k_is))
    (case a4 => refine' L2.at0_mk ?na4 ?lk4 ?co4 ?kp4; (case na4 => k_is); (case lk4 => k_is); (case co4 => k_is); (case kp4 => k_is))
    (case a5 => refine' L2.at0_mk ?na5 ?lk5 ?co5 ?kp5; (case na5 => k_is); (case lk5 => k_is); (case co5 => k_is); (case kp5 => k_is))
    (case a6 => refine' L2.at0_mk ?na6 ?lk6 ?co6 ?kp6; (case na6 => k_is); (case lk6 => k_is); (case co6 => k_is); (case kp6 => k_is))
    (case a7 => refine' L2.at0_mk ?na7 ?lk7 ?co7 ?kp7; (case na7 => k_is); (case lk7 => k_is); (case co7 => k_is); (case kp7 => k_is))
    (case a8 => refine' L2.at0_mk ?na8 ?lk8 ?co8 ?kp8; (case na8 => k_is); (case lk8 => k_is); (case co8 => k_is); (case kp8 => k_is))
    (case a9 => refine' L2.at0_mk ?na9 ?lk9 ?co9 ?kp9; (case na9 => k_is); (case lk9 => k_is); (case co9 => k_is); (case kp9 => k_is))
    (case a10 => refine' L2.at0_mk ?na10 ?lk10 ?co10 ?kp10; (case na10 => k_is); (case lk10 => k_is); (case co10 => k_is); (case kp10 => k_is))
    (case a11 => refine' L2.at0_mk ?na11 ?lk11 ?co11 ?kp11; (case na11 => k_is); (case lk11 => k_is); (case co11 => k_is); (case kp11 => k_is))
    (case a12 => refine' L2.at0_mk ?na12 ?lk12 ?co12 ?kp12; (case na12 => k_is); (case lk12 => k_is); (case co12 => k_is); (case kp12 => k_is))
    (case a13 => refine' L2.at0_mk ?na13 ?lk13 ?co13 ?kp13; (case na13 => k_is); (case lk13 => k_is); (case co13 => k_is); (case kp13 => k_is))
    (case a14 => refine' L2.at0_mk ?na14 ?lk14 ?co14 ?kp14; (case na14 => k_is); (case lk14 => k_is); (case co14 => k_is); (case kp14 => k_is))
    (case a15 => refine' L2.at0_mk ?na15 ?lk15 ?co15 ?kp15; (case na15 => k_is); (case lk15 => k_is); (case co15 => k_is); (case kp15 => k_is))
    (case a16 => refine' L2.at0_mk ?na16 ?lk16 ?co16 ?kp16; (case na16 => k_is); (case lk16 => k_is); (case co16 => k_is); (case kp16 => k_is))
    (case a17 => refine' L2.at0_mk ?na17 ?lk17 ?co17 ?kp17; (case na17 => k_is); (case lk17 => k_is); (case co17 => k_is); (case kp17 => k_is))
    (case a18 => refine' L2.at0_mk ?na18 ?lk18 ?co18 ?kp18; (case na18 => k_is); (case lk18 => k_is); (case co18 => k_is); (case kp18 => k_is))
    (case a19 => refine' L2.at0_mk ?na19 ?lk19 ?co19 ?kp19; (case na19 => k_is); (case lk19 => k_is); (case co19 => k_is); (case kp19 => k_is))
    (case a20 => refine' L2.at0_mk ?na20 ?lk20 ?co20 ?kp20; (case na20 => k_is); (case lk20 => k_is); (case co20 => k_is); (case kp20 => k_is))
    (case a21 => refine' L2.at0_mk ?na21 ?lk21 ?co21 ?kp21; (case na21 => k_is); (case lk21 => k_is); (case co21 => k_is); (case kp21 => k_is))
    (case a22 => refine' L2.at0_mk ?na22 ?lk22 ?co22 ?kp22; (case na22 => k_is); (case lk22 => k_is); (case co22 => k_is); (case kp22 => k_is))
    (case a23 => refine' L2.at0_mk ?na23 ?lk23 ?co23 ?kp23; (case na23 => k_is); (case lk23 => k_is); (case co23 => k_is); (case kp23 => k_is))
    (case a24 => refine' L2.at0_mk ?na24 ?lk24 ?co24 ?kp24; (case na24 => k_is); (case lk24 => k_is); (case co24 => k_is); (case kp24 => k_is))
    (case a25 => refine' L2.at0_mk ?na25 ?lk25 ?co25 ?kp25; (case na25 => k_is); (case lk25 => k_is); (case co25 => k_is); (case kp25 => k_is))
    (case a26 => refine' L2.at0_mk ?na26 ?lk26 ?co26 ?kp26; (case na26 => k_is); (case lk26 => k_is); (case co26 => k_is); (case kp26 => k_is))
    (case a27 => refine' L2.at0_mk ?na27 ?lk27 ?co27 ?kp27; (case na27 => k_is); (case lk27 => k_is); (case co27 => k_is); (case kp27 => k_is))
    (case a28 => refine' L2.at0_mk ?na28 ?lk28 ?co28 ?kp28; (case na28 => k_is); (case lk28 => k_is); (case co28 => k_is); (case kp28 => k_is))
    (case a29 => refine' L2.at0_mk ?na29 ?lk29 ?co29 ?kp29; (case na29 => k_is); (case lk29 => k_is); (case co29 => k_is); (case kp29 => k_is))
    (case a30 => refine' L2.at0_mk ?na30 ?lk30 ?co30 ?kp30; (case na30 => k_is); (case lk30 => k_is); (case co30 => k_is); (case kp30 => k_is))
    (case a31 => refine' L2.at0_mk ?na31 ?lk31 ?co31 ?kp31; (case na31 => k_is); (case lk31 => k_is); (case co31 => k_is); (case kp31 => k_is))
    (case z0 => k_is); (case z1 => k_is); (case z2 => k_is); (case z3 => k_is); (case z4 => k_is); (case z5 => k_is); (case z6 => k_is); (case z7 => k_is); (case z8 => k_is); (case z9 => k_is); (case z10 => k_is); (case z11 => k_is); (case z12 => k_is); (case z13 => k_is); (case z14 => k_is); (case z15 => k_is); (case z16 => k_is); (case z17 => k_is)
    (case y0 => k_is)
    (case y1 => k_is)
    (case y2 => k_is)
    (case y3 => k_is)
    (case e0 => k_is); (case FB0 => exact PySem.F.excBase_ValueError); (case q0 => k_exc)
    (case j0 => refine' L2.jx_mk ?j0e ?j0c ?j0i ?j0q ?j0l ?j0co ?j0kp ?j0k1 ?j0k2 ?j0k3 ?j0k4 ?j0k5 ?j0n ?j0m ?j0g0 ?j0g1 ?j0g2 ?j0g3; (case j0e => k_is); (case j0c => k_is); (case j0i => k_is); (case j0q => kernel_rfl); (case j0l => k_is); (case j0co => k_is); (case j0kp => k_is); (case j0k1 => k_is); (case j0k2 => kernel_rfl); (case j0k3 => k_is); (case j0k4 => k_is); (case j0k5 => k_is); (case j0n => k_is); (case j0m => kts_exm); (case j0g0 => k_is); (case j0g1 => k_is); (case j0g2 => k_is); (case j0g3 => k_is))
    (case f0 => kts_exm)
    (case f1 => kit_is)
#print axioms PySem.Challenge.cw_gridframe_k01_tables_holds

