import PyProof.Rows.All
import Wide.All
import OpenK.AllK
import Wide.FinOn
import Lean
import PyProof.EqAt
import PyProof.EqKinds
import PyProof.TupleCall
import PyProof.NeKinds
import PyProof.Rows.SortShellK
import KE.KSortTup
import PyProof.EnumStmt
import PyProof.EnumMake
import PyProof.EnumFor
import KE.KSortKey
import PyProof.StationsW
import KE.KTryOn
import PyProof.ZipIter
import PyProof.ListNew
import KE.LcSums
import KE.KRevIter
import PyProof.ListRange
import PyProof.ExcInit
import PyProof.FString5
import PyProof.InstStoreFacts
import PyProof.ExcAttrAll.ValueError
import PyProof.NsDelKeeps
import PyProof.StrCalls
import PyProof.Rows.SumAny
import PyProof.FactsAll.tuple
import PyProof.FactsAll.int
import PySem.Challenge.RW_gridframe_k39_refusals_stand_apart
set_option Elab.async false
set_option linter.all false
set_option maxRecDepth 100000
/-! THE HAND LAYER, for ints, bools, texts, own classes, LISTS and tuples (index, slices, in, append, pop ..), calls, loops. Paste it whole ahead of your own text; what your proof does not reach may be deleted. -/
namespace L2
open PySem PySem.Spec PyProof.Rows

/-- a key: an int or a str -/
noncomputable abbrev Key := Sum Int Str
noncomputable def keyIs : Key → Value → Bool
  | .inl k, v => Value.isInt k v
  | .inr x, v => Value.isStrOf x v
noncomputable def keyH (w : World) : Key → Int
  | .inl k => hashInt k
  | .inr x => hashStr w x
theorem keyIs_shape : ∀ {k : Key} {v : Value}, keyIs k v = true → (∃ i t, k = Sum.inl i ∧ v = Value.int i t) ∨ (∃ x t, k = Sum.inr x ∧ v = Value.str x t)
  | .inl i, v, h => by
    obtain ⟨t, e⟩ := Value.isInt_shape (k := i) (v := v) h
    exact .inl ⟨i, t, rfl, e⟩
  | .inr x, v, h => by
    obtain ⟨t, e⟩ := Value.isStrOf_shape (x := x) (v := v) h
    exact .inr ⟨x, t, rfl, e⟩
theorem key_ll (a b : Int) : decide ((Sum.inl a : Key) = Sum.inl b) = (a == b) := by
  by_cases e : a = b
  · subst e; simp
  · have h : ¬ (Sum.inl a : Key) = Sum.inl b := fun q => e (Sum.inl.inj q)
    rw [decide_eq_false h]
    exact (beq_eq_false_iff_ne.mpr e).symm
theorem key_rr (a b : Str) : decide ((Sum.inr a : Key) = Sum.inr b) = decide (a = b) := by
  by_cases e : a = b
  · subst e; simp
  · have h : ¬ (Sum.inr a : Key) = Sum.inr b := fun q => e (Sum.inr.inj q)
    rw [decide_eq_false h, decide_eq_false e]
theorem key_lr (a : Int) (b : Str) : decide ((Sum.inl a : Key) = Sum.inr b) = false := decide_eq_false (fun q => nomatch q)
theorem key_rl (a : Str) (b : Int) : decide ((Sum.inr a : Key) = Sum.inl b) = false := decide_eq_false (fun q => nomatch q)

noncomputable def mixKind (prog : Program) (w : World) : PySem.KeyKind prog w Key where
  is := keyIs
  hash := keyH w
  inj := fun v a b ha hb => by
    rcases keyIs_shape ha with ⟨i, t, rfl, rfl⟩ | ⟨x, t, rfl, rfl⟩
    · rcases keyIs_shape hb with ⟨j, u, rfl, e⟩ | ⟨y, u, rfl, e⟩
      · injection e with e1 _; rw [e1]
      · exact nomatch e
    · rcases keyIs_shape hb with ⟨j, u, rfl, e⟩ | ⟨y, u, rfl, e⟩
      · exact nomatch e
      · injection e with e1 _; rw [e1]
  byValue := fun k v h => by
    rcases keyIs_shape h with ⟨i, t, rfl, rfl⟩ | ⟨x, t, rfl, rfl⟩ <;> rfl
  pyHash := fun hv h => by
    rcases keyIs_shape hv with ⟨i, t, rfl, rfl⟩ | ⟨x, t, rfl, rfl⟩
    · exact wpAny_pyHash_int h
    · exact wpAny_pyHash_str h
  eqBool := fun hu hv h => by
    rcases keyIs_shape hu with ⟨i, t, rfl, rfl⟩ | ⟨x, t, rfl, rfl⟩
    · rcases keyIs_shape hv with ⟨j, u, rfl, rfl⟩ | ⟨y, u, rfl, rfl⟩
      · rw [key_ll] at h; exact wpAny_eqBool_int h
      · rw [key_lr] at h; exact SeqAt.EqAt.int_str i t y u _ _ _ _ h
    · rcases keyIs_shape hv with ⟨j, u, rfl, rfl⟩ | ⟨y, u, rfl, rfl⟩
      · rw [key_rl] at h; exact SeqAt.EqAt.str_int x t j u _ _ _ _ h
      · rw [key_rr] at h; exact wpAny_eqBool_str h
  «strs» := fun k x t v h => by
    rcases keyIs_shape h with ⟨i, u, rfl, e⟩ | ⟨y, u, rfl, e⟩
    · exact nomatch e
    · injection e with e1 _
      subst e1
      cases v <;> rfl

end L2

namespace L2
open PySem PySem.Spec PyProof.Rows

/-- a value, without the heap -/
inductive V where
  | non | bl (b : Bool) | int (i : Int) | str (x : Str) | byt (b : Array UInt8) | flt (b : UInt64) | ref (a : Addr) | ty (n : String)
  deriving DecidableEq

noncomputable def RelV : V → Value → Prop
  | .non, u => u = Value.none
  | .bl b, u => u = Value.bool b
  | .int i, u => ∃ t, u = Value.int i t
  | .str x, u => ∃ t, u = Value.str x t
  | .byt b, u => ∃ t, u = Value.bytes b t
  | .flt b, u => ∃ t, u = Value.float b t
  | .ref a, u => u = Value.ref a
  | .ty n, u => u = Value.type n

noncomputable abbrev Vals : List V → List Value → Prop := Paired RelV
theorem Vals.length {xs : List V} {us : List Value} (r : Vals xs us) : xs.length = us.length := Paired.length r
theorem Vals.get : ∀ {xs : List V} {us : List Value} {i : Nat} {x : V}, Vals xs us → xs[i]? = some x → ∃ u, us[i]? = some u ∧ RelV x u
  | _, _, _, _, .nil, e => by simp at e
  | _, _, 0, _, .cons r _, e => by simp at e; subst e; exact ⟨_, rfl, r⟩
  | _, _, i + 1, x, .cons _ t, e => by
    obtain ⟨u, h1, h2⟩ := Vals.get (i := i) (x := x) t (by simpa using e)
    exact ⟨u, by simpa using h1, h2⟩
theorem Vals.append : ∀ {xs ys : List V} {us ws : List Value}, Vals xs us → Vals ys ws → Vals (xs ++ ys) (us ++ ws)
  | _, _, _, _, .nil, s => s
  | _, _, _, _, .cons r t, s => .cons r (Vals.append t s)
theorem Vals.take : ∀ {xs : List V} {us : List Value} (n : Nat), Vals xs us → Vals (xs.take n) (us.take n)
  | _, _, 0, _ => .nil
  | _, _, _ + 1, .nil => .nil
  | _, _, n + 1, .cons r t => .cons r (Vals.take n t)
theorem Vals.drop : ∀ {xs : List V} {us : List Value} (n : Nat), Vals xs us → Vals (xs.drop n) (us.drop n)
  | _, _, 0, r => r
  | _, _, _ + 1, .nil => .nil
  | _, _, n + 1, .cons _ t => Vals.drop n t

noncomputable def RelO : Option V → Option Value → Prop
  | some v, some u => RelV v u
  | none, none => True
  | _, _ => False
noncomputable def KV {κ : Type} : List (κ × V) → List (κ × Value) → Prop := Paired fun (p : κ × V) (q : κ × Value) => p.1 = q.1 ∧ RelV p.2 q.2

/-- a key of a dict (00_mix): an int or a text -/
noncomputable def kV : Key → V
  | .inl i => .int i
  | .inr x => .str x

/-- what stands at a tracked address -/
inductive HO where
  /-- a list -/
  | lst (xs : List V)
  /-- a tuple (never changes) -/
  | tup (xs : List V)
  /-- a dict whose keys are ints and texts; one whose keys are tuples of ints and texts (the empty one is both) -/
  | dK (kvs : List (Key × V)) | dT (kvs : List (List Key × V))
  /-- a set of ints: its members, its size -/
  | set (S : Int → Bool) (n : Nat)
  /-- an instance of the class at C, its dict at dx, its attributes -/
  | ins (C dx : Addr) (fs : List (Str × V))
  /-- the dict of the instance at x -/
  | own (x : Addr)
  /-- the dict of an exception -/
  | xd (fs : List (Str × V))
  /-- a bound method, f of x -/
  | met (f x : Addr)
  /-- a range object lo, lo + 1, .. below hi -/
  | rng (lo hi : Int)
  /-- a thing that is known to the object (the script; a dict while a loop walks it): read, never written while it is so -/
  | frz (o : Obj) (u : HO)
  /-- a code object's table -/
  | tbl (ps : Array Value)
  /-- any other thing, by what is true of its one object (a def of one's own: SetO a S n := HO.ext fun h => ..) -/
  | ext (φ : Heap → Prop)

noncomputable abbrev Hp := Addr → Option HO
noncomputable def upd (H : Hp) (a : Addr) (o : HO) : Hp := fun b => if b = a then some o else H b
theorem upd_same {H : Hp} {a : Addr} {o : HO} : upd H a o a = some o := by unfold upd; rw [if_pos rfl]
theorem upd_ne {H : Hp} {a b : Addr} {o : HO} (h : b ≠ a) : upd H a o b = H b := by unfold upd; rw [if_neg h]
/-- two objects of different content stand apart -/
theorem ne_of {H : Hp} {a b : Addr} {o u : HO} (h : H a = some o) (h' : H b = some u) (d : o ≠ u) : a ≠ b := by
  intro e; subst e; rw [h] at h'; exact d (Option.some.inj h')
theorem ne_of_none {H : Hp} {a b : Addr} {o : HO} (h : H a = some o) (h' : H b = none) : a ≠ b := by
  intro e; subst e; rw [h] at h'; cases h'

section
variable (P : Program) (w : World)
noncomputable def ObjOk (H : Hp) (h : Heap) (a : Addr) : HO → Prop
  | .lst xs => xs.length ≤ sizeLine ∧ ∃ (its : List Value) (n : Nat), Vals xs its ∧ h.get? a = some { cls := .type "list", data := .seq its.toArray n }
  | .tup xs => xs.length ≤ sizeLine ∧ ∃ its : List Value, Vals xs its ∧ IsTup h a its.toArray
  | .dK kvs => kvs.length ≤ sizeLine ∧ (a == sysModules) = false ∧ ∃ vs, KV kvs vs ∧ h.DictOf (mixKind P w) a vs
  | .dT kvs => kvs.length ≤ sizeLine ∧ (a == sysModules) = false ∧ ∃ xs : List (List Key × Addr × Value),
      Paired (fun (p : List Key × V) (q : List Key × Addr × Value) => p.1 = q.1 ∧ H q.2.1 = some (.tup (p.1.map kV)) ∧ RelV p.2 q.2.2) kvs xs ∧
      ∃ o es ep, h.get? a = some o ∧ o.ExactDict ∧ o.data = .dict es ep ∧ es.toList = xs.map (entryOfKey (tupleKind (mixKind P w))) ∧ (xs.map (·.1)).Nodup
  | .set S n => h.SetOf (intKind P w) a S n
  | .ins C dx fs => H dx = some (.own a) ∧ fs.length ≤ 1000 ∧ dx ≠ a ∧ h.get? a = some (PySem.W.instObj C dx) ∧
      ∃ mA, h.Ns1 dx mA ∧ (∀ f, RelO (fs.lookup f) (mA f)) ∧ PySem.Within mA (fs.map (·.1))
  | .own _ => ∃ o, h.get? a = some o
  | .xd fs => ∃ mA, h.Ns1 a mA ∧ ∀ f, RelO (fs.lookup f) (mA f)
  | .rng lo hi => ∃ t u v, h.get? a = some { cls := .type "range", data := .fields #[.int lo t, .int hi u, .int 1 v] }
  | .frz o u => h.get? a = some o ∧ ObjOk H h a u
  | .tbl ps => h.get? a = some { cls := .none, data := .fields ps }
  | .met f x => h.get? a = some (PySem.W.methodObj (.ref f) (.ref x))
  | .ext φ => φ h ∧ (∃ o, h.get? a = some o) ∧ ∀ h1 h2 : Heap, φ h1 → (∀ o, h1.get? a = some o → h2.get? a = some o) → φ h2
/-- the abstract heap is held -/
noncomputable def HOk (H : Hp) (h : Heap) : Prop := ∀ a o, H a = some o → ObjOk P w H h a o
end

section
variable {P : Program} {w : World} {H H' : Hp} {h h' : Heap} {a : Addr} {o : HO}
theorem ObjOk.lt (x : ObjOk P w H h a o) : a < h.objs.size := by
  cases o with
  | lst xs => obtain ⟨_, _, _, _, e⟩ := x; exact Heap.lt_size e
  | tup xs => obtain ⟨_, _, _, p⟩ := x; exact p.lt
  | dK kvs => obtain ⟨_, _, _, _, o, _, _, e, _⟩ := x; exact Heap.lt_size e
  | dT kvs => obtain ⟨_, _, _, _, o, _, _, e, _⟩ := x; exact Heap.lt_size e
  | set S n => obtain ⟨o, _, _, _, e, _⟩ := x; exact Heap.lt_size e
  | ins C dx fs => obtain ⟨_, _, _, e, _⟩ := x; exact Heap.lt_size e
  | own y => obtain ⟨_, e⟩ := x; exact Heap.lt_size e
  | xd fs => obtain ⟨_, ⟨_, _, _, e, _⟩, _⟩ := x; exact Heap.lt_size e
  | rng lo hi => obtain ⟨_, _, _, e⟩ := x; exact Heap.lt_size e
  | frz ob u => obtain ⟨e, _⟩ := x; exact Heap.lt_size e
  | tbl ps => exact Heap.lt_size (show h.get? a = some _ from x)
  | met f y => exact Heap.lt_size (show h.get? a = some _ from x)
  | ext φ => obtain ⟨_, ⟨_, e⟩, _⟩ := x; exact Heap.lt_size e
theorem Paired.mapP {α β : Type} {F G : α → β → Prop} : ∀ {l₁ : List α} {l₂ : List β}, Paired F l₁ l₂ → (∀ a b, F a b → G a b) → Paired G l₁ l₂
  | _, _, .nil, _ => .nil
  | _, _, .cons r t, f => .cons (f _ _ r) (Paired.mapP t f)
/-- what an object's description leans on: its own object, its own dict, the tuples -/
theorem ObjOk.stay (x : ObjOk P w H h a o) (k : ∀ b u, (b = a ∨ H b = some (.own a)) → h.get? b = some u → h'.get? b = some u)
    (ho : ∀ b, H b = some (.own a) → H' b = some (.own a)) (ht : ∀ b xs, H b = some (.tup xs) → H' b = some (.tup xs)) : ObjOk P w H' h' a o := by
  induction o with
  | lst xs => obtain ⟨z, its, n, r, e⟩ := x; exact ⟨z, its, n, r, k _ _ (.inl rfl) e⟩
  | tup xs => obtain ⟨z, its, r, ob, e, c⟩ := x; exact ⟨z, its, r, ob, k _ _ (.inl rfl) e, c⟩
  | dK kvs => obtain ⟨z, y, vs, r, ob, es, ep, e, c⟩ := x; exact ⟨z, y, vs, r, ob, es, ep, k _ _ (.inl rfl) e, c⟩
  | dT kvs =>
    obtain ⟨z, y, xs, r, ob, es, ep, e, c⟩ := x
    exact ⟨z, y, xs, Paired.mapP r fun p q z => ⟨z.1, ht _ _ z.2.1, z.2.2⟩, ob, es, ep, k _ _ (.inl rfl) e, c⟩
  | set S n => obtain ⟨ob, es, ep, t, e, c⟩ := x; exact ⟨ob, es, ep, t, k _ _ (.inl rfl) e, c⟩
  | ins C dx fs =>
    obtain ⟨d, z, ne, e, mA, ⟨od, es, ep, e2, c⟩, r⟩ := x
    exact ⟨ho _ d, z, ne, k _ _ (.inl rfl) e, mA, ⟨od, es, ep, k _ _ (.inr d) e2, c⟩, r⟩
  | own y => obtain ⟨ob, e⟩ := x; exact ⟨ob, k _ _ (.inl rfl) e⟩
  | xd fs => obtain ⟨mA, ⟨od, es, ep, e, c⟩, r⟩ := x; exact ⟨mA, ⟨od, es, ep, k _ _ (.inl rfl) e, c⟩, r⟩
  | rng lo hi => obtain ⟨t, u, v, e⟩ := x; exact ⟨t, u, v, k _ _ (.inl rfl) e⟩
  | frz ob u ih => obtain ⟨e, q⟩ := x; exact ⟨k _ _ (.inl rfl) e, ih q⟩
  | tbl ps =>
    have e : h.get? a = some { cls := .none, data := .fields ps } := x
    show h'.get? a = some { cls := .none, data := .fields ps }
    exact k a _ (.inl rfl) e
  | met f y =>
    have e : h.get? a = some (PySem.W.methodObj (.ref f) (.ref y)) := x
    show h'.get? a = some (PySem.W.methodObj (.ref f) (.ref y))
    exact k a _ (.inl rfl) e
  | ext φ => obtain ⟨p, ⟨o, e⟩, st⟩ := x; exact ⟨st _ _ p fun o q => k _ _ (.inl rfl) q, ⟨o, k _ _ (.inl rfl) e⟩, st⟩
theorem HOk.lt (x : HOk P w H h) (e : H a = some o) : a < h.objs.size := (x a o e).lt
theorem HOk.fresh (x : HOk P w H h) (e : h.objs.size ≤ a) : H a = none := by
  cases q : H a with
  | none => rfl
  | some u => exact absurd (Nat.lt_of_lt_of_le (x.lt q) e) (Nat.lt_irrefl _)
/-- every object of the heap is kept -/
theorem HOk.kept (x : HOk P w H h) (k : ∀ b u, h.get? b = some u → h'.get? b = some u) : HOk P w H h' := fun a o e =>
  (x a o e).stay (fun b u _ q => k b u q) (fun _ q => q) fun _ _ q => q
/-- a new object is laid and tracked -/
theorem HOk.laid (x : HOk P w H h) (k : ∀ b u, h.get? b = some u → h'.get? b = some u) (hp : h.objs.size ≤ a) (new : ObjOk P w (upd H a o) h' a o) : HOk P w (upd H a o) h' := fun b u e => by
  have hn := x.fresh hp
  by_cases hb : b = a
  · subst hb; rw [upd_same] at e; cases e; exact new
  · rw [upd_ne hb] at e
    exact (x b u e).stay (fun c v _ q => k c v q) (fun c q => by rw [upd_ne (ne_of_none q hn)]; exact q) fun c xs q => by rw [upd_ne (ne_of_none q hn)]; exact q
end

/-- what may be read as u: it is u, or a known u -/
noncomputable def Rd (H : Hp) (a : Addr) (u : HO) : Prop := H a = some u ∨ ∃ o, H a = some (.frz o u)
theorem Rd.ok {P : Program} {w : World} {H : Hp} {h : Heap} {a : Addr} {u : HO} (r : Rd H a u) (x : HOk P w H h) : ObjOk P w H h a u := by
  rcases r with r | ⟨o, r⟩
  · exact x a u r
  · obtain ⟨_, q⟩ := x a _ r
    exact q
/-- what may be written -/
noncomputable def Mut : Option HO → Prop
  | some (.lst _) => True
  | some (.dK _) => True
  | some (.dT _) => True
  | some (.set _ _) => True
  | some (.ins _ _ _) => True
  | some (.ext _) => True
  | _ => False
section
variable {P : Program} {w : World} {H : Hp} {h h' : Heap} {x e : Addr} {o' : HO}
/-- the object at e is changed: x itself, or the dict of the instance x -/
theorem HOk.write (ok : HOk P w H h) (mu : Mut (H x)) (he : e = x ∨ H e = some (.own x)) (k : ∀ b u, b ≠ e → h.get? b = some u → h'.get? b = some u) (heo : ∃ u, h'.get? e = some u)
    (new : ObjOk P w (upd H x o') h' x o') : HOk P w (upd H x o') h' := fun b u q => by
  have nown : ∀ c y, H c = some (.own y) → c ≠ x := fun c y r z => by subst z; rw [r] at mu; exact mu
  have ntup : ∀ c xs, H c = some (.tup xs) → c ≠ x := fun c xs r z => by subst z; rw [r] at mu; exact mu
  by_cases hb : b = x
  · subst hb; rw [upd_same] at q; cases q; exact new
  · rw [upd_ne hb] at q
    by_cases hbe : b = e
    · have q' : H b = some (.own x) := by
        rcases he with z | z
        · exact absurd (hbe.trans z) hb
        · rw [hbe]; exact z
      rw [q] at q'; cases q'
      obtain ⟨v, hv⟩ := heo
      exact ⟨v, by rw [hbe]; exact hv⟩
    · refine (ok b u q).stay (fun c v hc r => k c v ?_ r) (fun c r => by rw [upd_ne (nown c b r)]; exact r) fun c xs r => by rw [upd_ne (ntup c xs r)]; exact r
      rcases hc with rfl | hc
      · exact hbe
      · rintro rfl
        rcases he with z | z
        · exact nown c b hc z
        · rw [hc] at z; cases z; exact hb rfl
end

/-! ### kept unless tracked; of the frames at fs (the callers') the slots may change (an exception that passes writes there); of the records at ex (iterators) nothing is said -/
structure Un (fs ex : List Addr) (H H' : Hp) (h h' : Heap) : Prop where
  keep : ∀ b o, h.get? b = some o → H b = none → b ∉ fs → b ∉ ex → h'.get? b = some o
  slot : ∀ b o, h.get? b = some o → H b = none → b ∈ fs → b ∉ ex → ∃ sl, h'.get? b = some { o with slots := sl }
  free : ∀ b o, h.get? b = some o → H b = none → b ∉ ex → H' b = none
  there : ∀ b o, h.get? b = some o → b ∉ ex → ∃ o', h'.get? b = some o'
  tups : ∀ b xs, H b = some (.tup xs) → H' b = some (.tup xs)
  frzs : ∀ b o u, H b = some (.frz o u) → H' b = some (.frz o u)
  tbls : ∀ b ps, H b = some (.tbl ps) → ∃ more, H' b = some (.tbl (ps ++ more))
section
variable {fs fs' ex ex' : List Addr} {H H1 H2 : Hp} {h h1 h2 h' : Heap} {a x e : Addr} {o : HO}
theorem Un.any (u : Un fs ex H H1 h h1) {b : Addr} {ob : Obj} (q : h.get? b = some ob) (n : H b = none) (hx : b ∉ ex) : ∃ sl, h1.get? b = some { ob with slots := sl } := by
  by_cases hb : b ∈ fs
  · exact u.slot b ob q n hb hx
  · exact ⟨ob.slots, u.keep b ob q n hb hx⟩
theorem Un.kept (k : ∀ b u, h.get? b = some u → h'.get? b = some u) : Un fs ex H H h h' :=
  ⟨fun b ob q _ _ _ => k b ob q, fun b ob q _ _ _ => ⟨ob.slots, k b ob q⟩, fun _ _ _ n _ => n, fun b ob q _ => ⟨ob, k b ob q⟩, fun _ _ q => q, fun _ _ _ q => q, fun _ ps q => ⟨#[], by rw [q]; simp⟩⟩
theorem Un.refl : Un fs ex H H h h := Un.kept fun _ _ q => q
theorem Un.laid (k : ∀ b u, h.get? b = some u → h'.get? b = some u) (hp : h.objs.size ≤ a) (hn : H a = none) : Un fs ex H (upd H a o) h h' where
  keep := fun b u q _ _ _ => k b u q
  slot := fun b u q _ _ _ => ⟨u.slots, k b u q⟩
  free := fun b u q n _ => by rw [upd_ne (Nat.ne_of_lt (Nat.lt_of_lt_of_le (Heap.lt_size q) hp))]; exact n
  there := fun b u q _ => ⟨u, k b u q⟩
  tups := fun b xs q => by rw [upd_ne (ne_of_none q hn)]; exact q
  frzs := fun b u xs q => by rw [upd_ne (ne_of_none q hn)]; exact q
  tbls := fun b ps q => ⟨#[], by rw [upd_ne (ne_of_none q hn), q]; simp⟩
theorem Un.write (mu : Mut (H x)) (he : e = x ∨ H e = some (.own x)) (k : ∀ b u, b ≠ e → h.get? b = some u → h'.get? b = some u) (heo : ∃ u, h'.get? e = some u) : Un fs ex H (upd H x o) h h' := by
  have hx : ∀ b, H b = none → b ≠ x := fun b n z => by subst z; rw [n] at mu; exact mu
  have hb : ∀ b, H b = none → b ≠ e := fun b n z => by
    subst z
    rcases he with r | r
    · exact hx b n r
    · rw [n] at r; cases r
  have hm : ∀ b u, H b = some u → ¬ Mut (some u) → b ≠ x := fun b u q nm z => by subst z; rw [q] at mu; exact nm mu
  refine ⟨fun b u q n _ _ => k b u (hb b n) q, fun b u q n _ _ => ⟨u.slots, k b u (hb b n) q⟩, fun b u q n _ => by rw [upd_ne (hx b n)]; exact n, fun b u q _ => ?_,
    fun b xs q => by rw [upd_ne (hm b _ q fun z => z)]; exact q, fun b u xs q => by rw [upd_ne (hm b _ q fun z => z)]; exact q, fun b ps q => ⟨#[], by rw [upd_ne (hm b _ q fun z => z), q]; simp⟩⟩
  by_cases hbe : b = e
  · subst hbe; exact heo
  · exact ⟨u, k b u hbe q⟩
end

/-! ### the heap without what is tracked -/
noncomputable def trk (h : Heap) (H : Hp) : List Addr := (List.range h.objs.size).filter fun a => (H a).isSome
noncomputable def hidT (h : Heap) (H : Hp) : Heap := PySem.W.hideAll h (trk h H)
theorem hidT_size (h : Heap) (H : Hp) : (hidT h H).objs.size = h.objs.size := PySem.W.hideAll_size _ _
theorem hidT_get {h : Heap} {H : Hp} {b : Addr} {o : Obj} (e : h.get? b = some o) (n : H b = none) : (hidT h H).get? b = some o :=
  PySem.W.hideAll_get _ e fun hm => by
    have q : (H b).isSome = true := (List.mem_filter.mp hm).2
    rw [n] at q; simp at q
theorem of_hidT {h : Heap} {H : Hp} {b : Addr} {o : Obj} (e : (hidT h H).get? b = some o) : h.get? b = some o ∧ H b = none := by
  have e' : h.get? b = some o := PySem.W.of_hideAll (trk h H) e
  refine ⟨e', ?_⟩
  cases q : H b with
  | none => rfl
  | some x =>
    have hm : b ∈ trk h H := List.mem_filter.mpr ⟨List.mem_range.mpr (Heap.lt_size e'), by simp [q]⟩
    have z : (hidT h H).get? b = none := PySem.W.hideAll_none (trk h H) hm
    rw [z] at e; cases e

/-! ### OpenK's ledger, filled with every new object but one -/
end L2

namespace L2
open PySem PySem.Spec PyProof.Rows

/-- the module's facts, over the base: the heap at the law's entry without what is tracked there -/
structure Mod (K : PySem.W.Frag) (mg : Str → Option Value) (base : Heap) : Prop where
  kin : K.In base
  glob : base.Ns mainGlobals mg
  blt : ∃ mb, base.Ns builtinsNs mb ∧ ∀ x : Str, x ≠ "__name__" → mb x = bootBuiltins x
  nolimit : base.NoLimit

/-- the context: a def's body (or a comprehension's block) running. base: fixed through the whole law; s₀, H₀: the entry; outer: the frames whose slots others may change (a def's callers); stack: all frames that run;
   ex: iterators that were made ahead of the entry and are walked here (a comprehension's); fn: the names whose cells were made at the entry (a def: all; a comprehension's block: its own); calm: not within an except suite; pn: pins that every state bears; xe: what is wanted of an exception that leaves the code -/
structure Cx where
  prog : Program
  w : World
  K : PySem.W.Frag
  mg : Str → Option Value
  base : Heap
  A : Around
  N : List Str
  s₀ : Shared
  H₀ : Hp
  env : Env
  outer : List Env
  stack : List Env
  ex : List Addr
  fn : Str → Bool
  calm : Bool
  pn : List (Addr × Obj)
  xe : Value → Shared → Prop
/-- the callers' frames -/
noncomputable def frs (l : List Env) : List Addr := l.filterMap (·.frame)
noncomputable abbrev Cx.fs (X : Cx) : List Addr := frs X.outer

noncomputable def Vis (sc : Scope) (x : Str) : Prop := sc.names.lookup x = some .local ∨ sc.names.lookup x = some .cell ∨ sc.names.lookup x = some .free
noncomputable def Loc (sc : Scope) (x : Str) : Prop := sc.names.lookup x = some .local ∨ sc.names.lookup x = some .cell
noncomputable def Look (env : Env) (h : Heap) (m : Str → Option Value) (x : Str) (u : Value) : Prop :=
  (env.kindOf x = some .local ∧ m x = some u) ∨ ((env.kindOf x = some .cell ∨ env.kindOf x = some .free) ∧ ∃ c, env.cells.lookup x = some c ∧ h.IsCell c (some u))

structure Cx.Ok (X : Cx) : Prop where
  mod : Mod X.K X.mg X.base
  kind : X.env.scope.kind = .function
  glob : X.env.globals = mainGlobals
  blt : X.env.builtins = builtinsNs
  above : X.s₀.heap.objs.size ≤ X.env.locals
  inj : ∀ x y c, X.env.cells.lookup x = some c → X.env.cells.lookup y = some c → x = y
  has : ∀ x, (X.env.kindOf x = some .cell ∨ X.env.kindOf x = some .free) → ∃ c, X.env.cells.lookup x = some c
  cab : ∀ x c, X.fn x = true → X.env.cells.lookup x = some c → X.s₀.heap.objs.size ≤ c
  hd : X.calm = true → X.A.handled = none
  frames : X.A.frames = some X.stack
  stk : X.stack = X.outer ∨ (X.stack = X.env :: X.outer ∧ X.env.frame = some X.env.locals)
  exf : ∀ b ∈ X.ex, b ≠ X.env.locals ∧ ∀ x c, X.env.cells.lookup x = some c → c ≠ b
  bs : ∀ b o, X.base.get? b = some o → X.s₀.heap.get? b = some o ∧ X.H₀ b = none
  bsz : X.base.objs.size ≤ X.s₀.heap.objs.size
  noex : ∀ b o, X.base.get? b = some o → b ∉ X.ex
  exfs : ∀ b ∈ X.ex, b ∉ X.fs
  funs : X.s₀.heap.FunFrames X.base X.outer
  frf : ∀ b ∈ X.fs, X.H₀ b = none

structure Inv (X : Cx) (pins : List (Addr × Obj)) (σ : List (Option V)) (H : Hp) (s : Shared) : Prop where
  ok : X.Ok
  os : s.os = X.s₀.os
  bare : AllBare s.gens
  base : Un X.fs X.ex X.H₀ H X.s₀.heap s.heap
  loc : ∃ m, s.heap.Ns X.env.locals m ∧ ∀ (i : Nat) (x : Str) (v : V), X.N[i]? = some x → σ[i]? = some (some v) → Vis X.env.scope x → ∃ u, RelV v u ∧ Look X.env s.heap m x u
  cell : ∀ x c, X.env.cells.lookup x = some c → ∃ v, s.heap.IsCell c v
  free : H X.env.locals = none
  freeC : ∀ x c, X.env.cells.lookup x = some c → H c = none
  pin : ∀ p ∈ X.pn ++ pins, s.heap.get? p.1 = some p.2 ∧ H p.1 = none ∧ p.1 ≠ X.env.locals ∧ p.1 ∉ X.fs ∧ ∀ v, p.2.data ≠ .cell v
  hok : HOk X.prog X.w H s.heap
  len : σ.length = X.N.length

section
variable {X : Cx} {pins : List (Addr × Obj)} {σ : List (Option V)} {H H' : Hp} {s : Shared} {h' : Heap}

theorem Cx.Ok.nofr (ok : X.Ok) {b : Addr} {o : Obj} (e : X.base.get? b = some o) : b ∉ X.fs := fun hb => by
  have := (ok.funs.mem hb).1
  rw [e] at this; cases this
theorem Inv.bs (I : Inv X pins σ H s) : ∀ b o, X.base.get? b = some o → s.heap.get? b = some o ∧ H b = none := fun b o e =>
  ⟨I.base.keep b o (I.ok.bs b o e).1 (I.ok.bs b o e).2 (I.ok.nofr e) (I.ok.noex b o e), I.base.free b o (I.ok.bs b o e).1 (I.ok.bs b o e).2 (I.ok.noex b o e)⟩
theorem Inv.bk (I : Inv X pins σ H s) : ∀ b o, X.base.get? b = some o → s.heap.get? b = some o := fun b o e => (I.bs b o e).1
theorem Inv.mod (I : Inv X pins σ H s) : Mod X.K X.mg X.base := I.ok.mod
theorem Inv.kIn (I : Inv X pins σ H s) : X.K.In s.heap := I.ok.mod.kin.keeps I.bk
theorem Inv.lt (I : Inv X pins σ H s) : X.env.locals < s.heap.objs.size := let ⟨_, hn, _⟩ := I.loc; hn.lt
theorem Inv.sz (I : Inv X pins σ H s) : X.s₀.heap.objs.size ≤ s.heap.objs.size := Nat.le_trans I.ok.above (Nat.le_of_lt I.lt)
theorem Inv.nofs (I : Inv X pins σ H s) {a : Addr} (h : s.heap.objs.size ≤ a) : a ∉ X.fs := fun hb => by
  obtain ⟨_, o, ho, _⟩ := I.ok.funs.mem hb
  exact absurd (Nat.lt_of_lt_of_le (Heap.lt_size ho) (Nat.le_trans I.sz h)) (Nat.lt_irrefl _)
theorem Inv.cne (I : Inv X pins σ H s) : ∀ x c, X.env.cells.lookup x = some c → c ≠ X.env.locals := fun x c e z => by
  obtain ⟨v, o, ho, hd⟩ := I.cell x c e
  obtain ⟨m, ⟨o', es, ep, ho', hd', _⟩, _⟩ := I.loc
  rw [z, ho'] at ho; cases ho; rw [hd'] at hd; cases hd
theorem Inv.funs (I : Inv X pins σ H s) : s.heap.FunFrames X.base X.outer := by
  have all : ∀ (l : List Env), (∀ b ∈ frs l, b ∈ X.fs) → X.s₀.heap.FunFrames X.base l → s.heap.FunFrames X.base l := by
    intro l
    induction l with
    | nil => intro _ _; trivial
    | cons env r ih =>
      intro hs hl
      obtain ⟨hk, ⟨L, o, hf, hn, ho, hd⟩, hr⟩ := hl
      have hL : L ∈ X.fs := hs L (by unfold frs; rw [List.filterMap_cons, hf]; exact List.mem_cons_self)
      obtain ⟨sl, e⟩ := I.base.slot L o ho (I.ok.frf L hL) hL fun z => I.ok.exfs L z hL
      exact ⟨hk, ⟨L, _, hf, hn, e, hd⟩, ih (fun b hb => hs b (by unfold frs; rw [List.filterMap_cons, hf]; exact List.mem_cons_of_mem _ hb)) hr⟩
  exact all X.outer (fun _ hb => hb) I.ok.funs

/-- the frames that run, for a call -/
theorem Inv.stack (I : Inv X pins σ H s) : s.heap.FunFrames X.base X.stack := by
  rcases I.ok.stk with e | ⟨e, hf⟩
  · rw [e]; exact I.funs
  · rw [e]
    obtain ⟨m, hn, _⟩ := I.loc
    refine .cons (by rw [I.ok.kind]; decide) hf hn ?_ I.funs
    exact Heap.get?_none_of_le (Nat.le_trans I.ok.bsz I.ok.above)
theorem Inv.stkSub (I : Inv X pins σ H s) : ∀ b ∈ frs X.stack, b ∈ X.env.locals :: X.fs := fun b hb => by
  rcases I.ok.stk with e | ⟨e, hf⟩
  · rw [e] at hb; exact List.mem_cons_of_mem _ hb
  · rw [e] at hb
    unfold frs at hb
    rw [List.filterMap_cons, hf] at hb
    exact hb
theorem Inv.stkFree (I : Inv X pins σ H s) : ∀ b ∈ frs X.stack, H b = none := fun b hb => by
  rcases List.mem_cons.mp (I.stkSub b hb) with e | hb
  · rw [e]; exact I.free
  · obtain ⟨_, o, ho, _⟩ := I.ok.funs.mem hb
    exact I.base.free b o ho (I.ok.frf b hb) fun z => I.ok.exfs b z hb

/-- THE STEP: the untracked objects but the frame and the records at ch are kept (the callers' frames up to slots), the frame's map is kept, the new abstract heap is held -/
theorem Inv.step {g' : Array GenState} {t' : Nat} {d' : Drawn} {ch : List Addr} (I : Inv X pins σ H s)
    (hch : ∀ b ∈ ch, (b ∈ X.ex ∨ X.s₀.heap.objs.size ≤ b) ∧ b ≠ X.env.locals ∧ (∀ x c, X.env.cells.lookup x = some c → c ≠ b) ∧ ∀ p ∈ X.pn ++ pins, p.1 ≠ b)
    (keep : ∀ b o, b ≠ X.env.locals → b ∉ X.fs → b ∉ ch → s.heap.get? b = some o → H b = none → h'.get? b = some o)
    (slot : ∀ b o, b ≠ X.env.locals → b ∈ X.fs → b ∉ ch → s.heap.get? b = some o → H b = none → ∃ sl, h'.get? b = some { o with slots := sl }) (free : ∀ b o, b ∉ ch → s.heap.get? b = some o → H b = none → H' b = none)
    (there : ∀ b o, b ∉ ch → s.heap.get? b = some o → ∃ o', h'.get? b = some o')
    (tups : ∀ b xs, H b = some (.tup xs) → H' b = some (.tup xs)) (frzs : ∀ b o u, H b = some (.frz o u) → H' b = some (.frz o u)) (tbls : ∀ b ps, H b = some (.tbl ps) → ∃ more, H' b = some (.tbl (ps ++ more)))
    (ns : ∀ m, s.heap.Ns X.env.locals m → h'.Ns X.env.locals m) (hok : HOk X.prog X.w H' h') (hg : AllBare g') :
    Inv X pins σ H' { s with heap := h', gens := g', drawn := d', toks := t' } := by
  have neL : ∀ b o, X.s₀.heap.get? b = some o → b ≠ X.env.locals := fun b o e => Nat.ne_of_lt (Nat.lt_of_lt_of_le (Heap.lt_size e) I.ok.above)
  have neC : ∀ b o, X.s₀.heap.get? b = some o → b ∉ X.ex → b ∉ ch := fun b o e hx hb => by
    rcases (hch b hb).1 with z | z
    · exact hx z
    · exact absurd (Nat.lt_of_lt_of_le (Heap.lt_size e) z) (Nat.lt_irrefl _)
  have cellK : ∀ x c, X.env.cells.lookup x = some c → ∀ v, s.heap.IsCell c v → h'.IsCell c v := fun x c e v ⟨o, ho, hd⟩ => by
    have nch : c ∉ ch := fun z => (hch c z).2.2.1 x c e rfl
    by_cases hc : c ∈ X.fs
    · obtain ⟨sl, q⟩ := slot c o (I.cne x c e) hc nch ho (I.freeC x c e)
      exact ⟨_, q, hd⟩
    · exact ⟨o, keep c o (I.cne x c e) hc nch ho (I.freeC x c e), hd⟩
  refine ⟨I.ok, I.os, hg, ⟨fun b o e n hb hx => ?_, fun b o e n hb hx => ?_, fun b o e n hx => ?_, fun b o e hx => ?_, fun b xs e => tups b xs (I.base.tups b xs e), fun b o xs e => frzs b o xs (I.base.frzs b o xs e), fun b ps e => ?_⟩, ?_, fun x c e => ?_, ?_, fun x c e => ?_, fun p hp => ?_, hok, I.len⟩
  · exact keep b o (neL b o e) hb (neC b o e hx) (I.base.keep b o e n hb hx) (I.base.free b o e n hx)
  · obtain ⟨sl, e1⟩ := I.base.slot b o e n hb hx
    obtain ⟨sl', e2⟩ := slot b _ (neL b o e) hb (neC b o e hx) e1 (I.base.free b o e n hx)
    exact ⟨sl', e2⟩
  · obtain ⟨o', e1⟩ := I.base.there b o e hx
    exact free b o' (neC b o e hx) e1 (I.base.free b o e n hx)
  · obtain ⟨o', e1⟩ := I.base.there b o e hx
    exact there b o' (neC b o e hx) e1
  · obtain ⟨m1, e1⟩ := I.base.tbls b ps e
    obtain ⟨m2, e2⟩ := tbls b _ e1
    exact ⟨m1 ++ m2, by rw [e2, Array.append_assoc]⟩
  · obtain ⟨m, hn, hl⟩ := I.loc
    refine ⟨m, ns m hn, fun i x v e1 e2 e3 => ?_⟩
    obtain ⟨u, r, l⟩ := hl i x v e1 e2 e3
    refine ⟨u, r, ?_⟩
    rcases l with l | ⟨k, c, e, z⟩
    · exact .inl l
    · exact .inr ⟨k, c, e, cellK x c e _ z⟩
  · obtain ⟨v, z⟩ := I.cell x c e
    exact ⟨v, cellK x c e v z⟩
  · obtain ⟨m, ⟨o, _, _, ho, _⟩, _⟩ := I.loc
    exact free _ o (fun z => (hch _ z).2.1 rfl) ho I.free
  · obtain ⟨v, o, ho, hd⟩ := I.cell x c e
    exact free c o (fun z => (hch c z).2.2.1 x c e rfl) ho (I.freeC x c e)
  · obtain ⟨e, n, ne, nf, d⟩ := I.pin p hp
    have nch : p.1 ∉ ch := fun z => (hch p.1 z).2.2.2 p hp rfl
    exact ⟨keep p.1 p.2 ne nf nch e n, free p.1 p.2 nch e n, ne, nf, d⟩
/-- .. where the frame's own object is kept too -/
theorem Inv.un {t' : Nat} (I : Inv X pins σ H s) (u : Un X.fs [] H H' s.heap h') (hok : HOk X.prog X.w H' h') : Inv X pins σ H' { s with heap := h', toks := t' } := by
  obtain ⟨m, ⟨o, es, ep, ho, r⟩, _⟩ := id I.loc
  obtain ⟨sl, hL⟩ := u.any ho I.free (by simp)
  exact I.step (g' := s.gens) (d' := s.drawn) (ch := []) (fun _ z => nomatch z) (fun b o _ hb _ e n => u.keep b o e n hb (by simp)) (fun b o _ hb _ e n => u.slot b o e n hb (by simp)) (fun b o _ e n => u.free b o e n (by simp)) (fun b o _ e => u.there b o e (by simp)) u.tups u.frzs u.tbls (fun m' hm => by
    obtain ⟨o', es', ep', ho', r'⟩ := hm
    rw [ho] at ho'; cases ho'
    exact ⟨_, es', ep', hL, r'⟩) hok I.bare
/-- behind a call (or a comprehension's block): the slots of this frame may have changed too, the records at ch may have turned -/
theorem Inv.call {g' : Array GenState} {t' : Nat} {d' : Drawn} {ch : List Addr} (I : Inv X pins σ H s) (u : Un (frs X.stack) ch H H' s.heap h') (hok : HOk X.prog X.w H' h') (hg : AllBare g')
    (hch : ∀ b ∈ ch, (b ∈ X.ex ∨ X.s₀.heap.objs.size ≤ b) ∧ b ≠ X.env.locals ∧ (∀ x c, X.env.cells.lookup x = some c → c ≠ b) ∧ ∀ p ∈ X.pn ++ pins, p.1 ≠ b) :
    Inv X pins σ H' { s with heap := h', gens := g', drawn := d', toks := t' } := by
  obtain ⟨m, ⟨o, es, ep, ho, r⟩, _⟩ := id I.loc
  obtain ⟨sl, hL⟩ := u.any ho I.free fun z => (hch _ z).2.1 rfl
  exact I.step (ch := ch) hch (fun b o hL hb hc e n => u.keep b o e n (fun z => (List.mem_cons.mp (I.stkSub b z)).elim hL hb) hc) (fun b o _ _ hc e n => u.any e n hc) (fun b o hc e n => u.free b o e n hc) (fun b o hc e => u.there b o e hc) u.tups u.frzs u.tbls (fun m' hm => by
    obtain ⟨o', es', ep', ho', r'⟩ := hm
    rw [ho] at ho'; cases ho'
    exact ⟨_, es', ep', hL, r'⟩) hok hg
/-- an untracked record of ours (an iterator) has turned -/
theorem Inv.turned {t' : Nat} {it : Addr} (I : Inv X pins σ H s) (k : ∀ b o, b ≠ it → s.heap.get? b = some o → h'.get? b = some o) (hn : H it = none) (hL : it ≠ X.env.locals)
    (h1 : it ∈ X.ex ∨ X.s₀.heap.objs.size ≤ it) (h2 : ∀ x c, X.env.cells.lookup x = some c → c ≠ it) (h3 : ∀ p ∈ X.pn ++ pins, p.1 ≠ it) : Inv X pins σ H { s with heap := h', toks := t' } := by
  have nit : ∀ b u, H b = some u → b ≠ it := fun b u e z => by rw [z, hn] at e; cases e
  refine I.step (g' := s.gens) (d' := s.drawn) (ch := [it]) (fun b hb => ?_) (fun b o _ _ hc e _ => k b o (fun z => hc (by simp [z])) e) (fun b o _ _ hc e _ => ⟨o.slots, k b o (fun z => hc (by simp [z])) e⟩) (fun _ _ _ _ n => n)
    (fun b o hc e => ⟨o, k b o (fun z => hc (by simp [z])) e⟩) (fun _ _ e => e) (fun _ _ _ e => e) (fun b ps e => ⟨#[], by rw [e]; simp⟩) (fun m hm => ?_) (fun b u e => ?_) I.bare
  · have e : b = it := by simpa using hb
    subst e
    exact ⟨h1, hL, h2, h3⟩
  · obtain ⟨o, es, ep, ho, r⟩ := hm
    exact ⟨o, es, ep, k _ o (Ne.symm hL) ho, r⟩
  · refine (I.hok b u e).stay (fun c v hc q => k c v ?_ q) (fun _ q => q) fun _ _ q => q
    rcases hc with z | z
    · rw [z]; exact nit b u e
    · exact nit c _ z
theorem Inv.tok (I : Inv X pins σ H s) (t : Nat) : Inv X pins σ H { s with toks := t } := I.un (h' := s.heap) (t' := t) Un.refl I.hok
/-- all objects kept -/
theorem Inv.kept {t' : Nat} (I : Inv X pins σ H s) (k : ∀ b u, s.heap.get? b = some u → h'.get? b = some u) : Inv X pins σ H { s with heap := h', toks := t' } := I.un (Un.kept k) (I.hok.kept k)
/-- a new object laid and tracked -/
theorem Inv.laid {a : Addr} {o : HO} {t' : Nat} (I : Inv X pins σ H s) (k : ∀ b u, s.heap.get? b = some u → h'.get? b = some u) (hp : s.heap.objs.size ≤ a) (new : ObjOk X.prog X.w (upd H a o) h' a o) :
    Inv X pins σ (upd H a o) { s with heap := h', toks := t' } := I.un (Un.laid k hp (I.hok.fresh hp)) (I.hok.laid k hp new)
/-- an object written -/
theorem Inv.write {x e : Addr} {o : HO} {t' : Nat} (I : Inv X pins σ H s) (mu : Mut (H x)) (he : e = x ∨ H e = some (.own x)) (k : ∀ b u, b ≠ e → s.heap.get? b = some u → h'.get? b = some u) (heo : ∃ u, h'.get? e = some u)
    (new : ObjOk X.prog X.w (upd H x o) h' x o) : Inv X pins σ (upd H x o) { s with heap := h', toks := t' } := I.un (Un.write mu he k heo) (I.hok.write mu he k heo new)
theorem Inv.pins_of {pins' : List (Addr × Obj)} (I : Inv X pins σ H s) (h : ∀ p ∈ pins', s.heap.get? p.1 = some p.2 ∧ H p.1 = none ∧ p.1 ≠ X.env.locals ∧ p.1 ∉ X.fs ∧ ∀ v, p.2.data ≠ .cell v) : Inv X pins' σ H s :=
  ⟨I.ok, I.os, I.bare, I.base, I.loc, I.cell, I.free, I.freeC, fun p hp => (List.mem_append.mp hp).elim (fun z => I.pin p (List.mem_append_left _ z)) (h p), I.hok, I.len⟩

theorem nodup_ix {N : List Str} (hN : N.Nodup) {i j : Nat} {x : Str} (a : N[i]? = some x) (b : N[j]? = some x) : i = j := by
  obtain ⟨h1, e1⟩ := List.getElem?_eq_some_iff.mp a
  obtain ⟨h2, e2⟩ := List.getElem?_eq_some_iff.mp b
  exact (List.getElem_inj hN).mp (e1.trans e2.symm)

/-- a name is stored; what changed -/
theorem store_ok2 {M : Model} {A : Around} {E : Value → Shared → Prop} {i : Nat} {x : Str} {v : V} {u : Value} {Q : Unit → Shared → Prop} (I : Inv X pins σ H s) (hN : X.N.Nodup) (hi : X.N[i]? = some x) (hx : Loc X.env.scope x) (r : RelV v u)
    (h : ∀ s', Inv X pins (σ.set i (some v)) H s' → (∃ a, Heap.SameBut a s.heap s'.heap ∧ (a = X.env.locals ∨ X.env.cells.lookup x = some a)) → Q () s') (hf : X.fn x = true ∨ X.env.scope.names.lookup x = some .local := by first | exact .inl rfl | exact .inr rfl | assumption) : wpAny M A (storeName X.env x u) Q E s := by
  obtain ⟨m, hn, hl⟩ := id I.loc
  have hcls : (X.env.scope.kind == .class || (X.env.scope.kind == .module && X.env.locals != X.env.globals)) = false := by rw [I.ok.kind]; rfl
  have hiσ : i < σ.length := by rw [I.len]; exact (List.getElem?_eq_some_iff.mp hi).1
  have cne := I.cne
  have tracked : ∀ {a : Addr} {h' : Heap}, (∃ o, s.heap.get? a = some o ∧ H a = none) → Heap.SameBut a s.heap h' → HOk X.prog X.w H h' := fun {a h'} ha hs b ob e => by
    obtain ⟨_, _, hfree⟩ := ha
    refine (I.hok b ob e).stay (fun c w' hc q => (hs.2 c ?_).trans q) (fun _ q => q) fun _ _ q => q
    rintro rfl
    rcases hc with rfl | hc
    · rw [hfree] at e; cases e
    · rw [hfree] at hc; cases hc
  rcases hx with hk | hk
  · refine wpAny_storeName_local hk hn (fun h' hn' hs => ?_) hcls
    obtain ⟨oL, _, _, hoL, _⟩ := id hn
    refine h _ ⟨I.ok, I.os, I.bare, ⟨fun b o e n hb hx => ?_, fun b o e n hb hx => ?_, I.base.free, fun b o e hx => ?_, I.base.tups, I.base.frzs, I.base.tbls⟩, ⟨_, hn', fun j y v' e1 e2 e3 => ?_⟩, fun y c e => ?_, I.free, I.freeC, fun p hp => ?_, tracked ⟨oL, hoL, I.free⟩ hs, by simpa using I.len⟩ ⟨_, hs, .inl rfl⟩
    · exact (hs.2 b (Nat.ne_of_lt (Nat.lt_of_lt_of_le (Heap.lt_size e) I.ok.above))).trans (I.base.keep b o e n hb hx)
    · obtain ⟨sl, e1⟩ := I.base.slot b o e n hb hx
      exact ⟨sl, (hs.2 b (Nat.ne_of_lt (Nat.lt_of_lt_of_le (Heap.lt_size e) I.ok.above))).trans e1⟩
    · obtain ⟨o', e1⟩ := I.base.there b o e hx
      exact ⟨o', (hs.2 b (Nat.ne_of_lt (Nat.lt_of_lt_of_le (Heap.lt_size e) I.ok.above))).trans e1⟩
    · by_cases hj : j = i
      · subst hj
        rw [hi] at e1; cases e1
        rw [List.getElem?_set_self hiσ] at e2
        cases e2
        exact ⟨u, r, .inl ⟨hk, by simp⟩⟩
      · rw [List.getElem?_set_ne (Ne.symm hj)] at e2
        obtain ⟨u', r', q⟩ := hl j y v' e1 e2 e3
        refine ⟨u', r', ?_⟩
        rcases q with ⟨k, e⟩ | ⟨k, c, e, z⟩
        · refine .inl ⟨k, ?_⟩
          have : y ≠ x := fun e => hj (nodup_ix hN e1 (e ▸ hi))
          simp [this, e]
        · exact .inr ⟨k, c, e, z.sameBut hs (cne y c e)⟩
    · obtain ⟨w', z⟩ := I.cell y c e
      exact ⟨w', z.sameBut hs (cne y c e)⟩
    · obtain ⟨e, n, ne, nf, d⟩ := I.pin p hp
      exact ⟨(hs.2 p.1 ne).trans e, n, ne, nf, d⟩
  · have hfn : X.fn x = true := by
      rcases hf with z | z
      · exact z
      · rw [z] at hk; cases hk
    obtain ⟨c, hc⟩ := I.ok.has x (.inl hk)
    obtain ⟨w', z⟩ := I.cell x c hc
    refine wpAny_storeName_cell I.ok.kind hk hc z (fun h' hc' hs => ?_)
    obtain ⟨oc, hoc, hocd⟩ := id z
    refine h { s with heap := h' } ⟨I.ok, I.os, I.bare, ⟨fun b o e n hb hx => ?_, fun b o e n hb hx => ?_, I.base.free, fun b o e hx => ?_, I.base.tups, I.base.frzs, I.base.tbls⟩, ⟨m, hn.sameBut hs (Ne.symm (cne x c hc)), fun j y v' e1 e2 e3 => ?_⟩, fun y c' e => ?_, I.free, I.freeC, fun p hp => ?_, tracked ⟨oc, hoc, I.freeC x c hc⟩ hs, by simpa using I.len⟩ ⟨c, hs, .inr hc⟩
    · exact (hs.2 b (Nat.ne_of_lt (Nat.lt_of_lt_of_le (Heap.lt_size e) (I.ok.cab x c hfn hc)))).trans (I.base.keep b o e n hb hx)
    · obtain ⟨sl, e1⟩ := I.base.slot b o e n hb hx
      exact ⟨sl, (hs.2 b (Nat.ne_of_lt (Nat.lt_of_lt_of_le (Heap.lt_size e) (I.ok.cab x c hfn hc)))).trans e1⟩
    · obtain ⟨o', e1⟩ := I.base.there b o e hx
      exact ⟨o', (hs.2 b (Nat.ne_of_lt (Nat.lt_of_lt_of_le (Heap.lt_size e) (I.ok.cab x c hfn hc)))).trans e1⟩
    · by_cases hj : j = i
      · subst hj
        rw [hi] at e1; cases e1
        rw [List.getElem?_set_self hiσ] at e2
        cases e2
        exact ⟨u, r, .inr ⟨.inl hk, c, hc, hc'⟩⟩
      · rw [List.getElem?_set_ne (Ne.symm hj)] at e2
        obtain ⟨u', r', q⟩ := hl j y v' e1 e2 e3
        refine ⟨u', r', ?_⟩
        rcases q with q | ⟨k, c', e, z'⟩
        · exact .inl q
        · refine .inr ⟨k, c', e, z'.sameBut hs ?_⟩
          rintro rfl
          exact hj (nodup_ix hN e1 (I.ok.inj _ _ _ e hc ▸ hi))
    · by_cases hcc : c' = c
      · subst hcc; exact ⟨_, hc'⟩
      · obtain ⟨w2, z2⟩ := I.cell y c' e
        exact ⟨w2, z2.sameBut hs hcc⟩
    · obtain ⟨e, n, ne, nf, d⟩ := I.pin p hp
      refine ⟨(hs.2 p.1 ?_).trans e, n, ne, nf, d⟩
      intro q
      rw [q, hoc] at e
      have q' : oc = p.2 := Option.some.inj e
      exact d w' (by rw [← q']; exact hocd)
theorem store_ok {M : Model} {A : Around} {E : Value → Shared → Prop} {i : Nat} {x : Str} {v : V} {u : Value} {Q : Unit → Shared → Prop} (I : Inv X pins σ H s) (hN : X.N.Nodup) (hi : X.N[i]? = some x) (hx : Loc X.env.scope x) (r : RelV v u)
    (h : ∀ s', Inv X pins (σ.set i (some v)) H s' → Q () s') (hf : X.fn x = true ∨ X.env.scope.names.lookup x = some .local := by first | exact .inl rfl | exact .inr rfl | assumption) : wpAny M A (storeName X.env x u) Q E s :=
  store_ok2 I hN hi hx r (fun s' I' _ => h s' I') hf
/-- behind a call or a block, the state as it is -/
theorem Inv.call' {s' : Shared} {ch : List Addr} (I : Inv X pins σ H s) (ho : s'.os = s.os) (u : Un (frs X.stack) ch H H' s.heap s'.heap) (hok : HOk X.prog X.w H' s'.heap) (hg : AllBare s'.gens)
    (hch : ∀ b ∈ ch, (b ∈ X.ex ∨ X.s₀.heap.objs.size ≤ b) ∧ b ≠ X.env.locals ∧ (∀ x c, X.env.cells.lookup x = some c → c ≠ b) ∧ ∀ p ∈ X.pn ++ pins, p.1 ≠ b) : Inv X pins σ H' s' := by
  obtain ⟨h', g', d', t', o'⟩ := s'
  have e : o' = s.os := ho
  subst e
  exact I.call (g' := g') (t' := t') (d' := d') u hok hg hch
end

/-! ### the judgements -/
/-- an exception: its class, its own dict's address (where it has one), the abstract heap behind it -/
noncomputable abbrev XK := Value → Option Addr → Hp → Prop
noncomputable abbrev St := List (Option V)
noncomputable abbrev VK := V → Hp → Prop
/-- an expression's reading; a test's; an argument list's -/
noncomputable abbrev TE := St → Hp → VK → Prop
noncomputable abbrev TT := St → Hp → (Bool → Hp → Prop) → Prop
noncomputable abbrev TA := St → Hp → (List V → Hp → Prop) → Prop
/-- what is wanted behind a statement -/
structure Ends where
  nx : St → Hp → Prop
  rt : VK
  bk : St → Hp → Prop := fun _ _ => False
  ct : St → Hp → Prop := fun _ _ => False
noncomputable abbrev TS := Ends → St → Hp → Prop

noncomputable def EP (X : Cx) (pins : List (Addr × Obj)) (σ : St) (Q : VK) (u : Value) (s' : Shared) : Prop := ∃ v H', Inv X pins σ H' s' ∧ RelV v u ∧ Q v H'
noncomputable def TP (X : Cx) (pins : List (Addr × Obj)) (σ : St) (Q : Bool → Hp → Prop) (b : Bool) (s' : Shared) : Prop := ∃ H', Inv X pins σ H' s' ∧ Q b H'
noncomputable def AP (X : Cx) (pins : List (Addr × Obj)) (σ : St) (Q : List V → Hp → Prop) (us : List Value) (s' : Shared) : Prop := ∃ vs H', Inv X pins σ H' s' ∧ Vals vs us ∧ Q vs H'
noncomputable def SP (X : Cx) (pins : List (Addr × Obj)) (D : Ends) (f : Flow) (s' : Shared) : Prop :=
  match f with
  | .next => ∃ σ' H', Inv X pins σ' H' s' ∧ D.nx σ' H'
  | .brk => ∃ σ' H', Inv X pins σ' H' s' ∧ D.bk σ' H'
  | .cont => ∃ σ' H', Inv X pins σ' H' s' ∧ D.ct σ' H'
  | .ret u => ∃ v σ' H', Inv X pins σ' H' s' ∧ RelV v u ∧ D.rt v H'

noncomputable def PE (X : Cx) (e : Expr) (t : TE) : Prop :=
  ∀ (pins : List (Addr × Obj)) (s : Shared) (σ : St) (H : Hp) (Q : VK), Inv X pins σ H s → t σ H Q → wpAny (model X.prog X.w) X.A (eval e X.env) (EP X pins σ Q) X.xe s
noncomputable def PT (X : Cx) (e : Expr) (t : TT) : Prop :=
  ∀ (pins : List (Addr × Obj)) (s : Shared) (σ : St) (H : Hp) (Q : Bool → Hp → Prop), Inv X pins σ H s → t σ H Q → wpAny (model X.prog X.w) X.A (isTrue e X.env (eval e X.env)) (TP X pins σ Q) X.xe s
/-- a test whatever its 'whole' is (and, or) -/
noncomputable def PW (X : Cx) (e : Expr) (t : TT) : Prop :=
  ∀ (whole : Sem Value) (pins : List (Addr × Obj)) (s : Shared) (σ : St) (H : Hp) (Q : Bool → Hp → Prop), Inv X pins σ H s → t σ H Q → wpAny (model X.prog X.w) X.A (isTrue e X.env whole) (TP X pins σ Q) X.xe s
theorem PW.pt {X : Cx} {e : Expr} {t : TT} (h : PW X e t) : PT X e t := h _
/-- an argument list (no star), from the left -/
noncomputable def PA (X : Cx) (es : List Expr) (t : TA) : Prop :=
  ∀ (pos : Pos) (pins : List (Addr × Obj)) (s : Shared) (σ : St) (H : Hp) (Q : List V → Hp → Prop), Inv X pins σ H s → t σ H Q → wpAny (model X.prog X.w) X.A (spliced (backTo pos (starEach es X.env))) (AP X pins σ Q) X.xe s
noncomputable def PS (X : Cx) (st : Stmt) (t : TS) : Prop :=
  ∀ (pins : List (Addr × Obj)) (s : Shared) (σ : St) (H : Hp) (D : Ends), Inv X pins σ H s → t D σ H → wpAny (model X.prog X.w) X.A (exec st X.env) (SP X pins D) X.xe s
noncomputable def PSs (X : Cx) (st : List Stmt) (t : TS) : Prop :=
  ∀ (pins : List (Addr × Obj)) (s : Shared) (σ : St) (H : Hp) (D : Ends), Inv X pins σ H s → t D σ H → wpAny (model X.prog X.w) X.A (execs st X.env) (SP X pins D) X.xe s
/-- weaken the end -/
theorem thn {α : Type} {t : Sem α} {Q Q' : α → Shared → Prop} {M : Model} {A : Around} {E : Value → Shared → Prop} {s : Shared} (h : wpAny M A t Q E s) (hQ : ∀ a s, Q a s → Q' a s) : wpAny M A t Q' E s := wpAny_mono h hQ fun _ _ x => x
end L2

namespace L2
open PySem PySem.Spec PyProof.Rows
section
variable {X : Cx}

/-! ### names and constants -/
noncomputable def tVar (i : Nat) : TE := fun σ H Q => ∃ v, σ[i]? = some (some v) ∧ Q v H
noncomputable def tC (v : V) : TE := fun _ H Q => Q v H
theorem pe_var {i : Nat} {x : Str} {pos : Pos} (hN : X.N[i]? = some x) (hv : Vis X.env.scope x) (hd : (x == ("__debug__" : Str)) = false := by decide) (hcd : (x == ("__classdict__" : Str)) = false := by decide) : PE X (.Name x pos) (tVar i) := by
  intro pins s σ H Q I h
  obtain ⟨v, e, h⟩ := h
  obtain ⟨m, hn, hl⟩ := I.loc
  obtain ⟨u, r, l⟩ := hl i x v hN e hv
  have fin : EP X pins σ Q u s := ⟨v, H, I, r, h⟩
  rcases l with ⟨hk, hm⟩ | ⟨hk, c, hc, hcell⟩
  · exact wpAny_Name (wpAny_loadName_local I.ok.kind hk hn hm fin) hd
  · rcases hk with hk | hk
    · exact wpAny_Name (wpAny_loadName_cell I.ok.kind hk hc hcell fin) hd
    · exact wpAny_Name (wpAny_loadName_free I.ok.kind hk hc hcell fin hcd) hd
theorem pe_int {i j pos} : PE X (.Constant (.int i) j pos) (tC (.int i)) := fun _ _ _ H _ I h => wpAny_Constant_int ⟨.int i, H, I.tok _, ⟨_, rfl⟩, h⟩
theorem pe_bl {b j pos} : PE X (.Constant (.bool b) j pos) (tC (.bl b)) := fun _ _ _ H _ I h => Constant_bool ⟨.bl b, H, I, rfl, h⟩
theorem pe_non {j pos} : PE X (.Constant .none j pos) (tC .non) := fun _ _ _ H _ I h => Constant_none ⟨.non, H, I, rfl, h⟩
theorem pe_str {x j pos} : PE X (.Constant (.str x) j pos) (tC (.str x)) := fun _ _ _ H _ I h => Calls.Constant_str ⟨.str x, H, I.tok _, ⟨_, rfl⟩, h⟩

/-- a global name of the def -/
noncomputable def Gl (X : Cx) (x : Str) : Prop := X.env.kindOf x = some .globalImplicit
theorem ld_glob {E : Value → Shared → Prop} {pins : List (Addr × Obj)} {s : Shared} {σ : St} {H : Hp} {x : Str} {u : Value} {pos : Pos} {Q : Value → Shared → Prop} (I : Inv X pins σ H s) (hg : Gl X x) (hm : X.mg x = some u) (h : Q u s)
    (hd : (x == ("__debug__" : Str)) = false := by decide) : wpAny (model X.prog X.w) X.A (eval (.Name x pos) X.env) Q E s :=
  Calls.Name_function_global I.ok.kind hg (Calls.loadGlobal_global (by rw [I.ok.glob]; exact I.mod.glob.keeps I.bk) hm h) hd
theorem ld_blt {E : Value → Shared → Prop} {pins : List (Addr × Obj)} {s : Shared} {σ : St} {H : Hp} {x : Str} {u : Value} {pos : Pos} {Q : Value → Shared → Prop} (I : Inv X pins σ H s) (hg : Gl X x) (hm : X.mg x = none) (hv : bootBuiltins x = some u) (h : Q u s)
    (hn : x ≠ "__name__" := by decide) (hd : (x == ("__debug__" : Str)) = false := by decide) : wpAny (model X.prog X.w) X.A (eval (.Name x pos) X.env) Q E s := by
  obtain ⟨mb, h1, h2⟩ := I.mod.blt
  exact Calls.Name_function_global I.ok.kind hg (Calls.loadGlobal_builtin (by rw [I.ok.glob]; exact I.mod.glob.keeps I.bk) hm (by rw [I.ok.blt]; exact h1.keeps I.bk) ((h2 x hn).trans hv) h) hd
/-- a module's constant, a class, a function, as a value -/
theorem pe_glob {x : Str} {v : V} {u : Value} {pos : Pos} (hg : Gl X x) (hm : X.mg x = some u) (r : RelV v u) (hd : (x == ("__debug__" : Str)) = false := by decide) : PE X (.Name x pos) (tC v) :=
  fun _ _ _ H _ I h => ld_glob I hg hm ⟨v, H, I, r, h⟩ hd
theorem pe_bltn {x : Str} {v : V} {u : Value} {pos : Pos} (hg : Gl X x) (hm : X.mg x = none) (hv : bootBuiltins x = some u) (r : RelV v u) (hn : x ≠ "__name__" := by decide) (hd : (x == ("__debug__" : Str)) = false := by decide) : PE X (.Name x pos) (tC v) :=
  fun _ _ _ H _ I h => ld_blt I hg hm hv ⟨v, H, I, r, h⟩ hn hd

/-! ### arithmetic -/
variable {a b : Expr} {ta tb : TE} {pos : Pos}

/-! ### comparisons -/
/-- a comparison as a value, as a test -/
noncomputable def tB (t : TE) : TT := fun σ H Q => t σ H fun x H1 => ∃ c, x = .bl c ∧ Q c H1
/-- an expression whose value is a bool, as a test -/
theorem pt_val {e : Expr} {t : TE} (h : PE X e t) (he : ∀ whole, isTrue e X.env whole = (do let v ← whole; standAt e.pos; holding [v] (truthy v)) := by intro _; rfl) : PT X e (tB t) := by
  intro pins s σ H Q I hw
  refine isTrue_plain (thn (h pins s σ H _ I hw) fun v s1 ⟨x, H1, I1, r1, q1⟩ => ?_) (he _)
  obtain ⟨d, rfl, q⟩ := q1
  cases r1
  exact wpAny_truthy_bool ⟨H1, I1, q⟩

/-! ### and, or, not -/
variable {tA tB' : TT} {rest : List Expr}
noncomputable def tAnd (t u : TT) : TT := fun σ H Q => t σ H fun c H1 => if c = true then u σ H1 Q else Q false H1
noncomputable def tOr (t u : TT) : TT := fun σ H Q => t σ H fun c H1 => if c = true then Q true H1 else u σ H1 Q
noncomputable def tNot (t : TT) : TT := fun σ H Q => t σ H fun c H1 => Q (!c) H1
theorem pw_and1 (ha : PT X a tA) : PW X (.BoolOp .And [a] pos) tA := by
  intro wh pins s σ H Q I h
  refine isTrue_and (thn (ha pins s σ H Q I h) fun c s1 e => ?_)
  cases c with
  | true => exact isTrue_and_nil e
  | false => exact e
theorem pw_or1 (ha : PT X a tA) : PW X (.BoolOp .Or [a] pos) tA := by
  intro wh pins s σ H Q I h
  refine isTrue_or (thn (ha pins s σ H Q I h) fun c s1 e => ?_)
  cases c with
  | false => exact isTrue_or_nil e
  | true => exact e
theorem pw_and (ha : PT X a tA) (hb : PW X (.BoolOp .And (b :: rest) pos) tB') : PW X (.BoolOp .And (a :: b :: rest) pos) (tAnd tA tB') := by
  intro wh pins s σ H Q I h
  refine isTrue_and (thn (ha pins s σ H _ I h) fun c s1 ⟨H1, I1, q1⟩ => ?_)
  cases c with
  | true => exact hb wh pins s1 σ H1 Q I1 q1
  | false => exact ⟨H1, I1, q1⟩
theorem pw_or (ha : PT X a tA) (hb : PW X (.BoolOp .Or (b :: rest) pos) tB') : PW X (.BoolOp .Or (a :: b :: rest) pos) (tOr tA tB') := by
  intro wh pins s σ H Q I h
  refine isTrue_or (thn (ha pins s σ H _ I h) fun c s1 ⟨H1, I1, q1⟩ => ?_)
  cases c with
  | true => exact ⟨H1, I1, q1⟩
  | false => exact hb wh pins s1 σ H1 Q I1 q1
theorem pt_not (ha : PT X a tA) : PT X (.UnaryOp .Not a pos) (tNot tA) := by
  intro pins s σ H Q I h
  exact isTrue_not (ha pins s σ H (fun c H1 => Q (!c) H1) I h)
/-- .. as values (bools) -/
noncomputable def tAndV (ta tb : TE) : TE := fun σ H Q => ta σ H fun x H1 => ∃ c, x = .bl c ∧ if c = true then tb σ H1 Q else Q (.bl false) H1
noncomputable def tNotV (ta : TE) : TE := fun σ H Q => ta σ H fun x H1 => ∃ c, x = .bl c ∧ Q (.bl (!c)) H1
theorem pe_one {op} {t : TE} (h : PE X a t) : PE X (.BoolOp op [a] pos) t := fun pins s σ H Q I hw => BoolOp_one (h pins s σ H Q I hw)
theorem pe_and (ha : PE X a ta) (hb : PE X (.BoolOp .And (b :: rest) pos) tb) : PE X (.BoolOp .And (a :: b :: rest) pos) (tAndV ta tb) := by
  intro pins s σ H Q I h
  refine BoolOp_and (thn (ha pins s σ H _ I h) fun v s1 ⟨x, H1, I1, r1, q1⟩ => ?_)
  obtain ⟨c, rfl, q1⟩ := q1
  cases r1
  refine wpAny_truthy_bool ?_
  cases c with
  | true => exact hb pins s1 σ H1 Q I1 q1
  | false => exact ⟨.bl false, H1, I1, rfl, q1⟩
theorem pe_not (ha : PE X a ta) : PE X (.UnaryOp .Not a pos) (tNotV ta) := by
  intro pins s σ H Q I h
  refine UnaryOp_ (thn (ha pins s σ H _ I h) fun v s1 ⟨x, H1, I1, r1, q1⟩ => ?_)
  obtain ⟨c, rfl, q1⟩ := q1
  cases r1
  exact not_of (wpAny_truthy_bool ⟨.bl (!c), H1, I1, rfl, q1⟩)
end
end L2

namespace L2
open PySem PySem.Spec PyProof.Rows

/-! ### a list, a tuple that is read: tracked, frozen, or an object of the module -/
noncomputable def SqL (K : PySem.W.Frag) (H : Hp) (a : Addr) (xs : List V) : Prop :=
  Rd H a (.lst xs) ∨
    ∃ (o : Obj) (its : Array Value) (n : Nat), K.lookup a = some o ∧ o.cls = .type "list" ∧ o.dict = none ∧ o.data = .seq its n ∧ its.size ≤ sizeLine ∧ Vals xs its.toList
noncomputable def SqT (K : PySem.W.Frag) (H : Hp) (a : Addr) (xs : List V) : Prop :=
  Rd H a (.tup xs) ∨
    ∃ (o : Obj) (its : Array Value) (n : Nat), K.lookup a = some o ∧ o.cls = .type "tuple" ∧ o.data = .seq its n ∧ its.size ≤ sizeLine ∧ Vals xs its.toList
noncomputable def absV : Value → Option V
  | .none => some .non
  | .bool b => some (.bl b)
  | .int i _ => some (.int i)
  | .str x _ => some (.str x)
  | .bytes b _ => some (.byt b)
  | .float b _ => some (.flt b)
  | .ref a => some (.ref a)
  | .type n => some (.ty n)
  | _ => none
theorem RelV.abs {x : V} {u : Value} (r : RelV x u) : absV u = some x := by
  cases x with
  | non => cases r; rfl
  | bl _ => cases r; rfl
  | int _ => obtain ⟨t, rfl⟩ := r; rfl
  | str _ => obtain ⟨t, rfl⟩ := r; rfl
  | byt _ => obtain ⟨t, rfl⟩ := r; rfl
  | flt _ => obtain ⟨t, rfl⟩ := r; rfl
  | ref _ => cases r; rfl
  | ty _ => cases r; rfl
theorem RelV.inj {x y : V} {u : Value} (r : RelV x u) (q : RelV y u) : x = y := Option.some.inj (r.abs.symm.trans q.abs)
theorem Vals.inj : ∀ {xs ys : List V} {us : List Value}, Vals xs us → Vals ys us → xs = ys
  | _, _, _, .nil, .nil => rfl
  | _, _, _, .cons r t, .cons r' t' => by rw [r.inj r', Vals.inj t t']
section
variable {X : Cx} {pins : List (Addr × Obj)} {σ : St} {H : Hp} {s : Shared} {a : Addr} {xs ys : List V}
theorem SqL.of {K : PySem.W.Frag} (h : H a = some (.lst xs)) : SqL K H a xs := .inl (.inl h)
theorem SqT.of {K : PySem.W.Frag} (h : H a = some (.tup xs)) : SqT K H a xs := .inl (.inl h)
theorem Inv.list (I : Inv X pins σ H s) (h : SqL X.K H a xs) : ∃ its : List Value, Vals xs its ∧ PlainL s.heap a its.toArray ∧ xs.length ≤ sizeLine := by
  rcases h with h | ⟨o, its, n, hk, hc, hd, hs, hz, r⟩
  · obtain ⟨z, its, n, r, e⟩ := h.ok I.hok
    exact ⟨its, r, ⟨_, n, e, rfl, rfl, rfl⟩, z⟩
  · refine ⟨its.toList, r, ⟨o, n, I.kIn a o hk, hc, hd, by simpa using hs⟩, ?_⟩
    have e := r.length
    simp only [Array.length_toList] at e
    omega
theorem Inv.tuple (I : Inv X pins σ H s) (h : SqT X.K H a xs) : ∃ its : List Value, Vals xs its ∧ IsTup s.heap a its.toArray ∧ xs.length ≤ sizeLine := by
  rcases h with h | ⟨o, its, n, hk, hc, hs, hz, r⟩
  · obtain ⟨z, its, r, p⟩ := h.ok I.hok
    exact ⟨its, r, p, z⟩
  · refine ⟨its.toList, r, ⟨o, I.kIn a o hk, hc, n, by simpa using hs⟩, ?_⟩
    have e := r.length
    simp only [Array.length_toList] at e
    omega
theorem Inv.list_inj (I : Inv X pins σ H s) (h : SqL X.K H a xs) (h' : SqL X.K H a ys) : xs = ys := by
  obtain ⟨its, r, ⟨o, n, e, _, _, d⟩, _⟩ := I.list h
  obtain ⟨its', r', ⟨o', n', e', _, _, d'⟩, _⟩ := I.list h'
  rw [e] at e'; cases e'
  rw [d] at d'
  injection d' with d1 _
  have : its = its' := by simpa using congrArg Array.toList d1
  subst this
  exact r.inj r'
end

/-! ### another wish about exceptions -/
noncomputable abbrev Cx.wish (X : Cx) (E : Value → Shared → Prop) : Cx := { X with xe := E }
/-- no exception leaves -/
noncomputable abbrev Cx.nox (X : Cx) : Cx := X.wish fun _ _ => False
theorem Cx.Ok.wish {X : Cx} (ok : X.Ok) (E : Value → Shared → Prop) : (X.wish E).Ok :=
  ⟨ok.mod, ok.kind, ok.glob, ok.blt, ok.above, ok.inj, ok.has, ok.cab, ok.hd, ok.frames, ok.stk, ok.exf, ok.bs, ok.bsz, ok.noex, ok.exfs, ok.funs, ok.frf⟩
theorem Cx.Ok.unwish {X : Cx} {E : Value → Shared → Prop} (ok : (X.wish E).Ok) : X.Ok :=
  ⟨ok.mod, ok.kind, ok.glob, ok.blt, ok.above, ok.inj, ok.has, ok.cab, ok.hd, ok.frames, ok.stk, ok.exf, ok.bs, ok.bsz, ok.noex, ok.exfs, ok.funs, ok.frf⟩
section
variable {X : Cx} {pins : List (Addr × Obj)} {σ : St} {H : Hp} {s : Shared} {E : Value → Shared → Prop}
theorem Inv.wish (I : Inv X pins σ H s) (E : Value → Shared → Prop) : Inv (X.wish E) pins σ H s := ⟨I.ok.wish E, I.os, I.bare, I.base, I.loc, I.cell, I.free, I.freeC, I.pin, I.hok, I.len⟩
theorem Inv.unwish (I : Inv (X.wish E) pins σ H s) : Inv X pins σ H s := ⟨I.ok.unwish, I.os, I.bare, I.base, I.loc, I.cell, I.free, I.freeC, I.pin, I.hok, I.len⟩
theorem SP.unwish {D : Ends} {f : Flow} {s' : Shared} (h : SP (X.wish E) pins D f s') : SP X pins D f s' := by
  cases f with
  | next => obtain ⟨σ', H', I, q⟩ := h; exact ⟨σ', H', I.unwish, q⟩
  | brk => obtain ⟨σ', H', I, q⟩ := h; exact ⟨σ', H', I.unwish, q⟩
  | cont => obtain ⟨σ', H', I, q⟩ := h; exact ⟨σ', H', I.unwish, q⟩
  | ret u => obtain ⟨v, σ', H', I, r, q⟩ := h; exact ⟨v, σ', H', I.unwish, r, q⟩
theorem PSs.nox {st : List Stmt} {t : TS} (h : PSs X.nox st t) : PSs X st t := fun pins s σ H D I hw =>
  wpAny_mono (h pins s σ H D (I.wish _) hw) (fun _ _ q => q.unwish) fun _ _ z => False.elim z
end

/-! ### blocks and small statements -/
section
variable {X : Cx} {st : Stmt} {rest : List Stmt} {t u : TS} {e : Expr} {te : TE} {pos : Pos}
noncomputable def tNext : TS := fun D σ H => D.nx σ H
noncomputable def tSeq (t u : TS) : TS := fun D σ H => t { D with nx := u D } σ H
theorem pss_nil : PSs X [] tNext := fun _ _ σ H _ I h => wpAny_execs_nil ⟨σ, H, I, h⟩
theorem pss_cons (h1 : PS X st t) (h2 : PSs X rest u) : PSs X (st :: rest) (tSeq t u) := by
  intro pins s σ H D I h
  refine wpAny_execs_cons (thn (h1 pins s σ H { D with nx := u D } I h) fun f s1 q => ?_)
  cases f with
  | next =>
    obtain ⟨σ', H', I', q⟩ := q
    exact h2 pins s1 σ' H' D I' q
  | ret v => exact q
  | brk => exact q
  | cont => exact q
theorem pss_one (h1 : PS X st t) : PSs X [st] t := by
  intro pins s σ H D I h
  refine wpAny_execs_cons (thn (h1 pins s σ H D I h) fun f s1 q => ?_)
  cases f with
  | next => exact wpAny_execs_nil q
  | ret v => exact q
  | brk => exact q
  | cont => exact q
/-- in a def's body nothing is shown -/
theorem Inv.quiet {pins : List (Addr × Obj)} {σ : St} {H : Hp} {s : Shared} (I : Inv X pins σ H s) : interactive X.env = false := by simp [interactive, I.ok.kind]
/-- an expression whose value is dropped -/
noncomputable def tDrop (te : TE) : TS := fun D σ H => te σ H fun _ H1 => D.nx σ H1
theorem ps_expr (he : PE X e te) (hs : swapsWith e none pos.line X.env = pure false := by rfl) : PS X (.Expr e pos) (tDrop te) := by
  intro pins s σ H D I h
  exact wpAny_Expr_any (thn (he pins s σ H _ I h) fun v s1 ⟨x, H1, I1, r1, q1⟩ => ⟨σ, H1, I1, q1⟩) I.quiet hs
noncomputable def tRet (te : TE) : TS := fun D σ H => te σ H D.rt
theorem ps_ret (he : PE X e te) : PS X (.Return (some e) pos) (tRet te) := by
  intro pins s σ H D I h
  exact wpAny_Return_some (thn (he pins s σ H _ I h) fun v s1 ⟨x, H1, I1, r1, q1⟩ => ⟨x, σ, H1, I1, r1, q1⟩)
noncomputable def tIfS (c : TT) (t u : TS) : TS := fun D σ H => c σ H fun b H1 => if b = true then t D σ H1 else u D σ H1
theorem ps_if {c : Expr} {a b : List Stmt} {tc : TT} (hc : PT X c tc) (ha : PSs X a t) (hb : PSs X b u) : PS X (.If c a b pos) (tIfS tc t u) := by
  intro pins s σ H D I h
  refine wpAny_If (thn (hc pins s σ H _ I h) fun d s1 ⟨H1, I1, q1⟩ => ?_)
  cases d with
  | true => exact ha pins s1 σ H1 D I1 q1
  | false => exact hb pins s1 σ H1 D I1 q1
/-- code that the proof never comes to -/
noncomputable def tNever : TS := fun _ _ _ => False
theorem ps_never : PS X st tNever := fun _ _ _ _ _ _ h => h.elim
theorem pss_never {sts : List Stmt} : PSs X sts tNever := fun _ _ _ _ _ _ h => h.elim
end

/-! ### targets -/
noncomputable abbrev TG := V → St → Hp → (St → Hp → Prop) → Prop
noncomputable abbrev TGs := List V → St → Hp → (St → Hp → Prop) → Prop
noncomputable def PG (X : Cx) (target : Expr) (t : TG) : Prop :=
  ∀ (pins : List (Addr × Obj)) (s : Shared) (σ : St) (H : Hp) (v : V) (u : Value) (Q : St → Hp → Prop), Inv X pins σ H s → RelV v u → t v σ H Q →
    wpAny (model X.prog X.w) X.A (assign target X.env u) (fun _ s' => ∃ σ' H', Inv X pins σ' H' s' ∧ Q σ' H') X.xe s
/-- several targets, one after another -/
noncomputable def PGs (X : Cx) (ts : List Expr) (t : TGs) : Prop :=
  ∀ (pins : List (Addr × Obj)) (s : Shared) (σ : St) (H : Hp) (vs : List V) (us : List Value) (Q : St → Hp → Prop), Inv X pins σ H s → Vals vs us → t vs σ H Q →
    wpAny (model X.prog X.w) X.A (assignInOrder ((assignEach ts X.env).map (·.2)) us) (fun _ s' => ∃ σ' H', Inv X pins σ' H' s' ∧ Q σ' H') X.xe s
section
variable {X : Cx} {pos : Pos}
noncomputable def gName (i : Nat) : TG := fun v σ H Q => Q (σ.set i (some v)) H
theorem pg_name {i : Nat} {x : Str} (hN : X.N.Nodup) (hi : X.N[i]? = some x) (hx : Loc X.env.scope x) (hf : X.fn x = true ∨ X.env.scope.names.lookup x = some .local := by first | exact .inl rfl | exact .inr rfl | assumption) : PG X (.Name x pos) (gName i) := by
  intro pins s σ H v u Q I r h
  exact wpAny_assign_Name (store_ok I hN hi hx r (fun s' I' => ⟨_, H, I', h⟩) hf)
noncomputable def gNil : TGs := fun vs σ H Q => vs = [] ∧ Q σ H
noncomputable def gCons (t : TG) (u : TGs) : TGs := fun vs σ H Q => ∃ v r, vs = v :: r ∧ t v σ H fun σ' H' => u r σ' H' Q
theorem pgs_nil : PGs X [] gNil := by
  intro pins s σ H vs us Q I r h
  obtain ⟨e, h⟩ := h
  subst e
  cases r
  exact assignInOrder_nil ⟨σ, H, I, h⟩
theorem pgs_cons {e : Expr} {es : List Expr} {t : TG} {u : TGs} (h1 : PG X e t) (h2 : PGs X es u)
    (hs : (assignEach (e :: es) X.env).map (·.2) = assign e X.env :: (assignEach es X.env).map (·.2) := by rfl) : PGs X (e :: es) (gCons t u) := by
  intro pins s σ H vs us Q I r h
  obtain ⟨v, vr, e1, h⟩ := h
  subst e1
  cases r with
  | cons r rr =>
    rw [hs]
    refine assignInOrder_cons (thn (h1 pins s σ H _ _ _ I r h) fun _ s1 ⟨σ1, H1, I1, q1⟩ => ?_)
    exact h2 pins s1 σ1 H1 _ _ Q I1 rr q1
/-- (a, b, ..) = a tuple of that length -/
noncomputable def gTup (K : PySem.W.Frag) (n : Nat) (t : TGs) : TG := fun v σ H Q => ∃ a xs, v = .ref a ∧ SqT K H a xs ∧ xs.length = n ∧ t xs σ H Q
theorem pg_tup {es : List Expr} {k : Nat} {t : TGs} {n : Nat} (hc : X.calm = true) (h : PGs X es t)
    (hn : (assignEach es X.env).length = n := by rfl) (hst : (assignEach es X.env).findIdx? (·.1) = none := by rfl) : PG X (.Tuple es k pos) (gTup X.K n t) := by
  intro pins s σ H v u Q I r hw
  obtain ⟨a, xs, e1, hq, hl, hw⟩ := hw
  subst e1
  cases r
  obtain ⟨its, rv, ht, hz⟩ := I.tuple hq
  refine assign_Tuple_tuple (I.ok.hd hc) ht (by simp [hn, ← hl, rv.length]) hst fun h' hx => ?_
  have I1 : Inv X pins σ H { s with heap := h' } := I.kept (t' := s.toks) fun b o e => hx b o (Nat.ne_of_lt (Heap.lt_size e)) e
  exact h pins _ σ H xs _ Q I1 (by simpa using rv) hw
/-- target = value -/
noncomputable def tAsg (te : TE) (g : TG) : TS := fun D σ H => te σ H fun x H1 => g x σ H1 D.nx
/-- name = value -/
theorem ps_set {i : Nat} {x : Str} {e : Expr} {te : TE} {pos' : Pos} (hN : X.N.Nodup) (hi : X.N[i]? = some x) (hx : Loc X.env.scope x) (he : PE X e te) (hs : swapsWith e (some (.Name x pos')) pos.line X.env = pure false := by rfl) (hf : X.fn x = true ∨ X.env.scope.names.lookup x = some .local := by first | exact .inl rfl | exact .inr rfl | assumption) :
    PS X (.Assign [.Name x pos'] e pos) (tAsg te (gName i)) := by
  intro pins s σ H D I h
  refine wpAny_Assign_Name (thn (he pins s σ H _ I h) fun v s1 ⟨y, H1, I1, r1, q1⟩ => ?_) hs
  exact store_ok I1 hN hi hx r1 (fun s2 I2 => ⟨_, H1, I2, q1⟩) hf
end

/-! ### while -/
section
variable {X : Cx} {pos : Pos}
end

/-! ### what a loop or a comprehension walks -/
/-- at turn i: it yields x (the heap may grow), or it stops -/
structure It where
  go : Nat → Hp → Prop
  yld : Nat → Hp → V → Hp → Prop
  stop : Nat → Hp → Prop
/-- the iterator's own objects may turn: they are not the frame's, not pinned, younger than the entry (or a comprehension's own) -/
noncomputable def FpOk (X : Cx) (pins : List (Addr × Obj)) (H : Hp) (b : Addr) : Prop :=
  H b = none ∧ b ≠ X.env.locals ∧ b ∉ X.fs ∧ (b ∈ X.ex ∨ X.s₀.heap.objs.size ≤ b) ∧ (∀ x c, X.env.cells.lookup x = some c → c ≠ b) ∧ ∀ p ∈ X.pn ++ pins, p.1 ≠ b
theorem Inv.fpOk {X : Cx} {pins : List (Addr × Obj)} {σ : St} {H H' : Hp} {s : Shared} {b : Addr} (I : Inv X pins σ H s) (hb : s.heap.objs.size ≤ b) (hn : H' b = none) : FpOk X pins H' b := by
  refine ⟨hn, Nat.ne_of_gt (Nat.lt_of_lt_of_le I.lt hb), I.nofs hb, .inr (Nat.le_trans I.sz hb), fun x c e z => ?_, fun p hp z => ?_⟩
  · obtain ⟨v, q⟩ := I.cell x c e
    exact absurd (Nat.lt_of_lt_of_le q.lt (by rw [z]; exact hb)) (Nat.lt_irrefl _)
  · exact absurd (Nat.lt_of_lt_of_le (Heap.lt_size (I.pin p hp).1) (by rw [z]; exact hb)) (Nat.lt_irrefl _)
structure Turn (P : Program) (w : World) (K : PySem.W.Frag) (tg : Expr) (J : It) (fp : List Addr) (it : Addr) (tn : Nat → Heap → Prop) : Prop where
  mem : it ∈ fp
  obj : ∀ i h, tn i h → ∀ b ∈ fp, ∃ o, h.get? b = some o ∧ ∀ v, o.data ≠ .cell v
  keep : ∀ i h h', tn i h → (∀ b ∈ fp, ∀ o, h.get? b = some o → h'.get? b = some o) → tn i h'
  item : ∀ (X : Cx), X.prog = P → X.w = w → X.K = K → X.calm = true → ∀ (i : Nat) (pins : List (Addr × Obj)) (s : Shared) (σ : St) (H : Hp) (E : Value → Shared → Prop), Inv X pins σ H s → (∀ b ∈ fp, FpOk X pins H b) → tn i s.heap → J.go i H →
    wpAny (model P w) X.A (pyNext (.ref it)) (fun r s1 => ∃ u, r = some u ∧
      wpAny (model P w) X.A (letOwnedTupleGo tg (.ref it) u) (fun _ s2 => ∃ x H', Inv X pins σ H' s2 ∧ RelV x u ∧ J.yld i H x H' ∧ tn (i + 1) s2.heap ∧ ∀ b ∈ fp, H' b = none) E s1) E s
  done : ∀ (X : Cx), X.prog = P → X.w = w → X.K = K → X.calm = true → ∀ (i : Nat) (pins : List (Addr × Obj)) (s : Shared) (σ : St) (H : Hp) (E : Value → Shared → Prop), Inv X pins σ H s → (∀ b ∈ fp, FpOk X pins H b) → tn i s.heap → J.stop i H →
    wpAny (model P w) X.A (pyNext (.ref it)) (fun r s1 => r = none ∧ Inv X pins σ H s1) E s
  self : ∀ (A : Around) (i : Nat) (s : Shared) (Q : Value → Shared → Prop) (E : Value → Shared → Prop), tn i s.heap → Q (.ref it) s → wpAny (model P w) A (pyIter (.ref it)) Q E s
noncomputable abbrev TI := St → Hp → (It → Hp → Prop) → Prop
/-- an iterator has come -/
noncomputable def PIE (X : Cx) (pins : List (Addr × Obj)) (σ : St) (tg : Expr) (R : It → Hp → Prop) (itv : Value) (s2 : Shared) : Prop :=
  ∃ (it : Addr) (fp : List Addr) (tn : Nat → Heap → Prop) (J : It) (H' : Hp), itv = .ref it ∧ Inv X pins σ H' s2 ∧ Turn X.prog X.w X.K tg J fp it tn ∧ tn 0 s2.heap ∧ (∀ b ∈ fp, FpOk X pins H' b) ∧ R J H'
noncomputable def PI (X : Cx) (tg iter : Expr) (wi : TI) : Prop :=
  ∀ (pins : List (Addr × Obj)) (s : Shared) (σ : St) (H : Hp) (R : It → Hp → Prop), Inv X pins σ H s → wi σ H R →
    wpAny (model X.prog X.w) X.A (eval iter X.env) (fun v s1 => wpAny (model X.prog X.w) X.A (pyIter v) (PIE X pins σ tg R) X.xe s1) X.xe s

/-- the step ahead of the store is nothing for an iterator that keeps no tuple -/
theorem go_of {M : Model} {A : Around} {E : Value → Shared → Prop} {s : Shared} {tg : Expr} {it : Addr} {u : Value} {o : Obj} {n : String} {vs : Array Value} {Q : Unit → Shared → Prop} (ho : s.heap.get? it = some o) (hc : o.cls = .type n) (hd : o.data = .fields vs)
    (hn : ["enumerate", "zip", "dict_itemiterator", "dict_reverseitemiterator", "odict_iterator", "itertools.zip_longest", "itertools.pairwise"].contains n = false) (hQ : Q () s) : wpAny M A (letOwnedTupleGo tg (.ref it) u) Q E s := by
  unfold letOwnedTupleGo
  cases tg <;> first
    | exact wpAny_pure hQ
    | (cases u <;> first
        | exact wpAny_pure hQ
        | (refine wpAny_bind (wpAny_load ho ?_)
           rw [hc, hd]
           show wpAny M A (if (["enumerate", "zip", "dict_itemiterator", "dict_reverseitemiterator", "odict_iterator", "itertools.zip_longest", "itertools.pairwise"].contains n && vs[0]? == some (rawInt _)) = true then _ else _) Q E s
           rw [if_neg (by intro h; rw [hn, Bool.false_and] at h; cases h)]
           exact wpAny_pure hQ))

/-- the list at a, as it stands at each turn (a loop may append to it) -/
noncomputable def Itl (K : PySem.W.Frag) (a : Addr) : It :=
  ⟨fun i H => ∃ xs x, SqL K H a xs ∧ xs[i]? = some x, fun i H x H' => H' = H ∧ ∀ xs, SqL K H a xs → xs[i]? = some x, fun i H => ∃ xs, SqL K H a xs ∧ xs.length ≤ i⟩
/-- lo, lo + 1, .. (n of them) -/
noncomputable def Itr (lo : Int) (n : Nat) : It := ⟨fun i _ => i < n, fun i H x H' => H' = H ∧ x = .int (lo + i), fun i _ => n ≤ i⟩
theorem turn_list {P : Program} {w : World} {K : PySem.W.Frag} {tg : Expr} (a it : Addr) : Turn P w K tg (Itl K a) [it] it (fun i h => h.IsListIter it a i) where
  mem := by simp
  obj := fun i h st b hb => by
    have e : b = it := by simpa using hb
    subst e
    obtain ⟨o, e, c, d⟩ := st
    exact ⟨o, e, fun v z => by rw [d] at z; cases z⟩
  keep := fun i h h' st k => st.at fun o e => k it (by simp) o e
  item := by
    intro X hP hw hK hc i pins s σ H E I hf st hg
    subst hP hw hK
    obtain ⟨xs, x, hq, hx⟩ := hg
    obtain ⟨its, rv, p, hz⟩ := I.list hq
    obtain ⟨u, hu, ru⟩ := rv.get hx
    obtain ⟨f0, f1, f2, f3, f4, f5⟩ := hf it (by simp)
    refine wpAny_pyNext_list_item st p.isList (x := u) (by simpa using hu) fun h' st' sb => ?_
    have I1 : Inv X pins σ H { s with heap := h' } := I.turned (t' := s.toks) (fun b o hb e => (sb.2 b hb).trans e) f0 f1 f3 f4 f5
    obtain ⟨o, e, c, d⟩ := id st'
    exact ⟨u, rfl, go_of (s := { s with heap := h' }) e c d (by decide) ⟨x, H, I1, ru, ⟨rfl, fun ys hy => by rw [I.list_inj hy hq]; exact hx⟩, st', fun b hb => (hf b hb).1⟩⟩
  done := by
    intro X hP hw hK hc i pins s σ H E I hf st hg
    subst hP hw hK
    obtain ⟨xs, hq, hx⟩ := hg
    obtain ⟨its, rv, p, hz⟩ := I.list hq
    obtain ⟨f0, f1, f2, f3, f4, f5⟩ := hf it (by simp)
    have hl := rv.length
    exact wpAny_pyNext_list_end (I.ok.hd hc) st p.isList (by simp; omega) fun h' eb => ⟨rfl, I.turned (t' := s.toks) (fun b o hb e => eb b o hb e) f0 f1 f3 f4 f5⟩
  self := fun _ _ _ _ _ st h => wpAny_pyIter_listiter st h
theorem turn_range {P : Program} {w : World} {K : PySem.W.Frag} {tg : Expr} (it : Addr) (lo : Int) (n : Nat) : Turn P w K tg (Itr lo n) [it] it (fun i h => IsRangeIter h it (lo + (i : Nat) * 1) ((n : Int) - (i : Nat)) 1) where
  mem := by simp
  obj := fun i h st b hb => by
    have e : b = it := by simpa using hb
    subst e
    exact ⟨_, st, fun v z => by
      have z' : Data.fields _ = Data.cell v := z
      cases z'⟩
  keep := fun i h h' st k => k it (by simp) _ st
  item := by
    intro X hP hw hK hc i pins s σ H E I hf st hg
    subst hP hw hK
    obtain ⟨f0, f1, f2, f3, f4, f5⟩ := hf it (by simp)
    have W := Walks.range (prog := X.prog) (w := X.w) (I.ok.hd hc) it lo 1 n
    refine W.item i s _ _ hg st fun v h' tk hv st' kk => ?_
    obtain ⟨t, rfl⟩ := hv
    have I1 : Inv X pins σ H { s with heap := h', toks := tk } := I.turned (fun b o hb e => kk b o (by simpa using hb) e) f0 f1 f3 f4 f5
    refine ⟨_, rfl, go_of (s := { s with heap := h', toks := tk }) (n := "range_iterator") st' rfl rfl (by decide) ⟨.int (lo + i), H, I1, ⟨t, ?_⟩, ⟨rfl, rfl⟩, st', fun b hb => (hf b hb).1⟩⟩
    rw [Int.mul_one]
  done := by
    intro X hP hw hK hc i pins s σ H E I hf st hg
    subst hP hw hK
    obtain ⟨f0, f1, f2, f3, f4, f5⟩ := hf it (by simp)
    exact wpAny_pyNext_range_end (I.ok.hd hc) st (by have : n ≤ i := hg; omega) fun h' eb => ⟨rfl, I.turned (t' := s.toks) (fun b o hb e => eb b o hb e) f0 f1 f3 f4 f5⟩
  self := fun _ _ _ _ _ st h => wpAny_pyIter_rangeiter st h
end L2

namespace L2
open PySem PySem.Spec PyProof.Rows
section
variable {X : Cx} {tg : Expr}
noncomputable def iList (K : PySem.W.Frag) (tl : TE) : TI := fun σ H R => tl σ H fun x H1 => ∃ a, x = .ref a ∧ (∃ xs, SqL K H1 a xs) ∧ R (Itl K a) H1
theorem pi_list {l : Expr} {tl : TE} (hl : PE X l tl) : PI X tg l (iList X.K tl) := by
  intro pins s σ H R I h
  refine thn (hl pins s σ H _ I h) fun v s1 ⟨x, H1, I1, r1, q1⟩ => ?_
  obtain ⟨a, e, ⟨xs, hq⟩, q⟩ := q1
  subst e
  cases r1
  obtain ⟨its, rv, p, hz⟩ := I1.list hq
  refine wpAny_pyIter_list p.isList ?_
  refine ⟨s1.heap.objs.size, [s1.heap.objs.size], _, _, H1, rfl, I1.kept (t' := s1.toks) fun b o e => Heap.get?_push_of_some _ e, turn_list a _, ⟨_, Heap.get?_push_size _ rfl, rfl, rfl⟩, fun b hb => ?_, q⟩
  have e : b = s1.heap.objs.size := by simpa using hb
  subst e
  exact I1.fpOk (Nat.le_refl _) (I1.hok.fresh (Nat.le_refl _))
/-- a range object just made, walked -/
theorem range_it {pins : List (Addr × Obj)} {σ : St} {H : Hp} {s : Shared} {R : It → Hp → Prop} {E : Value → Shared → Prop} {lo hi : Int} {t u v : Tok} {tk : Nat} (I : Inv X pins σ H s) (h1 : -(2 ^ 62) ≤ lo) (h2 : lo < 2 ^ 62) (h3 : -(2 ^ 62) ≤ hi) (h4 : hi < 2 ^ 62)
    (q : R (Itr lo (hi - lo).toNat) H) : wpAny (model X.prog X.w) X.A (pyIter (.ref s.heap.objs.size)) (PIE X pins σ tg R) E { s with heap := s.heap.push { cls := .type "range", data := .fields #[.int lo t, .int hi u, .int 1 v] }, toks := tk } := by
  refine wpAny_pyIter_range (IsRange.new ..) (small_one h1 h2 h3 h4) ?_
  have I1 : Inv X pins σ H { s with heap := s.heap.push { cls := .type "range", data := .fields #[.int lo t, .int hi u, .int 1 v] }, toks := tk } := I.kept fun b o e => Heap.get?_push_of_some _ e
  refine ⟨(s.heap.push { cls := .type "range", data := .fields #[.int lo t, .int hi u, .int 1 v] }).objs.size, [(s.heap.push { cls := .type "range", data := .fields #[.int lo t, .int hi u, .int 1 v] }).objs.size], _, _, H, rfl,
    I1.kept (t' := tk) fun b o e => Heap.get?_push_of_some _ e, turn_range _ lo (hi - lo).toNat, ?_, fun b hb => ?_, q⟩
  · have e1 : lo + ((0 : Nat) : Int) * 1 = lo := by simp
    have e2 : (((hi - lo).toNat : Nat) : Int) - ((0 : Nat) : Int) = Builtin.Range.rangeSize lo hi 1 := by rw [rangeSize_one]; split <;> omega
    show IsRangeIter _ _ (lo + ((0 : Nat) : Int) * 1) ((((hi - lo).toNat : Nat) : Int) - ((0 : Nat) : Int)) 1
    rw [e1, e2]
    exact Heap.get?_push_size _ rfl
  · have e : b = (s.heap.push { cls := .type "range", data := .fields #[.int lo t, .int hi u, .int 1 v] }).objs.size := by simpa using hb
    subst e
    exact I1.fpOk (Nat.le_refl _) (I1.hok.fresh (Nat.le_refl _))
noncomputable def iRng1 (ta : TA) : TI := fun σ H R => ta σ H fun vs H1 => ∃ j : Int, vs = [.int j] ∧ -(2 ^ 62) ≤ j ∧ j < 2 ^ 62 ∧ R (Itr 0 j.toNat) H1
noncomputable def iRng2 (ta : TA) : TI := fun σ H R => ta σ H fun vs H1 => ∃ i j : Int, vs = [.int i, .int j] ∧ (-(2 ^ 62) ≤ i ∧ i < 2 ^ 62 ∧ -(2 ^ 62) ≤ j ∧ j < 2 ^ 62) ∧ R (Itr i (j - i).toNat) H1
theorem pi_range1 {a : Expr} {ta : TA} {p pos : Pos} (hg : Gl X "range") (hm : X.mg "range" = none) (ha : PA X [a] ta) (hs : starEach [a] X.env = [(false, eval a X.env)] := by rfl) : PI X tg (.Call (.Name "range" p) [a] [] pos) (iRng1 ta) := by
  intro pins s σ H R I h
  refine Call_ (ld_blt I hg hm boot_range (PyProof.Rows.callWith_type1 (thn (ha pos pins s σ H _ I h) fun us s1 ⟨vs, H1, I1, r1, q1⟩ => ?_) hs rfl))
  obtain ⟨j, e, q1, q2, q⟩ := q1
  subst e
  cases r1 with
  | cons r rr =>
    cases rr
    obtain ⟨t, rfl⟩ := r
    exact call_range_1 (range_it I1 (by omega) (by omega) q1 q2 (by simpa using q))
theorem pi_range2 {a b : Expr} {ta : TA} {p pos : Pos} (hg : Gl X "range") (hm : X.mg "range" = none) (ha : PA X [a, b] ta) (hs : starEach [a, b] X.env = [(false, eval a X.env), (false, eval b X.env)] := by rfl) (hs2 : starEach [b] X.env = [(false, eval b X.env)] := by rfl) :
    PI X tg (.Call (.Name "range" p) [a, b] [] pos) (iRng2 ta) := by
  intro pins s σ H R I h
  refine Call_ (ld_blt I hg hm boot_range (PyProof.Rows.callWith_type1 (thn (ha pos pins s σ H _ I h) fun us s1 ⟨vs, H1, I1, r1, q1⟩ => ?_) (by rw [hs, hs2]) (by rw [hs2]; rfl)))
  obtain ⟨i, j, e, ⟨q1, q2, q3, q4⟩, q⟩ := q1
  subst e
  cases r1 with
  | cons r rr =>
    cases rr with
    | cons r' rr =>
      cases rr
      obtain ⟨t, rfl⟩ := r
      obtain ⟨t', rfl⟩ := r'
      exact call_range_2 (range_it I1 q1 q2 q3 q4 q)

/-! ### for -/
/-- W: the invariant by the turn and a measure; N: what the body is to reach -/
noncomputable def tFor (wi : TI) (g : TG) (tb : TS) : TS := fun D σ H => wi σ H fun J H1 => ∃ W : Nat → Nat → St → Hp → Prop, (∃ m, W 0 m σ H1) ∧ ∀ i m σ H, W i m σ H →
  (J.stop i H ∧ D.nx σ H) ∨ (J.go i H ∧ ∃ N : St → Hp → Prop, (∀ σ' H', N σ' H' → ∃ m', m' < m ∧ W (i + 1) m' σ' H') ∧ ∀ x H', J.yld i H x H' → g x σ H' fun σ2 H2 => tb { D with nx := N, ct := N, bk := D.nx } σ2 H2)
/-- the records at fp as they stand -/
noncomputable def pinsAt (fp : List Addr) (h : Heap) : List (Addr × Obj) := fp.filterMap fun b => (h.get? b).map fun o => (b, o)
theorem mem_pinsAt {fp : List Addr} {h : Heap} {b : Addr} {o : Obj} (hb : b ∈ fp) (e : h.get? b = some o) : (b, o) ∈ pinsAt fp h := List.mem_filterMap.mpr ⟨b, hb, by rw [e]; rfl⟩
theorem of_pinsAt {fp : List Addr} {h : Heap} {p : Addr × Obj} (hp : p ∈ pinsAt fp h) : p.1 ∈ fp ∧ h.get? p.1 = some p.2 := by
  obtain ⟨b, hb, e⟩ := List.mem_filterMap.mp hp
  cases q : h.get? b with
  | none => rw [q] at e; cases e
  | some o =>
    rw [q] at e
    have e' : (b, o) = p := Option.some.inj e
    subst e'
    exact ⟨hb, q⟩
theorem Inv.pinned {pins : List (Addr × Obj)} {σ : St} {H : Hp} {s : Shared} {fp : List Addr} (I : Inv X pins σ H s) (hf : ∀ b ∈ fp, FpOk X pins H b) (ho : ∀ b ∈ fp, ∃ o, s.heap.get? b = some o ∧ ∀ v, o.data ≠ .cell v) : Inv X (pins ++ pinsAt fp s.heap) σ H s :=
  I.pins_of fun p hp => (List.mem_append.mp hp).elim (fun z => I.pin p (List.mem_append_right _ z)) fun z => by
    obtain ⟨hb, e⟩ := of_pinsAt z
    obtain ⟨f0, f1, f2, _⟩ := hf p.1 hb
    obtain ⟨o, e', d⟩ := ho p.1 hb
    rw [e] at e'; cases e'
    exact ⟨e, f0, f1, f2, d⟩
theorem Inv.unpinned {pins pl : List (Addr × Obj)} {σ : St} {H : Hp} {s : Shared} (I : Inv X (pins ++ pl) σ H s) : Inv X pins σ H s := I.pins_of fun p hp => I.pin p (List.mem_append_right _ (List.mem_append_left _ hp))
theorem ps_for {iter : Expr} {body : List Stmt} {wi : TI} {g : TG} {tb : TS} {pos : Pos} (hp : PassesOwn (model X.prog X.w) X.A X.env X.xe) (hc : X.calm = true) (hi : PI X tg iter wi) (hg : PG X tg g) (hb : PSs X body tb)
    (hs : ∀ x, foldedSetIterable iter X.env x = pure x := by intro _; rfl) : PS X (.For tg iter body [] pos) (tFor wi g tb) := by
  intro pins s σ H D I h
  refine wpAny_For (thn (hi pins s σ H _ I h) fun v s1 h1 => thn h1 fun itv s2 h2 => ?_) hs
  obtain ⟨it, fp, tn, J, H2, e, I2, T, st2, f2, W, ⟨m0, w0⟩, turn⟩ := h2
  subst e
  -- what stays true of the iterator's objects through the loop
  have stat : ∀ {H' : Hp}, (∀ b ∈ fp, H' b = none) → ∀ b ∈ fp, FpOk X pins H' b := fun hn b hb => ⟨hn b hb, (f2 b hb).2⟩
  refine codeAny_forLoop_any (fun n s' => ∃ i σ' H', Inv X pins σ' H' s' ∧ tn i s'.heap ∧ (∀ b ∈ fp, H' b = none) ∧ W i n σ' H') ?_ m0 ⟨0, σ, H2, I2, st2, fun b hb => (f2 b hb).1, w0⟩
  rintro n s3 ⟨i, σ3, H3, I3, st3, fr3, w3⟩
  rcases turn i n σ3 H3 w3 with ⟨stop, qn⟩ | ⟨go, N, hN, step⟩
  · refine wpAny_passesOwn hp (thn (T.done X rfl rfl rfl hc i pins s3 σ3 H3 X.xe I3 (stat fr3) st3 stop) fun r s4 ⟨hr, I4⟩ => ?_)
    subst hr
    exact wpAny_execs_nil ⟨σ3, H3, I4, qn⟩
  · refine wpAny_passesOwn hp (thn (T.item X rfl rfl rfl hc i pins s3 σ3 H3 X.xe I3 (stat fr3) st3 go) fun r s4 ⟨u, hr, h4⟩ => ?_)
    subst hr
    refine wpAny_passesOwn hp (thn h4 fun _ s5 ⟨x, H5, I5, r5, y5, st5, fr5⟩ => ?_)
    have I5' := I5.pinned (stat fr5) (T.obj _ _ st5)
    refine wpAny_passesOwn hp (thn (hg _ s5 σ3 H5 x u _ I5' r5 (step x H5 y5)) fun _ s6 ⟨σ6, H6, I6, q6⟩ => ?_)
    refine wpAny_passesOwn hp (thn (hb _ s6 σ6 H6 _ I6 q6) fun f s7 q7 => ?_)
    have again : ∀ {σ7 : St} {H7 : Hp}, Inv X (pins ++ pinsAt fp s5.heap) σ7 H7 s7 → N σ7 H7 → ∃ m, m < n ∧ ∃ i σ' H', Inv X pins σ' H' s7 ∧ tn i s7.heap ∧ (∀ b ∈ fp, H' b = none) ∧ W i m σ' H' := fun {σ7 H7} I7 n7 => by
      obtain ⟨m', hm, w7⟩ := hN σ7 H7 n7
      refine ⟨m', hm, i + 1, σ7, H7, I7.unpinned, T.keep _ _ _ st5 fun b hb o e => (I7.pin (b, o) (List.mem_append_right _ (List.mem_append_right _ (mem_pinsAt hb e)))).1, fun b hb => ?_, w7⟩
      obtain ⟨o, e, d⟩ := T.obj _ _ st5 b hb
      exact (I7.pin (b, o) (List.mem_append_right _ (List.mem_append_right _ (mem_pinsAt hb e)))).2.1
    cases f with
    | next => obtain ⟨σ7, H7, I7, n7⟩ := q7; exact again I7 n7
    | cont => obtain ⟨σ7, H7, I7, n7⟩ := q7; exact again I7 n7
    | brk => obtain ⟨σ7, H7, I7, q7⟩ := q7; exact ⟨σ7, H7, I7.unpinned, q7⟩
    | ret v => obtain ⟨x7, σ7, H7, I7, r7, q7⟩ := q7; exact ⟨x7, σ7, H7, I7.unpinned, r7, q7⟩
end

/-! ### the forms one uses -/
theorem for_range {lo : Int} {n : Nat} {g : TG} {tb : TS} {D : Ends} {σ : St} {H : Hp} (Pv : Nat → St → Hp → Prop) (h0 : Pv 0 σ H)
    (hs : ∀ i σ H, i < n → Pv i σ H → g (.int (lo + i)) σ H fun σ2 H2 => tb { D with nx := Pv (i + 1), ct := Pv (i + 1), bk := D.nx } σ2 H2) (hd : ∀ σ H, Pv n σ H → D.nx σ H) :
    ∃ W : Nat → Nat → St → Hp → Prop, (∃ m, W 0 m σ H) ∧ ∀ i m σ H, W i m σ H →
      ((Itr lo n).stop i H ∧ D.nx σ H) ∨ ((Itr lo n).go i H ∧ ∃ N : St → Hp → Prop, (∀ σ' H', N σ' H' → ∃ m', m' < m ∧ W (i + 1) m' σ' H') ∧ ∀ x H', (Itr lo n).yld i H x H' → g x σ H' fun σ2 H2 => tb { D with nx := N, ct := N, bk := D.nx } σ2 H2) := by
  refine ⟨fun i m σ H => m = n - i ∧ i ≤ n ∧ Pv i σ H, ⟨n, by simp, Nat.zero_le _, h0⟩, ?_⟩
  rintro i m σ H ⟨rfl, hi, p⟩
  by_cases hlt : i < n
  · refine .inr ⟨hlt, Pv (i + 1), fun σ' H' p' => ⟨n - (i + 1), by omega, rfl, hlt, p'⟩, fun x H' y => ?_⟩
    obtain ⟨e, y⟩ := y
    subst e y
    exact hs i σ _ hlt p
  · have e : i = n := by omega
    subst e
    exact .inl ⟨Nat.le_refl _, hd σ H p⟩
end L2

namespace L2
open PySem PySem.Spec PyProof.Rows

noncomputable abbrev R2 := V → V → Hp → VK → Prop
/-- a two-place operation on values: f is binaryOp op, inplaceOp op or compareOp op -/
noncomputable def OpR (X : Cx) (f : Value → Value → Sem Value) (r : R2) : Prop :=
  ∀ (pins : List (Addr × Obj)) (s : Shared) (σ : St) (H : Hp) (x y : V) (v u : Value) (Q : VK), Inv X pins σ H s → RelV x v → RelV y u → r x y H Q →
    wpAny (model X.prog X.w) X.A (f v u) (EP X pins σ Q) X.xe s
/-- a one-place operation -/
noncomputable def UnR (X : Cx) (f : Value → Sem Value) (r : V → Hp → VK → Prop) : Prop :=
  ∀ (pins : List (Addr × Obj)) (s : Shared) (σ : St) (H : Hp) (x : V) (v : Value) (Q : VK), Inv X pins σ H s → RelV x v → r x H Q →
    wpAny (model X.prog X.w) X.A (f v) (EP X pins σ Q) X.xe s
/-- a call of a value that is known (a builtin, a type) with values -/
noncomputable def CallR (X : Cx) (f : Value) (r : List V → Hp → VK → Prop) : Prop :=
  ∀ (pins : List (Addr × Obj)) (s : Shared) (σ : St) (H : Hp) (xs : List V) (us : List Value) (Q : VK), Inv X pins σ H s → Vals xs us → r xs H Q →
    wpAny (model X.prog X.w) X.A (call f us) (EP X pins σ Q) X.xe s

noncomputable def tOp (r : R2) (ta tb : TE) : TE := fun σ H Q => ta σ H fun x H1 => tb σ H1 fun y H2 => r x y H2 Q
noncomputable def tUn (r : V → Hp → VK → Prop) (ta : TE) : TE := fun σ H Q => ta σ H fun x H1 => r x H1 Q
/-- ints in, under C, and a value out -/
noncomputable def rI (C : Int → Int → Prop) (g : Int → Int → V) : R2 := fun x y H Q => ∃ i j, x = .int i ∧ y = .int j ∧ C i j ∧ Q (g i j) H
noncomputable def rI0 (g : Int → Int → V) : R2 := fun x y H Q => ∃ i j, x = .int i ∧ y = .int j ∧ Q (g i j) H
noncomputable def rU (g : Int → V) : V → Hp → VK → Prop := fun x H Q => ∃ i, x = .int i ∧ Q (g i) H

section
variable {X : Cx} {a b c : Expr} {ta tb tc : TE} {pos : Pos}

theorem binT (ha : PE X a ta) (hb : PE X b tb) {pins : List (Addr × Obj)} {s : Shared} {σ : St} {H : Hp} {R : V → V → Hp → Prop} (I : Inv X pins σ H s)
    (h : ta σ H fun x H1 => tb σ H1 fun y H2 => R x y H2) {Q : Value → Shared → Prop} {f : Value → Value → Sem Value}
    (hf : ∀ v u s2 x y H2, Inv X pins σ H2 s2 → RelV x v → RelV y u → R x y H2 → wpAny (model X.prog X.w) X.A (f v u) Q X.xe s2) :
    wpAny (model X.prog X.w) X.A (eval a X.env) (fun v s₁ => wpAny (model X.prog X.w) X.A (eval b X.env) (fun u s₂ => wpAny (model X.prog X.w) X.A (f v u) Q X.xe s₂) X.xe s₁) X.xe s := by
  refine thn (ha pins s σ H _ I h) fun v s1 ⟨x, H1, I1, r1, q1⟩ => ?_
  refine thn (hb pins s1 σ H1 _ I1 q1) fun u s2 ⟨y, H2, I2, r2, q2⟩ => ?_
  exact hf v u s2 x y H2 I2 r1 r2 q2

theorem pe_op {op : Operator} {r : R2} (ho : OpR X (binaryOp op) r) (ha : PE X a ta) (hb : PE X b tb) : PE X (.BinOp a op b pos) (tOp r ta tb) := by
  intro pins s σ H Q I h
  exact wpAny_BinOp (binT ha hb I h fun v u s2 x y H2 I2 rx ry q => ho pins s2 σ H2 x y v u Q I2 rx ry q)
theorem pe_un {op : UnaryOp} {r : V → Hp → VK → Prop} (ho : UnR X (unaryOp op) r) (ha : PE X a ta) : PE X (.UnaryOp op a pos) (tUn r ta) := by
  intro pins s σ H Q I h
  exact UnaryOp_ (thn (ha pins s σ H _ I h) fun v s1 ⟨x, H1, I1, r1, q1⟩ => ho pins s1 σ H1 x v Q I1 r1 q1)

/-! ### ints -/
theorem opI {f : Value → Value → Sem Value} {C : Int → Int → Prop} {g : Int → Int → Int}
    (rule : ∀ (i j : Int) (t u : Tok) (s : Shared) (Q : Value → Shared → Prop) (E : Value → Shared → Prop), C i j → Q (.int (g i j) s.toks) { s with toks := s.toks + 1 } → wpAny (model X.prog X.w) X.A (f (.int i t) (.int j u)) Q E s) :
    OpR X f (rI C fun i j => .int (g i j)) := by
  intro pins s σ H x y v u Q I rx ry h
  obtain ⟨i, j, rfl, rfl, hc, q⟩ := h
  obtain ⟨t, rfl⟩ := rx
  obtain ⟨t', rfl⟩ := ry
  exact rule i j t t' s _ _ hc ⟨.int (g i j), H, I.tok _, ⟨_, rfl⟩, q⟩
theorem opI0 {f : Value → Value → Sem Value} {g : Int → Int → Int}
    (rule : ∀ (i j : Int) (t u : Tok) (s : Shared) (Q : Value → Shared → Prop) (E : Value → Shared → Prop), Q (.int (g i j) s.toks) { s with toks := s.toks + 1 } → wpAny (model X.prog X.w) X.A (f (.int i t) (.int j u)) Q E s) :
    OpR X f (rI0 fun i j => .int (g i j)) := by
  intro pins s σ H x y v u Q I rx ry h
  obtain ⟨i, j, rfl, rfl, q⟩ := h
  obtain ⟨t, rfl⟩ := rx
  obtain ⟨t', rfl⟩ := ry
  exact rule i j t t' s _ _ ⟨.int (g i j), H, I.tok _, ⟨_, rfl⟩, q⟩
theorem opB0 {f : Value → Value → Sem Value} {g : Int → Int → Bool}
    (rule : ∀ (i j : Int) (t u : Tok) (s : Shared) (Q : Value → Shared → Prop) (E : Value → Shared → Prop), Q (.bool (g i j)) s → wpAny (model X.prog X.w) X.A (f (.int i t) (.int j u)) Q E s) :
    OpR X f (rI0 fun i j => .bl (g i j)) := by
  intro pins s σ H x y v u Q I rx ry h
  obtain ⟨i, j, rfl, rfl, q⟩ := h
  obtain ⟨t, rfl⟩ := rx
  obtain ⟨t', rfl⟩ := ry
  exact rule i j t t' s _ _ ⟨.bl (g i j), H, I, rfl, q⟩

theorem op_add : OpR X (binaryOp .Add) (rI0 fun i j => .int (i + j)) := opI0 fun _ _ _ _ _ _ _ q => add_int q
theorem op_sub : OpR X (binaryOp .Sub) (rI0 fun i j => .int (i - j)) := opI0 fun _ _ _ _ _ _ _ q => sub_int q
/-- % by a positive divisor of any size -/
theorem op_mod : OpR X (binaryOp .Mod) (rI (fun _ j => 0 < j) fun i j => .int (i % j)) := opI fun i j _ _ _ _ _ hc q => by
  have h1 : (0 : Int) < j := hc
  exact mod_int' (by omega) (by rw [Int.fmod_eq_emod_of_nonneg i (by omega)]; exact q)

theorem unI {f : Value → Sem Value} {g : Int → Int}
    (rule : ∀ (i : Int) (t : Tok) (s : Shared) (Q : Value → Shared → Prop) (E : Value → Shared → Prop), Q (.int (g i) s.toks) { s with toks := s.toks + 1 } → wpAny (model X.prog X.w) X.A (f (.int i t)) Q E s) :
    UnR X f (rU fun i => .int (g i)) := by
  intro pins s σ H x v Q I rx h
  obtain ⟨i, rfl, q⟩ := h
  obtain ⟨t, rfl⟩ := rx
  exact rule i t s _ _ ⟨.int (g i), H, I.tok _, ⟨_, rfl⟩, q⟩
theorem un_neg : UnR X (unaryOp .USub) (rU fun i => .int (-i)) := unI fun _ _ _ _ _ q => neg_int q

/-! ### bools among ints: n += (a < b) -/
end

/-! ### comparisons -/
/-- the scalars that == tells apart as data does -/
noncomputable def scal : V → V → Bool
  | .non, .non => true | .non, .int _ => true | .int _, .non => true | .non, .bl _ => true | .bl _, .non => true | .non, .str _ => true | .str _, .non => true
  | .int _, .int _ => true | .bl _, .bl _ => true | .str _, .str _ => true | .byt _, .byt _ => true
  | .int _, .str _ => true | .str _, .int _ => true | .bl _, .str _ => true | .str _, .bl _ => true
  | _, _ => false
noncomputable def rEq : R2 := fun x y H Q => scal x y = true ∧ Q (.bl (decide (x = y))) H
noncomputable def rNe : R2 := fun x y H Q => scal x y = true ∧ Q (.bl (!decide (x = y))) H

theorem dec_int {i j : Int} : decide (V.int i = V.int j) = (i == j) := by
  rw [Bool.eq_iff_iff]
  simp
theorem dec_bl {i j : Bool} : decide (V.bl i = V.bl j) = (i == j) := by
  rw [Bool.eq_iff_iff]
  simp
theorem dec_str {i j : Str} : decide (V.str i = V.str j) = (i == j) := by
  rw [Bool.eq_iff_iff]
  simp
theorem dec_byt {i j : Array UInt8} : decide (V.byt i = V.byt j) = (i.toList == j.toList) := by
  rw [Bool.eq_iff_iff]
  cases i
  cases j
  simp

section
variable {X : Cx} {a b c : Expr} {ta tb tc : TE} {pos : Pos}
theorem fin_bl {pins : List (Addr × Obj)} {σ : St} {H : Hp} {s : Shared} {Q : VK} {k k' : Bool} (I : Inv X pins σ H s) (q : Q (.bl k) H) (e : k = k') : EP X pins σ Q (.bool k') s := by
  subst e
  exact ⟨.bl k, H, I, rfl, q⟩
theorem op_eq : OpR X (compareOp .Eq) rEq := by
  intro pins s σ H x y v u Q I rx ry h
  obtain ⟨hs, q⟩ := h
  cases x with
  | non =>
    cases rx
    cases y with
    | non => cases ry; exact PySem.EqNone.eq_none_none (fin_bl I q (by simp))
    | bl j => cases ry; exact PySem.EqNone.eq_none_bool (fin_bl I q (by simp))
    | int j => obtain ⟨t', rfl⟩ := ry; exact PySem.EqNone.eq_none_int (fin_bl I q (by simp))
    | str j => obtain ⟨t', rfl⟩ := ry; exact PySem.EqNone.eq_none_str (fin_bl I q (by simp))
    | _ => exact absurd (show false = true from hs) Bool.false_ne_true
  | bl i =>
    cases rx
    cases y with
    | non => cases ry; exact PySem.EqNone.eq_bool_none (fin_bl I q (by simp))
    | bl j => cases ry; exact eq_bool (fin_bl I q dec_bl)
    | str j => obtain ⟨t', rfl⟩ := ry; exact PySem.EqMixed.eq_bool_str (fin_bl I q (by simp))
    | _ => exact absurd (show false = true from hs) Bool.false_ne_true
  | int i =>
    obtain ⟨t, rfl⟩ := rx
    cases y with
    | non => cases ry; exact PySem.EqNone.eq_int_none (fin_bl I q (by simp))
    | int j => obtain ⟨t', rfl⟩ := ry; exact eq_int (fin_bl I q dec_int)
    | str j => obtain ⟨t', rfl⟩ := ry; exact PySem.EqMixed.eq_int_str (fin_bl I q (by simp))
    | _ => exact absurd (show false = true from hs) Bool.false_ne_true
  | str i =>
    obtain ⟨t, rfl⟩ := rx
    cases y with
    | non => cases ry; exact PySem.EqNone.eq_str_none (fin_bl I q (by simp))
    | bl j => cases ry; exact PySem.EqMixed.eq_str_bool (fin_bl I q (by simp))
    | int j => obtain ⟨t', rfl⟩ := ry; exact PySem.EqMixed.eq_str_int (fin_bl I q (by simp))
    | str j => obtain ⟨t', rfl⟩ := ry; exact eq_str (fin_bl I q dec_str)
    | _ => exact absurd (show false = true from hs) Bool.false_ne_true
  | byt i =>
    obtain ⟨t, rfl⟩ := rx
    cases y with
    | byt j => obtain ⟨t', rfl⟩ := ry; exact PySem.W.eq_bytes (fin_bl I q dec_byt)
    | _ => exact absurd (show false = true from hs) Bool.false_ne_true
  | _ => cases y <;> exact absurd (show false = true from hs) Bool.false_ne_true
theorem op_ne : OpR X (compareOp .NotEq) rNe := by
  intro pins s σ H x y v u Q I rx ry h
  obtain ⟨hs, q⟩ := h
  cases x with
  | non =>
    cases rx
    cases y with
    | non => cases ry; exact PySem.EqNone.ne_none_none (fin_bl I q (by simp))
    | bl j => cases ry; exact PySem.EqNone.ne_none_bool (fin_bl I q (by simp))
    | int j => obtain ⟨t', rfl⟩ := ry; exact PySem.EqNone.ne_none_int (fin_bl I q (by simp))
    | str j => obtain ⟨t', rfl⟩ := ry; exact PySem.EqNone.ne_none_str (fin_bl I q (by simp))
    | _ => exact absurd (show false = true from hs) Bool.false_ne_true
  | bl i =>
    cases rx
    cases y with
    | non => cases ry; exact PySem.EqNone.ne_bool_none (fin_bl I q (by simp))
    | bl j => cases ry; exact ne_bool (fin_bl I q (congrArg not dec_bl))
    | str j => obtain ⟨t', rfl⟩ := ry; exact PySem.EqMixed.ne_bool_str (fin_bl I q (by simp))
    | _ => exact absurd (show false = true from hs) Bool.false_ne_true
  | int i =>
    obtain ⟨t, rfl⟩ := rx
    cases y with
    | non => cases ry; exact PySem.EqNone.ne_int_none (fin_bl I q (by simp))
    | int j => obtain ⟨t', rfl⟩ := ry; exact ne_int (fin_bl I q (congrArg not dec_int))
    | str j => obtain ⟨t', rfl⟩ := ry; exact PySem.EqMixed.ne_int_str (fin_bl I q (by simp))
    | _ => exact absurd (show false = true from hs) Bool.false_ne_true
  | str i =>
    obtain ⟨t, rfl⟩ := rx
    cases y with
    | non => cases ry; exact PySem.EqNone.ne_str_none (fin_bl I q (by simp))
    | bl j => cases ry; exact PySem.EqMixed.ne_str_bool (fin_bl I q (by simp))
    | int j => obtain ⟨t', rfl⟩ := ry; exact PySem.EqMixed.ne_str_int (fin_bl I q (by simp))
    | str j => obtain ⟨t', rfl⟩ := ry; exact ne_str (fin_bl I q (congrArg not dec_str))
    | _ => exact absurd (show false = true from hs) Bool.false_ne_true
  | byt i =>
    obtain ⟨t, rfl⟩ := rx
    cases y with
    | byt j => obtain ⟨t', rfl⟩ := ry; exact PySem.W.ne_bytes (fin_bl I q (congrArg not dec_byt))
    | _ => exact absurd (show false = true from hs) Bool.false_ne_true
  | _ => cases y <;> exact absurd (show false = true from hs) Bool.false_ne_true

theorem op_lt : OpR X (compareOp .Lt) (rI0 fun i j => .bl (decide (i < j))) := opB0 fun _ _ _ _ _ _ _ q => lt_int q
theorem op_le : OpR X (compareOp .LtE) (rI0 fun i j => .bl (decide (i ≤ j))) := opB0 fun _ _ _ _ _ _ _ q => le_int q
theorem op_gt : OpR X (compareOp .Gt) (rI0 fun i j => .bl (decide (j < i))) := opB0 fun _ _ _ _ _ _ _ q => gt_int q
theorem op_ge : OpR X (compareOp .GtE) (rI0 fun i j => .bl (decide (j ≤ i))) := opB0 fun _ _ _ _ _ _ _ q => ge_int q

theorem nomark (b : Expr) {op : CmpOp} (h : op ≠ .In := by decide) (h2 : op ≠ .NotIn := by decide) : behindInMarks op b = false := by
  have e1 : (op == CmpOp.In) = false := by cases op <;> first | rfl | exact absurd rfl h
  have e2 : (op == CmpOp.NotIn) = false := by cases op <;> first | rfl | exact absurd rfl h2
  cases b <;> simp [behindInMarks, e1, e2]
/-- a comparison as a value; hm: nomark b, or (for in, not in) by with_unfolding_all rfl -/
theorem pe_cmpR {op : CmpOp} {r : R2} (ho : OpR X (compareOp op) r) (ha : PE X a ta) (hb : PE X b tb) (hm : behindInMarks op b = false) : PE X (.Compare a [op] [b] pos) (tOp r ta tb) := by
  intro pins s σ H Q I h
  exact wpAny_Compare1 (binT ha hb I h fun v u s2 x y H2 I2 rx ry q => ho pins s2 σ H2 x y v u Q I2 rx ry q) hm
/-- a reading of a value as a test -/
noncomputable def tTest (t : TE) : TT := fun σ H Q => t σ H fun x H' => ∃ k, x = .bl k ∧ Q k H'
theorem pt_cmpR {op : CmpOp} {r : R2} (ho : OpR X (compareOp op) r) (ha : PE X a ta) (hb : PE X b tb) (hm : behindInMarks op b = false) : PT X (.Compare a [op] [b] pos) (tTest (tOp r ta tb)) := by
  intro pins s σ H Q I h
  refine wpAny_isTrue_Compare1 (thn (ha pins s σ H _ I h) fun v s1 ⟨x, H1, I1, r1, q1⟩ => thn (hb pins s1 σ H1 _ I1 q1) fun u s2 ⟨y, H2, I2, r2, q2⟩ =>
    thn (ho pins s2 σ H2 x y v u _ I2 r1 r2 q2) fun c s3 ⟨z, H3, I3, r3, k, e, q3⟩ => ?_) hm
  subst e
  cases r3
  exact wpAny_truthy_bool ⟨H3, I3, q3⟩
/-- a op1 b op2 c -/
noncomputable def tChain (r r' : R2) (ta tb tc : TE) : TE := fun σ H Q => ta σ H fun x H1 => tb σ H1 fun y H2 => r x y H2 fun z H3 => ∃ k, z = .bl k ∧
  (if k = true then tc σ H3 fun w' H4 => r' y w' H4 Q else Q (.bl false) H3)
theorem pe_chain {op op' : CmpOp} {r r' : R2} (ho : OpR X (compareOp op) r) (ho' : OpR X (compareOp op') r') (ha : PE X a ta) (hb : PE X b tb) (hc : PE X c tc)
    (hm : lastMarks [op, op'] [b, c] = false := by with_unfolding_all rfl) : PE X (.Compare a [op, op'] [b, c] pos) (tChain r r' ta tb tc) := by
  intro pins s σ H Q I h
  refine Compare_chain (thn (ha pins s σ H _ I h) fun v s1 ⟨x, H1, I1, r1, q1⟩ => chain_link (thn (hb pins s1 σ H1 _ I1 q1) fun u s2 ⟨y, H2, I2, r2, q2⟩ =>
    thn (ho pins s2 σ H2 x y v u _ I2 r1 r2 q2) fun d s3 ⟨z, H3, I3, r3, k, e, q3⟩ => ?_)) hm
  subst e
  cases r3
  refine wpAny_truthy_bool ?_
  cases k with
  | false => exact ite_ff ⟨.bl false, H3, I3, rfl, q3⟩
  | true => exact ite_tt (chain_last (thn (hc pins s3 σ H3 _ I3 q3) fun w' s4 ⟨z', H4, I4, r4, q4⟩ => ho' pins s4 σ H4 y z' u w' Q I4 r2 r4 q4))

/-! ### truth -/
theorem line63 : (sizeLine : Nat) < 2 ^ 63 := by rw [sizeLine_eq]; decide

/-! ### strs and bytes -/

/-! ### scalar builtins, by CallR -/
theorem vals1 {x : V} {us : List Value} (r : Vals [x] us) : ∃ u, us = [u] ∧ RelV x u := by
  cases r with
  | cons r1 r2 => cases r2; exact ⟨_, rfl, r1⟩
theorem vals2 {x y : V} {us : List Value} (r : Vals [x, y] us) : ∃ u w', us = [u, w'] ∧ RelV x u ∧ RelV y w' := by
  cases r with
  | cons r1 r2 =>
    cases r2 with
    | cons r3 r4 => cases r4; exact ⟨_, _, rfl, r1, r3⟩
end
end L2

namespace L2
open PySem PySem.Spec PyProof.Rows

/-! ### an instance, its attributes a map -/
structure ObjM (h : Heap) (x dx C : Addr) (mA : Str → Option Value) : Prop where
  obj : h.get? x = some (PySem.W.instObj C dx)
  ns : h.Ns1 dx mA
  ne : dx ≠ x

theorem lookIn_ns {h : Heap} {dx : Addr} {mA : Str → Option Value} (n : h.Ns1 dx mA) : ∃ od, h.get? dx = some od ∧ ∀ name, PySem.W.lookIn name od = some (mA name) := by
  obtain ⟨o, es, ep, ho, hd, hk, _, hm⟩ := n
  refine ⟨o, ho, fun name => ?_⟩
  have e := hm name
  unfold nsFind findBy at e
  rw [← Array.find?_toList] at e
  unfold PySem.W.lookIn
  rw [hd]
  dsimp only
  split
  · rename_i y q
    rw [q] at e
    exact congrArg some e
  · rename_i q
    rw [q] at e
    have a : es.toList.any (·.refKey) = false := by
      rw [List.any_eq_false]
      intro y hy
      obtain ⟨z, t, hkey⟩ := hk y (Array.mem_toList_iff.mp hy)
      simp [DictEntry.refKey, hkey]
    have a' : ¬ es.toList.any (·.refKey) = true := by rw [a]; exact Bool.false_ne_true
    rw [if_neg a']
    exact congrArg some e

theorem ObjM.look {h : Heap} {x dx C : Addr} {mA : Str → Option Value} (I : ObjM h x dx C mA) : ∃ od, PySem.W.InstAt h x (PySem.W.instObj C dx) C (some od) ∧ ∀ name, PySem.W.lookIn name od = some (mA name) :=
  let ⟨od, ho, hl⟩ := lookIn_ns I.ns
  ⟨od, ⟨I.obj, rfl, rfl, ho⟩, hl⟩

section
variable {prog : Program} {w : World} {A : Around} {E : Value → Shared → Prop} {s : Shared} {K : PySem.W.Frag} {x dx C f : Addr} {mA : Str → Option Value} {name : Str} {v : Value}

end

/-! ### the attributes as a list of pairs -/

section
variable {P : Program} {w : World} {H H' : Hp} {h h' : Heap} {a C dx : Addr} {fs fs' : List (Str × V)}
theorem ins_get (hok : HOk P w H h) (e : H a = some (.ins C dx fs)) : ∃ mA, ObjM h a dx C mA ∧ (∀ f, RelO (fs.lookup f) (mA f)) ∧ PySem.Within mA (fs.map (·.1)) ∧ fs.length ≤ 1000 ∧ H dx = some (.own a) := by
  obtain ⟨d, z, ne, ob, mA, n, r, q⟩ := (show ObjOk P w H h a (.ins C dx fs) from hok a _ e)
  exact ⟨mA, ⟨ob, n, ne⟩, r, q, z, d⟩
end

/-! ### what of the text a class must have -/
structure Cls (K : PySem.W.Frag) (C : Addr) : Prop where
  pg : PySem.W.plainGet K C Str.empty = true
  hd : PySem.W.hasDictIn K C = true
  po : PySem.W.plainOver K C = true
  sa : PySem.W.findIn K (.ref C) "__setattr__" = some (some (.builtin "object.__setattr__"))
theorem Cls.get {K : PySem.W.Frag} {C : Addr} (c : Cls K C) (f : Str) : PySem.W.plainGet K C f = true := c.pg
/-- no class of it has the name -/
noncomputable def NoAttr (K : PySem.W.Frag) (C : Addr) (f : Str) : Prop := PySem.W.findIn K (.ref C) f = some none

section
variable {X : Cx} {pins : List (Addr × Obj)} {σ : St} {H : Hp} {s : Shared} {a C dx : Addr} {fs : List (Str × V)} {f : Str} {v : V} {A : Around} {E : Value → Shared → Prop}

end

/-! ### readings and rules -/

section
variable {X : Cx} {o e value : Expr} {f : Str} {pos pos' tpos : Pos} {ta tv : TE}

end

/-! ### isinstance -/
section
variable {X : Cx} {pins : List (Addr × Obj)} {σ : St} {H : Hp} {s : Shared} {A : Around} {E : Value → Shared → Prop} {Q : Value → Shared → Prop} {c : Value} {b : Bool}
/-- the type of a value, as the fragment's deciders take it; for an instance its class -/
inductive TyOf (K : PySem.W.Frag) (H : Hp) : V → Value → Prop where
  | non : TyOf K H .non (.type "NoneType")
  | bl (x : Bool) : TyOf K H (.bl x) (.type "bool")
  | int (i : Int) : TyOf K H (.int i) (.type "int")
  | str (x : Str) : TyOf K H (.str x) (.type "str")
  | flt (x : UInt64) : TyOf K H (.flt x) (.type "float")
  | lst {a : Addr} {xs : List V} (e : H a = some (.lst xs)) : TyOf K H (.ref a) (.type "list")
  | frz {a : Addr} {o : Obj} {xs : List V} (e : H a = some (.frz o (.lst xs))) : TyOf K H (.ref a) (.type "list")
  | tup {a : Addr} {xs : List V} (e : H a = some (.tup xs)) : TyOf K H (.ref a) (.type "tuple")
  | dK {a : Addr} {kvs : List (Key × V)} (e : H a = some (.dK kvs)) : TyOf K H (.ref a) (.type "dict")
  | dT {a : Addr} {kvs : List (List Key × V)} (e : H a = some (.dT kvs)) : TyOf K H (.ref a) (.type "dict")
  | ins {a C dx : Addr} {fs : List (Str × V)} (e : H a = some (.ins C dx fs)) (cl : Cls K C) (ha : PySem.W.findIn K (.ref C) "__class__" = some (some (.builtin "object.__class__")))
      (hn : PySem.W.specialIn K (.builtin "object.__class__") "__get__" = some (some (.builtin "getset_descriptor.__get__"))) (htk : PySem.W.takesIn K (.builtin "object.__class__") = some true)
      (hm : PySem.W.mroIn K C (.type "object") = some true) : TyOf K H (.ref a) (.ref C)
/-- isinstance(x, c) for one class c, a built-in or an own one: kitOne's answer -/
theorem isinst_ok {x : V} {u t : Value} (I : Inv X pins σ H s) (rx : RelV x u) (ty : TyOf X.K H x t) (e : PySem.W.kitOne X.K t c = some b) (h : ∀ tk, Q (.bool b) { s with toks := tk }) :
    wpAny (model X.prog X.w) A (call (.builtin "isinstance") [u, c]) Q E s := by
  cases ty with
  | non => cases (show u = Value.none from rx); exact PySem.W.kia_one PySem.W.kitx_none I.kIn True.intro e (fun z => nomatch z) h
  | bl y => cases (show u = Value.bool y from rx); exact PySem.W.kia_one PySem.W.kitx_bool I.kIn True.intro e (fun z => nomatch z) h
  | int i => obtain ⟨t, q⟩ := (show ∃ t, u = Value.int i t from rx); cases q; exact PySem.W.kia_one PySem.W.kitx_int I.kIn True.intro e (fun z => nomatch z) h
  | str y => obtain ⟨t, q⟩ := (show ∃ t, u = Value.str y t from rx); cases q; exact PySem.W.kia_one PySem.W.kitx_str I.kIn True.intro e (fun z => nomatch z) h
  | flt y => obtain ⟨t, q⟩ := (show ∃ t, u = Value.float y t from rx); cases q; exact PySem.W.kia_one PySem.W.kitx_float I.kIn True.intro e (fun z => nomatch z) h
  | @lst a xs ea =>
    cases (show u = Value.ref a from rx)
    obtain ⟨_, _, n, _, h1⟩ := (show ObjOk X.prog X.w H s.heap a (.lst xs) from I.hok a _ ea)
    exact PySem.W.kia_one PySem.W.kitx_list I.kIn ⟨_, h1, rfl⟩ e (fun z => nomatch z) h
  | @frz a ob xs ea =>
    cases (show u = Value.ref a from rx)
    obtain ⟨_, _, _, n, _, h1⟩ := (show ObjOk X.prog X.w H s.heap a (.frz ob (.lst xs)) from I.hok a _ ea)
    exact PySem.W.kia_one PySem.W.kitx_list I.kIn ⟨_, h1, rfl⟩ e (fun z => nomatch z) h
  | @tup a xs ea =>
    cases (show u = Value.ref a from rx)
    obtain ⟨_, _, _, p⟩ := (show ObjOk X.prog X.w H s.heap a (.tup xs) from I.hok a _ ea)
    obtain ⟨o, h1, h2, _⟩ := p
    exact PySem.W.kia_one PySem.W.kitx_tuple I.kIn ⟨o, h1, h2⟩ e (fun z => nomatch z) h
  | @dK a kvs ea =>
    cases (show u = Value.ref a from rx)
    obtain ⟨_, _, vs, _, p⟩ := (show ObjOk X.prog X.w H s.heap a (.dK kvs) from I.hok a _ ea)
    obtain ⟨o, es, ep, h1, h2, _⟩ := p
    exact PySem.W.kia_one PySem.W.kitx_dict I.kIn ⟨o, h1, h2.1⟩ e (fun z => nomatch z) h
  | @dT a kvs ea =>
    cases (show u = Value.ref a from rx)
    obtain ⟨_, _, xs, _, o, es, ep, h1, h2, _⟩ := (show ObjOk X.prog X.w H s.heap a (.dT kvs) from I.hok a _ ea)
    exact PySem.W.kia_one PySem.W.kitx_dict I.kIn ⟨o, h1, h2.1⟩ e (fun z => nomatch z) h
  | @ins a C dx fs ea cl ha hn htk hm =>
    cases (show u = Value.ref a from rx)
    obtain ⟨mA, O, _⟩ := ins_get I.hok ea
    obtain ⟨od, J, _⟩ := O.look
    exact PySem.W.kia_one (PySem.W.kitx_own (cl.get _) cl.hd ha hn htk hm) I.kIn J e (fun z => nomatch z) h
end
end L2

namespace L2
open PySem PySem.Spec PyProof.Rows

/-! ### room -/
structure Room (k : Nat) (A : Around) : Prop where
  hd : A.handled = none
  dp : A.depth + 3 * k + 5 < recursionLimit
  un : A.units + 16 * k + 200 < cLine
theorem Room.mono {j k : Nat} {A : Around} (r : Room k A) (h : j ≤ k) : Room j A := ⟨r.hd, by have := r.dp; omega, by have := r.un; omega⟩
theorem Room.deeper {k : Nat} {A : Around} (r : Room (k + 1) A) (env : Env) : Room k (A.deeper env) :=
  ⟨r.hd, by have := r.dp; show A.depth + 1 + 3 * k + 5 < _; omega, by have := r.un; show A.units + 3 + 16 * k + 200 < _; omega⟩
theorem make_depth {A : Around} {C : Addr} {us : List Value} {kw : List (Str × Value)} : (A.under (.builtin "type.__call__" ⟨.ref C :: us, kw⟩)).depth = A.depth + 1 := by
  first | rfl | simp [Around.under, Code.weight, Code.isCreation, Code.isGuard, Code.isCaller, Code.frames, Code.isFrame, guardIds]
theorem make_units {A : Around} {C : Addr} {us : List Value} {kw : List (Str × Value)} : (A.under (.builtin "type.__call__" ⟨.ref C :: us, kw⟩)).units = A.units + 1 := by
  first | rfl | simp [Around.under, Code.cUnits, Code.frames, Code.isFrame]
theorem Room.make {k : Nat} {A : Around} (r : Room (k + 1) A) (C : Addr) (us : List Value) (kw : List (Str × Value)) : Room k (A.under (.builtin "type.__call__" ⟨.ref C :: us, kw⟩)) :=
  ⟨r.hd, by have := r.dp; rw [make_depth]; omega, by have := r.un; rw [make_units]; omega⟩
theorem Room.depth {k : Nat} {A : Around} (r : Room k A) : A.depth < recursionLimit := by have := r.dp; omega
theorem Room.units {k : Nat} {A : Around} (r : Room k A) : A.units + 64 < cLine := by have := r.un; omega

/-! ### argument lists and displays -/
noncomputable def tNil : TA := fun _ H Q => Q [] H
noncomputable def tCons (ta : TE) (tr : TA) : TA := fun σ H Q => ta σ H fun x H1 => tr σ H1 fun xs H2 => Q (x :: xs) H2
section
variable {X : Cx} {e : Expr} {es : List Expr} {te : TE} {t : TA} {pos : Pos}
theorem pa_nil : PA X [] tNil := fun _ _ _ _ H Q I h => Calls.spliced_nil ⟨[], H, I, .nil, h⟩
theorem pa_cons (ha : PE X e te) (hr : PA X es t) (hs : starEach (e :: es) X.env = (false, eval e X.env) :: starEach es X.env := by rfl) : PA X (e :: es) (tCons te t) := by
  intro pos pins s σ H Q I h
  rw [hs]
  show wpAny _ _ (spliced ((false, eval e X.env) :: backTo pos (starEach es X.env))) _ _ s
  refine Calls.spliced_cons (thn (ha pins s σ H _ I h) fun u s1 ⟨x, H1, I1, r1, q1⟩ => ?_)
  exact thn (hr pos pins s1 σ H1 _ I1 q1) fun us s2 ⟨xs, H2, I2, r2, q2⟩ => ⟨x :: xs, H2, I2, .cons r1 r2, q2⟩

/-- a tuple, a list of written items -/
noncomputable def tTup (t : TA) : TE := fun σ H Q => t σ H fun xs H1 => xs.length ≤ sizeLine ∧ ∀ p, H1 p = none → Q (.ref p) (upd H1 p (.tup xs))
noncomputable def tLst (t : TA) : TE := fun σ H Q => t σ H fun xs H1 => xs.length ≤ sizeLine ∧ ∀ p, H1 p = none → Q (.ref p) (upd H1 p (.lst xs))
theorem pe_tup {x1} (h : PA X es t) : PE X (.Tuple es x1 pos) (tTup t) := by
  intro pins s σ H Q I hq
  refine wpAny_Tuple_spliced (thn (h pos pins s σ H _ I hq) fun us s1 ⟨xs, H1, I1, r, z, q⟩ => ⟨by rw [← r.length]; exact z, ?_⟩)
  have hf : H1 s1.heap.objs.size = none := I1.hok.fresh (Nat.le_refl _)
  refine ⟨.ref s1.heap.objs.size, upd H1 s1.heap.objs.size (.tup xs), I1.laid (t' := s1.toks) (fun b u e => Heap.get?_push_of_some _ e) (Nat.le_refl _) ?_, rfl, q _ hf⟩
  exact ⟨z, us, r, ⟨_, Heap.get?_push_size _ rfl, rfl, _, rfl⟩⟩
theorem pe_lst (h : PA X es t) : PE X (.List es pos) (tLst t) := by
  intro pins s σ H Q I hq
  refine wpAny_List_spliced (thn (h pos pins s σ H _ I hq) fun us s1 ⟨xs, H1, I1, r, z, q⟩ => ⟨by rw [← r.length]; exact z, ?_⟩)
  have hf : H1 s1.heap.objs.size = none := I1.hok.fresh (Nat.le_refl _)
  refine ⟨.ref s1.heap.objs.size, upd H1 s1.heap.objs.size (.lst xs), I1.laid (t' := s1.toks) (fun b u e => Heap.get?_push_of_some _ e) (Nat.le_refl _) ?_, rfl, q _ hf⟩
  exact ⟨z, us, 0, r, Heap.get?_push_size _ rfl⟩
end

/-! ### what a def promises -/
/-- a def's promise: the bound arguments in the parameters' order, the heap, the wanted end, the wanted exception -/
noncomputable abbrev Sp := List V → Hp → VK → XK → Prop
/-- how an exception lies behind a call (file 08 gives it): the callers' frames, abstract heap and state ahead of the call, the wish, the exception, the state -/
noncomputable abbrev CXT := List Env → Hp → Shared → XK → Value → Shared → Prop

/-- the state at a call -/
structure Env0 (P : Program) (w : World) (K : PySem.W.Frag) (mg : Str → Option Value) (base : Heap) (A : Around) (outer : List Env) (s : Shared) (H : Hp) : Prop where
  frames : A.frames = some outer
  mod : Mod K mg base
  bs : ∀ b o, base.get? b = some o → s.heap.get? b = some o ∧ H b = none
  bsz : base.objs.size ≤ s.heap.objs.size
  funs : s.heap.FunFrames base outer
  frf : ∀ b ∈ frs outer, H b = none
  hok : HOk P w H s.heap
  bare : AllBare s.gens
/-- a call's end -/
noncomputable def CE (outer : List Env) (P : Program) (w : World) (H : Hp) (s : Shared) (Q : VK) (u : Value) (s' : Shared) : Prop :=
  ∃ v H', s'.os = s.os ∧ AllBare s'.gens ∧ Un (frs outer) [] H H' s.heap s'.heap ∧ HOk P w H' s'.heap ∧ RelV v u ∧ Q v H'
noncomputable def CR (CX : CXT) (outer : List Env) (P : Program) (w : World) (H : Hp) (s : Shared) (Q : VK) (E : XK) (r : Result) (s' : Shared) : Prop :=
  match r with
  | .ok (.ret u) => CE outer P w H s Q u s'
  | .ok _ => False
  | .error e => CX outer H s E e s'
structure FnOk (P : Program) (w : World) (K : PySem.W.Frag) (mg : Str → Option Value) (base : Heap) (CX : CXT) (k : Nat) (f : Addr) (fd : FuncData) (ps : List Str) (sp : Sp) : Prop where
  len : ∀ vs H Q E, sp vs H Q E → vs.length = ps.length
  run : ∀ (A : Around) (outer : List Env) (s : Shared) (H : Hp) (args : Args) (us : List Value) (vs : List V) (Q : VK) (E : XK), Room k A → Env0 P w K mg base A outer s H → BindsTo s fd args (ps.zip us) → Vals vs us → sp vs H Q E →
    codeAny (model P w) A (.call (.ref f) args) (CR CX outer P w H s Q E) s

theorem Env0.make {P : Program} {w : World} {K : PySem.W.Frag} {mg : Str → Option Value} {base : Heap} {A : Around} {outer : List Env} {s : Shared} {H : Hp} (e : Env0 P w K mg base A outer s H) (C : Addr) (us : List Value) (kw : List (Str × Value)) :
    Env0 P w K mg base (A.under (.builtin "type.__call__" ⟨.ref C :: us, kw⟩)) outer s H := ⟨by first | exact e.frames | (simpa [Around.under, Code.envs, Code.isFrame, pushEnvs] using e.frames), e.mod, e.bs, e.bsz, e.funs, e.frf, e.hok, e.bare⟩

section
variable {X : Cx} {pins : List (Addr × Obj)} {σ : St} {H : Hp} {s s' : Shared}
/-- from a body: what a callee wants -/
theorem Inv.env0 (I : Inv X pins σ H s) : Env0 X.prog X.w X.K X.mg X.base X.A X.stack s H :=
  ⟨I.ok.frames, I.ok.mod, I.bs, Nat.le_trans I.ok.bsz I.sz, I.stack, I.stkFree, I.hok, I.bare⟩
/-- behind a call -/
theorem Inv.after {Q : VK} {u : Value} (I : Inv X pins σ H s) (h : CE X.stack X.prog X.w H s Q u s') : EP X pins σ Q u s' := by
  obtain ⟨v, H', os, bare, un, hok, r, q⟩ := h
  obtain ⟨hh, g, d, t, os'⟩ := s'
  obtain rfl : os' = s.os := os
  exact ⟨v, H', I.call (h' := hh) (g' := g) (d' := d) (t' := t) (ch := []) un hok bare (fun b z => absurd z (by simp)), r, q⟩
end

/-! ### calls -/
/-- f(..): the written arguments, then the defaults dvs; E: what is wanted of an exception -/
noncomputable def tCall (sp : Sp) (dvs : List V) (E : XK) (t : TA) : TE := fun σ H Q => t σ H fun vs H1 => sp (vs ++ dvs) H1 Q E

/-- how the parameters are bound: us the positional arguments, kw the keywords' values by name, ds the defaults that fill up -/
noncomputable def Binds (K : PySem.W.Frag) (fd : FuncData) (ps : List Str) (ds : List Value) : Prop :=
  ∀ (s : Shared) (us : List Value), K.In s.heap → (us ++ ds).length = ps.length → BindsTo s fd ⟨us, []⟩ (ps.zip (us ++ ds))
/-- every parameter is given -/
theorem Binds.all {K : PySem.W.Frag} {fd : FuncData} {ps : List Str} (h : ∀ us : List Value, us.length = ps.length → bindArgs fd ⟨us, []⟩ = pure (ps.zip us)) : Binds K fd ps [] := fun s us _ hl => by
  rw [List.append_nil] at hl ⊢
  exact .of_eq (h us hl)

/-- an exception of a callee reaches what this body wants of exceptions -/
noncomputable def Passes (CX : CXT) (X : Cx) (E : XK) : Prop := ∀ (pins : List (Addr × Obj)) (σ : St) (H : Hp) (s : Shared) (e : Value) (s' : Shared), Inv X pins σ H s → CX X.stack H s E e s' → X.xe e s'

section
variable {X : Cx} {CX : CXT} {k : Nat} {f C : Addr} {fd : FuncData} {ps : List Str} {sp : Sp} {dvs : List V} {ds : List Value} {E : XK} {x m : Str} {p pos apos : Pos} {e o : Expr} {es : List Expr} {ta : TE} {t : TA}

/-- the callee runs -/
theorem run_fn {pins : List (Addr × Obj)} {σ : St} {H : Hp} {s : Shared} {Q : VK} {us : List Value} {vs : List V} (F : FnOk X.prog X.w X.K X.mg X.base CX k f fd ps sp) (hr : Room k X.A) (hb : Binds X.K fd ps ds) (hd : Vals dvs ds) (hx : Passes CX X E)
    (I : Inv X pins σ H s) (r : Vals vs us) (h : sp (vs ++ dvs) H Q E) : wpAny (model X.prog X.w) X.A (call (.ref f) us) (EP X pins σ Q) X.xe s := by
  have r2 : Vals (vs ++ dvs) (us ++ ds) := r.append hd
  have hl : (us ++ ds).length = ps.length := by rw [← r2.length]; exact F.len _ _ _ _ h
  refine wpAny_call (codeAny_mono (F.run X.A X.stack s H ⟨us, []⟩ (us ++ ds) (vs ++ dvs) Q E hr I.env0 (hb s us I.kIn hl) r2 h) fun r s' hq => ?_)
  cases r with
  | error e => exact hx pins σ H s e s' I hq
  | ok fl =>
    cases fl with
    | ret u => exact I.after hq
    | next => exact False.elim hq
    | brk => exact False.elim hq
    | cont => exact False.elim hq

theorem pe_call (F : FnOk X.prog X.w X.K X.mg X.base CX k f fd ps sp) (hr : Room k X.A) (hg : Gl X x) (hm : X.mg x = some (.ref f)) (hk : PySem.W.keepIn X.K (.ref f) = true) (hb : Binds X.K fd ps ds) (hd : Vals dvs ds) (hx : Passes CX X E)
    (ha : PA X (e :: es) t) (hdb : (x == ("__debug__" : Str)) = false := by decide) (he : starEach (e :: es) X.env = (false, eval e X.env) :: starEach es X.env := by rfl) (hpl : (backTo pos (starEach es X.env)).any (·.1) = false := by rfl) :
    PE X (.Call (.Name x p) (e :: es) [] pos) (tCall sp dvs E t) := by
  intro pins s σ H Q I h
  refine wpAny_Call_Name_kw (ld_glob I hg hm ?_ hdb)
  refine PySem.W.callWith_K (h₀ := X.base) I.ok.mod.kin hk (thn (ha pos pins s σ H _ I h) fun us s1 ⟨vs, H1, I1, r, q⟩ => ⟨I1.kIn, ?_⟩) he hpl
  exact run_fn F hr hb hd hx I1 r q

end

/-! ### keywords -/
section
variable {X : Cx} {CX : CXT} {k : Nat} {f C : Addr} {fd : FuncData} {ps ks : List Str} {sp : Sp} {E : XK} {x m : Str} {p pos apos kpos : Pos} {e o : Expr} {es : List Expr} {kws : List Keyword} {te ta : TE} {t tk : TA} {nm : Option Str}

variable {g : List Value → List Value → List Value} {gV : List V → List V → List V}
end

/-! ### a def's body keeps its promise -/
/-- names: the parameters first -/
structure FnScope (N P : List Str) (sc : Scope) : Prop where
  kind : sc.kind = .function
  co : sc.isCoroutine = false
  gen : sc.isGenerator = false
  nd : N.Nodup
  pre : N.take P.length = P
  par : ∀ x ∈ P, sc.names.lookup x = some .local ∨ sc.names.lookup x = some .cell
  nofree : ∀ y ∈ sc.names, y.2 ≠ .free

theorem bindL_out {kindOf : Str → Option NameKind} {x : Str} : ∀ {binds : List (Str × Value)} {m : Str → Option Value}, (∀ v, (x, v) ∉ binds) → bindL kindOf binds m x = m x
  | [], _, _ => rfl
  | (n, v) :: r, m, h => by
    unfold bindL
    rw [bindL_out fun w hw => h w (List.mem_cons_of_mem _ hw)]
    split
    · have : x ≠ n := by rintro rfl; exact h v List.mem_cons_self
      simp [this]
    · rfl
theorem bindC_out {kindOf : Str → Option NameKind} {x : Str} : ∀ {binds : List (Str × Value)} {m : Str → Option Value}, (∀ v, (x, v) ∉ binds) → bindC kindOf binds m x = m x
  | [], _, _ => rfl
  | (n, v) :: r, m, h => by
    unfold bindC
    rw [bindC_out fun w hw => h w (List.mem_cons_of_mem _ hw)]
    split
    · rfl
    · have : x ≠ n := by rintro rfl; exact h v List.mem_cons_self
      simp [this]
theorem bindL_get {kindOf : Str → Option NameKind} {x : Str} {v : Value} : ∀ {P : List Str} {vs : List Value} {i : Nat} {m : Str → Option Value}, P.Nodup → P[i]? = some x → vs[i]? = some v → kindOf x = some .local →
    bindL kindOf (P.zip vs) m x = some v
  | [], _, _, _, _, h, _, _ => by simp at h
  | _ :: _, [], _, _, _, _, h, _ => by simp at h
  | p :: P, w :: vs, 0, m, nd, h1, h2, hk => by
    simp at h1 h2; subst h1; subst h2
    show bindL kindOf ((p, w) :: P.zip vs) m p = _
    unfold bindL
    rw [bindL_out fun v hv => (List.nodup_cons.mp nd).1 (List.of_mem_zip hv).1, if_pos hk]
    simp
  | p :: P, w :: vs, i + 1, m, nd, h1, h2, hk => by
    show bindL kindOf ((p, w) :: P.zip vs) m x = _
    unfold bindL
    exact bindL_get (i := i) (List.nodup_cons.mp nd).2 (by simpa using h1) (by simpa using h2) hk
theorem bindC_get {kindOf : Str → Option NameKind} {x : Str} {v : Value} : ∀ {P : List Str} {vs : List Value} {i : Nat} {m : Str → Option Value}, P.Nodup → P[i]? = some x → vs[i]? = some v → kindOf x ≠ some .local →
    bindC kindOf (P.zip vs) m x = some v
  | [], _, _, _, _, h, _, _ => by simp at h
  | _ :: _, [], _, _, _, _, h, _ => by simp at h
  | p :: P, w :: vs, 0, m, nd, h1, h2, hk => by
    simp at h1 h2; subst h1; subst h2
    show bindC kindOf ((p, w) :: P.zip vs) m p = _
    unfold bindC
    rw [bindC_out fun v hv => (List.nodup_cons.mp nd).1 (List.of_mem_zip hv).1, if_neg hk]
    simp
  | p :: P, w :: vs, i + 1, m, nd, h1, h2, hk => by
    show bindC kindOf ((p, w) :: P.zip vs) m x = _
    unfold bindC
    exact bindC_get (i := i) (List.nodup_cons.mp nd).2 (by simpa using h1) (by simpa using h2) hk

/-- the names' values at the entry -/
noncomputable def start (N : List Str) (vs : List V) : St := vs.map some ++ List.replicate (N.length - vs.length) none

/-- the context of a def's body, at its entry; an exception leaves the frame, then lies as CX says -/
noncomputable def cxOf (CX : CXT) (P : Program) (w : World) (K : PySem.W.Frag) (mg : Str → Option Value) (base : Heap) (N : List Str) (qual : Str) (scope : Scope) (f : Addr) (cd : Value) (A : Around) (outer : List Env) (s : Shared) (H : Hp) (E : XK) : Cx where
  prog := P
  w := w
  K := K
  mg := mg
  base := base
  A := A.deeper (envOfC qual scope s.heap.objs.size f cd)
  N := N
  s₀ := s
  H₀ := H
  env := envOfC qual scope s.heap.objs.size f cd
  outer := outer
  stack := envOfC qual scope s.heap.objs.size f cd :: outer
  ex := []
  calm := true
  fn := fun _ => true
  pn := []
  xe := fun e s' => wpAny (model P w) (A.deeper (envOfC qual scope s.heap.objs.size f cd)) (leaving (envOfC qual scope s.heap.objs.size f cd) e) (fun _ s'' => CX outer H s E e s'') (fun e' s'' => CX outer H s E e' s'') s'

theorem cell_has {sc : Scope} {n : Nat} {x : Str} (h : sc.names.lookup x = some .cell) : ∃ c, (cellsFrom n sc.names []).lookup x = some c := by
  have q := PySem.W.cellsFrom_some sc.names n [] (.inl h)
  exact Option.isSome_iff_exists.mp q

theorem inv_start {CX : CXT} {P : Program} {w : World} {K : PySem.W.Frag} {mg : Str → Option Value} {base : Heap} {N ps : List Str} {qual : Str} {scope : Scope} {f : Addr} {cd : Value} {A : Around} {outer : List Env} {s s1 : Shared} {H : Hp} {E : XK} {us : List Value} {vs : List V}
    (S : FnScope N ps scope) (hd : A.handled = none) (e0 : Env0 P w K mg base A outer s H) (hl : vs.length = ps.length) (r : Vals vs us)
    (x : InCallC s s.heap.objs.size (bindL (envOfC qual scope s.heap.objs.size f cd).kindOf (ps.zip us) fun _ => none) (cellsFrom (s.heap.objs.size + 1) scope.names []) (bindC (envOfC qual scope s.heap.objs.size f cd).kindOf (ps.zip us) fun _ => none) s1) :
    Inv (cxOf CX P w K mg base N qual scope f cd A outer s H E) [] (start N vs) H s1 := by
  have hpl : ps.length ≤ N.length := by have := congrArg List.length S.pre; rw [List.length_take] at this; omega
  obtain ⟨h1, tk, rfl, hk⟩ := x.done
  have noA : ∀ b : Addr, b ∉ (cxOf CX P w K mg base N qual scope f cd A outer s H E).ex := fun b z => absurd (show b ∈ ([] : List Addr) from z) (by simp)
  refine ⟨⟨e0.mod, S.kind, rfl, rfl, Nat.le_refl _, fun y z c h1 h2 => ?_, fun y hy => ?_, fun y c _ h => ?_, fun _ => hd, Around.frames_deeper e0.frames, .inr ⟨rfl, rfl⟩, fun b z => absurd z (noA b), e0.bs, e0.bsz, fun b _ _ => noA b, fun b z => absurd z (noA b), e0.funs, e0.frf⟩,
    rfl, e0.bare, Un.kept hk, ⟨_, x.toInCall.ns, fun i y v h1 h2 h3 => ?_⟩, fun y c h => ⟨_, x.cell y c h⟩, e0.hok.fresh (Nat.le_refl _), fun y c h => ?_, fun p hp => absurd (show p ∈ ([] : List (Addr × Obj)) from hp) (by simp), e0.hok.kept hk, ?_⟩
  · exact name_of_addr x.apart (PySem.mem_of_lookup h1) (PySem.mem_of_lookup h2)
  · have hy : scope.names.lookup y = some .cell ∨ scope.names.lookup y = some .free := hy
    rcases hy with hy | hy
    · exact cell_has hy
    · exact absurd rfl (S.nofree _ (PySem.mem_of_lookup hy))
  · exact Nat.le_of_lt (x.above y c (PySem.mem_of_lookup h))
  · have hi : i < vs.length := by
      unfold start at h2
      by_cases hi : i < vs.length
      · exact hi
      · rw [List.getElem?_append_right (by simpa using hi)] at h2
        rw [List.getElem?_replicate] at h2
        split at h2 <;> cases h2
    have ha : vs[i]? = some v := by
      unfold start at h2
      rw [List.getElem?_append_left (by simpa using hi), List.getElem?_map] at h2
      cases e : vs[i]? with
      | none => rw [e] at h2; cases h2
      | some a => rw [e] at h2; cases h2; rfl
    obtain ⟨u, hu, rv⟩ := r.get ha
    have hp : ps[i]? = some y := by
      rw [← S.pre, List.getElem?_take_of_lt (by omega)]; exact h1
    have ndP : ps.Nodup := by rw [← S.pre]; exact S.nd.sublist (List.take_sublist _ _)
    refine ⟨u, rv, ?_⟩
    rcases S.par y (List.mem_of_getElem? hp) with k | k
    · exact .inl ⟨k, bindL_get ndP hp hu k⟩
    · obtain ⟨c, e⟩ := cell_has (n := s.heap.objs.size + 1) k
      refine .inr ⟨.inl k, c, e, ?_⟩
      have q := x.cell y c e
      rw [bindC_get ndP hp hu (by show scope.names.lookup y ≠ _; rw [k]; decide)] at q
      exact q
  · exact e0.hok.fresh (Nat.le_of_lt (x.above y c (PySem.mem_of_lookup h)))
  · unfold start
    show _ = N.length
    rw [List.length_append, List.length_map, List.length_replicate]
    omega

/-- THE RULE: a def (or a method) of the text, by its body. The body's reading t is chosen for each entry; it is run at the parameters' values -/
theorem fn_of {CX : CXT} {P : Program} {w : World} {K : PySem.W.Frag} {mg : Str → Option Value} {base : Heap} {k : Nat} {f : Addr} {name qual : Str} {params : Arguments} {body : List Stmt} {scope : Scope} {dV kV doc pm cdv ct oc : Value} {an od : Option Addr}
    {osl : Array (Option Value)} {N ps : List Str} {sp : Sp} (lk : K.lookup f = some ⟨oc, od, .func (PySem.W.fnOf name qual params body scope dV kV doc pm an cdv ct), osl⟩) (hcd : PySem.W.codeIn K cdv qual = true) (S : FnScope N ps scope)
    (len : ∀ vs H Q E, sp vs H Q E → vs.length = ps.length)
    (hbody : ∀ (A : Around) (outer : List Env) (s : Shared) (H : Hp) (vs : List V) (Q : VK) (E : XK), Room k (A.deeper (envOfC qual scope s.heap.objs.size f cdv)) → sp vs H Q E →
      ∃ t, PSs (cxOf CX P w K mg base N qual scope f cdv A outer s H E) body t ∧ t { nx := fun _ H' => Q .non H', rt := Q } (start N vs) H) :
    FnOk P w K mg base CX (k + 1) f (PySem.W.fnOf name qual params body scope dV kV doc pm an cdv ct) ps sp := by
  refine ⟨len, fun A outer s H args us vs Q E hr e0 hb r hsp => ?_⟩
  have hl := len _ _ _ _ hsp
  have KX : K.In s.heap := e0.mod.kin.keeps fun b o e => (e0.bs b o e).1
  have lim : s.heap.NoLimit := e0.mod.nolimit.keeps fun b o e => (e0.bs b o e).1
  have hkind : ∀ y ∈ ps.zip us, scope.names.lookup y.1 = some .local ∨ (scope.names.lookup y.1 = some .cell ∧ ((cellsFrom (s.heap.objs.size + 1) scope.names []).lookup y.1).isSome = true) := fun ⟨n, v⟩ hy => by
    rcases S.par n (List.of_mem_zip hy).1 with q | q
    · exact .inl q
    · exact .inr ⟨q, PySem.W.cellsFrom_some _ _ _ (.inl q)⟩
  refine codeAny_call_function hr.depth (KX _ _ lk) rfl S.co S.gen rfl (PySem.W.codeRec_of KX hcd) (hb _ _ _ _ ?_)
  refine wpAny_newFunctionEnv_cells S.kind hkind fun env he s1 x => ?_
  subst he
  refine ⟨lim.keeps x.toInCall.keep, codeAny_func ?_⟩
  obtain ⟨t, ht, hq⟩ := hbody A outer s H vs Q E (hr.deeper _) hsp
  have I : Inv (cxOf CX P w K mg base N qual scope f cdv A outer s H E) [] (start N vs) H s1 := inv_start S hr.hd e0 hl r x
  refine wpAny_mono (ht [] s1 (start N vs) H _ I hq) (fun fl s' hs => ?_) fun e s' hs => hs
  have fin : ∀ {σ' : St} {H' : Hp} {v : V} {u : Value}, Inv (cxOf CX P w K mg base N qual scope f cdv A outer s H E) [] σ' H' s' → RelV v u → Q v H' → CE outer P w H s Q u s' :=
    fun {σ' H' v u} J rv q => ⟨v, H', J.os, J.bare, J.base, J.hok, rv, q⟩
  cases fl with
  | ret u =>
    obtain ⟨v, σ', H', J, rv, q⟩ := hs
    exact fin J rv q
  | next =>
    obtain ⟨σ', H', J, q⟩ := hs
    exact fin (v := V.non) (u := Value.none) J rfl q
  | brk =>
    obtain ⟨_, _, _, q⟩ := hs
    exact False.elim q
  | cont =>
    obtain ⟨_, _, _, q⟩ := hs
    exact False.elim q
end L2

namespace L2
open PySem PySem.Spec PyProof.Rows
section
variable {X : Cx} {x : Str} {p pos : Pos} {e : Expr} {es : List Expr} {t : TA} {id T : String} {r : List V → Hp → VK → Prop}

noncomputable def tCB (r : List V → Hp → VK → Prop) (t : TA) : TE := fun σ H Q => t σ H fun vs H1 => r vs H1 Q
/-- f(e, ..), f a built-in function -/
theorem pe_callB (hc : CallR X (.builtin id) r) (hg : Gl X x) (hm : X.mg x = none) (hv : bootBuiltins x = some (.builtin id)) (ha : PA X (e :: es) t) (hn : x ≠ "__name__" := by decide) (hdb : (x == ("__debug__" : Str)) = false := by decide)
    (he : starEach (e :: es) X.env = (false, eval e X.env) :: starEach es X.env := by rfl) (hpl : (backTo pos (starEach es X.env)).any (·.1) = false := by rfl) : PE X (.Call (.Name x p) (e :: es) [] pos) (tCB r t) := by
  intro pins s σ H Q I h
  refine wpAny_Call_Name_kw (ld_blt I hg hm hv ?_ hn hdb)
  exact PyProof.Rows.callWith_builtin1 (thn (ha pos pins s σ H _ I h) fun us s1 ⟨vs, H1, I1, r1, q1⟩ => hc pins s1 σ H1 vs us Q I1 r1 q1) he hpl
end
end L2

namespace HT
open PySem PyProof.Rows

section
open PySem.SeqAt
open PySem.AutoSeq1 (wpAny_loadPart')
open PySem.MeetsSeq PySem.MeetsSeq2 PySem.MeetsSeq3

end

section
variable {prog : Program} {w : World} {A : Around} {E : Value → Shared → Prop} {s : Shared}

/-- t + u, t not empty -/
theorem cat_tup {t b : Addr} {vs ws : List Value} {Q : Value → Shared → Prop} (ht : IsTup s.heap t vs.toArray) (hb : IsTup s.heap b ws.toArray) (hv : vs ≠ [])
    (h1 : ws = [] → Q (.ref t) s) (h2 : ws ≠ [] → Q (.ref s.heap.objs.size) { s with heap := s.heap.push { cls := .type "tuple", data := .seq (vs ++ ws).toArray } })
    (hsz : vs.length + ws.length ≤ sizeLine) : wpAny (model prog w) A (binaryOp .Add (.ref t) (.ref b)) Q E s := by
  obtain ⟨⟨cls, dd, data, sl⟩, ho, hc, n, hd⟩ := id ht
  obtain ⟨⟨cls2, dd2, data2, sl2⟩, ho2, hc2, n2, hd2⟩ := id hb
  simp only at hc hd hc2 hd2
  subst hc hd hc2 hd2
  have e : vs.toArray ++ ws.toArray = (vs ++ ws).toArray := by simp
  by_cases hw : ws = []
  · exact concat_meets ⟨_, ho, rfl⟩ ⟨_, ho2, rfl⟩ noFill_tuple_add seq_tuple_add PySem.F.slot_tuple_add PySem.F.entry_tuple_add (PySem.F.args_tuple_add_2 _ _)
      (tuple_addW1 t b vs.toArray ws.toArray n n2 dd dd2 sl sl2 (by simpa using hv) (by simp [hw])) ⟨ho, ho2, h1 hw⟩
  · refine concat_meets ⟨_, ho, rfl⟩ ⟨_, ho2, rfl⟩ noFill_tuple_add seq_tuple_add PySem.F.slot_tuple_add PySem.F.entry_tuple_add (PySem.F.args_tuple_add_2 _ _)
      (tuple_addW2 t b vs.toArray ws.toArray n n2 dd dd2 sl sl2 (by simpa using hv) (by simpa using hw) (by rw [List.size_toArray, List.size_toArray]; exact hsz)) ⟨ho, ho2, ?_⟩
    rw [e]
    exact h2 hw

/-! ### t[a:b], not the whole -/
/-- a slice's bound as a place among n (d where it is left out) -/
noncomputable def sIx (n d : Nat) : Option Int → Nat
  | none => d
  | some v => if v < 0 then (v + (n : Int)).toNat else min v.toNat n
theorem sIx_nat (n d k : Nat) : sIx n d (some (k : Int)) = min k n := by
  show (if (k : Int) < 0 then ((k : Int) + (n : Int)).toNat else min (k : Int).toNat n) = min k n
  rw [if_neg (by omega), Int.toNat_natCast]
theorem sIx_le (n d : Nat) (hd : d ≤ n) (o : Option Int) : sIx n d o ≤ n := by
  cases o with
  | none => exact hd
  | some v =>
    show (if v < 0 then (v + (n : Int)).toNat else min v.toNat n) ≤ n
    by_cases hv : v < 0
    · rw [if_pos hv]; omega
    · rw [if_neg hv]; exact Nat.min_le_right _ _
theorem clip_eq (v : Int) (n d : Nat) : (if v < 0 then max (v + (n : Int)) 0 else min v (n : Int)) = ((sIx n d (some v) : Nat) : Int) := by
  show (if v < 0 then max (v + (n : Int)) 0 else min v (n : Int)) = (((if v < 0 then (v + (n : Int)).toNat else min v.toNat n) : Nat) : Int)
  by_cases hv : v < 0
  · simp only [if_pos hv]; omega
  · simp only [if_neg hv]; omega
theorem adjust_gen (lo hi : Option Int) (n : Nat) : Builtin.Slice.sliceAdjust lo hi 1 (n : Int) = (((sIx n 0 lo : Nat) : Int), ((sIx n n hi : Nat) : Int)) := by
  have h1 : ¬ ((1 : Int) < 0) := by omega
  unfold Builtin.Slice.sliceAdjust
  simp only [h1, if_false]
  refine Prod.ext ?_ ?_
  · cases lo with
    | none => rfl
    | some v => exact clip_eq v n 0
  · cases hi with
    | none => rfl
    | some v => exact clip_eq v n n
theorem places_gen (i j : Nat) : Builtin.Slice.slicePlaces (i : Int) (j : Int) 1 = j - i := by
  unfold Builtin.Slice.slicePlaces
  have h1 : (1 : Int) > 0 := by omega
  simp only [h1, if_true, Int.ediv_one]
  split <;> omega
theorem slicePart_ {v : Value} {o : Option Int} {Q : Option Int → Shared → Prop} (p : IsPart v o) (h : Q o s) : wpAny (model prog w) A (Builtin.Slice.slicePartIndex v) Q E s := by
  cases p with
  | none => exact slicePart_none h
  | int i t => exact slicePart_int h
theorem sliceApplied_gen {sl : Addr} {vl vu : Value} {lo hi : Option Int} {n : Nat} {Q : Int × Int × Nat → Shared → Prop} (hs : s.heap.IsSliceOf sl vl vu .none) (pl : IsPart vl lo) (pu : IsPart vu hi)
    (h : Q (((sIx n 0 lo : Nat) : Int), 1, sIx n n hi - sIx n 0 lo) s) : wpAny (model prog w) A (Builtin.Slice.sliceApplied (.ref sl) (pure (n : Int))) Q E s := by
  obtain ⟨os, hos, hcs, hds⟩ := id hs
  unfold Builtin.Slice.sliceApplied Builtin.Slice.sliceFields
  refine wpAny_bind (wpAny_bind (wpAny_field hos hds (x := vl) rfl (wpAny_bind (wpAny_field hos hds (x := vu) rfl (wpAny_bind (wpAny_field hos hds (x := .none) rfl (wpAny_pure ?_)))))))
  refine wpAny_bind (slicePart_none ?_)
  show wpAny _ _ (if ((1 : Int) == 0) = true then _ else _) _ _ s
  rw [if_neg (by decide)]
  refine wpAny_bind (slicePart_ pl (wpAny_bind (slicePart_ pu (wpAny_bind (wpAny_pure ?_)))))
  show wpAny _ _ (match Builtin.Slice.sliceAdjust lo hi 1 (n : Int) with | (lo, hi) => pure (lo, (1 : Int), Builtin.Slice.slicePlaces lo hi 1)) _ _ s
  rw [adjust_gen lo hi n]
  show wpAny _ _ (pure (((sIx n 0 lo : Nat) : Int), (1 : Int), Builtin.Slice.slicePlaces ((sIx n 0 lo : Nat) : Int) ((sIx n n hi : Nat) : Int) 1)) _ _ s
  rw [places_gen]
  exact wpAny_pure h
theorem pick_gen (xs : Array Value) (i k : Nat) : ((List.range k).filterMap fun (m : Nat) => xs[((i : Int) + (m : Int) * 1).toNat]?).toArray = ((xs.toList.drop i).take k).toArray := by
  have e : (fun (m : Nat) => xs[((i : Int) + (m : Int) * 1).toNat]?) = fun m => xs[i + m]? := by
    funext m
    have : ((i : Int) + (m : Int) * 1).toNat = i + m := by omega
    rw [this]
  rw [e]
  have := pick_run xs i k
  rw [List.filterMap_map] at this
  have e2 : ((fun x => xs[x]?) ∘ fun x => i + x) = fun m => xs[i + m]? := rfl
  rw [e2] at this
  rw [this]

theorem getItem_tuple_cut {t sl : Addr} {items : Array Value} {vl vu : Value} {lo hi : Option Int} {Q : Value → Shared → Prop} (ht : IsTup s.heap t items) (hs : s.heap.IsSliceOf sl vl vu .none) (pl : IsPart vl lo) (pu : IsPart vu hi)
    (hw : ¬ (sIx items.size 0 lo = 0 ∧ sIx items.size items.size hi = items.size))
    (h : Q (.ref s.heap.objs.size) { s with heap := s.heap.push { cls := .type "tuple", data := .seq ((items.toList.drop (sIx items.size 0 lo)).take (sIx items.size items.size hi - sIx items.size 0 lo)).toArray } })
    (hsz : items.size ≤ sizeLine) : wpAny (model prog w) A (getItem (.ref t) (.ref sl)) Q E s := by
  have htake : sizeOk (.seq ((items.toList.drop (sIx items.size 0 lo)).take (sIx items.size items.size hi - sIx items.size 0 lo)).toArray) := by
    show ((items.toList.drop (sIx items.size 0 lo)).take (sIx items.size items.size hi - sIx items.size 0 lo)).toArray.size ≤ sizeLine
    rw [List.size_toArray, List.length_take, List.length_drop, Array.length_toList]
    omega
  have hj : sIx items.size items.size hi ≤ items.size := sIx_le _ _ (Nat.le_refl _) hi
  obtain ⟨os, hos, hcs, hds⟩ := id hs
  have hTs : s.TypeIs (.ref sl) "slice" := ⟨os, hos, hcs⟩
  unfold getItem
  try with_reducible refine wpAny_holding ?_
  first | refine wpAny_bind (wpAny_pure ?_) | skip
  refine wpAny_bind (wpAny_sequenceKey ht.typeIs (by decide) ?_)
  refine wpAny_bind (wpAny_callSpecial?_slot (name := Str.ofString "__getitem__") ht.typeIs PyProof.Rows.slot_tuple_getitem
    (wpAny_call_entry PyProof.Rows.slot_tuple_getitem ht.typeIs entry_tuple_getitem ?_ (args_tuple_getitem _ _)))
  show wpAny _ _ (Builtin.Tuple.tupleItemsOf (.ref t) >>= _) _ _ s
  refine wpAny_bind (tupleItemsOf_ ht ?_)
  refine wpAny_bind (wpAny_typeOf hTs ?_)
  rw [if_pos (by decide)]
  refine wpAny_bind (sliceApplied_gen hs pl pu ?_)
  have hno : ¬ ((((sIx items.size 0 lo : Nat) : Int) == 0 && (1 : Int) == 1 && (sIx items.size items.size hi - sIx items.size 0 lo) == items.size) = true) := by
    intro q
    rw [Bool.and_eq_true, Bool.and_eq_true] at q
    have q1 : ((sIx items.size 0 lo : Nat) : Int) = 0 := eq_of_beq q.1.1
    have q2 : sIx items.size items.size hi - sIx items.size 0 lo = items.size := eq_of_beq q.2
    exact hw ⟨by omega, by omega⟩
  show wpAny _ _ (if (((sIx items.size 0 lo : Nat) : Int) == 0 && (1 : Int) == 1 && (sIx items.size items.size hi - sIx items.size 0 lo) == items.size) = true then _ else _) _ _ s
  rw [if_neg hno, pick_gen]
  first
    | exact wpAny_bind (m := Builtin.Tuple.tupleExact _) (wpAny_newObj_type (wpAny_pure ⟨_, rfl, wpAny_pure h⟩) htake)
    | exact wpAny_bind (m := Builtin.Tuple.tupleExact _) (wpAny_newObj_type (wpAny_bind (wpAny_pure (wpAny_pure ⟨_, rfl, wpAny_pure h⟩))) htake)
    | exact wpAny_bind (wpAny_bind (m := Builtin.Tuple.tupleExact _) (wpAny_newObj_type (wpAny_pure (wpAny_pure ⟨_, rfl, wpAny_pure h⟩)) htake))
    | exact wpAny_bind (wpAny_bind (m := Builtin.Tuple.tupleExact _) (wpAny_newObj_type (wpAny_pure ⟨_, rfl, wpAny_pure h⟩) htake))
end
end HT

namespace L2
open PySem PySem.Spec PyProof.Rows

/-! ### the parts of a slice -/
noncomputable abbrev TO := St → Hp → (Option Int → Hp → Prop) → Prop
/-- a slice's part (left out, or an int) -/
noncomputable def PO (X : Cx) (e : Option Expr) (t : TO) : Prop :=
  ∀ (pins : List (Addr × Obj)) (s : Shared) (σ : St) (H : Hp) (Q : Option Int → Hp → Prop), Inv X pins σ H s → t σ H Q →
    wpAny (model X.prog X.w) X.A (evalPart e X.env) (fun u s' => ∃ o H', Inv X pins σ H' s' ∧ IsPart u o ∧ Q o H') X.xe s
noncomputable def tNoPart : TO := fun _ H Q => Q none H
noncomputable def tPart (t : TE) : TO := fun σ H Q => t σ H fun x H1 => ∃ i, x = .int i ∧ Q (some i) H1

section
variable {X : Cx} {e : Expr} {te : TE} {lo hi : Option Expr} {tl th : TO} {pos p2 : Pos}

theorem po_none : PO X none tNoPart := by
  intro pins s σ H Q I h
  rw [evalPart_none]
  exact wpAny_pure ⟨none, H, I, .none, h⟩
theorem po_some (h : PE X e te) : PO X (some e) (tPart te) := by
  intro pins s σ H Q I hw
  rw [evalPart_some]
  refine thn (h pins s σ H _ I hw) fun u s1 ⟨x, H1, I1, r1, q1⟩ => ?_
  obtain ⟨i, rfl, q⟩ := q1
  obtain ⟨t, rfl⟩ := r1
  exact ⟨some i, H1, I1, .int i t, q⟩

/-- what a slice of a value is, by values: the slice object stands at sl -/
noncomputable def SlR (X : Cx) (r : V → Option Int → Option Int → Hp → VK → Prop) : Prop :=
  ∀ (pins : List (Addr × Obj)) (s : Shared) (σ : St) (H : Hp) (x : V) (v vl vu : Value) (lo hi : Option Int) (sl : Addr) (Q : VK), Inv X pins σ H s → RelV x v → s.heap.IsSliceOf sl vl vu .none → IsPart vl lo → IsPart vu hi → r x lo hi H Q →
    ∃ T id, typeLookup (.type T) "__getitem__" = pure (some (.builtin id)) ∧ s.TypeIs v T ∧ wpAny (model X.prog X.w) X.A (getItem v (.ref sl)) (EP X pins σ Q) X.xe s
noncomputable def tSl (r : V → Option Int → Option Int → Hp → VK → Prop) (te : TE) (tl th : TO) : TE := fun σ H Q => te σ H fun x H1 => tl σ H1 fun l H2 => th σ H2 fun u H3 => r x l u H3 Q
/-- a[lo:hi], any a -/
theorem pe_slice {r : V → Option Int → Option Int → Hp → VK → Prop} (hr : SlR X r) (he : PE X e te) (hl : PO X lo tl) (hu : PO X hi th) : PE X (.Subscript e (.Slice lo hi none p2) pos) (tSl r te tl th) := by
  intro pins s σ H Q I h
  refine Subscript_ (thn (he pins s σ H _ I h) fun v s1 ⟨x, H1, I1, r1, q1⟩ => ?_)
  refine wpAny_Slice (thn (hl pins s1 σ H1 _ I1 q1) fun vl s2 ⟨l, H2, I2, pl, q2⟩ => thn (hu pins s2 σ H2 _ I2 q2) fun vu s3 ⟨u, H3, I3, pu, q3⟩ => ?_)
  rw [evalPart_none]
  refine wpAny_pure ?_
  have I4 : Inv X pins σ H3 { s3 with heap := s3.heap.push { cls := .type "slice", data := .fields #[vl, vu, .none] } } := I3.kept (t' := s3.toks) fun b ob q => Heap.get?_push_of_some _ q
  obtain ⟨T, id, hT, ht, hg⟩ := hr pins { s3 with heap := s3.heap.push { cls := .type "slice", data := .fields #[vl, vu, .none] } } σ H3 x v vl vu l u s3.heap.objs.size Q I4 r1 (Heap.IsSliceOf.new ..) pl pu q3
  show wpAny (model X.prog X.w) X.A (subscriptTail e (.Slice lo hi none p2) v (.ref s3.heap.objs.size)) (EP X pins σ Q) X.xe { s3 with heap := s3.heap.push { cls := .type "slice", data := .fields #[vl, vu, .none] } }
  exact tail_any (ops := [.ref s3.heap.objs.size, v]) ht hT hg (by with_unfolding_all rfl)

/-- the items of xs[lo:hi] -/
noncomputable def cutV (xs : List V) (lo hi : Option Int) : List V := (xs.drop (HT.sIx xs.length 0 lo)).take (HT.sIx xs.length xs.length hi - HT.sIx xs.length 0 lo)
theorem cutV_length (xs : List V) (lo hi : Option Int) : (cutV xs lo hi).length ≤ xs.length := by
  unfold cutV
  rw [List.length_take, List.length_drop]
  omega
/-- t[lo:hi], not the whole of it (the whole would be t itself) -/
noncomputable def rSlT (K : PySem.W.Frag) : V → Option Int → Option Int → Hp → VK → Prop := fun x lo hi H Q => ∃ a xs, x = .ref a ∧ SqT K H a xs ∧
  ¬ (HT.sIx xs.length 0 lo = 0 ∧ HT.sIx xs.length xs.length hi = xs.length) ∧ ∀ p, H p = none → Q (.ref p) (upd H p (.tup (cutV xs lo hi)))
theorem sl_tup : SlR X (rSlT X.K) := by
  intro pins s σ H x v vl vu lo hi sl Q I rx hs pl pu h
  obtain ⟨a, xs, rfl, hx, hw, q⟩ := h
  cases rx
  obtain ⟨its, r, ht, hz⟩ := I.tuple hx
  have hlen : its.toArray.size = xs.length := by rw [List.size_toArray]; exact r.length.symm
  refine ⟨"tuple", _, PyProof.Rows.slot_tuple_getitem.lookup, ht.typeIs, ?_⟩
  refine HT.getItem_tuple_cut ht hs pl pu (by rw [hlen]; exact hw) ?_ (by rw [hlen]; exact hz)
  rw [hlen]
  refine ⟨.ref s.heap.objs.size, _, I.laid (t' := s.toks) (o := .tup (cutV xs lo hi)) (fun b ob q => Heap.get?_push_of_some _ q) (Nat.le_refl _) ?_, rfl, q _ (I.hok.fresh (Nat.le_refl _))⟩
  exact ⟨Nat.le_trans (cutV_length xs lo hi) hz, _, (r.drop (HT.sIx xs.length 0 lo)).take (HT.sIx xs.length xs.length hi - HT.sIx xs.length 0 lo), IsTup.new _ _⟩

/-! ### t < u, t + u -/
/-- t + u, t not empty: u empty gives t itself -/
noncomputable def rCatT (K : PySem.W.Frag) : R2 := fun x y H Q => ∃ a b xs ys, x = .ref a ∧ y = .ref b ∧ SqT K H a xs ∧ SqT K H b ys ∧ xs ≠ [] ∧ xs.length + ys.length ≤ sizeLine ∧
  (ys = [] → Q (.ref a) H) ∧ (ys ≠ [] → ∀ p, H p = none → Q (.ref p) (upd H p (.tup (xs ++ ys))))
theorem Vals.nil_iff {xs : List V} {us : List Value} (r : Vals xs us) : us = [] ↔ xs = [] := by
  cases r with
  | nil => simp
  | cons _ _ => simp
theorem op_catT : OpR X (binaryOp .Add) (rCatT X.K) := by
  intro pins s σ H x y v u Q I rx ry h
  obtain ⟨a, b, xs, ys, rfl, rfl, ha, hb, hx, hz, q1, q2⟩ := h
  cases rx
  cases ry
  obtain ⟨its, r1, p1, _⟩ := I.tuple ha
  obtain ⟨its2, r2, p2, _⟩ := I.tuple hb
  refine HT.cat_tup p1 p2 (fun z => hx (r1.nil_iff.mp z)) (fun z => ⟨.ref a, H, I, rfl, q1 (r2.nil_iff.mp z)⟩) (fun z => ?_) (by rw [← r1.length, ← r2.length]; exact hz)
  refine ⟨.ref s.heap.objs.size, _, I.laid (t' := s.toks) (o := .tup (xs ++ ys)) (fun b ob q => Heap.get?_push_of_some _ q) (Nat.le_refl _) ?_, rfl, q2 (fun w => z (r2.nil_iff.mpr w)) _ (I.hok.fresh (Nat.le_refl _))⟩
  exact ⟨by rw [List.length_append]; exact hz, _, r1.append r2, IsTup.new _ _⟩
end
end L2

namespace L2
open PySem PySem.Spec PyProof.Rows

/-! ### places -/
/-- the place that an index of any sign means -/
noncomputable def ixN (n : Nat) (i : Int) : Option Nat := if 0 ≤ i then (if i < n then some i.toNat else none) else if -(n : Int) ≤ i then some (i + n).toNat else none
noncomputable def atI {α : Type} (xs : List α) (i : Int) : Option α := (ixN xs.length i).bind fun j => xs[j]?
theorem ixN_seq {n : Nat} {i : Int} {j : Nat} (h : ixN n i = some j) : seqIndex? i n = some j ∧ j < n ∧ -(n : Int) ≤ i ∧ i < n := by
  unfold ixN at h
  by_cases h0 : 0 ≤ i
  · rw [if_pos h0] at h
    by_cases h1 : i < n
    · rw [if_pos h1] at h
      have e : i.toNat = j := Option.some.inj h
      exact ⟨by rw [seqIndex_of h0 h1, e], by omega, by omega, h1⟩
    · rw [if_neg h1] at h; cases h
  · rw [if_neg h0] at h
    by_cases h1 : -(n : Int) ≤ i
    · rw [if_pos h1] at h
      have e : (i + n).toNat = j := Option.some.inj h
      exact ⟨by rw [seqIndex_neg (by omega) h1, e], by omega, h1, by omega⟩
    · rw [if_neg h1] at h; cases h
theorem atI_get {α : Type} {xs : List α} {i : Int} {v : α} (h : atI xs i = some v) : ∃ j, seqIndex? i xs.length = some j ∧ xs[j]? = some v ∧ j < xs.length ∧ -(xs.length : Int) ≤ i ∧ i < xs.length := by
  unfold atI at h
  cases e : ixN xs.length i with
  | none => rw [e] at h; cases h
  | some j =>
    rw [e] at h
    obtain ⟨h1, h2, h3, h4⟩ := ixN_seq e
    exact ⟨j, h1, h, h2, h3, h4⟩
theorem atI_nat {α : Type} {xs : List α} {j : Nat} {v : α} (h : xs[j]? = some v) : atI xs (j : Int) = some v := by
  have hj : j < xs.length := (List.getElem?_eq_some_iff.mp h).1
  have e : ixN xs.length (j : Int) = some j := by
    unfold ixN
    rw [if_pos (by omega), if_pos (by omega)]; simp
  unfold atI; rw [e]; exact h

/-! ### what may be subscripted -/
/-- what stands as an index of a plain subscript -/
noncomputable def PlainIx (b : Expr) : Prop := ∀ o i, subscripted b false o i = operate [o, i] (getItem o i)
/-- a subscript by values -/
noncomputable def IxR (X : Cx) (r : R2) : Prop :=
  ∀ (value slice : Expr) (pins : List (Addr × Obj)) (s : Shared) (σ : St) (H : Hp) (x y : V) (v u : Value) (Q : VK), Inv X pins σ H s → RelV x v → RelV y u → r x y H Q →
    subscripted slice false v u = operate [v, u] (getItem v u) → wpAny (model X.prog X.w) X.A (subscriptTail value slice v u) (EP X pins σ Q) X.xe s
/-- a call of a builtin's method by values: the receiver, the arguments -/
noncomputable def MtR (X : Cx) (id : String) (r : V → List V → Hp → VK → Prop) : Prop :=
  ∀ (pins : List (Addr × Obj)) (s : Shared) (σ : St) (H : Hp) (x : V) (xs : List V) (v : Value) (us : List Value) (Q : VK), Inv X pins σ H s → RelV x v → Vals xs us → r x xs H Q →
    wpAny (model X.prog X.w) X.A (call (.builtin id) (v :: us)) (EP X pins σ Q) X.xe s
section
variable {X : Cx} {a b : Expr} {ta tb : TE} {pos : Pos}
/-- a[b] -/
theorem pe_ix {r : R2} (hr : IxR X r) (ha : PE X a ta) (hb : PE X b tb) (hs : PlainIx b) : PE X (.Subscript a b pos) (tOp r ta tb) := by
  intro pins s σ H Q I h
  exact Subscript_ (binT ha hb I h fun v u s2 x y H2 I2 rx ry q => hr a b pins s2 σ H2 x y v u Q I2 rx ry q (hs _ _))

noncomputable def rIxL (K : PySem.W.Frag) : R2 := fun x y H Q => ∃ p xs i v, x = .ref p ∧ y = .int i ∧ SqL K H p xs ∧ atI xs i = some v ∧ Q v H
noncomputable def rIxT (K : PySem.W.Frag) : R2 := fun x y H Q => ∃ p xs i v, x = .ref p ∧ y = .int i ∧ SqT K H p xs ∧ atI xs i = some v ∧ Q v H
theorem ix_list : IxR X (rIxL X.K) := by
  intro value slice pins s σ H x y v u Q I rx ry h hs
  obtain ⟨p, xs, i, z, rfl, rfl, hq, he, q⟩ := h
  cases rx
  obtain ⟨t, rfl⟩ := ry
  obtain ⟨its, r, pl, hz⟩ := I.list hq
  obtain ⟨j, h1, h2, h3, h4, h5⟩ := atI_get he
  obtain ⟨w, ew, rw'⟩ := r.get h2
  have hl := r.length
  have hn := line63
  have fin : EP X pins σ Q w s := ⟨z, H, I, rw', q⟩
  by_cases h0 : 0 ≤ i
  · have hj : i.toNat = j := by
      rw [seqIndex_of h0 h5] at h1
      exact Option.some.inj h1
    exact item_listR pl.isList h0 (by omega) (by rw [hj]; simpa using ew) fin hs
  · have hj : (i + (its.toArray.size : Int)).toNat = j := by
      rw [seqIndex_neg (by omega) h4] at h1
      rw [List.size_toArray, ← hl]
      exact Option.some.inj h1
    exact subscriptTail_builtinR (x := w) pl.isList.typeIs slot_list_getitem.lookup
      (wpAny_getItem_list_neg (Q := fun r s' => r = w ∧ EP X pins σ Q r s') pl.isList (by omega) (by rw [List.size_toArray] <;> omega) (by omega) (by rw [hj]; simpa using ew) ⟨rfl, fin⟩) hs
theorem ix_tup : IxR X (rIxT X.K) := by
  intro value slice pins s σ H x y v u Q I rx ry h hs
  obtain ⟨p, xs, i, z, rfl, rfl, hq, he, q⟩ := h
  cases rx
  obtain ⟨t, rfl⟩ := ry
  obtain ⟨its, r, pl, hz⟩ := I.tuple hq
  obtain ⟨j, h1, h2, h3, h4, h5⟩ := atI_get he
  obtain ⟨w, ew, rw'⟩ := r.get h2
  have hl := r.length
  have hn := line63
  have fin : EP X pins σ Q w s := ⟨z, H, I, rw', q⟩
  exact subscriptTail_builtinR (x := w) pl.typeIs slot_tuple_getitem.lookup
    (getItem_tuple (j := j) (Q := fun r s' => r = w ∧ EP X pins σ Q r s') pl (by omega) (by omega) (by rw [List.size_toArray, ← hl]; exact h1) (by simpa using ew) ⟨rfl, fin⟩) hs

/-! ### xs[i] = v, any sign -/

/-! ### slices -/
theorem slice_bounds (lo hi : Option Int) (n : Nat) : (sliceBounds lo hi none n).1 = ((HT.sIx n 0 lo : Nat) : Int) ∧ (sliceBounds lo hi none n).2.1 = ((HT.sIx n n hi : Nat) : Int) ∧ (sliceBounds lo hi none n).2.2 = 1 := by
  refine ⟨?_, ?_, rfl⟩
  · cases lo with
    | none => simp [sliceBounds, HT.sIx]
    | some i =>
      simp only [sliceBounds, HT.sIx, Option.getD_none, show (1 : Int) > 0 by decide, if_true]
      by_cases h : i < 0
      · simp only [h, if_true] <;> omega
      · simp only [h, if_false] <;> omega
  · cases hi with
    | none => simp [sliceBounds, HT.sIx]
    | some i =>
      simp only [sliceBounds, HT.sIx, Option.getD_none, show (1 : Int) > 0 by decide, if_true]
      by_cases h : i < 0
      · simp only [h, if_true] <;> omega
      · simp only [h, if_false] <;> omega
theorem slicePick_cut (its : List Value) (lo hi : Option Int) : slicePick its.toArray lo hi none = ((its.drop (HT.sIx its.length 0 lo)).take (HT.sIx its.length its.length hi - HT.sIx its.length 0 lo)).toArray := by
  obtain ⟨h1, h2, h3⟩ := slice_bounds lo hi its.toArray.size
  unfold slicePick
  rw [h1, h2, h3]
  simp only [sliceRange_one, pick_run, List.size_toArray] <;> rfl
/-- xs[lo:hi] of a list: a new list -/
noncomputable def rSlL (K : PySem.W.Frag) : V → Option Int → Option Int → Hp → VK → Prop := fun x lo hi H Q => ∃ a xs, x = .ref a ∧ SqL K H a xs ∧ ∀ p, H p = none → Q (.ref p) (upd H p (.lst (cutV xs lo hi)))
theorem sl_list : SlR X (rSlL X.K) := by
  intro pins s σ H x v vl vu lo hi sl Q I rx hs pl pu h
  obtain ⟨a, xs, rfl, hx, q⟩ := h
  cases rx
  obtain ⟨its, r, ht, hz⟩ := I.list hx
  have hlen := r.length
  refine ⟨"list", _, slot_list_getitem.lookup, ht.isList.typeIs, ?_⟩
  refine wpAny_getItem_list_slice ht.isList hs pl pu .none (by simp) ?_ (by rw [List.size_toArray] <;> omega)
  rw [slicePick_cut, ← hlen]
  refine ⟨.ref s.heap.objs.size, _, I.laid (t' := s.toks) (o := .lst (cutV xs lo hi)) (fun b ob q => Heap.get?_push_of_some _ q) (Nat.le_refl _) ?_, rfl, q _ (I.hok.fresh (Nat.le_refl _))⟩
  exact ⟨Nat.le_trans (cutV_length xs lo hi) hz, _, 0, (r.drop (HT.sIx xs.length 0 lo)).take (HT.sIx xs.length xs.length hi - HT.sIx xs.length 0 lo), Heap.get?_push_size _ rfl⟩

/-! ### in, not in: flat items -/

/-! ### len, list(x), tuple(x) of any list or tuple that is read -/
theorem call_len_seq : CallR X (.builtin "len") (fun xs H Q => ∃ p ys, xs = [.ref p] ∧ (SqL X.K H p ys ∨ SqT X.K H p ys) ∧ Q (.int ys.length) H) := by
  intro pins s σ H xs us Q I r h
  obtain ⟨p, ys, rfl, hq, q⟩ := h
  obtain ⟨u, rfl, rx⟩ := vals1 r
  cases rx
  have hn := line63
  rcases hq with hq | hq
  · obtain ⟨its, r', pl, hz⟩ := I.list hq
    have hlen := r'.length
    exact Calls.call_len_list pl.isList (by simp only [List.size_toArray] <;> omega) ⟨.int ys.length, H, I.tok _, ⟨s.toks + 1, by rw [List.size_toArray, hlen]⟩, q⟩
  · obtain ⟨its, r', pl, hz⟩ := I.tuple hq
    have hlen := r'.length
    exact len_tuple pl (by simp only [List.size_toArray] <;> omega) ⟨.int ys.length, H, I.tok _, ⟨s.toks + 1, by rw [List.size_toArray, hlen]⟩, q⟩

/-! ### the call of a builtin's method: o.m(..) -/
/-- the value is of that builtin type -/
noncomputable def tyV (K : PySem.W.Frag) (T : String) (x : V) (H : Hp) : Prop := match x with
  | .str _ => T = "str"
  | .int _ => T = "int"
  | .ref p => (T = "list" ∧ ∃ xs, SqL K H p xs) ∨ (T = "tuple" ∧ ∃ o, K.lookup p = some o ∧ o.cls = .type "tuple" ∧ o.dict = none) ∨
      (T = "dict" ∧ ((∃ kvs, H p = some (.dK kvs)) ∨ ∃ kvs, H p = some (.dT kvs))) ∨ (T = "set" ∧ ∃ S n, H p = some (.set S n))
  | _ => False
theorem tyV_is {pins : List (Addr × Obj)} {σ : St} {H : Hp} {s : Shared} {T : String} {x : V} {v : Value} (I : Inv X pins σ H s) (r : RelV x v) (ty : tyV X.K T x H) :
    s.TypeIs v T ∧ ∀ a, v = .ref a → ∃ ob, s.heap.get? a = some ob ∧ ob.dict = none := by
  cases x with
  | str z =>
    obtain ⟨t, rfl⟩ := r
    cases (show T = "str" from ty)
    exact ⟨typeIs_str s z t, fun _ e => nomatch e⟩
  | int i =>
    obtain ⟨t, rfl⟩ := r
    cases (show T = "int" from ty)
    exact ⟨typeIs_int s i t, fun _ e => nomatch e⟩
  | ref p =>
    cases r
    rcases ty with ⟨rfl, xs, hq⟩ | ⟨rfl, o, hk, hc, hd⟩ | ⟨rfl, hk⟩ | ⟨rfl, S, n, hk⟩
    · obtain ⟨its, _, pl, _⟩ := I.list hq
      refine ⟨pl.isList.typeIs, fun a e => ?_⟩
      cases e
      obtain ⟨o, n, e, c, hd, _⟩ := pl
      exact ⟨o, e, hd⟩
    · refine ⟨⟨o, I.kIn p o hk, hc⟩, fun a e => ?_⟩
      cases e
      exact ⟨o, I.kIn _ o hk, hd⟩
    · have z : ∃ o, s.heap.get? p = some o ∧ o.ExactDict := by
        rcases hk with ⟨kvs, hk⟩ | ⟨kvs, hk⟩
        · obtain ⟨_, _, _, _, o, _, _, e, ex, _⟩ := I.hok p _ hk
          exact ⟨o, e, ex⟩
        · obtain ⟨_, _, _, _, o, _, _, e, ex, _⟩ := I.hok p _ hk
          exact ⟨o, e, ex⟩
      obtain ⟨o, e, ex⟩ := z
      refine ⟨⟨o, e, ex.1⟩, fun a e2 => ?_⟩
      cases e2
      exact ⟨o, e, ex.2.1⟩
    · obtain ⟨o, _, _, _, e, ex, _⟩ := I.hok p _ hk
      refine ⟨⟨o, e, ex.1⟩, fun a e2 => ?_⟩
      cases e2
      exact ⟨o, e, ex.2.1⟩
  | _ => exact False.elim ty
noncomputable def tBM (K : PySem.W.Frag) (T : String) (r : V → List V → Hp → VK → Prop) (to : TE) (t : TA) : TE := fun σ H Q => to σ H fun x H1 => tyV K T x H1 ∧ t σ H1 fun xs H2 => r x xs H2 Q
variable {o e : Expr} {es : List Expr} {to : TE} {t : TA} {name : Str} {apos cpos : Pos} {T id : String} {r : V → List V → Hp → VK → Prop}
theorem pe_bm (pa : PlainAttrs T) (slot : Slot T name id) (hty : typeOf (.builtin id) = pure (.type "method_descriptor")) (hm : MtR X id r) (ho : PE X o to) (ha : PA X (e :: es) t)
    (hbase : attributeBase o name X.env (eval o X.env) = eval o X.env := by rfl)
    (hfew : ((backTo cpos (starEach (e :: es) X.env)).all (fun x => !x.1) && (backToKw cpos (keywordEach [] X.env)).all (fun x => x.1.isSome)
      && decide ((e :: es).length + ([] : List Keyword).length + (if ([] : List Keyword).isEmpty then 0 else 1) < 30)) = true := by rfl)
    (hline : (apos.endLine == cpos.line) = true := by rfl) (hs : starEach (e :: es) X.env = (false, eval e X.env) :: starEach es X.env := by rfl) (hplain : (backTo cpos (starEach es X.env)).any (·.1) = false := by rfl) :
    PE X (.Call (.Attribute o name apos) (e :: es) [] cpos) (tBM X.K T r to t) := by
  intro pins s σ H Q I h
  refine wpAny_Call_method_late hbase hfew hline rfl (thn (ho pins s σ H _ I h) fun v s1 ⟨x, H1, I1, r1, ty, q1⟩ => ?_)
  obtain ⟨h1, h2⟩ := tyV_is I1 r1 ty
  refine ⟨T, id, pa, slot, hty, h1, h2, ?_⟩
  have hA := ha cpos pins s1 σ H1 _ I1 q1
  rw [hs] at hA ⊢
  refine Calls.callWith_builtin (by show (false || (backTo cpos (starEach es X.env)).any (·.1)) = false; rw [hplain] <;> rfl) (Calls.evalArgs_plain ?_)
  exact thn hA fun us s2 ⟨vs, H2, I2, r2, q2⟩ => hm pins s2 σ H2 x vs v us Q I2 r1 r2 q2
/- xs.append(e), list.index on a module's tuple .. are MtR facts of 06m -/
end
end L2

namespace L2
open PySem PySem.Spec PyProof.Rows

noncomputable def MtM (X : Cx) (id : String) (r : V → List V → Hp → VK → Prop) : Prop :=
  ∀ (pins : List (Addr × Obj)) (s : Shared) (σ : St) (H : Hp) (x : V) (xs : List V) (v : Value) (us : List Value) (Q : VK), Inv X pins σ H s → RelV x v → Vals xs us → r x xs H Q →
    wpAny (model X.prog X.w) X.A (call (.builtin id) (v :: us)) (EP X pins σ Q) X.xe s

/-! ### lists of values -/
theorem Vals.one : ∀ {x : V} {us : List Value}, Vals [x] us → ∃ u, us = [u] ∧ RelV x u
  | _, _, .cons r .nil => ⟨_, rfl, r⟩
theorem Vals.two : ∀ {x y : V} {us : List Value}, Vals [x, y] us → ∃ u v, us = [u, v] ∧ RelV x u ∧ RelV y v
  | _, _, _, .cons r (.cons q .nil) => ⟨_, _, rfl, r, q⟩

section
variable {X : Cx} {pins : List (Addr × Obj)} {σ : St} {H : Hp} {s : Shared} {l b : Addr} {xs ys zs : List V}

/-! ### the two steps: a tracked list is rewritten, a new list is laid -/
theorem Inv.lset {its its' : List Value} {n : Nat} {f : Array Value → Array Value} {t' : Nat} (I : Inv X pins σ H s) (hH : H l = some (.lst xs))
    (e : s.heap.get? l = some { cls := .type "list", data := .seq its.toArray n }) (hf : f its.toArray = its'.toArray) (hv : Vals ys its') (hz : ys.length ≤ sizeLine) :
    Inv X pins σ (upd H l (.lst ys)) { s with heap := s.heap.update l (Obj.mapSeq f), toks := t' } := by
  have q := PySem.IsL.update e f
  rw [hf] at q
  refine I.write (x := l) (e := l) (by rw [hH]; exact trivial) (.inl rfl) (fun b' u hb hu => (Heap.get?_update_other s.heap (Obj.mapSeq f) (Ne.symm hb)).trans hu) ⟨_, q⟩ ?_
  exact ⟨hz, its', _, hv, q⟩
theorem Inv.lnew {its : List Value} {t' : Nat} (I : Inv X pins σ H s) (hv : Vals ys its) (hz : ys.length ≤ sizeLine) :
    Inv X pins σ (upd H s.heap.objs.size (.lst ys)) { s with heap := s.heap.push { cls := .type "list", data := .seq its.toArray }, toks := t' } :=
  I.laid (fun _ _ q => Heap.get?_push_of_some _ q) (Nat.le_refl _) ⟨hz, its, 0, hv, Heap.get?_push_size _ rfl⟩
theorem Inv.fresh (I : Inv X pins σ H s) : H s.heap.objs.size = none := I.hok.fresh (Nat.le_refl _)
theorem Inv.lstM (I : Inv X pins σ H s) (hH : H l = some (.lst xs)) : xs.length ≤ sizeLine ∧ ∃ (its : List Value) (n : Nat), Vals xs its ∧ xs.length = its.length ∧ s.heap.get? l = some { cls := .type "list", data := .seq its.toArray n } := by
  obtain ⟨z, its, n, r, e⟩ := I.hok l _ hH
  exact ⟨z, its, n, r, r.length, e⟩

theorem notLongL {n : Nat} (h : n ≤ sizeLine) : Builtin.List.listTooLong n = false := by
  unfold Builtin.List.listTooLong
  exact decide_eq_false (by omega)
end

section
variable {X : Cx}

/-! ### methods -/
noncomputable def rAppend : V → List V → Hp → VK → Prop := fun x vs H Q => ∃ l xs y, x = .ref l ∧ vs = [y] ∧ H l = some (.lst xs) ∧ xs.length < sizeLine ∧ Q .non (upd H l (.lst (xs ++ [y])))
theorem mt_append : MtM X "list.append" rAppend := by
  intro pins s σ H x vs v us Q I rx rv h
  obtain ⟨l, xs, y, rfl, rfl, hH, hz, q⟩ := h
  cases rx
  obtain ⟨u, rfl, ru⟩ := rv.one
  obtain ⟨z, its, n, r, hl, e⟩ := I.lstM hH
  refine call_meets F.slot_list_append ⟨_, e, rfl⟩ F.entry_list_append (F.args_list_append_2 _ _) (PySem.list_append l its.toArray n u (by rw [List.size_toArray]; omega)) ⟨e, ?_⟩
  refine ⟨.non, _, I.lset (its' := its ++ [u]) hH e (by simp) (r.append (.cons ru .nil)) ?_, rfl, q⟩
  rw [List.length_append, List.length_singleton]
  omega

noncomputable def rExtend : V → List V → Hp → VK → Prop := fun x vs H Q => ∃ l b xs zs, x = .ref l ∧ vs = [.ref b] ∧ H l = some (.lst xs) ∧ H b = some (.lst zs) ∧ xs.length + zs.length ≤ sizeLine ∧ Q .non (upd H l (.lst (xs ++ zs)))
theorem mt_extend : MtM X "list.extend" rExtend := by
  intro pins s σ H x vs v us Q I rx rv h
  obtain ⟨l, b, xs, zs, rfl, rfl, hH, hB, hz, q⟩ := h
  cases rx
  obtain ⟨u, rfl, ru⟩ := rv.one
  cases ru
  obtain ⟨z, its, n, r, hl, e⟩ := I.lstM hH
  obtain ⟨z2, its2, n2, r2, hl2, e2⟩ := I.lstM hB
  have hsz : its.toArray.size + its2.toArray.size ≤ sizeLine := by rw [List.size_toArray, List.size_toArray]; omega
  have hlong : ¬ (!its.toArray.isEmpty && Builtin.List.listTooLong (its.toArray.size + its2.toArray.size)) = true := by
    rw [notLongL hsz, Bool.and_false]
    exact Bool.false_ne_true
  refine call_meets F.slot_list_extend ⟨_, e, rfl⟩ F.entry_list_extend (F.args_list_extend_2 _ _)
    (AutoSeq1.list_extend_list_list_0 l its.toArray n b its2.toArray n2 hlong (by rw [List.size_toArray]; omega) (by omega)) ⟨e, e2, ?_⟩
  refine ⟨.non, _, I.lset (its' := its ++ its2) hH e (by simp) (r.append r2) ?_, rfl, q⟩
  rw [List.length_append]
  omega

/-! ### list + list, list += list, list * int -/
noncomputable def rCat : R2 := fun x y H Q => ∃ l b xs zs, x = .ref l ∧ y = .ref b ∧ H l = some (.lst xs) ∧ H b = some (.lst zs) ∧ xs.length + zs.length ≤ sizeLine ∧ ∀ p, H p = none → Q (.ref p) (upd H p (.lst (xs ++ zs)))
theorem op_cat : OpR X (binaryOp .Add) rCat := by
  intro pins s σ H x y v u Q I rx ry h
  obtain ⟨l, b, xs, zs, rfl, rfl, hH, hB, hz, q⟩ := h
  cases rx
  cases ry
  obtain ⟨z, its, n, r, hl, e⟩ := I.lstM hH
  obtain ⟨z2, its2, n2, r2, hl2, e2⟩ := I.lstM hB
  refine PySem.P.add_list e e2 ?_ (by rw [List.size_toArray, List.size_toArray]; omega)
  have ea : its.toArray ++ its2.toArray = (its ++ its2).toArray := by simp
  rw [ea]
  exact ⟨.ref _, _, I.lnew (t' := s.toks) (r.append r2) (by rw [List.length_append]; omega), rfl, q _ I.fresh⟩

/-! ### del xs[i] -/
end

/-! ### xs[a:b] = ys -/
section
variable {prog : Program} {w : World} {A : Around} {E : Value → Shared → Prop} {s : Shared}
end

section
variable {X : Cx}
end
end L2

namespace L2
open PySem PySem.Spec PyProof.Rows

/-! ### lists of pairs as tables -/
section
variable {κ : Type} [DecidableEq κ]

end

/-! ### a tracked dict, its keys ints and texts or tuples of these -/

section
variable {P : Program} {w : World} {H : Hp} {h : Heap} {a : Addr}
end

section
variable {X : Cx} {pins : List (Addr × Obj)} {σ : St} {H : Hp} {s : Shared} {a : Addr} {y v : V} {u r : Value} {o : Option V} {A : Around} {E : Value → Shared → Prop}

end

section
variable {X : Cx} {pins : List (Addr × Obj)} {σ : St} {H : Hp} {s : Shared} {a : Addr} {kvs : List (Key × V)} {k : Key} {u : Value} {A : Around} {E : Value → Shared → Prop}
end

/-! ### readings and rules -/

section
variable {X : Cx} {o i e value : Expr} {pos pos' tpos : Pos} {td ty tv : TE}
end

/-! ### displays -/
section
variable {X : Cx} {pos : Pos}
end

/-! ### methods -/

section
variable {X : Cx} {pins : List (Addr × Obj)} {σ : St} {H : Hp} {s : Shared} {a : Addr} {y d : V} {u r : Value} {o : Option V} {A : Around} {E : Value → Shared → Prop}
end

section
variable {X : Cx} {o e f : Expr} {apos cpos : Pos} {td ty tx : TE}
end

/-! ### dict(d): a copy -/
section
variable {X : Cx} {pins : List (Addr × Obj)} {σ : St} {H : Hp} {s : Shared} {a : Addr} {kvs : List (Key × V)} {A : Around} {E : Value → Shared → Prop}
end

section
variable {X : Cx} {pins : List (Addr × Obj)} {σ : St} {H : Hp} {s : Shared} {a : Addr} {y : V} {u : Value} {A : Around} {E : Value → Shared → Prop}
end
end L2

namespace Att
open PySem PySem.W PySem.Calls PyProof.Rows

/-! ### the script -/
theorem ints_of_wellAll {P : Params} {h : Heap} : ∀ (ns : List Int) (vs : List Value), WellAll P h vs (ns.map WData.int) → IntsAre vs ns := by
  intro ns
  induction ns with
  | nil =>
    intro vs w
    rw [List.map_nil] at w
    cases w
    exact .nil
  | cons n ns ih =>
    intro vs w
    rw [List.map_cons] at w
    cases w with
    | cons a b =>
      cases a
      exact .cons _ _ (ih _ b)

theorem script_of {l : OpenLaw} {n : Nat} (hn : l.most = some n) {P : Params} {h : Heap} {args : List WData} {vals : List Value}
    (hpre : l.row.toRowW.claim.pre args = true) (hwl : WellAll P h vals args) :
    ∃ a vs ns, vals = [Value.ref a] ∧ args = [WData.list (ns.map WData.int)] ∧ h.get? a = some { cls := .type "list", data := .seq vs.toArray } ∧ IntsAre vs ns ∧ ns.length ≤ n := by
  have hsh : WShape.hasAll [] args [.list .int] = true := (pre_splitW hpre).1
  have hc : l.pre.holds [] { args := args } = true := (pre_splitW hpre).2
  obtain ⟨d, r, rfl, h1, h2⟩ := hasAllW_cons hsh
  obtain rfl := hasAllW_nil h2
  obtain ⟨xs, rfl, h3⟩ := hasW_list h1
  obtain ⟨ns, rfl⟩ := items_int h3
  have hlen : ns.length ≤ n := by
    unfold OpenLaw.pre at hc
    have h4 : (WTm.not (.lt (.lit (.int (n : Int))) (.len (.arg 0)))).holds [] { args := [.list (ns.map .int)] } = true := by
      have h4 := (holds_andW hc).1
      rw [hn] at h4
      exact h4
    have h5 := condW_of h4 (w_not (w_lt w_lit (w_len_list (w_arg rfl))))
    rw [List.length_map] at h5
    refine Nat.le_of_not_lt fun q => ?_
    have q' : (n : Int) < ((ns.length : Nat) : Int) := by omega
    first
      | (rw [decide_eq_true q'] at h5; exact absurd h5 (by decide))
      | (simp at h5; omega)
  cases hwl with
  | cons w1 w2 =>
    cases w2
    cases w1 with
    | list ho hall => exact ⟨_, _, ns, rfl, rfl, ho, ints_of_wellAll ns _ hall, hlen⟩

theorem post_true (l : OpenLaw) (args : List WData) : l.row.toRowW.claim.post args (.bool true) args = true :=
  postW_of (r := l.row.toRowW) (X := (true == true))
    (show WShape.has [] (.bool true) .bool = true by first | rfl | decide | simp [WShape.has, WShape.arms, WShape.armsAll])
    (show (WTm.eq .res (.lit (.bool true))).value [] { args := args, res := some (.bool true), after := args } = some (.bool (true == true)) from w_eq_bool (w_res rfl) w_lit) rfl

/-! ### the attachment: holds_open's last premise (the goal 'hc' behind k_head) from a wpAny of the law's body -/

/-- the same from a codeAny of the CALL (for a layer whose function contracts speak of calls) -/
theorem attach_call {l : OpenLaw} {n : Nat} {q : Program} {loose : List Str} {XP : (Str → Option Value) → Heap → Prop} {YP : World → Heap → Prop} {d : DefRec}
    (hn : l.most = some n) (hdf : d.params.defaults = [])
    (call : ∀ (w : World) (s₀ s₁ : Shared) (mg mb : Str → Option Value) (fa : Addr) (o : Obj) (pm cd doc : Value) (a : Addr) (vs : List Value) (ns : List Int),
      Ground q loose [] XP w s₀ mg mb s₁.heap → YP w s₁.heap →
      s₁.heap.get? fa = some o → o.data = .func (docDef d.name d.params d.body d.scope pm cd doc) → s₁.heap.CodeRec cd d.name → mg d.name = some (.ref fa) →
      s₁.heap.get? a = some { cls := .type "list", data := .seq vs.toArray } → IntsAre vs ns → ns.length ≤ n → s₁.gens = #[] →
      codeAny (model l.prog w) callerA (.call (.ref fa) ⟨[.ref a], []⟩) (fun r s' => r = .ok (.ret (.bool true)) ∧ OldK s₁.heap s'.heap ∧ s'.os = s₁.os ∧ AllBare s'.gens) s₁) :
    WalkO q loose XP YP l.row.toRowW d [] (fun f vs => PySem.call f vs) := by
  intro w s₀ s₁ mg mb G Y fa o pm cd doc dV kV ho hd hcd hD hmg hg args vals as hpre hlay hrd hwl hlo
  obtain rfl : dV = .none := Dflts.none hD hdf
  obtain rfl : kV = .none := Dflts.noKw hD
  obtain ⟨a, vs, ns, rfl, rfl, hobj, hints, hlen⟩ := script_of hn hpre hwl
  refine enter_call (codeAny_mono (call w s₀ s₁ mg mb fa o pm cd doc a vs ns G Y ho (fd_plain hd) hcd hmg hobj hints hlen hg) fun r s' hq => ?_)
  obtain ⟨rfl, h2, h3, h4⟩ := hq
  exact ⟨.inl ⟨.bool true, .bool true, [], rfl, fun _ => rfl, .bool true, post_true l _, fun _ => ⟨List.Pairwise.nil, fun _ hm => (nomatch hm)⟩⟩, h2, h3, h4⟩

/-! ### rules over ANY heap (no ledger) from facts about the written part K: the library's own take a ledger (News) for what they write -/
section
variable {prog : Program} {w : World} {A : Around} {E : Value → Shared → Prop} {s : Shared} {K : Frag}

/-! the whole heap as the ledger: makes every rule that writes through a ledger a rule over any heap -/

end
end Att

namespace L2
open PySem PySem.Spec PyProof.Rows

theorem vals_ints : ∀ {vs : List Value} {ns : List Int}, IntsAre vs ns → Vals (ns.map V.int) vs
  | _, _, .nil => .nil
  | _, _, .cons n t h => .cons ⟨t, rfl⟩ (vals_ints h)

/-- nothing is tracked but the script, known to the object (or it is an object of the module) -/
noncomputable def Only (H : Hp) : Prop := ∀ b, H b = none ∨ ∃ o xs, H b = some (.frz o (.lst xs))

/-- THE HEAD: the law's promise, at the heap behind the top. F, the promise of the law's def, may use that base is part of the heap (so K.In base, base.Ns mainGlobals mg stand in Mod) -/
theorem law_call {P : Program} {w : World} {K : PySem.W.Frag} {mg mb : Str → Option Value} {CX : CXT} {k : Nat} {fa a : Addr} {fd : FuncData} {x : Str} {sp : Sp} {s₁ : Shared} {vs : List Value} {ns : List Int}
    (KX : K.In s₁.heap) (hns : s₁.heap.Ns mainGlobals mg) (hb : s₁.heap.Ns builtinsNs mb) (hbb : ∀ x : Str, x ≠ "__name__" → mb x = bootBuiltins x) (hlim : s₁.heap.NoLimit) (hg : s₁.gens = #[])
    (ha : s₁.heap.get? a = some { cls := .type "list", data := .seq vs.toArray }) (hi : IntsAre vs ns) (hl : ns.length ≤ sizeLine) (hr : Room k callerA)
    (F : ∀ base : Heap, K.In base → base.Ns mainGlobals mg → FnOk P w K mg base CX k fa fd [x] sp) (hbind : ∀ (s : Shared) (u : Value), BindsTo s fd ⟨[u], []⟩ [(x, u)])
    (hsp : ∀ H : Hp, Only H → SqL K H a (ns.map V.int) → sp [.ref a] H (fun v _ => v = .bl true) fun _ _ _ => False)
    (hCX : ∀ H e s', CX [] H s₁ (fun _ _ _ => False) e s' → False) :
    codeAny (model P w) callerA (.call (.ref fa) ⟨[.ref a], []⟩) (fun r s' => r = .ok (.ret (.bool true)) ∧ OldK s₁.heap s'.heap ∧ s'.os = s₁.os ∧ AllBare s'.gens) s₁ := by
  have rv := vals_ints hi
  have lenV := hi.length
  -- from an abstract heap in which nothing but the script may be tracked
  have core : ∀ H : Hp, Only H → SqL K H a (ns.map V.int) → HOk P w H s₁.heap → (∀ b, H b ≠ none → b = a) → (H a ≠ none → K.lookup a = none) →
      codeAny (model P w) callerA (.call (.ref fa) ⟨[.ref a], []⟩) (fun r s' => r = .ok (.ret (.bool true)) ∧ OldK s₁.heap s'.heap ∧ s'.os = s₁.os ∧ AllBare s'.gens) s₁ := by
    intro H hO hS hok hA hK
    have base_of : ∀ {b : Addr} {o : Obj}, s₁.heap.get? b = some o → H b = none → (hidT s₁.heap H).get? b = some o := fun e n => hidT_get e n
    have noA : ∀ {b : Addr} {o : Obj} {es : Array DictEntry} {ep : Nat}, s₁.heap.get? b = some o → o.data = .dict es ep → H b = none := fun {b o es ep} e d => by
      cases q : H b with
      | none => rfl
      | some u =>
        have e' : b = a := hA b (by rw [q]; simp)
        subst e'
        rw [ha] at e; cases e
        have d' : Data.seq vs.toArray _ = Data.dict es ep := d
        cases d'
    have nsK : ∀ {b : Addr} {m : Str → Option Value}, s₁.heap.Ns b m → (hidT s₁.heap H).Ns b m := fun {b m} ⟨o, es, ep, e, d, r⟩ => ⟨o, es, ep, base_of e (noA e d), d, r⟩
    have hKb : K.In (hidT s₁.heap H) := fun b o e => base_of (KX b o e) (by
      cases q : H b with
      | none => rfl
      | some u =>
        have e' : b = a := hA b (by rw [q]; simp)
        subst e'
        rw [hK (by rw [q]; simp)] at e; cases e)
    have hM : Mod K mg (hidT s₁.heap H) := ⟨hKb, nsK hns, ⟨mb, nsK hb, hbb⟩, let ⟨mc, h1, h2⟩ := hlim; ⟨mc, nsK h1, h2⟩⟩
    have e0 : Env0 P w K mg (hidT s₁.heap H) callerA [] s₁ H := ⟨rfl, hM, fun b o e => of_hidT e, Nat.le_of_eq (hidT_size _ _), trivial, fun b hb => absurd (show b ∈ ([] : List Addr) from hb) (by simp), hok, .of_eq hg⟩
    refine codeAny_mono ((F _ hKb (nsK hns)).run callerA [] s₁ H ⟨[.ref a], []⟩ [.ref a] [.ref a] _ _ hr e0 (hbind s₁ (.ref a)) (.cons rfl .nil) (hsp H hO hS)) fun r s' h => ?_
    cases r with
    | error e => exact (hCX H e s' h).elim
    | ok fl =>
      cases fl with
      | next => exact False.elim h
      | brk => exact False.elim h
      | cont => exact False.elim h
      | ret u =>
        obtain ⟨v, H', os, bare, un, hok', r', q⟩ := h
        have q' : v = .bl true := q
        subst q'
        obtain rfl : u = Value.bool true := r'
        refine ⟨rfl, OldK.of_keep fun b o e => ?_, os, bare⟩
        cases q : H b with
        | none => exact un.keep b o e q (by intro z; exact absurd (show b ∈ ([] : List Addr) from z) (by simp)) (by simp)
        | some u =>
          rcases hO b with z | ⟨ob, xs, z⟩
          · rw [q] at z; cases z
          · have z2 := un.frzs b ob _ z
            obtain ⟨e1, _⟩ := hok b _ z
            obtain ⟨e2, _⟩ := hok' b _ z2
            rw [e] at e1; cases e1
            exact e2
  cases hk : K.lookup a with
  | some o =>
    -- the script is one of the module's own objects
    have e := KX a o hk
    rw [ha] at e
    cases e
    refine core (fun _ => none) (fun _ => .inl rfl) (.inr ⟨_, vs.toArray, _, hk, rfl, rfl, rfl, by rw [List.size_toArray, lenV]; exact hl, by simpa using rv⟩) (fun b u z => by have z' : (none : Option HO) = some u := z; cases z') (fun b z => absurd rfl z) fun z => absurd rfl z
  | none =>
    refine core (fun b => if b = a then some (.frz { cls := .type "list", data := .seq vs.toArray } (.lst (ns.map V.int))) else none) (fun b => ?_) (.inl (.inr ⟨{ cls := .type "list", data := .seq vs.toArray }, if_pos rfl⟩)) (fun b u z => ?_) (fun b z => ?_) fun _ => hk
    · by_cases hb : b = a
      · exact .inr ⟨_, _, if_pos hb⟩
      · exact .inl (if_neg hb)
    · by_cases hb : b = a
      · have z' := (if_pos hb).symm.trans z
        cases z'
        subst hb
        exact ⟨ha, by rw [List.length_map]; exact hl, vs, _, rv, ha⟩
      · have z' := (if_neg hb).symm.trans z
        cases z'
    · by_cases hb : b = a
      · exact hb
      · exact absurd (if_neg hb) z
end L2

namespace L2
open PySem PySem.Spec PyProof.Rows

/-- the goal that k_head leaves (case hc), from the law's promise. F gives the function object fd (K's own) once, then the promise over every base -/
theorem walk_of {l : PySem.W.OpenLaw} {n k : Nat} {q : Program} {loose : List Str} {XP : (Str → Option Value) → Heap → Prop} {YP : World → Heap → Prop} {d : DefRec} {K : Params → PySem.W.Frag} {CX : World → CXT} {sp : World → Sp} {x : Str}
    (hn : l.most = some n) (hn2 : n ≤ sizeLine) (hdf : d.params.defaults = []) (hr : Room k callerA)
    (hY : ∀ (w : World) (h : Heap), YP w h → (K w.params).In h)
    (F : ∀ (w : World) (mg : Str → Option Value) (fa : Addr) (h : Heap), (K w.params).In h → h.Ns mainGlobals mg → mg d.name = some (.ref fa) →
      ∃ fd : FuncData, (∀ (s : Shared) (u : Value), BindsTo s fd ⟨[u], []⟩ [(x, u)]) ∧
        ∀ base : Heap, (K w.params).In base → base.Ns mainGlobals mg → FnOk l.prog w (K w.params) mg base (CX w) k fa fd [x] (sp w))
    (hsp : ∀ (w : World) (H : Hp) (a : Addr) (ns : List Int), ns.length ≤ n → Only H → SqL (K w.params) H a (ns.map V.int) → sp w [.ref a] H (fun v _ => v = .bl true) fun _ _ _ => False)
    (hCX : ∀ (w : World) (H : Hp) (s : Shared) (e : Value) (s' : Shared), CX w [] H s (fun _ _ _ => False) e s' → False) :
    PySem.W.WalkO q loose XP YP l.row.toRowW d [] (fun f vs => PySem.call f vs) := by
  refine Att.attach_call hn hdf fun w s₀ s₁ mg mb fa o pm cd doc a vs ns G Y ho hd hcd hmg hobj hints hlen hg => ?_
  have KX := hY w _ Y
  obtain ⟨fd, hb, hF⟩ := F w mg fa _ KX G.T.g hmg
  exact law_call KX G.T.g G.T.b G.T.builtins G.T.nolimit hg hobj hints (Nat.le_trans hlen hn2) hr hF hb (fun H hO hS => hsp w H a ns hlen hO hS) fun H e s' => hCX w H s₁ e s'
end L2

/- THE LAST THEOREM (shape; LID, My.* are yours):
   My.Adr: a structure of the addresses that your layer names (classes, functions); My.Txt K t: a structure (Prop) of the equations over K;
   My.txt_mk : {K} {implicit addresses ..} (e1 : nsIn K mainGlobals "law" = some (some (.ref f))) (e2 : K.lookup f = some ⟨oc, od, .func (fnOf "law" "law" params body scope dV kV doc pm an cdv ct), sl⟩) (e3 : codeIn K cdv "law" = true) .. : ∃ t, My.Txt K t

set_option maxRecDepth 100000 in
set_option maxHeartbeats 0 in
theorem PySem.Challenge.cw_LID_holds : PySem.Challenge.rw_LID.Holds := by
  w_on; o_law; k_head; (case hw => w_witness2)
  k_fill
  refine L2.walk_of (l := PySem.Challenge.rw_LID) (n := 63) (k := 40) (x := "script") (CX := fun w => ..) (sp := fun _ => My.sp_law) rfl (by decide) rfl ⟨rfl, by decide, by decide⟩ (fun w h Y => PySem.W.kIn_of Y) ?F ?S ?C
  case F =>
    intro w mg fa h KX G hmg
    have T : ∃ t, My.Txt (L2.KOf KX) t := by
      dsimp only [L2.KOf]                          -- K must stand as «<heap const> w.params» for k_is
      refine' My.txt_mk ?e1 ?e2 ?e3 ..
      (case e1 => PySem.W.k_is)                    -- in the order: a name -> its address -> its object -> its parts
      (case e2 => PySem.W.k_is)
      ..
    obtain ⟨t, T⟩ := T
    have e0 := hmg.symm.trans (PySem.W.mg_of KX G T.law)
    cases e0                                       -- fa is the law's own address
    exact ⟨_, fun s u => .of_eq rfl, fun base kb nb => My.law_fn T kb nb⟩     -- if «.of_eq rfl» comes too early: refine' ⟨_, ?b, fun base kb nb => My.law_fn T kb nb⟩; exact fun s u => .of_eq rfl
  case S => exact fun w H a ns hl hO hS => ..
  case C => exact ..
(the tactic k_is has no namespace: write k_is) -/

/-! SHORT WORDS over the layer: a def of the text, its body, what a loop and a test want. -/
namespace L2
open PySem PySem.Spec PyProof.Rows

/-! ### the text by places -/
noncomputable def defArgs (s : Stmt) : Arguments := match s with
  | .FunctionDef _ a _ _ _ _ _ _ _ _ => a
  | _ => { posonlyargs := [], args := [], vararg := none, kwonlyargs := [], kw_defaults := [], kwarg := none, defaults := [] }
noncomputable def defBody (s : Stmt) : List Stmt := match s with
  | .FunctionDef _ _ b _ _ _ _ _ _ _ => b
  | _ => []
noncomputable def defScope (s : Stmt) : Scope := match s with
  | .FunctionDef _ _ _ _ _ _ sc _ _ _ => sc
  | _ => { kind := .function, names := [], isGenerator := false, isCoroutine := false }

/-! ### no exception leaves a def -/
noncomputable abbrev CX0 : CXT := fun _ _ _ _ _ _ => False
noncomputable abbrev E0 : XK := fun _ _ _ => False
theorem pass0 {X : Cx} : Passes CX0 X E0 := fun _ _ _ _ _ _ _ h => h.elim

/-! ### a def (or method) of the text as it stands behind the top -/
structure Fun (K : PySem.W.Frag) (x qual : Str) (st : Stmt) (f : Addr) (fd : FuncData) : Prop where
  ex : ∃ (oc : Value) (od : Option Addr) (kV doc pm : Value) (an : Option Addr) (cdv ct : Value) (osl : Array (Option Value)),
    fd = PySem.W.fnOf x qual (defArgs st) (defBody st) (defScope st) .none kV doc pm an cdv ct ∧ K.lookup f = some ⟨oc, od, .func fd, osl⟩ ∧ PySem.W.codeIn K cdv qual = true
  kp : PySem.W.keepIn K (.ref f) = true
section
variable {P : Program} {w : World} {K : PySem.W.Frag} {mg : Str → Option Value} {base : Heap}
/-- THE RULE for a def: its body as a term of rules, and the reading of that term -/
theorem Fun.ok {x qual : Str} {st : Stmt} {f : Addr} {fd : FuncData} {N ps : List Str} {k : Nat} {sp : Sp} (F : Fun K x qual st f fd) (S : FnScope N ps (defScope st)) (len : ∀ vs H Q E, sp vs H Q E → vs.length = ps.length)
    (hbody : ∀ (cdv : Value) (A : Around) (outer : List Env) (s : Shared) (H : Hp) (vs : List V) (Q : VK) (E : XK), Room k (A.deeper (envOfC qual (defScope st) s.heap.objs.size f cdv)) → sp vs H Q E →
      ∃ t, PSs (cxOf CX0 P w K mg base N qual (defScope st) f cdv A outer s H E).nox (defBody st) t ∧ t { nx := fun _ H' => Q .non H', rt := Q } (start N vs) H) : FnOk P w K mg base CX0 (k + 1) f fd ps sp := by
  obtain ⟨oc, od, kV, doc, pm, an, cdv, ct, osl, rfl, lk, hcd⟩ := F.ex
  refine fn_of lk hcd S len fun A outer s H vs Q E hr hsp => ?_
  obtain ⟨t, h, q⟩ := hbody cdv A outer s H vs Q E hr hsp
  exact ⟨t, h.nox, q⟩
/-- how its arguments bind (no defaults): h is «fun _ _ _ _ _ _ us hl => match us, hl with | [_, _], _ => rfl», one _ a parameter -/
theorem Fun.binds {x qual : Str} {st : Stmt} {f : Addr} {fd : FuncData} {ps : List Str} (F : Fun K x qual st f fd)
    (h : ∀ (kV doc pm : Value) (an : Option Addr) (cdv ct : Value) (us : List Value), us.length = ps.length → bindArgs (PySem.W.fnOf x qual (defArgs st) (defBody st) (defScope st) .none kV doc pm an cdv ct) ⟨us, []⟩ = pure (ps.zip us)) : Binds K fd ps [] := by
  obtain ⟨oc, od, kV, doc, pm, an, cdv, ct, osl, rfl, lk, hcd⟩ := F.ex
  exact .all (h kV doc pm an cdv ct)
theorem fun_mk {x qual : Str} {st : Stmt} {f : Addr} {oc : Value} {od an : Option Addr} {osl : Array (Option Value)} {kV doc pm cdv ct : Value} (l : K.lookup f = some ⟨oc, od, .func (PySem.W.fnOf x qual (defArgs st) (defBody st) (defScope st) .none kV doc pm an cdv ct), osl⟩)
    (c : PySem.W.codeIn K cdv qual = true) (k : PySem.W.keepIn K (.ref f) = true) : Fun K x qual st f (PySem.W.fnOf x qual (defArgs st) (defBody st) (defScope st) .none kV doc pm an cdv ct) := ⟨⟨oc, od, kV, doc, pm, an, cdv, ct, osl, rfl, l, c⟩, k⟩
end
theorem small1000 {n : Nat} (h : n ≤ 1000) : n < sizeLine := Nat.lt_of_le_of_lt h (by decide)

/-! ### expressions in short: the name that stands in the i-th slot -/
section
variable {X : Cx}
theorem pv (i : Nat) {x : Str} {pos : Pos} (hN : X.N[i]? = some x := by rfl) (hv : Vis X.env.scope x := by first | exact Or.inl rfl | exact Or.inr (Or.inl rfl) | exact Or.inr (Or.inr rfl)) (hd : (x == ("__debug__" : Str)) = false := by decide)
    (hcd : (x == ("__classdict__" : Str)) = false := by decide) : PE X (.Name x pos) (tVar i) := pe_var hN hv hd hcd
end

/-! ### tests -/
theorem iteF {A B : Prop} (h : B) : if false = true then A else B := by
  rw [if_neg Bool.false_ne_true]
  exact h
theorem iteT {A B : Prop} (h : A) : if true = true then A else B := by
  rw [if_pos rfl]
  exact h
theorem ite2 {c A B : Prop} [Decidable c] (h1 : c → A) (h2 : ¬ c → B) : if c then A else B := by
  by_cases h : c
  · rw [if_pos h]
    exact h1 h
  · rw [if_neg h]
    exact h2 h

/-! ### heaps -/
/-- all that was tracked is as it was -/
noncomputable def Same (H H' : Hp) : Prop := ∀ b o, H b = some o → H' b = some o
theorem Same.trans {H H1 H2 : Hp} (a : Same H H1) (b : Same H1 H2) : Same H H2 := fun c o h => b c o (a c o h)
theorem Same.free {H H' : Hp} (e : Same H H') {l : Addr} (h : H' l = Option.none) : H l = Option.none := by
  cases q : H l with
  | none => rfl
  | some o =>
    rw [e l o q] at h
    cases h

/-! ### a dict's pairs: keys that differ -/
section
variable {κ : Type} [DecidableEq κ]
end
end L2

set_option Elab.async false
set_option linter.all false
set_option maxRecDepth 100000
/-! Comprehensions over the hand layer: a list comprehension of one clause, with or without tests, as an expression and as the value of a name. -/
namespace L2
open PySem PySem.Spec PyProof.Rows

/-! ### the loop's turn, the step ahead of the store among it -/
section
variable {prog : Program} {w : World} {A : Around} {R : Result → Shared → Prop} {s : Shared}
theorem compLoop_go {elt target iter : Expr} {ifs : List Expr} {scope : Scope} {pos : Pos} {it acc : Value} {env : Env} (I : Nat → Shared → Prop)
    (turn : ∀ n s, I n s → wpAny (model prog w) A (pyNext it) (fun r s1 => match r with
      | none => R (.ok .next) s1
      | some v => wpAny (model prog w) A (letOwnedTupleGo target it v) (fun _ s2 => wpAny (model prog w) A (assign target env v) (fun _ s3 =>
          wpAny (model prog w) A (forIn ifs true fun c r => if r = true then do let ok ← isTrue c env (eval c env); pure (ForInStep.yield ok) else pure (ForInStep.yield r)) (fun ok s4 =>
            if ok = true then wpAny (model prog w) A (eval elt env) (fun x s5 =>
              wpAny (model prog w) A (call (.builtin "list.append") [acc, x]) (fun _ s6 => ∃ m, m < n ∧ I m s6) (fun _ _ => False) s5) (fun _ _ => False) s4
            else ∃ m, m < n ∧ I m s4) (fun _ _ => False) s3) (fun _ _ => False) s2) (fun _ _ => False) s1) (fun _ _ => False) s)
    (n : Nat) (h : I n s) :
    codeAny (model prog w) A (.compLoop (.ListComp elt [⟨target, iter, ifs, 0⟩] scope pos) 0 it acc env) R s := by
  refine codeAny_loop rfl I (fun n s hI => ?_) n h
  show wpAny _ A ((compTurn (.ListComp elt [⟨target, iter, ifs, 0⟩] scope pos) 0 it acc env).onRaise (fun x => do noteFrame x env; theTreesLotGoes x)) _ _ s
  refine wpAny_noted ?_
  rw [compTurn_list]
  refine wpAny_bind (wpAny_standAt (wpAny_bind (wpAny_mono (turn n s hI) (fun r s1 h1 => ?_) fun _ _ h' => h'.elim)))
  cases r with
  | none => exact wpAny_pure h1
  | some v =>
    refine wpAny_bind (wpAny_mono h1 (fun _ s2 h2 => wpAny_bind (wpAny_mono h2 (fun _ s3 h3 => wpAny_bind (wpAny_mono h3 (fun ok s4 h4 => ?_) fun _ _ h' => h'.elim)) fun _ _ h' => h'.elim)) fun _ _ h' => h'.elim)
    cases ok with
    | false => exact wpAny_pure ⟨rfl, h4⟩
    | true =>
      exact wpAny_bind (wpAny_bind (wpAny_mono h4 (fun x s5 h5 => wpAny_bind (wpAny_mono h5 (fun _ s6 h6 => wpAny_pure (wpAny_pure ⟨rfl, h6⟩)) fun _ _ h' => h'.elim)) fun _ _ h' => h'.elim))
end

/-! ### the context of a comprehension's block -/
noncomputable def compCx (X : Cx) (N1 : List Str) (scope : Scope) (cl : List (Str × Addr)) (C : Addr) (s0 : Shared) (H0 : Hp) (fp : List Addr) : Cx where
  prog := X.prog
  w := X.w
  K := X.K
  mg := X.mg
  base := X.base
  A := X.A
  N := N1
  s₀ := s0
  H₀ := H0
  env := compEnvC scope cl C X.env
  outer := X.stack
  stack := X.stack
  ex := fp
  fn := fun _ => false
  calm := X.calm
  pn := []
  xe := fun _ _ => False

/-- what must be seen of the text: cap gives for each name of the block the slot of the enclosing def that it takes, if any -/
structure CompOk (X : Cx) (scope : Scope) (cl : List (Str × Addr)) (N1 : List Str) (cap : List (Option Nat)) : Prop where
  clos : closureFor scope X.env = pure cl
  sub : ∀ x c, cl.lookup x = some c → X.env.cells.lookup x = some c
  kind : scope.kind = .function
  nocell : ∀ y ∈ scope.names, y.2 ≠ .cell
  names : ∀ y ∈ scope.names, y.2 = .local → scope.names.lookup y.1 = some .local
  has : ∀ x, ((relabel scope X.env).names.lookup x = some .cell ∨ (relabel scope X.env).names.lookup x = some .free) → ∃ c, cl.lookup x = some c
  len : cap.length = N1.length
  caps : ∀ (i : Nat) (x : Str) (j : Nat), N1[i]? = some x → cap[i]? = some (some j) → X.N[j]? = some x ∧ Vis X.env.scope x ∧ X.env.kindOf x ≠ some .local ∧ ((relabel scope X.env).names.lookup x = some .cell ∨ (relabel scope X.env).names.lookup x = some .free)

/-- the block's names at its start -/
noncomputable def capSt (cap : List (Option Nat)) (σ : St) : St := cap.map fun o => match o with
  | some j => (σ[j]?).getD none
  | none => none

noncomputable def PIf (X : Cx) (ifs : List Expr) (t : TT) : Prop :=
  ∀ (pins : List (Addr × Obj)) (s : Shared) (σ : St) (H : Hp) (Q : Bool → Hp → Prop), Inv X pins σ H s → t σ H Q →
    wpAny (model X.prog X.w) X.A (forIn ifs true fun c r => if r = true then do let ok ← isTrue c X.env (eval c X.env); pure (ForInStep.yield ok) else pure (ForInStep.yield r)) (TP X pins σ Q) X.xe s
theorem pif_nil {X : Cx} : PIf X [] (fun _ H Q => Q true H) := fun _ _ σ H Q I h => wpAny_tests_nil ⟨H, I, h⟩
theorem pif_one {X : Cx} {c : Expr} {t : TT} (h : PT X c t) : PIf X [c] t := fun pins s σ H Q I q => wpAny_tests_one (h pins s σ H Q I q)

/-- what a comprehension wants of its walk -/
noncomputable def CompW (J : It) (g : TG) (tt : TT) (te : TE) (acc : Addr) (σ0 : St) (H1 : Hp) (Q : VK) : Prop :=
  ∃ W : Nat → Nat → St → Hp → Prop, (∃ m, W 0 m σ0 (upd H1 acc (.lst []))) ∧ ∀ i m σ1 H2, W i m σ1 H2 →
    (J.stop i H2 ∧ Q (.ref acc) H2) ∨ (J.go i H2 ∧ ∃ N : St → Hp → Prop, (∀ σ' H', N σ' H' → ∃ m', m' < m ∧ W (i + 1) m' σ' H') ∧ ∀ x H3, J.yld i H2 x H3 → g x σ1 H3 fun σ4 H4 => tt σ4 H4 fun b H5 =>
      if b = true then te σ4 H5 fun y H6 => ∃ xs, H6 acc = some (.lst xs) ∧ xs.length < sizeLine ∧ N σ4 (upd H6 acc (.lst (xs ++ [y])))
      else N σ4 H5)
/-- a comprehension's reading -/
noncomputable def tComp (wi : TI) (g : TG) (tt : TT) (te : TE) (cap : List (Option Nat)) : TE := fun σ H Q => wi σ H fun J H1 => ∀ acc, H1 acc = none → CompW J g tt te acc (capSt cap σ) H1 Q

section
variable {X : Cx} {tg elt iter : Expr} {ifs : List Expr} {scope : Scope} {cl : List (Str × Addr)} {N1 : List Str} {cap : List (Option Nat)} {g : TG} {tt : TT} {te : TE} {pos : Pos}
  {pins : List (Addr × Obj)} {σ : St} {H1 : Hp} {s2 : Shared}

theorem comp_ok (K : CompOk X scope cl N1 cap) {fp : List Addr} {s : Shared} {H : Hp} (I : Inv X pins σ H s) (hf : ∀ b ∈ fp, FpOk X pins H b) (hlt : ∀ b ∈ fp, b < s.heap.objs.size) :
    (compCx X N1 scope cl s.heap.objs.size s H fp).Ok where
  mod := I.ok.mod
  kind := K.kind
  glob := I.ok.glob
  blt := I.ok.blt
  above := Nat.le_refl _
  inj := fun x y c h1 h2 => I.ok.inj x y c (K.sub x c h1) (K.sub y c h2)
  has := fun x h => K.has x h
  cab := fun x c h => by cases (show false = true from h)
  hd := I.ok.hd
  frames := I.ok.frames
  stk := .inl rfl
  exf := fun b hb => ⟨Nat.ne_of_lt (hlt b hb), fun x c h => (hf b hb).2.2.2.2.1 x c (K.sub x c h)⟩
  bs := I.bs
  bsz := Nat.le_trans I.ok.bsz I.sz
  noex := fun b o e hb => by
    rcases (hf b hb).2.2.2.1 with z | z
    · exact I.ok.noex b o e z
    · exact absurd (Nat.lt_of_lt_of_le (Heap.lt_size (I.ok.bs b o e).1) z) (Nat.lt_irrefl _)
  exfs := fun b hb z => by
    rcases List.mem_cons.mp (I.stkSub b z) with q | q
    · exact (hf b hb).2.1 q
    · exact (hf b hb).2.2.1 q
  funs := I.stack
  frf := I.stkFree

/-- the block, from the iterator on; RR as the surrounding rule wants it -/
theorem comp_run {J : It} {fp : List Addr} {it : Addr} {tn : Nat → Heap → Prop} {Q : VK} {RR : Value → Addr → Result → Shared → Prop} {E : Value → Shared → Prop}
    (K : CompOk X scope cl N1 cap) (hc : X.calm = true) (I : Inv X pins σ H1 s2) (T : Turn X.prog X.w X.K tg J fp it tn) (st2 : tn 0 s2.heap) (f2 : ∀ b ∈ fp, FpOk X pins H1 b)
    (hg : ∀ C s0 H0 fp, PG (compCx X N1 scope cl C s0 H0 fp) tg g) (ht : ∀ C s0 H0 fp, PIf (compCx X N1 scope cl C s0 H0 fp) ifs tt) (he : ∀ C s0 H0 fp, PE (compCx X N1 scope cl C s0 H0 fp) elt te)
    (h : ∀ acc, H1 acc = none → CompW J g tt te acc (capSt cap σ) H1 Q)
    (hRR : ∀ D C H' s', Inv X pins σ H' s' → (∃ m, s'.heap.Ns C m) → FpOk X pins H' C → Q (.ref D) H' → RR (.ref D) C (.ok .next) s') :
    wpAny (model X.prog X.w) X.A (newList []) (fun acc s3 => wpAny (model X.prog X.w) X.A (newFunctionEnv scope X.env.globals cl [] X.env.qual none .none (some X.env)) (fun cenv s4 =>
      codeAny (model X.prog X.w) X.A (.compStart (.ListComp elt [⟨tg, iter, ifs, 0⟩] scope pos) 0 (.ref it) acc { cenv with scope := relabel scope X.env }) (RR acc cenv.locals) s4) E s3) E s2 := by
  have fr := I.hok.fresh (Nat.le_refl s2.heap.objs.size)
  obtain ⟨W, ⟨m0, w0⟩, turn⟩ := h _ fr
  have objs := T.obj 0 _ st2
  have lt2 : ∀ b ∈ fp, b < s2.heap.objs.size := fun b hb => let ⟨o, e, _⟩ := objs b hb; Heap.lt_size e
  refine wpAny_newObj_type ?_
  -- the list is there, tracked
  have I3 : Inv X pins σ (upd H1 s2.heap.objs.size (.lst [])) { s2 with heap := s2.heap.push { cls := .type "list", data := .seq ([] : List Value).toArray }, toks := s2.toks } :=
    I.lnew (its := []) (t' := s2.toks) .nil (Nat.zero_le _)
  have old3 : ∀ b o, s2.heap.get? b = some o → (s2.heap.push { cls := .type "list", data := .seq ([] : List Value).toArray }).get? b = some o := fun b o e => Heap.get?_push_of_some _ e
  have f3 : ∀ b ∈ fp, FpOk X pins (upd H1 s2.heap.objs.size (.lst [])) b := fun b hb => by
    obtain ⟨z, r⟩ := f2 b hb
    exact ⟨by rw [upd_ne (Nat.ne_of_lt (lt2 b hb))]; exact z, r⟩
  have st3 : tn 0 (s2.heap.push { cls := .type "list", data := .seq ([] : List Value).toArray }) := T.keep _ _ _ st2 fun b _ o e => old3 b o e
  show wpAny _ _ _ _ _ { s2 with heap := s2.heap.push { cls := .type "list", data := .seq ([] : List Value).toArray }, toks := s2.toks }
  generalize hs3 : ({ s2 with heap := s2.heap.push { cls := .type "list", data := .seq ([] : List Value).toArray }, toks := s2.toks } : Shared) = s3 at *
  have hh3 : s3.heap = s2.heap.push { cls := .type "list", data := .seq ([] : List Value).toArray } := by rw [← hs3]
  rw [← hh3] at st3
  have lt3 : ∀ b ∈ fp, b < s3.heap.objs.size := fun b hb => by rw [hh3, Heap.size_push]; exact Nat.lt_succ_of_lt (lt2 b hb)
  generalize hD : s2.heap.objs.size = D at *
  generalize hH3 : upd H1 D (HO.lst []) = H3 at *
  refine wpAny_newFunctionEnv K.nocell (by intro y hy; simp at hy) (fun h1 hns sb => ?_) K.kind
  have old4 : ∀ b o, s3.heap.get? b = some o → h1.get? b = some o := fun b o e => sb.extBut b o (Nat.ne_of_lt (Heap.lt_size e)) (Heap.get?_push_of_some _ e)
  -- the block's own context
  have ok := comp_ok K I3 f3 lt3
  have I4 : Inv (compCx X N1 scope cl s3.heap.objs.size s3 H3 fp) [] (capSt cap σ) H3 { s3 with heap := h1, toks := s3.toks + ([] : List (Str × Value)).length } := by
    refine ⟨ok, rfl, I3.bare, Un.kept old4, ⟨_, hns, fun i x v e1 e2 e3 => ?_⟩, fun x c e => ?_, I3.hok.fresh (Nat.le_refl _), fun x c e => I3.freeC x c (K.sub x c e), fun p hp => absurd (show p ∈ ([] : List (Addr × Obj)) from hp) (by simp), I3.hok.kept old4, ?_⟩
    · obtain ⟨j, ej, ev⟩ : ∃ j, cap[i]? = some (some j) ∧ (σ[j]?).getD none = some v := by
        unfold capSt at e2
        rw [List.getElem?_map] at e2
        cases q : cap[i]? with
        | none => rw [q] at e2; cases e2
        | some o =>
          rw [q] at e2
          cases o with
          | none => cases e2
          | some j => exact ⟨j, rfl, Option.some.inj e2⟩
      obtain ⟨k1, k2, k3, k4⟩ := K.caps i x j e1 ej
      have ev' : σ[j]? = some (some v) := by
        cases q : σ[j]? with
        | none => rw [q] at ev; cases ev
        | some o => rw [q] at ev; exact congrArg some ev
      obtain ⟨m, hn, hl⟩ := I3.loc
      obtain ⟨u, ru, lk⟩ := hl j x v k1 ev' k2
      refine ⟨u, ru, .inr ⟨k4, ?_⟩⟩
      rcases lk with ⟨z, _⟩ | ⟨_, c, e, hcell⟩
      · exact absurd z k3
      · obtain ⟨c', e'⟩ := K.has x k4
        have ec := K.sub x c' e'
        rw [e] at ec; cases ec
        obtain ⟨o, ho, hd⟩ := hcell
        exact ⟨c, e', o, old4 _ _ ho, hd⟩
    · obtain ⟨v, o, ho, hd⟩ := I3.cell x c (K.sub x c e)
      exact ⟨v, o, old4 _ _ ho, hd⟩
    · unfold capSt
      rw [List.length_map]
      exact K.len
  have loop : ∀ s5 : Shared, s5 = { s3 with heap := h1, toks := s3.toks + ([] : List (Str × Value)).length } →
      codeAny (model X.prog X.w) X.A (.compLoop (.ListComp elt [⟨tg, iter, ifs, 0⟩] scope pos) 0 (.ref it) (.ref D) (compEnvC scope cl s3.heap.objs.size X.env)) (RR (.ref D) s3.heap.objs.size) s5 := by
    rintro s5 rfl
    have st4 : tn 0 h1 := T.keep _ _ _ st3 fun b _ o e => old4 b o e
    have stat : ∀ {H' : Hp}, (∀ b ∈ fp, H' b = none) → ∀ b ∈ fp, FpOk (compCx X N1 scope cl s3.heap.objs.size s3 H3 fp) [] H' b := fun {H'} hn b hb =>
      ⟨hn b hb, (ok.exf b hb).1, ok.exfs b hb, .inl hb, (ok.exf b hb).2, fun p hp => absurd (show p ∈ ([] : List (Addr × Obj)) from hp) (by simp)⟩
    refine compLoop_go (fun n s' => ∃ i σ' H', Inv (compCx X N1 scope cl s3.heap.objs.size s3 H3 fp) [] σ' H' s' ∧ tn i s'.heap ∧ (∀ b ∈ fp, H' b = none) ∧ W i n σ' H') ?_ m0
      ⟨0, _, H3, I4, st4, fun b hb => (f3 b hb).1, w0⟩
    rintro n s6 ⟨i, σ6, H6, I6, st6, fr6, w6⟩
    rcases turn i n σ6 H6 w6 with ⟨stop, q⟩ | ⟨go, N, hN, step⟩
    · refine thn (T.done (compCx X N1 scope cl s3.heap.objs.size s3 H3 fp) rfl rfl rfl hc i [] s6 σ6 H6 _ I6 (stat fr6) st6 stop) fun r s7 ⟨hr, I7⟩ => ?_
      subst hr
      have I8 : Inv X pins σ H6 s7 := I3.call' (ch := fp) I7.os I7.base I7.hok I7.bare fun b hb => ⟨(f3 b hb).2.2.2.1, (f3 b hb).2.1, (f3 b hb).2.2.2.2.1, (f3 b hb).2.2.2.2.2⟩
      have hC : FpOk X pins H6 s3.heap.objs.size := I3.fpOk (Nat.le_refl _) I7.free
      obtain ⟨m, hn, _⟩ := I7.loc
      exact hRR D _ H6 s7 I8 ⟨m, hn⟩ hC q
    · refine thn (T.item (compCx X N1 scope cl s3.heap.objs.size s3 H3 fp) rfl rfl rfl hc i [] s6 σ6 H6 _ I6 (stat fr6) st6 go) fun r s7 ⟨u, hr, h7⟩ => ?_
      subst hr
      refine thn h7 fun _ s8 ⟨x, H8, I8, r8, y8, st8, fr8⟩ => ?_
      have I8' := I8.pinned (stat fr8) (T.obj _ _ st8)
      have keepT : ∀ {σ' : St} {H' : Hp} {s' : Shared}, Inv (compCx X N1 scope cl s3.heap.objs.size s3 H3 fp) ([] ++ pinsAt fp s8.heap) σ' H' s' → tn (i + 1) s'.heap ∧ ∀ b ∈ fp, H' b = none := fun {σ' H' s'} I' =>
        ⟨T.keep _ _ _ st8 fun b hb o e => (I'.pin (b, o) (List.mem_append_right _ (List.mem_append_right _ (mem_pinsAt hb e)))).1, fun b hb => by
          obtain ⟨o, e, d⟩ := T.obj _ _ st8 b hb
          exact (I'.pin (b, o) (List.mem_append_right _ (List.mem_append_right _ (mem_pinsAt hb e)))).2.1⟩
      refine thn (hg _ s3 H3 fp _ s8 σ6 H8 x u _ I8' r8 (step x H8 y8)) fun _ s9 ⟨σ9, H9, I9, q9⟩ => ?_
      refine thn (ht _ s3 H3 fp _ s9 σ9 H9 _ I9 q9) fun b s10 ⟨H10, I10, q10⟩ => ?_
      cases b with
      | false =>
        rw [if_neg Bool.false_ne_true] at q10 ⊢
        obtain ⟨m', hm, w'⟩ := hN _ _ q10
        obtain ⟨k1, k2⟩ := keepT I10
        exact ⟨m', hm, i + 1, σ9, H10, I10.unpinned, k1, k2, w'⟩
      | true =>
        rw [if_pos rfl] at q10 ⊢
        refine thn (he _ s3 H3 fp _ s10 σ9 H10 _ I10 q10) fun v s11 ⟨y, H11, I11, r11, xs, hx, hz, n11⟩ => ?_
        obtain ⟨m', hm, w'⟩ := hN _ _ n11
        refine thn (mt_append (X := compCx X N1 scope cl s3.heap.objs.size s3 H3 fp) _ s11 σ9 H11 (.ref D) [y] (.ref D) [v] (fun _ H' => H' = upd H11 D (.lst (xs ++ [y]))) I11 rfl (.cons r11 .nil) ⟨D, xs, y, rfl, rfl, hx, hz, rfl⟩) fun v' s12 ⟨y', H12, I12, r12, q12⟩ => ?_
        subst q12
        obtain ⟨k1, k2⟩ := keepT I12
        exact ⟨m', hm, i + 1, σ9, _, I12.unpinned, k1, k2, w'⟩
  have st4 : tn 0 h1 := T.keep _ _ _ st3 fun b _ o e => old4 b o e
  exact codeAny_compStart_list (loop _ rfl) (T.self X.A 0 _ _ _ st4 (loop _ rfl))

/-- the frame of the block let go -/
theorem Inv.letgo {H : Hp} {s' : Shared} {C : Addr} (I : Inv X pins σ H s') (f : FpOk X pins H C) {h' : Heap} (sb : Heap.SameBut C s'.heap h') : Inv X pins σ H { s' with heap := h' } :=
  I.turned (t' := s'.toks) (fun b o hb e => (sb.2 b hb).trans e) f.1 f.2.1 f.2.2.2.1 f.2.2.2.2.1 f.2.2.2.2.2

/-- [elt for tg in iter if ..] -/
theorem pe_comp {wi : TI} (K : CompOk X scope cl N1 cap) (hc : X.calm = true) (hi : PI X tg iter wi) (hg : ∀ C s0 H0 fp, PG (compCx X N1 scope cl C s0 H0 fp) tg g) (ht : ∀ C s0 H0 fp, PIf (compCx X N1 scope cl C s0 H0 fp) ifs tt)
    (he : ∀ C s0 H0 fp, PE (compCx X N1 scope cl C s0 H0 fp) elt te) (hs : ∀ x, foldedSetIterable iter X.env x = pure x := by intro _; rfl) :
    PE X (.ListComp elt [⟨tg, iter, ifs, 0⟩] scope pos) (tComp wi g tt te cap) := by
  intro pins s σ H Q I h
  rw [eval_ListComp]
  refine wpAny_comprehension_free (use := none) rfl hs K.clos K.kind K.names (thn (hi pins s σ H _ I h) fun v s1 h1 => thn h1 fun itv s2 h2 => ?_)
  obtain ⟨it, fp, tn, J, H2, e, I2, T, st2, f2, hq⟩ := h2
  subst e
  refine comp_run (RR := fun acc C => compPost (model X.prog X.w) X.A X.xe none (EP X pins σ Q) acc C) K hc I2 T st2 f2 hg ht he hq ?_
  rintro D C H' s' I' ⟨m, hn⟩ f q
  exact ⟨m, hn, fun h' sb => ⟨.ref D, H', I'.letgo f sb, rfl, q⟩⟩

end
/-! ### the forms one uses -/
theorem comp_range {lo : Int} {n : Nat} {g : TG} {tt : TT} {te : TE} {σ0 : St} {H1 : Hp} {acc : Addr} {Q : VK} (Pv : Nat → St → Hp → Prop) (h0 : Pv 0 σ0 (upd H1 acc (.lst [])))
    (hs : ∀ i σ H, i < n → Pv i σ H → g (.int (lo + i)) σ H fun σ4 H4 => tt σ4 H4 fun b H5 =>
      if b = true then te σ4 H5 fun y H6 => ∃ xs, H6 acc = some (.lst xs) ∧ xs.length < sizeLine ∧ Pv (i + 1) σ4 (upd H6 acc (.lst (xs ++ [y]))) else Pv (i + 1) σ4 H5)
    (hd : ∀ σ H, Pv n σ H → Q (.ref acc) H) : CompW (Itr lo n) g tt te acc σ0 H1 Q := by
  refine ⟨fun i m σ H => m = n - i ∧ i ≤ n ∧ Pv i σ H, ⟨n, by simp, Nat.zero_le _, h0⟩, ?_⟩
  rintro i m σ H ⟨rfl, hi, p⟩
  by_cases hlt : i < n
  · refine .inr ⟨hlt, Pv (i + 1), fun σ' H' p' => ⟨n - (i + 1), by omega, rfl, hlt, p'⟩, fun x H' y => ?_⟩
    obtain ⟨e, y⟩ := y
    subst e y
    exact hs i σ _ hlt p
  · have e : i = n := by omega
    subst e
    exact .inl ⟨Nat.le_refl _, hd σ H p⟩
theorem comp_list {K : PySem.W.Frag} {a : Addr} {xs : List V} {g : TG} {tt : TT} {te : TE} {σ0 : St} {H1 : Hp} {acc : Addr} {Q : VK} (Pv : Nat → St → Hp → Prop) (h0 : Pv 0 σ0 (upd H1 acc (.lst [])))
    (hl : ∀ i σ H, i ≤ xs.length → Pv i σ H → SqL K H a xs)
    (hs : ∀ i x σ H, xs[i]? = some x → Pv i σ H → g x σ H fun σ4 H4 => tt σ4 H4 fun b H5 =>
      if b = true then te σ4 H5 fun y H6 => ∃ ys, H6 acc = some (.lst ys) ∧ ys.length < sizeLine ∧ Pv (i + 1) σ4 (upd H6 acc (.lst (ys ++ [y]))) else Pv (i + 1) σ4 H5)
    (hd : ∀ σ H, Pv xs.length σ H → Q (.ref acc) H) : CompW (Itl K a) g tt te acc σ0 H1 Q := by
  refine ⟨fun i m σ H => m = xs.length - i ∧ i ≤ xs.length ∧ Pv i σ H, ⟨xs.length, by simp, Nat.zero_le _, h0⟩, ?_⟩
  rintro i m σ H ⟨rfl, hi, p⟩
  have q := hl i σ H hi p
  by_cases hlt : i < xs.length
  · refine .inr ⟨⟨xs, xs[i], q, by simp [hlt]⟩, Pv (i + 1), fun σ' H' p' => ⟨xs.length - (i + 1), by omega, rfl, hlt, p'⟩, fun x H' y => ?_⟩
    obtain ⟨e, y⟩ := y
    subst e
    exact hs i x σ _ (y xs q) p
  · have e : i = xs.length := by omega
    subst e
    exact .inl ⟨⟨xs, q, Nat.le_refl _⟩, hd σ H p⟩
noncomputable def clOf (cells : List (Str × Addr)) : List (Str × NameKind) → List (Str × Addr) → List (Str × Addr)
  | [], acc => acc
  | (n, k) :: r, acc => clOf cells r (if k == .free then (n, (cells.lookup n).getD 0) :: acc else acc)
theorem clos_loop {env : Env} : ∀ (names : List (Str × NameKind)) (acc : List (Str × Addr)), (∀ y ∈ names, y.2 = .free → (env.cells.lookup y.1).isSome = true) →
    (forIn names acc fun x (cs : List (Str × Addr)) => if (x.2 == NameKind.free) = true then do let c ← cellOf env x.1; pure (ForInStep.yield ((x.1, c) :: cs)) else (pure (ForInStep.yield cs) : Sem (ForInStep (List (Str × Addr))))) = pure (clOf env.cells names acc)
  | [], acc, _ => by rw [List.forIn_nil]; rfl
  | (n, k) :: r, acc, h => by
    rw [List.forIn_cons]
    by_cases hk : (k == NameKind.free) = true
    · obtain ⟨c, hc⟩ := Option.isSome_iff_exists.mp (h (n, k) List.mem_cons_self (by simpa using hk))
      have hc : env.cells.lookup n = some c := hc
      have e : cellOf env n = pure c := by unfold cellOf; rw [hc]
      simp only [hk, if_true, e, pure_bind]
      unfold clOf
      rw [if_pos hk, hc]
      exact clos_loop r _ fun y hy => h y (List.mem_cons_of_mem _ hy)
    · simp only [hk, if_false, pure_bind, Bool.false_eq_true]
      unfold clOf
      rw [if_neg hk]
      exact clos_loop r _ fun y hy => h y (List.mem_cons_of_mem _ hy)
theorem clos_of {env : Env} {scope : Scope} (h : ∀ y ∈ scope.names, y.2 = .free → (env.cells.lookup y.1).isSome = true) : closureFor scope env = pure (clOf env.cells scope.names []) := by
  unfold closureFor
  rw [← clos_loop scope.names [] h]
  simp only [bind_pure]
theorem clOf_mem {cells : List (Str × Addr)} : ∀ (names : List (Str × NameKind)) (acc : List (Str × Addr)), (∀ y ∈ names, y.2 = .free → (cells.lookup y.1).isSome = true) → (∀ p ∈ acc, cells.lookup p.1 = some p.2) →
    ∀ p ∈ clOf cells names acc, cells.lookup p.1 = some p.2
  | [], acc, _, ha, p, hp => ha p hp
  | (n, k) :: r, acc, h, ha, p, hp => by
    unfold clOf at hp
    refine clOf_mem r _ (fun y hy => h y (List.mem_cons_of_mem _ hy)) ?_ p hp
    by_cases hk : (k == NameKind.free) = true
    · rw [if_pos hk]
      intro q hq
      rcases List.mem_cons.mp hq with rfl | hq
      · obtain ⟨c, hc⟩ := Option.isSome_iff_exists.mp (h (n, k) List.mem_cons_self (by simpa using hk))
        have hc : cells.lookup n = some c := hc
        rw [hc]; rfl
      · exact ha q hq
    · rw [if_neg hk]; exact ha
theorem clOf_has {cells : List (Str × Addr)} (x : Str) : ∀ (names : List (Str × NameKind)) (acc : List (Str × Addr)), ((∃ y ∈ names, y.1 = x ∧ y.2 = .free) ∨ (acc.lookup x).isSome = true) → ((clOf cells names acc).lookup x).isSome = true
  | [], acc, h => by
    rcases h with ⟨y, hy, _⟩ | h
    · simp at hy
    · exact h
  | (n, k) :: r, acc, h => by
    unfold clOf
    refine clOf_has x r _ ?_
    rcases h with ⟨y, hy, e1, e2⟩ | h
    · rcases List.mem_cons.mp hy with rfl | hy
      · refine .inr ?_
        have hk : (k == NameKind.free) = true := by simpa using e2
        rw [if_pos hk]
        have e1 : n = x := e1
        subst e1
        simp [List.lookup_cons]
      · exact .inl ⟨y, hy, e1, e2⟩
    · refine .inr ?_
      split
      · rw [List.lookup_cons]
        split
        · rfl
        · exact h
      · exact h
theorem lookup_relabel {env : Env} {k : NameKind} : ∀ {names : List (Str × NameKind)} {x : Str}, (∀ y ∈ names, y.2 ≠ .cell) → k = .cell ∨ k = .free →
    (names.map fun (n, k) => if (k == NameKind.free && env.scope.kind == .function && env.kindOf n == some .cell) then (n, NameKind.cell) else (n, k)).lookup x = some k → ∃ y ∈ names, y.1 = x ∧ y.2 = .free
  | [], x, _, _, h => by simp at h
  | (n, j) :: r, x, hn, hk, h => by
    have ih := @lookup_relabel env k r x (fun y hy => hn y (List.mem_cons_of_mem _ hy)) hk
    rw [List.map_cons, List.lookup_cons] at h
    have e1 : ∀ (c : Bool), ((if c = true then (n, NameKind.cell) else (n, j)) : Str × NameKind).1 = n := by intro c; cases c <;> rfl
    by_cases hx : (x == n) = true
    · have hxn : n = x := (by simpa using hx : x = n).symm
      refine ⟨(n, j), List.mem_cons_self, hxn, ?_⟩
      by_cases hc : (j == NameKind.free && env.scope.kind == .function && env.kindOf n == some .cell) = true
      · simp only [Bool.and_eq_true] at hc
        simpa using hc.1.1
      · simp only [e1, hx] at h
        simp only [hc] at h
        have h : j = k := by simpa using h
        rcases hk with rfl | rfl
        · exact absurd h (hn _ List.mem_cons_self)
        · exact h
    · have hx' : (x == n) = false := by simpa using hx
      simp only [e1, hx'] at h
      obtain ⟨y, hy, r⟩ := ih h
      exact ⟨y, List.mem_cons_of_mem _ hy, r⟩
theorem relabel_free_aux {env : Env} : ∀ {names : List (Str × NameKind)} {x : Str}, names.lookup x = some .free →
    (names.map fun (n, k) => if (k == NameKind.free && env.scope.kind == .function && env.kindOf n == some .cell) then (n, NameKind.cell) else (n, k)).lookup x = some .cell ∨
    (names.map fun (n, k) => if (k == NameKind.free && env.scope.kind == .function && env.kindOf n == some .cell) then (n, NameKind.cell) else (n, k)).lookup x = some .free
  | [], _, h => by simp at h
  | (n, k) :: r, x, h => by
    have ih := @relabel_free_aux env r x
    show List.lookup x ((if (k == NameKind.free && env.scope.kind == .function && env.kindOf n == some .cell) = true then (n, NameKind.cell) else (n, k)) :: _) = _ ∨
      List.lookup x ((if (k == NameKind.free && env.scope.kind == .function && env.kindOf n == some .cell) = true then (n, NameKind.cell) else (n, k)) :: _) = _
    cases hx : x == n with
    | true =>
      simp only [List.lookup_cons, hx] at h
      cases h
      by_cases hc : (NameKind.free == NameKind.free && env.scope.kind == .function && env.kindOf n == some .cell) = true
      · rw [if_pos hc]; exact .inl (by simp only [List.lookup_cons, hx])
      · rw [if_neg hc]; exact .inr (by simp only [List.lookup_cons, hx])
    | false =>
      simp only [List.lookup_cons, hx] at h
      by_cases hc : (k == NameKind.free && env.scope.kind == .function && env.kindOf n == some .cell) = true
      · rw [if_pos hc]; simp only [List.lookup_cons, hx]; exact ih h
      · rw [if_neg hc]; simp only [List.lookup_cons, hx]; exact ih h
theorem relabel_free {scope : Scope} {env : Env} {x : Str} (h : scope.names.lookup x = some .free) : (relabel scope env).names.lookup x = some .cell ∨ (relabel scope env).names.lookup x = some .free := relabel_free_aux h

/-- a comprehension in a def's body, by what is seen of the two scopes -/
theorem compOk_def {X : Cx} {scope sc : Scope} {N1 : List Str} {cap : List (Option Nat)} (n : Nat) (hsc : X.env.scope = sc) (hcells : X.env.cells = cellsFrom n sc.names []) (kind : scope.kind = .function)
    (nocell : ∀ y ∈ scope.names, y.2 ≠ .cell) (names : ∀ y ∈ scope.names, y.2 = .local → scope.names.lookup y.1 = some .local) (free : ∀ y ∈ scope.names, y.2 = .free → sc.names.lookup y.1 = some .cell)
    (len : cap.length = N1.length)
    (caps : ∀ i, i < N1.length → ∀ x j, N1[i]? = some x → cap[i]? = some (some j) → X.N[j]? = some x ∧ sc.names.lookup x = some .cell ∧ scope.names.lookup x = some .free) :
    CompOk X scope (clOf X.env.cells scope.names []) N1 cap := by
  have fr : ∀ y ∈ scope.names, y.2 = .free → (X.env.cells.lookup y.1).isSome = true := fun y hy e => by
    rw [hcells]
    exact PySem.W.cellsFrom_some _ _ _ (.inl (free y hy e))
  have mem : ∀ p ∈ clOf X.env.cells scope.names [], X.env.cells.lookup p.1 = some p.2 := clOf_mem scope.names [] fr fun p hp => absurd hp (by simp)
  have has : ∀ x, ((relabel scope X.env).names.lookup x = some .cell ∨ (relabel scope X.env).names.lookup x = some .free) → ∃ c, (clOf X.env.cells scope.names []).lookup x = some c := fun x h => by
    have q : ∃ y ∈ scope.names, y.1 = x ∧ y.2 = .free := by
      rcases h with h | h
      · exact lookup_relabel nocell (.inl rfl) h
      · exact lookup_relabel nocell (.inr rfl) h
    exact Option.isSome_iff_exists.mp (clOf_has x scope.names [] (.inl q))
  refine ⟨clos_of fr, fun x c h => mem (x, c) (PySem.mem_of_lookup h), kind, nocell, names, has, len, fun i x j e1 e2 => ?_⟩
  have hi : i < N1.length := (List.getElem?_eq_some_iff.mp e1).1
  obtain ⟨k1, k2, k3⟩ := caps i hi x j e1 e2
  refine ⟨k1, .inr (.inl (by rw [hsc]; exact k2)), ?_, ?_⟩
  · show X.env.scope.names.lookup x ≠ _
    rw [hsc, k2]
    intro z; cases z
  · exact relabel_free k3
end L2

set_option Elab.async false
set_option linter.all false
set_option maxRecDepth 100000
/-! Data of any depth in the abstract heap: ints, texts, tuples and lists of them; == and != of two such things; isinstance. -/
namespace L2
open PySem PySem.Spec PyProof.Rows

inductive Dd where
  | int (i : Int) | str (x : Str) | tup (ds : List Dd) | lst (ds : List Dd)

/-- the thing d stands at the value v -/
inductive At (H : Hp) : Dd → V → Prop where
  | int (i : Int) : At H (.int i) (.int i)
  | str (x : Str) : At H (.str x) (.str x)
  | tup {a : Addr} {xs : List V} {ds : List Dd} (h : H a = some (.tup xs)) (r : Paired (At H) ds xs) : At H (.tup ds) (.ref a)
  | lst {a : Addr} {xs : List V} {ds : List Dd} (h : H a = some (.lst xs)) (r : Paired (At H) ds xs) : At H (.lst ds) (.ref a)
noncomputable abbrev AtL (H : Hp) : List Dd → List V → Prop := Paired (At H)

theorem At.int_inv {H : Hp} {i : Int} {v : V} (h : At H (.int i) v) : v = .int i := by cases h; rfl
theorem At.tup_inv {H : Hp} {ds : List Dd} {v : V} (h : At H (.tup ds) v) : ∃ a xs, v = .ref a ∧ H a = some (.tup xs) ∧ AtL H ds xs := by
  cases h with
  | tup h r => exact ⟨_, _, rfl, h, r⟩
theorem At.lst_inv {H : Hp} {ds : List Dd} {v : V} (h : At H (.lst ds) v) : ∃ a xs, v = .ref a ∧ H a = some (.lst xs) ∧ AtL H ds xs := by
  cases h with
  | lst h r => exact ⟨_, _, rfl, h, r⟩

theorem Paired.get {α β : Type} {F : α → β → Prop} : ∀ {l : List α} {m : List β} {i : Nat} {a : α} {b : β}, Paired F l m → l[i]? = some a → m[i]? = some b → F a b
  | _, _, _, _, _, .nil, e, _ => by simp at e
  | _, _, 0, _, _, .cons r _, e1, e2 => by simp at e1 e2; subst e1 e2; exact r
  | _, _, i + 1, a, b, .cons _ t, e1, e2 => Paired.get (i := i) t (by simpa using e1) (by simpa using e2)
theorem Paired.get1 {α β : Type} {F : α → β → Prop} {l : List α} {m : List β} {i : Nat} {a : α} (p : Paired F l m) (e : l[i]? = some a) : ∃ b, m[i]? = some b ∧ F a b := by
  have hl := p.length
  obtain ⟨hi, _⟩ := List.getElem?_eq_some_iff.mp e
  have : m[i]? = some m[i] := by simp [show i < m.length by omega]
  exact ⟨_, this, Paired.get p e this⟩
theorem Paired.get2 {α β : Type} {F : α → β → Prop} {l : List α} {m : List β} {i : Nat} {b : β} (p : Paired F l m) (e : m[i]? = some b) : ∃ a, l[i]? = some a ∧ F a b := by
  have hl := p.length
  obtain ⟨hi, _⟩ := List.getElem?_eq_some_iff.mp e
  have : l[i]? = some l[i] := by simp [show i < l.length by omega]
  exact ⟨_, this, Paired.get p this e⟩
theorem Paired.app {α β : Type} {F : α → β → Prop} : ∀ {l l' : List α} {m m' : List β}, Paired F l m → Paired F l' m' → Paired F (l ++ l') (m ++ m')
  | _, _, _, _, .nil, q => q
  | _, _, _, _, .cons r t, q => .cons r (Paired.app t q)
theorem Paired.impM {α β : Type} {F G : α → β → Prop} : ∀ {l : List α} {m : List β}, Paired F l m → (∀ a b, a ∈ l → F a b → G a b) → Paired G l m
  | _, _, .nil, _ => .nil
  | _, _, .cons r t, f => .cons (f _ _ List.mem_cons_self r) (Paired.impM t fun a b h => f a b (List.mem_cons_of_mem _ h))

theorem Same.upd_new {H : Hp} {a : Addr} {o : HO} (n : H a = none) : Same H (upd H a o) := fun b u e => by rw [upd_ne (ne_of_none e n)]; exact e

theorem At.same {H H' : Hp} (e : Same H H') : ∀ (n : Nat) {d : Dd} {v : V}, sizeOf d ≤ n → At H d v → At H' d v
  | 0, d, v, hn, _ => by cases d <;> simp at hn
  | n + 1, d, v, hn, h => by
    have lt : ∀ {ds : List Dd} {d' : Dd}, d' ∈ ds → sizeOf ds < n + 1 → sizeOf d' ≤ n := fun hm hs => by
      have := List.sizeOf_lt_of_mem hm
      omega
    cases h with
    | int i => exact .int i
    | str x => exact .str x
    | tup h r => exact .tup (e _ _ h) (Paired.impM r fun a b hm q => At.same e n (lt hm (by simp at hn; omega)) q)
    | lst h r => exact .lst (e _ _ h) (Paired.impM r fun a b hm q => At.same e n (lt hm (by simp at hn; omega)) q)
theorem At.mono {H H' : Hp} {d : Dd} {v : V} (h : At H d v) (e : Same H H') : At H' d v := At.same e _ (Nat.le_refl _) h
theorem AtL.mono {H H' : Hp} {d : List Dd} {v : List V} (h : AtL H d v) (e : Same H H') : AtL H' d v := Paired.impM h fun _ _ _ q => q.mono e

/-- things without lists lean on tuples alone, which never change -/
inductive NoL : Dd → Prop where
  | int (i : Int) : NoL (.int i)
  | str (x : Str) : NoL (.str x)
  | tup {ds : List Dd} (h : ∀ d ∈ ds, NoL d) : NoL (.tup ds)
noncomputable def SameT (H H' : Hp) : Prop := ∀ a xs, H a = some (.tup xs) → H' a = some (.tup xs)
theorem SameT.put {H : Hp} {l : Addr} {xs : List V} {o : HO} (h : H l = some (.lst xs)) : SameT H (upd H l o) := fun a ys e => by
  rw [upd_ne (ne_of e h (fun z => by cases z))]; exact e
theorem At.sameT {H H' : Hp} (e : SameT H H') : ∀ (n : Nat) {d : Dd} {v : V}, sizeOf d ≤ n → NoL d → At H d v → At H' d v
  | 0, d, v, hn, _, _ => by cases d <;> simp at hn
  | n + 1, d, v, hn, hl, h => by
    cases h with
    | int i => exact .int i
    | str x => exact .str x
    | @tup a xs ds h r =>
      cases hl with
      | tup hl =>
        refine .tup (e _ _ h) (Paired.impM r fun d' b hm q => At.sameT e n ?_ (hl d' hm) q)
        have := List.sizeOf_lt_of_mem hm
        simp at hn
        omega
    | lst h r => cases hl
theorem At.monoT {H H' : Hp} {d : Dd} {v : V} (h : At H d v) (l : NoL d) (e : SameT H H') : At H' d v := At.sameT e _ (Nat.le_refl _) l h
theorem AtL.monoT {H H' : Hp} {d : List Dd} {v : List V} (h : AtL H d v) (l : ∀ x ∈ d, NoL x) (e : SameT H H') : AtL H' d v := Paired.impM h fun _ _ m q => q.monoT (l _ m) e
theorem Paired.snoc' {α β : Type} {F : α → β → Prop} {l : List α} {m : List β} {a : α} {b : β} (h : Paired F l m) (q : F a b) : Paired F (l ++ [a]) (m ++ [b]) := Paired.app h (.cons q .nil)

/-- no deeper than n -/
noncomputable def fits : Nat → Dd → Prop
  | _, .int _ => True
  | _, .str _ => True
  | 0, _ => False
  | n + 1, .tup ds => ∀ d ∈ ds, fits n d
  | n + 1, .lst ds => ∀ d ∈ ds, fits n d

section
variable {X : Cx} {pins : List (Addr × Obj)} {σ : St} {H : Hp} {s : Shared}
/-- what stands at a value is one thing -/
theorem At.inj {H : Hp} : ∀ (n : Nat) {d d' : Dd} {v : V}, sizeOf d ≤ n → At H d v → At H d' v → d = d'
  | 0, d, _, _, hn, _, _ => by cases d <;> simp at hn
  | n + 1, d, d', v, hn, h, h' => by
    have rec' : ∀ {ds es : List Dd} {xs : List V}, sizeOf ds ≤ n → AtL H ds xs → AtL H es xs → ds = es := by
      intro ds es xs hs r
      induction r generalizing es with
      | nil => intro q; cases q; rfl
      | @cons a b l1 l2 q t ih =>
        intro q'
        cases q' with
        | @cons a' _ l1' _ q1 t' =>
          have e1 : a = a' := At.inj n (by simp at hs; omega) q q1
          have e2 := ih (by simp at hs; omega) t'
          rw [e1, e2]
    cases h with
    | int i => cases h'; rfl
    | str x => cases h'; rfl
    | @tup a xs ds h r =>
      cases h' with
      | @tup _ ys es h1 r1 =>
        rw [h] at h1; cases h1
        rw [rec' (by simp at hn; omega) r r1]
      | @lst _ ys es h1 r1 => rw [h] at h1; cases h1
    | @lst a xs ds h r =>
      cases h' with
      | @lst _ ys es h1 r1 =>
        rw [h] at h1; cases h1
        rw [rec' (by simp at hn; omega) r r1]
      | @tup _ ys es h1 r1 => rw [h] at h1; cases h1

theorem all_range {n : Nat} {e : Nat → Bool} : ((List.range n).all e) = true ↔ ∀ j, j < n → e j = true := by
  rw [List.all_eq_true]
  exact ⟨fun h j hj => h j (List.mem_range.mpr hj), fun h j hj => h j (List.mem_range.mp hj)⟩

/-- the items' answers -/
theorem items_eq {F : Dd → Dd → Nat → Bool → Prop} {ds es : List Dd} (h : ∀ j d e, ds[j]? = some d → es[j]? = some e → ∃ b, F d e j b ∧ (b = true ↔ d = e)) :
    ∃ f : Nat → Bool, (∀ j d e, ds[j]? = some d → es[j]? = some e → F d e j (f j) ∧ (f j = true ↔ d = e)) := by
  have h' : ∀ j, ∃ b : Bool, ∀ d e, ds[j]? = some d → es[j]? = some e → F d e j b ∧ (b = true ↔ d = e) := fun j => by
    cases hd : ds[j]? with
    | none => exact ⟨true, fun d e q => by cases q⟩
    | some d =>
      cases he : es[j]? with
      | none => exact ⟨true, fun d e _ q => by cases q⟩
      | some e =>
        obtain ⟨b, q⟩ := h j d e hd he
        exact ⟨b, fun d' e' q1 q2 => by cases q1; cases q2; exact q⟩
  exact Classical.skolem.mp h'
theorem arr_at {l : List Value} {j : Nat} {q : Value} (h : j < l.toArray.size) (g : l[j]? = some q) : l.toArray[j] = q := by
  have h' : j < l.length := by simpa using h
  rw [List.getElem?_eq_getElem h'] at g
  simpa using Option.some.inj g

theorem list_ext_iff {ds es : List Dd} (hl : ds.length = es.length) {f : Nat → Bool} (h : ∀ j d e, ds[j]? = some d → es[j]? = some e → (f j = true ↔ d = e)) : (∀ j, j < ds.length → f j = true) ↔ ds = es := by
  constructor
  · intro q
    refine List.ext_getElem hl fun j h1 h2 => ?_
    exact (h j ds[j] es[j] (by simp [h1]) (by simp [h2])).mp (q j h1)
  · rintro rfl j hj
    exact (h j ds[j] ds[j] (by simp [hj]) (by simp [hj])).mpr rfl

/-- == of things -/
theorem Inv.eqAt (I : Inv X pins σ H s) : ∀ (n : Nat) {A : Around} {d e : Dd} {v x : V} {u y : Value}, fits n d → At H d v → At H e x → RelV v u → RelV x y → A.units + n < cLine →
    ∃ b, SeqAt.EqAt A s u y b ∧ (b = true ↔ d = e) := by
  intro n
  induction n with
  | zero =>
    intro A d e v x u y hf h1 h2 r1 r2 hu
    cases h1 with
    | int i =>
      obtain ⟨t, rfl⟩ := r1
      cases h2 with
      | int j => obtain ⟨t', rfl⟩ := r2; exact ⟨_, SeqAt.EqAt.int_int i t j t', by simp⟩
      | str j => obtain ⟨t', rfl⟩ := r2; exact ⟨_, SeqAt.EqAt.int_str i t j t', by simp⟩
      | tup h r => cases r2; obtain ⟨its, _, p, _⟩ := I.tuple (SqT.of (K := X.K) h); exact ⟨_, SeqAt.EqAt.int_tuple i t p (by omega), by simp⟩
      | lst h r => cases r2; obtain ⟨its, _, p, _⟩ := I.list (SqL.of (K := X.K) h); exact ⟨_, SeqAt.EqAt.int_list i t p.isList (by omega), by simp⟩
    | str i =>
      obtain ⟨t, rfl⟩ := r1
      cases h2 with
      | int j => obtain ⟨t', rfl⟩ := r2; exact ⟨_, SeqAt.EqAt.str_int i t j t', by simp⟩
      | str j => obtain ⟨t', rfl⟩ := r2; exact ⟨_, SeqAt.EqAt.str_str i t j t', by simp⟩
      | tup h r => cases r2; obtain ⟨its, _, p, _⟩ := I.tuple (SqT.of (K := X.K) h); exact ⟨_, SeqAt.EqAt.str_tuple i t p (by omega), by simp⟩
      | lst h r => cases r2; obtain ⟨its, _, p, _⟩ := I.list (SqL.of (K := X.K) h); exact ⟨_, SeqAt.EqAt.str_list i t p.isList (by omega), by simp⟩
    | tup h r => exact hf.elim
    | lst h r => exact hf.elim
  | succ n ih =>
    intro A d e v x u y hf h1 h2 r1 r2 hu
    have sub : ∀ {ds es : List Dd} {xs ys : List V} {us ws : List Value}, (∀ d ∈ ds, fits n d) → AtL H ds xs → AtL H es ys → Vals xs us → Vals ys ws →
        ∃ f : Nat → Bool, ∀ j d e, ds[j]? = some d → es[j]? = some e → (∃ p q, us[j]? = some p ∧ ws[j]? = some q ∧ SeqAt.EqAt A.in1 s p q (f j)) ∧ (f j = true ↔ d = e) := by
      intro ds es xs ys us ws hfs a1 a2 v1 v2
      refine items_eq (F := fun d e j b => ∃ p q, us[j]? = some p ∧ ws[j]? = some q ∧ SeqAt.EqAt A.in1 s p q b) fun j d e e1 e2 => ?_
      obtain ⟨x1, g1, t1⟩ := Paired.get1 a1 e1
      obtain ⟨x2, g2, t2⟩ := Paired.get1 a2 e2
      obtain ⟨p, p1, p2⟩ := v1.get g1
      obtain ⟨q, q1, q2⟩ := v2.get g2
      obtain ⟨b, hb, hb'⟩ := ih (A := A.in1) (hfs d (List.mem_of_getElem? e1)) t1 t2 p2 q2 (by show A.units + 1 + n < cLine; omega)
      exact ⟨b, ⟨p, q, p1, q1, hb⟩, hb'⟩
    cases h1 with
    | int i =>
      obtain ⟨t, rfl⟩ := r1
      cases h2 with
      | int j => obtain ⟨t', rfl⟩ := r2; exact ⟨_, SeqAt.EqAt.int_int i t j t', by simp⟩
      | str j => obtain ⟨t', rfl⟩ := r2; exact ⟨_, SeqAt.EqAt.int_str i t j t', by simp⟩
      | tup h r => cases r2; obtain ⟨its, _, p, _⟩ := I.tuple (SqT.of (K := X.K) h); exact ⟨_, SeqAt.EqAt.int_tuple i t p (by omega), by simp⟩
      | lst h r => cases r2; obtain ⟨its, _, p, _⟩ := I.list (SqL.of (K := X.K) h); exact ⟨_, SeqAt.EqAt.int_list i t p.isList (by omega), by simp⟩
    | str i =>
      obtain ⟨t, rfl⟩ := r1
      cases h2 with
      | int j => obtain ⟨t', rfl⟩ := r2; exact ⟨_, SeqAt.EqAt.str_int i t j t', by simp⟩
      | str j => obtain ⟨t', rfl⟩ := r2; exact ⟨_, SeqAt.EqAt.str_str i t j t', by simp⟩
      | tup h r => cases r2; obtain ⟨its, _, p, _⟩ := I.tuple (SqT.of (K := X.K) h); exact ⟨_, SeqAt.EqAt.str_tuple i t p (by omega), by simp⟩
      | lst h r => cases r2; obtain ⟨its, _, p, _⟩ := I.list (SqL.of (K := X.K) h); exact ⟨_, SeqAt.EqAt.str_list i t p.isList (by omega), by simp⟩
    | @tup a xs ds h r =>
      cases r1
      obtain ⟨its, rv, p, _⟩ := I.tuple (SqT.of (K := X.K) h)
      cases h2 with
      | int j => obtain ⟨t', rfl⟩ := r2; exact ⟨_, SeqAt.EqAt.tuple_int j t' p (by omega), by simp⟩
      | str j => obtain ⟨t', rfl⟩ := r2; exact ⟨_, SeqAt.EqAt.tuple_str j t' p (by omega), by simp⟩
      | @lst b ys es h' r' =>
        cases r2
        obtain ⟨its', rv', p', _⟩ := I.list (SqL.of (K := X.K) h')
        exact ⟨_, SeqAt.EqAt.tuple_list p p'.isList (by omega), by simp⟩
      | @tup b ys es h' r' =>
        cases r2
        obtain ⟨its', rv', p', _⟩ := I.tuple (SqT.of (K := X.K) h')
        by_cases hab : a = b
        · subst hab
          have e := At.inj _ (Nat.le_refl _) (At.tup h r) (At.tup h' r')
          exact ⟨true, SeqAt.EqAt.same _, by simp [e]⟩
        · obtain ⟨f, hfj⟩ := sub hf r r' rv rv'
          have l1 := r.length
          have l2 := r'.length
          have l3 := rv.length
          have l4 := rv'.length
          refine ⟨_, SeqAt.EqAt.of_refs hab (SeqAt.RcAt.tuples (e := f) p p' (by omega) fun j h1 h2 => ?_), ?_⟩
          · simp only [List.size_toArray] at h1 h2
            obtain ⟨⟨q1, q2, g1, g2, z⟩, _⟩ := hfj j ds[j] es[j] (by simp [show j < ds.length by omega]) (by simp [show j < es.length by omega])
            rw [arr_at _ g1, arr_at _ g2]
            exact z
          · rw [Bool.and_eq_true, all_range, List.size_toArray, List.size_toArray, beq_iff_eq]
            constructor
            · rintro ⟨q, el⟩
              have hl : ds.length = es.length := by omega
              rw [(list_ext_iff hl fun j d e e1 e2 => (hfj j d e e1 e2).2).mp fun j hj => q j (by omega)]
            · intro e
              injection e with e
              subst e
              refine ⟨fun j hj => ?_, by omega⟩
              exact (hfj j ds[j] ds[j] (by simp [show j < ds.length by omega]) (by simp [show j < ds.length by omega])).2.mpr rfl
    | @lst a xs ds h r =>
      cases r1
      obtain ⟨its, rv, p, _⟩ := I.list (SqL.of (K := X.K) h)
      cases h2 with
      | int j => obtain ⟨t', rfl⟩ := r2; exact ⟨_, SeqAt.EqAt.list_int j t' p.isList (by omega), by simp⟩
      | str j => obtain ⟨t', rfl⟩ := r2; exact ⟨_, SeqAt.EqAt.list_str j t' p.isList (by omega), by simp⟩
      | @tup b ys es h' r' =>
        cases r2
        obtain ⟨its', rv', p', _⟩ := I.tuple (SqT.of (K := X.K) h')
        exact ⟨_, SeqAt.EqAt.list_tuple p.isList p' (by omega), by simp⟩
      | @lst b ys es h' r' =>
        cases r2
        obtain ⟨its', rv', p', _⟩ := I.list (SqL.of (K := X.K) h')
        by_cases hab : a = b
        · subst hab
          have e := At.inj _ (Nat.le_refl _) (At.lst h r) (At.lst h' r')
          exact ⟨true, SeqAt.EqAt.same _, by simp [e]⟩
        · obtain ⟨f, hfj⟩ := sub hf r r' rv rv'
          have l1 := r.length
          have l2 := r'.length
          have l3 := rv.length
          have l4 := rv'.length
          by_cases hl : ds.length = es.length
          · refine ⟨_, SeqAt.EqAt.of_refs hab (SeqAt.RcAt.lists (e := f) p.isList p'.isList (by simp only [List.size_toArray]; omega) (by omega) fun j h1 h2 => ?_), ?_⟩
            · simp only [List.size_toArray] at h1 h2
              obtain ⟨⟨q1, q2, g1, g2, z⟩, _⟩ := hfj j ds[j] es[j] (by simp [show j < ds.length by omega]) (by simp [show j < es.length by omega])
              rw [arr_at _ g1, arr_at _ g2]
              exact z
            · rw [all_range, List.size_toArray]
              constructor
              · intro q
                rw [(list_ext_iff hl fun j d e e1 e2 => (hfj j d e e1 e2).2).mp fun j hj => q j (by omega)]
              · intro e
                injection e with e
                subst e
                intro j hj
                exact (hfj j ds[j] ds[j] (by simp [show j < ds.length by omega]) (by simp [show j < ds.length by omega])).2.mpr rfl
          · refine ⟨_, SeqAt.EqAt.of_refs hab (SeqAt.RcAt.lists_lengths p.isList p'.isList (by simp only [List.size_toArray, bne_iff_ne]; omega) (by omega)), ?_⟩
            constructor
            · intro z; cases z
            · intro e; injection e with e; exact absurd (congrArg List.length e) hl
/-- the items of two sequences, one by one -/
theorem Inv.subs (I : Inv X pins σ H s) {n : Nat} {A : Around} {ds es : List Dd} {xs ys : List V} {us ws : List Value} (hfs : ∀ d ∈ ds, fits n d) (a1 : AtL H ds xs) (a2 : AtL H es ys) (v1 : Vals xs us) (v2 : Vals ys ws) (hu : A.units + n + 1 < cLine) :
    ∃ f : Nat → Bool, (∀ j (h1 : j < us.toArray.size) (h2 : j < ws.toArray.size), SeqAt.EqAt A.in1 s us.toArray[j] ws.toArray[j] (f j)) ∧ ∀ j d e, ds[j]? = some d → es[j]? = some e → (f j = true ↔ d = e) := by
  obtain ⟨f, hf⟩ := items_eq (F := fun d e j b => ∃ p q, us[j]? = some p ∧ ws[j]? = some q ∧ SeqAt.EqAt A.in1 s p q b) fun j d e e1 e2 => by
    obtain ⟨x1, g1, t1⟩ := Paired.get1 a1 e1
    obtain ⟨x2, g2, t2⟩ := Paired.get1 a2 e2
    obtain ⟨p, p1, p2⟩ := v1.get g1
    obtain ⟨q, q1, q2⟩ := v2.get g2
    obtain ⟨b, hb, hb'⟩ := I.eqAt n (A := A.in1) (hfs d (List.mem_of_getElem? e1)) t1 t2 p2 q2 (by show A.units + 1 + n < cLine; omega)
    exact ⟨b, ⟨p, q, p1, q1, hb⟩, hb'⟩
  have l1 := a1.length
  have l2 := a2.length
  have l3 := v1.length
  have l4 := v2.length
  refine ⟨f, fun j h1 h2 => ?_, fun j d e e1 e2 => (hf j d e e1 e2).2⟩
  simp only [List.size_toArray] at h1 h2
  obtain ⟨⟨q1, q2, g1, g2, z⟩, _⟩ := hf j ds[j] es[j] (by simp [show j < ds.length by omega]) (by simp [show j < es.length by omega])
  rw [arr_at _ g1, arr_at _ g2]
  exact z
/-- both tuples, or both lists -/
noncomputable def alikeD : Dd → Dd → Prop
  | .tup _, .tup _ => True
  | .lst _, .lst _ => True
  | _, _ => False
theorem Inv.rcAt (I : Inv X pins σ H s) {n : Nat} {A : Around} {d e : Dd} {v x : V} {u y : Value} (hf : fits (n + 1) d) (hk : alikeD d e) (h1 : At H d v) (h2 : At H e x) (r1 : RelV v u) (r2 : RelV x y) (hu : A.units + n + 1 < cLine) :
    ∃ b, SeqAt.RcAt A s u y b ∧ SeqAt.RcNeAt A s u y (!b) ∧ (b = true ↔ d = e) := by
  cases h1 with
  | int i => exact hk.elim
  | str i => exact hk.elim
  | @tup a xs ds h r =>
    cases r1
    cases h2 with
    | int j => exact hk.elim
    | str j => exact hk.elim
    | lst h' r' => exact hk.elim
    | @tup b ys es h' r' =>
      cases r2
      obtain ⟨its, rv, p, _⟩ := I.tuple (SqT.of (K := X.K) h)
      obtain ⟨its', rv', p', _⟩ := I.tuple (SqT.of (K := X.K) h')
      obtain ⟨f, hfj, hfe⟩ := I.subs hf r r' rv rv' hu
      have l1 := r.length
      have l2 := r'.length
      have l3 := rv.length
      have l4 := rv'.length
      refine ⟨_, SeqAt.RcAt.tuples (e := f) p p' (by omega) hfj, SeqAt.RcNeAt.tuples (e := f) p p' (by omega) hfj, ?_⟩
      rw [Bool.and_eq_true, all_range, List.size_toArray, List.size_toArray, beq_iff_eq]
      constructor
      · rintro ⟨q, el⟩
        have hl : ds.length = es.length := by omega
        rw [(list_ext_iff hl hfe).mp fun j hj => q j (by omega)]
      · intro e
        injection e with e
        subst e
        refine ⟨fun j hj => ?_, by omega⟩
        exact (hfe j ds[j] ds[j] (by simp [show j < ds.length by omega]) (by simp [show j < ds.length by omega])).mpr rfl
  | @lst a xs ds h r =>
    cases r1
    cases h2 with
    | int j => exact hk.elim
    | str j => exact hk.elim
    | tup h' r' => exact hk.elim
    | @lst b ys es h' r' =>
      cases r2
      obtain ⟨its, rv, p, _⟩ := I.list (SqL.of (K := X.K) h)
      obtain ⟨its', rv', p', _⟩ := I.list (SqL.of (K := X.K) h')
      obtain ⟨f, hfj, hfe⟩ := I.subs hf r r' rv rv' hu
      have l1 := r.length
      have l2 := r'.length
      have l3 := rv.length
      have l4 := rv'.length
      by_cases hl : ds.length = es.length
      · refine ⟨_, SeqAt.RcAt.lists (e := f) p.isList p'.isList (by simp only [List.size_toArray]; omega) (by omega) hfj, SeqAt.RcNeAt.lists (e := f) p.isList p'.isList (by simp only [List.size_toArray]; omega) (by omega) hfj, ?_⟩
        rw [all_range, List.size_toArray]
        constructor
        · intro q
          rw [(list_ext_iff hl hfe).mp fun j hj => q j (by omega)]
        · intro e
          injection e with e
          subst e
          intro j hj
          exact (hfe j ds[j] ds[j] (by simp [show j < ds.length by omega]) (by simp [show j < ds.length by omega])).mpr rfl
      · refine ⟨false, SeqAt.RcAt.lists_lengths p.isList p'.isList (by simp only [List.size_toArray, bne_iff_ne]; omega) (by omega), SeqAt.RcNeAt.lists_lengths p.isList p'.isList (by simp only [List.size_toArray, bne_iff_ne]; omega) (by omega), ?_⟩
        constructor
        · intro z; cases z
        · intro e; injection e with e; exact absurd (congrArg List.length e) hl
end

/-- x == y, x != y of two tuples or two lists, no deeper than n + 1 -/
noncomputable def rEqD (n : Nat) : R2 := fun x y H Q => ∃ d e, fits (n + 1) d ∧ alikeD d e ∧ At H d x ∧ At H e y ∧ (d = e → Q (.bl true) H) ∧ (d ≠ e → Q (.bl false) H)
theorem op_eqD {X : Cx} {n : Nat} (hu : X.A.units + n + 1 < cLine) : OpR X (compareOp .Eq) (rEqD n) := by
  intro pins s σ H x y v u Q I rx ry h
  obtain ⟨d, e, hf, hk, h1, h2, q1, q2⟩ := h
  obtain ⟨b, z, _, hb⟩ := I.rcAt hf hk h1 h2 rx ry hu
  refine z X.prog X.w _ _ ?_
  cases b with
  | true => exact ⟨.bl true, H, I, rfl, q1 (hb.mp rfl)⟩
  | false => exact ⟨.bl false, H, I, rfl, q2 fun e => by cases hb.mpr e⟩

/-! ### isinstance(x, T), T a built-in type -/
theorem call_isinst {X : Cx} {K : PySem.W.Frag} (hK : X.K = K) : CallR X (.builtin "isinstance") (fun xs H Q => ∃ x T t b, xs = [x, .ty T] ∧ TyOf K H x t ∧ PySem.W.kitOne K t (.type T) = some b ∧ Q (.bl b) H) := by
  subst hK
  intro pins s σ H xs us Q I r h
  obtain ⟨x, T, t, b, rfl, ty, e, q⟩ := h
  obtain ⟨u, w', rfl, r1, r2⟩ := vals2 r
  cases (show w' = Value.type T from r2)
  exact isinst_ok I r1 ty e fun tk => ⟨.bl b, H, I.tok tk, rfl, q⟩
end L2

set_option Elab.async false
set_option linter.all false
set_option maxRecDepth 100000
/-! Rules with the written part K said outright (for a comprehension's block), and calls of the text's own defs in short. -/
namespace L2
open PySem PySem.Spec PyProof.Rows
section
variable {X : Cx} {K : PySem.W.Frag}
theorem ix_tupK (h : X.K = K) : IxR X (rIxT K) := by subst h; exact ix_tup
theorem ix_listK (h : X.K = K) : IxR X (rIxL K) := by subst h; exact ix_list
theorem sl_tupK (h : X.K = K) : SlR X (rSlT K) := by subst h; exact sl_tup
theorem sl_listK (h : X.K = K) : SlR X (rSlL K) := by subst h; exact sl_list
theorem call_lenK (h : X.K = K) : CallR X (.builtin "len") (fun xs H Q => ∃ p ys, xs = [.ref p] ∧ (SqL K H p ys ∨ SqT K H p ys) ∧ Q (.int ys.length) H) := by subst h; exact call_len_seq
theorem op_catTK (h : X.K = K) : OpR X (binaryOp .Add) (rCatT K) := by subst h; exact op_catT
theorem pi_listK {tg l : Expr} {tl : TE} (h : X.K = K) (hl : PE X l tl) : PI X tg l (iList K tl) := by subst h; exact pi_list hl
theorem pg_tupK {es : List Expr} {k : Nat} {t : TGs} {n : Nat} {pos : Pos} (h : X.K = K) (hc : X.calm = true) (hg : PGs X es t)
    (hn : (assignEach es X.env).length = n := by rfl) (hst : (assignEach es X.env).findIdx? (·.1) = none := by rfl) : PG X (.Tuple es k pos) (gTup K n t) := by subst h; exact pg_tup hc hg hn hst
theorem pe_bmK {T : String} {id : String} {name : Str} {r : V → List V → Hp → VK → Prop} {o e : Expr} {es : List Expr} {to : TE} {t : TA} {apos cpos : Pos} (h : X.K = K) (pa : PlainAttrs T) (slot : Slot T name id) (hty : typeOf (.builtin id) = pure (.type "method_descriptor")) (hm : MtM X id r) (ho : PE X o to) (ha : PA X (e :: es) t)
    (hbase : attributeBase o name X.env (eval o X.env) = eval o X.env := by rfl)
    (hfew : ((backTo cpos (starEach (e :: es) X.env)).all (fun x => !x.1) && (backToKw cpos (keywordEach [] X.env)).all (fun x => x.1.isSome)
      && decide ((e :: es).length + ([] : List Keyword).length + (if ([] : List Keyword).isEmpty then 0 else 1) < 30)) = true := by rfl)
    (hline : (apos.endLine == cpos.line) = true := by rfl) (hs : starEach (e :: es) X.env = (false, eval e X.env) :: starEach es X.env := by rfl) (hplain : (backTo cpos (starEach es X.env)).any (·.1) = false := by rfl) :
    PE X (.Call (.Attribute o name apos) (e :: es) [] cpos) (tBM K T r to t) := by subst h; exact pe_bm pa slot hty hm ho ha hbase hfew hline hs hplain
end

/-! ### a def of the text, ready to be called -/
structure Cal (P : Program) (w : World) (K : PySem.W.Frag) (mg : Str → Option Value) (base : Heap) (k : Nat) (x : Str) (ps : List Str) (sp : Sp) : Prop where
  ex : ∃ (f : Addr) (fd : FuncData), FnOk P w K mg base CX0 k f fd ps sp ∧ mg x = some (.ref f) ∧ PySem.W.keepIn K (.ref f) = true ∧ Binds K fd ps []
theorem pe_cal {X : Cx} {k : Nat} {x : Str} {ps : List Str} {sp : Sp} {e : Expr} {es : List Expr} {t : TA} {p pos : Pos} (c : Cal X.prog X.w X.K X.mg X.base k x ps sp) (hr : Room k X.A) (hg : Gl X x) (ha : PA X (e :: es) t)
    (hdb : (x == ("__debug__" : Str)) = false := by decide) (he : starEach (e :: es) X.env = (false, eval e X.env) :: starEach es X.env := by rfl) (hpl : (backTo pos (starEach es X.env)).any (·.1) = false := by rfl) :
    PE X (.Call (.Name x p) (e :: es) [] pos) (tCall sp [] E0 t) := by
  obtain ⟨f, fd, F, hm, hk, hb⟩ := c.ex
  exact pe_call F hr hg hm hk hb .nil pass0 ha hdb he hpl
/-- a def as the top has left it: its name, its object -/
structure At0 (K : PySem.W.Frag) (x : Str) (st : Stmt) : Prop where
  ex : ∃ (f : Addr) (fd : FuncData), Fun K x x st f fd ∧ PySem.W.nsIn K mainGlobals x = some (some (.ref f))
theorem at0_mk {K : PySem.W.Frag} {x : Str} {st : Stmt} {f : Addr} {oc : Value} {od an : Option Addr} {osl : Array (Option Value)} {kV doc pm cdv ct : Value} (a : PySem.W.nsIn K mainGlobals x = some (some (.ref f)))
    (l : K.lookup f = some ⟨oc, od, .func (PySem.W.fnOf x x (defArgs st) (defBody st) (defScope st) .none kV doc pm an cdv ct), osl⟩) (c : PySem.W.codeIn K cdv x = true) (k : PySem.W.keepIn K (.ref f) = true) : At0 K x st :=
  ⟨f, _, fun_mk l c k, a⟩
theorem At0.cal {P : Program} {w : World} {K : PySem.W.Frag} {mg : Str → Option Value} {base h : Heap} {k : Nat} {x : Str} {st : Stmt} {ps : List Str} {sp : Sp} (a : At0 K x st) (X : K.In h) (G : h.Ns mainGlobals mg)
    (hb : ∀ (kV doc pm : Value) (an : Option Addr) (cdv ct : Value) (us : List Value), us.length = ps.length → bindArgs (PySem.W.fnOf x x (defArgs st) (defBody st) (defScope st) .none kV doc pm an cdv ct) ⟨us, []⟩ = pure (ps.zip us))
    (ok : ∀ (f : Addr) (fd : FuncData), Fun K x x st f fd → FnOk P w K mg base CX0 k f fd ps sp) : Cal P w K mg base k x ps sp := by
  obtain ⟨f, fd, F, e⟩ := a.ex
  exact ⟨f, fd, ok f fd F, PySem.W.mg_of X G e, F.kp, F.binds hb⟩
end L2

set_option autoImplicit false
set_option linter.all false
set_option maxRecDepth 100000
/-! The sort of a list of any length, keys of different rank: galloping. -/
namespace GS
open PySem PyProof.Rows
section
variable {prog : Program} {w : World} {A : Around} {E : Value → Shared → Prop} {s : Shared} {kind : SortKind} {a0 : List Keyed} {rk : Keyed → Int}

end
end GS

set_option autoImplicit false
set_option linter.all false
set_option maxRecDepth 100000
/-! Merging two runs: from the left, from the right. -/
namespace GS
open PySem PyProof.Rows

/-! ### the mathematics -/
section
variable {rk : Keyed → Int} {la lb out : List Keyed} {ia ib k : Nat}
end
end GS

set_option autoImplicit false
set_option linter.all false
set_option maxRecDepth 100000
namespace GS
open PySem PyProof.Rows
section
variable {prog : Program} {w : World} {A : Around} {E : Value → Shared → Prop} {s : Shared} {kind : SortKind} {a0 : List Keyed} {rk : Keyed → Int}

end
end GS

set_option autoImplicit false
set_option linter.all false
set_option maxRecDepth 100000
namespace GS
open PySem PyProof.Rows
section
variable {prog : Program} {w : World} {A : Around} {E : Value → Shared → Prop} {s : Shared} {kind : SortKind} {a0 : List Keyed} {rk : Keyed → Int}
end
end GS

set_option autoImplicit false
set_option linter.all false
set_option maxRecDepth 100000
namespace GS
open PySem PyProof.Rows
section
variable {rk : Keyed → Int} {la lb R : List Keyed} {na nb k : Nat}
end
section
variable {prog : Program} {w : World} {A : Around} {E : Value → Shared → Prop} {s : Shared} {kind : SortKind} {a0 : List Keyed} {rk : Keyed → Int}
end
end GS

set_option autoImplicit false
set_option linter.all false
set_option maxRecDepth 100000
/-! Runs counted and grown, anywhere in the array. -/
namespace GS
open PySem PyProof.Rows
section
variable {kind : SortKind} {a0 : List Keyed} {rk : Keyed → Int} {st : SortSt}
end
section
variable {prog : Program} {w : World} {A : Around} {E : Value → Shared → Prop} {s : Shared} {kind : SortKind} {a0 : List Keyed} {rk : Keyed → Int}

end
end GS

set_option autoImplicit false
set_option linter.all false
set_option maxRecDepth 100000
/-! Two runs of the array merged in their place. -/
namespace GS
open PySem PyProof.Rows
/-! ### what is written back -/
section
variable {prog : Program} {w : World} {A : Around} {E : Value → Shared → Prop} {s : Shared} {kind : SortKind} {a0 : List Keyed} {rk : Keyed → Int}

end
end GS

set_option autoImplicit false
set_option linter.all false
set_option maxRecDepth 100000
/-! All runs: the whole sort. -/
namespace GS
open PySem PyProof.Rows
section
variable {rk : Keyed → Int} {xs ys : Array Keyed}
end
section
variable {prog : Program} {w : World} {A : Around} {E : Value → Shared → Prop} {s : Shared} {kind : SortKind} {a0 : List Keyed} {rk : Keyed → Int}
end
end GS

set_option autoImplicit false
set_option linter.all false
set_option maxRecDepth 100000
namespace GS
open PySem PyProof.Rows
section
variable {prog : Program} {w : World} {A : Around} {E : Value → Shared → Prop} {s : Shared} {kind : SortKind} {a0 : List Keyed} {rk : Keyed → Int}
end
end GS

set_option autoImplicit false
set_option linter.all false
set_option maxRecDepth 100000
/-! sorted(xs) of a list of tuples that begin with two ints, no two alike. -/
namespace GS
open PySem PyProof.Rows PySem.W
section
variable {prog : Program} {w : World} {A : Around} {E : Value → Shared → Prop} {s : Shared}

/-! ### tuples that begin with two ints -/
end
end GS

set_option Elab.async false
set_option linter.all false
set_option maxRecDepth 100000
/-! More rules over the hand layer: sorted of tuples, join of texts, enumerate. -/
namespace L2
open PySem PySem.Spec PyProof.Rows

/-! ### sorted(xs): tuples that begin with two ints, no two alike -/

/-! ### sep.join(xs): a list of texts -/

/-! ### enumerate(xs): pairs (i, x), for a target that takes them apart -/
noncomputable def Ite (K : PySem.W.Frag) (a : Addr) : It :=
  ⟨fun i H => ∃ xs x, SqL K H a xs ∧ xs[i]? = some x, fun i H x H' => ∃ t y, H t = none ∧ x = .ref t ∧ H' = upd H t (.tup [.int (i : Int), y]) ∧ ∀ xs, SqL K H a xs → xs[i]? = some y, fun i H => ∃ xs, SqL K H a xs ∧ xs.length ≤ i⟩
theorem turn_enum {P : Program} {w : World} {K : PySem.W.Frag} {es : List Expr} {k : Nat} {pos : Pos} (a e it : Addr) (hne : e ≠ it) :
    Turn P w K (.Tuple es k pos) (Ite K a) [e, it] e (fun i h => (∃ old, IsEnum h e it (i : Nat) old) ∧ h.IsListIter it a i) where
  mem := by simp
  obj := fun i h st b hb => by
    obtain ⟨⟨old, he⟩, ⟨o, ho, c, d⟩⟩ := st
    rcases List.mem_cons.mp hb with rfl | hb
    · exact ⟨_, he, fun v z => by cases (show Data.fields _ = Data.cell v from z)⟩
    · have e : b = it := by simpa using hb
      subst e
      exact ⟨o, ho, fun v z => by rw [d] at z; cases z⟩
  keep := fun i h h' st k => by
    obtain ⟨⟨old, he⟩, hit⟩ := st
    exact ⟨⟨old, k e (by simp) _ he⟩, hit.at fun o q => k it (by simp) o q⟩
  item := by
    intro X hP hw hK hc i pins s σ H E I hf st hg
    subst hP hw hK
    obtain ⟨xs, x, hq, hx⟩ := hg
    obtain ⟨its, rv, p, hz⟩ := I.list hq
    obtain ⟨u, hu, ru⟩ := rv.get hx
    obtain ⟨⟨old, he⟩, hit⟩ := st
    obtain ⟨f0, f1, f2, f3, f4, f5⟩ := hf e (by simp)
    obtain ⟨g0, g1, g2, g3, g4, g5⟩ := hf it (by simp)
    have helt : e < s.heap.objs.size := Heap.lt_size he
    have hilt : it < s.heap.objs.size := by obtain ⟨_, q, _⟩ := hit; exact Heap.lt_size q
    refine wpAny_pyNext_enum_item he hit p.isList (x := u) (by simpa using hu) hne fun h1 ho1 hit1 ht1 hsz1 hk1 => ?_
    refine ⟨_, rfl, wpAny_letOwnedTupleGo_enum ho1 fun h2 he2 sb2 => ?_⟩
    have k2 : ∀ b o, b ≠ e → b ≠ it → s.heap.get? b = some o → h2.get? b = some o := fun b o hb hb' q => (sb2.2 b hb).trans (hk1 b o hb hb' q)
    have fr : H s.heap.objs.size = none := I.hok.fresh (Nat.le_refl _)
    have tr : ∀ b o, H b = some o → b ≠ e ∧ b ≠ it ∧ b ≠ s.heap.objs.size := fun b o q => ⟨fun z => (by rw [z, f0] at q; cases q), fun z => (by rw [z, g0] at q; cases q), fun z => (by rw [z, fr] at q; cases q)⟩
    have nch : ∀ b, b ∉ [e, it] → b ≠ e ∧ b ≠ it := fun b hb => ⟨fun z => hb (by simp [z]), fun z => hb (by simp [z])⟩
    have tup2 : IsTup h2 s.heap.objs.size [.int i s.toks, u].toArray := ⟨_, (sb2.2 _ (Nat.ne_of_gt helt)).trans ht1, rfl, _, rfl⟩
    have I2 : Inv X pins σ (upd H s.heap.objs.size (.tup [.int (i : Int), x])) { s with heap := h2, toks := s.toks + 1 } := by
      refine I.step (g' := s.gens) (d' := s.drawn) (ch := [e, it]) (fun b hb => ?_) (fun b o _ _ hb q _ => k2 b o (nch b hb).1 (nch b hb).2 q) (fun b o _ _ hb q _ => ⟨o.slots, k2 b o (nch b hb).1 (nch b hb).2 q⟩)
        (fun b o hb q n => ?_) (fun b o hb q => ⟨o, k2 b o (nch b hb).1 (nch b hb).2 q⟩) (fun b ys q => ?_) (fun b o u q => ?_) (fun b ps q => ⟨#[], ?_⟩) (fun m hm => ?_) (fun b o q => ?_) I.bare
      · rcases List.mem_cons.mp hb with rfl | hb
        · exact ⟨f3, f1, f4, f5⟩
        · have e : b = it := by simpa using hb
          subst e
          exact ⟨g3, g1, g4, g5⟩
      · rw [upd_ne (Nat.ne_of_lt (Heap.lt_size q))]; exact n
      · rw [upd_ne (tr b _ q).2.2]; exact q
      · rw [upd_ne (tr b _ q).2.2]; exact q
      · rw [upd_ne (tr b _ q).2.2, q]; simp
      · obtain ⟨o, es', ep, ho, r⟩ := hm
        exact ⟨o, es', ep, k2 _ o (Ne.symm f1) (Ne.symm g1) ho, r⟩
      · by_cases hb : b = s.heap.objs.size
        · subst hb
          rw [upd_same] at q
          cases q
          exact ⟨by show 2 ≤ sizeLine; decide, [.int i s.toks, u], .cons ⟨_, rfl⟩ (.cons ru .nil), tup2⟩
        · rw [upd_ne hb] at q
          refine (I.hok b o q).stay (fun c v hc' z => ?_) (fun c z => ?_) fun c ys z => ?_
          · have : c ≠ e ∧ c ≠ it := by
              rcases hc' with rfl | hc'
              · exact ⟨(tr _ _ q).1, (tr _ _ q).2.1⟩
              · exact ⟨(tr _ _ hc').1, (tr _ _ hc').2.1⟩
            exact k2 c v this.1 this.2 z
          · rw [upd_ne (tr c _ z).2.2]; exact z
          · rw [upd_ne (tr c _ z).2.2]; exact z
    refine ⟨.ref s.heap.objs.size, _, I2, rfl, ⟨_, x, fr, rfl, rfl, fun ys hy => by rw [I.list_inj hy hq]; exact hx⟩, ⟨⟨_, by simpa using he2⟩, hit1.at fun o q => (sb2.2 it (Ne.symm hne)).trans q⟩, fun b hb => ?_⟩
    rcases List.mem_cons.mp hb with rfl | hb
    · rw [upd_ne (Nat.ne_of_lt helt)]; exact f0
    · have e : b = it := by simpa using hb
      subst e
      rw [upd_ne (Nat.ne_of_lt hilt)]; exact g0
  done := by
    intro X hP hw hK hc i pins s σ H E I hf st hg
    subst hP hw hK
    obtain ⟨xs, hq, hx⟩ := hg
    obtain ⟨its, rv, p, hz⟩ := I.list hq
    obtain ⟨⟨old, he⟩, hit⟩ := st
    obtain ⟨g0, g1, g2, g3, g4, g5⟩ := hf it (by simp)
    have hl := rv.length
    exact wpAny_pyNext_enum_end (I.ok.hd hc) he hit p.isList (by simp; omega) fun h' eb => ⟨rfl, I.turned (t' := s.toks) (fun b o hb q => eb b o hb q) g0 g1 g3 g4 g5⟩
  self := fun _ _ _ _ _ st h => by
    obtain ⟨⟨old, he⟩, _⟩ := st
    exact wpAny_pyIter_enum he h
noncomputable def iEnum (K : PySem.W.Frag) (ta : TA) : TI := fun σ H R => ta σ H fun vs H1 => ∃ a, vs = [.ref a] ∧ (∃ xs, SqL K H1 a xs) ∧ R (Ite K a) H1
theorem pi_enum {X : Cx} {K : PySem.W.Frag} {es : List Expr} {k : Nat} {tpos : Pos} {a : Expr} {ta : TA} {p pos : Pos} (hK : X.K = K) (hg : Gl X "enumerate") (hm : X.mg "enumerate" = none) (ha : PA X [a] ta) (hs : starEach [a] X.env = [(false, eval a X.env)] := by rfl) :
    PI X (.Tuple es k tpos) (.Call (.Name "enumerate" p) [a] [] pos) (iEnum K ta) := by
  subst hK
  intro pins s σ H R I h
  refine Call_ (ld_blt I hg hm boot_enumerate (PyProof.Rows.callWith_type1 (thn (ha pos pins s σ H _ I h) fun us s1 ⟨vs, H1, I1, r1, q1⟩ => ?_) hs rfl))
  obtain ⟨b, e, ⟨xs, hq⟩, q⟩ := q1
  subst e
  cases r1 with
  | cons r rr =>
    cases rr
    cases r
    obtain ⟨its, rv, pl, hz⟩ := I1.list hq
    refine call_enumerate_list pl.isList fun h' he hit hsz hk => ?_
    have I2 : Inv X pins σ H1 { s1 with heap := h' } := I1.kept (t' := s1.toks) hk
    refine wpAny_pyIter_enum he ?_
    refine ⟨s1.heap.objs.size + 1, [s1.heap.objs.size + 1, s1.heap.objs.size], _, _, H1, rfl, I2, turn_enum b _ _ (Nat.succ_ne_self _), ⟨⟨_, he⟩, hit⟩, fun c hc => ?_, q⟩
    have hc' : s1.heap.objs.size ≤ c := by
      rcases List.mem_cons.mp hc with hc | hc
      · rw [hc]; exact Nat.le_succ _
      · have : c = s1.heap.objs.size := by simpa using hc
        rw [this]; exact Nat.le_refl _
    exact I1.fpOk hc' (I1.hok.fresh hc')
/-- over the pairs of a list that the body leaves as it is -/
theorem for_enum {K : PySem.W.Frag} {a : Addr} {xs : List V} {g : TG} {tb : TS} {D : Ends} {σ : St} {H : Hp} (Pv : Nat → St → Hp → Prop) (h0 : Pv 0 σ H) (hl : ∀ i σ H, i ≤ xs.length → Pv i σ H → SqL K H a xs)
    (hs : ∀ i x σ H t, xs[i]? = some x → Pv i σ H → H t = none → g (.ref t) σ (upd H t (.tup [.int (i : Int), x])) fun σ2 H2 => tb { D with nx := Pv (i + 1), ct := Pv (i + 1), bk := D.nx } σ2 H2) (hd : ∀ σ H, Pv xs.length σ H → D.nx σ H) :
    ∃ W : Nat → Nat → St → Hp → Prop, (∃ m, W 0 m σ H) ∧ ∀ i m σ H, W i m σ H →
      ((Ite K a).stop i H ∧ D.nx σ H) ∨ ((Ite K a).go i H ∧ ∃ N : St → Hp → Prop, (∀ σ' H', N σ' H' → ∃ m', m' < m ∧ W (i + 1) m' σ' H') ∧ ∀ x H', (Ite K a).yld i H x H' → g x σ H' fun σ2 H2 => tb { D with nx := N, ct := N, bk := D.nx } σ2 H2) := by
  refine ⟨fun i m σ H => m = xs.length - i ∧ i ≤ xs.length ∧ Pv i σ H, ⟨xs.length, by simp, Nat.zero_le _, h0⟩, ?_⟩
  rintro i m σ H ⟨rfl, hi, p⟩
  have q := hl i σ H hi p
  by_cases hlt : i < xs.length
  · refine .inr ⟨⟨xs, xs[i], q, by simp [hlt]⟩, Pv (i + 1), fun σ' H' p' => ⟨xs.length - (i + 1), by omega, rfl, hlt, p'⟩, fun x H' y => ?_⟩
    obtain ⟨t, z, ht, e1, e2, y⟩ := y
    subst e1 e2
    exact hs i z σ H t (y xs q) p ht
  · have e : i = xs.length := by omega
    subst e
    exact .inl ⟨⟨xs, q, Nat.le_refl _⟩, hd σ H p⟩
end L2

set_option Elab.async false
set_option linter.all false
set_option maxRecDepth 100000
/-! sorted(xs, key=f): f a def of the text that tells a new tuple of two ints, no two alike. -/
namespace GS
open PySem PyProof.Rows PySem.W
section
variable {prog : Program} {w : World} {A : Around} {E : Value → Shared → Prop} {s : Shared}
end
end GS
namespace L2
open PySem PySem.Spec PyProof.Rows PySem.W
end L2

set_option Elab.async false
set_option linter.all false
set_option maxRecDepth 100000
/-! An exception on its way through the frames: its class and its dict stay. -/
namespace L2
open PySem PySem.Spec PyProof.Rows PySem.W
theorem dict_mapFields (f : Array Value → Array Value) (o : Obj) : (Obj.mapFields f o).dict = o.dict := by unfold Obj.mapFields; split <;> rfl
/-- how far the trace is: none yet, or the mark of its newest entry -/
noncomputable def Trail (B h : Heap) (e : Addr) (vs : Array Value) : Option Value → Prop
  | none => vs[1]? = some .none
  | some fl => ∃ T oT ts, vs[1]? = some (.ref T) ∧ B.get? T = none ∧ T ≠ e ∧ h.get? T = some oT ∧ oT.data = .fields ts ∧ ts[3]? = some fl
structure Sta (B : Heap) (l : List Env) (e : Addr) (cls : Value) (dd : Option Addr) (tr : Option Value) (h : Heap) : Prop where
  stay : B.StaysIn h
  new : B.get? e = none
  funs : h.FunFrames B l
  obj : ∃ oe vs, h.get? e = some oe ∧ oe.cls = cls ∧ oe.dict = dd ∧ oe.data = .fields vs ∧ 1 < vs.size ∧ Trail B h e vs tr
theorem Sta.tail {B h : Heap} {env : Env} {l : List Env} {e : Addr} {cls : Value} {dd : Option Addr} {tr : Option Value} (x : Sta B (env :: l) e cls dd tr h) : Sta B l e cls dd tr h :=
  ⟨x.stay, x.new, x.funs.2.2, x.obj⟩
section
variable {M : Model} {A : Around} {E : Value → Shared → Prop} {s : Shared} {B : Heap} {env : Env} {l outer : List Env} {L e : Addr} {cls : Value} {dd : Option Addr} {Q : Unit → Shared → Prop}
theorem sta_entry {oe : Obj} {vs : Array Value} {head : Value} {nx : Bool} (hfr : A.frames = some (env :: outer)) (hl : s.heap.FunFrames B (env :: outer)) (hf : env.frame = some L) (st : B.StaysIn s.heap) (new : B.get? e = none)
    (he : s.heap.get? e = some oe) (hd : oe.data = .fields vs) (hz : 1 < vs.size) (k : ∀ h', Sta B (env :: outer) e oe.cls oe.dict (some (rawInt L)) h' → s.heap.UpToSlots h' → Q () { s with heap := h' }) :
    wpAny M A (do let a ← frameOf env; let pl ← entryPlaceOf L nx; let b ← EntryCells.newEntry head a .none (rawInt L) .none pl; setField (.ref e) 1 b) Q E s := by
  have nofr : e ∉ (env :: outer).filterMap (·.frame) := fun hm => by
    obtain ⟨_, o, ho, hn⟩ := hl.mem hm
    rw [he] at ho; cases ho; exact hn vs hd
  refine wpAny_bind (wpAny_frameOf_fun hfr hl hf fun h1 so => wpAny_bind (wpAny_entryPlaceOf fun pl hpl => ?_))
  unfold EntryCells.newEntry newFields
  refine wpAny_bind (wpAny_newObj_type ?_ (hpl.sizeOk5 _ _ _ _ _))
  obtain ⟨ts, hts, h3⟩ : ∃ ts : Array Value, ts = ([head, .ref L, .none, rawInt L, .none] ++ (if pl.isEmpty then List.replicate 6 Value.none else pl)).toArray ∧ ts[3]? = some (rawInt L) :=
    ⟨_, rfl, by first | (simp; done) | (rcases hpl with rfl | ⟨_, _, _, _, _, _, _, rfl⟩ <;> simp)⟩
  rw [← hts]
  have e1 : h1.get? e = some oe := (so.2.1 e nofr).trans he
  have st1 : B.StaysIn h1 := fun b o q => (so.2.1 b fun hm => by rw [(hl.mem hm).1] at q; cases q).trans (st b o q)
  have e2 := Heap.get?_push_of_some (h := h1) { cls := .type "traceback", dict := none, data := .fields ts } e1
  have hne : h1.objs.size ≠ e := Nat.ne_of_gt (Heap.lt_size e1)
  refine wpAny_setField e2 hd hz (k _ ?_ ?_)
  all_goals
    have d3 := Obj.data_mapFields hd (·.setIfInBounds 1 (Value.ref h1.objs.size))
    have e3 := Heap.get?_update_self (Obj.mapFields (·.setIfInBounds 1 (Value.ref h1.objs.size))) e2 (Obj.isFreed_of_fields d3)
    have old : ∀ b o, b ≠ e → h1.get? b = some o → ((h1.push { cls := .type "traceback", dict := none, data := .fields ts }).update e (Obj.mapFields (·.setIfInBounds 1 (Value.ref h1.objs.size)))).get? b = some o := fun b o nb q => by
      rw [Heap.get?_update_other _ _ (Ne.symm nb)]
      exact Heap.get?_push_of_some _ q
    have norec : ∀ b o, s.heap.get? b = some o → (∀ ws, o.data ≠ .fields ws) → b ≠ e := fun b o q hn z => by
      rw [z, he] at q; cases q; exact hn vs hd
  · refine ⟨fun b o q => old b o (fun z => by rw [z, new] at q; cases q) (st1 b o q), new, hl.of_keeps fun b o q hn => ?_, _, _, e3, Obj.cls_mapFields _ _, dict_mapFields _ _, d3, by simpa using hz, h1.objs.size, _, ts, by simp [hz], st1.fresh, hne,
      (Heap.get?_update_other _ _ (Ne.symm hne)).trans (Heap.get?_push_size h1 rfl), rfl, h3⟩
    obtain ⟨sl, q1⟩ := so.2.2 b o q
    exact ⟨_, old b _ (norec b o q hn) q1, rfl⟩
  · intro b o q hn
    obtain ⟨sl, q1⟩ := so.2.2 b o q
    exact ⟨sl, old b _ (norec b o q hn) q1⟩
/-- the frame is noted, the first time or when the exception comes from another one -/
theorem sta_note {tr : Option Value} (hfr : A.frames = some (env :: outer)) (hf : env.frame = some L) (htr : tr = none ∨ tr = some .none) (x : Sta B (env :: outer) e cls dd tr s.heap)
    (k : ∀ h', Sta B (env :: outer) e cls dd (some (rawInt L)) h' → s.heap.UpToSlots h' → Q () { s with heap := h' }) : wpAny M A (noteFrame (.ref e) env) Q E s := by
  obtain ⟨st, new, hl, oe, vs, he, hc, hdd, hd, hz, tl⟩ := x
  unfold noteFrame
  simp only [hf]
  rcases htr with rfl | rfl
  · have h1 : vs[1]? = some .none := tl
    refine wpAny_bind (wpAny_field he hd h1 ?_)
    rw [if_neg (by decide)]
    exact sta_entry hfr hl hf st new he hd hz fun h' y u => k h' (by rw [← hc, ← hdd]; exact y) u
  · obtain ⟨T, oT, ts, h1, nT, hTe, hT, dT, h3⟩ := tl
    refine wpAny_bind (wpAny_field he hd h1 ?_)
    rw [if_pos (show (Value.ref T != Value.none) = true from by simp)]
    refine wpAny_bind (wpAny_field hT dT h3 ?_)
    rw [if_neg (show ¬ ((Value.none == rawInt L) = true) from by simp [rawInt])]
    refine wpAny_bind (wpAny_setField hT dT (Array.getElem?_eq_some_iff.mp h3).1 ?_)
    have other : ∀ b, b ≠ T → (s.heap.update T (Obj.mapFields (·.setIfInBounds 3 Value.none))).get? b = s.heap.get? b := fun b hb => Heap.get?_update_other _ _ (Ne.symm hb)
    have norec : ∀ b o, s.heap.get? b = some o → (∀ ws, o.data ≠ .fields ws) → b ≠ T := fun b o q hn z => by
      rw [z, hT] at q; cases q; exact hn ts dT
    refine sta_entry hfr (hl.of_keeps fun b o q hn => ⟨o, (other b (norec b o q hn)).trans q, rfl⟩) hf (fun b o q => (other b fun z => by rw [z, nT] at q; cases q).trans (st b o q)) new ((other e (Ne.symm hTe)).trans he) hd hz
      fun h' y u => k h' (by rw [← hc, ← hdd]; exact y) fun b o q hn => u b o ((other b (norec b o q hn)).trans q) hn
/-- the mark is taken off -/
theorem sta_off {fl : Value} (x : Sta B l e cls dd (some fl) s.heap) (k : ∀ h', Sta B l e cls dd (some .none) h' → s.heap.UpToSlots h' → Q () { s with heap := h' }) : wpAny M A (setFlight (.ref e) none) Q E s := by
  obtain ⟨st, new, hl, oe, vs, he, hc, hdd, hd, hz, T, oT, ts, h1, nT, hTe, hT, dT, h3⟩ := x
  have h3z : 3 < ts.size := (Array.getElem?_eq_some_iff.mp h3).1
  have other : ∀ b, b ≠ T → (s.heap.update T (Obj.mapFields (·.setIfInBounds 3 ((none : Option Addr).elim Value.none fun f => rawInt f)))).get? b = s.heap.get? b := fun b hb => Heap.get?_update_other _ _ (Ne.symm hb)
  have norec : ∀ b o, s.heap.get? b = some o → (∀ ws, o.data ≠ .fields ws) → b ≠ T := fun b o q hn z => by
    rw [z, hT] at q; cases q; exact hn ts dT
  unfold setFlight
  refine wpAny_bind (wpAny_field he hd h1 ?_)
  rw [if_pos (show (Value.ref T != Value.none) = true from by simp)]
  refine wpAny_setField hT dT h3z (k _ ⟨fun b o q => (other b fun z => by rw [z, nT] at q; cases q).trans (st b o q), new, hl.of_keeps fun b o q hn => ⟨o, (other b (norec b o q hn)).trans q, rfl⟩, oe, vs,
    (other e (Ne.symm hTe)).trans he, hc, hdd, hd, hz, T, _, _, h1, nT, hTe, Heap.get?_update_self _ hT (Obj.isFreed_of_fields (Obj.data_mapFields dT _)), Obj.data_mapFields dT _, by simp [h3z]⟩ fun b o q hn => ⟨o.slots, (other b (norec b o q hn)).trans q⟩)
/-- an exception leaves a frame -/
theorem sta_leave {tr : Option Value} (hfr : A.frames = some (env :: outer)) (hf : env.frame = some L) (htr : tr = none ∨ tr = some .none) (x : Sta B (env :: outer) e cls dd tr s.heap)
    (k : ∀ h', Sta B outer e cls dd (some .none) h' → s.heap.UpToSlots h' → Q () { s with heap := h' }) : wpAny M A (leaving env (.ref e)) Q E s := by
  unfold leaving
  exact wpAny_bind (sta_note hfr hf htr x fun h1 y u => sta_off y fun h2 z u2 => k h2 z.tail (u.trans u2))
end
end L2

set_option Elab.async false
set_option linter.all false
set_option maxRecDepth 100000
/-! Exceptions of the text's own classes: raised, passed on by a def, caught. -/
namespace L2
open PySem PySem.Spec PyProof.Rows PySem.W

theorem ObjOk.there {P : Program} {w : World} {H : Hp} {h : Heap} {a : Addr} : ∀ {o : HO}, ObjOk P w H h a o → ∃ u, h.get? a = some u
  | .lst xs, x => by obtain ⟨_, _, _, _, e⟩ := x; exact ⟨_, e⟩
  | .tup xs, x => by obtain ⟨_, _, _, o, e, _⟩ := x; exact ⟨_, e⟩
  | .dK kvs, x => by obtain ⟨_, _, _, _, o, _, _, e, _⟩ := x; exact ⟨_, e⟩
  | .dT kvs, x => by obtain ⟨_, _, _, _, o, _, _, e, _⟩ := x; exact ⟨_, e⟩
  | .set S n, x => by obtain ⟨o, _, _, _, e, _⟩ := x; exact ⟨_, e⟩
  | .ins C dx fs, x => by obtain ⟨_, _, _, e, _⟩ := x; exact ⟨_, e⟩
  | .own y, x => by obtain ⟨_, e⟩ := x; exact ⟨_, e⟩
  | .xd fs, x => by obtain ⟨_, ⟨_, _, _, e, _⟩, _⟩ := x; exact ⟨_, e⟩
  | .rng lo hi, x => by obtain ⟨_, _, _, e⟩ := x; exact ⟨_, e⟩
  | .frz ob u, x => by obtain ⟨e, _⟩ := x; exact ⟨_, e⟩
  | .tbl ps, x => ⟨_, (show h.get? a = some _ from x)⟩
  | .met f y, x => ⟨_, (show h.get? a = some _ from x)⟩
  | .ext φ, x => by obtain ⟨_, ⟨_, e⟩, _⟩ := x; exact ⟨_, e⟩

/-- an exception on its way: B is what stays as it is -/
structure Fly (P : Program) (w : World) (base : Heap) (outer : List Env) (H : Hp) (s : Shared) (s' : Shared) (ea : Addr) (cls : Value) (dd : Option Addr) (B : Heap) (H' : Hp) : Prop where
  os : s'.os = s.os
  bare : AllBare s'.gens
  fly : Sta B outer ea cls dd (some .none) s'.heap
  hok : HOk P w H' B
  bst : base.StaysIn B
  un : Un (frs outer) [] H H' s.heap s'.heap
  keepB : ∀ b o, s.heap.get? b = some o → H b = none → b ∉ frs outer → B.get? b = some o
  thereB : ∀ b o, s.heap.get? b = some o → b ∉ frs outer → ∃ o', B.get? b = some o'
noncomputable def CX1 (P : Program) (w : World) (base : Heap) : CXT := fun outer H s E e s' => ∃ (ea : Addr) (cls : Value) (dd : Option Addr) (B : Heap) (H' : Hp), e = .ref ea ∧ Fly P w base outer H s s' ea cls dd B H' ∧ E cls dd H'

section
variable {P : Program} {w : World} {base : Heap} {outer : List Env} {H H' : Hp} {s s' : Shared} {ea : Addr} {cls : Value} {dd : Option Addr} {B : Heap}
theorem Fly.notB (f : Fly P w base outer H s s' ea cls dd B H') : H' ea = none := by
  cases e : H' ea with
  | none => rfl
  | some o =>
    obtain ⟨u, q⟩ := ObjOk.there (f.hok ea o e)
    rw [f.fly.new] at q; cases q
/-- the heap goes on: what B holds stays, all else up to slots -/
theorem Fly.go (f : Fly P w base outer H s s' ea cls dd B H') {l : List Env} {h' : Heap} (fl : Sta B l ea cls dd (some .none) h') (up : s'.heap.UpToSlots h') : Un (frs outer) [] H H' s.heap h' where
  keep := fun b o e n hb _ => fl.stay b o (f.keepB b o e n hb)
  slot := fun b o e n hb hx => by
    obtain ⟨sl, e1⟩ := f.un.slot b o e n hb hx
    obtain ⟨_, o', e2, d⟩ := f.fly.funs.mem hb
    rw [e1] at e2
    have e2 := Option.some.inj e2
    subst e2
    obtain ⟨sl', e3⟩ := up b _ e1 d
    exact ⟨sl', e3⟩
  free := f.un.free
  there := fun b o e hx => by
    by_cases hb : b ∈ frs outer
    · obtain ⟨_, o', e2, d⟩ := f.fly.funs.mem hb
      obtain ⟨sl, e3⟩ := up b _ e2 d
      exact ⟨_, e3⟩
    · obtain ⟨o', e1⟩ := f.thereB b o e hb
      exact ⟨o', fl.stay b o' e1⟩
  tups := f.un.tups
  frzs := f.un.frzs
  tbls := f.un.tbls
end
/-- the abstract heap without the thing at a -/
noncomputable def offH (H : Hp) (a : Addr) : Hp := fun b => if b = a then none else H b
theorem offH_ne {H : Hp} {a b : Addr} (h : b ≠ a) : offH H a b = H b := by unfold offH; rw [if_neg h]
theorem offH_same {H : Hp} {a : Addr} : offH H a a = none := by unfold offH; rw [if_pos rfl]
theorem offH_none {H : Hp} {a : Addr} (h : H a = none) : offH H a = H := funext fun b => by
  by_cases q : b = a
  · rw [q, offH_same, h]
  · exact offH_ne q
theorem offH_free {H : Hp} {a b : Addr} (h : H b = none) : offH H a b = none := by
  by_cases q : b = a
  · rw [q, offH_same]
  · rw [offH_ne q, h]
noncomputable def LooseAt (H : Hp) (a : Addr) : Prop := H a = none ∨ ∃ φ, H a = some (.ext φ)
theorem LooseAt.ne {H : Hp} {a b : Addr} {o : HO} (l : LooseAt H a) (e : H b = some o) (h : ∀ φ, o ≠ .ext φ) : b ≠ a := by
  rintro rfl
  rcases l with z | ⟨φ, z⟩
  · rw [z] at e; cases e
  · rw [z] at e; cases e; exact h φ rfl
/-- what the code wants of an exception that is raised here -/
noncomputable def Lets (X : Cx) (E : XK) : Prop := ∀ (pins : List (Addr × Obj)) (σ : St) (H : Hp) (s : Shared) (h' : Heap) (ea : Addr) (cls : Value) (args : List Value), Inv X pins σ H s → Heap.MadeExcOf s.heap h' ea cls args → E cls none H → X.xe (.ref ea) { s with heap := h' }
/-- the same of one that has been made before and may have a dict -/
noncomputable def LetsD (X : Cx) (E : XK) : Prop := ∀ (pins : List (Addr × Obj)) (σ : St) (H : Hp) (s : Shared) (ea : Addr) (oe : Obj) (vs : Array Value), Inv X pins σ H s → s.heap.get? ea = some oe → oe.data = .fields vs → 1 < vs.size → vs[1]? = some .none → X.s₀.heap.get? ea = none → LooseAt H ea →
  E oe.cls oe.dict (offH H ea) → X.xe (.ref ea) s
section
variable {P : Program} {w : World} {K : PySem.W.Frag} {mg : Str → Option Value} {base : Heap} {N : List Str} {qual : Str} {scope : Scope} {f : Addr} {cd : Value} {A : Around} {outer : List Env} {s₀ : Shared} {H₀ : Hp} {E : XK}
theorem letsD_def : LetsD (cxOf (CX1 P w base) P w K mg base N qual scope f cd A outer s₀ H₀ E) E := by
  intro pins σ H s ea oe vs I he hd hz h1 hnew lo hE
  have st := I.stack
  have hin : ∀ env ∈ (envOfC qual scope s₀.heap.objs.size f cd :: outer), ∀ b, env.frame = some b → b ∈ ea :: frs (envOfC qual scope s₀.heap.objs.size f cd :: outer) := fun env he b hb => List.mem_cons_of_mem _ (List.mem_filterMap.mpr ⟨env, he, hb⟩)
  have eas : ∀ b o, s₀.heap.get? b = some o → b ≠ ea := fun b o e z => by
    have hnew : s₀.heap.get? ea = none := hnew
    rw [z, hnew] at e; cases e
  have nst : ∀ b o, s₀.heap.get? b = some o → b ∉ frs outer → b ∉ ea :: frs (envOfC qual scope s₀.heap.objs.size f cd :: outer) := fun b o e hb hm => by
    rcases List.mem_cons.mp hm with z | hm
    · exact eas b o e z
    rcases List.mem_cons.mp (I.stkSub b hm) with z | z
    · exact absurd (Heap.lt_size e) (by rw [z]; exact Nat.not_lt.mpr I.ok.above)
    · exact hb z
  have sta : Sta (hideAll s.heap (ea :: frs (envOfC qual scope s₀.heap.objs.size f cd :: outer))) (envOfC qual scope s₀.heap.objs.size f cd :: outer) ea oe.cls oe.dict none s.heap :=
    ⟨fun b o q => of_hideAll _ q, hideAll_none _ List.mem_cons_self, funFrames_hide st hin, oe, vs, he, rfl, rfl, hd, hz, h1⟩
  refine sta_leave I.ok.frames rfl (.inl rfl) sta fun h'' x1 x4 => ?_
  have up : s.heap.UpToSlots h'' := x4
  have inB : ∀ b o, s.heap.get? b = some o → b ∉ ea :: frs (envOfC qual scope s₀.heap.objs.size f cd :: outer) → (hideAll s.heap (ea :: frs (envOfC qual scope s₀.heap.objs.size f cd :: outer))).get? b = some o := fun b o e hb => hideAll_get _ e hb
  have fwd : ∀ b o, H b = some o → (∀ φ, o ≠ .ext φ) → offH H ea b = some o := fun b o e h => by rw [offH_ne (lo.ne e h)]; exact e
  have nb : ∀ b, (∃ o, H b = some o ∧ ∀ φ, o ≠ .ext φ) ∨ (b ≠ ea ∧ H b ≠ none) → b ∉ ea :: frs (envOfC qual scope s₀.heap.objs.size f cd :: outer) := fun b h hm => by
    have hne : b ≠ ea := by
      rcases h with ⟨o, e, h⟩ | h
      · exact lo.ne e h
      · exact h.1
    rcases List.mem_cons.mp hm with z | hm
    · exact hne z
    have hf := I.stkFree b hm
    rcases h with ⟨o, e, _⟩ | h
    · rw [hf] at e; cases e
    · exact h.2 hf
  refine ⟨ea, oe.cls, oe.dict, _, offH H ea, rfl, ⟨I.os, I.bare, x1, fun a o e => ?_, fun b o e => ?_, ⟨fun b o e n hb _ => ?_, fun b o e n hb _ => ?_, fun b o e n _ => offH_free (I.base.free b o e n (by intro z; cases z)), fun b o e _ => ?_,
    fun b xs e => fwd b _ (I.base.tups b xs e) (by intro φ z; cases z), fun b o u e => fwd b _ (I.base.frzs b o u e) (by intro φ z; cases z), fun b ps e => ?_⟩, fun b o e n hb => ?_, fun b o e hb => ?_⟩, hE⟩
  · have ne : a ≠ ea := fun z => by rw [z, offH_same] at e; cases e
    rw [offH_ne ne] at e
    refine (I.hok a o e).stay (fun b u hb q => inB b u q (nb b ?_)) (fun b q => fwd b _ q (by intro φ z; cases z)) fun b xs q => fwd b _ q (by intro φ z; cases z)
    rcases hb with rfl | hb
    · exact .inr ⟨ne, by rw [e]; intro z; cases z⟩
    · exact .inl ⟨_, hb, by intro φ z; cases z⟩
  · refine inB b o (I.bk b o e) fun hm => ?_
    have hb := I.bs b o e
    rcases List.mem_cons.mp hm with z | hm
    · obtain ⟨o', e'⟩ := I.ok.bs b o e
      exact eas b o (I.ok.bs b o e).1 z
    have z : base.get? b = none := (st.mem hm).1
    rw [z] at e; cases e
  · exact x1.stay b o (inB b o (I.base.keep b o e n hb (by intro z; cases z)) (nst b o e hb))
  · obtain ⟨sl, e1⟩ := I.base.slot b o e n hb (by intro z; cases z)
    obtain ⟨_, o', e2, d⟩ := I.ok.funs.mem hb
    have e2 : s₀.heap.get? b = some o' := e2
    rw [e] at e2
    have e2 := Option.some.inj e2
    subst e2
    obtain ⟨sl', e3⟩ := up b _ e1 d
    exact ⟨sl', e3⟩
  · obtain ⟨o', e1⟩ := I.base.there b o e (by intro z; cases z)
    by_cases hb : b ∈ frs (envOfC qual scope s₀.heap.objs.size f cd :: outer)
    · obtain ⟨_, o2, e2, d⟩ := st.mem hb
      obtain ⟨sl, e3⟩ := up b _ e2 d
      exact ⟨_, e3⟩
    · exact ⟨o', x1.stay b o' (inB b o' e1 (by
        intro hm
        rcases List.mem_cons.mp hm with z | hm
        · exact eas b o e z
        · exact hb hm))⟩
  · obtain ⟨m, e1⟩ := I.base.tbls b ps e
    exact ⟨m, fwd b _ e1 (by intro φ z; cases z)⟩
  · exact inB b o (I.base.keep b o e n hb (by intro z; cases z)) (nst b o e hb)
  · obtain ⟨o', e1⟩ := I.base.there b o e (by intro z; cases z)
    exact ⟨o', inB b o' e1 (nst b o e hb)⟩
theorem lets_of {X : Cx} (hex : X.ex = []) (L : LetsD X E) : Lets X E := by
  intro pins σ H s h' ea cls args I mx hE
  obtain ⟨t, he, _⟩ := mx.there
  have hn : H ea = none := by
    cases q : H ea with
    | none => rfl
    | some o =>
      obtain ⟨u, z⟩ := ObjOk.there (I.hok ea o q)
      rw [mx.new] at z; cases z
  refine L pins σ H { s with heap := h' } ea _ _ (I.kept (t' := s.toks) mx.keeps) he rfl (by simp) rfl ?_ (.inl hn) ?_
  · cases q : X.s₀.heap.get? ea with
    | none => rfl
    | some o =>
      obtain ⟨o', z⟩ := I.base.there ea o q (by rw [hex]; intro z; cases z)
      rw [mx.new] at z; cases z
  · rw [offH_none hn]; exact hE
theorem lets_def : Lets (cxOf (CX1 P w base) P w K mg base N qual scope f cd A outer s₀ H₀ E) E := lets_of rfl letsD_def
/-- an exception of a callee leaves this def too -/
theorem passes_def : Passes (CX1 P w base) (cxOf (CX1 P w base) P w K mg base N qual scope f cd A outer s₀ H₀ E) E := by
  rintro pins σ H s e s' I ⟨ea, cls, dd, B, H', rfl, F, hE⟩
  have nst : ∀ b o, s₀.heap.get? b = some o → b ∉ frs outer → b ∉ frs (envOfC qual scope s₀.heap.objs.size f cd :: outer) := fun b o e hb hm => by
    rcases List.mem_cons.mp (I.stkSub b hm) with z | z
    · exact absurd (Heap.lt_size e) (by rw [z]; exact Nat.not_lt.mpr I.ok.above)
    · exact hb z
  have sub : ∀ b ∈ frs outer, b ∈ frs (envOfC qual scope s₀.heap.objs.size f cd :: outer) := fun b hb => by
    obtain ⟨env, he, hf⟩ := List.mem_filterMap.mp hb
    exact List.mem_filterMap.mpr ⟨env, List.mem_cons_of_mem _ he, hf⟩
  refine sta_leave I.ok.frames rfl (.inr rfl) F.fly fun h'' fl up => ?_
  have u := F.go fl up
  refine ⟨ea, cls, dd, B, H', rfl, ⟨F.os.trans I.os, F.bare, fl, F.hok, F.bst, ⟨fun b o e n hb _ => ?_, fun b o e n hb _ => ?_, fun b o e n _ => ?_, fun b o e _ => ?_, fun b xs e => u.tups _ _ (I.base.tups _ _ e), fun b o xs e => u.frzs _ _ _ (I.base.frzs _ _ _ e), fun b ps e => ?_⟩, fun b o e n hb => ?_, fun b o e hb => ?_⟩, hE⟩
  · exact u.keep b o (I.base.keep b o e n hb (by intro z; cases z)) (I.base.free b o e n (by intro z; cases z)) (nst b o e hb) (by simp)
  · obtain ⟨sl, e1⟩ := I.base.slot b o e n hb (by intro z; cases z)
    obtain ⟨sl', e2⟩ := u.slot b _ e1 (I.base.free b o e n (by intro z; cases z)) (sub b hb) (by simp)
    exact ⟨sl', e2⟩
  · obtain ⟨o', e1⟩ := I.base.there b o e (by intro z; cases z)
    exact u.free b o' e1 (I.base.free b o e n (by intro z; cases z)) (by simp)
  · obtain ⟨o', e1⟩ := I.base.there b o e (by intro z; cases z)
    exact u.there b o' e1 (by simp)
  · obtain ⟨m1, e1⟩ := I.base.tbls b ps e
    obtain ⟨m2, e2⟩ := u.tbls b _ e1
    exact ⟨m1 ++ m2, by rw [e2, Array.append_assoc]⟩
  · exact F.keepB b o (I.base.keep b o e n hb (by intro z; cases z)) (I.base.free b o e n (by intro z; cases z)) (nst b o e hb)
  · obtain ⟨o', e1⟩ := I.base.there b o e (by intro z; cases z)
    exact F.thereB b o' e1 (nst b o e hb)
end
/-- raise C(e) -/
noncomputable def tRaise (C : Addr) (E : XK) (t : TA) : TS := fun _ σ H => t σ H fun vs H1 => vs.length ≤ sizeLine ∧ E (.ref C) none H1
theorem ps_raise {X : Cx} {x : Str} {C : Addr} {bmB : List Value} {newId B initId : String} {E : XK} {e0 : Expr} {t : TA} {np cpos pos : Pos} (FB : ExcBaseFacts B newId initId bmB) (O : OwnCls x C bmB newId X.mg X.base) (hc : X.calm = true) (hg : Gl X x) (L : Lets X E) (ha : PA X [e0] t)
    (hdb : (x == ("__debug__" : Str)) = false := by decide) (he : starEach [e0] X.env = (false, eval e0 X.env) :: starEach [] X.env := by rfl) (hpl : (backTo cpos (starEach [] X.env)).any (·.1) = false := by rfl) :
    PS X (.Raise (some (.Call (.Name x np) [e0] [] cpos)) none pos) (tRaise C E t) := by
  intro pins s σ H D I h
  obtain ⟨tl, N, nm, q, bs, hdct, sn, sub, ab, col, dd, k0, k1, k2, k3, k5, mN, hC, hN, hni, T⟩ := O.obj
  have hpl2 : (backTo cpos (starEach [e0] X.env)).any (·.1) = false := by
    rw [he]
    show (false || (backTo cpos (starEach [] X.env)).any (·.1)) = false
    rw [hpl]; rfl
  refine wpAny_Raise_call_subT (C := C) (nm := nm) (q := q) (N := N) (bs := bs) (bm := tl) (hdct := hdct) (sn := sn) (sub := sub) (ab := ab) (col := col) (dd := dd) (k0 := k0) (k1 := k1) (k2 := k2) (k3 := k3) (k5 := k5)
    FB (mN := mN) (T.hasType FB.hasBase) (I.ok.hd hc) hpl2 hni (ld_glob I hg O.bound ⟨rfl, ?_⟩ hdb)
  have hh := thn (ha cpos pins s σ H _ I h) (Q' := fun vs s₂ => vs.length ≤ sizeLine ∧ (∀ b o, X.base.get? b = some o → s₂.heap.get? b = some o) ∧ ∀ h' e, Heap.MadeExcOf s₂.heap h' e (.ref C) vs → X.xe (.ref e) { s₂ with heap := h' }) fun us s1 ⟨vs, H1, I1, r1, z, q1⟩ =>
    ⟨by rw [← r1.length]; exact z, I1.bk, fun h' e mx => L pins σ H1 s1 h' e _ _ I1 mx q1⟩
  rw [he] at hh ⊢
  exact Calls.evalArgs_plain (wpAny_mono hh (fun vs s₂ h₂ => ⟨rfl, h₂.1, h₂.2.1 _ _ hC, hN.keeps h₂.2.1, T.keeps h₂.2.1, h₂.2.2⟩) fun _ _ y => y)
/-! ### caught -/
/-- within an except suite: the exception stands at ea, as oe -/
noncomputable def exCx (X : Cx) (ea : Addr) (oe : Obj) : Cx := { X with A := X.A.mark (some (.ref ea)), calm := false, pn := (ea, oe) :: X.pn, xe := fun _ _ => False }
theorem Inv.toEx {X : Cx} {pins : List (Addr × Obj)} {σ : St} {H : Hp} {s : Shared} {ea : Addr} {oe : Obj} {vs : Array Value} (I : Inv X pins σ H s) (he : s.heap.get? ea = some oe) (hd : oe.data = .fields vs) (hn : H ea = none) : Inv (exCx X ea oe) pins σ H s where
  ok := ⟨I.ok.mod, I.ok.kind, I.ok.glob, I.ok.blt, I.ok.above, I.ok.inj, I.ok.has, I.ok.cab, fun z => (by cases z), I.ok.frames, I.ok.stk, I.ok.exf, I.ok.bs, I.ok.bsz, I.ok.noex, I.ok.exfs, I.ok.funs, I.ok.frf⟩
  os := I.os
  bare := I.bare
  base := I.base
  loc := I.loc
  cell := I.cell
  free := I.free
  freeC := I.freeC
  pin := fun p hp => by
    rcases List.mem_cons.mp hp with rfl | hp
    · refine ⟨he, hn, fun z => ?_, fun z => ?_, fun v z => by rw [hd] at z; cases z⟩
      · obtain ⟨m, ⟨o, es, ep, ho, hdo, _⟩, _⟩ := I.loc
        have z : ea = X.env.locals := z
        rw [← z, he] at ho
        cases ho
        rw [hd] at hdo; cases hdo
      · obtain ⟨_, o, ho, d⟩ := I.funs.mem z
        have ho : s.heap.get? ea = some o := ho
        rw [he] at ho
        cases ho
        exact d vs hd
    · exact I.pin p hp
  hok := I.hok
  len := I.len
theorem Inv.ofEx {X : Cx} {pins : List (Addr × Obj)} {σ : St} {H : Hp} {s : Shared} {ea : Addr} {oe : Obj} (ok : X.Ok) (I : Inv (exCx X ea oe) pins σ H s) : Inv X pins σ H s :=
  ⟨ok, I.os, I.bare, I.base, I.loc, I.cell, I.free, I.freeC, fun p hp => I.pin p (List.mem_cons_of_mem _ hp), I.hok, I.len⟩
theorem SP.ofEx {X : Cx} {pins : List (Addr × Obj)} {D : Ends} {f : Flow} {s : Shared} {ea : Addr} {oe : Obj} (ok : X.Ok) (h : SP (exCx X ea oe) pins D f s) : SP X pins D f s := by
  cases f with
  | next => obtain ⟨σ', H', I, q⟩ := h; exact ⟨σ', H', I.ofEx ok, q⟩
  | brk => obtain ⟨σ', H', I, q⟩ := h; exact ⟨σ', H', I.ofEx ok, q⟩
  | cont => obtain ⟨σ', H', I, q⟩ := h; exact ⟨σ', H', I.ofEx ok, q⟩
  | ret u => obtain ⟨v, σ', H', I, r, q⟩ := h; exact ⟨v, σ', H', I.ofEx ok, r, q⟩
theorem exc_ty {M : Model} {h : Heap} {ea : Addr} {oe : Obj} {cls : Value} (he : h.get? ea = some oe) (hc : oe.cls = cls) : Looks M h (typeOf (.ref ea)) cls := hc ▸ (Looks.ld he).andThen .now
theorem Fly.on {P : Program} {w : World} {base : Heap} {outer : List Env} {H H' : Hp} {s s' : Shared} {ea : Addr} {cls : Value} {dd : Option Addr} {B h' : Heap} (F : Fly P w base outer H s s' ea cls dd B H') (fl : Sta B outer ea cls dd (some .none) h') (up : s'.heap.UpToSlots h') :
    Fly P w base outer H s { s' with heap := h' } ea cls dd B H' := ⟨F.os, F.bare, fl, F.hok, F.bst, F.go fl up, F.keepB, F.thereB⟩
/-- how an exception is caught by the one clause «except x: suite» -/
noncomputable def Catch (X : Cx) (pins : List (Addr × Obj)) (D : Ends) (hs : List ExceptHandler) : Value → Shared → Prop := fun e s₁ =>
  wpAny (model X.prog X.w) X.A (noteFrame e X.env) (fun _ s₂ => wpAny (model X.prog X.w) X.A (setFlight e none) (fun _ s₃ => wpAny (model X.prog X.w) X.A (handleBy e X.env hs) (SP X pins D) X.xe s₃) X.xe s₂) X.xe s₁

/-! ### calls of defs that may raise -/
structure Cal1 (P : Program) (w : World) (K : PySem.W.Frag) (mg : Str → Option Value) (base : Heap) (k : Nat) (x : Str) (ps : List Str) (sp : Sp) : Prop where
  ex : ∃ (f : Addr) (fd : FuncData), FnOk P w K mg base (CX1 P w base) k f fd ps sp ∧ mg x = some (.ref f) ∧ PySem.W.keepIn K (.ref f) = true ∧ Binds K fd ps []
/-- .. in a def that passes it on -/
theorem pe_calP {P : Program} {w : World} {K : PySem.W.Frag} {mg : Str → Option Value} {base : Heap} {N : List Str} {qual : Str} {scope : Scope} {f : Addr} {cd : Value} {A : Around} {outer : List Env} {s₀ : Shared} {H₀ : Hp} {E : XK}
    {k : Nat} {x : Str} {ps : List Str} {sp : Sp} {e : Expr} {es : List Expr} {t : TA} {p pos : Pos} (c : Cal1 P w K mg base k x ps sp) (hr : Room k (A.deeper (envOfC qual scope s₀.heap.objs.size f cd)))
    (hg : Gl (cxOf (CX1 P w base) P w K mg base N qual scope f cd A outer s₀ H₀ E) x) (ha : PA (cxOf (CX1 P w base) P w K mg base N qual scope f cd A outer s₀ H₀ E) (e :: es) t)
    (hdb : (x == ("__debug__" : Str)) = false := by decide) (he : starEach (e :: es) (envOfC qual scope s₀.heap.objs.size f cd) = (false, eval e (envOfC qual scope s₀.heap.objs.size f cd)) :: starEach es (envOfC qual scope s₀.heap.objs.size f cd) := by rfl)
    (hpl : (backTo pos (starEach es (envOfC qual scope s₀.heap.objs.size f cd))).any (·.1) = false := by rfl) :
    PE (cxOf (CX1 P w base) P w K mg base N qual scope f cd A outer s₀ H₀ E) (.Call (.Name x p) (e :: es) [] pos) (tCall sp [] E t) := by
  obtain ⟨f', fd, F, hm, hk, hb⟩ := c.ex
  exact pe_call (X := cxOf (CX1 P w base) P w K mg base N qual scope f cd A outer s₀ H₀ E) F hr hg hm hk hb .nil passes_def ha hdb he hpl
/-- a def that may raise, by its body -/
theorem Fun.ok1 {P : Program} {w : World} {K : PySem.W.Frag} {mg : Str → Option Value} {base : Heap} {x qual : Str} {st : Stmt} {f : Addr} {fd : FuncData} {N ps : List Str} {k : Nat} {sp : Sp} (F : Fun K x qual st f fd) (S : FnScope N ps (defScope st)) (len : ∀ vs H Q E, sp vs H Q E → vs.length = ps.length)
    (hbody : ∀ (cdv : Value) (A : Around) (outer : List Env) (s : Shared) (H : Hp) (vs : List V) (Q : VK) (E : XK), Room k (A.deeper (envOfC qual (defScope st) s.heap.objs.size f cdv)) → sp vs H Q E →
      ∃ t, PSs (cxOf (CX1 P w base) P w K mg base N qual (defScope st) f cdv A outer s H E) (defBody st) t ∧ t { nx := fun _ H' => Q .non H', rt := Q } (start N vs) H) : FnOk P w K mg base (CX1 P w base) (k + 1) f fd ps sp := by
  obtain ⟨oc, od, kV, doc, pm, an, cdv, ct, osl, rfl, lk, hcd⟩ := F.ex
  exact fn_of lk hcd S len fun A outer s H vs Q E hr hsp => hbody cdv A outer s H vs Q E hr hsp
theorem At0.cal1 {P : Program} {w : World} {K : PySem.W.Frag} {mg : Str → Option Value} {base h : Heap} {k : Nat} {x : Str} {st : Stmt} {ps : List Str} {sp : Sp} (a : At0 K x st) (X : K.In h) (G : h.Ns mainGlobals mg)
    (hb : ∀ (kV doc pm : Value) (an : Option Addr) (cdv ct : Value) (us : List Value), us.length = ps.length → bindArgs (PySem.W.fnOf x x (defArgs st) (defBody st) (defScope st) .none kV doc pm an cdv ct) ⟨us, []⟩ = pure (ps.zip us))
    (ok : ∀ (f : Addr) (fd : FuncData), Fun K x x st f fd → FnOk P w K mg base (CX1 P w base) k f fd ps sp) : Cal1 P w K mg base k x ps sp := by
  obtain ⟨f, fd, F, e⟩ := a.ex
  exact ⟨f, fd, ok f fd F, PySem.W.mg_of X G e, F.kp, F.binds hb⟩
/-- a class of the text's own, over ValueError -/
structure ExcC (K : PySem.W.Frag) (mg : Str → Option Value) (base : Heap) (x : Str) (C : Addr) : Prop where
  own : ∃ bmB newId B initId, ExcBaseFacts B newId initId bmB ∧ OwnCls x C bmB newId mg base
  mg : mg x = some (.ref C)
theorem own_mk {K : PySem.W.Frag} {base : Heap} {mg : Str → Option Value} {x : Str} {C : Addr} {bmB : List Value} {newId : String} (X : K.In base) (G : base.Ns mainGlobals mg) (e : nsIn K mainGlobals x = some (some (.ref C))) (q : excIn K C bmB newId = true) : OwnCls x C bmB newId mg base := by
  refine ⟨mg_of X G e, ?_⟩
  unfold excIn at q
  split at q
  · rename_i dd cd sl ho
    split at q
    · rename_i C' bm k0 k1 k2 k3 n k5 hm hs
      simp only [Bool.and_eq_true, beq_iff_eq, Bool.not_eq_true'] at q
      obtain ⟨⟨⟨⟨⟨e1, e2⟩, hdel⟩, htl⟩, hok⟩, hni⟩ := q
      subst e1 e2
      obtain ⟨nm, bs, mro, ns, qn, hd, sn, sub, ab, col, del⟩ := cd
      simp only at hm hdel hok hni
      subst hm hdel
      have hsl : sl = #[k0, k1, k2, k3, some (.builtin n), k5] := by
        cases sl
        simp only at hs
        rw [hs]
      subst hsl
      exact ⟨bm, ns, nm, qn, bs, hd, sn, sub, ab, col, dd, k0, k1, k2, k3, k5, _, X _ _ ho, .of_isNs (isNs_of_in X hok), nsMap_none_of_in X hok hni, tail_of_in X htl⟩
    · cases q
  · cases q
theorem ps_raiseC {X : Cx} {x : Str} {C : Addr} {E : XK} {e0 : Expr} {t : TA} {np cpos pos : Pos} (O : ExcC X.K X.mg X.base x C) (hc : X.calm = true) (hg : Gl X x) (L : Lets X E) (ha : PA X [e0] t)
    (hdb : (x == ("__debug__" : Str)) = false := by decide) (he : starEach [e0] X.env = (false, eval e0 X.env) :: starEach [] X.env := by rfl) (hpl : (backTo cpos (starEach [] X.env)).any (·.1) = false := by rfl) :
    PS X (.Raise (some (.Call (.Name x np) [e0] [] cpos)) none pos) (tRaise C E t) := by
  obtain ⟨bmB, newId, B, initId, FB, O⟩ := O.own
  exact ps_raise FB O hc hg L ha hdb he hpl
/-! ### try: f(..) except C: suite -/
section
variable {X : Cx} {k : Nat} {x y : Str} {C L : Addr} {ps : List Str} {sp : Sp} {e : Expr} {es : List Expr} {t : TA} {ts : TS} {env0 : List Env} {p np pos epos tpos hpos : Pos} {b0 : Stmt} {suite : List Stmt}
/-- the call in the try's body -/
theorem try_call {pins : List (Addr × Obj)} {s : Shared} {σ : St} {H : Hp} {Q : VK} {E : XK} {XE : Value → Shared → Prop} (c : Cal1 X.prog X.w X.K X.mg X.base k x ps sp) (hr : Room k X.A) (hg : Gl X x) (ha : PA (X.wish XE) (e :: es) t) (I : Inv X pins σ H s)
    (hx : ∀ (H1 : Hp) (s1 : Shared) (v : Value) (s2 : Shared), Inv X pins σ H1 s1 → CX1 X.prog X.w X.base X.stack H1 s1 E v s2 → XE v s2) (h : t σ H fun vs H1 => sp vs H1 Q E)
    (hdb : (x == ("__debug__" : Str)) = false) (he : starEach (e :: es) X.env = (false, eval e X.env) :: starEach es X.env) (hpl : (backTo pos (starEach es X.env)).any (·.1) = false) :
    wpAny (model X.prog X.w) X.A (eval (.Call (.Name x p) (e :: es) [] pos) X.env) (EP X pins σ Q) XE s := by
  obtain ⟨f, fd, F, hm, hk, hb⟩ := c.ex
  refine wpAny_Call_Name_kw (ld_glob I hg hm ?_ hdb)
  refine PySem.W.callWith_K (h₀ := X.base) I.ok.mod.kin hk (thn (ha pos pins s σ H _ (I.wish XE) h) fun us s1 ⟨vs, H1, I1, r, q⟩ => ⟨I1.kIn, ?_⟩) he hpl
  have I1 := I1.unwish
  have hl : (us ++ ([] : List Value)).length = ps.length := by rw [List.append_nil, ← r.length]; exact F.len _ _ _ _ q
  have hb' := hb s1 us I1.kIn hl
  rw [List.append_nil] at hb'
  refine wpAny_call (codeAny_mono (F.run X.A X.stack s1 H1 ⟨us, []⟩ us vs Q E hr I1.env0 hb' r q) fun res s2 hq => ?_)
  cases res with
  | error v => exact hx H1 s1 v s2 I1 hq
  | ok fl =>
    cases fl with
    | ret u => exact I1.after hq
    | next => exact False.elim hq
    | brk => exact False.elim hq
    | cont => exact False.elim hq
end
/-! ### try: f(..) except C as e: return isinstance(e, ValueError) -/
theorem Inv.forgot {X : Cx} {pins : List (Addr × Obj)} {σ : St} {H : Hp} {s : Shared} {m' : Str → Option Value} {h' : Heap} {t' : Nat} (I : Inv X pins σ H s) (hn : h'.Ns X.env.locals m') (sb : Heap.SameBut X.env.locals s.heap h') : Inv X pins (List.replicate X.N.length none) H { s with heap := h', toks := t' } where
  ok := I.ok
  os := I.os
  bare := I.bare
  base := by
    have ne : ∀ b o, X.s₀.heap.get? b = some o → b ≠ X.env.locals := fun b o e => Nat.ne_of_lt (Nat.lt_of_lt_of_le (Heap.lt_size e) I.ok.above)
    refine ⟨fun b o e n hb hx => (sb.2 b (ne b o e)).trans (I.base.keep b o e n hb hx), fun b o e n hb hx => ?_, I.base.free, fun b o e hx => ?_, I.base.tups, I.base.frzs, I.base.tbls⟩
    · obtain ⟨sl, e1⟩ := I.base.slot b o e n hb hx
      exact ⟨sl, (sb.2 b (ne b o e)).trans e1⟩
    · obtain ⟨o', e1⟩ := I.base.there b o e hx
      exact ⟨o', (sb.2 b (ne b o e)).trans e1⟩
  loc := ⟨m', hn, fun i x v _ e _ => by
    rw [List.getElem?_replicate] at e
    split at e
    · cases e
    · cases e⟩
  cell := fun x c e => by
    obtain ⟨v, z⟩ := I.cell x c e
    exact ⟨v, z.sameBut sb (I.cne x c e)⟩
  free := I.free
  freeC := I.freeC
  pin := fun p hp => by
    obtain ⟨e, n, ne, nf, d⟩ := I.pin p hp
    exact ⟨(sb.2 p.1 ne).trans e, n, ne, nf, d⟩
  hok := fun b ob e => by
    refine (I.hok b ob e).stay (fun c w' hc q => (sb.2 c ?_).trans q) (fun _ q => q) fun _ _ q => q
    rintro rfl
    rcases hc with hc | hc
    · rw [← hc, I.free] at e; cases e
    · rw [I.free] at hc; cases hc
  len := by simp
section
variable {X : Cx} {k : Nat} {x y n : Str} {C L : Addr} {ps : List Str} {sp : Sp} {e : Expr} {es : List Expr} {t : TA} {env0 : List Env} {p np pos epos tpos hpos p1 p2 p3 p4 p5 : Pos} {i : Nat}
end
/-! ### try: z = f(..) except C: suite -/
section
variable {X : Cx} {k : Nat} {x y z : Str} {C L : Addr} {ps : List Str} {sp : Sp} {e : Expr} {es : List Expr} {t : TA} {ts : TS} {env0 : List Env} {p np pos zpos apos tpos hpos : Pos} {b0 : Stmt} {suite : List Stmt} {i : Nat}
end
end L2

set_option Elab.async false
set_option linter.all false
set_option maxRecDepth 100000
/-! Tables: cells that cover each place just once. -/
namespace GT
open PySem L2

structure Cell where
  top : Nat
  left : Nat
  h : Nat
  w : Nat
  words : List Str
noncomputable def signs : Str := "abcdefghijklmnopqrstuvwxyz0123456789"
structure WordOk (x : Str) : Prop where
  lo : 1 ≤ x.length
  hi : x.length ≤ 12
  all : ∀ c ∈ x.cps.toList, c ∈ signs.cps.toList
structure WordsOk (ws : List Str) : Prop where
  few : ws.length ≤ 12
  each : ∀ x ∈ ws, WordOk x
noncomputable def wordsD (ws : List Str) : Dd := .tup (ws.map Dd.str)
noncomputable def Cell.D (x : Cell) : Dd := .tup [.int x.top, .int x.left, .int x.h, .int x.w, wordsD x.words]
noncomputable def tabD (R C : Nat) (cs : List Cell) : Dd := .tup [.int R, .int C, .lst (cs.map Cell.D)]
noncomputable def inC (x : Cell) (r c : Nat) : Prop := x.top ≤ r ∧ r < x.top + x.h ∧ x.left ≤ c ∧ c < x.left + x.w
structure Fit (R C : Nat) (x : Cell) : Prop where
  h1 : 1 ≤ x.h
  w1 : 1 ≤ x.w
  down : x.top + x.h ≤ R
  across : x.left + x.w ≤ C
  words : WordsOk x.words
noncomputable def Apart (x y : Cell) : Prop := ∀ r c, inC x r c → ¬ inC y r c
noncomputable def cov (cs : List Cell) (r c : Nat) : Prop := ∃ x ∈ cs, inC x r c
noncomputable def Before (x y : Cell) : Prop := x.top < y.top ∨ (x.top = y.top ∧ x.left < y.left)
/-- some of the places -/
structure Part (R C : Nat) (cs : List Cell) : Prop where
  fit : ∀ x ∈ cs, Fit R C x
  dis : cs.Pairwise Apart
structure Tiles (R C : Nat) (cs : List Cell) : Prop extends Part R C cs where
  all : ∀ r c, r < R → c < C → cov cs r c
  ord : cs.Pairwise Before

/-! ### cells in the heap -/
theorem wordsD_nol (ws : List Str) : NoL (wordsD ws) := .tup fun d hd => by
  obtain ⟨w, _, rfl⟩ := List.mem_map.mp hd
  exact .str w
theorem Cell.D_nol (x : Cell) : NoL x.D := .tup fun d hd => by
  simp only [List.mem_cons, List.mem_nil_iff, or_false] at hd
  rcases hd with rfl | rfl | rfl | rfl | rfl
  · exact .int _
  · exact .int _
  · exact .int _
  · exact .int _
  · exact wordsD_nol _
theorem cells_nol (cs : List Cell) : ∀ d ∈ cs.map Cell.D, NoL d := fun d hd => by
  obtain ⟨x, _, rfl⟩ := List.mem_map.mp hd
  exact x.D_nol
/-- a cell's value, taken apart -/
theorem Cell.at_inv {H : Hp} {x : Cell} {v : V} (h : At H x.D v) : ∃ a b ws, v = .ref a ∧ H a = some (.tup [.int x.top, .int x.left, .int x.h, .int x.w, .ref b]) ∧ H b = some (.tup ws) ∧ AtL H (x.words.map Dd.str) ws := by
  obtain ⟨a, xs, rfl, ha, r⟩ := h.tup_inv
  cases r with
  | cons h1 r =>
    cases r with
    | cons h2 r =>
      cases r with
      | cons h3 r =>
        cases r with
        | cons h4 r =>
          cases r with
          | cons h5 r =>
            cases r
            obtain ⟨b, ws, rfl, hb, rw'⟩ := h5.tup_inv
            rw [h1.int_inv, h2.int_inv, h3.int_inv, h4.int_inv] at ha
            exact ⟨a, b, ws, rfl, ha, hb, rw'⟩
theorem Cell.at_mk {H : Hp} {x : Cell} {a b : Addr} {ws : List V} (ha : H a = some (.tup [.int x.top, .int x.left, .int x.h, .int x.w, .ref b])) (hb : H b = some (.tup ws)) (r : AtL H (x.words.map Dd.str) ws) : At H x.D (.ref a) :=
  .tup ha (.cons (.int _) (.cons (.int _) (.cons (.int _) (.cons (.int _) (.cons (.tup hb r) .nil)))))
theorem tab_inv {H : Hp} {R C : Nat} {cs : List Cell} {v : V} (h : At H (tabD R C cs) v) : ∃ a l ys, v = .ref a ∧ H a = some (.tup [.int R, .int C, .ref l]) ∧ H l = some (.lst ys) ∧ AtL H (cs.map Cell.D) ys := by
  obtain ⟨a, xs, rfl, ha, r⟩ := h.tup_inv
  cases r with
  | cons h1 r =>
    cases r with
    | cons h2 r =>
      cases r with
      | cons h3 r =>
        cases r
        obtain ⟨l, ys, rfl, hl, ry⟩ := h3.lst_inv
        rw [h1.int_inv, h2.int_inv] at ha
        exact ⟨a, l, ys, rfl, ha, hl, ry⟩
theorem tab_mk {H : Hp} {R C : Nat} {cs : List Cell} {a l : Addr} {ys : List V} (ha : H a = some (.tup [.int R, .int C, .ref l])) (hl : H l = some (.lst ys)) (r : AtL H (cs.map Cell.D) ys) : At H (tabD R C cs) (.ref a) :=
  .tup ha (.cons (.int _) (.cons (.int _) (.cons (.lst hl r) .nil)))

end GT

set_option Elab.async false
set_option linter.all false
set_option maxRecDepth 100000
/-! Deeds on tables: a row put in, a row taken out, the table turned about; what becomes of the cells. -/
namespace GT
open PySem L2

/-! ### a row put in -/
noncomputable def emptyCell (r c : Nat) : Cell := ⟨r, c, 1, 1, []⟩

/-! ### a row taken out -/

/-! ### turned about -/
/-! ### the order of the cells does not matter -/
/-! ### a row and a column, in either order -/
end GT

set_option Elab.async false
set_option linter.all false
set_option maxRecDepth 100000
/-! sorted(cells, key=first_place) -/
namespace GT
open PySem L2
end GT

set_option Elab.async false
set_option linter.all false
set_option maxRecDepth 100000
/-! Tables mirrored. -/
namespace GT
open PySem L2
theorem take_map_succ {α β : Type} {g : α → β} {l : List α} {i : Nat} {x : α} (h : l[i]? = some x) : (l.take (i + 1)).map g = (l.take i).map g ++ [g x] := by
  rw [List.take_add_one, h, List.map_append]; rfl
end GT

set_option Elab.async false
set_option linter.all false
set_option maxRecDepth 100000
/-! A cell parted into cells of one place each. -/
namespace GT
open PySem L2
theorem cut_drop {ys : List V} {i : Nat} (h : i ≤ ys.length) : cutV ys (some (i : Int)) none = ys.drop i := by
  unfold cutV
  have e1 : HT.sIx ys.length ys.length none = ys.length := rfl
  have e2 : HT.sIx ys.length 0 (some (i : Int)) = i := by
    rw [HT.sIx_nat]
    omega
  rw [e1, e2]
  rw [List.take_of_length_le (by simp)]
end GT

set_option Elab.async false
set_option linter.all false
set_option maxRecDepth 100000
/-! Open lines and bands. -/
namespace GT
open PySem L2
noncomputable def spansB (n : Nat) (x : Cell) : Bool := decide (x.top < n ∧ n < x.top + x.h)
noncomputable def openB (n : Nat) (cs : List Cell) : Bool := !(cs.any (spansB n))
noncomputable def linesL (cs : List Cell) (k : Nat) : List Nat := ((List.range k).map (· + 1)).filter (fun n => openB n cs)
noncomputable def endsL (R : Nat) (cs : List Cell) : List Nat := 0 :: (linesL cs (R - 1) ++ [R])
noncomputable def bandsL (R : Nat) (cs : List Cell) : List (Nat × Nat) := (endsL R cs).zip (endsL R cs).tail
noncomputable def bandD (b : Nat × Nat) : Dd := .tup [.int (b.1 : Int), .int (b.2 : Int)]
theorem lines_succ (cs : List Cell) (k : Nat) : linesL cs (k + 1) = linesL cs k ++ (if openB (k + 1) cs = true then [k + 1] else []) := by
  unfold linesL
  rw [List.range_succ, List.map_append, List.filter_append]
  congr 1
  simp only [List.map_cons, List.map_nil, List.filter_cons, List.filter_nil]
theorem mem_lines {cs : List Cell} {k n : Nat} : n ∈ linesL cs k ↔ 1 ≤ n ∧ n ≤ k ∧ openB n cs = true := by
  unfold linesL
  rw [List.mem_filter, List.mem_map]
  constructor
  · rintro ⟨⟨j, hj, rfl⟩, h⟩
    have := List.mem_range.mp hj
    exact ⟨by omega, by omega, h⟩
  · rintro ⟨h1, h2, h3⟩
    exact ⟨⟨n - 1, List.mem_range.mpr (by omega), by omega⟩, h3⟩
theorem lines_len (cs : List Cell) (k : Nat) : (linesL cs k).length ≤ k := by
  unfold linesL
  have := List.length_filter_le (fun n => openB n cs) ((List.range k).map (· + 1))
  rw [List.length_map, List.length_range] at this
  exact this
theorem lines_sorted (cs : List Cell) (k : Nat) : (linesL cs k).Pairwise (· < ·) := by
  unfold linesL
  refine List.Pairwise.filter _ (List.pairwise_map.mpr (List.pairwise_lt_range.imp fun {a b} h => ?_))
  omega
theorem ends_sorted {R : Nat} {cs : List Cell} (hR : 1 ≤ R) : (endsL R cs).Pairwise (· < ·) := by
  unfold endsL
  refine List.pairwise_cons.mpr ⟨fun n hn => ?_, List.pairwise_append.mpr ⟨lines_sorted _ _, List.pairwise_singleton _ _, fun a ha b hb => ?_⟩⟩
  · rcases List.mem_append.mp hn with h | h
    · have := (mem_lines.mp h).1; omega
    · have : n = R := by simpa using h
      omega
  · have := (mem_lines.mp ha).2.1
    have : b = R := by simpa using hb
    omega
theorem mem_ends {R n : Nat} {cs : List Cell} : n ∈ endsL R cs ↔ n = 0 ∨ (1 ≤ n ∧ n ≤ R - 1 ∧ openB n cs = true) ∨ n = R := by
  unfold endsL
  rw [List.mem_cons, List.mem_append, mem_lines]
  simp
theorem ends_len (R : Nat) (cs : List Cell) : (endsL R cs).length = (bandsL R cs).length + 1 := by
  unfold bandsL
  rw [List.length_zip, List.length_tail]
  have : 1 ≤ (endsL R cs).length := by unfold endsL; simp
  omega
theorem ends_few {R : Nat} {cs : List Cell} (hR : 1 ≤ R) : (endsL R cs).length ≤ R + 1 := by
  unfold endsL
  have := lines_len cs (R - 1)
  rw [List.length_cons, List.length_append]
  show _ + 1 + 1 ≤ _
  omega
theorem bands_get {R k : Nat} {cs : List Cell} {b : Nat × Nat} (h : (bandsL R cs)[k]? = some b) : (endsL R cs)[k]? = some b.1 ∧ (endsL R cs)[k + 1]? = some b.2 := by
  unfold bandsL at h
  rw [List.getElem?_zip_eq_some] at h
  refine ⟨h.1, ?_⟩
  have := h.2
  rw [List.getElem?_tail] at this
  exact this
theorem sorted_next {l : List Nat} (h : l.Pairwise (· < ·)) {k a b : Nat} (ha : l[k]? = some a) (hb : l[k + 1]? = some b) : a < b := by
  obtain ⟨ka, ea⟩ := List.getElem?_eq_some_iff.mp ha
  obtain ⟨kb, eb⟩ := List.getElem?_eq_some_iff.mp hb
  have := List.pairwise_iff_getElem.mp h k (k + 1) ka kb (by omega)
  omega
/-- what lies at an end is not spanned; what lies between two ends is -/
theorem ends_free {R C n : Nat} {cs : List Cell} (t : Part R C cs) (h : n ∈ endsL R cs) : cs.any (spansB n) = false := by
  rcases mem_ends.mp h with rfl | ⟨_, _, h⟩ | rfl
  · rw [List.any_eq_false]
    intro x hx
    unfold spansB
    simp
  · unfold openB at h
    simpa using h
  · rw [List.any_eq_false]
    intro x hx
    have := (t.fit x hx).down
    unfold spansB
    simp
    omega
end GT

set_option Elab.async false
set_option linter.all false
set_option maxRecDepth 100000
/-! for a, b in zip(xs, ys): two lists that are tracked. -/
namespace L2
open PySem PySem.Spec PyProof.Rows
theorem addr_ne {a b : Nat} (h : a < b ∨ b < a) : (a : Addr) ≠ (b : Addr) := by
  have : (a : Nat) ≠ b := by omega
  exact this
end L2

set_option Elab.async false
set_option linter.all false
set_option maxRecDepth 100000
/-! list(zip(a, b)) -/
namespace L2
open PySem PySem.Spec PyProof.Rows
noncomputable abbrev IsZipB (h : Heap) (z TI TO T : Addr) (b : Bool) : Prop :=
  h.get? z = some { cls := .type "zip", dict := none, data := .fields #[rawInt T, .bool b, .bool false, .ref TI, .ref TO], slots := #[] }
theorem zip_no_len : typeLookup (.type "zip") "__len__" = pure none := by rw [typeLookup_type, builtinLookup_eq_fast]; kernel_rfl
theorem zip_no_hint : typeLookup (.type "zip") "__length_hint__" = pure none := by rw [typeLookup_type, builtinLookup_eq_fast]; kernel_rfl
section
variable {prog : Program} {w : World} {A : Around} {E : Value → Shared → Prop} {s : Shared}
theorem wpAny_alive {M : Model} {a : Addr} {Q : Option Obj → Shared → Prop} (h : Q (s.heap.get? a) s) : wpAny M A (loadIfAlive a) Q E s := fun Γ p _ => by
  show Sem.wp M Γ (Sem.loadIfAlive a Sem.pure) _ _ p s
  rw [Sem.wp_loadIfAlive]
  exact h
theorem free_not {z TI TO T : Addr} {b : Bool} {Q : Bool → Shared → Prop} (hz : IsZipB s.heap z TI TO T b) (hT : ∃ o, s.heap.get? T = some o)
    (h : ∀ h', IsZipB h' z TI TO T true → Heap.SameBut z s.heap h' → Q false { s with heap := h' }) : wpAny (model prog w) A (Builtin.SmallTypes.ownedTupleIsFree (.ref z)) Q E s := by
  obtain ⟨o, ho⟩ := hT
  unfold Builtin.SmallTypes.ownedTupleIsFree
  refine wpAny_bind (wpAny_field hz rfl (x := rawInt T) rfl ?_)
  show wpAny _ _ (loadIfAlive (((T : Nat) : Int)).toNat >>= _) _ _ _
  rw [Int.toNat_natCast]
  refine wpAny_bind (wpAny_alive ?_)
  rw [ho]
  show wpAny _ _ (field (.ref z) 1 >>= _) _ _ _
  refine wpAny_bind (wpAny_field hz rfl (x := .bool b) rfl ?_)
  cases b with
  | true => exact wpAny_pure (h s.heap hz ⟨rfl, fun _ _ => rfl⟩)
  | false =>
    show wpAny _ _ (setField (.ref z) 1 (.bool true) >>= fun _ => pure false) _ _ _
    exact wpAny_bind (wpAny_setField_rec hz (by simp) fun h' hz' hs' => wpAny_pure (h h' hz' hs'))
theorem zip_next_more {z TI TO i1 i2 l1 l2 T : Addr} {k1 k2 : Nat} {bb : Bool} {xs ys : Array Value} {x y : Value} {Q : Value → Shared → Prop} (D : ZipApart z TI TO i1 i2 l1 l2)
    (hz : IsZipB s.heap z TI TO T bb) (hT : ∃ o, s.heap.get? T = some o) (hTI : IsPair s.heap TI (.ref i1) (.ref i2))
    (h1 : s.heap.IsListIter i1 l1 k1) (h2 : s.heap.IsListIter i2 l2 k2) (hl1 : s.heap.IsList l1 xs) (hl2 : s.heap.IsList l2 ys) (hx : xs[k1]? = some x) (hy : ys[k2]? = some y)
    (hQ : ∀ h', IsZipB h' z TI TO T true → h'.IsListIter i1 l1 (k1 + 1) → h'.IsListIter i2 l2 (k2 + 1) → IsPair h' s.heap.objs.size x y → h'.objs.size = s.heap.objs.size + 1 →
      (∀ c o, c ≠ z → c ≠ i1 → c ≠ i2 → s.heap.get? c = some o → h'.get? c = some o) → Q (.ref s.heap.objs.size) { s with heap := h' }) :
    wpAny (model prog w) A (Builtin.«zip.__next__» ⟨[.ref z], []⟩) (fun fin s' => ∃ v, fin = .done (.ret v) ∧ Q v s') E s := by
  show wpAny _ _ (field (.ref z) 2 >>= _) _ _ _
  refine wpAny_bind (wpAny_field hz rfl (x := .bool false) rfl ?_)
  show wpAny _ _ (field (.ref z) 3 >>= _) _ _ _
  refine wpAny_bind (wpAny_field hz rfl (x := .ref TI) rfl ?_)
  refine wpAny_bind (wpAny_seqItems hTI rfl ?_)
  show wpAny _ _ (Builtin.SmallTypes.ownedTupleIsFree (.ref z) >>= _) _ _ _
  refine wpAny_bind (free_not hz hT fun h₁ hz₁ hs₁ => ?_)
  simp only [Bool.false_eq_true, if_false]
  refine wpAny_bind ?_
  rw [← Array.forIn_toList]
  simp only [List.forIn_cons, List.forIn_nil]
  refine wpAny_bind (wpAny_bind (wpAny_holding ?_))
  show wpAny _ _ (Builtin.SmallTypes.nextOf (.ref i1) >>= _) _ _ _
  refine wpAny_bind (wpAny_nextOf_list_item (h1.extBut hs₁.extBut D.i1z) (hl1.extBut hs₁.extBut D.l1z) hx fun h₂ h1₂ hs₂ => wpAny_pure (wpAny_pure ?_))
  refine wpAny_bind (wpAny_bind (wpAny_holding ?_))
  show wpAny _ _ (Builtin.SmallTypes.nextOf (.ref i2) >>= _) _ _ _
  refine wpAny_bind (wpAny_nextOf_list_item ((h2.extBut hs₁.extBut D.i2z).extBut hs₂.extBut D.i12.symm) ((hl2.extBut hs₁.extBut D.l2z).extBut hs₂.extBut D.l2i1) hy fun h₃ h2₃ hs₃ => wpAny_pure (wpAny_pure (wpAny_pure ?_)))
  have hsz : h₃.objs.size = s.heap.objs.size := by rw [hs₃.1, hs₂.1, hs₁.1]
  have kp : ∀ c o, c ≠ z → c ≠ i1 → c ≠ i2 → s.heap.get? c = some o → h₃.get? c = some o := fun c o c1 c2 c3 e =>
    hs₃.extBut _ _ c3 (hs₂.extBut _ _ c2 (hs₁.extBut _ _ c1 e))
  refine wpAny_bind (wpAny_newTuple ?_ (by show 2 ≤ sizeLine; decide))
  refine wpAny_pure ⟨_, rfl, ?_⟩
  show Q (.ref h₃.objs.size) _
  rw [hsz]
  refine hQ _ (Heap.get?_push_of_some _ (hs₃.extBut _ _ D.i2z.symm (hs₂.extBut _ _ D.i1z.symm hz₁))) ((h1₂.extBut hs₃.extBut D.i12).at fun o e => Heap.get?_push_of_some _ e) (h2₃.at fun o e => Heap.get?_push_of_some _ e) ?_ ?_ fun c o c1 c2 c3 e => Heap.get?_push_of_some _ (kp c o c1 c2 c3 e)
  · have := Heap.get?_push_size h₃ (o := { cls := .type "tuple", data := .seq [x, y].toArray }) rfl
    rw [hsz] at this
    exact this
  · rw [Heap.size_push, hsz]
theorem zip_next_over {z TI TO i1 i2 l1 l2 T : Addr} {k1 k2 : Nat} {bb : Bool} {xs ys : Array Value} {Q : Fin → Shared → Prop} (hh : A.handled = none) (D : ZipApart z TI TO i1 i2 l1 l2)
    (hz : IsZipB s.heap z TI TO T bb) (hT : ∃ o, s.heap.get? T = some o) (hTI : IsPair s.heap TI (.ref i1) (.ref i2))
    (h1 : s.heap.IsListIter i1 l1 k1) (h2 : s.heap.IsListIter i2 l2 k2) (hl1 : s.heap.IsList l1 xs) (hl2 : s.heap.IsList l2 ys) (hend : xs[k1]? = none ∨ ys[k2]? = none)
    (hE : ∀ h' e, (∀ c o, c ≠ z → c ≠ i1 → c ≠ i2 → s.heap.get? c = some o → h'.get? c = some o) → (∃ o, h'.get? e = some o ∧ o.cls = .type "StopIteration") → E (.ref e) { s with heap := h' }) :
    wpAny (model prog w) A (Builtin.«zip.__next__» ⟨[.ref z], []⟩) Q E s := by
  show wpAny _ _ (field (.ref z) 2 >>= _) _ _ _
  refine wpAny_bind (wpAny_field hz rfl (x := .bool false) rfl ?_)
  show wpAny _ _ (field (.ref z) 3 >>= _) _ _ _
  refine wpAny_bind (wpAny_field hz rfl (x := .ref TI) rfl ?_)
  refine wpAny_bind (wpAny_seqItems hTI rfl ?_)
  show wpAny _ _ (Builtin.SmallTypes.ownedTupleIsFree (.ref z) >>= _) _ _ _
  refine wpAny_bind (free_not hz hT fun h₁ hz₁ hs₁ => ?_)
  simp only [Bool.false_eq_true, if_false]
  refine wpAny_bind ?_
  rw [← Array.forIn_toList]
  simp only [List.forIn_cons, List.forIn_nil]
  refine wpAny_bind (wpAny_bind (wpAny_holding ?_))
  show wpAny _ _ (Builtin.SmallTypes.nextOf (.ref i1) >>= _) _ _ _
  cases hx : xs[k1]? with
  | none =>
    exact wpAny_bind (wpAny_nextOf_list_end hh (h1.extBut hs₁.extBut D.i1z) (hl1.extBut hs₁.extBut D.l1z) hx fun h₂ e hs₂ he => hE h₂ e (fun c o c1 c2 _ q => hs₂ _ _ c2 (hs₁.extBut _ _ c1 q)) he)
  | some x =>
    have hy : ys[k2]? = none := by rcases hend with h | h; rw [hx] at h; cases h; exact h
    refine wpAny_bind (wpAny_nextOf_list_item (h1.extBut hs₁.extBut D.i1z) (hl1.extBut hs₁.extBut D.l1z) hx fun h₂ h1₂ hs₂ => wpAny_pure (wpAny_pure ?_))
    refine wpAny_bind (wpAny_bind (wpAny_holding ?_))
    show wpAny _ _ (Builtin.SmallTypes.nextOf (.ref i2) >>= _) _ _ _
    exact wpAny_bind (wpAny_nextOf_list_end hh ((h2.extBut hs₁.extBut D.i2z).extBut hs₂.extBut D.i12.symm) ((hl2.extBut hs₁.extBut D.l2z).extBut hs₂.extBut D.l2i1) hy fun h₃ e hs₃ he => hE h₃ e (fun c o c1 c2 c3 q => hs₃ _ _ c3 (hs₂.extBut _ _ c2 (hs₁.extBut _ _ c1 q))) he)
theorem pyNext_more {z TI TO i1 i2 l1 l2 T : Addr} {k1 k2 : Nat} {bb : Bool} {xs ys : Array Value} {x y : Value} {Q : Option Value → Shared → Prop} (D : ZipApart z TI TO i1 i2 l1 l2)
    (hz : IsZipB s.heap z TI TO T bb) (hT : ∃ o, s.heap.get? T = some o) (hTI : IsPair s.heap TI (.ref i1) (.ref i2))
    (h1 : s.heap.IsListIter i1 l1 k1) (h2 : s.heap.IsListIter i2 l2 k2) (hl1 : s.heap.IsList l1 xs) (hl2 : s.heap.IsList l2 ys) (hx : xs[k1]? = some x) (hy : ys[k2]? = some y)
    (hQ : ∀ h', IsZipB h' z TI TO T true → h'.IsListIter i1 l1 (k1 + 1) → h'.IsListIter i2 l2 (k2 + 1) → IsPair h' s.heap.objs.size x y → h'.objs.size = s.heap.objs.size + 1 →
      (∀ c o, c ≠ z → c ≠ i1 → c ≠ i2 → s.heap.get? c = some o → h'.get? c = some o) → Q (some (.ref s.heap.objs.size)) { s with heap := h' }) :
    wpAny (model prog w) A (pyNext (.ref z)) Q E s := by
  have hTy : s.TypeIs (.ref z) "zip" := ⟨_, hz, rfl⟩
  unfold pyNext
  exact wpAny_bind (wpAny_attempt (wpAny_callSpecial?_slot (name := Str.ofString "__next__") hTy F.slot_zip_next
    (wpAny_call_entry F.slot_zip_next hTy F.entry_zip_next
      (zip_next_more D hz hT hTI h1 h2 hl1 hl2 hx hy fun h' a1 a2 a3 a4 a5 a6 => wpAny_pure (hQ h' a1 a2 a3 a4 a5 a6)) (F.args_zip_next_1 _))))
theorem pyNext_over {z TI TO i1 i2 l1 l2 T : Addr} {k1 k2 : Nat} {bb : Bool} {xs ys : Array Value} {Q : Option Value → Shared → Prop} (hh : A.handled = none) (D : ZipApart z TI TO i1 i2 l1 l2)
    (hz : IsZipB s.heap z TI TO T bb) (hT : ∃ o, s.heap.get? T = some o) (hTI : IsPair s.heap TI (.ref i1) (.ref i2))
    (h1 : s.heap.IsListIter i1 l1 k1) (h2 : s.heap.IsListIter i2 l2 k2) (hl1 : s.heap.IsList l1 xs) (hl2 : s.heap.IsList l2 ys) (hend : xs[k1]? = none ∨ ys[k2]? = none)
    (hQ : ∀ h', (∀ c o, c ≠ z → c ≠ i1 → c ≠ i2 → s.heap.get? c = some o → h'.get? c = some o) → Q none { s with heap := h' }) : wpAny (model prog w) A (pyNext (.ref z)) Q E s := by
  have hTy : s.TypeIs (.ref z) "zip" := ⟨_, hz, rfl⟩
  unfold pyNext
  refine wpAny_bind (wpAny_attempt (wpAny_callSpecial?_slot (name := Str.ofString "__next__") hTy F.slot_zip_next
    (wpAny_call_entry F.slot_zip_next hTy F.entry_zip_next (zip_next_over hh D hz hT hTI h1 h2 hl1 hl2 hend fun h' e hk he => ?_) (F.args_zip_next_1 _))))
  obtain ⟨o, ho, hc⟩ := he
  refine wpAny_bind (wpAny_isInstance (T := "StopIteration") (b := true) ⟨o, ho, hc⟩ isSubtype_stop ?_)
  exact wpAny_pure (hQ _ hk)
end
/-- the list that grows -/
noncomputable def lzItems (S i : Nat) : Array Value := ((List.range i).map fun j => Value.ref ((S + 1 + j : Nat) : Addr)).toArray
theorem lzItems_succ (S i : Nat) : (lzItems S i).push (.ref ((S + 1 + i : Nat) : Addr)) = lzItems S (i + 1) := by
  unfold lzItems
  rw [List.range_succ, List.map_append]
  simp
theorem lzItems_size (S i : Nat) : (lzItems S i).size = i := by unfold lzItems; simp
/-- what is there at last -/
structure LzFin (h0 h : Heap) (S : Nat) (ch : List Addr) (xs ys : Array Value) (n : Nat) : Prop where
  lst : ∃ c, h.get? S = some { cls := .type "list", dict := none, data := .seq (lzItems S n) c, slots := #[] }
  tup : ∀ j, j < n → ∃ x y, xs[j]? = some x ∧ ys[j]? = some y ∧ IsPair h ((S + 1 + j : Nat) : Addr) x y
  kept : ∀ c o, c ∉ ch → h0.get? c = some o → h.get? c = some o
structure LzSt (h0 h : Heap) (S : Nat) (z TI TO i1 i2 l1 l2 : Addr) (xs ys : Array Value) (i : Nat) : Prop extends LzFin h0 h S [z, TO, i1, i2] xs ys i where
  size : h.objs.size = S + 1 + i
  zip : (i = 0 ∧ IsZip h z TI TO .none) ∨ (0 < i ∧ ∃ T b, (∃ o, h.get? T = some o) ∧ IsZipB h z TI TO T b ∧ S < (T : Nat))
  ti : IsPair h TI (.ref i1) (.ref i2)
  to : ∃ a b, IsPair h TO a b
  it1 : h.IsListIter i1 l1 i
  it2 : h.IsListIter i2 l2 i
  ls1 : h.IsList l1 xs
  ls2 : h.IsList l2 ys
section
variable {prog : Program} {w : World} {A : Around} {R : Result → Shared → Prop}
theorem lz_loop (hh : A.in1.handled = none) {h0 : Heap} {S : Nat} {z TI TO i1 i2 l1 l2 : Addr} (D : ZipApart z TI TO i1 i2 l1 l2) (hlt : ∀ a ∈ [z, TI, TO, i1, i2, l1, l2], (a : Nat) < S) (h0S : h0.get? S = none)
    {xs ys : Array Value} {n : Nat} (hn : n ≤ 1000) (hx : ∀ i, i < n → ∃ x y, xs[i]? = some x ∧ ys[i]? = some y) (hend : xs[n]? = none ∨ ys[n]? = none) (res : Value) :
    ∀ (k i : Nat) (s : Shared), n - i = k → i ≤ n → LzSt h0 s.heap S z TI TO i1 i2 l1 l2 xs ys i →
    (∀ h', LzFin h0 h' S [z, TO, i1, i2] xs ys n → R (.ok (.ret res)) { s with heap := h' }) →
    codeAny (model prog w) A (.builtin "list.extend.loop" ⟨[.ref S, .ref z, res], []⟩) R s := by
  have neS : ∀ a ∈ [z, TI, TO, i1, i2, l1, l2], ∀ j : Nat, S ≤ j → (j : Addr) ≠ a := fun a ha j hj => Nat.ne_of_gt (Nat.lt_of_lt_of_le (hlt a ha) hj)
  have neN : ∀ j : Nat, S ≤ j → (j : Addr) ≠ z ∧ (j : Addr) ≠ TO ∧ (j : Addr) ≠ i1 ∧ (j : Addr) ≠ i2 := fun j hj => ⟨neS z (by simp) j hj, neS TO (by simp) j hj, neS i1 (by simp) j hj, neS i2 (by simp) j hj⟩
  -- what a step that leaves all but four as they are keeps
  have fin : ∀ {g h' : Heap} {i : Nat}, LzFin h0 g S [z, TO, i1, i2] xs ys i → (∀ c o, c ≠ z → c ≠ TO → c ≠ i1 → c ≠ i2 → g.get? c = some o → h'.get? c = some o) → LzFin h0 h' S [z, TO, i1, i2] xs ys i := fun {g h' i} st hk => by
    obtain ⟨c, hl⟩ := st.lst
    obtain ⟨n1, n2, n3, n4⟩ := neN S (Nat.le_refl _)
    refine ⟨⟨c, hk S _ n1 n2 n3 n4 hl⟩, fun j hj => ?_, fun c' o hc e => ?_⟩
    · obtain ⟨x, y, e1, e2, e3⟩ := st.tup j hj
      obtain ⟨n1, n2, n3, n4⟩ := neN (S + 1 + j) (by omega)
      exact ⟨x, y, e1, e2, hk _ _ n1 n2 n3 n4 e3⟩
    · have hc' := hc
      simp only [List.mem_cons, List.mem_nil_iff, or_false, not_or] at hc'
      exact hk c' o hc'.1 hc'.2.1 hc'.2.2.1 hc'.2.2.2 (st.kept c' o hc e)
  intro k
  induction k with
  | zero =>
    intro i s hk hi st hR
    have hin : i = n := by omega
    subst hin
    refine codeAny_builtin F.entry_extend_loop ?_
    rw [Around.under_plainId F.plain_extend_loop _]
    show wpAny _ A.in1 (pyNext (.ref z) >>= _) _ _ s
    obtain ⟨a, b, hTO⟩ := st.to
    refine wpAny_bind ?_
    rcases st.zip with ⟨e0, g⟩ | ⟨e0, T, bb, ⟨oT, hT⟩, g, _⟩
    · exact wpAny_pyNext_zip_end hh D g st.ti hTO st.it1 st.it2 st.ls1 st.ls2 hend fun h' hk => wpAny_pure (hR h' (fin st.toLzFin hk))
    · exact pyNext_over hh D g ⟨oT, hT⟩ st.ti st.it1 st.it2 st.ls1 st.ls2 hend fun h' hk => wpAny_pure (hR h' (fin st.toLzFin fun c o c1 c2 c3 c4 e => hk c o c1 c3 c4 e))
  | succ k ih =>
    intro i s hk hi st hR
    have hlt' : i < n := by omega
    refine codeAny_builtin F.entry_extend_loop ?_
    rw [Around.under_plainId F.plain_extend_loop _]
    show wpAny _ A.in1 (pyNext (.ref z) >>= _) _ _ s
    obtain ⟨a, b, hTO⟩ := st.to
    obtain ⟨x, y, hx1, hy1⟩ := hx i hlt'
    -- both ways end so
    have both : ∀ h', (((0 < i + 1) ∧ ∃ T b, (∃ o, h'.get? T = some o) ∧ IsZipB h' z TI TO T b ∧ S < (T : Nat))) → (∃ a b, IsPair h' TO a b) → h'.IsListIter i1 l1 (i + 1) → h'.IsListIter i2 l2 (i + 1) → IsPair h' s.heap.objs.size x y → h'.objs.size = s.heap.objs.size + 1 →
        (∀ c o, c ≠ z → c ≠ TO → c ≠ i1 → c ≠ i2 → s.heap.get? c = some o → h'.get? c = some o) →
        wpAny (model prog w) A.in1 (Builtin.List.listUpdate (.ref S) (·.push (.ref s.heap.objs.size)) >>= fun _ => again (.builtin "list.extend.loop" ⟨[.ref S, .ref z, res], []⟩))
          (fun fin s' => match fin with | .done f => R (.ok f) s' | .again c' => c'.quiet = true ∧ codeAny (model prog w) A c' R s') (fun e s' => R (.error e) s') { s with heap := h' } := by
      intro h' hz hTO' g1 g2 gp gs hk'
      have F1 := fin st.toLzFin hk'
      obtain ⟨c, hl⟩ := F1.lst
      rw [st.size] at gp gs ⊢
      show wpAny _ A.in1 (updateSeq S (·.push (.ref ((S + 1 + i : Nat) : Addr))) >>= _) _ _ _
      refine wpAny_bind (wpAny_updateSeq hl rfl (wpAny_pure ⟨plainId_quiet F.plain_extend_loop _, ih (i + 1) _ (by omega) hlt' ?_ fun h'' f => hR h'' f⟩) (by rw [lzItems_size]; exact Nat.le_of_lt (small1000 (by omega))) (by show ((lzItems S i).push _).size ≤ sizeLine + 1; rw [Array.size_push, lzItems_size]; have := small1000 (n := i) (by omega); omega))
      have self := Heap.get?_update_self (Obj.mapSeq (·.push (Value.ref ((S + 1 + i : Nat) : Addr)))) hl rfl
      have oth : ∀ b o, b ≠ (S : Addr) → h'.get? b = some o → (h'.update S (Obj.mapSeq (·.push (Value.ref ((S + 1 + i : Nat) : Addr))))).get? b = some o := fun b o hb e => (Heap.get?_update_other _ _ (Ne.symm hb)).trans e
      have ol : ∀ a ∈ [z, TI, TO, i1, i2, l1, l2], ∀ o, h'.get? a = some o → (h'.update S (Obj.mapSeq (·.push (Value.ref ((S + 1 + i : Nat) : Addr))))).get? a = some o := fun a ha o e => oth a o (neS a ha S (Nat.le_refl _)).symm e
      obtain ⟨q0, T, bb, ⟨oT, hT⟩, hzb, hTS⟩ := hz
      obtain ⟨a', b', hTO'⟩ := hTO'
      have self2 : ∃ c2, (h'.update S (Obj.mapSeq (·.push (Value.ref ((S + 1 + i : Nat) : Addr))))).get? S = some { cls := .type "list", dict := none, data := .seq ((lzItems S i).push (.ref ((S + 1 + i : Nat) : Addr))) c2, slots := #[] } := ⟨_, self⟩
      rw [lzItems_succ] at self2
      refine ⟨⟨self2, fun j hj => ?_, fun c' o hc e => ?_⟩, ?_, .inr ⟨q0, T, bb, ⟨oT, oth T oT (Nat.ne_of_gt hTS) hT⟩, ol z (by simp) _ hzb, hTS⟩, ol TI (by simp) _ (hk' TI _ D.TIz D.TITO D.TIi1 D.TIi2 st.ti), ⟨a', b', ol TO (by simp) _ hTO'⟩, g1.at fun o e => ol i1 (by simp) o e, g2.at fun o e => ol i2 (by simp) o e, ?_, ?_⟩
      · by_cases q : j < i
        · obtain ⟨x', y', e1, e2, e3⟩ := F1.tup j q
          exact ⟨x', y', e1, e2, oth _ _ (Nat.ne_of_gt (by omega)) e3⟩
        · have : j = i := by omega
          subst this
          exact ⟨x, y, hx1, hy1, oth _ _ (Nat.ne_of_gt (by omega)) gp⟩
      · by_cases q : c' = (S : Addr)
        · rw [q, h0S] at e; cases e
        · exact oth c' o q (F1.kept c' o hc e)
      · rw [Heap.size_update, gs]
        omega
      · exact st.ls1.at fun o e => ol l1 (by simp) o (hk' l1 o D.l1z D.l1TO D.l1i1 D.l1i2 e)
      · exact st.ls2.at fun o e => ol l2 (by simp) o (hk' l2 o D.l2z D.l2TO D.l2i1 D.l2i2 e)
    refine wpAny_bind ?_
    rcases st.zip with ⟨e0, g⟩ | ⟨e0, T, bb, ⟨oT, hT⟩, g, hTS⟩
    · refine wpAny_pyNext_zip_item D g st.ti hTO st.it1 st.it2 st.ls1 st.ls2 hx1 hy1 fun h' a1 a2 a3 a4 a5 a6 a7 => ?_
      exact both h' ⟨by omega, s.heap.objs.size, false, ⟨_, a5⟩, a1, by rw [st.size]; omega⟩ ⟨_, _, a2⟩ a3 a4 a5 a6 a7
    · refine pyNext_more D g ⟨oT, hT⟩ st.ti st.it1 st.it2 st.ls1 st.ls2 hx1 hy1 fun h' a1 a3 a4 a5 a6 a7 => ?_
      obtain ⟨nz, nTO, n1, n2⟩ : T ≠ z ∧ T ≠ TO ∧ T ≠ i1 ∧ T ≠ i2 := neN T (Nat.le_of_lt hTS)
      exact both h' ⟨by omega, T, true, ⟨_, a7 T _ nz n1 n2 hT⟩, a1, hTS⟩ ⟨a, b, a7 TO _ D.TOz D.TOi1 D.TOi2 hTO⟩ a3 a4 a5 a6 fun c o c1 c2 c3 c4 e => a7 c o c1 c3 c4 e

theorem lz_extend {s : Shared} (hh : A.in1.handled = none) {h0 : Heap} {S : Nat} {z TI TO i1 i2 l1 l2 : Addr} (D : ZipApart z TI TO i1 i2 l1 l2) (hlt : ∀ a ∈ [z, TI, TO, i1, i2, l1, l2], (a : Nat) < S) (h0S : h0.get? S = none)
    {xs ys : Array Value} {n : Nat} (hn : n ≤ 1000) (hx : ∀ i, i < n → ∃ x y, xs[i]? = some x ∧ ys[i]? = some y) (hend : xs[n]? = none ∨ ys[n]? = none) (res : Value) {c₀ : Nat}
    (hS : s.heap.get? S = some { cls := .type "list", data := .seq #[] c₀ }) (hsz : s.heap.objs.size = S + 1) (g : IsZip s.heap z TI TO .none) (gTI : IsPair s.heap TI (.ref i1) (.ref i2)) (gTO : ∃ a b, IsPair s.heap TO a b)
    (g1 : s.heap.IsListIter i1 l1 0) (g2 : s.heap.IsListIter i2 l2 0) (gl1 : s.heap.IsList l1 xs) (gl2 : s.heap.IsList l2 ys) (kp : ∀ c o, c ∉ [z, TO, i1, i2] → h0.get? c = some o → s.heap.get? c = some o)
    (hR : ∀ h', LzFin h0 h' S [z, TO, i1, i2] xs ys n → R (.ok (.ret res)) { s with heap := h' }) :
    wpAny (model prog w) A.in1 (Builtin.List.listExtendWith (.ref S) (.ref z) res)
      (fun fin s' => match fin with | .done f => R (.ok f) s' | .again c' => c'.quiet = true ∧ codeAny (model prog w) A c' R s') (fun e s' => R (.error e) s') s := by
  have hSz : (S : Addr) ≠ z := Nat.ne_of_gt (hlt z (by simp))
  have hT : s.TypeIs (.ref z) "zip" := ⟨_, g, rfl⟩
  unfold Builtin.List.listExtendWith
  refine wpAny_bind (wpAny_typeOf hT ?_)
  have h1 : Builtin.List.listSameRef (.ref S) (.ref z) = false := by simp [Builtin.List.listSameRef, hSz]
  have h2 : (Value.type "zip" == Value.type "list") = false := by decide
  have h3 : (Value.type "zip" == Value.type "tuple") = false := by decide
  simp only [h1, h2, h3, Bool.or_false, Bool.false_eq_true, if_false]
  refine wpAny_bind (wpAny_pyIter_zip g ?_)
  refine wpAny_bind (wpAny_holding ?_)
  unfold Builtin.List.listLengthHint
  refine wpAny_bind (wpAny_specialOf hT zip_no_len ?_)
  show wpAny _ A.in1 (specialOf (Value.ref z) (Str.ofString "__length_hint__") >>= _) _ _ _
  refine wpAny_bind (wpAny_specialOf hT zip_no_hint ?_)
  refine wpAny_pure ?_
  show wpAny _ A.in1 (rule "list.extend.makes-room" >>= fun _ => Builtin.List.listTouch (.ref S) >>= fun _ =>
    again (.builtin "list.extend.loop" ⟨[.ref S, .ref z, res], []⟩)) _ _ _
  refine wpAny_bind (wpAny_rule ?_)
  refine wpAny_bind ?_
  show wpAny _ A.in1 (updateSeq S (·.push .none) >>= fun _ => updateSeq S (·.pop)) _ _ _
  refine wpAny_bind (wpAny_updateSeq hS rfl ?_)
  have hS₂ := Heap.get?_update_self (Obj.mapSeq (·.push Value.none)) hS rfl
  refine wpAny_updateSeq (hz := by seq_fits) hS₂ rfl ?_
  have hS₃ := Heap.get?_update_self (Obj.mapSeq (·.pop)) hS₂ rfl
  have oth : ∀ b o, b ≠ (S : Addr) → s.heap.get? b = some o → ((s.heap.update S (Obj.mapSeq (·.push Value.none))).update S (Obj.mapSeq (·.pop))).get? b = some o :=
    fun b o hb e => (Heap.get?_update_other _ _ (Ne.symm hb)).trans ((Heap.get?_update_other _ _ (Ne.symm hb)).trans e)
  have ol : ∀ a ∈ [z, TI, TO, i1, i2, l1, l2], ∀ o, s.heap.get? a = some o → ((s.heap.update S (Obj.mapSeq (·.push Value.none))).update S (Obj.mapSeq (·.pop))).get? a = some o := fun a ha o e => oth a o (Nat.ne_of_lt (hlt a ha)) e
  obtain ⟨a', b', gTO⟩ := gTO
  refine wpAny_pure ⟨plainId_quiet F.plain_extend_loop _, lz_loop hh D hlt h0S hn hx hend res n 0 _ rfl (Nat.zero_le _) ⟨⟨⟨_, hS₃⟩, fun j hj => absurd hj (Nat.not_lt_zero _), fun c o hc e => ?_⟩, ?_, .inl ⟨rfl, ol z (by simp) _ g⟩, ol TI (by simp) _ gTI, ⟨a', b', ol TO (by simp) _ gTO⟩, g1.at fun o e => ol i1 (by simp) o e, g2.at fun o e => ol i2 (by simp) o e, gl1.at fun o e => ol l1 (by simp) o e, gl2.at fun o e => ol l2 (by simp) o e⟩ hR⟩
  · by_cases q : c = (S : Addr)
    · rw [q, h0S] at e; cases e
    · exact oth c o q (kp c o hc e)
  · rw [Heap.size_update, Heap.size_update, hsz]
theorem lz_init {s : Shared} (hh : A.in1.handled = none) {h0 : Heap} {S : Nat} {z TI TO i1 i2 l1 l2 : Addr} (D : ZipApart z TI TO i1 i2 l1 l2) (hlt : ∀ a ∈ [z, TI, TO, i1, i2, l1, l2], (a : Nat) < S) (h0S : h0.get? S = none)
    {xs ys : Array Value} {n : Nat} (hn : n ≤ 1000) (hx : ∀ i, i < n → ∃ x y, xs[i]? = some x ∧ ys[i]? = some y) (hend : xs[n]? = none ∨ ys[n]? = none)
    (hS : s.heap.get? S = some { cls := .type "list", data := .seq #[] }) (hsz : s.heap.objs.size = S + 1) (g : IsZip s.heap z TI TO .none) (gTI : IsPair s.heap TI (.ref i1) (.ref i2)) (gTO : ∃ a b, IsPair s.heap TO a b)
    (g1 : s.heap.IsListIter i1 l1 0) (g2 : s.heap.IsListIter i2 l2 0) (gl1 : s.heap.IsList l1 xs) (gl2 : s.heap.IsList l2 ys) (kp : ∀ c o, c ∉ [z, TO, i1, i2] → h0.get? c = some o → s.heap.get? c = some o)
    (hR : ∀ h', LzFin h0 h' S [z, TO, i1, i2] xs ys n → R (.ok (.ret .none)) { s with heap := h' }) :
    wpAny (model prog w) A.in1 (Builtin.«list.__init__» ⟨[.ref S, .ref z], []⟩)
      (fun fin s' => match fin with | .done f => R (.ok f) s' | .again c' => c'.quiet = true ∧ codeAny (model prog w) A c' R s') (fun e s' => R (.error e) s') s := by
  show wpAny _ A.in1 (do let old ← Builtin.List.listItems (.ref S); Builtin.List.listUpdate (.ref S) (fun _ => #[]); letGo old.toList.reverse; Builtin.List.listExtendWith (.ref S) (.ref z) .none) _ _ s
  refine wpAny_bind ?_
  unfold Builtin.List.listItems
  refine wpAny_bind (wpAny_seqItems hS rfl (wpAny_pure ?_))
  show wpAny _ A.in1 (updateSeq S (fun _ => #[]) >>= fun _ => letGo (#[] : Array Value).toList.reverse >>= fun _ => Builtin.List.listExtendWith (.ref S) (.ref z) .none) _ _ s
  refine wpAny_bind (wpAny_updateSeq hS rfl ?_)
  have hS₂ := Heap.get?_update_self (Obj.mapSeq (fun _ => (#[] : Array Value))) hS rfl
  have oth : ∀ b o, b ≠ (S : Addr) → s.heap.get? b = some o → (s.heap.update S (Obj.mapSeq (fun _ => (#[] : Array Value)))).get? b = some o :=
    fun b o hb e => (Heap.get?_update_other _ _ (Ne.symm hb)).trans e
  have ol : ∀ a ∈ [z, TI, TO, i1, i2, l1, l2], ∀ o, s.heap.get? a = some o → (s.heap.update S (Obj.mapSeq (fun _ => (#[] : Array Value)))).get? a = some o := fun a ha o e => oth a o (Nat.ne_of_lt (hlt a ha)) e
  obtain ⟨a', b', gTO⟩ := gTO
  refine wpAny_bind (wpAny_letGo ?_)
  refine lz_extend hh D hlt h0S hn hx hend .none hS₂ (by rw [Heap.size_update, hsz]) (ol z (by simp) _ g) (ol TI (by simp) _ gTI) ⟨a', b', ol TO (by simp) _ gTO⟩ (g1.at fun o e => ol i1 (by simp) o e) (g2.at fun o e => ol i2 (by simp) o e) (gl1.at fun o e => ol l1 (by simp) o e) (gl2.at fun o e => ol l2 (by simp) o e) (fun c o hc e => ?_) hR
  by_cases q : c = (S : Addr)
  · rw [q, h0S] at e; cases e
  · exact oth c o q (kp c o hc e)
end
theorem call_list_zip {prog : Program} {w : World} {A : Around} {E : Value → Shared → Prop} {s : Shared} {Q : Value → Shared → Prop} (hh : A.in1.in1.handled = none) {z TI TO i1 i2 l1 l2 : Addr} (D : ZipApart z TI TO i1 i2 l1 l2)
    {xs ys : Array Value} {n : Nat} (hn : n ≤ 1000) (hx : ∀ i, i < n → ∃ x y, xs[i]? = some x ∧ ys[i]? = some y) (hend : xs[n]? = none ∨ ys[n]? = none)
    (g : IsZip s.heap z TI TO .none) (gTI : IsPair s.heap TI (.ref i1) (.ref i2)) (gTO : ∃ a b, IsPair s.heap TO a b)
    (g1 : s.heap.IsListIter i1 l1 0) (g2 : s.heap.IsListIter i2 l2 0) (gl1 : s.heap.IsList l1 xs) (gl2 : s.heap.IsList l2 ys)
    (hQ : ∀ h', LzFin s.heap h' s.heap.objs.size [z, TO, i1, i2] xs ys n → Q (.ref s.heap.objs.size) { s with heap := h' }) :
    wpAny (model prog w) A (call (.type "list") [.ref z]) Q E s := by
  refine callType_codes (Q₁ := fun obj s₁ => obj = .ref s.heap.objs.size ∧ s₁ = { s with heap := s.heap.push { cls := .type "list", data := .seq #[] } }) F.called_list (F.typeCall_list_1 _) F.entry_list_init
    (code_list_new _ ⟨rfl, rfl⟩) fun obj s₁ h₁ => ?_
  obtain ⟨rfl, rfl⟩ := h₁
  have hS : (s.heap.push { cls := .type "list", data := .seq #[] }).get? s.heap.objs.size = some { cls := .type "list", data := .seq #[] } := Heap.get?_push_size _ rfl
  have hlt : ∀ a ∈ [z, TI, TO, i1, i2, l1, l2], (a : Nat) < s.heap.objs.size := fun a ha => by
    obtain ⟨a', b', gTO⟩ := gTO
    simp only [List.mem_cons, List.mem_nil_iff, or_false] at ha
    rcases ha with rfl | rfl | rfl | rfl | rfl | rfl | rfl
    · exact Heap.lt_size g
    · exact Heap.lt_size gTI
    · exact Heap.lt_size gTO
    · obtain ⟨_, e, _⟩ := g1; exact Heap.lt_size e
    · obtain ⟨_, e, _⟩ := g2; exact Heap.lt_size e
    · obtain ⟨_, e, _⟩ := gl1; exact Heap.lt_size e
    · obtain ⟨_, e, _⟩ := gl2; exact Heap.lt_size e
  have h0S : s.heap.get? s.heap.objs.size = none := by
    cases e : s.heap.get? s.heap.objs.size with
    | none => rfl
    | some o => exact absurd (Heap.lt_size e) (Nat.lt_irrefl _)
  obtain ⟨a', b', gTO⟩ := gTO
  have up : ∀ {c : Addr} {o : Obj}, s.heap.get? c = some o → (s.heap.push { cls := .type "list", data := .seq #[] }).get? c = some o := fun e => Heap.get?_push_of_some _ e
  refine ⟨⟨_, hS, rfl⟩, F.args_list_init_2 _ _, lz_init hh D hlt h0S hn hx hend hS (Heap.size_push ..) (up g) (up gTI) ⟨a', b', up gTO⟩ (g1.at fun o e => up e) (g2.at fun o e => up e) (gl1.at fun o e => up e) (gl2.at fun o e => up e) (fun c o _ e => up e) fun h' f => ⟨rfl, hQ h' f⟩⟩

/-! ### the rule -/
theorem paired_get {α β : Type} {F : α → β → Prop} : ∀ {l : List α} {m : List β}, l.length = m.length → (∀ (i : Nat) a b, l[i]? = some a → m[i]? = some b → F a b) → Paired F l m
  | [], [], _, _ => .nil
  | [], b :: m, h, _ => by simp at h
  | a :: l, [], h, _ => by simp at h
  | a :: l, b :: m, h, k => .cons (k 0 a b rfl rfl) (paired_get (by simpa using h) fun i x y e1 e2 => k (i + 1) x y (by simpa using e1) (by simpa using e2))
theorem paired_map {α β γ : Type} {F : β → γ → Prop} {f : α → β} {g : α → γ} (h : ∀ a, F (f a) (g a)) : ∀ l : List α, Paired F (l.map f) (l.map g)
  | [] => .nil
  | a :: l => .cons (h a) (paired_map h l)
noncomputable def lzH (H : Hp) (S n : Nat) (xs ys : List V) : Hp := fun a => if (a : Nat) < S then H a else if (a : Nat) = S then some (.lst ((List.range n).map fun j => V.ref ((S + 1 + j : Nat) : Addr))) else if (a : Nat) ≤ S + n then some (.tup [xs.getD ((a : Nat) - S - 1) .non, ys.getD ((a : Nat) - S - 1) .non]) else H a
theorem lzH_old {H : Hp} {S n : Nat} {xs ys : List V} {a : Addr} (h : (a : Nat) < S) : lzH H S n xs ys a = H a := if_pos h
theorem lzH_lst {H : Hp} {S n : Nat} {xs ys : List V} : lzH H S n xs ys S = some (.lst ((List.range n).map fun j => V.ref ((S + 1 + j : Nat) : Addr))) := by
  unfold lzH
  rw [if_neg (Nat.lt_irrefl _), if_pos rfl]
theorem lzH_tup {H : Hp} {S n j : Nat} {xs ys : List V} (h : j < n) : lzH H S n xs ys ((S + 1 + j : Nat) : Addr) = some (.tup [xs.getD j .non, ys.getD j .non]) := by
  unfold lzH
  rw [if_neg (by show ¬ (S + 1 + j < S); omega), if_neg (by show ¬ (S + 1 + j = S); omega), if_pos (by show S + 1 + j ≤ S + n; omega)]
  have e : S + 1 + j - S - 1 = j := by omega
  show some (HO.tup [xs.getD (S + 1 + j - S - 1) .non, ys.getD (S + 1 + j - S - 1) .non]) = _
  rw [e]
noncomputable def lzP (H : Hp) (q : V × V) (v : V) : Prop := ∃ t, v = .ref t ∧ H t = some (.tup [q.1, q.2])
noncomputable def tLz (ta : TA) : TE := fun σ H Q => ta σ H fun vs H1 => ∃ a b xs ys, vs = [.ref a, .ref b] ∧ H1 a = some (.lst xs) ∧ H1 b = some (.lst ys) ∧ xs.length ≤ 1000 ∧
  ∀ l zs H', Same H1 H' → H' l = some (.lst zs) → Paired (lzP H') (xs.zip ys) zs → Q (.ref l) H'
theorem pe_lz {X : Cx} {a b : Expr} {ta : TA} {p1 p2 pos1 pos2 : Pos} (hc : X.calm = true) (hgL : Gl X "list") (hmL : X.mg "list" = none) (hgZ : Gl X "zip") (hmZ : X.mg "zip" = none) (ha : PA X [a, b] ta)
    (hs : starEach [a, b] X.env = (false, eval a X.env) :: starEach [b] X.env := by rfl) (hpl : (backTo pos2 (starEach [b] X.env)).any (·.1) = false := by rfl)
    (hs1 : starEach [.Call (.Name "zip" p2) [a, b] [] pos2] X.env = (false, eval (.Call (.Name "zip" p2) [a, b] [] pos2) X.env) :: starEach [] X.env := by rfl) (hpl1 : (backTo pos1 (starEach [] X.env)).any (·.1) = false := by rfl) :
    PE X (.Call (.Name "list" p1) [.Call (.Name "zip" p2) [a, b] [] pos2] [] pos1) (tLz ta) := by
  intro pins s σ H Q I h
  refine wpAny_Call_Name_kw (ld_blt I hgL hmL PyProof.Rows.boot_list ?_)
  refine PyProof.Rows.callWith_type1 ?_ hs1 hpl1
  rw [hs1]
  show wpAny _ _ (spliced ((false, eval (.Call (.Name "zip" p2) [a, b] [] pos2) X.env) :: backTo pos1 (starEach [] X.env))) _ _ s
  refine Calls.spliced_cons ?_
  refine Call_ (ld_blt I hgZ hmZ boot_zip (PyProof.Rows.callWith_type1 (thn (ha pos2 pins s σ H _ I h) fun us s1 ⟨vs, H1, I1, r1, q1⟩ => ?_) hs hpl))
  obtain ⟨c, d, xs, ys, rfl, ea, eb, hlen, q⟩ := q1
  obtain ⟨u, v, rfl, ru, rv⟩ := r1.two
  cases ru
  cases rv
  obtain ⟨its, r2, pp1, hz⟩ := I1.list (SqL.of (K := X.K) ea)
  obtain ⟨its2, r3, pp2, hz2⟩ := I1.list (SqL.of (K := X.K) eb)
  refine call_zip_2 pp1.isList pp2.isList fun h' gz gTI gTO g1 g2 gsz gk => ?_
  have I2 : Inv X pins σ H1 { s1 with heap := h' } := I1.kept (t' := s1.toks) gk
  refine Calls.spliced_nil ?_
  have l2 := r2.length
  have l3 := r3.length
  have e4 : ∀ k : Nat, s1.heap.objs.size ≤ (s1.heap.objs.size + k : Nat) := fun k => Nat.le_add_right _ _
  have fp : ∀ k : Nat, FpOk X pins H1 ((s1.heap.objs.size + k : Nat) : Addr) := fun k => I1.fpOk (e4 k) (I1.hok.fresh (e4 k))
  have fr : ∀ k : Nat, H1 ((s1.heap.objs.size + k : Nat) : Addr) = none := fun k => I1.hok.fresh (e4 k)
  have nw : ∀ k : Nat, c ≠ ((s1.heap.objs.size + k : Nat) : Addr) ∧ d ≠ ((s1.heap.objs.size + k : Nat) : Addr) := fun k => ⟨ne_of_none ea (fr k), ne_of_none eb (fr k)⟩
  have D : ZipApart (s1.heap.objs.size + 4) (s1.heap.objs.size + 2) (s1.heap.objs.size + 3) s1.heap.objs.size (s1.heap.objs.size + 1) c d :=
    ⟨addr_ne (by omega), addr_ne (by omega), addr_ne (by omega), addr_ne (by omega), addr_ne (by omega), addr_ne (by omega), addr_ne (by omega), addr_ne (by omega), addr_ne (by omega), addr_ne (by omega),
      (nw 4).1, (nw 3).1, (nw 0).1, (nw 1).1, (nw 4).2, (nw 3).2, (nw 0).2, (nw 1).2⟩
  have hd0 := I1.ok.hd hc
  refine call_list_zip (n := min its.length its2.length) hd0 D (by omega) (fun i hi => ⟨its[i]'(by omega), its2[i]'(by omega), by simp, by simp⟩) (by
    rcases Nat.le_total its.length its2.length with h | h
    · exact .inl (by simp; omega)
    · exact .inr (by simp; omega)) gz gTI ⟨_, _, gTO⟩ g1 g2 (pp1.isList.at fun o e => gk _ o e) (pp2.isList.at fun o e => gk _ o e) fun h2 f => ?_
  have hSS : (Shared.heap { s1 with heap := h' }).objs.size = s1.heap.objs.size + 5 := gsz
  rw [hSS] at f ⊢
  generalize hS : s1.heap.objs.size + 5 = S at *
  have old : ∀ a o, H1 a = some o → (a : Nat) < S := fun a o e => by
    rcases Nat.lt_or_ge (a : Nat) S with z | z
    · exact z
    · exact absurd (I1.hok.fresh (Nat.le_trans (by rw [← hS]; exact Nat.le_add_right _ _) z)) (by rw [e]; simp)
  have sm : Same H1 (lzH H1 S (min its.length its2.length) xs ys) := fun a o e => by rw [lzH_old (old a o e)]; exact e
  have chn : ∀ b ∈ [s1.heap.objs.size + 4, s1.heap.objs.size + 3, s1.heap.objs.size, s1.heap.objs.size + 1], FpOk X pins H1 b := fun b hb => by
    simp only [List.mem_cons, List.mem_nil_iff, or_false] at hb
    rcases hb with rfl | rfl | rfl | rfl
    · exact fp 4
    · exact fp 3
    · exact fp 0
    · exact fp 1
  have nch : ∀ a o, H1 a = some o → a ∉ [s1.heap.objs.size + 4, s1.heap.objs.size + 3, s1.heap.objs.size, s1.heap.objs.size + 1] := fun a o e hb => absurd (chn a hb).1 (by rw [e]; simp)
  obtain ⟨c', hl⟩ := f.lst
  have I3 : Inv X pins σ (lzH H1 S (min its.length its2.length) xs ys) { s1 with heap := h2 } := by
    refine Inv.step (s := { s1 with heap := h' }) (h' := h2) I2 (g' := s1.gens) (d' := s1.drawn) (t' := s1.toks) (ch := [s1.heap.objs.size + 4, s1.heap.objs.size + 3, s1.heap.objs.size, s1.heap.objs.size + 1]) (fun b hb => ?_) (fun b o _ _ hb q _ => f.kept b o hb q) (fun b o _ _ hb q _ => ⟨o.slots, f.kept b o hb q⟩)
      (fun b o hb q n => ?_) (fun b o hb q => ⟨o, f.kept b o hb q⟩) (fun b zs q => sm _ _ q) (fun b o u q => sm _ _ q) (fun b ps q => ⟨#[], by rw [sm _ _ q]; simp⟩) (fun m hm => ?_) (fun b o q => ?_) I2.bare
    · have := chn b hb
      exact ⟨this.2.2.2.1, this.2.1, this.2.2.2.2.1, this.2.2.2.2.2⟩
    · rw [lzH_old (by have := Heap.lt_size q; rw [hSS] at this; exact this)]; exact n
    · obtain ⟨o, es', ep, ho, r⟩ := hm
      exact ⟨o, es', ep, f.kept _ o (fun hb => absurd rfl (chn _ hb).2.1) ho, r⟩
    · unfold lzH at q
      split at q
      · rename_i hlt
        refine (I2.hok b o q).stay (fun e v hc' q2 => ?_) (fun e q2 => sm _ _ q2) fun e ys q2 => sm _ _ q2
        refine f.kept e v ?_ q2
        rcases hc' with rfl | hc'
        · exact nch _ _ q
        · exact nch _ _ hc'
      · split at q
        · rename_i _ heq
          have heq : b = (S : Addr) := heq
          subst heq
          cases q
          refine ⟨by rw [List.length_map, List.length_range]; exact Nat.le_of_lt (small1000 (by omega)), (List.range (min its.length its2.length)).map fun j => Value.ref ((b + 1 + j : Nat) : Addr), c', paired_map (F := RelV) (fun j => show RelV (V.ref _) (Value.ref _) from rfl) _, hl⟩
        · split at q
          · rename_i n1 n2 n3
            cases q
            have hb1 : S + 1 ≤ (b : Nat) := Nat.lt_of_le_of_ne (Nat.le_of_not_lt n1) (Ne.symm n2)
            obtain ⟨j, hj⟩ : ∃ j : Nat, (b : Nat) = S + 1 + j := ⟨Nat.sub b (S + 1), (Nat.add_sub_cancel' hb1).symm⟩
            have hj : b = ((S + 1 + j : Nat) : Addr) := hj
            subst hj
            have hjn : j < min its.length its2.length := by
              have n3 : S + 1 + j ≤ S + min its.length its2.length := n3
              omega
            have ej : S + 1 + j - S - 1 = j := by omega
            obtain ⟨x, y, e1, e2, e3⟩ := f.tup j hjn
            have gx : xs[j]? = some (xs.getD j .non) := by rw [List.getD_eq_getElem?_getD, List.getElem?_eq_getElem (by omega)]; rfl
            have gy : ys[j]? = some (ys.getD j .non) := by rw [List.getD_eq_getElem?_getD, List.getElem?_eq_getElem (by omega)]; rfl
            obtain ⟨u1, hu1, ru1⟩ := r2.get gx
            obtain ⟨u2, hu2, ru2⟩ := r3.get gy
            have ex : x = u1 := by
              have : its.toArray[j]? = its[j]? := by simp
              rw [this, hu1] at e1
              exact (Option.some.inj e1).symm
            have ey : y = u2 := by
              have : its2.toArray[j]? = its2[j]? := by simp
              rw [this, hu2] at e2
              exact (Option.some.inj e2).symm
            subst ex ey
            refine ⟨by show 2 ≤ sizeLine; decide, [x, y], ?_, ⟨_, e3, rfl, 0, rfl⟩⟩
            show Vals [xs.getD (S + 1 + j - S - 1) .non, ys.getD (S + 1 + j - S - 1) .non] [x, y]
            rw [ej]
            exact .cons ru1 (.cons ru2 .nil)
          · rename_i n1 n2 n3
            exact absurd (old b o q) n1
  refine ⟨.ref S, _, I3, rfl, q S _ _ sm lzH_lst ?_⟩
  refine paired_get (by rw [List.length_zip, List.length_map, List.length_range]; omega) fun i pq v e1 e2 => ?_
  have hi : i < min its.length its2.length := by
    have := (List.getElem?_eq_some_iff.mp e2).1
    rw [List.length_map, List.length_range] at this
    exact this
  rw [List.getElem?_map, List.getElem?_range hi] at e2
  have e2 : V.ref ((S + 1 + i : Nat) : Addr) = v := Option.some.inj e2
  subst e2
  refine ⟨_, rfl, ?_⟩
  rw [lzH_tup hi]
  rw [List.getElem?_zip_eq_some] at e1
  rw [List.getD_eq_getElem?_getD, List.getD_eq_getElem?_getD, e1.1, e1.2]
  rfl
end L2

set_option Elab.async false
set_option linter.all false
set_option maxRecDepth 100000
/-! any([..]) and all([..]) of a list of truths -/
namespace L2
open PySem PySem.Spec PyProof.Rows
theorem bools_are : ∀ {bs : List Bool} {us : List Value}, Vals (bs.map V.bl) us → LSm.BoolsAre us bs
  | [], _, .nil => .nil
  | b :: bs, _, .cons r t => by cases r; exact .cons b (bools_are t)
noncomputable def rAny (K : PySem.W.Frag) : List V → Hp → VK → Prop := fun xs H Q => ∃ (a : Addr) (bs : List Bool), xs = [.ref a] ∧ SqL K H a (bs.map V.bl) ∧ Q (.bl (bs.any id)) H
theorem call_any {X : Cx} {K : PySem.W.Frag} (hK : X.K = K) (hc : X.calm = true) : CallR X (.builtin "any") (rAny K) := by
  subst hK
  intro pins s σ H xs us Q I rv h
  obtain ⟨l, bs, rfl, hl, q⟩ := h
  obtain ⟨u, rfl, ru⟩ := vals1 rv
  cases ru
  obtain ⟨vs, r2, pl, hz⟩ := I.list hl
  have hb := bools_are r2
  have hL := pl.isList
  have hlt : l < s.heap.objs.size := by obtain ⟨_, e, _⟩ := hL; exact Heap.lt_size e
  refine call_any_walk (wpAny_pyIter_list hL ?_)
  refine ⟨s.heap.objs.size, [s.heap.objs.size, l], [s.heap.objs.size], vs.toArray.size, _, _, fun i => (bs[i]?).getD false, rfl, Walks.list (A := X.A.in1) (I.ok.hd hc) _ l (Nat.ne_of_lt hlt) vs.toArray,
    ⟨⟨_, Heap.get?_push_size _ rfl, rfl, rfl⟩, hL.push _⟩, fun i v s' Q' E' hP hQ => ?_, fun h' tk hk => ?_⟩
  · obtain ⟨b, e, rfl⟩ := hb.get i v (by simpa using hP)
    simp only [e, Option.getD_some] at hQ
    exact wpAny_truthy_bool hQ
  · have e : ((List.range vs.toArray.size).any fun i => (bs[i]?).getD false) = bs.any id := by
      rw [List.size_toArray, hb.length]; exact LSm.range_any bs
    rw [e]
    exact ⟨.bl _, _, I.kept (t' := tk) (LSm.kept_iter hk), rfl, q⟩
end L2

set_option Elab.async false
set_option linter.all false
set_option maxRecDepth 100000
/-! list(reversed(xs)) -/
namespace L2
open PySem PySem.Spec PyProof.Rows
section
variable {prog : Program} {w : World} {A : Around} {s : Shared} {R : Result → Shared → Prop}
end
end L2

set_option Elab.async false
set_option linter.all false
set_option maxRecDepth 100000
/-! Tables set below one another, and blocks cut out. -/
namespace GT
open PySem L2
/-- the list of a told table is a new one -/
noncomputable def FreshT (H H' : Hp) (v : V) : Prop := ∃ p x y l, v = .ref p ∧ H' p = some (.tup [x, y, .ref l]) ∧ H l = none
theorem FreshT.of {H H' : Hp} {p l : Addr} {x y : V} (h : H' p = some (.tup [x, y, .ref l])) (k : H l = none) : FreshT H H' (.ref p) := ⟨p, x, y, l, rfl, h, k⟩
structure Tab where
  R : Nat
  C : Nat
  cs : List Cell
noncomputable def Tab.D (t : Tab) : Dd := tabD t.R t.C t.cs
noncomputable def rowsL : List Tab → Nat
  | [] => 0
  | t :: ts => t.R + rowsL ts
/-! ### blocks -/
noncomputable def liesB (t l h w : Nat) (x : Cell) : Bool := decide (t ≤ x.top ∧ x.top + x.h ≤ t + h ∧ l ≤ x.left ∧ x.left + x.w ≤ l + w)
noncomputable def meetsB (t l h w : Nat) (x : Cell) : Bool := decide (x.top < t + h ∧ t < x.top + x.h ∧ x.left < l + w ∧ l < x.left + x.w)
noncomputable def upCell (t l : Nat) (x : Cell) : Cell := { x with top := x.top - t, left := x.left - l }
noncomputable def cutL (t l h w : Nat) (cs : List Cell) : List Cell := (cs.filter (liesB t l h w)).map (upCell t l)
theorem lies_iff {t l h w : Nat} {x : Cell} : liesB t l h w x = true ↔ t ≤ x.top ∧ x.top + x.h ≤ t + h ∧ l ≤ x.left ∧ x.left + x.w ≤ l + w := decide_eq_true_iff
theorem meets_iff {t l h w : Nat} {x : Cell} : meetsB t l h w x = true ↔ x.top < t + h ∧ t < x.top + x.h ∧ x.left < l + w ∧ l < x.left + x.w := decide_eq_true_iff
/-! ### two tables, cut out again -/
end GT

set_option Elab.async false
set_option linter.all false
set_option maxRecDepth 100000
/-! try: if c: f(..) else: g(..) except C: .. -/
namespace L2
open PySem PySem.Spec PyProof.Rows PySem.W
section
variable {X : Cx} {k1 k2 : Nat} {x1 x2 y : Str} {C L : Addr} {ps1 ps2 : List Str} {sp1 sp2 : Sp} {c e1 e2 : Expr} {es1 es2 : List Expr} {tc : TT} {t1 t2 : TA} {ts : TS} {env0 : List Env} {p1 p2 np pos1 pos2 epos1 epos2 ipos tpos hpos : Pos} {b0 : Stmt} {suite : List Stmt}
end
section
variable {X : Cx} {k1 k2 : Nat} {x1 x2 y n : Str} {C L : Addr} {ps1 ps2 : List Str} {sp1 sp2 : Sp} {c e1 e2 : Expr} {es1 es2 : List Expr} {tc : TT} {t1 t2 : TA} {env0 : List Env} {p1 p2 np pos1 pos2 epos1 epos2 ipos tpos hpos q1 q2 q3 q4 q5 : Pos} {i : Nat}
end
end L2

set_option Elab.async false
set_option linter.all false
set_option maxRecDepth 100000
/-! An exception of an own class whose `__init__` is a def of the class: made, raised. -/
namespace L2
open PySem PySem.Spec PyProof.Rows PySem.W
open Sem (wp)
section
variable {prog : Program} {w : World} {A : Around} {E : Value → Shared → Prop} {h : Heap} {g : Array GenState} {d : Drawn} {t : Nat} {os : OsState}
variable {nm q : Str} {C N : Addr} {bs bm bmB : List Value} {hdct : Bool} {sn : List Str} {sub : List Value} {ab : Bool} {col : Option Bool} {dd : Option Addr} {k0 k1 k2 k3 k5 : Option Value} {B newId initId : String}
/-- what `C(..)` has made before the class's own `__init__` runs -/
noncomputable def rawExc (h : Heap) (C : Addr) (us : List Value) : Heap := (h.push { cls := .type "tuple", data := .seq us.toArray }).push { cls := .ref C, data := .fields #[.ref h.objs.size, .none, .none, .none, .bool false, .none] }
theorem rawExc_keep {us : List Value} {b : Addr} {o : Obj} (e : h.get? b = some o) : (rawExc h C us).get? b = some o := Heap.get?_push_of_some _ (Heap.get?_push_of_some _ e)
theorem rawExc_at {us : List Value} : (rawExc h C us).get? (h.objs.size + 1) = some { cls := .ref C, data := .fields #[.ref h.objs.size, .none, .none, .none, .bool false, .none] } := by unfold rawExc; heap_get
theorem type_call_init (F : ExcBaseFacts B newId initId bmB) (T : OwnTail h bmB bm) {mN : Str → Option Value} {us : List Value} {fI : Addr} {oI : Obj} {Q : Fin → Shared → Prop}
    (hC : h.get? C = some (excClassObj nm q C N bs bm hdct sn sub ab col dd k0 k1 k2 k3 k5 newId)) (hn : h.Ns N mN) (hi : mN "__init__" = some (.ref fI)) (hf : h.get? fI = some oI) (hc : oI.cls = .type "function") (hl : us.length ≤ sizeLine)
    (k : wpAny (model prog w) A (call (.ref fI) (.ref (h.objs.size + 1) :: us)) (fun r s' => r = .none ∧ Q (.done (.ret (.ref (h.objs.size + 1)))) s') E ⟨rawExc h C us, g, d, t, os⟩) :
    wpAny (model prog w) A (Builtin.«type.__call__» ⟨.ref C :: us, []⟩) Q E ⟨h, g, d, t, os⟩ := by
  repeat (first | with_reducible refine wpAny_loadPart_at hC ?_ | with_reducible refine wpAny_madeBy_exc hC ?_ | wp_step)
  refine codeAny_call_builtin_code (Code.quiet_builtin _ F.quiet) (wpAny_check_new_subT F T hC ?_)
  refine codeAny_exc_new_subT F T hC ?_ hl
  show wpAny _ _ _ _ _ ⟨rawExc h C us, g, d, t, os⟩
  have hC1 := rawExc_keep (C := C) (us := us) hC
  have hn1 : (rawExc h C us).Ns N mN := hn.keeps fun b o e => rawExc_keep e
  have T1 := T.keeps fun b o e => rawExc_keep (C := C) (us := us) e
  have he := rawExc_at (h := h) (C := C) (us := us)
  have me : (Value.ref C :: bm).contains (.ref C) = true := by simp
  unfold isInstance
  repeat (first | with_reducible refine wpAny_loadPart_at he ?_ | (with_reducible refine wpAny_isSubtype_exc hC1 ?_; rw [me]) | wp_step)
  show wpAny _ _ (typeLookup (.ref C) _) _ _ _
  refine wpAny_typeLookup_tail hC1 hn1 T1 F.mroIs F.init.lookup ?_
  rw [hi]
  refine wpAny_holding (wpAny_bind ?_)
  unfold bindSpecial
  refine wpAny_bind (wpAny_typeOf (T := "function") ⟨_, rawExc_keep hf, hc⟩ ?_)
  rw [if_pos (by decide)]
  refine wpAny_pure (wpAny_bind (wpAny_mono k (fun r s' hr => ?_) fun _ _ x => x))
  obtain ⟨rfl, hQ⟩ := hr
  wp_walk
  exact hQ
theorem call_init (F : ExcBaseFacts B newId initId bmB) (T : OwnTail h bmB bm) {mN : Str → Option Value} {us : List Value} {fI : Addr} {oI : Obj} {Q : Value → Shared → Prop}
    (hC : h.get? C = some (excClassObj nm q C N bs bm hdct sn sub ab col dd k0 k1 k2 k3 k5 newId)) (hn : h.Ns N mN) (hi : mN "__init__" = some (.ref fI)) (hf : h.get? fI = some oI) (hc : oI.cls = .type "function") (hl : us.length ≤ sizeLine)
    (k : wpAny (model prog w) (A.under (.builtin "type.__call__" ⟨.ref C :: us, []⟩)) (call (.ref fI) (.ref (h.objs.size + 1) :: us)) (fun r s' => r = .none ∧ Q (.ref (h.objs.size + 1)) s') E ⟨rawExc h C us, g, d, t, os⟩) :
    wpAny (model prog w) A (call (.ref C) us) Q E ⟨h, g, d, t, os⟩ := by
  have f1 := tc_lookup
  have f2 := tc_bind (.ref C)
  have hT : (⟨h, g, d, t, os⟩ : Shared).TypeIs (.ref C) "type" := ⟨_, hC, rfl⟩
  refine wpAny_call (codeAny_of_tree ?_)
  show wpAny _ _ (callAny (.ref C) _) _ _ _
  repeat (any_goals (first | assumption | with_reducible refine wpAny_loadPart_at hC ?_ | wp_step))
  refine ⟨rfl, ?_⟩
  exact codeAny_call_builtin_at (Code.quiet_builtin _ (by decide +kernel)) entry_typeCall (wpAny_check_type_call_sub hC (type_call_init F T hC hn hi hf hc hl k))
end
section
variable {M : Model} {A : Around} {E : Value → Shared → Prop} {env : Env}
variable {nm q : Str} {C N : Addr} {bs bm : List Value} {hdct : Bool} {sn : List Str} {sub : List Value} {ab : Bool} {col : Option Bool} {dd : Option Addr} {k0 k1 k2 k3 k5 : Option Value} {newId : String}
/-- an exception with what its `__init__` gave it -/
noncomputable abbrev excObj (C : Addr) (dx : Option Addr) (a0 : Value) (sl : Array (Option Value)) : Obj := { cls := .ref C, dict := dx, data := .fields #[a0, .none, .none, .none, .bool false, .none], slots := sl }
/-- raise of an exception that has a dict of its own too -/
theorem raise_made {s : Shared} {x : Sem Value} {Q : Flow → Shared → Prop} (hbase : bm.contains (.type "BaseException") = true) (hh : A.handled = none)
    (h : wpAny M A x (fun v s1 => ∃ e dx a0 sl, v = .ref e ∧ s1.heap.get? C = some (excClassObj nm q C N bs bm hdct sn sub ab col dd k0 k1 k2 k3 k5 newId) ∧ s1.heap.get? e = some (excObj C dx a0 sl) ∧ E (.ref e) s1) E s) :
    wpAny M A (raiseStmt env (some x) none) Q E s := by
  have hcB : (Value.ref C :: bm).contains (.type "BaseException") = true := by rw [List.contains_cons, hbase, Bool.or_true]
  unfold raiseStmt
  refine wpAny_bind (wpAny_mono h (fun v s1 h1 => ?_) fun _ _ x => x)
  obtain ⟨e, dx, a0, sl, rfl, hC, he, hE⟩ := h1
  obtain ⟨hp, g, d, tk, os⟩ := s1
  repeat (first | with_reducible refine wpAny_loadPart_at he ?_ | with_reducible refine wpAny_loadPart_at hC ?_ | (with_reducible refine wpAny_isSubtype_exc hC ?_; rw [hcB]) | wp_step)
  exact wpAny_raiseNew_none hh hE
end
section
variable {prog : Program} {w : World} {A : Around} {E : Value → Shared → Prop} {s : Shared} {env : Env}
variable {nm q : Str} {C N : Addr} {bs bm bmB : List Value} {hdct : Bool} {sn : List Str} {sub : List Value} {ab : Bool} {col : Option Bool} {dd : Option Addr} {k0 k1 k2 k3 k5 : Option Value} {B newId initId : String}
/-- raise C(..), the class with an `__init__` of its own -/
theorem raise_init (F : ExcBaseFacts B newId initId bmB) {mN : Str → Option Value} {fI : Addr} {oI : Obj} {x : Str} {np cpos pos : Pos} {args : List Expr} {Q : Flow → Shared → Prop}
    (hbase : bm.contains (.type "BaseException") = true) (hh : A.handled = none) (hplain : (backTo cpos (starEach args env)).any (·.1) = false) (hi : mN "__init__" = some (.ref fI)) (hc : oI.cls = .type "function")
    (h : wpAny (model prog w) A (eval (.Name x np) env) (fun f s1 => f = .ref C ∧ wpAny (model prog w) A (evalArgs (.ref C) true (backTo cpos (starEach args env)) [])
      (fun a s2 => a.kw = [] ∧ a.pos.length ≤ sizeLine ∧ s2.heap.get? C = some (excClassObj nm q C N bs bm hdct sn sub ab col dd k0 k1 k2 k3 k5 newId) ∧ s2.heap.Ns N mN ∧ OwnTail s2.heap bmB bm ∧ s2.heap.get? fI = some oI ∧
        wpAny (model prog w) (A.under (.builtin "type.__call__" ⟨.ref C :: a.pos, []⟩)) (call (.ref fI) (.ref (s2.heap.objs.size + 1) :: a.pos))
          (fun r s3 => r = .none ∧ s3.heap.get? C = some (excClassObj nm q C N bs bm hdct sn sub ab col dd k0 k1 k2 k3 k5 newId) ∧ (∃ dx a0 sl, s3.heap.get? (s2.heap.objs.size + 1) = some (excObj C dx a0 sl)) ∧ E (.ref (s2.heap.objs.size + 1)) s3) E { s2 with heap := rawExc s2.heap C a.pos }) E s1) E s) :
    wpAny (model prog w) A (exec (.Raise (some (.Call (.Name x np) args [] cpos)) none pos) env) Q E s := by
  rw [arm_exec_Raise]
  refine wpAny_bind (wpAny_standAt (raise_made (C := C) (nm := nm) (q := q) (N := N) (bs := bs) (bm := bm) (hdct := hdct) (sn := sn) (sub := sub) (ab := ab) (col := col) (dd := dd) (k0 := k0) (k1 := k1) (k2 := k2) (k3 := k3) (k5 := k5) (newId := newId) hbase hh (wpAny_bind (wpAny_mono (wpAny_Call_ofName (wpAny_mono h (fun f s1 h1 => ?_) fun _ _ x => x)) (fun v s3 h3 => wpAny_bind (wpAny_standAt (wpAny_pure h3))) fun _ _ x => x))))
  obtain ⟨rfl, h1⟩ := h1
  unfold callWith
  refine wpAny_bind (wpAny_holding (wpAny_mono h1 (fun a s2 h2 => wpAny_bind (wpAny_standAt ?_)) fun _ _ x => x))
  obtain ⟨apos, akw⟩ := a
  obtain ⟨hkw, hlen, hC, hn, T, hf, h2⟩ := h2
  obtain rfl : akw = [] := hkw
  obtain ⟨hp, g, d, tk, os⟩ := s2
  simp only [hplain]
  refine wpAny_bind (wpAny_keeperOf_exc hC ?_)
  refine wpAny_bind (call_init F T hC hn hi hf hc hlen (wpAny_mono h2 (fun r s3 h3 => ⟨h3.1, wpAny_bind (wpAny_holding (wpAny_point (wpAny_pure ?_)))⟩) fun _ _ x => x))
  obtain ⟨_, hC3, ⟨dx, a0, sl, he⟩, hE⟩ := h3
  exact ⟨_, dx, a0, sl, rfl, hC3, he, hE⟩
end
end L2

set_option Elab.async false
set_option linter.all false
set_option maxRecDepth 100000
/-! The `__init__` of an own exception: the text of it, the base's `__init__`, self.at = at. -/
namespace L2
open PySem PySem.Spec PyProof.Rows PySem.W
open Sem (wp)
/-- an own exception that is still being made: its class, its dict -/
noncomputable abbrev ExcO (a C : Addr) (dx : Option Addr) : HO := .ext fun h => ∃ a0 sl, h.get? a = some (excObj C dx (.ref a0) sl)
theorem excO_ok {P : Program} {w : World} {H : Hp} {h : Heap} {a C : Addr} {dx : Option Addr} {a0 : Addr} {sl : Array (Option Value)} (e : h.get? a = some (excObj C dx (.ref a0) sl)) : ObjOk P w H h a (ExcO a C dx) :=
  ⟨⟨a0, sl, e⟩, ⟨_, e⟩, fun h1 h2 ⟨b0, sl', z⟩ k => ⟨b0, sl', k _ z⟩⟩
/-- an own class of exceptions with an `__init__` -/
structure OwnI (x : Str) (C fI : Addr) (bmB : List Value) (newId : String) (mg : Str → Option Value) (base : Heap) : Prop where
  bound : mg x = some (.ref C)
  obj : ∃ (tl : List Value) (N : Addr) (nm q : Str) (bs : List Value) (hdct : Bool) (sn : List Str) (sub : List Value) (ab : Bool) (col : Option Bool) (dd : Option Addr) (k0 k1 k2 k3 k5 : Option Value) (mN : Str → Option Value) (oI : Obj),
    base.get? C = some (excClassObj nm q C N bs tl hdct sn sub ab col dd k0 k1 k2 k3 k5 newId) ∧ base.Ns N mN ∧ mN "__init__" = some (.ref fI) ∧ OwnTail base bmB tl ∧ base.get? fI = some oI ∧ oI.cls = .type "function"
/-- f"a{e!r}b" where e is a number or None -/
noncomputable def tFR (te : TE) : TE := fun σ H Q => te σ H fun v H1 => ((∃ n : Int, v = .int n ∧ n.natAbs.log2 < 1920) ∨ v = .non) ∧ ∀ x, Q (.str x) H1
theorem pe_fstr {X : Cx} {a b : Str} {j1 j2 : Nat} {e : Expr} {te : TE} {p p1 p2 p3 : Pos} (he : PE X e te) (hz : a.length + b.length ≤ 1000 := by decide) :
    PE X (.JoinedStr [.Constant (.str a) j1 p1, .FormattedValue e 114 none p2, .Constant (.str b) j2 p3] p) (tFR te) := by
  intro pins s σ H Q I h
  have el : (Str.empty ++ a).length = a.length := by rw [strLen_append]; exact Nat.zero_add _
  refine wpAny_JoinedStr (Calls.Constant_str ⟨a, _, rfl, by rw [el, sizeLine_eq]; omega, ?_⟩)
  have key : ∀ (x : Str) (H1 : Hp) (s1 : Shared), x.length ≤ 2000 → Inv X pins σ H1 s1 → Q (.str (Str.empty ++ a ++ x ++ b)) H1 → ∀ t, wpAny (model X.prog X.w) X.A (formatField (.str x t) Str.empty)
      (fun v s2 => ∃ y t, v = .str y t ∧ (Str.empty ++ a ++ y).length ≤ sizeLine ∧ Joins (model X.prog X.w) X.A X.xe [eval (.Constant (.str b) j2 p3) X.env] (Str.empty ++ a ++ y) (fun out s3 => out.length ≤ sizeLine ∧ EP X pins σ Q (.str out s3.toks) { s3 with toks := s3.toks + 1 }) s2) X.xe s1 := fun x H1 s1 hx I1 q t => by
    have l1 : (Str.empty ++ a ++ x).length ≤ sizeLine := by rw [strLen_append, el, sizeLine_eq]; omega
    have l2 : (Str.empty ++ a ++ x ++ b).length ≤ sizeLine := by rw [strLen_append, strLen_append, el, sizeLine_eq]; omega
    refine PyProof.Rows.formatField_str (fun t' tk => ⟨x, t', rfl, l1, ?_⟩) (by rw [sizeLine_eq]; omega)
    exact Calls.Constant_str ⟨b, _, rfl, l2, l2, ⟨.str _, H1, (I1.tok tk).tok _, ⟨_, rfl⟩, q⟩⟩
  refine wpAny_FormattedValue_repr (wpAny_mono (he pins _ σ H _ (I.tok _) h) (fun u s1 ⟨v, H1, I1, r, hv, q⟩ => ?_) fun _ _ z => z)
  rcases hv with ⟨n, rfl, hn⟩ | rfl
  · obtain ⟨t, rfl⟩ := r
    refine wpAny_pyReprObj_gives (typeIs_int _ n t) F.slot_int_repr F.entry_int_repr (F.args_int_repr_1 _) (gives_int_repr n t hn) (key _ H1 _ ?_ (I1.tok _) (q _) _) (hx := int_text_fits hn)
    have e := int_text_length_le (k := 1920) (by decide) hn
    rw [PySem.ofString_length]; omega
  · obtain rfl : u = Value.none := r
    exact wpAny_pyReprObj_gives (typeIs_none _) F.slot_NoneType_repr F.entry_NoneType_repr (F.args_NoneType_repr_1 _) gives_none_repr (key _ H1 _ (by decide) (I1.tok _) (q _) _) (hx := by decide)
/-- the base's own `__init__` -/
theorem call_bexc {X : Cx} {x0 : Str} {C fI : Addr} {B newId initId : String} {bmB : List Value} (F : ExcBaseFacts B newId initId bmB) (O : OwnI x0 C fI bmB newId X.mg X.base) :
    CallR X (.builtin initId) (fun xs H Q => ∃ e x, xs = [.ref e, .str x] ∧ H e = some (ExcO e C none) ∧ Q .non H) := by
  intro pins s σ H xs us Q I r h
  obtain ⟨e, x, rfl, hH, q⟩ := h
  obtain ⟨u1, u2, rfl, r1, r2⟩ := vals2 r
  cases r1
  obtain ⟨t, rfl⟩ := r2
  obtain ⟨⟨a0, sl, he⟩, _⟩ := I.hok e _ hH
  obtain ⟨tl, N, nm, q', bs, hdct, sn, sub, ab, col, dd, k0, k1, k2, k3, k5, mN, oI, hC, hN, hi, T, hf, hc⟩ := O.obj
  have hC1 := I.bk _ _ hC
  have T1 := T.keeps I.bk
  obtain ⟨hp, g, d, tk, os⟩ := s
  refine wpAny_call (codeAny_call_builtin F.init.plain F.initEntry (wpAny_check_init_subT F T1 hC1 he rfl ?_))
  wp_walk
  have hne : hp.objs.size ≠ e := Nat.ne_of_gt (Heap.lt_size he)
  have h1 := Heap.get?_push_of_some { cls := .type "tuple", data := .seq #[Value.str x t] } he
  have h2 := Heap.get?_update_self (Obj.mapFields (·.setIfInBounds 0 (Value.ref hp.objs.size))) h1 rfl
  have hu : upd H e (ExcO e C none) = H := funext fun b => by
    by_cases z : b = e
    · rw [z, upd_same, hH]
    · rw [upd_ne z]
  refine ⟨.non, H, ?_, rfl, q⟩
  rw [← hu]
  refine I.write (x := e) (e := e) (t' := tk) (by rw [hH]; exact True.intro) (.inl rfl) (fun b u nb z => ?_) ⟨_, h2⟩ (excO_ok (a0 := hp.objs.size) (sl := sl) h2)
  rw [Heap.get?_update_other _ _ (Ne.symm nb)]
  exact Heap.get?_push_of_some _ z
end L2

set_option Elab.async false
set_option linter.all false
set_option maxRecDepth 100000
/-! self.at = at and e.at, for an own exception. -/
namespace L2
open PySem PySem.Spec PyProof.Rows PySem.W
open Sem (wp)
noncomputable abbrev errMro : List Value := [.type "ValueError", .type "Exception", .type "BaseException", .type "object"]
noncomputable def refB : Value → Bool
  | .ref _ => true
  | _ => false
/-- own classes, then ValueError and what is above it -/
noncomputable def onlyErr (l : List Value) : Bool := l.dropWhile refB == errMro
theorem onlyErr_split {l : List Value} (h : onlyErr l = true) : ∃ l1 : List Value, l = l1 ++ errMro ∧ ∀ v ∈ l1, refB v = true :=
  ⟨l.takeWhile refB, by rw [← beq_iff_eq.mp h]; exact (List.takeWhile_append_dropWhile).symm, fun v hv => by
    induction l with
    | nil => cases hv
    | cons a r ih =>
      rw [List.takeWhile_cons] at hv
      split at hv
      · rename_i ha
        rcases List.mem_cons.mp hv with rfl | hv
        · exact ha
        · exact ih (by unfold onlyErr at h ⊢; rw [List.dropWhile_cons, if_pos ha] at h; exact h) hv
      · cases hv⟩
theorem refuse_refs (self : Value) : ∀ (l1 : List Value), (∀ v ∈ l1, refB v = true) → refuseLoop self "__setattr__" (l1 ++ errMro) = pure ()
  | [], _ => PySem.F.store_ValueError.passes self
  | v :: r, h => by
    have hv := h v List.mem_cons_self
    cases v <;> first | (cases hv; done) | skip
    rw [List.cons_append, refuseLoop_ref]
    exact refuse_refs self r fun u hu => h u (List.mem_cons_of_mem _ hu)
theorem onlyErr_pass (self : Value) {l : List Value} (h : onlyErr l = true) : refuseLoop self "__setattr__" l = pure () := by
  obtain ⟨l1, rfl, hl⟩ := onlyErr_split h
  exact refuse_refs self l1 hl
theorem onlyErr_has {l : List Value} {v : Value} (h : onlyErr l = true) (hv : errMro.contains v = true) : l.contains v = true := by
  obtain ⟨l1, rfl, _⟩ := onlyErr_split h
  rw [List.contains_iff_mem] at hv ⊢
  exact List.mem_append_right _ hv
noncomputable def errOver (K : Frag) (C : Addr) : Bool := (clsIn K C).any fun cd => onlyErr cd.mro
section
variable {prog : Program} {w : World} {A : Around} {R : Result → Shared → Prop} {s : Shared} {K : Frag} {x C : Addr}
theorem err_isIn {ox : Obj} {od : Option Obj} {T : String} (X : K.In s.heap) (I : InstAt s.heap x ox C od) (hp : errOver K C = true) (hT : errMro.contains (.type T) = true) : Looks (model prog w) s.heap (isInstance (.ref x) (.type T)) true := by
  obtain ⟨cd, hc, ho⟩ := any_some hp
  have ne : cd.mro.isEmpty = false := by
    cases q : cd.mro with
    | nil => rw [q] at ho; cases ho
    | cons _ _ => rfl
  exact I.type.andThen (looks_mroIn X (by unfold mroIn; rw [hc, Option.bind_some, if_neg (by rw [ne]; decide), onlyErr_has ho hT]))
theorem osa_err {ox : Obj} {od : Option Obj} {name : Str} {tk : Tok} {v : Value} (X : K.In s.heap) (I : InstAt s.heap x ox C od) (hp : errOver K C = true) (ha : findIn K (.ref C) name = some none)
    (h : wpAny (model prog w) A.in1 (Builtin.ObjectAttr.storeInOwnDict (.ref x) (.ref C) (.str name tk) name v false)
      (fun fin s' => match fin with | .done f => R (.ok f) s' | .again c' => c'.quiet = true ∧ codeAny (model prog w) A c' R s') (fun e s' => R (.error e) s') s) :
    codeAny (model prog w) A (.call (.builtin "object.__setattr__") ⟨[.ref x, .str name tk, v], []⟩) R s := by
  have SF := PySem.F.store_object
  obtain ⟨cd, hc, ho⟩ := any_some hp
  have sub : Looks (model prog w) s.heap (isInstance (.ref x) (.type "object")) true := err_isIn X I hp (by decide)
  refine codeAny_call_builtin SF.slot.plain SF.entry (@check_slot (model prog w) _ _ s "object.__setattr__" "object" "__setattr__" (.ref x) [.str name tk, v] [] _ SF.kind SF.split sub (SF.args (.ref x) (.str name tk) v) ?_)
  have hm : Looks (model prog w) s.heap (mroOf (.ref C)) cd.mro := (looks_clsIn X hc).andThen .now
  rw [osa_eq, refuse_eq]
  refine wpAny_bind (wpAny_bind (I.type.here (wpAny_bind (hm.here ?_))))
  rw [onlyErr_pass _ ho]
  exact wpAny_pure (wpAny_bind (I.type.here (wpAny_bind ((looks_findIn X ha).here (wpAny_bind (wpAny_pure h))))))
end
section
variable {prog : Program} {w : World} {A : Around} {E : Value → Shared → Prop} {s : Shared} {K : Frag} {x C : Addr} {name : Str} {v a0 : Value} {sl : Array (Option Value)}
theorem set_exc {Q : Unit → Shared → Prop} (X : K.In s.heap) (hx : s.heap.get? x = some (excObj C none a0 sl)) (hs : findIn K (.ref C) "__setattr__" = some (some (.builtin "object.__setattr__"))) (hp : errOver K C = true)
    (ha : findIn K (.ref C) name = some none) (hh : hasDictIn K C = true)
    (h : ∀ (h' : Heap) (tk : Nat), h'.get? x = some (excObj C (some s.heap.objs.size) a0 sl) → h'.Ns1 s.heap.objs.size (fun y => if y = name then some v else none) → (∀ b o, b ≠ x → s.heap.get? b = some o → h'.get? b = some o) → Q () { s with heap := h', toks := tk }) :
    wpAny (model prog w) A (setAttr (.ref x) name v) Q E s := by
  have J : InstAt s.heap x (excObj C none a0 sl) C none := ⟨hx, rfl, rfl, True.intro⟩
  refine PySem.W.set_plain X J hs (osa_err (s := { s with toks := s.toks + 1 }) X J hp ha ?_)
  obtain ⟨cd, hc, hd⟩ := any_some hh
  refine wpAny_bind (wpAny_pure (wpAny_bind (wpAny_bind (wpAny_loadPart hx (wpAny_bind (PySem.W.Looks.here (s := { s with toks := s.toks + 1 }) (PySem.W.looks_clsIn X hc) ?_))))))
  rw [hd]
  have hx1 : (s.heap.push { cls := .type "dict", data := .dict #[] }).get? x = some (excObj C none a0 sl) := Heap.get?_push_of_some _ hx
  have hxs : x ≠ s.heap.objs.size := Nat.ne_of_lt (Heap.lt_size hx)
  refine wpAny_bind (wpAny_alloc' ?_)
  refine wpAny_bind (wpAny_update' hx1 ?_)
  refine wpAny_pure ?_
  have hgd : ((s.heap.push { cls := .type "dict", data := .dict #[] }).update x fun o => { cls := o.cls, dict := some s.heap.objs.size, data := o.data, slots := o.slots }).get? s.heap.objs.size = some { cls := .type "dict", data := .dict #[] } :=
    (Heap.get?_update_ne _ _ _ _ hxs.symm).trans (Heap.get?_push_at rfl rfl)
  have hgx : ((s.heap.push { cls := .type "dict", data := .dict #[] }).update x fun o => { cls := o.cls, dict := some s.heap.objs.size, data := o.data, slots := o.slots }).get? x = some (excObj C (some s.heap.objs.size) a0 sl) :=
    Heap.get?_update_self _ hx1 rfl
  have hnd : ((s.heap.push { cls := .type "dict", data := .dict #[] }).update x fun o => { cls := o.cls, dict := some s.heap.objs.size, data := o.data, slots := o.slots }).Ns s.heap.objs.size (fun _ => none) :=
    ⟨_, #[], _, hgd, rfl, fun e he => absurd he (by simp), fun _ => rfl⟩
  show wpAny _ _ (Builtin.ObjectAttr.storeInDict s.heap.objs.size (.str name s.toks) name v) _ _ _
  unfold Builtin.ObjectAttr.storeInDict Builtin.ObjectAttr.newKeyGuard
  refine wpAny_bind (wpAny_pure (wpAny_bind (wpAny_nsSet1 (Heap.Ns1.of_empty hnd) fun h' hn' hs' => ?_)))
  obtain ⟨oD, esD, epD, hoD, hdD, hcD⟩ := hn'.count (Within.cons name v Within.nil)
  refine wpAny_bind (wpAny_lookBehind hoD (by rw [hdD]; exact pastItsLine_dict (Nat.le_trans hcD (by rw [List.length_cons, List.length_nil, sizeLine_eq]; omega))) ?_)
  refine wpAny_pure (h h' _ ((hs'.2 x hxs).trans hgx) hn' fun b o nb z => ?_)
  exact (hs'.2 b (Nat.ne_of_lt (Heap.lt_size z))).trans ((Heap.get?_update_ne _ _ _ _ nb).trans (Heap.get?_push_of_some _ z))
end
end L2

set_option Elab.async false
set_option linter.all false
set_option maxRecDepth 100000
/-! The statements of such an `__init__`; e.at behind an except. -/
namespace L2
open PySem PySem.Spec PyProof.Rows PySem.W
open Sem (wp)
/-- what of the text an own class of exceptions must have -/
structure ExcK (K : Frag) (C : Addr) : Prop where
  sa : findIn K (.ref C) "__setattr__" = some (some (.builtin "object.__setattr__"))
  eo : errOver K C = true
  hd : hasDictIn K C = true
  ga : findIn K (.ref C) "__getattribute__" = some (some (.builtin "BaseException.__getattribute__"))
  gn : findIn K (.ref C) "__getattr__" = some none
theorem xd_one {P : Program} {w : World} {H : Hp} {h : Heap} {a : Addr} {f : Str} {y : V} {u : Value} (r : RelV y u) (n : h.Ns1 a (fun z => if z = f then some u else none)) : ObjOk P w H h a (.xd [(f, y)]) :=
  ⟨_, n, fun g => by
    show RelO (List.lookup g [(f, y)]) (if g = f then some u else none)
    by_cases q : g = f
    · subst q
      rw [if_pos rfl, List.lookup_cons, show (g == g) = true from by simp]
      exact r
    · rw [if_neg q, List.lookup_cons, show (g == f) = false from by simpa using q]
      exact True.intro⟩
section
variable {X : Cx} {pins : List (Addr × Obj)} {σ : St} {H : Hp} {s : Shared} {h' : Heap} {e C dx : Addr} {f : Str} {y : V} {u : Value} {a0 : Addr} {sl : Array (Option Value)}
theorem Inv.excDict {t' : Nat} (I : Inv X pins σ H s) (hH : H e = some (ExcO e C none)) (hd : dx = s.heap.objs.size) (he : h'.get? e = some (excObj C (some dx) (.ref a0) sl)) (r : RelV y u) (hn : h'.Ns1 dx (fun z => if z = f then some u else none))
    (k : ∀ b o, b ≠ e → s.heap.get? b = some o → h'.get? b = some o) : Inv X pins σ (upd (upd H dx (.xd [(f, y)])) e (ExcO e C (some dx))) { s with heap := h', toks := t' } := by
  have fresh : H dx = none := I.hok.fresh (by rw [hd]; exact Nat.le_refl _)
  have hne : ∀ b o, H b = some o → (∀ φ, o ≠ .ext φ) → b ≠ e := fun b o q n z => by rw [z, hH] at q; cases q; exact n _ rfl
  have hnd : ∀ b o, H b = some o → b ≠ dx := fun b o q z => by rw [z, fresh] at q; cases q
  have fwd : ∀ b o, H b = some o → (∀ φ, o ≠ .ext φ) → upd (upd H dx (.xd [(f, y)])) e (ExcO e C (some dx)) b = some o := fun b o q n => by rw [upd_ne (hne b o q n), upd_ne (hnd b o q)]; exact q
  have nfe : ∀ b, H b = none → b ≠ e := fun b n z => by rw [z, hH] at n; cases n
  refine I.un ⟨fun b o q n _ _ => k b o (nfe b n) q, fun b o q n _ _ => ⟨o.slots, k b o (nfe b n) q⟩, fun b o q n _ => ?_, fun b o q _ => ?_, fun b xs q => fwd b _ q (by intro φ z; cases z), fun b o u q => fwd b _ q (by intro φ z; cases z),
    fun b ps q => ⟨#[], by rw [Array.append_empty]; exact fwd b _ q (by intro φ z; cases z)⟩⟩ fun b o q => ?_
  · rw [upd_ne (nfe b n), upd_ne (fun z => absurd (Heap.lt_size q) (by rw [z, hd]; exact Nat.lt_irrefl _))]; exact n
  · by_cases z : b = e
    · exact ⟨_, z ▸ he⟩
    · exact ⟨o, k b o z q⟩
  · by_cases z : b = e
    · subst z
      rw [upd_same] at q; cases q
      exact excO_ok he
    · rw [upd_ne z] at q
      by_cases z2 : b = dx
      · subst z2
        rw [upd_same] at q; cases q
        exact xd_one r hn
      · rw [upd_ne z2] at q
        refine (I.hok b o q).stay (fun c v hc g => k c v ?_ g) (fun c g => fwd c _ g (by intro φ z; cases z)) fun c xs g => fwd c _ g (by intro φ z; cases z)
        rcases hc with rfl | hc
        · exact z
        · exact hne c _ hc (by intro φ z; cases z)
end
/-- self.f = value, the first attribute of an own exception -/
noncomputable def sExc (C : Addr) (ta tv : TE) (f : Str) : TS := fun D σ H => tv σ H fun y H1 => ta σ H1 fun x H2 => ∃ e, x = .ref e ∧ H2 e = some (ExcO e C none) ∧ ∀ dx, H2 dx = none → dx ≠ e → D.nx σ (upd (upd H2 dx (.xd [(f, y)])) e (ExcO e C (some dx)))
theorem ps_setExc {X : Cx} {o value : Expr} {f : Str} {pos pos' : Pos} {ta tv : TE} {C : Addr} (c : ExcK X.K C) (n : NoAttr X.K C f) (ha : PE X o ta) (hv : PE X value tv) (hs : swapsWith value (some (.Attribute o f pos')) pos.line X.env = pure false := by rfl) :
    PS X (.Assign [.Attribute o f pos'] value pos) (sExc C ta tv f) := by
  intro pins s σ H D I h
  refine plainObj_wpAny_Assign_Attribute (thn (hv pins s σ H _ I h) fun u s1 ⟨y, H1, I1, ry, q⟩ => thn (ha pins s1 σ H1 _ I1 q) fun ov s2 ⟨x, H2, I2, rx, e, ex, ee, q2⟩ => ?_) hs
  subst ex
  obtain rfl : ov = Value.ref e := rx
  obtain ⟨⟨a0, sl, he⟩, _⟩ := I2.hok e _ ee
  refine set_exc I2.kIn he c.sa c.eo n c.hd fun h' tk hx hn k => ⟨σ, _, I2.excDict (t' := tk) ee rfl hx ry hn k, q2 _ (I2.hok.fresh (Nat.le_refl _)) (Ne.symm (Nat.ne_of_lt (Heap.lt_size he)))⟩
/-- G.__init__(e, ..), G an own class that has none of its own -/
theorem pe_baseInit {X : Cx} {G : Str} {Cg : Addr} {mc : Value} {initId : String} {r : List V → Hp → VK → Prop} {e : Expr} {es : List Expr} {t : TA} {p apos pos : Pos} {pl : Sem Bool} (hc : CallR X (.builtin initId) r) (hg : Gl X G) (hm : X.mg G = some (.ref Cg))
    (h1 : specialIn X.K (.ref Cg) "__getattribute__" = some (some (.builtin "type.__getattribute__"))) (h2 : readsIn X.K Cg mc = true) (h3 : findCls X.K (.ref Cg) mc "__init__" = some (.val (.builtin initId))) (h4 : handedIn (.builtin initId) = true) (ha : PA X (e :: es) t)
    (hdb : (G == ("__debug__" : Str)) = false := by decide) (hst : starEach (e :: es) X.env = (false, eval e X.env) :: starEach es X.env := by rfl) (hpl : (backTo pos (starEach es X.env)).any (·.1) = false := by rfl)
    (ht : eval (.Call (.Attribute (.Name G p) "__init__" apos) (e :: es) [] pos) X.env = (do
      let ov ← eval (.Name G p) X.env
      standAt apos.atName
      let (f, first) ← holding [ov] (getMethod ov "__init__" pl)
      callWith pos f first (backTo pos (starEach (e :: es) X.env)) (backToKw pos (keywordEach [] X.env))) := by rfl) :
    PE X (.Call (.Attribute (.Name G p) "__init__" apos) (e :: es) [] pos) (tCB r t) := by
  intro pins s σ H Q I h
  refine PySem.W.methodCall_KW (pl := pl) (ld_glob I hg hm (method_cls I.kIn h1 (cls_value I.kIn h2 h3 h4 ?_)) hdb) ht
  exact PyProof.Rows.callWith_builtin1 (thn (ha pos pins _ σ H _ (I.tok _) h) fun us s1 ⟨vs, H1, I1, r1, q1⟩ => hc pins s1 σ H1 vs us Q I1 r1 q1) hst hpl
end L2

set_option Elab.async false
set_option linter.all false
set_option maxRecDepth 100000
/-! raise C(at), where C's own `__init__` keeps at. -/
namespace L2
open PySem PySem.Spec PyProof.Rows PySem.W
open Sem (wp)
noncomputable def SmallOr (y : V) : Prop := (∃ n : Int, y = .int n ∧ n.natAbs.log2 < 1920) ∨ y = .non
/-- what such an `__init__` does -/
noncomputable def spExcInit (C : Addr) : Sp := fun vs H Q _ => ∃ e y, vs = [.ref e, y] ∧ SmallOr y ∧ H e = some (ExcO e C none) ∧ ∀ dx, H dx = none → dx ≠ e → Q .non (upd (upd H dx (.xd [("at", y)])) e (ExcO e C (some dx)))
/-- raise C(e) -/
noncomputable def tRaiseI (C : Addr) (E : XK) (t : TA) : TS := fun _ σ H => t σ H fun vs H1 => ∃ y, vs = [y] ∧ SmallOr y ∧ ∀ dx, H1 dx = none → E (.ref C) (some dx) (upd H1 dx (.xd [("at", y)]))
theorem ps_raiseI {X : Cx} {x : Str} {C fI : Addr} {bmB : List Value} {newId B initId : String} {E : XK} {e0 : Expr} {t : TA} {np cpos pos : Pos} {k : Nat} {fd : FuncData} {ps : List Str} (FB : ExcBaseFacts B newId initId bmB) (O : OwnI x C fI bmB newId X.mg X.base)
    (F : FnOk X.prog X.w X.K X.mg X.base CX0 k fI fd ps (spExcInit C)) (hb : Binds X.K fd ps []) (hr : Room (k + 1) X.A) (hc : X.calm = true) (hg : Gl X x) (L : LetsD X E) (ha : PA X [e0] t)
    (hdb : (x == ("__debug__" : Str)) = false := by decide) (he : starEach [e0] X.env = (false, eval e0 X.env) :: starEach [] X.env := by rfl) (hpl : (backTo cpos (starEach [] X.env)).any (·.1) = false := by rfl) :
    PS X (.Raise (some (.Call (.Name x np) [e0] [] cpos)) none pos) (tRaiseI C E t) := by
  intro pins s σ H D I h
  obtain ⟨tl, N, nm, q, bs, hdct, sn, sub, ab, col, dd, k0, k1, k2, k3, k5, mN, oI, hC, hN, hi, T, hf, hcf⟩ := O.obj
  have hpl2 : (backTo cpos (starEach [e0] X.env)).any (·.1) = false := by
    rw [he]
    show (false || (backTo cpos (starEach [] X.env)).any (·.1)) = false
    rw [hpl]; rfl
  refine raise_init (C := C) (nm := nm) (q := q) (N := N) (bs := bs) (bm := tl) (hdct := hdct) (sn := sn) (sub := sub) (ab := ab) (col := col) (dd := dd) (k0 := k0) (k1 := k1) (k2 := k2) (k3 := k3) (k5 := k5)
    FB (mN := mN) (T.hasType FB.hasBase) (I.ok.hd hc) hpl2 hi hcf (ld_glob I hg O.bound ⟨rfl, ?_⟩ hdb)
  have hh := thn (ha cpos pins s σ H _ I h) (Q' := fun us s2 => us.length ≤ sizeLine ∧ (∀ b o, X.base.get? b = some o → s2.heap.get? b = some o) ∧
    wpAny (model X.prog X.w) (X.A.under (.builtin "type.__call__" ⟨.ref C :: us, []⟩)) (call (.ref fI) (.ref (s2.heap.objs.size + 1) :: us))
      (fun r s3 => r = .none ∧ s3.heap.get? C = some (excClassObj nm q C N bs tl hdct sn sub ab col dd k0 k1 k2 k3 k5 newId) ∧ (∃ dx a0 sl, s3.heap.get? (s2.heap.objs.size + 1) = some (excObj C dx a0 sl)) ∧ X.xe (.ref (s2.heap.objs.size + 1)) s3) X.xe { s2 with heap := rawExc s2.heap C us })
    fun us s1 ⟨vs, H1, I1, r1, y, ev, hy, q1⟩ => ?_
  · rw [he] at hh ⊢
    exact Calls.evalArgs_plain (wpAny_mono hh (fun us s2 h2 => ⟨rfl, h2.1, h2.2.1 _ _ hC, hN.keeps h2.2.1, T.keeps h2.2.1, h2.2.1 _ _ hf, h2.2.2⟩) fun _ _ y => y)
  subst ev
  obtain ⟨u, rfl, ru⟩ := vals1 r1
  have fe : H1 (s1.heap.objs.size + 1) = none := I1.hok.fresh (Nat.le_succ _)
  have I2 : Inv X pins σ (upd H1 (s1.heap.objs.size + 1) (ExcO (s1.heap.objs.size + 1) C none)) { s1 with heap := rawExc s1.heap C [u], toks := s1.toks } :=
    I1.laid (fun b o e => rawExc_keep e) (Nat.le_succ _) (excO_ok rawExc_at)
  refine ⟨by rw [sizeLine_eq]; simp, I1.bk, wpAny_call (codeAny_mono (F.run _ X.stack _ _ ⟨[.ref (s1.heap.objs.size + 1), u], []⟩ [.ref (s1.heap.objs.size + 1), u] [.ref (s1.heap.objs.size + 1), y]
    (fun v H' => v = .non ∧ ∃ dx, H1 dx = none ∧ dx ≠ s1.heap.objs.size + 1 ∧ H' = upd (upd (upd H1 (s1.heap.objs.size + 1) (ExcO (s1.heap.objs.size + 1) C none)) dx (.xd [("at", y)])) (s1.heap.objs.size + 1) (ExcO (s1.heap.objs.size + 1) C (some dx)))
    (fun _ _ _ => False) (hr.make C [u] []) (I2.env0.make C [u] []) (hb _ [.ref (s1.heap.objs.size + 1), u] I2.kIn ?_) (.cons rfl (.cons ru .nil)) ?_) fun r s' hq' => ?_)⟩
  · have := F.len [.ref (s1.heap.objs.size + 1), y] (upd H1 (s1.heap.objs.size + 1) (ExcO (s1.heap.objs.size + 1) C none)) (fun _ _ => True) (fun _ _ _ => True) ⟨_, y, rfl, hy, upd_same, fun _ _ _ => True.intro⟩
    exact this
  · exact ⟨_, y, rfl, hy, upd_same, fun dx n ne => ⟨rfl, dx, by rw [upd_ne ne] at n; exact n, ne, rfl⟩⟩
  · cases r with
    | error e => exact False.elim hq'
    | ok fl =>
      cases fl with
      | ret w1 =>
        obtain ⟨v, H', I3, rv, ⟨ev, dx, hn, hne, eH⟩⟩ := I2.after hq'
        subst ev
        subst eH
        obtain rfl : w1 = Value.none := rv
        obtain ⟨⟨a0, sl, hx⟩, _⟩ := I3.hok _ _ upd_same
        refine ⟨rfl, I3.bk _ _ hC, ⟨_, _, _, hx⟩, ?_⟩
        refine L pins σ _ _ _ _ _ I3 hx rfl (by simp) rfl (Heap.get?_none_of_le (Nat.le_succ_of_le I1.sz)) (.inr ⟨_, upd_same⟩) ?_
        have eo : offH (upd (upd (upd H1 (s1.heap.objs.size + 1) (ExcO (s1.heap.objs.size + 1) C none)) dx (.xd [("at", y)])) (s1.heap.objs.size + 1) (ExcO (s1.heap.objs.size + 1) C (some dx))) (s1.heap.objs.size + 1) = upd H1 dx (.xd [("at", y)]) := funext fun b => by
          by_cases z : b = s1.heap.objs.size + 1
          · rw [z, offH_same, upd_ne (Ne.symm hne), fe]
          · rw [offH_ne z, upd_ne z]
            by_cases z2 : b = dx
            · rw [z2, upd_same, upd_same]
            · rw [upd_ne z2, upd_ne z, upd_ne z2]
        rw [eo]
        exact q1 dx hn
      | next => exact False.elim hq'
      | brk => exact False.elim hq'
      | cont => exact False.elim hq'
end L2

set_option Elab.async false
set_option linter.all false
set_option maxRecDepth 100000
/-! except C as e: return .. e.at .. -/
namespace L2
open PySem PySem.Spec PyProof.Rows PySem.W
open Sem (wp)
section
variable {prog : Program} {w : World} {A : Around} {E : Value → Shared → Prop} {s : Shared} {K : Frag} {x C : Addr} {ox : Obj} {od : Option Obj} {name : Str} {expr : Bool} {Q : Value → Shared → Prop}
end
/-- an exception has come into a try of this def: its class, its dict -/
theorem landedD {X : Cx} {pins : List (Addr × Obj)} {σ : St} {H H' : Hp} {s s' : Shared} {ea : Addr} {cls : Value} {dd : Option Addr} {B h' : Heap} (I : Inv X pins σ H s) (F : Fly X.prog X.w X.base X.stack H s s' ea cls dd B H') (fl : Sta B X.stack ea cls dd (some .none) h') (up : s'.heap.UpToSlots h') :
    ∃ oe vs, Inv X pins σ H' { s' with heap := h' } ∧ h'.get? ea = some oe ∧ oe.cls = cls ∧ oe.data = .fields vs ∧ oe.dict = dd := by
  have u := F.go fl up
  obtain ⟨oe, vs, he, hc, hq, hd, _⟩ := fl.obj
  exact ⟨oe, vs, I.call' (s' := { s' with heap := h' }) (ch := []) F.os u (F.hok.kept fun b o q => fl.stay b o q) F.bare (fun b z => absurd z (by simp)), he, hc, hd, hq⟩
section
variable {X : Cx} {k : Nat} {x y n : Str} {C L : Addr} {ps : List Str} {sp : Sp} {e : Expr} {es : List Expr} {t : TA} {env0 : List Env} {p np pos epos tpos hpos : Pos} {i : Nat} {b0 : Stmt} {suite : List Stmt} {ts : Addr → Option Addr → TS}
end
end L2

set_option Elab.async false
set_option linter.all false
set_option maxRecDepth 100000
/-! An own class of exceptions with an `__init__`, as it stands behind the top. -/
namespace L2
open PySem PySem.Spec PyProof.Rows PySem.W
noncomputable def clsBody (s : Stmt) : List Stmt := match s with
  | .ClassDef _ _ _ b _ _ _ _ _ _ _ => b
  | _ => []
/-- the class at C is one of exceptions, with the def at fI as its `__init__` -/
noncomputable def excJIn (K : Frag) (C fI : Addr) (bmB : List Value) (newId : String) : Bool := match K.lookup C with
  | some ⟨.type "type", _, .cls cd, sl⟩ => (match cd.mro, sl.toList with
    | .ref C' :: bm, [_, _, _, _, some (.builtin n), _] => C' == C && n == newId && !cd.hasDel && tailIn K bmB bm && nsOkIn K cd.ns && nsIn K cd.ns "__init__" == some (some (.ref fI)) && typeIn K (.ref fI) == some (.type "function")
    | _, _ => false)
  | _ => false
theorem nsMap_some_of_in {K : Frag} {h : Heap} {N : Addr} {x : Str} {v : Value} (X : K.In h) (e : nsOkIn K N = true) (q : nsIn K N x = some (some v)) : h.nsMap N x = some v := by
  have G : h.Ns N (h.nsMap N) := .of_isNs (isNs_of_in X e)
  obtain ⟨o, es, ep, ho, hd, _, hf⟩ := G
  unfold nsIn at q
  split at q
  · rename_i c d es' n' sl lk
    have := X _ _ lk
    rw [ho] at this
    cases this
    cases hd
    split at q
    · rename_i en he
      cases q
      rw [← hf]
      unfold nsFind findBy
      rw [← Array.find?_toList, he]
      rfl
    · split at q <;> cases q
  · cases q
theorem fn_cls {K : Frag} {h : Heap} {f : Addr} (X : K.In h) (e : typeIn K (.ref f) = some (.type "function")) : ∃ o, h.get? f = some o ∧ o.cls = .type "function" := by
  obtain ⟨o, ho, hc⟩ := Option.map_eq_some_iff.mp (show (K.lookup f).map (·.cls) = some (.type "function") from e)
  exact ⟨o, X _ _ ho, hc⟩
theorem ownI_mk {K : Frag} {base : Heap} {mg : Str → Option Value} {x : Str} {C fI : Addr} {bmB : List Value} {newId : String} (X : K.In base) (G : base.Ns mainGlobals mg) (e : nsIn K mainGlobals x = some (some (.ref C))) (q : excJIn K C fI bmB newId = true) : OwnI x C fI bmB newId mg base := by
  refine ⟨mg_of X G e, ?_⟩
  unfold excJIn at q
  split at q
  · rename_i dd cd sl ho
    split at q
    · rename_i C' bm k0 k1 k2 k3 n k5 hm hs
      simp only [Bool.and_eq_true, beq_iff_eq, Bool.not_eq_true'] at q
      obtain ⟨⟨⟨⟨⟨⟨e1, e2⟩, hdel⟩, htl⟩, hok⟩, hni⟩, hfn⟩ := q
      subst e1 e2
      obtain ⟨nm, bs, mro, ns, qn, hd, sn, sub, ab, col, del⟩ := cd
      simp only at hm hdel hok hni
      subst hm hdel
      have hsl : sl = #[k0, k1, k2, k3, some (.builtin n), k5] := by
        cases sl
        simp only at hs
        rw [hs]
      subst hsl
      obtain ⟨oI, ho1, ho2⟩ := fn_cls X hfn
      exact ⟨bm, ns, nm, qn, bs, hd, sn, sub, ab, col, dd, k0, k1, k2, k3, k5, _, oI, X _ _ ho, .of_isNs (isNs_of_in X hok), nsMap_some_of_in X hok hni, tail_of_in X htl, ho1, ho2⟩
    · cases q
  · cases q
/-- all that is read of such a class -/
structure JX (K : Frag) (x qual : Str) (st : Stmt) (C : Addr) : Prop where
  ex : ∃ (fI : Addr) (fd : FuncData), nsIn K mainGlobals x = some (some (.ref C)) ∧ excJIn K C fI errMro "ValueError.__new__" = true ∧ Fun K "__init__" qual st fI fd
  k : ExcK K C
  n : NoAttr K C "at"
  m : exmOne K (.ref C) (.ref C) = some true
  g : ∃ Cg : Addr, nsIn K mainGlobals "GridError" = some (some (.ref Cg)) ∧ specialIn K (.ref Cg) "__getattribute__" = some (some (.builtin "type.__getattribute__")) ∧ readsIn K Cg (.type "type") = true ∧ findCls K (.ref Cg) (.type "type") "__init__" = some (.val (.builtin "ValueError.__init__"))
/-- one that may be raised -/
structure ExcJ (P : Program) (w : World) (K : Frag) (mg : Str → Option Value) (base : Heap) (x : Str) (C : Addr) : Prop where
  ex : ∃ (fI : Addr) (fd : FuncData) (ps : List Str), OwnI x C fI errMro "ValueError.__new__" mg base ∧ FnOk P w K mg base CX0 1 fI fd ps (spExcInit C) ∧ Binds K fd ps []
  mg : mg x = some (.ref C)
  k : ExcK K C
  n : NoAttr K C "at"
  m : exmOne K (.ref C) (.ref C) = some true
theorem ps_raiseJ {X : Cx} {x : Str} {C : Addr} {E : XK} {e0 : Expr} {t : TA} {np cpos pos : Pos} {k : Nat} (O : ExcJ X.prog X.w X.K X.mg X.base x C) (hr : Room (k + 2) X.A) (hc : X.calm = true) (hg : Gl X x) (L : LetsD X E) (ha : PA X [e0] t)
    (hdb : (x == ("__debug__" : Str)) = false := by decide) (he : starEach [e0] X.env = (false, eval e0 X.env) :: starEach [] X.env := by rfl) (hpl : (backTo cpos (starEach [] X.env)).any (·.1) = false := by rfl) :
    PS X (.Raise (some (.Call (.Name x np) [e0] [] cpos)) none pos) (tRaiseI C E t) := by
  obtain ⟨fI, fd, ps, o, f, b⟩ := O.ex
  exact ps_raiseI PySem.F.excBase_ValueError o f b (hr.mono (by omega)) hc hg L ha hdb he hpl
theorem jx_mk {K : Frag} {x qual : Str} {st : Stmt} {C fI Cg : Addr} {cd : ClassData} {oc : Value} {od an : Option Addr} {osl : Array (Option Value)} {kV doc pm cdv ct : Value} (e : nsIn K mainGlobals x = some (some (.ref C))) (c : clsIn K C = some cd) (i : nsIn K cd.ns "__init__" = some (some (.ref fI)))
    (q : excJIn K C fI errMro "ValueError.__new__" = true) (l : K.lookup fI = some ⟨oc, od, .func (PySem.W.fnOf "__init__" qual (defArgs st) (defBody st) (defScope st) .none kV doc pm an cdv ct), osl⟩) (co : codeIn K cdv qual = true) (kp : keepIn K (.ref fI) = true)
    (k1 : findIn K (.ref C) "__setattr__" = some (some (.builtin "object.__setattr__"))) (k2 : errOver K C = true) (k3 : hasDictIn K C = true) (k4 : findIn K (.ref C) "__getattribute__" = some (some (.builtin "BaseException.__getattribute__"))) (k5 : findIn K (.ref C) "__getattr__" = some none)
    (n : findIn K (.ref C) "at" = some none) (m : exmOne K (.ref C) (.ref C) = some true) (g0 : nsIn K mainGlobals "GridError" = some (some (.ref Cg))) (g1 : specialIn K (.ref Cg) "__getattribute__" = some (some (.builtin "type.__getattribute__"))) (g2 : readsIn K Cg (.type "type") = true)
    (g3 : findCls K (.ref Cg) (.type "type") "__init__" = some (.val (.builtin "ValueError.__init__"))) : JX K x qual st C :=
  ⟨⟨fI, _, e, q, fun_mk l co kp⟩, ⟨k1, k2, k3, k4, k5⟩, n, m, Cg, g0, g1, g2, g3⟩
theorem small_log {n : Nat} (h : n ≤ 1000) : ((n : Int)).natAbs.log2 < 1920 := by
  rw [Int.natAbs_natCast]
  by_cases z : n = 0
  · subst z; decide
  · exact Nat.lt_of_lt_of_le ((Nat.log2_lt z).mpr (Nat.lt_of_le_of_lt h (by decide : 1000 < 2 ^ 10))) (by decide)
theorem two_vals {α : Type} {P : List α → Prop} (h : ∀ a b, P [a, b]) : ∀ us : List α, us.length = 2 → P us
  | [a, b], _ => h a b
end L2

set_option Elab.async false
set_option linter.all false
set_option maxRecDepth 100000
/-! except C1 as n: a suite that returns; except C2: a suite -/
namespace L2
open PySem PySem.Spec PyProof.Rows PySem.W
section
variable {X : Cx} {k : Nat} {x y z n : Str} {C C2 L : Addr} {ps : List Str} {sp : Sp} {e : Expr} {es : List Expr} {t : TA} {env0 : List Env} {p np np2 pos epos tpos hpos hpos2 : Pos} {i : Nat} {b0 b1 : Stmt} {suite suite1 : List Stmt} {ts : Addr → Option Addr → TS} {ts1 : TS}
end
end L2

set_option Elab.async false
set_option linter.all false
set_option maxRecDepth 100000
/-! except C as e: a suite that goes on behind the try -/
namespace L2
open PySem PySem.Spec PyProof.Rows PySem.W
open Sem (wp)
/-- one name has gone -/
theorem Inv.lose {X : Cx} {pins : List (Addr × Obj)} {σ : St} {H : Hp} {s : Shared} {n : Str} {i : Nat} (I : Inv X pins σ H s) (hN : X.N.Nodup) (hi : X.N[i]? = some n) {m : Str → Option Value} (hn0 : s.heap.Ns X.env.locals m)
    (hl : ∀ (i : Nat) (x : Str) (v : V), X.N[i]? = some x → σ[i]? = some (some v) → Vis X.env.scope x → ∃ u, RelV v u ∧ Look X.env s.heap m x u) {v : Option Value} {h' : Heap} {t' : Nat} (hn : h'.Ns X.env.locals (fun x => if x = n then v else m x)) (sb : Heap.SameBut X.env.locals s.heap h') :
    Inv X pins (σ.set i none) H { s with heap := h', toks := t' } where
  ok := I.ok
  os := I.os
  bare := I.bare
  base := (I.forgot (t' := t') hn sb).base
  loc := ⟨_, hn, fun j x v1 hx e vis => by
    by_cases ej : i = j
    · subst ej
      have lt : i < σ.length := by rw [I.len]; exact (List.getElem?_eq_some_iff.mp hi).1
      rw [List.getElem?_set_self lt] at e
      cases e
    · rw [List.getElem?_set_ne ej] at e
      obtain ⟨u, r, lk⟩ := hl j x v1 hx e vis
      have nx : x ≠ n := fun z => ej (by
        subst z
        obtain ⟨h1, e1⟩ := List.getElem?_eq_some_iff.mp hi
        obtain ⟨h2, e2⟩ := List.getElem?_eq_some_iff.mp hx
        exact (List.getElem_inj hN).mp (e1.trans e2.symm))
      refine ⟨u, r, ?_⟩
      rcases lk with ⟨k1, k2⟩ | ⟨k1, c, k2, k3⟩
      · exact .inl ⟨k1, by show (if x = n then v else m x) = some u; rw [if_neg nx]; exact k2⟩
      · exact .inr ⟨k1, c, k2, k3.sameBut sb (I.cne x c k2)⟩⟩
  cell := (I.forgot (t' := t') hn sb).cell
  free := I.free
  freeC := I.freeC
  pin := (I.forgot (t' := t') hn sb).pin
  hok := (I.forgot (t' := t') hn sb).hok
  len := by rw [List.length_set]; exact I.len
/-- except y as n: a suite that goes on -/
theorem catchGo {X : Cx} {pins : List (Addr × Obj)} {σ : St} {H H' : Hp} {s s' : Shared} {ea L : Addr} {cls : Value} {dd : Option Addr} {B : Heap} {D : Ends} {y n : Str} {C : Addr} {i : Nat} {np hpos : Pos} {b0 : Stmt} {suite : List Stmt} {ts : TS} {rest : List ExceptHandler} {env0 : List Env}
    (hst : X.stack = X.env :: env0) (hfr : X.env.frame = some L) (hg : Gl X y) (hm : X.mg y = some (.ref C)) (hx : exmOne X.K cls (.ref C) = some true) (I : Inv X pins σ H s) (F : Fly X.prog X.w X.base X.stack H s s' ea cls dd B H')
    (hN : X.N.Nodup) (hi : X.N[i]? = some n) (hl : X.env.scope.names.lookup n = some .local) (hsu : ∀ oe vs, oe.cls = cls → oe.data = .fields vs → oe.dict = dd → PSs (exCx X ea oe) (b0 :: suite) ts)
    (q : ts { nx := fun σ5 H5 => D.nx (σ5.set i none) H5, rt := D.rt } (σ.set i (some (.ref ea))) H') (hdb : (y == ("__debug__" : Str)) = false := by decide) :
    Catch X pins D (.ExceptHandler (some (.Name y np)) (some n) (b0 :: suite) hpos :: rest) (.ref ea) s' := by
  have frs1 : X.A.frames = some (X.env :: env0) := by rw [← hst]; exact I.ok.frames
  have fly1 := F.fly
  rw [hst] at fly1
  refine sta_note frs1 hfr (.inr rfl) fly1 fun h1 held1 up1 => sta_off held1 fun h2 fl2 up2 => ?_
  rw [← hst] at fl2
  have F2 := F.on fl2 (up1.trans up2)
  obtain ⟨oe, vs, I2, he2, hc2, hd2, _⟩ := landedD I F fl2 (up1.trans up2)
  have X2 := I2.toEx (oe := oe) he2 hd2 F.notB
  refine wpAny_handleBy_cons (codeAny_handlers_test (ld_glob X2 hg hm ((exm_one I2.kIn (exc_ty he2 hc2) hx).here ?_) hdb)) (by intro z; cases z)
  rw [if_pos rfl]
  refine codeAny_handlers_suite_as (sta_off fl2 fun h3 fl3 up3 => ?_)
  obtain ⟨oe3, vs3, I3, he3, hc3, hd3, hq3⟩ := landedD I F2 fl3 up3
  have X3 := I3.toEx (oe := oe3) he3 hd3 F.notB
  refine store_ok (X := exCx X ea oe3) (v := .ref ea) X3 hN hi (.inl hl) rfl (fun s4 X4 => ?_) (.inr hl)
  refine wpAny_mono (hsu oe3 vs3 hc3 hd3 hq3 pins _ _ H' { nx := fun σ5 H5 => D.nx (σ5.set i none) H5, rt := D.rt } X4 q) (fun fl s5 h5 => ?_) fun _ _ z => z.elim
  have h6 := SP.ofEx I.ok h5
  have fin : ∀ {σ' : St} {H5 : Hp}, Inv X pins σ' H5 s5 → ∀ Q : Unit → Shared → Prop, (∀ s6, Inv X pins (σ'.set i none) H5 s6 → Q () s6) → wpAny (model X.prog X.w) X.A (do bindName X.env n .none; unbindBehindTheSuite X.env n hpos) Q X.xe s5 := fun {σ' H5} I5 Q k => by
    obtain ⟨m, hn5, hl5⟩ := I5.loc
    refine wpAny_nameGoes_keeps hl hn5 (by rw [I.ok.kind]; rfl) fun h' v hn' sb' => ?_
    exact k _ (I5.lose hN hi hn5 hl5 (t' := s5.toks + 1) hn' sb')
  cases fl with
  | ret u =>
    obtain ⟨v, σ5, H5, I5, r5, q5⟩ := h6
    exact fin I5 _ fun s6 I6 => ⟨v, _, H5, I6, r5, q5⟩
  | next =>
    obtain ⟨σ5, H5, I5, q5⟩ := h6
    exact fin I5 _ fun s6 I6 => ⟨_, H5, I6, q5⟩
  | brk =>
    obtain ⟨σ5, H5, I5, q5⟩ := h5
    exact q5.elim
  | cont =>
    obtain ⟨σ5, H5, I5, q5⟩ := h5
    exact q5.elim
section
variable {X : Cx} {k : Nat} {x y n : Str} {C L : Addr} {ps : List Str} {sp : Sp} {e : Expr} {es : List Expr} {t : TA} {env0 : List Env} {p np pos epos tpos hpos : Pos} {i : Nat} {b0 : Stmt} {suite : List Stmt} {ts : Value → Addr → Option Addr → TS}
/-- try: x(..) except y as n: suite, whatever class it is -/
noncomputable def tTryGo (K : PySem.W.Frag) (C : Addr) (sp : Sp) (t : TA) (i : Nat) (ts : Value → Addr → Option Addr → TS) : TS := fun D σ H => t σ H fun vs H1 => sp vs H1 (fun _ H2 => D.nx σ H2) (fun cls dd H2 => exmOne K cls (.ref C) = some true ∧ ∀ ea, H2 ea = none → ts cls ea dd { nx := fun σ5 H5 => D.nx (σ5.set i none) H5, rt := D.rt } (σ.set i (some (.ref ea))) H2)
theorem ps_tryGo (c : Cal1 X.prog X.w X.K X.mg X.base k x ps sp) (hr : Room k X.A) (hst : X.stack = X.env :: env0) (hfr : X.env.frame = some L) (hg : Gl X x) (hgy : Gl X y) (hmy : X.mg y = some (.ref C)) (ha : ∀ XE, PA (X.wish XE) (e :: es) t)
    (hN : X.N.Nodup) (hi : X.N[i]? = some n) (hl : X.env.scope.names.lookup n = some .local) (hsu : ∀ ea oe cls vs dd, oe.cls = cls → oe.data = .fields vs → oe.dict = dd → PSs (exCx X ea oe) (b0 :: suite) (ts cls ea dd))
    (hdb : (x == ("__debug__" : Str)) = false := by decide) (hdy : (y == ("__debug__" : Str)) = false := by decide)
    (he : starEach (e :: es) X.env = (false, eval e X.env) :: starEach es X.env := by rfl) (hpl : (backTo pos (starEach es X.env)).any (·.1) = false := by rfl) (hsw : swapsWith (.Call (.Name x p) (e :: es) [] pos) none epos.line X.env = pure false := by rfl) :
    PS X (.Try [.Expr (.Call (.Name x p) (e :: es) [] pos) epos] [.ExceptHandler (some (.Name y np)) (some n) (b0 :: suite) hpos] [] [] tpos) (tTryGo X.K C sp t i ts) := by
  intro pins s σ H D I h
  refine wpAny_Try_except (wpAny_execs_cons ?_)
  refine wpAny_mono (wpAny_Expr_any (Q := fun f s1 => f = .next ∧ ∃ H1, Inv X pins σ H1 s1 ∧ D.nx σ H1) (E := Catch X pins D [.ExceptHandler (some (.Name y np)) (some n) (b0 :: suite) hpos])
    (wpAny_mono (try_call (E := fun cls dd H2 => exmOne X.K cls (.ref C) = some true ∧ ∀ ea, H2 ea = none → ts cls ea dd { nx := fun σ5 H5 => D.nx (σ5.set i none) H5, rt := D.rt } (σ.set i (some (.ref ea))) H2) (Q := fun _ H2 => D.nx σ H2) c hr hg (ha _) I (fun H1 s1 v s2 I1 ⟨ea, cls, dd, B, H', ev, F, hx, q⟩ => ?_) h hdb he hpl) (fun v s1 ⟨z, H1, I1, _, q⟩ => ⟨rfl, H1, I1, q⟩) fun _ _ z => z) I.quiet hsw) (fun f s1 ⟨ef, H1, I1, q⟩ => ?_) fun _ _ z => z
  · subst ef
    exact wpAny_execs_nil (wpAny_execs_nil ⟨σ, H1, I1, q⟩)
  · subst ev
    exact catchGo hst hfr hgy hmy hx I1 F hN hi hl (fun oe vs hc hd hq => hsu ea oe cls vs dd hc hd hq) (q ea F.notB) hdy
end
/-- what is read of a class before e.__class__ is asked for -/
structure ClsK (K : Frag) (C : Addr) : Prop where
  ga : findIn K (.ref C) "__getattribute__" = some (some (.builtin "BaseException.__getattribute__"))
  gn : findIn K (.ref C) "__getattr__" = some none
  eo : errOver K C = true
  hd : hasDictIn K C = true
  ca : findIn K (.ref C) "__class__" = some (some (.builtin "object.__class__"))
  cg : specialIn K (.builtin "object.__class__") "__get__" = some (some (.builtin "getset_descriptor.__get__"))
  ct : takesIn K (.builtin "object.__class__") = some true
  mo : mroIn K C (.type "object") = some true
theorem find_data {K : Frag} {C : Addr} {od : Option Obj} {name : Str} {a g : Value} (hd : hasDictIn K C = true) (ha : findIn K (.ref C) name = some (some a)) (hg : specialIn K a "__get__" = some (some g)) (ht : takesIn K a = some true) : findObj K C od name = some (.bind g a) := by
  obtain ⟨cd, hc, _⟩ := any_some hd
  unfold findObj
  rw [hc, Option.bind_some, ha, Option.bind_some]
  simp [hg, ht]
theorem exc_class {prog : Program} {w : World} {A : Around} {E : Value → Shared → Prop} {s : Shared} {K : Frag} {x C : Addr} {ox : Obj} {od : Option Obj} {Q : Option Value → Shared → Prop} (X : K.In s.heap) (I : InstAt s.heap x ox C od) (c : ClsK K C) (h : Q (some (.ref C)) { s with toks := s.toks + 1 }) :
    wpAny (model prog w) A (getAttr? (.ref x) "__class__") Q E s := by
  have FB := PySem.F.attrBase_ValueError
  have hf : findObj K C od "__class__" = some (.bind (.builtin "getset_descriptor.__get__") (.builtin "object.__class__")) := find_data c.hd c.ca c.cg c.ct
  obtain ⟨hp, g, d, t, os⟩ := s
  have L0 := I.type (M := model prog w)
  have L1 := looks_findIn (M := model prog w) X c.ga
  have L2 := looks_findIn (M := model prog w) X c.gn
  have L3 := looks_find (M := model prog w) X I hf
  have S := err_isIn (prog := prog) (w := w) (s := ⟨hp, g, d, t, os⟩) (T := "BaseException") X I c.eo (by decide)
  unfold getAttr? getAttrBy? getAttrBy
  refine wpAny_bind (wpAny_mkText (wpAny_bind (wpAny_attempt (wpAny_holding (wpAny_bind (L0.at (wpAny_bind (L1.at ?_))))))))
  have ne : (Value.builtin "BaseException.__getattribute__" == Value.builtin "object.__getattribute__") = false := by decide +kernel
  dsimp only
  rw [ne, Bool.and_false, if_neg (by decide)]
  unfold getAttrByItsOwn
  refine wpAny_bind ?_
  show wpAny _ _ (typeLookup (.ref C) "__getattr__") _ _ _
  refine L2.at ?_
  unfold callGetattribute
  rw [if_neg (by decide)]
  refine wpAny_bind (wpAny_attempt (wpAny_holding ?_))
  unfold boundAndCalled
  rw [FB.ga.bind (.ref x)]
  refine wpAny_bind (wpAny_pure (wpAny_call (codeAny_call_builtin FB.ga.plain F.entry_bexc_ga ?_)))
  refine @check_slot (model prog w) _ _ ⟨hp, g, d, t + 1, os⟩ "BaseException.__getattribute__" "BaseException" "__getattribute__" (.ref x) [.str "__class__" t] [] _ (by decide +kernel) (by decide +kernel) S (F.args_bexc_ga (.ref x) (.str "__class__" t)) ?_
  unfold Builtin.«object.__getattribute__»
  refine wpAny_bind (wpAny_pure (wpAny_bind (wpAny_pure (wpAny_bind (L0.at (wpAny_bind (L3.at ?_)))))))
  refine wpAny_bind (wpAny_holding (wpAny_call (class_get (s := ⟨hp, g, d, t + 1, os⟩) (ox := ox) (od := od) X I c.mo ?_)))
  show wpAny _ _ (ret (.ref C)) _ _ _
  exact wpAny_pure (handed_on rfl (wpAny_pure h))
theorem cls_obj {K : Frag} {C : Addr} (hd : hasDictIn K C = true) : ∃ oc od cd sl, K.lookup C = some ⟨oc, od, .cls cd, sl⟩ := by
  obtain ⟨cd, hc, _⟩ := any_some hd
  unfold clsIn at hc
  split at hc
  · rename_i a1 a2 a3 a4 ho
    exact ⟨_, _, _, _, ho⟩
  · cases hc
theorem kitx_exc {K : Frag} {x C : Addr} {ox : Obj} {od : Option Obj} (c : ClsK K C) : KitX K (.ref x) (.ref C) (fun h => InstAt h x ox C od) where
  ty := fun _ _ _ I => I.type
  it := fun _ _ X _ => by
    obtain ⟨oc, od1, cd, sl, ho⟩ := cls_obj c.hd
    intro A' Q' E' s' kp q
    unfold isType loadHead
    exact wpAny_bind (wpAny_loadPart (kp _ _ (X _ _ ho)) (wpAny_pure q))
  ne := fun h tp dd its n sl X htp => by
    obtain ⟨oc, od1, cd, sl1, ho⟩ := cls_obj c.hd
    refine Bool.eq_false_iff.mpr fun q => ?_
    have e : C = tp := Value.ref.inj (beq_iff_eq.mp q)
    subst e
    have z := (X _ _ ho).symm.trans htp
    cases z
  ca := fun X I k => exc_class X I c k
/-- isinstance(e, C), of the exception that was caught, C a class of the program's own -/
theorem call_excOwn {X : Cx} {ea : Addr} {oe : Obj} {cls : Value} {vs : Array Value} {dd : Option Addr} (hc : oe.cls = cls) (hdat : oe.data = .fields vs) (hq : oe.dict = dd) : CallR (exCx X ea oe) (.builtin "isinstance") (fun xs H Q => ∃ C0 C b, xs = [.ref ea, .ref C] ∧ cls = .ref C0 ∧ ClsK X.K C0 ∧ kitOne X.K (.ref C0) (.ref C) = some b ∧ (∀ dx, dd = some dx → ∃ fs, H dx = some (.xd fs)) ∧ Q (.bl b) H) := by
  intro pins s σ H xs us Q I r h
  obtain ⟨C0, C, b, rfl, rfl, ck, e, hx, q⟩ := h
  obtain ⟨u, w', rfl, r1, r2⟩ := vals2 r
  cases r1
  cases r2
  have pe := (I.pin (ea, oe) List.mem_cons_self).1
  obtain ⟨od, hod⟩ : ∃ od, InstAt s.heap ea oe C0 od := by
    cases hd : oe.dict with
    | none => exact ⟨none, pe, hc, by unfold notCls; rw [hdat], by rw [hd]; trivial⟩
    | some dx =>
      obtain ⟨fs, hfs⟩ := hx dx (hq.symm.trans hd)
      obtain ⟨mA, n1, r⟩ := (show ObjOk _ _ _ _ dx (.xd fs) from I.hok dx _ hfs)
      obtain ⟨od, ho, hl⟩ := lookIn_ns n1
      exact ⟨some od, pe, hc, by unfold notCls; rw [hdat], by rw [hd]; exact ho⟩
  exact kia_one (kitx_exc (ox := oe) (od := od) ck) I.kIn hod e (fun z => nomatch z) fun tk => ⟨.bl b, H, I.tok tk, rfl, q⟩
end L2

set_option Elab.async false
set_option linter.all false
set_option maxRecDepth 100000
namespace L2
open PySem PySem.Spec PyProof.Rows PySem.W
open Sem (wp)
/-- f"a{e!r}" where e is a number or None -/
theorem pe_fstr1 {X : Cx} {a : Str} {j1 : Nat} {e : Expr} {te : TE} {p p1 p2 : Pos} (he : PE X e te) (hz : a.length ≤ 1000 := by decide) :
    PE X (.JoinedStr [.Constant (.str a) j1 p1, .FormattedValue e 114 none p2] p) (tFR te) := by
  intro pins s σ H Q I h
  have el : (Str.empty ++ a).length = a.length := by rw [strLen_append]; exact Nat.zero_add _
  refine wpAny_JoinedStr (Calls.Constant_str ⟨a, _, rfl, by rw [el, sizeLine_eq]; omega, ?_⟩)
  have key : ∀ (x : Str) (H1 : Hp) (s1 : Shared), x.length ≤ 2000 → Inv X pins σ H1 s1 → Q (.str (Str.empty ++ a ++ x)) H1 → ∀ t, wpAny (model X.prog X.w) X.A (formatField (.str x t) Str.empty)
      (fun v s2 => ∃ y t, v = .str y t ∧ (Str.empty ++ a ++ y).length ≤ sizeLine ∧ Joins (model X.prog X.w) X.A X.xe [] (Str.empty ++ a ++ y) (fun out s3 => out.length ≤ sizeLine ∧ EP X pins σ Q (.str out s3.toks) { s3 with toks := s3.toks + 1 }) s2) X.xe s1 := fun x H1 s1 hx I1 q t => by
    have l1 : (Str.empty ++ a ++ x).length ≤ sizeLine := by rw [strLen_append, el, sizeLine_eq]; omega
    refine PyProof.Rows.formatField_str (fun t' tk => ⟨x, t', rfl, l1, l1, ⟨.str _, H1, (I1.tok tk).tok _, ⟨_, rfl⟩, q⟩⟩) (by rw [sizeLine_eq]; omega)
  refine wpAny_FormattedValue_repr (wpAny_mono (he pins _ σ H _ (I.tok _) h) (fun u s1 ⟨v, H1, I1, r, hv, q⟩ => ?_) fun _ _ z => z)
  rcases hv with ⟨n, rfl, hn⟩ | rfl
  · obtain ⟨t, rfl⟩ := r
    refine wpAny_pyReprObj_gives (typeIs_int _ n t) F.slot_int_repr F.entry_int_repr (F.args_int_repr_1 _) (gives_int_repr n t hn) (key _ H1 _ ?_ (I1.tok _) (q _) _) (hx := int_text_fits hn)
    have e := int_text_length_le (k := 1920) (by decide) hn
    rw [PySem.ofString_length]; omega
  · obtain rfl : u = Value.none := r
    exact wpAny_pyReprObj_gives (typeIs_none _) F.slot_NoneType_repr F.entry_NoneType_repr (F.args_NoneType_repr_1 _) gives_none_repr (key _ H1 _ (by decide) (I1.tok _) (q _) _) (hx := by decide)
end L2

set_option Elab.async false
set_option linter.all false
set_option maxRecDepth 100000
/-! s.endswith(t); lists of truth values that are the same -/
namespace L2
open PySem PySem.Spec PyProof.Rows
theorem mt_endsw {X : Cx} : MtM X "str.endswith" (fun x vs H Q => ∃ z y, x = .str z ∧ vs = [.str y] ∧ Q (.bl (Txt.endswith z y)) H) := by
  intro pins s σ H x vs v us Q I rx rv h
  obtain ⟨z, y, rfl, rfl, q⟩ := h
  obtain ⟨t, rfl⟩ := rx
  obtain ⟨u, rfl, ru⟩ := rv.one
  obtain ⟨tu, rfl⟩ := ru
  exact SC.endswith ⟨.bl _, H, I, rfl, q⟩
theorem bls_are : ∀ {bs : List Bool} {us : List Value}, Vals (bs.map V.bl) us → us = bs.map Value.bool
  | [], [], _ => rfl
  | b :: bs, u :: us, h => by
    cases h with
    | cons h1 h2 =>
      rw [bls_are h2]
      cases (show u = Value.bool b from h1)
      rfl
noncomputable def rEqB : R2 := fun x y H Q => ∃ (a b : Addr) (xs ys : List Bool), x = .ref a ∧ y = .ref b ∧ H a = some (.lst (xs.map V.bl)) ∧ H b = some (.lst (ys.map V.bl)) ∧ xs.length = ys.length ∧ Q (.bl (decide (xs = ys))) H
theorem op_eqB {X : Cx} (hu : X.A.units + 1 < cLine) : OpR X (compareOp .Eq) rEqB := by
  intro pins s σ H x y v u Q I rx ry h
  obtain ⟨a, b, xs, ys, rfl, rfl, ha, hb, hl, q⟩ := h
  cases rx
  cases ry
  obtain ⟨its, rv, p, _⟩ := I.list (SqL.of (K := X.K) ha)
  obtain ⟨its', rv', p', _⟩ := I.list (SqL.of (K := X.K) hb)
  have e1 := bls_are rv
  have e2 := bls_are rv'
  subst e1 e2
  have hd : (List.range ((xs.map Value.bool).toArray).size).all (fun j => (xs.getD j false == ys.getD j false)) = decide (xs = ys) := by
    rw [List.size_toArray, List.length_map]
    apply Bool.eq_iff_iff.mpr
    rw [all_range, decide_eq_true_iff]
    constructor
    · intro z
      refine List.ext_getElem hl fun j h1 h2 => ?_
      have := z j h1
      rw [List.getD_eq_getElem?_getD, List.getD_eq_getElem?_getD, List.getElem?_eq_getElem h1, List.getElem?_eq_getElem h2] at this
      simpa using this
    · intro z j hj
      rw [z]
      simp
  refine SeqAt.RcAt.lists (A := X.A) (s := s) (e := fun j => (xs.getD j false == ys.getD j false)) p.isList p'.isList (by simp only [List.size_toArray, List.length_map]; omega) (by omega) (fun j h1 h2 => ?_) X.prog X.w _ _ ?_
  · simp only [List.size_toArray, List.length_map] at h1 h2
    have g1 : (xs.map Value.bool).toArray[j]'(by simpa using h1) = Value.bool xs[j] := by simp
    have g2 : (ys.map Value.bool).toArray[j]'(by simpa using h2) = Value.bool ys[j] := by simp
    rw [g1, g2]
    have g3 : xs.getD j false = xs[j] := by rw [List.getD_eq_getElem?_getD, List.getElem?_eq_getElem h1]; rfl
    have g4 : ys.getD j false = ys[j] := by rw [List.getD_eq_getElem?_getD, List.getElem?_eq_getElem h2]; rfl
    rw [g3, g4]
    exact SeqAt.EqAt.bool_bool _ _
  · rw [hd]
    exact ⟨.bl _, H, I, rfl, q⟩
section
variable {es r : List Expr} {pos : Pos} {env : Env}
theorem star_tup {x1} : starEach (.Tuple es x1 pos :: r) env = (false, eval (.Tuple es x1 pos) env) :: starEach r env := rfl
theorem star_lst : starEach (.List es pos :: r) env = (false, eval (.List es pos) env) :: starEach r env := rfl
theorem star_con {c : Const} {j : Nat} : starEach (.Constant c j pos :: r) env = (false, eval (.Constant c j pos) env) :: starEach r env := rfl
end
end L2

set_option Elab.async false
set_option linter.all false
set_option maxRecDepth 100000
/-! Trees of tables. -/
namespace GT
open PySem L2
/-! ### what is new: no list that was there -/
noncomputable def isL : Option HO → Bool
  | some (.lst _) => true
  | _ => false
noncomputable def less (H H' : Hp) : Hp := fun a => if isL (H a) = true then none else H' a
theorem less_sub {H H' : Hp} : Same (less H H') H' := fun a o e => by
  unfold less at e
  split at e
  · cases e
  · exact e
theorem less_mono {H H1 H2 : Hp} (s : Same H1 H2) : Same (less H H1) (less H H2) := fun a o e => by
  unfold less at e ⊢
  split at e
  · cases e
  · rename_i q
    rw [if_neg q]
    exact s a o e
/-- fewer lists are left out -/
theorem less_less {H H1 H2 : Hp} (h : ∀ a xs, H a = some (.lst xs) → ∃ ys, H1 a = some (.lst ys)) : Same (less H1 H2) (less H H2) := fun a o e => by
  unfold less at e ⊢
  split at e
  · cases e
  · rename_i q
    rw [if_neg]
    · exact e
    · intro z
      cases eh : H a with
      | none => rw [eh] at z; cases z
      | some oo =>
        rw [eh] at z
        cases oo with
        | lst xs =>
          obtain ⟨ys, hy⟩ := h a xs eh
          rw [hy] at q
          exact q rfl
        | _ => cases z
theorem less_same {H H1 H2 : Hp} (s : Same H H1) : Same (less H1 H2) (less H H2) := less_less fun a xs e => ⟨xs, s a _ e⟩
theorem less_upd {H H' : Hp} {m : Addr} {xs : List V} {o : HO} (h : H m = some (.lst xs)) : less H (upd H' m o) = less H H' := by
  funext a
  unfold less
  by_cases e : a = m
  · subst e
    rw [h]
    rfl
  · rw [upd_ne e]
theorem less_new {H H' : Hp} {a : Addr} (h : H a = none) : less H H' a = H' a := by
  unfold less
  rw [h]
  rfl
theorem less_tup {H H' : Hp} {a : Addr} {xs : List V} (s : Same H H') (h : H' a = some (.tup xs)) : less H H' a = some (.tup xs) := by
  unfold less
  rw [if_neg]
  · exact h
  · intro z
    cases eh : H a with
    | none => rw [eh] at z; cases z
    | some oo =>
      rw [eh] at z
      cases oo with
      | lst ys => rw [s a _ eh] at h; cases h
      | _ => cases z
theorem less_tups {H H' : Hp} (s : Same H H') : SameT H' (less H H') := fun a xs e => less_tup s e
theorem tab_less {H H' : Hp} {R C : Nat} {cs : List Cell} {v : V} (s : Same H H') (h : At H' (tabD R C cs) v) (f : FreshT H H' v) : At (less H H') (tabD R C cs) v := by
  obtain ⟨p, l, ys, rfl, hp, hl, ry⟩ := tab_inv h
  obtain ⟨p', x, y, l', e, hp', hl'⟩ := f
  cases e
  rw [hp] at hp'
  cases hp'
  exact tab_mk (less_tup s hp) (by rw [less_new hl']; exact hl) (ry.monoT (cells_nol cs) (less_tups s))
/-! ### the bands' tables -/
noncomputable def partT (C : Nat) (cs : List Cell) (b : Nat × Nat) : Tab := ⟨b.2 - b.1, C, cutL b.1 0 (b.2 - b.1) C cs⟩
structure BandOk (R : Nat) (cs : List Cell) (b : Nat × Nat) : Prop where
  lt : b.1 < b.2
  le : b.2 ≤ R
  f1 : cs.any (spansB b.1) = false
  f2 : cs.any (spansB b.2) = false
theorem bands_ok {R C : Nat} {cs : List Cell} (t : Part R C cs) (hR : 1 ≤ R) {b : Nat × Nat} (h : b ∈ bandsL R cs) : BandOk R cs b := by
  obtain ⟨i, hi, e⟩ := List.mem_iff_getElem.mp h
  obtain ⟨g1, g2⟩ := bands_get (k := i) (b := b) (by rw [List.getElem?_eq_getElem hi, e])
  have m2 := List.mem_of_getElem? g2
  refine ⟨sorted_next (ends_sorted hR) g1 g2, ?_, ends_free t (List.mem_of_getElem? g1), ends_free t m2⟩
  rcases mem_ends.mp m2 with z | z | z <;> omega
theorem span_no {cs : List Cell} {n : Nat} (h : cs.any (spansB n) = false) {x : Cell} (hx : x ∈ cs) : ¬ (x.top < n ∧ n < x.top + x.h) := fun z => by
  rw [List.any_eq_false] at h
  refine h x hx ?_
  unfold spansB
  exact decide_eq_true z
theorem BandOk.no {R C : Nat} {cs : List Cell} {b : Nat × Nat} (o : BandOk R cs b) (t : Part R C cs) : ∀ x ∈ cs, meetsB b.1 0 (b.2 - b.1) C x = true → liesB b.1 0 (b.2 - b.1) C x = true := fun x hx hm => by
  have f := t.fit x hx
  have a := f.across
  have h1 := f.h1
  have m := meets_iff.mp hm
  have s1 := span_no o.f1 hx
  have s2 := span_no o.f2 hx
  have lt := o.lt
  exact lies_iff.mpr (by omega)
/-! ### the tree of a table -/
end GT

set_option Elab.async false
set_option linter.all false
set_option maxRecDepth 100000
/-! max([..]) of a list of whole numbers -/
namespace L2
open PySem PySem.Spec PyProof.Rows
theorem ints_are : ∀ {ns : List Int} {us : List Value}, Vals (ns.map V.int) us → IntsAre us ns
  | [], _, .nil => .nil
  | n :: ns, _, .cons r t => by
    obtain ⟨tk, rfl⟩ := r
    exact .cons n tk (ints_are t)
end L2

set_option Elab.async false
set_option linter.all false
set_option maxRecDepth 100000
/-! Depths and leaves. -/
namespace GT
open PySem L2
end GT

set_option Elab.async false
set_option linter.all false
set_option maxRecDepth 100000
/-! [.. for a, b in zip(xs, ys)]; xs.pop() -/
namespace L2
open PySem PySem.Spec PyProof.Rows
end L2
namespace GT
open PySem L2
end GT

set_option Elab.async false
set_option linter.all false
/-! spans, sizes and chains: plain facts -/
namespace SZ
/-! ### the chain -/
end SZ

set_option Elab.async false
set_option linter.all false
set_option maxRecDepth 100000
/-! sum([..]), min([..]) of whole numbers; [.. for i, x in enumerate(xs)] -/
namespace L2
open PySem PySem.Spec PyProof.Rows
noncomputable def rSumL (K : PySem.W.Frag) : List V → Hp → VK → Prop := fun xs H Q => ∃ (a : Addr) (ns : List Int), xs = [.ref a] ∧ SqL K H a (ns.map V.int) ∧ Q (.int ns.sum) H
theorem call_sumL {X : Cx} {K : PySem.W.Frag} (hK : X.K = K) (hc : X.calm = true) : CallR X (.builtin "sum") (rSumL K) := by
  subst hK
  intro pins s σ H xs us Q I rv h
  obtain ⟨l, ns, rfl, hl, q⟩ := h
  obtain ⟨u, rfl, ru⟩ := vals1 rv
  cases ru
  obtain ⟨vs, r2, pl, hz⟩ := I.list hl
  have hi := ints_are r2
  have hL := pl.isList
  obtain ⟨zs, e⟩ := hi.allInts.items
  have hns : ns = zs.toList.map (·.1) := by
    rw [← hi.numsOf, ← nums_intItems, ← e]
  have e2 : preSum (numAt zs) zs.size = ns.sum := by
    rw [preSum_eq, List.take_of_length_le (by simp), hns]
  rw [e] at hL
  refine sum_intListG (I.ok.hd hc) hL fun h' tk t' hk => ?_
  rw [e2]
  exact ⟨.int _, _, I.kept (t' := tk) hk, ⟨t', rfl⟩, q⟩
open SZ
end L2

set_option Elab.async false
set_option linter.all false
set_option maxRecDepth 100000
/-! Strips: a table's bands are told again by the table that they are stacked to. -/
namespace GT
open PySem L2
noncomputable def runD (r : List Tab) : Dd := .lst (r.map Tab.D)
theorem tabs_get {H : Hp} {ts : List Tab} {ys : List V} {i : Nat} {x : V} (r : AtL H (ts.map Tab.D) ys) (h : ys[i]? = some x) : ∃ t, ts[i]? = some t ∧ At H (tabD t.R t.C t.cs) x := by
  obtain ⟨d, hd, ad⟩ := Paired.get2 r h
  rw [List.getElem?_map] at hd
  obtain ⟨s, hs, rfl⟩ := Option.map_eq_some_iff.mp hd
  exact ⟨s, hs, ad⟩
end GT

set_option Elab.async false
set_option linter.all false
set_option maxRecDepth 100000
/-! a tuple times a number -/
namespace L2
open PySem PySem.Spec PyProof.Rows PySem.W
open Sem (wp)
section
variable {prog : Program} {w : World} {A : Around} {E : Value → Shared → Prop} {hp : Heap} {g : Array GenState} {d : Drawn} {tk : Nat} {os : OsState} {a : Addr} {dd : Option Addr} {sl : Array (Option Value)} {its : Array Value} {n : Nat} {k : Int} {t : Tok}
end
end L2

set_option Elab.async false
set_option linter.all false
set_option maxRecDepth 100000
/-! () + t, t + u; a tuple times a number, for a named part of the text -/
namespace L2
open PySem PySem.Spec PyProof.Rows PySem.W
open Sem (wp)
theorem add_first {t b : Addr} {i1 i2 : Array Value} {n n2 : Nat} {dd dd2 : Option Addr} {sl sl2 : Array (Option Value)} (h1 : i1.isEmpty = true) :
    Meets (Builtin.«tuple.__add__» ⟨[.ref t, .ref b], []⟩) (fun _ R s => s.heap.get? t = some { cls := .type "tuple", dict := dd, data := .seq i1 n, slots := sl } ∧ s.heap.get? b = some { cls := .type "tuple", dict := dd2, data := .seq i2 n2, slots := sl2 } ∧ R (.ok (.ret (.ref b))) s) :=
  .of_wp fun prog w A R s h => by
    obtain ⟨hp, g, d, tk, os⟩ := s
    obtain ⟨e1, e2, h⟩ := h
    have f2 := AutoSeq1.sub_tuple_tuple
    wp_walk using wpAny_loadPart' e1, wpAny_loadPart' e2
    exact ⟨_, rfl, h⟩
/-- t + u, whatever t is -/
noncomputable def rCatA (K : PySem.W.Frag) : R2 := fun x y H Q => ∃ a b xs ys, x = .ref a ∧ y = .ref b ∧ SqT K H a xs ∧ SqT K H b ys ∧ xs.length + ys.length ≤ sizeLine ∧ (xs = [] → Q (.ref b) H) ∧ (xs ≠ [] → ys = [] → Q (.ref a) H) ∧ (xs ≠ [] → ys ≠ [] → ∀ p, H p = none → Q (.ref p) (upd H p (.tup (xs ++ ys))))
theorem op_catA {X : Cx} : OpR X (binaryOp .Add) (rCatA X.K) := by
  intro pins s σ H x y v u Q I rx ry h
  obtain ⟨a, b, xs, ys, rfl, rfl, ha, hb, hz, q0, q1, q2⟩ := h
  by_cases hx : xs = []
  · subst hx
    cases rx
    cases ry
    obtain ⟨its, r1, p1, _⟩ := I.tuple ha
    obtain ⟨its2, r2, p2, _⟩ := I.tuple hb
    cases r1
    obtain ⟨⟨cls, dd, data, sl⟩, ho, hc, n, hd⟩ := id p1
    obtain ⟨⟨cls2, dd2, data2, sl2⟩, ho2, hc2, n2, hd2⟩ := id p2
    simp only at hc hd hc2 hd2
    subst hc hd hc2 hd2
    exact concat_meets ⟨_, ho, rfl⟩ ⟨_, ho2, rfl⟩ noFill_tuple_add seq_tuple_add PySem.F.slot_tuple_add PySem.F.entry_tuple_add (PySem.F.args_tuple_add_2 _ _) (add_first (t := a) (b := b) rfl) ⟨ho, ho2, ⟨.ref b, H, I, rfl, q0 rfl⟩⟩
  · exact op_catT pins s σ H _ _ v u Q I rx ry ⟨a, b, xs, ys, rfl, rfl, ha, hb, hx, hz, q1 hx, q2 hx⟩
theorem op_catAK {X : Cx} {K : PySem.W.Frag} (h : X.K = K) : OpR X (binaryOp .Add) (rCatA K) := by subst h; exact op_catA
end L2

set_option Elab.async false
set_option linter.all false
/-! A block of cells joined to one. -/
namespace GT
open PySem L2
end GT

set_option Elab.async false
set_option linter.all false
set_option autoImplicit false
set_option maxRecDepth 100000
namespace KL
theorem ex_1 {α0 : Type} {P : α0 → Prop} {G : Prop} (h : ∃ a, P a) (k : ∀ a, P a → G) : G := by
  obtain ⟨a, p⟩ := h
  exact k a p
theorem ex_2 {α0 α1 : Type} {P : α0 → α1 → Prop} {G : Prop} (h : ∃ a b, P a b) (k : ∀ a b, P a b → G) : G := by
  obtain ⟨a, b, p⟩ := h
  exact k a b p
open PySem L2 GT PyProof.Rows
noncomputable def top (i : Nat) : Stmt := PySem.Challenge.pw_gridframe_k39_refusals_stand_apart.main.body.getD i (.Pass ⟨0, 0, 0, 0⟩)
structure Txt (mg : Str → Option Value) : Prop where
  len : mg "len" = none
  range : mg "range" = none
  isinstance : mg "isinstance" = none
  int : mg "int" = none
  bool : mg "bool" = none
  tuple : mg "tuple" = none
  list : mg "list" = none
  sorted : mg "sorted" = none
  enumerate : mg "enumerate" = none
  zip : mg "zip" = none
  str : mg "str" = none
  all : mg "all" = none
  min : mg "min" = none
  max : mg "max" = none
  sum : mg "sum" = none
  ValueError : mg "ValueError" = none
  any : mg "any" = none
  reversed : mg "reversed" = none
noncomputable def scopeOf (e : Expr) : Scope := match e with
  | .ListComp _ _ sc _ => sc
  | _ => { kind := .function, names := [], isGenerator := false, isCoroutine := false }
noncomputable def exprOf (s : Stmt) : Expr := match s with
  | .Expr e _ => e
  | .Assign _ e _ => e
  | .Return (some e) _ => e
  | _ => .Constant .none 0 ⟨0, 0, 0, 0⟩
noncomputable def operandOf (e : Expr) : Expr := match e with
  | .UnaryOp _ x _ => x
  | .Compare x _ _ _ => x
  | _ => e
noncomputable def argOf (e : Expr) (i : Nat) : Expr := match e with
  | .Call _ as _ _ => as.getD i (.Constant .none 0 ⟨0, 0, 0, 0⟩)
  | _ => .Constant .none 0 ⟨0, 0, 0, 0⟩
noncomputable def bodyOf (s : Stmt) : List Stmt := match s with
  | .For _ _ b _ _ => b
  | .If _ b _ _ => b
  | _ => []
noncomputable def nth (l : List Stmt) (i : Nat) : Stmt := l.getD i (.Pass ⟨0, 0, 0, 0⟩)
noncomputable def spCell (K : PySem.W.Frag) : Sp := fun vs H Q _ => ∃ (a : Addr) (ns : List Int) (k : Nat), vs = [.ref a, .int k] ∧ SqL K H a (ns.map V.int) ∧ Q (.int (ns.getD k 0)) H
section
variable {P : Program} {w : World} {K : PySem.W.Frag} {mg : Str → Option Value} {base : Heap}

theorem sc__law_cell : FnScope ["_law_script", "_law_k"] ["_law_script", "_law_k"] (defScope (top 93)) := ⟨rfl, rfl, rfl, by decide +kernel, rfl, by decide +kernel, by decide +kernel⟩
theorem ok__law_cell (T : Txt mg) (f : Addr) (fd : FuncData) (F : Fun K "_law_cell" "_law_cell" (top 93) f fd) : FnOk P w K mg base CX0 1 f fd ["_law_script", "_law_k"] (spCell K) := by
  refine F.ok sc__law_cell (fun vs H Q E h => ?_) (fun cdv A outer s H vs Q E hr h => ?_)
  · obtain ⟨a, ns, k, rfl, _⟩ := h; rfl
  · obtain ⟨a, ns, k, rfl, hs, q⟩ := h
    refine ⟨_, (pss_cons (ps_if (pt_cmpR op_lt (pv 1) (pe_callB (call_lenK (K := K) rfl) (by rfl) T.len PySem.boot_len (pa_cons (pv 0) pa_nil)) (nomark _)) (pss_one (ps_ret (pe_ix (ix_listK (K := K) rfl) (pv 0) (pv 1) (fun _ _ => rfl)))) pss_nil)
      (pss_one (ps_ret pe_int))), ?_⟩
    refine ⟨_, rfl, _, rfl, a, _, rfl, .inl hs, _, _, rfl, rfl, _, rfl, ?_⟩
    refine ite2 (fun hlt => ?_) (fun hlt => ?_)
    · have hlt := of_decide_eq_true hlt
      rw [List.length_map] at hlt
      refine ⟨_, rfl, _, rfl, a, _, (k : Int), (.int (ns.getD k 0)), rfl, rfl, hs, atI_nat ?_, q⟩
      rw [List.getElem?_map, List.getElem?_eq_getElem (by omega)]
      simp [List.getD_eq_getElem?_getD, List.getElem?_eq_getElem (show k < ns.length by omega)]
    · have hlt : ¬ ((k : Int) < ((ns.map V.int).length : Int)) := fun z => hlt (decide_eq_true z)
      rw [List.length_map] at hlt
      have e : ns.getD k 0 = 0 := by
        rw [List.getD_eq_getElem?_getD, List.getElem?_eq_none (by omega)]; rfl
      rw [e] at q
      exact q

end
end KL

set_option Elab.async false
set_option linter.all false
set_option autoImplicit false
set_option maxRecDepth 100000
namespace KL
open PySem L2 GT PyProof.Rows
/-! ### BadTable -/
noncomputable abbrev stI_BadTable : Stmt := (clsBody (top 6)).getD 0 (.Pass ⟨0, 0, 0, 0⟩)
theorem sc_iBadTable : FnScope ["self", "at"] ["self", "at"] (defScope stI_BadTable) := ⟨rfl, rfl, rfl, by decide +kernel, rfl, by decide +kernel, by decide +kernel⟩
set_option maxHeartbeats 4000000 in
theorem j_BadTable {P : Program} {w : World} {K : PySem.W.Frag} {mg : Str → Option Value} {base : Heap} {C : Addr} (X : K.In base) (G : base.Ns mainGlobals mg) (J : JX K "BadTable" "BadTable.__init__" stI_BadTable C) : ExcJ P w K mg base "BadTable" C := by
  obtain ⟨fI, fd, e, q, F⟩ := J.ex
  obtain ⟨Cg, g0, g1, g2, g3⟩ := J.g
  have O := ownI_mk X G e q
  refine ⟨⟨fI, fd, ["self", "at"], O, ?_, F.binds (fun _ _ _ _ _ _ => two_vals fun _ _ => rfl)⟩, PySem.W.mg_of X G e, J.k, J.n, J.m⟩
  refine F.ok sc_iBadTable (fun vs H Q E h => ?_) (fun cdv A outer s H vs Q E hr h => ?_)
  · obtain ⟨e1, y, rfl, _⟩ := h; rfl
  · obtain ⟨e1, y, rfl, hy, hH, qn⟩ := h
    refine ⟨_, pss_cons (ps_expr (pe_baseInit (call_bexc PySem.F.excBase_ValueError O) rfl (PySem.W.mg_of X G g0) g1 g2 g3 rfl (pa_cons (pv 0) (pa_cons (pe_fstr1 (pv 1)) pa_nil)))) (pss_one (ps_setExc J.k J.n (pv 0) (pv 1))), ?_⟩
    exact ⟨_, rfl, _, rfl, hy, fun x => ⟨_, x, rfl, hH, _, rfl, _, rfl, _, rfl, hH, qn⟩⟩
/-! ### Crossing -/
noncomputable abbrev stI_Crossing : Stmt := (clsBody (top 7)).getD 0 (.Pass ⟨0, 0, 0, 0⟩)
theorem sc_iCrossing : FnScope ["self", "at"] ["self", "at"] (defScope stI_Crossing) := ⟨rfl, rfl, rfl, by decide +kernel, rfl, by decide +kernel, by decide +kernel⟩
set_option maxHeartbeats 4000000 in
theorem j_Crossing {P : Program} {w : World} {K : PySem.W.Frag} {mg : Str → Option Value} {base : Heap} {C : Addr} (X : K.In base) (G : base.Ns mainGlobals mg) (J : JX K "Crossing" "Crossing.__init__" stI_Crossing C) : ExcJ P w K mg base "Crossing" C := by
  obtain ⟨fI, fd, e, q, F⟩ := J.ex
  obtain ⟨Cg, g0, g1, g2, g3⟩ := J.g
  have O := ownI_mk X G e q
  refine ⟨⟨fI, fd, ["self", "at"], O, ?_, F.binds (fun _ _ _ _ _ _ => two_vals fun _ _ => rfl)⟩, PySem.W.mg_of X G e, J.k, J.n, J.m⟩
  refine F.ok sc_iCrossing (fun vs H Q E h => ?_) (fun cdv A outer s H vs Q E hr h => ?_)
  · obtain ⟨e1, y, rfl, _⟩ := h; rfl
  · obtain ⟨e1, y, rfl, hy, hH, qn⟩ := h
    refine ⟨_, pss_cons (ps_expr (pe_baseInit (call_bexc PySem.F.excBase_ValueError O) rfl (PySem.W.mg_of X G g0) g1 g2 g3 rfl (pa_cons (pv 0) (pa_cons (pe_fstr (pv 1)) pa_nil)))) (pss_one (ps_setExc J.k J.n (pv 0) (pv 1))), ?_⟩
    exact ⟨_, rfl, _, rfl, hy, fun x => ⟨_, x, rfl, hH, _, rfl, _, rfl, _, rfl, hH, qn⟩⟩
/-! ### TooTall -/
noncomputable abbrev stI_TooTall : Stmt := (clsBody (top 8)).getD 0 (.Pass ⟨0, 0, 0, 0⟩)
theorem sc_iTooTall : FnScope ["self", "at"] ["self", "at"] (defScope stI_TooTall) := ⟨rfl, rfl, rfl, by decide +kernel, rfl, by decide +kernel, by decide +kernel⟩
set_option maxHeartbeats 4000000 in
theorem j_TooTall {P : Program} {w : World} {K : PySem.W.Frag} {mg : Str → Option Value} {base : Heap} {C : Addr} (X : K.In base) (G : base.Ns mainGlobals mg) (J : JX K "TooTall" "TooTall.__init__" stI_TooTall C) : ExcJ P w K mg base "TooTall" C := by
  obtain ⟨fI, fd, e, q, F⟩ := J.ex
  obtain ⟨Cg, g0, g1, g2, g3⟩ := J.g
  have O := ownI_mk X G e q
  refine ⟨⟨fI, fd, ["self", "at"], O, ?_, F.binds (fun _ _ _ _ _ _ => two_vals fun _ _ => rfl)⟩, PySem.W.mg_of X G e, J.k, J.n, J.m⟩
  refine F.ok sc_iTooTall (fun vs H Q E h => ?_) (fun cdv A outer s H vs Q E hr h => ?_)
  · obtain ⟨e1, y, rfl, _⟩ := h; rfl
  · obtain ⟨e1, y, rfl, hy, hH, qn⟩ := h
    refine ⟨_, pss_cons (ps_expr (pe_baseInit (call_bexc PySem.F.excBase_ValueError O) rfl (PySem.W.mg_of X G g0) g1 g2 g3 rfl (pa_cons (pv 0) (pa_cons (pe_fstr (pv 1)) pa_nil)))) (pss_one (ps_setExc J.k J.n (pv 0) (pv 1))), ?_⟩
    exact ⟨_, rfl, _, rfl, hy, fun x => ⟨_, x, rfl, hH, _, rfl, _, rfl, _, rfl, hH, qn⟩⟩
/-! ### cells moved, blocks cut out -/
noncomputable def blockD (t l h w : Nat) : Dd := .tup [.int (t : Int), .int (l : Int), .int (h : Int), .int (w : Int)]
theorem block_inv {H : Hp} {t l h w : Nat} {v : V} (q : At H (blockD t l h w) v) : ∃ a, v = .ref a ∧ H a = some (.tup [.int (t : Int), .int (l : Int), .int (h : Int), .int (w : Int)]) := by
  obtain ⟨a, xs, rfl, ha, r⟩ := q.tup_inv
  refine ⟨a, rfl, ?_⟩
  cases r with
  | cons h1 r =>
    cases r with
    | cons h2 r =>
      cases r with
      | cons h3 r =>
        cases r with
        | cons h4 r =>
          cases r
          rw [h1.int_inv, h2.int_inv, h3.int_inv, h4.int_inv] at ha
          exact ha
noncomputable def spMoved : Sp := fun vs H Q _ => ∃ (v : V) (x y : Cell) (d e : Int), vs = [v, .int d, .int e] ∧ At H x.D v ∧ (y.top : Int) = x.top + d ∧ (y.left : Int) = x.left + e ∧ y.h = x.h ∧ y.w = x.w ∧ y.words = x.words ∧ ∀ v' H', Same H H' → At H' y.D v' → Q v' H'
noncomputable def spBlockB (g : Nat → Nat → Nat → Nat → Cell → Bool) : Sp := fun vs H Q _ => ∃ (v u : V) (x : Cell) (t l h w : Nat), vs = [v, u] ∧ At H x.D v ∧ At H (blockD t l h w) u ∧ ∀ b, b = g t l h w x → Q (.bl b) H
noncomputable def spCellsIn : Sp := fun vs H Q _ => ∃ (v u : V) (R C : Nat) (cs : List Cell) (t l h w : Nat), vs = [v, u] ∧ At H (tabD R C cs) v ∧ At H (blockD t l h w) u ∧ cs.length ≤ 1000 ∧ (∀ x ∈ cs, meetsB t l h w x = true → liesB t l h w x = true) ∧
  ∀ (r : Addr) (xs : List V) (H' : Hp), Same H H' → H' r = some (.lst xs) → AtL H' ((cs.filter (liesB t l h w)).map Cell.D) xs → Q (.ref r) H'
noncomputable def spCutOut : Sp := fun vs H Q _ => ∃ (v : V) (R C : Nat) (cs : List Cell) (t l h w : Nat), vs = [v, .int t, .int l, .int h, .int w] ∧ At H (tabD R C cs) v ∧ cs.length ≤ 1000 ∧ (∀ x ∈ cs, meetsB t l h w x = true → liesB t l h w x = true) ∧
  ∀ (v' : V) (H' : Hp), Same H H' → At H' (tabD h w (cutL t l h w cs)) v' → FreshT H H' v' → Q v' H'
section
variable {P : Program} {w : World} {K : PySem.W.Frag} {mg : Str → Option Value} {base : Heap}
theorem sc_moved_cell : FnScope ["cell", "down", "right"] ["cell", "down", "right"] (defScope (top 28)) := ⟨rfl, rfl, rfl, by decide +kernel, rfl, by decide +kernel, by decide +kernel⟩
set_option maxHeartbeats 4000000 in
theorem ok_moved_cell (f : Addr) (fd : FuncData) (F : Fun K "moved_cell" "moved_cell" (top 28) f fd) : FnOk P w K mg base CX0 1 f fd ["cell", "down", "right"] spMoved := by
  refine F.ok sc_moved_cell (fun vs H Q E h => ?_) (fun cdv A outer s H vs Q E hr h => ?_)
  · obtain ⟨v, x, y, d, e, rfl, _⟩ := h; rfl
  · obtain ⟨v, x, y, d, e, rfl, hx, e1, e2, e3, e4, e5, q⟩ := h
    obtain ⟨a, b, ws, rfl, ha, hb, aw⟩ := Cell.at_inv hx
    refine ⟨_, (pss_one (ps_ret (pe_op (op_catTK (K := K) rfl) (pe_tup (pa_cons (pe_op op_add (pe_ix (ix_tupK (K := K) rfl) (pv 0) pe_int (fun _ _ => rfl)) (pv 1)) (pa_cons (pe_op op_add (pe_ix (ix_tupK (K := K) rfl) (pv 0) pe_int (fun _ _ => rfl)) (pv 2)) pa_nil))) (pe_slice (sl_tupK (K := K) rfl) (pv 0) (po_some pe_int) po_none)))), ?_⟩
    refine ⟨_, rfl, a, _, (0 : Int), _, rfl, rfl, SqT.of ha, rfl, _, rfl, _, _, rfl, rfl, _, rfl, a, _, (1 : Int), _, rfl, rfl, SqT.of ha, rfl, _, rfl, _, _, rfl, rfl, by show 2 ≤ sizeLine; decide, fun t1 ht1 => ?_⟩
    dsimp only
    rw [← e1, ← e2]
    have s5 := Same.upd_new (o := .tup [.int (y.top : Int), .int (y.left : Int)]) ht1
    refine ⟨_, rfl, _, rfl, a, _, rfl, SqT.of (s5 _ _ ha), (fun z => absurd z.1 (by show ¬ HT.sIx 5 0 (some 2) = 0; decide)), fun u1 hu1 => ?_⟩
    have s6 := Same.upd_new (o := .tup (cutV [.int x.top, .int x.left, .int x.h, .int x.w, .ref b] (some 2) none)) hu1
    refine ⟨t1, u1, _, _, rfl, rfl, SqT.of (s6 _ _ upd_same), SqT.of upd_same, (by intro z; cases z), (by show 5 ≤ sizeLine; decide), (fun z => by cases z), fun _ q1 hq1 => ?_⟩
    have s7 := Same.upd_new (o := .tup ([.int (y.top : Int), .int (y.left : Int)] ++ cutV [.int x.top, .int x.left, .int x.h, .int x.w, .ref b] (some 2) none)) hq1
    have s37 := (s5.trans s6).trans s7
    refine q _ _ s37 (Cell.at_mk (x := y) (b := b) (ws := ws) ?_ (s37 _ _ hb) (by rw [e5]; exact aw.mono s37))
    rw [e3, e4]
    exact upd_same

theorem sc_meets : FnScope ["cell", "block"] ["cell", "block"] (defScope (top 42)) := ⟨rfl, rfl, rfl, by decide +kernel, rfl, by decide +kernel, by decide +kernel⟩
set_option maxHeartbeats 4000000 in
theorem ok_meets (f : Addr) (fd : FuncData) (F : Fun K "meets" "meets" (top 42) f fd) : FnOk P w K mg base CX0 1 f fd ["cell", "block"] (spBlockB meetsB) := by
  refine F.ok sc_meets (fun vs H Q E h => ?_) (fun cdv A outer s H vs Q E hr h => ?_)
  · obtain ⟨v, u, x, t, l, hh, ww, rfl, _⟩ := h; rfl
  · obtain ⟨v, u, x, t, l, hh, ww, rfl, hx, hu, q⟩ := h
    obtain ⟨a, wb, ws, rfl, ha, _, _⟩ := Cell.at_inv hx
    obtain ⟨b, rfl, hb⟩ := block_inv hu
    refine ⟨_, (pss_cons (ps_if (PW.pt (pw_or (pt_cmpR op_ge (pe_ix (ix_tupK (K := K) rfl) (pv 0) pe_int (fun _ _ => rfl)) (pe_op op_add (pe_ix (ix_tupK (K := K) rfl) (pv 1) pe_int (fun _ _ => rfl)) (pe_ix (ix_tupK (K := K) rfl) (pv 1) pe_int (fun _ _ => rfl))) (nomark _)) (pw_or1 (pt_cmpR op_ge (pe_ix (ix_tupK (K := K) rfl) (pv 1) pe_int (fun _ _ => rfl)) (pe_op op_add (pe_ix (ix_tupK (K := K) rfl) (pv 0) pe_int (fun _ _ => rfl)) (pe_ix (ix_tupK (K := K) rfl) (pv 0) pe_int (fun _ _ => rfl))) (nomark _))))) (pss_one (ps_ret pe_bl)) pss_nil)
      (pss_one (ps_ret (pe_and (pe_cmpR op_lt (pe_ix (ix_tupK (K := K) rfl) (pv 0) pe_int (fun _ _ => rfl)) (pe_op op_add (pe_ix (ix_tupK (K := K) rfl) (pv 1) pe_int (fun _ _ => rfl)) (pe_ix (ix_tupK (K := K) rfl) (pv 1) pe_int (fun _ _ => rfl))) (nomark _)) (pe_one (pe_cmpR op_lt (pe_ix (ix_tupK (K := K) rfl) (pv 1) pe_int (fun _ _ => rfl)) (pe_op op_add (pe_ix (ix_tupK (K := K) rfl) (pv 0) pe_int (fun _ _ => rfl)) (pe_ix (ix_tupK (K := K) rfl) (pv 0) pe_int (fun _ _ => rfl))) (nomark _))))))), ?_⟩
    refine ⟨_, rfl, a, _, (0 : Int), _, rfl, rfl, SqT.of ha, rfl, _, rfl, b, _, (0 : Int), _, rfl, rfl, SqT.of hb, rfl, _, rfl, b, _, (2 : Int), _, rfl, rfl, SqT.of hb, rfl, _, _, rfl, rfl, _, _, rfl, rfl, _, rfl, ?_⟩
    refine ite2 (fun h1 => iteT (q false (Bool.eq_iff_iff.mpr ⟨fun z => (by cases z), fun z => ?_⟩))) (fun h1 => ?_)
    · have h1 := of_decide_eq_true h1
      have := meets_iff.mp z
      omega
    have h1 : ¬ _ := fun z => h1 (decide_eq_true z)
    refine ⟨_, rfl, b, _, (0 : Int), _, rfl, rfl, SqT.of hb, rfl, _, rfl, a, _, (0 : Int), _, rfl, rfl, SqT.of ha, rfl, _, rfl, a, _, (2 : Int), _, rfl, rfl, SqT.of ha, rfl, _, _, rfl, rfl, _, _, rfl, rfl, _, rfl, ?_⟩
    refine ite2 (fun h2 => q false (Bool.eq_iff_iff.mpr ⟨fun z => (by cases z), fun z => ?_⟩)) (fun h2 => ?_)
    · have h2 := of_decide_eq_true h2
      have := meets_iff.mp z
      omega
    have h2 : ¬ _ := fun z => h2 (decide_eq_true z)
    refine ⟨_, rfl, a, _, (1 : Int), _, rfl, rfl, SqT.of ha, rfl, _, rfl, b, _, (1 : Int), _, rfl, rfl, SqT.of hb, rfl, _, rfl, b, _, (3 : Int), _, rfl, rfl, SqT.of hb, rfl, _, _, rfl, rfl, _, _, rfl, rfl, _, rfl, ?_⟩
    refine ite2 (fun h3 => ?_) (fun h3 => q false (Bool.eq_iff_iff.mpr ⟨fun z => (by cases z), fun z => absurd (decide_eq_true (by have := meets_iff.mp z; omega)) h3⟩))
    have h3 := of_decide_eq_true h3
    refine ⟨_, rfl, b, _, (1 : Int), _, rfl, rfl, SqT.of hb, rfl, _, rfl, a, _, (1 : Int), _, rfl, rfl, SqT.of ha, rfl, _, rfl, a, _, (3 : Int), _, rfl, rfl, SqT.of ha, rfl, _, _, rfl, rfl, _, _, rfl, rfl, ?_⟩
    exact q _ (Bool.eq_iff_iff.mpr ⟨fun z => meets_iff.mpr (by have := of_decide_eq_true z; omega), fun z => decide_eq_true (by have := meets_iff.mp z; omega)⟩)

theorem sc_lies_in : FnScope ["cell", "block"] ["cell", "block"] (defScope (top 43)) := ⟨rfl, rfl, rfl, by decide +kernel, rfl, by decide +kernel, by decide +kernel⟩
set_option maxHeartbeats 4000000 in
theorem ok_lies_in (f : Addr) (fd : FuncData) (F : Fun K "lies_in" "lies_in" (top 43) f fd) : FnOk P w K mg base CX0 1 f fd ["cell", "block"] (spBlockB liesB) := by
  refine F.ok sc_lies_in (fun vs H Q E h => ?_) (fun cdv A outer s H vs Q E hr h => ?_)
  · obtain ⟨v, u, x, t, l, hh, ww, rfl, _⟩ := h; rfl
  · obtain ⟨v, u, x, t, l, hh, ww, rfl, hx, hu, q⟩ := h
    obtain ⟨a, wb, ws, rfl, ha, _, _⟩ := Cell.at_inv hx
    obtain ⟨b, rfl, hb⟩ := block_inv hu
    refine ⟨_, (pss_cons (ps_if (PW.pt (pw_or (pt_cmpR op_lt (pe_ix (ix_tupK (K := K) rfl) (pv 0) pe_int (fun _ _ => rfl)) (pe_ix (ix_tupK (K := K) rfl) (pv 1) pe_int (fun _ _ => rfl)) (nomark _)) (pw_or1 (pt_cmpR op_gt (pe_op op_add (pe_ix (ix_tupK (K := K) rfl) (pv 0) pe_int (fun _ _ => rfl)) (pe_ix (ix_tupK (K := K) rfl) (pv 0) pe_int (fun _ _ => rfl))) (pe_op op_add (pe_ix (ix_tupK (K := K) rfl) (pv 1) pe_int (fun _ _ => rfl)) (pe_ix (ix_tupK (K := K) rfl) (pv 1) pe_int (fun _ _ => rfl))) (nomark _))))) (pss_one (ps_ret pe_bl)) pss_nil)
      (pss_one (ps_ret (pe_and (pe_cmpR op_le (pe_ix (ix_tupK (K := K) rfl) (pv 1) pe_int (fun _ _ => rfl)) (pe_ix (ix_tupK (K := K) rfl) (pv 0) pe_int (fun _ _ => rfl)) (nomark _)) (pe_one (pe_cmpR op_le (pe_op op_add (pe_ix (ix_tupK (K := K) rfl) (pv 0) pe_int (fun _ _ => rfl)) (pe_ix (ix_tupK (K := K) rfl) (pv 0) pe_int (fun _ _ => rfl))) (pe_op op_add (pe_ix (ix_tupK (K := K) rfl) (pv 1) pe_int (fun _ _ => rfl)) (pe_ix (ix_tupK (K := K) rfl) (pv 1) pe_int (fun _ _ => rfl))) (nomark _))))))), ?_⟩
    refine ⟨_, rfl, a, _, (0 : Int), _, rfl, rfl, SqT.of ha, rfl, _, rfl, b, _, (0 : Int), _, rfl, rfl, SqT.of hb, rfl, _, _, rfl, rfl, _, rfl, ?_⟩
    refine ite2 (fun h1 => iteT (q false (Bool.eq_iff_iff.mpr ⟨fun z => (by cases z), fun z => ?_⟩))) (fun h1 => ?_)
    · have h1 := of_decide_eq_true h1
      have := lies_iff.mp z
      omega
    have h1 : ¬ _ := fun z => h1 (decide_eq_true z)
    refine ⟨_, rfl, a, _, (0 : Int), _, rfl, rfl, SqT.of ha, rfl, _, rfl, a, _, (2 : Int), _, rfl, rfl, SqT.of ha, rfl, _, _, rfl, rfl, _, rfl, b, _, (0 : Int), _, rfl, rfl, SqT.of hb, rfl, _, rfl, b, _, (2 : Int), _, rfl, rfl, SqT.of hb, rfl, _, _, rfl, rfl, _, _, rfl, rfl, _, rfl, ?_⟩
    refine ite2 (fun h2 => q false (Bool.eq_iff_iff.mpr ⟨fun z => (by cases z), fun z => ?_⟩)) (fun h2 => ?_)
    · have h2 := of_decide_eq_true h2
      have := lies_iff.mp z
      omega
    have h2 : ¬ _ := fun z => h2 (decide_eq_true z)
    refine ⟨_, rfl, b, _, (1 : Int), _, rfl, rfl, SqT.of hb, rfl, _, rfl, a, _, (1 : Int), _, rfl, rfl, SqT.of ha, rfl, _, _, rfl, rfl, _, rfl, ?_⟩
    refine ite2 (fun h3 => ?_) (fun h3 => q false (Bool.eq_iff_iff.mpr ⟨fun z => (by cases z), fun z => absurd (decide_eq_true (by have := lies_iff.mp z; omega)) h3⟩))
    have h3 := of_decide_eq_true h3
    refine ⟨_, rfl, a, _, (1 : Int), _, rfl, rfl, SqT.of ha, rfl, _, rfl, a, _, (3 : Int), _, rfl, rfl, SqT.of ha, rfl, _, _, rfl, rfl, _, rfl, b, _, (1 : Int), _, rfl, rfl, SqT.of hb, rfl, _, rfl, b, _, (3 : Int), _, rfl, rfl, SqT.of hb, rfl, _, _, rfl, rfl, _, _, rfl, rfl, ?_⟩
    exact q _ (Bool.eq_iff_iff.mpr ⟨fun z => lies_iff.mpr (by have := of_decide_eq_true z; omega), fun z => decide_eq_true (by have := lies_iff.mp z; omega)⟩)

theorem nd_cin : (["cell", "block"] : List Str).Nodup := by decide +kernel
noncomputable abbrev cinScope : Scope := scopeOf (exprOf (nth (defBody (top 41)) 1))
theorem sc_cells_in : FnScope ["table", "block", "at", "cell"] ["table", "block"] (defScope (top 41)) := ⟨rfl, rfl, rfl, by decide +kernel, rfl, by decide +kernel, by decide +kernel⟩
set_option maxHeartbeats 4000000 in
theorem ok_cells_in (T : Txt mg) (c_meets : Cal P w K mg base 1 "meets" ["cell", "block"] (spBlockB meetsB)) (c_lies_in : Cal P w K mg base 1 "lies_in" ["cell", "block"] (spBlockB liesB)) (f : Addr) (fd : FuncData) (F : Fun K "cells_in" "cells_in" (top 41) f fd) : FnOk P w K mg base CX0 2 f fd ["table", "block"] spCellsIn := by
  refine F.ok sc_cells_in (fun vs H Q E h => ?_) (fun cdv A outer s H vs Q E hr h => ?_)
  · obtain ⟨v, u, R, C, cs, t, l, hh, ww, rfl, _⟩ := h; rfl
  · obtain ⟨v, u, R, C, cs, t, l, hh, ww, rfl, ht, hu, few, no, q⟩ := h
    have hr_meets : Room 1 (A.deeper (envOfC "cells_in" (defScope (top 41)) s.heap.objs.size f cdv)) := hr.mono (by decide)
    have hr_lies_in : Room 1 (A.deeper (envOfC "cells_in" (defScope (top 41)) s.heap.objs.size f cdv)) := hr.mono (by decide)
    obtain ⟨p, ll, ys, rfl, hp, hl, ry⟩ := tab_inv ht
    obtain ⟨b, rfl, hb⟩ := block_inv hu
    have co_cin := compOk_def (X := (cxOf CX0 P w K mg base ["table", "block", "at", "cell"] "cells_in" (defScope (top 41)) f cdv A outer s H E).nox) (N1 := ["cell", "block"]) (cap := [none, some 1]) (scope := cinScope) (sc := defScope (top 41)) (s.heap.objs.size + 1) rfl rfl rfl
      (by decide +kernel) (by decide +kernel) (by decide +kernel) rfl (by
        intro i hi x j e1 e2
        match i, hi, e1, e2 with
        | 0, _, e1, e2 => cases e2
        | 1, _, e1, e2 => cases e1; cases e2; exact ⟨rfl, rfl, rfl⟩)
    have lx := ry.length
    rw [List.length_map] at lx
    refine ⟨_, (pss_cons (ps_for PassesOwn.never rfl (pi_enum (K := K) rfl rfl T.enumerate (pa_cons (pe_ix (ix_tupK (K := K) rfl) (pv 0) pe_int (fun _ _ => rfl)) pa_nil)) (pg_tupK (K := K) (n := 2) rfl rfl (pgs_cons (pg_name (i := 2) sc_cells_in.nd rfl (by first | exact Or.inl rfl | exact Or.inr rfl)) (pgs_cons (pg_name (i := 3) sc_cells_in.nd rfl (by first | exact Or.inl rfl | exact Or.inr rfl)) pgs_nil))) (pss_one (ps_if (PW.pt (pw_and (pt_val (pe_cal c_meets hr_meets rfl (pa_cons (pv 3) (pa_cons (pv 1) pa_nil)))) (pw_and1 (pt_not (pt_val (pe_cal c_lies_in hr_lies_in rfl (pa_cons (pv 3) (pa_cons (pv 1) pa_nil)))))))) (pss_one ps_never) pss_nil)))
      (pss_one (ps_ret (pe_comp co_cin rfl (pi_listK (K := K) rfl (pe_ix (ix_tupK (K := K) rfl) (pv 0) pe_int (fun _ _ => rfl))) (fun _ _ _ _ => (pg_name (i := 0) nd_cin rfl (by first | exact Or.inl rfl | exact Or.inr rfl) (Or.inr rfl))) (fun _ _ _ _ => (pif_one (pt_val (pe_cal c_lies_in hr_lies_in rfl (pa_cons (pv 0) (pa_cons (pv 1) pa_nil)))))) (fun _ _ _ _ => (pv 0)))))), ?_⟩
    refine ⟨_, rfl, p, _, (2 : Int), _, rfl, rfl, SqT.of hp, rfl, ll, rfl, ⟨_, SqL.of hl⟩, ?_⟩
    refine for_enum (K := K) (a := ll) (xs := ys) (fun i σ H2 => ∃ (c2 c3 : Option V), σ = [some (.ref p), some (.ref b), c2, c3] ∧ Same H H2)
      ⟨none, none, rfl, fun _ _ z => z⟩ (fun i σ H2 _ ⟨_, _, _, s2⟩ => SqL.of (s2 _ _ hl)) ?_ ?_
    · intro i x σ H2 t2 hi hI ht2
      refine ex_2 hI fun c2 c3 hJ => ?_
      have eI := hJ.1
      have s2 := hJ.2
      clear hI hJ
      subst eI
      have s3 := Same.upd_new (o := .tup [.int (i : Int), x]) ht2
      obtain ⟨d, hd, ad⟩ := Paired.get2 ry hi
      rw [List.getElem?_map] at hd
      obtain ⟨X, hX, rfl⟩ := Option.map_eq_some_iff.mp hd
      have s23 := s2.trans s3
      refine ⟨t2, _, rfl, SqT.of upd_same, rfl, _, _, rfl, _, _, rfl, rfl, ?_⟩
      refine ⟨_, rfl, _, rfl, x, .ref b, X, t, l, hh, ww, rfl, ad.mono s23, hu.mono s23, fun b1 e1 => ⟨b1, rfl, ?_⟩⟩
      refine ite2 (fun hb1 => ?_) (fun hb1 => iteF ⟨_, _, rfl, s23⟩)
      refine ⟨_, rfl, _, rfl, x, .ref b, X, t, l, hh, ww, rfl, ad.mono s23, hu.mono s23, fun b2 e2 => ⟨b2, rfl, ?_⟩⟩
      rw [no X (List.mem_of_getElem? hX) (e1 ▸ hb1)] at e2
      subst e2
      exact iteF ⟨_, _, rfl, s23⟩
    intro σ H2 hI
    refine ex_2 hI fun c2 c3 hJ => ?_
    have eI := hJ.1
    have s2 := hJ.2
    clear hI hJ
    subst eI
    have hl2 := s2 _ _ hl
    refine ⟨_, rfl, p, _, (2 : Int), _, rfl, rfl, SqT.of (s2 _ _ hp), rfl, ll, rfl, ⟨_, SqL.of hl2⟩, fun m hm => ?_⟩
    refine comp_list (K := K) (a := ll) (xs := ys) (fun i σ1 H3 => ∃ (c1 : Option V) (zs : List V), σ1 = [c1, some (.ref b)] ∧ Same H2 H3 ∧ H3 m = some (.lst zs) ∧ AtL H3 (((cs.take i).filter (liesB t l hh ww)).map Cell.D) zs)
      ⟨none, [], rfl, Same.upd_new hm, upd_same, .nil⟩ (fun i σ1 H3 _ ⟨_, _, _, s3, _, _⟩ => SqL.of (s3 _ _ hl2)) ?_ ?_
    · intro i x σ1 H3 hi hI
      refine ex_2 hI fun c1 zs hJ => ?_
      have eI := hJ.1
      have s3 := hJ.2.1
      have h3 := hJ.2.2.1
      have a3 := hJ.2.2.2
      clear hI hJ
      subst eI
      obtain ⟨d, hd, ad⟩ := Paired.get2 ry hi
      rw [List.getElem?_map] at hd
      obtain ⟨X, hX, rfl⟩ := Option.map_eq_some_iff.mp hd
      have hiL : i < cs.length := (List.getElem?_eq_some_iff.mp hX).1
      have s03 := s2.trans s3
      have tk : (cs.take (i + 1)).filter (liesB t l hh ww) = (cs.take i).filter (liesB t l hh ww) ++ (if liesB t l hh ww X = true then [X] else []) := by
        rw [List.take_add_one, hX, List.filter_append]
        congr 1
        show List.filter (liesB t l hh ww) [X] = _
        simp only [List.filter_cons, List.filter_nil]
      dsimp only [gName]
      refine ⟨_, rfl, _, rfl, x, .ref b, X, t, l, hh, ww, rfl, ad.mono s03, hu.mono s03, fun b1 e1 => ⟨b1, rfl, ?_⟩⟩
      refine ite2 (fun hb1 => ?_) (fun hb1 => ?_)
      · refine ⟨_, rfl, zs, h3, ?_, ?_⟩
        · have h1 := a3.length
          have h2 := List.length_filter_le (liesB t l hh ww) (cs.take i)
          rw [List.length_map] at h1
          rw [List.length_take] at h2
          exact small1000 (by omega)
        · have t4 : SameT H3 (upd H3 m (.lst (zs ++ [x]))) := SameT.put h3
          refine ⟨_, zs ++ [x], rfl, fun b' o e => ?_, upd_same, ?_⟩
          · rw [upd_ne (ne_of_none e hm)]
            exact s3 _ _ e
          · rw [tk, if_pos (e1 ▸ hb1), List.map_append]
            exact Paired.snoc' (a3.monoT (cells_nol _) t4) ((ad.mono s03).monoT (Cell.D_nol _) t4)
      · refine ⟨_, zs, rfl, s3, h3, ?_⟩
        rw [tk, if_neg (e1 ▸ hb1), List.append_nil]
        exact a3
    intro σ1 H3 hI
    refine ex_2 hI fun c1 zs hJ => ?_
    have s3 := hJ.2.1
    have h3 := hJ.2.2.1
    have a3 := hJ.2.2.2
    rw [← lx, List.take_length] at a3
    exact q m zs H3 (s2.trans s3) h3 a3

theorem nd_cut : (["cell", "top", "left"] : List Str).Nodup := by decide +kernel
noncomputable def elt2 (e : Expr) (i : Nat) : Expr := match e with
  | .Tuple es _ _ => es.getD i (.Constant .none 0 ⟨0, 0, 0, 0⟩)
  | _ => e
noncomputable abbrev cutScope : Scope := scopeOf (elt2 (exprOf (nth (defBody (top 39)) 1)) 2)
theorem sc_cut_out : FnScope ["table", "top", "left", "height", "width", "inner"] ["table", "top", "left", "height", "width"] (defScope (top 39)) := ⟨rfl, rfl, rfl, by decide +kernel, rfl, by decide +kernel, by decide +kernel⟩
set_option maxHeartbeats 4000000 in
theorem ok_cut_out (T : Txt mg) (c_moved_cell : Cal P w K mg base 1 "moved_cell" ["cell", "down", "right"] spMoved) (c_cells_in : Cal P w K mg base 2 "cells_in" ["table", "block"] spCellsIn) (f : Addr) (fd : FuncData) (F : Fun K "cut_out" "cut_out" (top 39) f fd) : FnOk P w K mg base CX0 3 f fd ["table", "top", "left", "height", "width"] spCutOut := by
  refine F.ok sc_cut_out (fun vs H Q E h => ?_) (fun cdv A outer s H vs Q E hr h => ?_)
  · obtain ⟨v, R, C, cs, t, l, hh, ww, rfl, _⟩ := h; rfl
  · obtain ⟨v, R, C, cs, t, l, hh, ww, rfl, ht, few, no, q⟩ := h
    have hr_moved_cell : Room 1 (A.deeper (envOfC "cut_out" (defScope (top 39)) s.heap.objs.size f cdv)) := hr.mono (by decide)
    have hr_cells_in : Room 2 (A.deeper (envOfC "cut_out" (defScope (top 39)) s.heap.objs.size f cdv)) := hr.mono (by decide)
    have co_cut := compOk_def (X := (cxOf CX0 P w K mg base ["table", "top", "left", "height", "width", "inner"] "cut_out" (defScope (top 39)) f cdv A outer s H E).nox) (N1 := ["cell", "top", "left"]) (cap := [none, some 1, some 2]) (scope := cutScope) (sc := defScope (top 39)) (s.heap.objs.size + 1) rfl rfl rfl
      (by decide +kernel) (by decide +kernel) (by decide +kernel) rfl (by
        intro i hi x j e1 e2
        match i, hi, e1, e2 with
        | 0, _, e1, e2 => cases e2
        | 1, _, e1, e2 => cases e1; cases e2; exact ⟨rfl, rfl, rfl⟩
        | 2, _, e1, e2 => cases e1; cases e2; exact ⟨rfl, rfl, rfl⟩)
    refine ⟨_, (pss_cons (ps_set (i := 5) sc_cut_out.nd rfl (by first | exact Or.inl rfl | exact Or.inr rfl) (pe_cal c_cells_in hr_cells_in rfl (pa_cons (pv 0) (pa_cons (pe_tup (pa_cons (pv 1) (pa_cons (pv 2) (pa_cons (pv 3) (pa_cons (pv 4) pa_nil))))) pa_nil))))
      (pss_one (ps_ret (pe_tup (pa_cons (pv 3) (pa_cons (pv 4) (pa_cons (pe_comp co_cut rfl (pi_listK (K := K) rfl (pv 5)) (fun _ _ _ _ => (pg_name (i := 0) nd_cut rfl (by first | exact Or.inl rfl | exact Or.inr rfl) (Or.inr rfl))) (fun _ _ _ _ => pif_nil) (fun _ _ _ _ => (pe_cal c_moved_cell hr_moved_cell rfl (pa_cons (pv 0) (pa_cons (pe_un un_neg (pv 1)) (pa_cons (pe_un un_neg (pv 2)) pa_nil)))))) pa_nil))))))), ?_⟩
    refine ⟨_, rfl, _, rfl, _, rfl, _, rfl, _, rfl, by show 4 ≤ sizeLine; decide, fun b hb => ?_⟩
    have s1 := Same.upd_new (o := .tup [.int (t : Int), .int (l : Int), .int (hh : Int), .int (ww : Int)]) hb
    have ab : At (upd H b (.tup [.int (t : Int), .int (l : Int), .int (hh : Int), .int (ww : Int)])) (blockD t l hh ww) (.ref b) := .tup upd_same (.cons (.int _) (.cons (.int _) (.cons (.int _) (.cons (.int _) .nil))))
    generalize hH1 : upd H b (.tup [.int (t : Int), .int (l : Int), .int (hh : Int), .int (ww : Int)]) = H1 at *
    refine ⟨v, .ref b, R, C, cs, t, l, hh, ww, rfl, ht.mono s1, ab, few, no, fun r xs H2 s2 hr2 a2 => ?_⟩
    have lx := a2.length
    rw [List.length_map] at lx
    have lf := List.length_filter_le (liesB t l hh ww) cs
    refine ⟨_, rfl, _, rfl, _, rfl, r, rfl, ⟨_, SqL.of hr2⟩, fun m hm => ?_⟩
    refine comp_list (K := K) (a := r) (xs := xs) (fun i σ1 H3 => ∃ (c1 : Option V) (zs : List V), σ1 = [c1, some (.int t), some (.int l)] ∧ Same H2 H3 ∧ H3 m = some (.lst zs) ∧ AtL H3 ((((cs.filter (liesB t l hh ww)).take i).map (upCell t l)).map Cell.D) zs)
      ⟨none, [], rfl, Same.upd_new hm, upd_same, .nil⟩ (fun i σ1 H3 _ ⟨_, _, _, s3, _, _⟩ => SqL.of (s3 _ _ hr2)) ?_ ?_
    · intro i x σ1 H3 hi hI
      refine ex_2 hI fun c1 zs hJ => ?_
      have eI := hJ.1
      have s3 := hJ.2.1
      have h3 := hJ.2.2.1
      have a3 := hJ.2.2.2
      clear hI hJ
      subst eI
      obtain ⟨d, hd, ad⟩ := Paired.get2 a2 hi
      rw [List.getElem?_map] at hd
      obtain ⟨X, hX, rfl⟩ := Option.map_eq_some_iff.mp hd
      have hiL : i < (cs.filter (liesB t l hh ww)).length := (List.getElem?_eq_some_iff.mp hX).1
      have lies := lies_iff.mp (List.mem_filter.mp (List.mem_of_getElem? hX)).2
      dsimp only [gName]
      rw [if_pos rfl]
      refine ⟨_, rfl, _, rfl, _, rfl, _, rfl, _, rfl, x, X, upCell t l X, -(t : Int), -(l : Int), rfl, ad.mono s3, by show ((X.top - t : Nat) : Int) = _; omega, by show ((X.left - l : Nat) : Int) = _; omega, rfl, rfl, rfl, fun v' H4 s4 at4 => ⟨zs, s4 _ _ h3, ?_, ?_⟩⟩
      · have h1 := a3.length
        rw [List.length_map, List.length_map, List.length_take] at h1
        exact small1000 (by omega)
      · have t5 : SameT H4 (upd H4 m (.lst (zs ++ [v']))) := SameT.put (s4 _ _ h3)
        refine ⟨_, zs ++ [v'], rfl, fun b' o e => ?_, upd_same, ?_⟩
        · rw [upd_ne (ne_of_none e hm)]
          exact s4 _ _ (s3 _ _ e)
        · rw [take_map_succ hX, List.map_append]
          exact Paired.snoc' ((a3.mono s4).monoT (cells_nol _) t5) (at4.monoT (Cell.D_nol _) t5)
    intro σ1 H3 hI
    refine ex_2 hI fun c1 zs hJ => ?_
    have s3 := hJ.2.1
    have h3 := hJ.2.2.1
    have a3 := hJ.2.2.2
    rw [← lx, List.take_length] at a3
    refine ⟨by show 3 ≤ sizeLine; decide, fun o ho => ?_⟩
    have s4 := Same.upd_new (o := .tup [.int (hh : Int), .int (ww : Int), .ref m]) ho
    exact q _ _ (((s1.trans s2).trans s3).trans s4) (tab_mk upd_same (s4 _ _ h3) (a3.mono s4)) (FreshT.of upd_same ((s1.trans s2).free hm))
end
end KL

set_option Elab.async false
set_option linter.all false
set_option autoImplicit false
set_option maxRecDepth 100000
namespace KL
open PySem L2 GT PyProof.Rows
/-! ### open lines, bands -/
noncomputable def spSpans : Sp := fun vs H Q _ => ∃ (v : V) (x : Cell) (n : Nat), vs = [v, .int n] ∧ At H x.D v ∧ ∀ b, b = spansB n x → Q (.bl b) H
noncomputable def spIsOpen : Sp := fun vs H Q _ => ∃ (v : V) (R C : Nat) (cs : List Cell) (n : Nat), vs = [v, .int n] ∧ At H (tabD R C cs) v ∧ cs.length ≤ 1000 ∧ ∀ b H', Same H H' → b = openB n cs → Q (.bl b) H'
noncomputable def spOpenLines : Sp := fun vs H Q _ => ∃ (v : V) (R C : Nat) (cs : List Cell), vs = [v] ∧ At H (tabD R C cs) v ∧ cs.length ≤ 1000 ∧ 1 ≤ R ∧ R ≤ 17 ∧ ∀ l H', Same H H' → H' l = some (.lst ((linesL cs (R - 1)).map fun (n : Nat) => V.int (n : Int))) → Q (.ref l) H'
noncomputable def spBands : Sp := fun vs H Q _ => ∃ (v : V) (R C : Nat) (cs : List Cell), vs = [v] ∧ At H (tabD R C cs) v ∧ cs.length ≤ 1000 ∧ 1 ≤ R ∧ R ≤ 17 ∧ ∀ l xs H', Same H H' → H' l = some (.lst xs) → AtL H' ((bandsL R cs).map bandD) xs → Q (.ref l) H'
theorem bands_at {H : Hp} : ∀ {bs : List (Nat × Nat)} {zs : List V}, Paired (lzP H) (bs.map fun b => (V.int (b.1 : Int), V.int (b.2 : Int))) zs → AtL H (bs.map bandD) zs
  | [], _, .nil => .nil
  | b :: bs, _, .cons ⟨t, e, h⟩ r => by
    subst e
    exact .cons (.tup h (.cons (.int _) (.cons (.int _) .nil))) (bands_at r)
section
variable {P : Program} {w : World} {K : PySem.W.Frag} {mg : Str → Option Value} {base : Heap}
theorem sc_spans : FnScope ["cell", "line"] ["cell", "line"] (defScope (top 85)) := ⟨rfl, rfl, rfl, by decide +kernel, rfl, by decide +kernel, by decide +kernel⟩
set_option maxHeartbeats 4000000 in
theorem ok_spans (f : Addr) (fd : FuncData) (F : Fun K "spans" "spans" (top 85) f fd) : FnOk P w K mg base CX0 1 f fd ["cell", "line"] spSpans := by
  refine F.ok sc_spans (fun vs H Q E h => ?_) (fun cdv A outer s H vs Q E hr h => ?_)
  · obtain ⟨v, x, n, rfl, _⟩ := h; rfl
  · obtain ⟨v, x, n, rfl, hx, q⟩ := h
    obtain ⟨a, b, ws, rfl, ha, hb, _⟩ := Cell.at_inv hx
    refine ⟨_, (pss_one (ps_ret (pe_chain op_lt op_lt (pe_ix (ix_tupK (K := K) rfl) (pv 0) pe_int (fun _ _ => rfl)) (pv 1) (pe_op op_add (pe_ix (ix_tupK (K := K) rfl) (pv 0) pe_int (fun _ _ => rfl)) (pe_ix (ix_tupK (K := K) rfl) (pv 0) pe_int (fun _ _ => rfl)))))), ?_⟩
    refine ⟨_, rfl, a, _, (0 : Int), _, rfl, rfl, SqT.of ha, rfl, _, rfl, _, _, rfl, rfl, _, rfl, ?_⟩
    refine ite2 (fun h1 => ?_) (fun h1 => q false ?_)
    · have h1 := of_decide_eq_true h1
      refine ⟨_, rfl, a, _, (0 : Int), _, rfl, rfl, SqT.of ha, rfl, _, rfl, a, _, (2 : Int), _, rfl, rfl, SqT.of ha, rfl, _, _, rfl, rfl, _, _, rfl, rfl, ?_⟩
      refine q _ ?_
      unfold spansB
      exact decide_eq_decide.mpr ⟨fun z => ⟨by omega, by omega⟩, fun z => by have := z.2; omega⟩
    · unfold spansB
      rw [decide_eq_false]
      intro z
      exact h1 (decide_eq_true (by have := z.1; omega))

theorem nd_isop : (["cell", "line"] : List Str).Nodup := by decide +kernel
noncomputable abbrev isopScope : Scope := scopeOf (argOf (operandOf (exprOf (nth (defBody (top 84)) 0))) 0)
theorem sc_is_open : FnScope ["table", "line"] ["table", "line"] (defScope (top 84)) := ⟨rfl, rfl, rfl, by decide +kernel, rfl, by decide +kernel, by decide +kernel⟩
set_option maxHeartbeats 4000000 in
theorem ok_is_open (T : Txt mg) (c_spans : Cal P w K mg base 1 "spans" ["cell", "line"] spSpans) (f : Addr) (fd : FuncData) (F : Fun K "is_open" "is_open" (top 84) f fd) : FnOk P w K mg base CX0 2 f fd ["table", "line"] spIsOpen := by
  refine F.ok sc_is_open (fun vs H Q E h => ?_) (fun cdv A outer s H vs Q E hr h => ?_)
  · obtain ⟨v, R, C, cs, n, rfl, _⟩ := h; rfl
  · obtain ⟨v, R, C, cs, n, rfl, ht, few, q⟩ := h
    have hr_spans : Room 1 (A.deeper (envOfC "is_open" (defScope (top 84)) s.heap.objs.size f cdv)) := hr.mono (by decide)
    obtain ⟨p, l, ys, rfl, hp, hl, ry⟩ := tab_inv ht
    have co_isop := compOk_def (X := (cxOf CX0 P w K mg base ["table", "line"] "is_open" (defScope (top 84)) f cdv A outer s H E).nox) (N1 := ["cell", "line"]) (cap := [none, some 1]) (scope := isopScope) (sc := defScope (top 84)) (s.heap.objs.size + 1) rfl rfl rfl
      (by decide +kernel) (by decide +kernel) (by decide +kernel) rfl (by
        intro i hi x j e1 e2
        match i, hi, e1, e2 with
        | 0, _, e1, e2 => cases e2
        | 1, _, e1, e2 => cases e1; cases e2; exact ⟨rfl, rfl, rfl⟩)
    have lx := ry.length
    rw [List.length_map] at lx
    refine ⟨_, (pss_one (ps_ret (pe_not (pe_callB (call_any (K := K) rfl rfl) (by rfl) T.any PyProof.Rows.boot_any (pa_cons (pe_comp co_isop rfl (pi_listK (K := K) rfl (pe_ix (ix_tupK (K := K) rfl) (pv 0) pe_int (fun _ _ => rfl))) (fun _ _ _ _ => (pg_name (i := 0) nd_isop rfl (by first | exact Or.inl rfl | exact Or.inr rfl) (Or.inr rfl))) (fun _ _ _ _ => pif_nil) (fun _ _ _ _ => (pe_cal c_spans hr_spans rfl (pa_cons (pv 0) (pa_cons (pv 1) pa_nil))))) pa_nil))))), ?_⟩
    refine ⟨_, rfl, p, _, (2 : Int), _, rfl, rfl, SqT.of hp, rfl, l, rfl, ⟨_, SqL.of hl⟩, fun m hm => ?_⟩
    refine comp_list (K := K) (a := l) (xs := ys) (fun i σ1 H2 => ∃ (c1 : Option V), σ1 = [c1, some (.int n)] ∧ Same H H2 ∧ H2 m = some (.lst (((cs.take i).map (spansB n)).map V.bl)))
      ⟨none, rfl, Same.upd_new hm, upd_same⟩ (fun i σ1 H2 _ ⟨_, _, s2, _⟩ => SqL.of (s2 _ _ hl)) ?_ ?_
    · intro i x σ1 H2 hi hI
      refine ex_1 hI fun c1 hJ => ?_
      have eI := hJ.1
      have s2 := hJ.2.1
      have h2 := hJ.2.2
      clear hI hJ
      subst eI
      obtain ⟨d, hd, ad⟩ := Paired.get2 ry hi
      rw [List.getElem?_map] at hd
      obtain ⟨X, hX, rfl⟩ := Option.map_eq_some_iff.mp hd
      have hiL : i < cs.length := (List.getElem?_eq_some_iff.mp hX).1
      dsimp only [gName]
      rw [if_pos rfl]
      refine ⟨_, rfl, _, rfl, x, X, n, rfl, ad.mono s2, fun b eb => ⟨_, h2, ?_, ?_⟩⟩
      · rw [List.length_map, List.length_map, List.length_take]
        exact small1000 (by omega)
      · subst eb
        refine ⟨_, rfl, fun b' o e => ?_, ?_⟩
        · rw [upd_ne (ne_of_none e hm)]
          exact s2 _ _ e
        · rw [take_map_succ hX, List.map_append]
          exact upd_same
    intro σ1 H2 hI
    refine ex_1 hI fun c1 hJ => ?_
    have eI := hJ.1
    have s2 := hJ.2.1
    have h2 := hJ.2.2
    clear hI hJ
    subst eI
    rw [← lx, List.take_length] at h2
    refine ⟨m, cs.map (spansB n), rfl, SqL.of h2, _, rfl, ?_⟩
    refine q _ H2 s2 ?_
    unfold openB
    rw [List.any_map]
    rfl

theorem nd_oln : (["line", "table"] : List Str).Nodup := by decide +kernel
noncomputable abbrev olnScope : Scope := scopeOf (exprOf (nth (defBody (top 83)) 0))
theorem sc_open_lines : FnScope ["table"] ["table"] (defScope (top 83)) := ⟨rfl, rfl, rfl, by decide +kernel, rfl, by decide +kernel, by decide +kernel⟩
set_option maxHeartbeats 4000000 in
theorem ok_open_lines (T : Txt mg) (c_is_open : Cal P w K mg base 2 "is_open" ["table", "line"] spIsOpen) (f : Addr) (fd : FuncData) (F : Fun K "open_lines" "open_lines" (top 83) f fd) : FnOk P w K mg base CX0 3 f fd ["table"] spOpenLines := by
  refine F.ok sc_open_lines (fun vs H Q E h => ?_) (fun cdv A outer s H vs Q E hr h => ?_)
  · obtain ⟨v, R, C, cs, rfl, _⟩ := h; rfl
  · obtain ⟨v, R, C, cs, rfl, ht, few, hR1, hR, q⟩ := h
    have hr_is_open : Room 2 (A.deeper (envOfC "open_lines" (defScope (top 83)) s.heap.objs.size f cdv)) := hr.mono (by decide)
    obtain ⟨p, l, ys, rfl, hp, hl, ry⟩ := tab_inv ht
    have co_oln := compOk_def (X := (cxOf CX0 P w K mg base ["table"] "open_lines" (defScope (top 83)) f cdv A outer s H E).nox) (N1 := ["line", "table"]) (cap := [none, some 0]) (scope := olnScope) (sc := defScope (top 83)) (s.heap.objs.size + 1) rfl rfl rfl
      (by decide +kernel) (by decide +kernel) (by decide +kernel) rfl (by
        intro i hi x j e1 e2
        match i, hi, e1, e2 with
        | 0, _, e1, e2 => cases e2
        | 1, _, e1, e2 => cases e1; cases e2; exact ⟨rfl, rfl, rfl⟩)
    have eR : ((R : Int) - 1).toNat = R - 1 := by omega
    refine ⟨_, (pss_one (ps_ret (pe_comp co_oln rfl (pi_range2 rfl T.range (pa_cons pe_int (pa_cons (pe_ix (ix_tupK (K := K) rfl) (pv 0) pe_int (fun _ _ => rfl)) pa_nil))) (fun _ _ _ _ => (pg_name (i := 0) nd_oln rfl (by first | exact Or.inl rfl | exact Or.inr rfl) (Or.inr rfl))) (fun _ _ _ _ => (pif_one (pt_val (pe_cal c_is_open hr_is_open rfl (pa_cons (pv 1) (pa_cons (pv 0) pa_nil)))))) (fun _ _ _ _ => (pv 0))))), ?_⟩
    refine ⟨_, rfl, p, _, (0 : Int), _, rfl, rfl, SqT.of hp, rfl, (1 : Int), (R : Int), rfl, ⟨by omega, by omega, by omega, by omega⟩, fun m hm => ?_⟩
    rw [eR]
    refine comp_range (lo := 1) (n := R - 1) (fun j σ1 H2 => ∃ (c1 : Option V), σ1 = [c1, some (.ref p)] ∧ Same H H2 ∧ H2 m = some (.lst ((linesL cs j).map fun (n : Nat) => V.int (n : Int))))
      ⟨none, rfl, Same.upd_new hm, upd_same⟩ ?_ ?_
    · intro j σ1 H2 hj hI
      refine ex_1 hI fun c1 hJ => ?_
      have eI := hJ.1
      have s2 := hJ.2.1
      have h2 := hJ.2.2
      clear hI hJ
      subst eI
      have ej : (1 : Int) + (j : Int) = ((j + 1 : Nat) : Int) := by omega
      dsimp only [gName]
      rw [ej]
      refine ⟨_, rfl, _, rfl, .ref p, R, C, cs, j + 1, rfl, ht.mono s2, few, fun b H3 s3 eb => ⟨b, rfl, ?_⟩⟩
      subst eb
      refine ite2 (fun hb => ?_) (fun hb => ?_)
      · refine ⟨_, rfl, _, s3 _ _ h2, ?_, ?_⟩
        · rw [List.length_map]
          have := lines_len cs j
          exact small1000 (by omega)
        · refine ⟨_, rfl, fun b' o e => ?_, ?_⟩
          · rw [upd_ne (ne_of_none e hm)]
            exact s3 _ _ (s2 _ _ e)
          · rw [lines_succ, if_pos hb, List.map_append]
            exact upd_same
      · refine ⟨_, rfl, s2.trans s3, ?_⟩
        rw [lines_succ, if_neg hb, List.append_nil]
        exact s3 _ _ h2
    intro σ1 H2 hI
    refine ex_1 hI fun c1 hJ => ?_
    exact q m H2 hJ.2.1 hJ.2.2

theorem sc_bands : FnScope ["table", "ends"] ["table"] (defScope (top 82)) := ⟨rfl, rfl, rfl, by decide +kernel, rfl, by decide +kernel, by decide +kernel⟩
set_option maxHeartbeats 4000000 in
theorem ok_bands (T : Txt mg) (c_open_lines : Cal P w K mg base 3 "open_lines" ["table"] spOpenLines) (f : Addr) (fd : FuncData) (F : Fun K "bands" "bands" (top 82) f fd) : FnOk P w K mg base CX0 4 f fd ["table"] spBands := by
  refine F.ok sc_bands (fun vs H Q E h => ?_) (fun cdv A outer s H vs Q E hr h => ?_)
  · obtain ⟨v, R, C, cs, rfl, _⟩ := h; rfl
  · obtain ⟨v, R, C, cs, rfl, ht, few, hR1, hR, q⟩ := h
    have hr_open_lines : Room 3 (A.deeper (envOfC "bands" (defScope (top 82)) s.heap.objs.size f cdv)) := hr.mono (by decide)
    obtain ⟨p, l, ys, rfl, hp, hl, ry⟩ := tab_inv ht
    refine ⟨_, (pss_cons (ps_set (i := 1) sc_bands.nd rfl (by first | exact Or.inl rfl | exact Or.inr rfl) (pe_op op_cat (pe_op op_cat (pe_lst (pa_cons pe_int pa_nil)) (pe_cal c_open_lines hr_open_lines rfl (pa_cons (pv 0) pa_nil))) (pe_lst (pa_cons (pe_ix (ix_tupK (K := K) rfl) (pv 0) pe_int (fun _ _ => rfl)) pa_nil))))
      (pss_one (ps_ret (pe_lz rfl (by rfl) T.list (by rfl) T.zip (pa_cons (pv 1) (pa_cons (pe_slice (sl_listK (K := K) rfl) (pv 1) (po_some pe_int) po_none) pa_nil)))))), ?_⟩
    refine ⟨by show 1 ≤ sizeLine; decide, fun t1 ht1 => ?_⟩
    have s1 := Same.upd_new (o := .lst [.int 0]) ht1
    have k1 := upd_same (H := H) (a := t1) (o := .lst [.int 0])
    generalize hH1 : upd H t1 (.lst [.int 0]) = H1 at *
    refine ⟨_, rfl, .ref p, R, C, cs, rfl, ht.mono s1, few, hR1, hR, fun t2 H2 s2 k2 => ?_⟩
    have le := ends_few (R := R) (cs := cs) hR1
    unfold endsL at le
    rw [List.length_cons, List.length_append, List.length_singleton] at le
    refine ⟨t1, t2, _, _, rfl, rfl, s2 _ _ k1, k2, Nat.le_of_lt (small1000 (by rw [List.length_singleton, List.length_map]; omega)), fun t3 ht3 => ?_⟩
    have s3 := Same.upd_new (o := .lst ([.int 0] ++ (linesL cs (R - 1)).map fun (n : Nat) => V.int (n : Int))) ht3
    have k3 := upd_same (H := H2) (a := t3) (o := .lst ([.int 0] ++ (linesL cs (R - 1)).map fun (n : Nat) => V.int (n : Int)))
    generalize hH3 : upd H2 t3 (.lst ([.int 0] ++ (linesL cs (R - 1)).map fun (n : Nat) => V.int (n : Int))) = H3 at *
    have s03 := (s1.trans s2).trans s3
    refine ⟨_, rfl, p, _, (0 : Int), _, rfl, rfl, SqT.of (s03 _ _ hp), rfl, by show 1 ≤ sizeLine; decide, fun t4 ht4 => ?_⟩
    have s4 := Same.upd_new (o := .lst [.int R]) ht4
    have k4 := upd_same (H := H3) (a := t4) (o := .lst [.int R])
    generalize hH4 : upd H3 t4 (.lst [.int R]) = H4 at *
    refine ⟨t3, t4, _, _, rfl, rfl, s4 _ _ k3, k4, Nat.le_of_lt (small1000 (by rw [List.length_append, List.length_singleton, List.length_map, List.length_singleton]; omega)), fun t5 ht5 => ?_⟩
    have eE : ([.int 0] ++ (linesL cs (R - 1)).map fun (n : Nat) => V.int (n : Int)) ++ [V.int (R : Int)] = (endsL R cs).map fun (n : Nat) => V.int (n : Int) := by
      unfold endsL
      rw [List.map_cons, List.map_append]
      rfl
    rw [eE] at *
    have s5 := Same.upd_new (o := .lst ((endsL R cs).map fun (n : Nat) => V.int (n : Int))) ht5
    have k5 := upd_same (H := H4) (a := t5) (o := .lst ((endsL R cs).map fun (n : Nat) => V.int (n : Int)))
    generalize hH5 : upd H4 t5 (.lst ((endsL R cs).map fun (n : Nat) => V.int (n : Int))) = H5 at *
    have s05 := (s03.trans s4).trans s5
    have le2 := ends_few (R := R) (cs := cs) hR1
    have l1 := ends_len R cs
    have ec : cutV ((endsL R cs).map fun (n : Nat) => V.int (n : Int)) (some 1) none = (endsL R cs).tail.map fun (n : Nat) => V.int (n : Int) := by
      have := cut_drop (ys := (endsL R cs).map fun (n : Nat) => V.int (n : Int)) (i := 1) (by rw [List.length_map]; omega)
      rw [List.drop_one, ← List.map_tail] at this
      exact this
    refine ⟨_, rfl, _, rfl, _, rfl, t5, _, rfl, SqL.of k5, fun t6 ht6 => ?_⟩
    rw [ec]
    have s6 := Same.upd_new (o := .lst ((endsL R cs).tail.map fun (n : Nat) => V.int (n : Int))) ht6
    refine ⟨t5, t6, _, _, rfl, s6 _ _ k5, upd_same, by rw [List.length_map]; omega, fun l zs H7 s7 h7 a7 => ?_⟩
    refine q l zs H7 ((s05.trans s6).trans s7) h7 (bands_at ?_)
    unfold bandsL
    rw [List.zip_map] at a7
    exact a7
end
end KL

set_option Elab.async false
set_option linter.all false
set_option autoImplicit false
set_option maxRecDepth 100000
namespace KL
open PySem L2 GT PyProof.Rows
/-! ### the bands' tables -/
noncomputable def spBandTable : Sp := fun vs H Q _ => ∃ (v u : V) (R C : Nat) (cs : List Cell) (b : Nat × Nat), vs = [v, u] ∧ At H (tabD R C cs) v ∧ At H (bandD b) u ∧ Tiles R C cs ∧ BandOk R cs b ∧ cs.length ≤ 1000 ∧
  ∀ v' H', Same H H' → At (less H H') (partT C cs b).D v' → Q v' H'
noncomputable def spBandTables : Sp := fun vs H Q _ => ∃ (v : V) (R C : Nat) (cs : List Cell), vs = [v] ∧ At H (tabD R C cs) v ∧ Tiles R C cs ∧ cs.length ≤ 1000 ∧ 1 ≤ R ∧ R ≤ 17 ∧
  ∀ l zs H', Same H H' → H' l = some (.lst zs) → H l = none → AtL (less H H') (((bandsL R cs).map (partT C cs)).map Tab.D) zs → Q (.ref l) H'
theorem band_inv {H : Hp} {b : Nat × Nat} {v : V} (h : At H (bandD b) v) : ∃ a, v = .ref a ∧ H a = some (.tup [.int (b.1 : Int), .int (b.2 : Int)]) := by
  obtain ⟨a, xs, rfl, ha, r⟩ := h.tup_inv
  refine ⟨a, rfl, ?_⟩
  cases r with
  | cons h1 r =>
    cases r with
    | cons h2 r =>
      cases r
      rw [h1.int_inv, h2.int_inv] at ha
      exact ha
section
variable {P : Program} {w : World} {K : PySem.W.Frag} {mg : Str → Option Value} {base : Heap}
theorem sc_band_table : FnScope ["table", "band"] ["table", "band"] (defScope (top 87)) := ⟨rfl, rfl, rfl, by decide +kernel, rfl, by decide +kernel, by decide +kernel⟩
set_option maxHeartbeats 4000000 in
theorem ok_band_table (c_cut_out : Cal P w K mg base 3 "cut_out" ["table", "top", "left", "height", "width"] spCutOut) (f : Addr) (fd : FuncData) (F : Fun K "band_table" "band_table" (top 87) f fd) : FnOk P w K mg base CX0 4 f fd ["table", "band"] spBandTable := by
  refine F.ok sc_band_table (fun vs H Q E h => ?_) (fun cdv A outer s H vs Q E hr h => ?_)
  · obtain ⟨v, u, R, C, cs, b, rfl, _⟩ := h; rfl
  · obtain ⟨v, u, R, C, cs, b, rfl, hv, hu, tl, ok, few, q⟩ := h
    have hr_cut_out : Room 3 (A.deeper (envOfC "band_table" (defScope (top 87)) s.heap.objs.size f cdv)) := hr.mono (by decide)
    obtain ⟨p, l, ys, rfl, hp, hl, ry⟩ := tab_inv hv
    obtain ⟨a, rfl, ha⟩ := band_inv hu
    have lt := ok.lt
    have le := ok.le
    have eb : (b.2 : Int) - (b.1 : Int) = ((b.2 - b.1 : Nat) : Int) := by omega
    refine ⟨_, (pss_one (ps_ret (pe_cal c_cut_out hr_cut_out rfl (pa_cons (pv 0) (pa_cons (pe_ix (ix_tupK (K := K) rfl) (pv 1) pe_int (fun _ _ => rfl)) (pa_cons pe_int (pa_cons (pe_op op_sub (pe_ix (ix_tupK (K := K) rfl) (pv 1) pe_int (fun _ _ => rfl)) (pe_ix (ix_tupK (K := K) rfl) (pv 1) pe_int (fun _ _ => rfl))) (pa_cons (pe_ix (ix_tupK (K := K) rfl) (pv 0) pe_int (fun _ _ => rfl)) pa_nil)))))))), ?_⟩
    refine ⟨_, rfl, _, rfl, a, _, (0 : Int), _, rfl, rfl, SqT.of ha, rfl, _, rfl, a, _, (1 : Int), _, rfl, rfl, SqT.of ha, rfl, _, rfl, a, _, (0 : Int), _, rfl, rfl, SqT.of ha, rfl, _, _, rfl, rfl, _, rfl, p, _, (1 : Int), _, rfl, rfl, SqT.of hp, rfl, ?_⟩
    dsimp only [tNil]
    rw [eb]
    exact ⟨.ref p, R, C, cs, b.1, 0, b.2 - b.1, C, rfl, hv, few, ok.no tl.toPart, fun v' H' s' at' fr => q v' H' s' (tab_less s' at' fr)⟩

theorem nd_btb : (["band", "table"] : List Str).Nodup := by decide +kernel
noncomputable abbrev btbScope : Scope := scopeOf (exprOf (nth (defBody (top 86)) 0))
theorem sc_band_tables : FnScope ["table"] ["table"] (defScope (top 86)) := ⟨rfl, rfl, rfl, by decide +kernel, rfl, by decide +kernel, by decide +kernel⟩
set_option maxHeartbeats 4000000 in
theorem ok_band_tables (T : Txt mg) (c_bands : Cal P w K mg base 4 "bands" ["table"] spBands) (c_band_table : Cal P w K mg base 4 "band_table" ["table", "band"] spBandTable) (f : Addr) (fd : FuncData) (F : Fun K "band_tables" "band_tables" (top 86) f fd) : FnOk P w K mg base CX0 5 f fd ["table"] spBandTables := by
  refine F.ok sc_band_tables (fun vs H Q E h => ?_) (fun cdv A outer s H vs Q E hr h => ?_)
  · obtain ⟨v, R, C, cs, rfl, _⟩ := h; rfl
  · obtain ⟨v, R, C, cs, rfl, ht, tl, few, hR1, hR, q⟩ := h
    have hr_bands : Room 4 (A.deeper (envOfC "band_tables" (defScope (top 86)) s.heap.objs.size f cdv)) := hr.mono (by decide)
    have hr_band_table : Room 4 (A.deeper (envOfC "band_tables" (defScope (top 86)) s.heap.objs.size f cdv)) := hr.mono (by decide)
    have co_btb := compOk_def (X := (cxOf CX0 P w K mg base ["table"] "band_tables" (defScope (top 86)) f cdv A outer s H E).nox) (N1 := ["band", "table"]) (cap := [none, some 0]) (scope := btbScope) (sc := defScope (top 86)) (s.heap.objs.size + 1) rfl rfl rfl
      (by decide +kernel) (by decide +kernel) (by decide +kernel) rfl (by
        intro i hi x j e1 e2
        match i, hi, e1, e2 with
        | 0, _, e1, e2 => cases e2
        | 1, _, e1, e2 => cases e1; cases e2; exact ⟨rfl, rfl, rfl⟩)
    refine ⟨_, (pss_one (ps_ret (pe_comp co_btb rfl (pi_listK (K := K) rfl (pe_cal c_bands hr_bands rfl (pa_cons (pv 0) pa_nil))) (fun _ _ _ _ => (pg_name (i := 0) nd_btb rfl (by first | exact Or.inl rfl | exact Or.inr rfl) (Or.inr rfl))) (fun _ _ _ _ => pif_nil) (fun _ _ _ _ => (pe_cal c_band_table hr_band_table rfl (pa_cons (pv 1) (pa_cons (pv 0) pa_nil))))))), ?_⟩
    refine ⟨_, rfl, v, R, C, cs, rfl, ht, few, hR1, hR, fun r xs H1 s1 hr1 a1 => ?_⟩
    have lx := a1.length
    rw [List.length_map] at lx
    have le := ends_few (R := R) (cs := cs) hR1
    have le2 := ends_len R cs
    refine ⟨r, rfl, ⟨_, SqL.of hr1⟩, fun m hm => ?_⟩
    have smm := Same.upd_new (o := .lst []) hm
    have mm := upd_same (H := H1) (a := m) (o := .lst [])
    have mne : ∀ a o, (upd H1 m (.lst [])) a = some o → a = m ∨ H1 a = some o := fun a o e => by
      by_cases q : a = m
      · exact .inl q
      · rw [upd_ne q] at e; exact .inr e
    refine comp_list (K := K) (a := r) (xs := xs) (fun i σ1 H2 => ∃ (c1 : Option V) (zs : List V), σ1 = [c1, some v] ∧ Same H1 H2 ∧ H2 m = some (.lst zs) ∧ AtL (less (upd H1 m (.lst [])) H2) ((((bandsL R cs).take i).map (partT C cs)).map Tab.D) zs)
      ⟨none, [], rfl, smm, mm, .nil⟩ (fun i σ1 H2 _ ⟨_, _, _, s2, _, _⟩ => SqL.of (s2 _ _ hr1)) ?_ ?_
    · intro i x σ1 H2 hi hI
      refine ex_2 hI fun c1 zs hJ => ?_
      have eI := hJ.1
      have s2 := hJ.2.1
      have h2 := hJ.2.2.1
      have a2 := hJ.2.2.2
      clear hI hJ
      subst eI
      obtain ⟨d, hd, ad⟩ := Paired.get2 a1 hi
      rw [List.getElem?_map] at hd
      obtain ⟨b, hb, rfl⟩ := Option.map_eq_some_iff.mp hd
      have hiL : i < (bandsL R cs).length := (List.getElem?_eq_some_iff.mp hb).1
      dsimp only [gName]
      rw [if_pos rfl]
      refine ⟨_, rfl, _, rfl, v, x, R, C, cs, b, rfl, ht.mono (s1.trans s2), ad.mono s2, tl, bands_ok tl.toPart hR1 (List.mem_of_getElem? hb), few, fun v' H3 s3 at3 => ⟨zs, s3 _ _ h2, ?_, ?_⟩⟩
      · have h1 := a2.length
        rw [List.length_map, List.length_map, List.length_take] at h1
        exact small1000 (by omega)
      · refine ⟨_, zs ++ [v'], rfl, fun b' o e => ?_, upd_same, ?_⟩
        · rw [upd_ne (ne_of_none e hm)]
          exact s3 _ _ (s2 _ _ e)
        · rw [less_upd mm, take_map_succ hb, List.map_append]
          refine Paired.snoc' (a2.mono (less_mono s3)) (at3.mono (less_less fun a xs e => ?_))
          rcases mne a _ e with rfl | e
          · exact ⟨_, h2⟩
          · exact ⟨_, s2 _ _ e⟩
    intro σ1 H2 hI
    refine ex_2 hI fun c1 zs hJ => ?_
    have s2 := hJ.2.1
    have h2 := hJ.2.2.1
    have a2 := hJ.2.2.2
    rw [← lx, List.take_length] at a2
    exact q m zs H2 (s1.trans s2) h2 (s1.free hm) (a2.mono (less_same (s1.trans smm)))
end
noncomputable def spRowsOf : Sp := fun vs H Q _ => ∃ (v : V) (ts : List Tab), vs = [v] ∧ At H (runD ts) v ∧ ts.length ≤ 100 ∧ ∀ H', Same H H' → Q (.int ((rowsL ts : Nat) : Int)) H'
theorem sumR : ∀ (ts : List Tab), (ts.map fun (t : Tab) => (t.R : Int)).sum = ((rowsL ts : Nat) : Int)
  | [] => rfl
  | t :: ts => by
    rw [List.map_cons, List.sum_cons, sumR ts]
    show (t.R : Int) + (rowsL ts : Int) = ((t.R + rowsL ts : Nat) : Int)
    omega
section
variable {P : Program} {w : World} {K : PySem.W.Frag} {mg : Str → Option Value} {base : Heap}
theorem nd_rws : (["part"] : List Str).Nodup := by decide +kernel
noncomputable abbrev rwsScope : Scope := scopeOf (argOf (exprOf (nth (defBody (top 91)) 0)) 0)
theorem sc_rows_of : FnScope ["parts"] ["parts"] (defScope (top 91)) := ⟨rfl, rfl, rfl, by decide +kernel, rfl, by decide +kernel, by decide +kernel⟩
set_option maxHeartbeats 4000000 in
theorem ok_rows_of (T : Txt mg) (f : Addr) (fd : FuncData) (F : Fun K "rows_of" "rows_of" (top 91) f fd) : FnOk P w K mg base CX0 1 f fd ["parts"] spRowsOf := by
  refine F.ok sc_rows_of (fun vs H Q E h => ?_) (fun cdv A outer s H vs Q E hr h => ?_)
  · obtain ⟨v, ts, rfl, _⟩ := h; rfl
  · obtain ⟨v, ts, rfl, hv, few, q⟩ := h
    obtain ⟨l, ys, rfl, hl, ry⟩ := hv.lst_inv
    have co_rws := compOk_def (X := (cxOf CX0 P w K mg base ["parts"] "rows_of" (defScope (top 91)) f cdv A outer s H E).nox) (N1 := ["part"]) (cap := [none]) (scope := rwsScope) (sc := defScope (top 91)) (s.heap.objs.size + 1) rfl rfl rfl
      (by decide +kernel) (by decide +kernel) (by decide +kernel) rfl (by
        intro i hi x j e1 e2
        match i, hi, e1, e2 with
        | 0, _, e1, e2 => cases e2)
    have lx := ry.length
    rw [List.length_map] at lx
    refine ⟨_, (pss_one (ps_ret (pe_callB (call_sumL (K := K) rfl rfl) (by rfl) T.sum PyProof.Rows.boot_sum (pa_cons (pe_comp co_rws rfl (pi_listK (K := K) rfl (pv 0)) (fun _ _ _ _ => (pg_name (i := 0) nd_rws rfl (by first | exact Or.inl rfl | exact Or.inr rfl) (Or.inr rfl))) (fun _ _ _ _ => pif_nil) (fun _ _ _ _ => (pe_ix (ix_tupK (K := K) rfl) (pv 0) pe_int (fun _ _ => rfl)))) pa_nil)))), ?_⟩
    refine ⟨_, rfl, l, rfl, ⟨_, SqL.of hl⟩, fun m hm => ?_⟩
    refine comp_list (K := K) (a := l) (xs := ys) (fun i σ1 H2 => ∃ (c1 : Option V), σ1 = [c1] ∧ Same H H2 ∧ H2 m = some (.lst (((ts.take i).map fun (t : Tab) => (t.R : Int)).map V.int)))
      ⟨none, rfl, Same.upd_new hm, upd_same⟩ (fun i σ1 H2 _ ⟨_, _, s2, _⟩ => SqL.of (s2 _ _ hl)) ?_ ?_
    · intro i x σ1 H2 hi hI
      refine ex_1 hI fun c1 hJ => ?_
      have eI := hJ.1
      have s2 := hJ.2.1
      have h2 := hJ.2.2
      clear hI hJ
      subst eI
      obtain ⟨t, ht, at1⟩ := tabs_get ry hi
      have hiL := (List.getElem?_eq_some_iff.mp ht).1
      obtain ⟨p, l2, zs, rfl, hp, _, _⟩ := tab_inv (at1.mono s2)
      dsimp only [gName]
      rw [if_pos rfl]
      refine ⟨_, rfl, p, _, (0 : Int), _, rfl, rfl, SqT.of hp, rfl, _, h2, ?_, ?_⟩
      · rw [List.length_map, List.length_map, List.length_take]
        exact small1000 (by omega)
      · refine ⟨_, rfl, fun b' o e => ?_, ?_⟩
        · rw [upd_ne (ne_of_none e hm)]
          exact s2 _ _ e
        · rw [take_map_succ ht, List.map_append]
          exact upd_same
    intro σ1 H2 hI
    refine ex_1 hI fun c1 hJ => ?_
    have eI := hJ.1
    have s2 := hJ.2.1
    have h2 := hJ.2.2
    clear hI hJ
    subst eI
    rw [← lx, List.take_length] at h2
    refine ⟨m, _, rfl, SqL.of h2, ?_⟩
    rw [sumR]
    exact q H2 s2

end
end KL

set_option Elab.async false
set_option linter.all false
set_option autoImplicit false
set_option maxRecDepth 100000
namespace KL
open PySem L2 GT PyProof.Rows
noncomputable def spEmptyCell : Sp := fun vs H Q _ => ∃ r c : Nat, vs = [.int r, .int c] ∧ ∀ v H', Same H H' → At H' (emptyCell r c).D v → Q v H'
section
variable {P : Program} {w : World} {K : PySem.W.Frag} {mg : Str → Option Value} {base : Heap}
theorem sc_empty_cell : FnScope ["row", "column"] ["row", "column"] (defScope (top 27)) := ⟨rfl, rfl, rfl, by decide +kernel, rfl, by decide +kernel, by decide +kernel⟩
set_option maxHeartbeats 4000000 in
theorem ok_empty_cell (f : Addr) (fd : FuncData) (F : Fun K "empty_cell" "empty_cell" (top 27) f fd) : FnOk P w K mg base CX0 1 f fd ["row", "column"] spEmptyCell := by
  refine F.ok sc_empty_cell (fun vs H Q E h => ?_) (fun cdv A outer s H vs Q E hr h => ?_)
  · obtain ⟨r, c, rfl, _⟩ := h; rfl
  · obtain ⟨r, c, rfl, k⟩ := h
    refine ⟨_, (pss_one (ps_ret (pe_tup (pa_cons (pv 0) (pa_cons (pv 1) (pa_cons pe_int (pa_cons pe_int (pa_cons (pe_tup pa_nil) pa_nil)))))))), ?_⟩
    refine ⟨_, rfl, _, rfl, ?_⟩
    refine ⟨by show 0 ≤ sizeLine; decide, fun p hp => ⟨by show 5 ≤ sizeLine; decide, fun q hq => ?_⟩⟩
    have s1 := Same.upd_new (o := .tup []) hp
    have s2 := Same.upd_new (o := .tup [.int r, .int c, .int 1, .int 1, .ref p]) hq
    exact k _ _ (s1.trans s2) (Cell.at_mk (x := emptyCell r c) (ws := []) upd_same (s2 _ _ upd_same) .nil)

end
/-! ### refusals -/
/-- the first cell that lies only partly in the block -/
noncomputable def crossAt (t l h w : Nat) (cs : List Cell) : Option Nat := cs.findIdx? fun x => meetsB t l h w x && !liesB t l h w x
noncomputable def Told (H : Hp) (CX : Addr) (i : Nat) (E : XK) : Prop := ∀ (dx : Addr) (H' : Hp), Same H H' → H' dx = some (.xd [("at", .int (i : Int))]) → E (.ref CX) (some dx) H'
theorem crossAt_some {t l h w : Nat} {cs : List Cell} {i : Nat} {X : Cell} (hX : cs[i]? = some X) (hx : (meetsB t l h w X && !liesB t l h w X) = true) (no : ∀ k Y, k < i → cs[k]? = some Y → (meetsB t l h w Y && !liesB t l h w Y) = false) : crossAt t l h w cs = some i := by
  obtain ⟨hi, eX⟩ := List.getElem?_eq_some_iff.mp hX
  refine List.findIdx?_eq_some_iff_getElem.mpr ⟨hi, by rw [eX]; exact hx, fun j hj => ?_⟩
  rw [no j _ hj (List.getElem?_eq_getElem (by omega))]
  decide
theorem crossAt_none {t l h w : Nat} {cs : List Cell} (no : ∀ k Y, k < cs.length → cs[k]? = some Y → (meetsB t l h w Y && !liesB t l h w Y) = false) : crossAt t l h w cs = none := by
  refine List.findIdx?_eq_none_iff.mpr fun x hx => ?_
  obtain ⟨k, hk, e⟩ := List.getElem_of_mem hx
  rw [no k x hk (by rw [List.getElem?_eq_getElem hk, e])]
noncomputable def spCellsX (CX : Addr) : Sp := fun vs H Q E => ∃ (v u : V) (R C : Nat) (cs : List Cell) (t l h w i0 : Nat), vs = [v, u] ∧ At H (tabD R C cs) v ∧ At H (blockD t l h w) u ∧ cs.length ≤ 1000 ∧ crossAt t l h w cs = some i0 ∧ Told H CX i0 E
noncomputable def spJoin0 (CX : Addr) : Sp := fun vs H Q E => ∃ (v : V) (R C : Nat) (cs : List Cell) (t l h w i0 : Nat), vs = [v, .int t, .int l, .int h, .int w] ∧ At H (tabD R C cs) v ∧ cs.length ≤ 1000 ∧ crossAt t l h w cs = some i0 ∧ Told H CX i0 E
noncomputable def spFrame0 : Sp := fun vs H Q _ => vs = [.non] ∧ Q (.bl false) H
noncomputable def spChecked0 (CX : Addr) : Sp := fun vs H Q E => vs = [.non] ∧ ∀ dx H', Same H H' → H' dx = some (.xd [("at", .non)]) → E (.ref CX) (some dx) H'
noncomputable def spEmpty0 : Sp := fun vs H Q _ => ∃ R C : Nat, vs = [.int R, .int C] ∧ R ≤ 16 ∧ C ≤ 16 ∧ ∀ p l H', Same H H' → H' p = some (.tup [.int R, .int C, .ref l]) → Q (.ref p) H'
noncomputable def spRowIn0 (CB : Addr) : Sp := fun vs H Q E => ∃ (p : Addr) (n : Int) (R : Nat) (c l : V), vs = [.ref p, .int n] ∧ H p = some (.tup [.int R, c, l]) ∧ 16 ≤ R ∧ E (.ref CB) none H
noncomputable def spRowOut0 (CS : Addr) : Sp := fun vs H Q E => ∃ (p : Addr) (n : Int) (R : Nat) (c l : V), vs = [.ref p, .int n] ∧ H p = some (.tup [.int R, c, l]) ∧ R ≤ 1 ∧ E (.ref CS) none H
noncomputable def spEnded0 : Sp := fun vs H Q _ => ∃ z : Str, vs = [.str z] ∧ Txt.endswith z (Str.ofString "\n") = false ∧ ∀ l, H l = none → Q (.ref l) (upd H l (.lst []))
noncomputable def spSheet0 : Sp := fun vs H Q _ => ∃ l : Addr, vs = [.ref l] ∧ H l = some (.lst []) ∧ ∀ H', Same H H' → Q (.bl false) H'
noncomputable def spRead0 (CD : Addr) : Sp := fun vs H Q E => ∃ z : Str, vs = [.str z] ∧ Txt.endswith z (Str.ofString "\n") = false ∧ ∀ H', Same H H' → E (.ref CD) none H'
noncomputable def tallC : Cell := ⟨0, 0, 2, 1, []⟩
noncomputable def wideC : Cell := ⟨0, 0, 1, 2, []⟩
noncomputable def spStrips0 (CX : Addr) : Sp := fun vs H Q E => ∃ v : V, vs = [v, .int 0, .int 1] ∧ At H (tabD 2 1 [tallC]) v ∧ ∀ dx H', Same H H' → H' dx = some (.xd [("at", .int 0)]) → E (.ref CX) (some dx) H'
theorem tall_tiles : Tiles 2 1 [tallC] where
  fit := fun x hx => by
    rw [List.mem_singleton.mp hx]
    exact ⟨by decide, by decide, by decide, by decide, ⟨by decide, fun y hy => by simp [tallC] at hy⟩⟩
  dis := List.pairwise_singleton _ _
  ord := List.pairwise_singleton _ _
  all := fun r c hr hc => ⟨tallC, List.mem_cons_self, Nat.zero_le _, by show r < 0 + 2; omega, Nat.zero_le _, by show c < 0 + 1; omega⟩
theorem nil_fits : fits 2 (.lst []) := fun d hd => by simp at hd
theorem kit_none_tuple {K : PySem.W.Frag} : PySem.W.kitOne K (.type "NoneType") (.type "tuple") = some false := by rfl
section
variable {P : Program} {w : World} {K : PySem.W.Frag} {mg : Str → Option Value} {base : Heap}
theorem sc_cells_inx : FnScope ["table", "block", "at", "cell"] ["table", "block"] (defScope (top 41)) := ⟨rfl, rfl, rfl, by decide +kernel, rfl, by decide +kernel, by decide +kernel⟩
set_option maxHeartbeats 4000000 in
theorem ok_cells_inx (T : Txt mg) {CX_Crossing : Addr} (x_Crossing : ExcJ P w K mg base "Crossing" CX_Crossing) (c_meets : Cal P w K mg base 1 "meets" ["cell", "block"] (spBlockB meetsB)) (c_lies_in : Cal P w K mg base 1 "lies_in" ["cell", "block"] (spBlockB liesB)) (f : Addr) (fd : FuncData) (F : Fun K "cells_in" "cells_in" (top 41) f fd) : FnOk P w K mg base (CX1 P w base) 3 f fd ["table", "block"] (spCellsX CX_Crossing) := by
  refine F.ok1 sc_cells_inx (fun vs H Q E h => ?_) (fun cdv A outer s H vs Q E hr h => ?_)
  · obtain ⟨v, u, R, C, cs, t, l, hh, ww, i0, rfl, _⟩ := h; rfl
  · obtain ⟨v, u, R, C, cs, t, l, hh, ww, i0, rfl, ht, hu, few, hc0, qE0⟩ := h
    have hr_meets : Room 1 (A.deeper (envOfC "cells_in" (defScope (top 41)) s.heap.objs.size f cdv)) := hr.mono (by decide)
    have hr_lies_in : Room 1 (A.deeper (envOfC "cells_in" (defScope (top 41)) s.heap.objs.size f cdv)) := hr.mono (by decide)
    have qE : ∀ i, crossAt t l hh ww cs = some i → Told H CX_Crossing i E := fun i hi => by rw [hc0] at hi; cases hi; exact qE0
    obtain ⟨p, ll, ys, rfl, hp, hl, ry⟩ := tab_inv ht
    obtain ⟨b, rfl, hb⟩ := block_inv hu
    have lx := ry.length
    rw [List.length_map] at lx
    refine ⟨_, (pss_cons (ps_for PassesOwn.leaving rfl (pi_enum (K := K) rfl rfl T.enumerate (pa_cons (pe_ix (ix_tupK (K := K) rfl) (pv 0) pe_int (fun _ _ => rfl)) pa_nil)) (pg_tupK (K := K) (n := 2) rfl rfl (pgs_cons (pg_name (i := 2) sc_cells_inx.nd rfl (by first | exact Or.inl rfl | exact Or.inr rfl)) (pgs_cons (pg_name (i := 3) sc_cells_inx.nd rfl (by first | exact Or.inl rfl | exact Or.inr rfl)) pgs_nil))) (pss_one (ps_if (PW.pt (pw_and (pt_val (pe_cal c_meets hr_meets rfl (pa_cons (pv 3) (pa_cons (pv 1) pa_nil)))) (pw_and1 (pt_not (pt_val (pe_cal c_lies_in hr_lies_in rfl (pa_cons (pv 3) (pa_cons (pv 1) pa_nil)))))))) (pss_one (ps_raiseJ x_Crossing hr rfl rfl letsD_def (pa_cons (pv 2) pa_nil))) pss_nil)))
      pss_never), ?_⟩
    refine ⟨_, rfl, p, _, (2 : Int), _, rfl, rfl, SqT.of hp, rfl, ll, rfl, ⟨_, SqL.of hl⟩, ?_⟩
    refine for_enum (K := K) (a := ll) (xs := ys) (fun i σ H2 => ∃ (c2 c3 : Option V), σ = [some (.ref p), some (.ref b), c2, c3] ∧ Same H H2 ∧ ∀ k Y, k < i → cs[k]? = some Y → (meetsB t l hh ww Y && !liesB t l hh ww Y) = false)
      ⟨none, none, rfl, (fun _ _ z => z), fun k Y hk => absurd hk (Nat.not_lt_zero _)⟩ (fun i σ H2 _ ⟨_, _, _, s2, _⟩ => SqL.of (s2 _ _ hl)) ?_ ?_
    · intro i x σ H2 t2 hi hI ht2
      refine ex_2 hI fun c2 c3 hJ => ?_
      have eI := hJ.1
      have s2 := hJ.2.1
      have no := hJ.2.2
      clear hI hJ
      subst eI
      have s3 := Same.upd_new (o := .tup [.int (i : Int), x]) ht2
      obtain ⟨d, hd, ad⟩ := Paired.get2 ry hi
      rw [List.getElem?_map] at hd
      obtain ⟨X, hX, rfl⟩ := Option.map_eq_some_iff.mp hd
      have hiL : i < cs.length := (List.getElem?_eq_some_iff.mp hX).1
      have s23 := s2.trans s3
      have go : (meetsB t l hh ww X && !liesB t l hh ww X) = false → ∀ k Y, k < i + 1 → cs[k]? = some Y → (meetsB t l hh ww Y && !liesB t l hh ww Y) = false := fun z k Y hk hY => by
        by_cases e : k = i
        · subst e; rw [hX] at hY; cases hY; exact z
        · exact no k Y (by omega) hY
      refine ⟨t2, _, rfl, SqT.of upd_same, rfl, _, _, rfl, _, _, rfl, rfl, ?_⟩
      refine ⟨_, rfl, _, rfl, x, .ref b, X, t, l, hh, ww, rfl, ad.mono s23, hu.mono s23, fun b1 e1 => ⟨b1, rfl, ?_⟩⟩
      refine ite2 (fun hb1 => ?_) (fun hb1 => iteF ⟨_, _, rfl, s23, go (by rw [← e1, eq_false_of_ne_true hb1]; rfl)⟩)
      refine ⟨_, rfl, _, rfl, x, .ref b, X, t, l, hh, ww, rfl, ad.mono s23, hu.mono s23, fun b2 e2 => ⟨b2, rfl, ?_⟩⟩
      cases b2 with
      | true => exact iteF ⟨_, _, rfl, s23, go (by rw [← e2, Bool.not_true, Bool.and_false])⟩
      | false =>
        refine iteT ⟨_, rfl, _, rfl, .inl ⟨_, rfl, small_log (by omega)⟩, fun dx hdx => ?_⟩
        exact qE i (crossAt_some hX (by rw [← e1, ← e2, hb1]; rfl) no) dx _ (s23.trans (Same.upd_new hdx)) upd_same
    intro σ H2 hI
    refine ex_2 hI fun c2 c3 hJ => ?_
    have hn := crossAt_none (fun k Y hk hY => hJ.2.2 k Y (by omega) hY)
    rw [hc0] at hn
    cases hn

theorem sc_joined : FnScope ["table", "top", "left", "height", "width", "block", "words", "cell", "others"] ["table", "top", "left", "height", "width"] (defScope (top 38)) := ⟨rfl, rfl, rfl, by decide +kernel, rfl, by decide +kernel, by decide +kernel⟩
set_option maxHeartbeats 4000000 in
theorem ok_joined {CX_Crossing : Addr} (T : Txt mg) (c_cells_inx : Cal1 P w K mg base 3 "cells_in" ["table", "block"] (spCellsX CX_Crossing)) (f : Addr) (fd : FuncData) (F : Fun K "joined" "joined" (top 38) f fd) : FnOk P w K mg base (CX1 P w base) 4 f fd ["table", "top", "left", "height", "width"] (spJoin0 CX_Crossing) := by
  refine F.ok1 sc_joined (fun vs H Q E h => ?_) (fun cdv A outer s H vs Q E hr h => ?_)
  · obtain ⟨v, R, C, cs, t, l, hh, ww, i0, rfl, _⟩ := h; rfl
  · obtain ⟨v, R, C, cs, t, l, hh, ww, i0, rfl, ht, few, hc0, qE⟩ := h
    have hr_cells_inx : Room 3 (A.deeper (envOfC "joined" (defScope (top 38)) s.heap.objs.size f cdv)) := hr.mono (by decide)
    refine ⟨_, (pss_cons (ps_set (i := 5) sc_joined.nd rfl (by first | exact Or.inl rfl | exact Or.inr rfl) (pe_tup (pa_cons (pv 1) (pa_cons (pv 2) (pa_cons (pv 3) (pa_cons (pv 4) pa_nil))))))
      (pss_cons (ps_set (i := 6) sc_joined.nd rfl (by first | exact Or.inl rfl | exact Or.inr rfl) (pe_tup pa_nil))
      (pss_cons (ps_for PassesOwn.leaving rfl (pi_listK (K := K) rfl (pe_calP c_cells_inx hr_cells_inx rfl (pa_cons (pv 0) (pa_cons (pv 5) pa_nil)))) (pg_name (i := 7) sc_joined.nd rfl (by first | exact Or.inl rfl | exact Or.inr rfl)) (pss_one (ps_set (i := 6) sc_joined.nd rfl (by first | exact Or.inl rfl | exact Or.inr rfl) (pe_op (op_catAK (K := K) rfl) (pv 6) (pe_ix (ix_tupK (K := K) rfl) (pv 7) pe_int (fun _ _ => rfl))))))
      pss_never))), ?_⟩
    refine ⟨_, rfl, _, rfl, _, rfl, _, rfl, by show 4 ≤ sizeLine; decide, fun b hb => ?_⟩
    have s1 := Same.upd_new (o := .tup [.int (t : Int), .int (l : Int), .int (hh : Int), .int (ww : Int)]) hb
    have kb := upd_same (H := H) (a := b) (o := .tup [.int (t : Int), .int (l : Int), .int (hh : Int), .int (ww : Int)])
    generalize hH1 : upd H b (.tup [.int (t : Int), .int (l : Int), .int (hh : Int), .int (ww : Int)]) = H1 at *
    have ab : At H1 (blockD t l hh ww) (.ref b) := .tup kb (.cons (.int _) (.cons (.int _) (.cons (.int _) (.cons (.int _) .nil))))
    refine ⟨by show 0 ≤ sizeLine; decide, fun w0 hw0 => ?_⟩
    have s2 := Same.upd_new (o := .tup []) hw0
    have s12 := s1.trans s2
    exact ⟨_, rfl, _, rfl, v, .ref b, R, C, cs, t, l, hh, ww, i0, rfl, ht.mono s12, ab.mono s2, few, hc0, fun dx H3 s3 h3 => qE dx H3 (s12.trans s3) h3⟩

theorem sc_has_frame : FnScope ["thing"] ["thing"] (defScope (top 17)) := ⟨rfl, rfl, rfl, by decide +kernel, rfl, by decide +kernel, by decide +kernel⟩
set_option maxHeartbeats 4000000 in
theorem ok_has_frame (T : Txt mg) (f : Addr) (fd : FuncData) (F : Fun K "has_frame" "has_frame" (top 17) f fd) : FnOk P w K mg base CX0 1 f fd ["thing"] spFrame0 := by
  refine F.ok sc_has_frame (fun vs H Q E h => ?_) (fun cdv A outer s H vs Q E hr h => ?_)
  · obtain ⟨rfl, _⟩ := h; rfl
  · obtain ⟨rfl, q⟩ := h
    refine ⟨_, (pss_cons (ps_if (PW.pt (pw_or (pt_not (pt_val (pe_callB (call_isinst (K := K) rfl) (by rfl) T.isinstance PyProof.Rows.boot_isinstance (pa_cons (pv 0) (pa_cons (pe_bltn (v := .ty "tuple") rfl T.tuple PyProof.Rows.boot_tuple rfl) pa_nil))))) (pw_or1 (pt_cmpR op_ne (pe_callB (call_lenK (K := K) rfl) (by rfl) T.len PySem.boot_len (pa_cons (pv 0) pa_nil)) pe_int (nomark _))))) (pss_one (ps_ret pe_bl)) pss_nil)
      pss_never), ?_⟩
    exact ⟨_, rfl, _, "tuple", _, false, rfl, .non, kit_none_tuple, false, rfl, iteT (iteT q)⟩

theorem sc_checked : FnScope ["table", "rows", "columns", "cells", "covered", "at", "cell", "place"] ["table"] (defScope (top 14)) := ⟨rfl, rfl, rfl, by decide +kernel, rfl, by decide +kernel, by decide +kernel⟩
set_option maxHeartbeats 4000000 in
theorem ok_checked {CX_BadTable : Addr} (x_BadTable : ExcJ P w K mg base "BadTable" CX_BadTable) (c_has_frame : Cal P w K mg base 1 "has_frame" ["thing"] spFrame0) (f : Addr) (fd : FuncData) (F : Fun K "checked" "checked" (top 14) f fd) : FnOk P w K mg base (CX1 P w base) 3 f fd ["table"] (spChecked0 CX_BadTable) := by
  refine F.ok1 sc_checked (fun vs H Q E h => ?_) (fun cdv A outer s H vs Q E hr h => ?_)
  · obtain ⟨rfl, _⟩ := h; rfl
  · obtain ⟨rfl, q⟩ := h
    have hr_has_frame : Room 1 (A.deeper (envOfC "checked" (defScope (top 14)) s.heap.objs.size f cdv)) := hr.mono (by decide)
    refine ⟨_, (pss_cons (ps_if (pt_not (pt_val (pe_cal c_has_frame hr_has_frame rfl (pa_cons (pv 0) pa_nil)))) (pss_one (ps_raiseJ x_BadTable hr rfl rfl letsD_def (pa_cons pe_non pa_nil))) pss_nil)
      pss_never), ?_⟩
    exact ⟨_, rfl, rfl, false, rfl, iteT ⟨_, rfl, .inr rfl, fun dx hdx => q dx _ (Same.upd_new hdx) upd_same⟩⟩

theorem nd_emc : (["column", "row"] : List Str).Nodup := by decide +kernel
noncomputable abbrev emcScope : Scope := scopeOf (argOf (exprOf (nth (bodyOf (nth (defBody (top 15)) 1)) 0)) 0)
theorem sc_empty : FnScope ["rows", "columns", "cells", "row"] ["rows", "columns"] (defScope (top 15)) := ⟨rfl, rfl, rfl, by decide +kernel, rfl, by decide +kernel, by decide +kernel⟩
set_option maxHeartbeats 4000000 in
theorem ok_empty (T : Txt mg) (c_empty_cell : Cal P w K mg base 1 "empty_cell" ["row", "column"] spEmptyCell) (f : Addr) (fd : FuncData) (F : Fun K "empty" "empty" (top 15) f fd) : FnOk P w K mg base CX0 2 f fd ["rows", "columns"] spEmpty0 := by
  refine F.ok sc_empty (fun vs H Q E h => ?_) (fun cdv A outer s H vs Q E hr h => ?_)
  · obtain ⟨R, C, rfl, _⟩ := h; rfl
  · obtain ⟨R, C, rfl, hR, hC, q⟩ := h
    have hr_empty_cell : Room 1 (A.deeper (envOfC "empty" (defScope (top 15)) s.heap.objs.size f cdv)) := hr.mono (by decide)
    have co_emc := compOk_def (X := (cxOf CX0 P w K mg base ["rows", "columns", "cells", "row"] "empty" (defScope (top 15)) f cdv A outer s H E).nox) (N1 := ["column", "row"]) (cap := [none, some 3]) (scope := emcScope) (sc := defScope (top 15)) (s.heap.objs.size + 1) rfl rfl rfl
      (by decide +kernel) (by decide +kernel) (by decide +kernel) rfl (by
        intro i hi x j e1 e2
        match i, hi, e1, e2 with
        | 0, _, e1, e2 => cases e2
        | 1, _, e1, e2 => cases e1; cases e2; exact ⟨rfl, rfl, rfl⟩)
    have eR : ((R : Int)).toNat = R := by omega
    have eC : ((C : Int)).toNat = C := by omega
    refine ⟨_, (pss_cons (ps_set (i := 2) sc_empty.nd rfl (by first | exact Or.inl rfl | exact Or.inr rfl) (pe_lst pa_nil))
      (pss_cons (ps_for PassesOwn.never rfl (pi_range1 rfl T.range (pa_cons (pv 0) pa_nil)) (pg_name (i := 3) sc_empty.nd rfl (by first | exact Or.inl rfl | exact Or.inr rfl)) (pss_one (ps_expr (pe_bmK (K := K) rfl PySem.F.plainAttrs_list PySem.F.slot_list_extend PySem.F.type_list_extend mt_extend (pv 2) (pa_cons (pe_comp co_emc rfl (pi_range1 rfl T.range (pa_cons (pv 1) pa_nil)) (fun _ _ _ _ => (pg_name (i := 0) nd_emc rfl (by first | exact Or.inl rfl | exact Or.inr rfl) (Or.inr rfl))) (fun _ _ _ _ => pif_nil) (fun _ _ _ _ => (pe_cal c_empty_cell hr_empty_cell rfl (pa_cons (pv 1) (pa_cons (pv 0) pa_nil))))) pa_nil)))))
      (pss_one (ps_ret (pe_tup (pa_cons (pv 0) (pa_cons (pv 1) (pa_cons (pv 2) pa_nil)))))))), ?_⟩
    refine ⟨by show 0 ≤ sizeLine; decide, fun t ht => ?_⟩
    have s1 := Same.upd_new (o := .lst []) ht
    refine ⟨_, rfl, (R : Int), rfl, by omega, by omega, ?_⟩
    rw [eR]
    refine for_range (n := R) (fun i σ H2 => ∃ (c3 : Option V) (xs : List V), σ = [some (.int R), some (.int C), some (.ref t), c3] ∧ Same H H2 ∧ H2 t = some (.lst xs) ∧ xs.length ≤ 16 * i)
      ⟨none, [], rfl, s1, upd_same, Nat.zero_le _⟩ ?_ ?_
    · intro i σ H2 hi hI
      refine ex_2 hI fun c3 xs hJ => ?_
      have eI := hJ.1
      have s2 := hJ.2.1
      have h2 := hJ.2.2.1
      have l2 := hJ.2.2.2
      clear hI hJ
      subst eI
      rw [Int.zero_add]
      refine ⟨_, rfl, .inl ⟨rfl, _, SqL.of h2⟩, _, rfl, (C : Int), rfl, by omega, by omega, fun acc hacc => ?_⟩
      rw [eC]
      refine comp_range (lo := 0) (n := C) (fun j σ1 H5 => ∃ (c1 : Option V) (zs : List V), σ1 = [c1, some (.int i)] ∧ Same H2 H5 ∧ H5 acc = some (.lst zs) ∧ zs.length = j)
        ⟨none, [], rfl, Same.upd_new hacc, upd_same, rfl⟩ ?_ ?_
      · intro j σ1 H5 hj hI
        refine ex_2 hI fun c1 zs hJ => ?_
        have eI := hJ.1
        have s5 := hJ.2.1
        have h5 := hJ.2.2.1
        have l5 := hJ.2.2.2
        clear hI hJ
        subst eI
        dsimp only [gName]
        rw [if_pos rfl, Int.zero_add]
        refine ⟨_, rfl, _, rfl, i, j, rfl, fun v' H6 s6 at6 => ⟨zs, s6 _ _ h5, small1000 (by omega), ?_⟩⟩
        refine ⟨_, zs ++ [v'], rfl, fun b o e => ?_, upd_same, by rw [List.length_append, l5]; rfl⟩
        rw [upd_ne (ne_of_none e hacc)]
        exact s6 _ _ (s5 _ _ e)
      · intro σ1 H5 hI
        refine ex_2 hI fun c1 zs hJ => ?_
        have s5 := hJ.2.1
        have h5 := hJ.2.2.1
        have l5 := hJ.2.2.2
        clear hI hJ
        have h2' := s5 _ _ h2
        refine ⟨t, acc, xs, zs, rfl, rfl, h2', h5, Nat.le_of_lt (small1000 (by omega)), ?_⟩
        refine ⟨_, xs ++ zs, rfl, fun b o e => ?_, upd_same, by rw [List.length_append]; omega⟩
        rw [upd_ne (ne_of_none e ht)]
        exact s5 _ _ (s2 _ _ e)
    · intro σ H2 hI
      refine ex_2 hI fun c3 xs hJ => ?_
      have eI := hJ.1
      have s2 := hJ.2.1
      clear hI
      subst eI
      exact ⟨_, rfl, _, rfl, _, rfl, by show 3 ≤ sizeLine; decide, fun p hp => q p t _ (s2.trans (Same.upd_new hp)) upd_same⟩

theorem sc_row_in : FnScope ["table", "at", "rows", "columns", "moved", "spread", "fresh"] ["table", "at"] (defScope (top 31)) := ⟨rfl, rfl, rfl, by decide +kernel, rfl, by decide +kernel, by decide +kernel⟩
set_option maxHeartbeats 4000000 in
theorem ok_row_in (T : Txt mg) (k_LONGEST_SIDE : ∃ t, mg "LONGEST_SIDE" = some (.int 16 t)) {CX_TooBig : Addr} (x_TooBig : ExcC K mg base "TooBig" CX_TooBig) (f : Addr) (fd : FuncData) (F : Fun K "row_in" "row_in" (top 31) f fd) : FnOk P w K mg base (CX1 P w base) 3 f fd ["table", "at"] (spRowIn0 CX_TooBig) := by
  refine F.ok1 sc_row_in (fun vs H Q E h => ?_) (fun cdv A outer s H vs Q E hr h => ?_)
  · obtain ⟨p, n, R, c, l, rfl, _⟩ := h; rfl
  · obtain ⟨p, n, R, c, l, rfl, hp, hR, q⟩ := h
    obtain ⟨t_LONGEST_SIDE, m_LONGEST_SIDE⟩ := k_LONGEST_SIDE
    refine ⟨_, (pss_cons (ps_if (pt_cmpR op_ge (pe_ix (ix_tupK (K := K) rfl) (pv 0) pe_int (fun _ _ => rfl)) (pe_glob (v := .int 16) rfl m_LONGEST_SIDE ⟨_, rfl⟩) (nomark _)) (pss_one (ps_raiseC x_TooBig rfl rfl lets_def (pa_cons pe_str pa_nil))) pss_nil)
      pss_never), ?_⟩
    exact ⟨_, rfl, p, _, (0 : Int), _, rfl, rfl, SqT.of hp, rfl, _, _, rfl, rfl, _, rfl, ite2 (fun _ => ⟨by show 1 ≤ sizeLine; decide, q⟩) (fun z => absurd (decide_eq_true (by omega)) z)⟩

theorem sc_row_out : FnScope ["table", "at", "left_over"] ["table", "at"] (defScope (top 32)) := ⟨rfl, rfl, rfl, by decide +kernel, rfl, by decide +kernel, by decide +kernel⟩
set_option maxHeartbeats 4000000 in
theorem ok_row_out (T : Txt mg) {CX_TooSmall : Addr} (x_TooSmall : ExcC K mg base "TooSmall" CX_TooSmall) (f : Addr) (fd : FuncData) (F : Fun K "row_out" "row_out" (top 32) f fd) : FnOk P w K mg base (CX1 P w base) 3 f fd ["table", "at"] (spRowOut0 CX_TooSmall) := by
  refine F.ok1 sc_row_out (fun vs H Q E h => ?_) (fun cdv A outer s H vs Q E hr h => ?_)
  · obtain ⟨p, n, R, c, l, rfl, _⟩ := h; rfl
  · obtain ⟨p, n, R, c, l, rfl, hp, hR, q⟩ := h
    refine ⟨_, (pss_cons (ps_if (pt_cmpR op_le (pe_ix (ix_tupK (K := K) rfl) (pv 0) pe_int (fun _ _ => rfl)) pe_int (nomark _)) (pss_one (ps_raiseC x_TooSmall rfl rfl lets_def (pa_cons pe_str pa_nil))) pss_nil)
      pss_never), ?_⟩
    exact ⟨_, rfl, p, _, (0 : Int), _, rfl, rfl, SqT.of hp, rfl, _, _, rfl, rfl, _, rfl, ite2 (fun _ => ⟨by show 1 ≤ sizeLine; decide, q⟩) (fun z => absurd (decide_eq_true (by omega)) z)⟩

theorem sc_ended_rows : FnScope ["thing"] ["thing"] (defScope (top 50)) := ⟨rfl, rfl, rfl, by decide +kernel, rfl, by decide +kernel, by decide +kernel⟩
set_option maxHeartbeats 4000000 in
theorem ok_ended_rows (T : Txt mg) (f : Addr) (fd : FuncData) (F : Fun K "ended_rows" "ended_rows" (top 50) f fd) : FnOk P w K mg base CX0 1 f fd ["thing"] spEnded0 := by
  refine F.ok sc_ended_rows (fun vs H Q E h => ?_) (fun cdv A outer s H vs Q E hr h => ?_)
  · obtain ⟨z, rfl, _⟩ := h; rfl
  · obtain ⟨z, rfl, he, q⟩ := h
    refine ⟨_, (pss_cons (ps_if (PW.pt (pw_or (pt_not (pt_val (pe_callB (call_isinst (K := K) rfl) (by rfl) T.isinstance PyProof.Rows.boot_isinstance (pa_cons (pv 0) (pa_cons (pe_bltn (v := .ty "str") rfl T.str PyProof.Rows.boot_str rfl) pa_nil))))) (pw_or1 (pt_not (pt_val (pe_bmK (K := K) rfl PySem.F.plainAttrs_str PySem.F.slot_str_endswith PySem.F.type_str_endswith mt_endsw (pv 0) (pa_cons pe_str pa_nil))))))) (pss_one (ps_ret (pe_lst pa_nil))) pss_nil)
      pss_never), ?_⟩
    refine ⟨_, rfl, _, "str", _, true, rfl, .str _, rfl, true, rfl, iteF ?_⟩
    exact ⟨_, rfl, rfl, z, _, rfl, rfl, false, congrArg V.bl he, iteT ⟨by show 0 ≤ sizeLine; decide, fun l hl => q l hl⟩⟩

theorem sc_is_sheet : FnScope ["signs"] ["signs"] (defScope (top 74)) := ⟨rfl, rfl, rfl, by decide +kernel, rfl, by decide +kernel, by decide +kernel⟩
set_option maxHeartbeats 4000000 in
theorem ok_is_sheet (T : Txt mg) (f : Addr) (fd : FuncData) (F : Fun K "is_sheet" "is_sheet" (top 74) f fd) : FnOk P w K mg base CX0 1 f fd ["signs"] spSheet0 := by
  refine F.ok sc_is_sheet (fun vs H Q E h => ?_) (fun cdv A outer s H vs Q E hr h => ?_)
  · obtain ⟨l, rfl, _⟩ := h; rfl
  · obtain ⟨l, rfl, hl, q⟩ := h
    have hu2 : (A.deeper (envOfC "is_sheet" (defScope (top 74)) s.heap.objs.size f cdv)).units + 1 + 1 < cLine := by have := hr.units; omega
    refine ⟨_, (pss_cons (ps_if (PW.pt (pw_or (pt_cmpR (op_eqD (n := 1) hu2) (pv 0) (pe_lst pa_nil) (nomark _)) (pw_or1 (pt_cmpR op_eq (pe_ix (ix_tupK (K := K) rfl) (pv 0) pe_int (fun _ _ => rfl)) pe_str (nomark _))))) (pss_one (ps_ret pe_bl)) pss_nil)
      pss_never), ?_⟩
    refine ⟨_, rfl, by show 0 ≤ sizeLine; decide, fun m hm => ?_⟩
    have s1 := Same.upd_new (o := .lst []) hm
    exact ⟨.lst [], .lst [], nil_fits, trivial, .lst (s1 _ _ hl) .nil, .lst upd_same .nil, fun _ => ⟨true, rfl, iteT (iteT (q _ s1))⟩, fun z => absurd rfl z⟩

theorem sc_read : FnScope ["text", "signs", "down", "across", "told"] ["text"] (defScope (top 73)) := ⟨rfl, rfl, rfl, by decide +kernel, rfl, by decide +kernel, by decide +kernel⟩
set_option maxHeartbeats 4000000 in
theorem ok_read (T : Txt mg) {CX_BadDrawing : Addr} (x_BadDrawing : ExcC K mg base "BadDrawing" CX_BadDrawing) (c_ended_rows : Cal P w K mg base 1 "ended_rows" ["thing"] spEnded0) (c_is_sheet : Cal P w K mg base 1 "is_sheet" ["signs"] spSheet0) (f : Addr) (fd : FuncData) (F : Fun K "read" "read" (top 73) f fd) : FnOk P w K mg base (CX1 P w base) 3 f fd ["text"] (spRead0 CX_BadDrawing) := by
  refine F.ok1 sc_read (fun vs H Q E h => ?_) (fun cdv A outer s H vs Q E hr h => ?_)
  · obtain ⟨z, rfl, _⟩ := h; rfl
  · obtain ⟨z, rfl, he, q⟩ := h
    have hr_ended_rows : Room 1 (A.deeper (envOfC "read" (defScope (top 73)) s.heap.objs.size f cdv)) := hr.mono (by decide)
    have hr_is_sheet : Room 1 (A.deeper (envOfC "read" (defScope (top 73)) s.heap.objs.size f cdv)) := hr.mono (by decide)
    refine ⟨_, (pss_cons (ps_set (i := 1) sc_read.nd rfl (by first | exact Or.inl rfl | exact Or.inr rfl) (pe_cal c_ended_rows hr_ended_rows rfl (pa_cons (pv 0) pa_nil)))
      (pss_cons (ps_if (pt_not (pt_val (pe_cal c_is_sheet hr_is_sheet rfl (pa_cons (pv 1) pa_nil)))) (pss_one (ps_raiseC x_BadDrawing rfl rfl lets_def (pa_cons pe_str pa_nil))) pss_nil)
      pss_never)), ?_⟩
    refine ⟨_, rfl, z, rfl, he, fun l hl => ?_⟩
    exact ⟨_, rfl, l, rfl, upd_same, fun H2 s2 => ⟨false, rfl, iteT ⟨by show 1 ≤ sizeLine; decide, q _ ((Same.upd_new hl).trans s2)⟩⟩⟩

theorem sc_read_plain : FnScope ["text", "rows", "cells", "told"] ["text"] (defScope (top 48)) := ⟨rfl, rfl, rfl, by decide +kernel, rfl, by decide +kernel, by decide +kernel⟩
set_option maxHeartbeats 4000000 in
theorem ok_read_plain (T : Txt mg) {CX_BadPlain : Addr} (x_BadPlain : ExcC K mg base "BadPlain" CX_BadPlain) (c_ended_rows : Cal P w K mg base 1 "ended_rows" ["thing"] spEnded0) (f : Addr) (fd : FuncData) (F : Fun K "read_plain" "read_plain" (top 48) f fd) : FnOk P w K mg base (CX1 P w base) 3 f fd ["text"] (spRead0 CX_BadPlain) := by
  refine F.ok1 sc_read_plain (fun vs H Q E h => ?_) (fun cdv A outer s H vs Q E hr h => ?_)
  · obtain ⟨z, rfl, _⟩ := h; rfl
  · obtain ⟨z, rfl, he, q⟩ := h
    have hr_ended_rows : Room 1 (A.deeper (envOfC "read_plain" (defScope (top 48)) s.heap.objs.size f cdv)) := hr.mono (by decide)
    have hu2 : (A.deeper (envOfC "read_plain" (defScope (top 48)) s.heap.objs.size f cdv)).units + 1 + 1 < cLine := by have := hr.units; omega
    refine ⟨_, (pss_cons (ps_set (i := 1) sc_read_plain.nd rfl (by first | exact Or.inl rfl | exact Or.inr rfl) (pe_cal c_ended_rows hr_ended_rows rfl (pa_cons (pv 0) pa_nil)))
      (pss_cons (ps_if (pt_cmpR (op_eqD (n := 1) hu2) (pv 1) (pe_lst pa_nil) (nomark _)) (pss_one (ps_raiseC x_BadPlain rfl rfl lets_def (pa_cons pe_str pa_nil))) pss_nil)
      pss_never)), ?_⟩
    refine ⟨_, rfl, z, rfl, he, fun l hl => ?_⟩
    refine ⟨_, rfl, by show 0 ≤ sizeLine; decide, fun m hm => ?_⟩
    have s1 := Same.upd_new (o := .lst []) hl
    have s2 := Same.upd_new (o := .lst []) hm
    exact ⟨.lst [], .lst [], nil_fits, trivial, .lst (s2 _ _ upd_same) .nil, .lst upd_same .nil, fun _ => ⟨true, rfl, iteT ⟨by show 1 ≤ sizeLine; decide, q _ (s1.trans s2)⟩⟩, fun z => absurd rfl z⟩

theorem sc_strips : FnScope ["table", "head", "room", "parts", "free", "at", "part"] ["table", "head", "room"] (defScope (top 89)) := ⟨rfl, rfl, rfl, by decide +kernel, rfl, by decide +kernel, by decide +kernel⟩
set_option maxHeartbeats 4000000 in
theorem ok_strips (T : Txt mg) {CX_TooTall : Addr} (x_TooTall : ExcJ P w K mg base "TooTall" CX_TooTall) (c_band_tables : Cal P w K mg base 5 "band_tables" ["table"] spBandTables) (c_rows_of : Cal P w K mg base 1 "rows_of" ["parts"] spRowsOf) (f : Addr) (fd : FuncData) (F : Fun K "strips" "strips" (top 89) f fd) : FnOk P w K mg base (CX1 P w base) 6 f fd ["table", "head", "room"] (spStrips0 CX_TooTall) := by
  refine F.ok1 sc_strips (fun vs H Q E h => ?_) (fun cdv A outer s H vs Q E hr h => ?_)
  · obtain ⟨v, rfl, _⟩ := h; rfl
  · obtain ⟨v, rfl, ht, q⟩ := h
    have hr_band_tables : Room 5 (A.deeper (envOfC "strips" (defScope (top 89)) s.heap.objs.size f cdv)) := hr.mono (by decide)
    have hr_rows_of : Room 1 (A.deeper (envOfC "strips" (defScope (top 89)) s.heap.objs.size f cdv)) := hr.mono (by decide)
    refine ⟨_, (pss_cons (ps_set (i := 3) sc_strips.nd rfl (by first | exact Or.inl rfl | exact Or.inr rfl) (pe_cal c_band_tables hr_band_tables rfl (pa_cons (pv 0) pa_nil)))
      (pss_cons (ps_set (i := 4) sc_strips.nd rfl (by first | exact Or.inl rfl | exact Or.inr rfl) (pe_op op_sub (pv 2) (pe_cal c_rows_of hr_rows_of rfl (pa_cons (pe_slice (sl_listK (K := K) rfl) (pv 3) po_none (po_some (pv 1))) pa_nil))))
      (pss_cons (ps_for PassesOwn.leaving rfl (pi_enum (K := K) rfl rfl T.enumerate (pa_cons (pv 3) pa_nil)) (pg_tupK (K := K) (n := 2) rfl rfl (pgs_cons (pg_name (i := 5) sc_strips.nd rfl (by first | exact Or.inl rfl | exact Or.inr rfl)) (pgs_cons (pg_name (i := 6) sc_strips.nd rfl (by first | exact Or.inl rfl | exact Or.inr rfl)) pgs_nil))) (pss_one (ps_if (PW.pt (pw_and (pt_cmpR op_ge (pv 5) (pv 1) (nomark _)) (pw_and1 (pt_cmpR op_gt (pe_ix (ix_tupK (K := K) rfl) (pv 6) pe_int (fun _ _ => rfl)) (pv 4) (nomark _))))) (pss_one (ps_raiseJ x_TooTall hr rfl rfl letsD_def (pa_cons (pv 5) pa_nil))) pss_nil)))
      pss_never))), ?_⟩
    refine ⟨_, rfl, v, 2, 1, [tallC], rfl, ht, tall_tiles, by decide, by decide, by decide, fun pl zs H1 s1 h1 _ a1 => ?_⟩
    have ez : ((bandsL 2 [tallC]).map (partT 1 [tallC])).map Tab.D = [tabD 2 1 (cutL 0 0 2 1 [tallC])] := by
      have : bandsL 2 [tallC] = [(0, 2)] := by decide
      rw [this]
      rfl
    rw [ez] at a1
    have a1 := AtL.mono a1 less_sub
    obtain ⟨z, rfl, az⟩ : ∃ z, zs = [z] ∧ At H1 (tabD 2 1 (cutL 0 0 2 1 [tallC])) z := by
      cases a1 with
      | cons g1 r => cases r; exact ⟨_, rfl, g1⟩
    refine ⟨_, rfl, _, rfl, _, rfl, _, rfl, pl, _, rfl, SqL.of h1, fun t2 ht2 => ?_⟩
    have s2 := Same.upd_new (o := .lst (cutV [z] none (some 0))) ht2
    have k2 : upd H1 t2 (.lst (cutV [z] none (some 0))) t2 = some (.lst []) := upd_same
    generalize hH2 : upd H1 t2 (.lst (cutV [z] none (some 0))) = H2 at *
    refine ⟨.ref t2, [], rfl, .lst k2 .nil, by decide, fun H3 s3 => ⟨_, _, rfl, rfl, ?_⟩⟩
    have s13 := s2.trans s3
    have h3 := s13 _ _ h1
    obtain ⟨p, l2, us, rfl, hp, _, _⟩ := tab_inv (az.mono s13)
    refine ⟨_, rfl, pl, rfl, ⟨_, SqL.of h3⟩, ?_⟩
    refine for_enum (K := K) (a := pl) (xs := [.ref p]) (fun i σ H4 => i = 0 ∧ σ = [some v, some (.int 0), some (.int 1), some (.ref pl), some (.int (1 - ((rowsL [] : Nat) : Int))), none, none] ∧ Same H3 H4)
      ⟨rfl, rfl, fun _ _ z => z⟩ (fun i σ H4 _ ⟨_, _, s4⟩ => SqL.of (s4 _ _ h3)) ?_ (fun σ H4 hI => absurd hI.1 (Nat.succ_ne_zero _))
    intro i x σ H4 tt hi hI htt
    have e0 := hI.1
    have eI := hI.2.1
    have s4 := hI.2.2
    clear hI
    subst e0 eI
    have ex : x = .ref p := (Option.some.inj hi).symm
    subst ex
    have s5 := Same.upd_new (o := .tup [.int ((0 : Nat) : Int), .ref p]) htt
    have k5 := upd_same (H := H4) (a := tt) (o := .tup [.int ((0 : Nat) : Int), .ref p])
    generalize hH5 : upd H4 tt (.tup [.int ((0 : Nat) : Int), .ref p]) = H5 at *
    have hp5 := s5 _ _ (s4 _ _ hp)
    refine ⟨tt, _, rfl, SqT.of k5, rfl, _, _, rfl, _, _, rfl, rfl, ?_⟩
    refine ⟨_, rfl, _, rfl, _, _, rfl, rfl, _, rfl, ite2 (fun _ => ?_) (fun z => absurd (by decide) z)⟩
    refine ⟨_, rfl, p, _, (0 : Int), _, rfl, rfl, SqT.of hp5, rfl, _, rfl, _, _, rfl, rfl, _, rfl, ite2 (fun _ => ?_) (fun z => absurd (by decide) z)⟩
    refine ⟨_, rfl, _, rfl, .inl ⟨_, rfl, small_log (by decide)⟩, fun dx hdx => ?_⟩
    exact q dx _ ((((s1.trans s13).trans s4).trans s5).trans (Same.upd_new hdx)) upd_same
end
end KL

set_option Elab.async false
set_option linter.all false
set_option autoImplicit false
set_option maxRecDepth 100000
namespace KL
open PySem L2 GT PyProof.Rows
noncomputable def spLaw (K : PySem.W.Frag) : Sp := fun vs H Q _ => ∃ (a : Addr) (ns : List Int), vs = [.ref a] ∧ SqL K H a (ns.map V.int) ∧ ns.length ≤ 63 ∧ ∀ H', Q (.bl true) H'
noncomputable def pick7 (a0 a1 a2 a3 a4 a5 a6 : Addr) : Nat → Addr
  | 0 => a0
  | 1 => a1
  | 2 => a2
  | 3 => a3
  | 4 => a4
  | 5 => a5
  | _ => a6
noncomputable def DictOk (dd : Option Addr) (H : Hp) : Prop := ∀ dx, dd = some dx → ∃ fs, H dx = some (.xd fs)
theorem DictOk.none {H : Hp} : DictOk none H := fun dx e => by cases e
theorem DictOk.some {H : Hp} {dx : Addr} {fs : List (Str × V)} (h : H dx = some (.xd fs)) : DictOk (some dx) H := fun d e => by cases e; exact ⟨fs, h⟩
theorem DictOk.mono {dd : Option Addr} {H H' : Hp} (h : DictOk dd H) (s : Same H H') : DictOk dd H' := fun dx e => by
  obtain ⟨fs, z⟩ := h dx e
  exact ⟨fs, s _ _ z⟩
noncomputable def spDeed (a0 a1 a2 a3 a4 a5 a6 : Addr) : Sp := fun vs H Q E => ∃ w7 : Nat, vs = [.int w7] ∧ w7 < 7 ∧ ∀ dd H', Same H H' → DictOk dd H' → E (.ref (pick7 a0 a1 a2 a3 a4 a5 a6 w7)) dd H'
noncomputable def bits (w7 : Nat) : List Bool := [decide (w7 = 0), decide (w7 = 1), decide (w7 = 2), decide (w7 = 3), decide (w7 = 4), decide (w7 = 5), decide (w7 = 6)]
noncomputable def spKindsOf : Sp := fun vs H Q _ => ∃ w7 : Nat, vs = [.int w7] ∧ w7 < 7 ∧ ∀ l H', Same H H' → H' l = some (.lst ((bits w7).map V.bl)) → Q (.ref l) H'
theorem one_tab {H H1 H2 H3 H4 : Hp} {w0 c0 l0 p0 : Addr} {R C : Nat} {x : Cell} (e1 : H1 = upd H w0 (.tup [])) (e2 : H2 = upd H1 c0 (.tup [.int x.top, .int x.left, .int x.h, .int x.w, .ref w0])) (e3 : H3 = upd H2 l0 (.lst [.ref c0])) (e4 : H4 = upd H3 p0 (.tup [.int R, .int C, .ref l0]))
    (f1 : H w0 = none) (f2 : H1 c0 = none) (f3 : H2 l0 = none) (f4 : H3 p0 = none) (hw : x.words = []) : Same H H4 ∧ At H4 (tabD R C [x]) (.ref p0) := by
  subst e1 e2 e3 e4
  have s1 := Same.upd_new (o := .tup []) f1
  have s2 := Same.upd_new (o := .tup [.int x.top, .int x.left, .int x.h, .int x.w, .ref w0]) f2
  have s3 := Same.upd_new (o := .lst [.ref c0]) f3
  have s4 := Same.upd_new (o := .tup [.int R, .int C, .ref l0]) f4
  refine ⟨((s1.trans s2).trans s3).trans s4, tab_mk upd_same (s4 _ _ upd_same) (.cons ?_ .nil)⟩
  have s34 := s3.trans s4
  exact Cell.at_mk (x := x) (b := w0) (ws := []) (s34 _ _ upd_same) ((s2.trans s34) _ _ upd_same) (by rw [hw]; exact .nil)
section
variable {P : Program} {w : World} {K : PySem.W.Frag} {mg : Str → Option Value} {base : Heap}
theorem is_way {w7 k : Nat} (h : decide (V.int (w7 : Int) = V.int (k : Int)) = true) : w7 = k := by
  have h := of_decide_eq_true h
  injection h with h
  omega
theorem no_way {w7 k : Nat} (h : ¬ decide (V.int (w7 : Int) = V.int (k : Int)) = true) : w7 ≠ k := fun z => h (decide_eq_true (by rw [z]))
section
structure BE (X : Cx) (e : Expr) (t : TE) : Prop where
  out : PE X e t
structure BA (X : Cx) (es : List Expr) (t : TA) : Prop where
  out : PA X es t
theorem be_int {X : Cx} {i j pos} : BE X (.Constant (.int i) j pos) (tC (.int i)) := ⟨pe_int⟩
theorem be_non {X : Cx} {j pos} : BE X (.Constant .none j pos) (tC .non) := ⟨pe_non⟩
theorem be_str {X : Cx} {x j pos} : BE X (.Constant (.str x) j pos) (tC (.str x)) := ⟨pe_str⟩
theorem ba_nil {X : Cx} : BA X [] tNil := ⟨pa_nil⟩
theorem ba_cons {X : Cx} {e : Expr} {es : List Expr} {te : TE} {t : TA} (ha : BE X e te) (hr : BA X es t) (hs : starEach (e :: es) X.env = (false, eval e X.env) :: starEach es X.env := by rfl) : BA X (e :: es) (tCons te t) := ⟨pa_cons ha.out hr.out hs⟩
theorem be_tup {X : Cx} {es : List Expr} {t : TA} {x1 pos} (h : BA X es t) : BE X (.Tuple es x1 pos) (tTup t) := ⟨pe_tup h.out⟩
theorem be_lst {X : Cx} {es : List Expr} {t : TA} {pos} (h : BA X es t) : BE X (.List es pos) (tLst t) := ⟨pe_lst h.out⟩
theorem be_cal {X : Cx} {k : Nat} {x : Str} {ps : List Str} {sp : Sp} {e : Expr} {es : List Expr} {t : TA} {p pos : Pos} (c : Cal X.prog X.w X.K X.mg X.base k x ps sp) (hr : Room k X.A) (hg : Gl X x) (ha : BA X (e :: es) t)
    (hdb : (x == ("__debug__" : Str)) = false := by decide) (he : starEach (e :: es) X.env = (false, eval e X.env) :: starEach es X.env := by rfl) (hpl : (backTo pos (starEach es X.env)).any (·.1) = false := by rfl) :
    BE X (.Call (.Name x p) (e :: es) [] pos) (tCall sp [] E0 t) := ⟨pe_cal c hr hg ha.out hdb he hpl⟩
theorem be_calP {P : Program} {w : World} {K : PySem.W.Frag} {mg : Str → Option Value} {base : Heap} {N : List Str} {qual : Str} {scope : Scope} {f : Addr} {cd : Value} {A : Around} {outer : List Env} {s₀ : Shared} {H₀ : Hp} {E : XK}
    {k : Nat} {x : Str} {ps : List Str} {sp : Sp} {e : Expr} {es : List Expr} {t : TA} {p pos : Pos} (c : Cal1 P w K mg base k x ps sp) (hr : Room k (A.deeper (envOfC qual scope s₀.heap.objs.size f cd)))
    (hg : Gl (cxOf (CX1 P w base) P w K mg base N qual scope f cd A outer s₀ H₀ E) x) (ha : BA (cxOf (CX1 P w base) P w K mg base N qual scope f cd A outer s₀ H₀ E) (e :: es) t)
    (hdb : (x == ("__debug__" : Str)) = false := by decide) (he : starEach (e :: es) (envOfC qual scope s₀.heap.objs.size f cd) = (false, eval e (envOfC qual scope s₀.heap.objs.size f cd)) :: starEach es (envOfC qual scope s₀.heap.objs.size f cd) := by rfl)
    (hpl : (backTo pos (starEach es (envOfC qual scope s₀.heap.objs.size f cd))).any (·.1) = false := by rfl) :
    BE (cxOf (CX1 P w base) P w K mg base N qual scope f cd A outer s₀ H₀ E) (.Call (.Name x p) (e :: es) [] pos) (tCall sp [] E t) := ⟨pe_calP c hr hg ha.out hdb he hpl⟩
theorem sc__law_deed : FnScope ["_law_way"] ["_law_way"] (defScope (top 94)) := ⟨rfl, rfl, rfl, by decide +kernel, rfl, by decide +kernel, by decide +kernel⟩
set_option maxHeartbeats 4000000 in
theorem ok__law_deed {CX_BadTable : Addr} {CX_Crossing : Addr} {CX_TooBig : Addr} {CX_TooSmall : Addr} {CX_BadDrawing : Addr} {CX_BadPlain : Addr} {CX_TooTall : Addr} (T : Txt mg) (c_checked : Cal1 P w K mg base 3 "checked" ["table"] (spChecked0 CX_BadTable)) (c_joined : Cal1 P w K mg base 4 "joined" ["table", "top", "left", "height", "width"] (spJoin0 CX_Crossing)) (c_empty : Cal P w K mg base 2 "empty" ["rows", "columns"] spEmpty0) (c_row_in : Cal1 P w K mg base 3 "row_in" ["table", "at"] (spRowIn0 CX_TooBig)) (c_row_out : Cal1 P w K mg base 3 "row_out" ["table", "at"] (spRowOut0 CX_TooSmall)) (c_read : Cal1 P w K mg base 3 "read" ["text"] (spRead0 CX_BadDrawing)) (c_read_plain : Cal1 P w K mg base 3 "read_plain" ["text"] (spRead0 CX_BadPlain)) (c_strips : Cal1 P w K mg base 6 "strips" ["table", "head", "room"] (spStrips0 CX_TooTall)) (f : Addr) (fd : FuncData) (F : Fun K "_law_deed" "_law_deed" (top 94) f fd) : FnOk P w K mg base (CX1 P w base) 7 f fd ["_law_way"] (spDeed CX_BadTable CX_Crossing CX_TooBig CX_TooSmall CX_BadDrawing CX_BadPlain CX_TooTall) := by
  refine F.ok1 sc__law_deed (fun vs H Q E h => ?_) (fun cdv A outer s H vs Q E hr h => ?_)
  · obtain ⟨w7, rfl, _⟩ := h; rfl
  · obtain ⟨w7, rfl, hw, q⟩ := h
    have hr_checked : Room 3 (A.deeper (envOfC "_law_deed" (defScope (top 94)) s.heap.objs.size f cdv)) := hr.mono (by decide)
    have hr_joined : Room 4 (A.deeper (envOfC "_law_deed" (defScope (top 94)) s.heap.objs.size f cdv)) := hr.mono (by decide)
    have hr_empty : Room 2 (A.deeper (envOfC "_law_deed" (defScope (top 94)) s.heap.objs.size f cdv)) := hr.mono (by decide)
    have hr_row_in : Room 3 (A.deeper (envOfC "_law_deed" (defScope (top 94)) s.heap.objs.size f cdv)) := hr.mono (by decide)
    have hr_row_out : Room 3 (A.deeper (envOfC "_law_deed" (defScope (top 94)) s.heap.objs.size f cdv)) := hr.mono (by decide)
    have hr_read : Room 3 (A.deeper (envOfC "_law_deed" (defScope (top 94)) s.heap.objs.size f cdv)) := hr.mono (by decide)
    have hr_read_plain : Room 3 (A.deeper (envOfC "_law_deed" (defScope (top 94)) s.heap.objs.size f cdv)) := hr.mono (by decide)
    have hr_strips : Room 6 (A.deeper (envOfC "_law_deed" (defScope (top 94)) s.heap.objs.size f cdv)) := hr.mono (by decide)
    refine ⟨_, (pss_cons (ps_if (pt_cmpR op_eq (pv 0) pe_int (nomark _)) (pss_one (ps_ret (BE.out (be_calP c_checked hr_checked rfl (ba_cons (hs := star_con) be_non ba_nil) (he := star_con))))) pss_nil)
      (pss_cons (ps_if (pt_cmpR op_eq (pv 0) pe_int (nomark _)) (pss_one (ps_ret (BE.out (be_calP c_joined hr_joined rfl (ba_cons (hs := star_tup) (be_tup (ba_cons (hs := star_con) be_int (ba_cons (hs := star_con) be_int (ba_cons (hs := star_lst) (be_lst (ba_cons (hs := star_tup) (be_tup (ba_cons (hs := star_con) be_int (ba_cons (hs := star_con) be_int (ba_cons (hs := star_con) be_int (ba_cons (hs := star_con) be_int (ba_cons (hs := star_tup) (be_tup ba_nil) ba_nil)))))) ba_nil)) ba_nil)))) (ba_cons (hs := star_con) be_int (ba_cons (hs := star_con) be_int (ba_cons (hs := star_con) be_int (ba_cons (hs := star_con) be_int ba_nil))))) (he := star_tup))))) pss_nil)
      (pss_cons (ps_if (pt_cmpR op_eq (pv 0) pe_int (nomark _)) (pss_one (ps_ret (BE.out (be_calP c_row_in hr_row_in rfl (ba_cons (be_cal c_empty hr_empty rfl (ba_cons (hs := star_con) be_int (ba_cons (hs := star_con) be_int ba_nil))) (ba_cons (hs := star_con) be_int ba_nil)))))) pss_nil)
      (pss_cons (ps_if (pt_cmpR op_eq (pv 0) pe_int (nomark _)) (pss_one (ps_ret (BE.out (be_calP c_row_out hr_row_out rfl (ba_cons (be_cal c_empty hr_empty rfl (ba_cons (hs := star_con) be_int (ba_cons (hs := star_con) be_int ba_nil))) (ba_cons (hs := star_con) be_int ba_nil)))))) pss_nil)
      (pss_cons (ps_if (pt_cmpR op_eq (pv 0) pe_int (nomark _)) (pss_one (ps_ret (BE.out (be_calP c_read hr_read rfl (ba_cons (hs := star_con) be_str ba_nil) (he := star_con))))) pss_nil)
      (pss_cons (ps_if (pt_cmpR op_eq (pv 0) pe_int (nomark _)) (pss_one (ps_ret (BE.out (be_calP c_read_plain hr_read_plain rfl (ba_cons (hs := star_con) be_str ba_nil) (he := star_con))))) pss_nil)
      (pss_one (ps_ret (BE.out (be_calP c_strips hr_strips rfl (ba_cons (hs := star_tup) (be_tup (ba_cons (hs := star_con) be_int (ba_cons (hs := star_con) be_int (ba_cons (hs := star_lst) (be_lst (ba_cons (hs := star_tup) (be_tup (ba_cons (hs := star_con) be_int (ba_cons (hs := star_con) be_int (ba_cons (hs := star_con) be_int (ba_cons (hs := star_con) be_int (ba_cons (hs := star_tup) (be_tup ba_nil) ba_nil)))))) ba_nil)) ba_nil)))) (ba_cons (hs := star_con) be_int (ba_cons (hs := star_con) be_int ba_nil))) (he := star_tup))))))))))), ?_⟩
    refine ⟨_, rfl, rfl, _, rfl, ite2 (fun h0 => ?_) (fun h0 => ?_)⟩
    · cases is_way (k := 0) h0
      exact ⟨rfl, fun dx H' s' h' => q _ _ s' (DictOk.some h')⟩
    have n0 := no_way (k := 0) h0
    refine ⟨_, rfl, rfl, _, rfl, ite2 (fun h1 => ?_) (fun h1 => ?_)⟩
    · cases is_way (k := 1) h1
      refine ⟨by show 0 ≤ sizeLine; decide, fun w0 hw0 => ⟨by show 5 ≤ sizeLine; decide, fun c0 hc0 => ⟨by show 1 ≤ sizeLine; decide, fun l0 hl0 => ⟨by show 3 ≤ sizeLine; decide, fun p0 hp0 => ?_⟩⟩⟩⟩
      obtain ⟨sH, aH⟩ := one_tab (R := 1) (C := 2) (x := wideC) rfl rfl rfl rfl hw0 hc0 hl0 hp0 rfl
      exact ⟨.ref p0, 1, 2, [wideC], 0, 0, 1, 1, 0, rfl, aH, by decide, by decide, fun dx H' s' h' => q _ _ (sH.trans s') (DictOk.some h')⟩
    have n1 := no_way (k := 1) h1
    refine ⟨_, rfl, rfl, _, rfl, ite2 (fun h2 => ?_) (fun h2 => ?_)⟩
    · cases is_way (k := 2) h2
      exact ⟨16, 1, rfl, by decide, by decide, fun p l H' s' h' => ⟨p, 3, 16, _, _, rfl, h', by decide, q _ _ s' DictOk.none⟩⟩
    have n2 := no_way (k := 2) h2
    refine ⟨_, rfl, rfl, _, rfl, ite2 (fun h3 => ?_) (fun h3 => ?_)⟩
    · cases is_way (k := 3) h3
      exact ⟨1, 3, rfl, by decide, by decide, fun p l H' s' h' => ⟨p, 0, 1, _, _, rfl, h', by decide, q _ _ s' DictOk.none⟩⟩
    have n3 := no_way (k := 3) h3
    refine ⟨_, rfl, rfl, _, rfl, ite2 (fun h4 => ?_) (fun h4 => ?_)⟩
    · cases is_way (k := 4) h4
      exact ⟨_, rfl, by decide +kernel, fun H' s' => q _ _ s' DictOk.none⟩
    have n4 := no_way (k := 4) h4
    refine ⟨_, rfl, rfl, _, rfl, ite2 (fun h5 => ?_) (fun h5 => ?_)⟩
    · cases is_way (k := 5) h5
      exact ⟨_, rfl, by decide +kernel, fun H' s' => q _ _ s' DictOk.none⟩
    have n5 := no_way (k := 5) h5
    have e6 : w7 = 6 := by omega
    subst e6
    refine ⟨by show 0 ≤ sizeLine; decide, fun w0 hw0 => ⟨by show 5 ≤ sizeLine; decide, fun c0 hc0 => ⟨by show 1 ≤ sizeLine; decide, fun l0 hl0 => ⟨by show 3 ≤ sizeLine; decide, fun p0 hp0 => ?_⟩⟩⟩⟩
    obtain ⟨sH, aH⟩ := one_tab (R := 2) (C := 1) (x := tallC) rfl rfl rfl rfl hw0 hc0 hl0 hp0 rfl
    exact ⟨.ref p0, rfl, aH, fun dx H' s' h' => q _ _ (sH.trans s') (DictOk.some h')⟩
end

theorem sc__law_kinds_of : FnScope ["_law_way", "_law_some", "e"] ["_law_way"] (defScope (top 95)) := ⟨rfl, rfl, rfl, by decide +kernel, rfl, by decide +kernel, by decide +kernel⟩
set_option maxHeartbeats 4000000 in
theorem ok__law_kinds_of (T : Txt mg) {CX_GridError : Addr} (x_GridError : ExcC K mg base "GridError" CX_GridError) {CX_BadTable : Addr} (x_BadTable : ExcJ P w K mg base "BadTable" CX_BadTable) {CX_Crossing : Addr} (x_Crossing : ExcJ P w K mg base "Crossing" CX_Crossing) {CX_TooBig : Addr} (x_TooBig : ExcC K mg base "TooBig" CX_TooBig) {CX_TooSmall : Addr} (x_TooSmall : ExcC K mg base "TooSmall" CX_TooSmall) {CX_BadDrawing : Addr} (x_BadDrawing : ExcC K mg base "BadDrawing" CX_BadDrawing) {CX_BadPlain : Addr} (x_BadPlain : ExcC K mg base "BadPlain" CX_BadPlain) {CX_TooTall : Addr} (x_TooTall : ExcJ P w K mg base "TooTall" CX_TooTall) (f_ck_BadTable : ClsK K CX_BadTable) (f_ck_Crossing : ClsK K CX_Crossing) (f_ck_TooBig : ClsK K CX_TooBig) (f_ck_TooSmall : ClsK K CX_TooSmall) (f_ck_BadDrawing : ClsK K CX_BadDrawing) (f_ck_BadPlain : ClsK K CX_BadPlain) (f_ck_TooTall : ClsK K CX_TooTall) (f_exgBadTable : PySem.W.exmOne K (.ref CX_BadTable) (.ref CX_GridError) = some true) (f_exgCrossing : PySem.W.exmOne K (.ref CX_Crossing) (.ref CX_GridError) = some true) (f_exg : PySem.W.exmOne K (.ref CX_TooBig) (.ref CX_GridError) = some true) (f_exgS : PySem.W.exmOne K (.ref CX_TooSmall) (.ref CX_GridError) = some true) (f_exgBadDrawing : PySem.W.exmOne K (.ref CX_BadDrawing) (.ref CX_GridError) = some true) (f_exgBadPlain : PySem.W.exmOne K (.ref CX_BadPlain) (.ref CX_GridError) = some true) (f_exgTooTall : PySem.W.exmOne K (.ref CX_TooTall) (.ref CX_GridError) = some true) (f_kt_BadTable_BadTable : PySem.W.kitOne K (.ref CX_BadTable) (.ref CX_BadTable) = some true) (f_kt_BadTable_Crossing : PySem.W.kitOne K (.ref CX_BadTable) (.ref CX_Crossing) = some false) (f_kt_BadTable_TooBig : PySem.W.kitOne K (.ref CX_BadTable) (.ref CX_TooBig) = some false) (f_kt_BadTable_TooSmall : PySem.W.kitOne K (.ref CX_BadTable) (.ref CX_TooSmall) = some false) (f_kt_BadTable_BadDrawing : PySem.W.kitOne K (.ref CX_BadTable) (.ref CX_BadDrawing) = some false) (f_kt_BadTable_BadPlain : PySem.W.kitOne K (.ref CX_BadTable) (.ref CX_BadPlain) = some false) (f_kt_BadTable_TooTall : PySem.W.kitOne K (.ref CX_BadTable) (.ref CX_TooTall) = some false) (f_kt_Crossing_BadTable : PySem.W.kitOne K (.ref CX_Crossing) (.ref CX_BadTable) = some false) (f_kt_Crossing_Crossing : PySem.W.kitOne K (.ref CX_Crossing) (.ref CX_Crossing) = some true) (f_kt_Crossing_TooBig : PySem.W.kitOne K (.ref CX_Crossing) (.ref CX_TooBig) = some false) (f_kt_Crossing_TooSmall : PySem.W.kitOne K (.ref CX_Crossing) (.ref CX_TooSmall) = some false) (f_kt_Crossing_BadDrawing : PySem.W.kitOne K (.ref CX_Crossing) (.ref CX_BadDrawing) = some false) (f_kt_Crossing_BadPlain : PySem.W.kitOne K (.ref CX_Crossing) (.ref CX_BadPlain) = some false) (f_kt_Crossing_TooTall : PySem.W.kitOne K (.ref CX_Crossing) (.ref CX_TooTall) = some false) (f_kt_TooBig_BadTable : PySem.W.kitOne K (.ref CX_TooBig) (.ref CX_BadTable) = some false) (f_kt_TooBig_Crossing : PySem.W.kitOne K (.ref CX_TooBig) (.ref CX_Crossing) = some false) (f_kt_TooBig_TooBig : PySem.W.kitOne K (.ref CX_TooBig) (.ref CX_TooBig) = some true) (f_kt_TooBig_TooSmall : PySem.W.kitOne K (.ref CX_TooBig) (.ref CX_TooSmall) = some false) (f_kt_TooBig_BadDrawing : PySem.W.kitOne K (.ref CX_TooBig) (.ref CX_BadDrawing) = some false) (f_kt_TooBig_BadPlain : PySem.W.kitOne K (.ref CX_TooBig) (.ref CX_BadPlain) = some false) (f_kt_TooBig_TooTall : PySem.W.kitOne K (.ref CX_TooBig) (.ref CX_TooTall) = some false) (f_kt_TooSmall_BadTable : PySem.W.kitOne K (.ref CX_TooSmall) (.ref CX_BadTable) = some false) (f_kt_TooSmall_Crossing : PySem.W.kitOne K (.ref CX_TooSmall) (.ref CX_Crossing) = some false) (f_kt_TooSmall_TooBig : PySem.W.kitOne K (.ref CX_TooSmall) (.ref CX_TooBig) = some false) (f_kt_TooSmall_TooSmall : PySem.W.kitOne K (.ref CX_TooSmall) (.ref CX_TooSmall) = some true) (f_kt_TooSmall_BadDrawing : PySem.W.kitOne K (.ref CX_TooSmall) (.ref CX_BadDrawing) = some false) (f_kt_TooSmall_BadPlain : PySem.W.kitOne K (.ref CX_TooSmall) (.ref CX_BadPlain) = some false) (f_kt_TooSmall_TooTall : PySem.W.kitOne K (.ref CX_TooSmall) (.ref CX_TooTall) = some false) (f_kt_BadDrawing_BadTable : PySem.W.kitOne K (.ref CX_BadDrawing) (.ref CX_BadTable) = some false) (f_kt_BadDrawing_Crossing : PySem.W.kitOne K (.ref CX_BadDrawing) (.ref CX_Crossing) = some false) (f_kt_BadDrawing_TooBig : PySem.W.kitOne K (.ref CX_BadDrawing) (.ref CX_TooBig) = some false) (f_kt_BadDrawing_TooSmall : PySem.W.kitOne K (.ref CX_BadDrawing) (.ref CX_TooSmall) = some false) (f_kt_BadDrawing_BadDrawing : PySem.W.kitOne K (.ref CX_BadDrawing) (.ref CX_BadDrawing) = some true) (f_kt_BadDrawing_BadPlain : PySem.W.kitOne K (.ref CX_BadDrawing) (.ref CX_BadPlain) = some false) (f_kt_BadDrawing_TooTall : PySem.W.kitOne K (.ref CX_BadDrawing) (.ref CX_TooTall) = some false) (f_kt_BadPlain_BadTable : PySem.W.kitOne K (.ref CX_BadPlain) (.ref CX_BadTable) = some false) (f_kt_BadPlain_Crossing : PySem.W.kitOne K (.ref CX_BadPlain) (.ref CX_Crossing) = some false) (f_kt_BadPlain_TooBig : PySem.W.kitOne K (.ref CX_BadPlain) (.ref CX_TooBig) = some false) (f_kt_BadPlain_TooSmall : PySem.W.kitOne K (.ref CX_BadPlain) (.ref CX_TooSmall) = some false) (f_kt_BadPlain_BadDrawing : PySem.W.kitOne K (.ref CX_BadPlain) (.ref CX_BadDrawing) = some false) (f_kt_BadPlain_BadPlain : PySem.W.kitOne K (.ref CX_BadPlain) (.ref CX_BadPlain) = some true) (f_kt_BadPlain_TooTall : PySem.W.kitOne K (.ref CX_BadPlain) (.ref CX_TooTall) = some false) (f_kt_TooTall_BadTable : PySem.W.kitOne K (.ref CX_TooTall) (.ref CX_BadTable) = some false) (f_kt_TooTall_Crossing : PySem.W.kitOne K (.ref CX_TooTall) (.ref CX_Crossing) = some false) (f_kt_TooTall_TooBig : PySem.W.kitOne K (.ref CX_TooTall) (.ref CX_TooBig) = some false) (f_kt_TooTall_TooSmall : PySem.W.kitOne K (.ref CX_TooTall) (.ref CX_TooSmall) = some false) (f_kt_TooTall_BadDrawing : PySem.W.kitOne K (.ref CX_TooTall) (.ref CX_BadDrawing) = some false) (f_kt_TooTall_BadPlain : PySem.W.kitOne K (.ref CX_TooTall) (.ref CX_BadPlain) = some false) (f_kt_TooTall_TooTall : PySem.W.kitOne K (.ref CX_TooTall) (.ref CX_TooTall) = some true) (c__law_deed : Cal1 P w K mg base 7 "_law_deed" ["_law_way"] (spDeed CX_BadTable CX_Crossing CX_TooBig CX_TooSmall CX_BadDrawing CX_BadPlain CX_TooTall)) (f : Addr) (fd : FuncData) (F : Fun K "_law_kinds_of" "_law_kinds_of" (top 95) f fd) : FnOk P w K mg base CX0 8 f fd ["_law_way"] spKindsOf := by
  refine F.ok sc__law_kinds_of (fun vs H Q E h => ?_) (fun cdv A outer s H vs Q E hr h => ?_)
  · obtain ⟨w7, rfl, _⟩ := h; rfl
  · obtain ⟨w7, rfl, hw, q⟩ := h
    have hr__law_deed : Room 7 (A.deeper (envOfC "_law_kinds_of" (defScope (top 95)) s.heap.objs.size f cdv)) := hr.mono (by decide)
    have h7 : w7 = 0 ∨ w7 = 1 ∨ w7 = 2 ∨ w7 = 3 ∨ w7 = 4 ∨ w7 = 5 ∨ w7 = 6 := by omega
    have ck : ClsK K (pick7 CX_BadTable CX_Crossing CX_TooBig CX_TooSmall CX_BadDrawing CX_BadPlain CX_TooTall w7) := by
      rcases h7 with rfl | rfl | rfl | rfl | rfl | rfl | rfl
      · exact f_ck_BadTable
      · exact f_ck_Crossing
      · exact f_ck_TooBig
      · exact f_ck_TooSmall
      · exact f_ck_BadDrawing
      · exact f_ck_BadPlain
      · exact f_ck_TooTall
    have exk : PySem.W.exmOne K (.ref (pick7 CX_BadTable CX_Crossing CX_TooBig CX_TooSmall CX_BadDrawing CX_BadPlain CX_TooTall w7)) (.ref CX_GridError) = some true := by
      rcases h7 with rfl | rfl | rfl | rfl | rfl | rfl | rfl
      · exact f_exgBadTable
      · exact f_exgCrossing
      · exact f_exg
      · exact f_exgS
      · exact f_exgBadDrawing
      · exact f_exgBadPlain
      · exact f_exgTooTall
    have kt0 : PySem.W.kitOne K (.ref (pick7 CX_BadTable CX_Crossing CX_TooBig CX_TooSmall CX_BadDrawing CX_BadPlain CX_TooTall w7)) (.ref CX_BadTable) = some (decide (w7 = 0)) := by
      rcases h7 with rfl | rfl | rfl | rfl | rfl | rfl | rfl
      · exact f_kt_BadTable_BadTable
      · exact f_kt_Crossing_BadTable
      · exact f_kt_TooBig_BadTable
      · exact f_kt_TooSmall_BadTable
      · exact f_kt_BadDrawing_BadTable
      · exact f_kt_BadPlain_BadTable
      · exact f_kt_TooTall_BadTable
    have kt1 : PySem.W.kitOne K (.ref (pick7 CX_BadTable CX_Crossing CX_TooBig CX_TooSmall CX_BadDrawing CX_BadPlain CX_TooTall w7)) (.ref CX_Crossing) = some (decide (w7 = 1)) := by
      rcases h7 with rfl | rfl | rfl | rfl | rfl | rfl | rfl
      · exact f_kt_BadTable_Crossing
      · exact f_kt_Crossing_Crossing
      · exact f_kt_TooBig_Crossing
      · exact f_kt_TooSmall_Crossing
      · exact f_kt_BadDrawing_Crossing
      · exact f_kt_BadPlain_Crossing
      · exact f_kt_TooTall_Crossing
    have kt2 : PySem.W.kitOne K (.ref (pick7 CX_BadTable CX_Crossing CX_TooBig CX_TooSmall CX_BadDrawing CX_BadPlain CX_TooTall w7)) (.ref CX_TooBig) = some (decide (w7 = 2)) := by
      rcases h7 with rfl | rfl | rfl | rfl | rfl | rfl | rfl
      · exact f_kt_BadTable_TooBig
      · exact f_kt_Crossing_TooBig
      · exact f_kt_TooBig_TooBig
      · exact f_kt_TooSmall_TooBig
      · exact f_kt_BadDrawing_TooBig
      · exact f_kt_BadPlain_TooBig
      · exact f_kt_TooTall_TooBig
    have kt3 : PySem.W.kitOne K (.ref (pick7 CX_BadTable CX_Crossing CX_TooBig CX_TooSmall CX_BadDrawing CX_BadPlain CX_TooTall w7)) (.ref CX_TooSmall) = some (decide (w7 = 3)) := by
      rcases h7 with rfl | rfl | rfl | rfl | rfl | rfl | rfl
      · exact f_kt_BadTable_TooSmall
      · exact f_kt_Crossing_TooSmall
      · exact f_kt_TooBig_TooSmall
      · exact f_kt_TooSmall_TooSmall
      · exact f_kt_BadDrawing_TooSmall
      · exact f_kt_BadPlain_TooSmall
      · exact f_kt_TooTall_TooSmall
    have kt4 : PySem.W.kitOne K (.ref (pick7 CX_BadTable CX_Crossing CX_TooBig CX_TooSmall CX_BadDrawing CX_BadPlain CX_TooTall w7)) (.ref CX_BadDrawing) = some (decide (w7 = 4)) := by
      rcases h7 with rfl | rfl | rfl | rfl | rfl | rfl | rfl
      · exact f_kt_BadTable_BadDrawing
      · exact f_kt_Crossing_BadDrawing
      · exact f_kt_TooBig_BadDrawing
      · exact f_kt_TooSmall_BadDrawing
      · exact f_kt_BadDrawing_BadDrawing
      · exact f_kt_BadPlain_BadDrawing
      · exact f_kt_TooTall_BadDrawing
    have kt5 : PySem.W.kitOne K (.ref (pick7 CX_BadTable CX_Crossing CX_TooBig CX_TooSmall CX_BadDrawing CX_BadPlain CX_TooTall w7)) (.ref CX_BadPlain) = some (decide (w7 = 5)) := by
      rcases h7 with rfl | rfl | rfl | rfl | rfl | rfl | rfl
      · exact f_kt_BadTable_BadPlain
      · exact f_kt_Crossing_BadPlain
      · exact f_kt_TooBig_BadPlain
      · exact f_kt_TooSmall_BadPlain
      · exact f_kt_BadDrawing_BadPlain
      · exact f_kt_BadPlain_BadPlain
      · exact f_kt_TooTall_BadPlain
    have kt6 : PySem.W.kitOne K (.ref (pick7 CX_BadTable CX_Crossing CX_TooBig CX_TooSmall CX_BadDrawing CX_BadPlain CX_TooTall w7)) (.ref CX_TooTall) = some (decide (w7 = 6)) := by
      rcases h7 with rfl | rfl | rfl | rfl | rfl | rfl | rfl
      · exact f_kt_BadTable_TooTall
      · exact f_kt_Crossing_TooTall
      · exact f_kt_TooBig_TooTall
      · exact f_kt_TooSmall_TooTall
      · exact f_kt_BadDrawing_TooTall
      · exact f_kt_BadPlain_TooTall
      · exact f_kt_TooTall_TooTall
    refine ⟨_, (pss_cons (ps_set (i := 1) sc__law_kinds_of.nd rfl (by first | exact Or.inl rfl | exact Or.inr rfl) (pe_lst pa_nil))
      (pss_cons (ps_tryGo (i := 2) c__law_deed hr__law_deed rfl rfl rfl rfl x_GridError.mg (fun XE => (pa_cons (pv 0) pa_nil)) sc__law_kinds_of.nd rfl rfl (fun ea oe cls vs dd hc hd hq => (pss_cons (ps_set (i := 1) sc__law_kinds_of.nd rfl (by first | exact Or.inl rfl | exact Or.inr rfl) (pe_lst (pa_cons (pe_callB (call_excOwn hc hd hq) (by rfl) T.isinstance PyProof.Rows.boot_isinstance (pa_cons (pv 2) (pa_cons (pe_glob (v := .ref CX_BadTable) rfl x_BadTable.mg rfl) pa_nil))) (pa_cons (pe_callB (call_excOwn hc hd hq) (by rfl) T.isinstance PyProof.Rows.boot_isinstance (pa_cons (pv 2) (pa_cons (pe_glob (v := .ref CX_Crossing) rfl x_Crossing.mg rfl) pa_nil))) (pa_cons (pe_callB (call_excOwn hc hd hq) (by rfl) T.isinstance PyProof.Rows.boot_isinstance (pa_cons (pv 2) (pa_cons (pe_glob (v := .ref CX_TooBig) rfl x_TooBig.mg rfl) pa_nil))) (pa_cons (pe_callB (call_excOwn hc hd hq) (by rfl) T.isinstance PyProof.Rows.boot_isinstance (pa_cons (pv 2) (pa_cons (pe_glob (v := .ref CX_TooSmall) rfl x_TooSmall.mg rfl) pa_nil))) pa_nil))))))
      (pss_one (ps_set (i := 1) sc__law_kinds_of.nd rfl (by first | exact Or.inl rfl | exact Or.inr rfl) (pe_op op_cat (pv 1) (pe_lst (pa_cons (pe_callB (call_excOwn hc hd hq) (by rfl) T.isinstance PyProof.Rows.boot_isinstance (pa_cons (pv 2) (pa_cons (pe_glob (v := .ref CX_BadDrawing) rfl x_BadDrawing.mg rfl) pa_nil))) (pa_cons (pe_callB (call_excOwn hc hd hq) (by rfl) T.isinstance PyProof.Rows.boot_isinstance (pa_cons (pv 2) (pa_cons (pe_glob (v := .ref CX_BadPlain) rfl x_BadPlain.mg rfl) pa_nil))) (pa_cons (pe_callB (call_excOwn hc hd hq) (by rfl) T.isinstance PyProof.Rows.boot_isinstance (pa_cons (pv 2) (pa_cons (pe_glob (v := .ref CX_TooTall) rfl x_TooTall.mg rfl) pa_nil))) pa_nil))))))))))
      (pss_one (ps_ret (pv 1))))), ?_⟩
    refine ⟨by show 0 ≤ sizeLine; decide, fun t0 ht0 => ?_⟩
    have s1 := Same.upd_new (o := .lst []) ht0
    refine ⟨_, rfl, w7, rfl, hw, fun dd H2 s2 hdd => ⟨exk, fun ea hea => ?_⟩⟩
    refine ⟨_, rfl, pick7 CX_BadTable CX_Crossing CX_TooBig CX_TooSmall CX_BadDrawing CX_BadPlain CX_TooTall w7, CX_BadTable, decide (w7 = 0), rfl, rfl, ck, kt0, hdd, _, rfl, pick7 CX_BadTable CX_Crossing CX_TooBig CX_TooSmall CX_BadDrawing CX_BadPlain CX_TooTall w7, CX_Crossing, decide (w7 = 1), rfl, rfl, ck, kt1, hdd, _, rfl, pick7 CX_BadTable CX_Crossing CX_TooBig CX_TooSmall CX_BadDrawing CX_BadPlain CX_TooTall w7, CX_TooBig, decide (w7 = 2), rfl, rfl, ck, kt2, hdd, _, rfl, pick7 CX_BadTable CX_Crossing CX_TooBig CX_TooSmall CX_BadDrawing CX_BadPlain CX_TooTall w7, CX_TooSmall, decide (w7 = 3), rfl, rfl, ck, kt3, hdd, by show 4 ≤ sizeLine; decide, fun t3 ht3 => ?_⟩
    have s3 := Same.upd_new (o := .lst [.bl (decide (w7 = 0)), .bl (decide (w7 = 1)), .bl (decide (w7 = 2)), .bl (decide (w7 = 3))]) ht3
    have k3 := upd_same (H := H2) (a := t3) (o := .lst [.bl (decide (w7 = 0)), .bl (decide (w7 = 1)), .bl (decide (w7 = 2)), .bl (decide (w7 = 3))])
    generalize hH3 : upd H2 t3 (.lst [.bl (decide (w7 = 0)), .bl (decide (w7 = 1)), .bl (decide (w7 = 2)), .bl (decide (w7 = 3))]) = H3 at *
    have hdd3 := hdd.mono s3
    refine ⟨_, rfl, _, rfl, pick7 CX_BadTable CX_Crossing CX_TooBig CX_TooSmall CX_BadDrawing CX_BadPlain CX_TooTall w7, CX_BadDrawing, decide (w7 = 4), rfl, rfl, ck, kt4, hdd3, _, rfl, pick7 CX_BadTable CX_Crossing CX_TooBig CX_TooSmall CX_BadDrawing CX_BadPlain CX_TooTall w7, CX_BadPlain, decide (w7 = 5), rfl, rfl, ck, kt5, hdd3, _, rfl, pick7 CX_BadTable CX_Crossing CX_TooBig CX_TooSmall CX_BadDrawing CX_BadPlain CX_TooTall w7, CX_TooTall, decide (w7 = 6), rfl, rfl, ck, kt6, hdd3, by show 3 ≤ sizeLine; decide, fun t4 ht4 => ?_⟩
    have s4 := Same.upd_new (o := .lst [.bl (decide (w7 = 4)), .bl (decide (w7 = 5)), .bl (decide (w7 = 6))]) ht4
    refine ⟨t3, t4, _, _, rfl, rfl, s4 _ _ k3, upd_same, by show 7 ≤ sizeLine; decide, fun t5 ht5 => ?_⟩
    exact ⟨_, rfl, q t5 _ ((((s1.trans s2).trans s3).trans s4).trans (Same.upd_new ht5)) upd_same⟩

theorem nd_lks : (["_law_k", "_law_way"] : List Str).Nodup := by decide +kernel
noncomputable def cmpRight (e : Expr) : Expr := match e with
  | .Compare _ _ xs _ => xs.getD 0 (.Constant .none 0 ⟨0, 0, 0, 0⟩)
  | _ => e
noncomputable abbrev lksScope : Scope := scopeOf (cmpRight (exprOf (nth (defBody (top 96)) 1)))
theorem sc_law : FnScope ["_law_script", "_law_way"] ["_law_script"] (defScope (top 96)) := ⟨rfl, rfl, rfl, by decide +kernel, rfl, by decide +kernel, by decide +kernel⟩
set_option maxHeartbeats 4000000 in
theorem ok_law (T : Txt mg) (c__law_cell : Cal P w K mg base 1 "_law_cell" ["_law_script", "_law_k"] (spCell K)) (c__law_kinds_of : Cal P w K mg base 8 "_law_kinds_of" ["_law_way"] spKindsOf) (f : Addr) (fd : FuncData) (F : Fun K "law" "law" (top 96) f fd) : FnOk P w K mg base CX0 9 f fd ["_law_script"] (spLaw K) := by
  refine F.ok sc_law (fun vs H Q E h => ?_) (fun cdv A outer s H vs Q E hr h => ?_)
  · obtain ⟨a, ns, rfl, _⟩ := h; rfl
  · obtain ⟨a, ns, rfl, hs, hlen, q⟩ := h
    have hr__law_cell : Room 1 (A.deeper (envOfC "law" (defScope (top 96)) s.heap.objs.size f cdv)) := hr.mono (by decide)
    have hr__law_kinds_of : Room 8 (A.deeper (envOfC "law" (defScope (top 96)) s.heap.objs.size f cdv)) := hr.mono (by decide)
    have hu1 : (A.deeper (envOfC "law" (defScope (top 96)) s.heap.objs.size f cdv)).units + 1 < cLine := by have := hr.units; omega
    have co_lks := compOk_def (X := (cxOf CX0 P w K mg base ["_law_script", "_law_way"] "law" (defScope (top 96)) f cdv A outer s H E).nox) (N1 := ["_law_k", "_law_way"]) (cap := [none, some 1]) (scope := lksScope) (sc := defScope (top 96)) (s.heap.objs.size + 1) rfl rfl rfl
      (by decide +kernel) (by decide +kernel) (by decide +kernel) rfl (by
        intro i hi x j e1 e2
        match i, hi, e1, e2 with
        | 0, _, e1, e2 => cases e2
        | 1, _, e1, e2 => cases e1; cases e2; exact ⟨rfl, rfl, rfl⟩)
    obtain ⟨w7, ew, hw⟩ : ∃ w7 : Nat, ns.getD 0 0 % 7 = (w7 : Int) ∧ w7 < 7 := ⟨(ns.getD 0 0 % 7).toNat, by omega, by omega⟩
    refine ⟨_, (pss_cons (ps_set (i := 1) sc_law.nd rfl (by first | exact Or.inl rfl | exact Or.inr rfl) (pe_op op_mod (pe_cal c__law_cell hr__law_cell rfl (pa_cons (pv 0) (pa_cons pe_int pa_nil))) pe_int))
      (pss_one (ps_ret (pe_cmpR (op_eqB hu1) (pe_cal c__law_kinds_of hr__law_kinds_of rfl (pa_cons (pv 1) pa_nil)) (pe_comp co_lks rfl (pi_range1 rfl T.range (pa_cons pe_int pa_nil)) (fun _ _ _ _ => (pg_name (i := 0) nd_lks rfl (by first | exact Or.inl rfl | exact Or.inr rfl) (Or.inr rfl))) (fun _ _ _ _ => pif_nil) (fun _ _ _ _ => (pe_cmpR op_eq (pv 0) (pv 1) (nomark _)))) (nomark _))))), ?_⟩
    refine ⟨_, rfl, a, ns, 0, rfl, hs, _, _, rfl, rfl, by show (0 : Int) < 7; decide, ?_⟩
    dsimp only [gName]
    rw [ew]
    refine ⟨_, rfl, w7, rfl, hw, fun l H1 s1 h1 => ?_⟩
    refine ⟨(7 : Int), rfl, by decide, by decide, fun acc hacc => ?_⟩
    refine comp_range (lo := 0) (n := 7) (fun j σ1 H2 => ∃ (c1 : Option V), σ1 = [c1, some (.int w7)] ∧ Same H1 H2 ∧ H2 acc = some (.lst (((bits w7).take j).map V.bl)))
      ⟨none, rfl, Same.upd_new hacc, upd_same⟩ ?_ ?_
    · intro j σ1 H2 hj hI
      refine ex_1 hI fun c1 hJ => ?_
      have eI := hJ.1
      have s2 := hJ.2.1
      have h2 := hJ.2.2
      clear hI hJ
      subst eI
      dsimp only [gName]
      rw [if_pos rfl, Int.zero_add]
      have ej : (bits w7)[j]? = some (decide (w7 = j)) := by
        have : j = 0 ∨ j = 1 ∨ j = 2 ∨ j = 3 ∨ j = 4 ∨ j = 5 ∨ j = 6 := by omega
        rcases this with rfl | rfl | rfl | rfl | rfl | rfl | rfl <;> rfl
      have ed : decide (V.int (j : Int) = V.int (w7 : Int)) = decide (w7 = j) := decide_eq_decide.mpr ⟨fun z => by injection z with z; omega, fun z => by rw [z]⟩
      refine ⟨_, rfl, _, rfl, rfl, ?_⟩
      rw [ed]
      refine ⟨_, h2, small1000 (by rw [List.length_map, List.length_take]; show min j 7 ≤ 1000; omega), _, rfl, fun b o e => ?_, ?_⟩
      · rw [upd_ne (ne_of_none e hacc)]
        exact s2 _ _ e
      · rw [upd_same, List.take_add_one, ej, List.map_append]
        rfl
    · intro σ1 H2 hI
      refine ex_1 hI fun c1 hJ => ?_
      have s2 := hJ.2.1
      have h2 := hJ.2.2
      have e7 : (bits w7).take 7 = bits w7 := rfl
      rw [e7] at h2
      refine ⟨l, acc, bits w7, bits w7, rfl, rfl, s2 _ _ h1, h2, rfl, ?_⟩
      rw [decide_eq_true rfl]
      exact q _
end
/-- all that the top has written, put together -/
theorem len1 {α : Type} {P : List α → Prop} (h : ∀ a, P [a]) : ∀ us : List α, us.length = 1 → P us
  | [a], _ => h a
theorem len2 {α : Type} {P : List α → Prop} (h : ∀ a b, P [a, b]) : ∀ us : List α, us.length = 2 → P us
  | [a, b], _ => h a b
theorem len3 {α : Type} {P : List α → Prop} (h : ∀ a b c, P [a, b, c]) : ∀ us : List α, us.length = 3 → P us
  | [a, b, c], _ => h a b c
theorem len5 {α : Type} {P : List α → Prop} (h : ∀ a b c d e, P [a, b, c, d, e]) : ∀ us : List α, us.length = 5 → P us
  | [a, b, c, d, e], _ => h a b c d e
set_option maxHeartbeats 4000000 in
theorem all_ok {l : PySem.W.OpenLaw} {w : World} {K : PySem.W.Frag} {h : Heap} {mg : Str → Option Value} {fa : Addr} (X : K.In h) (G : h.Ns mainGlobals mg) (hfa : mg "law" = some (.ref fa))
    (a0 : At0 K "_law_cell" (top 93))
    (a1 : At0 K "moved_cell" (top 28))
    (a2 : At0 K "meets" (top 42))
    (a3 : At0 K "lies_in" (top 43))
    (a4 : At0 K "cells_in" (top 41))
    (a5 : At0 K "cut_out" (top 39))
    (a6 : At0 K "spans" (top 85))
    (a7 : At0 K "is_open" (top 84))
    (a8 : At0 K "open_lines" (top 83))
    (a9 : At0 K "bands" (top 82))
    (a10 : At0 K "band_table" (top 87))
    (a11 : At0 K "band_tables" (top 86))
    (a12 : At0 K "rows_of" (top 91))
    (a13 : At0 K "empty_cell" (top 27))
    (a14 : At0 K "cells_in" (top 41))
    (a15 : At0 K "joined" (top 38))
    (a16 : At0 K "has_frame" (top 17))
    (a17 : At0 K "checked" (top 14))
    (a18 : At0 K "empty" (top 15))
    (a19 : At0 K "row_in" (top 31))
    (a20 : At0 K "row_out" (top 32))
    (a21 : At0 K "ended_rows" (top 50))
    (a22 : At0 K "is_sheet" (top 74))
    (a23 : At0 K "read" (top 73))
    (a24 : At0 K "read_plain" (top 48))
    (a25 : At0 K "strips" (top 89))
    (a26 : At0 K "_law_deed" (top 94))
    (a27 : At0 K "_law_kinds_of" (top 95))
    (a28 : At0 K "law" (top 96))
    (z0 : PySem.W.nsIn K mainGlobals "len" = some none)
    (z1 : PySem.W.nsIn K mainGlobals "range" = some none)
    (z2 : PySem.W.nsIn K mainGlobals "isinstance" = some none)
    (z3 : PySem.W.nsIn K mainGlobals "int" = some none)
    (z4 : PySem.W.nsIn K mainGlobals "bool" = some none)
    (z5 : PySem.W.nsIn K mainGlobals "tuple" = some none)
    (z6 : PySem.W.nsIn K mainGlobals "list" = some none)
    (z7 : PySem.W.nsIn K mainGlobals "sorted" = some none)
    (z8 : PySem.W.nsIn K mainGlobals "enumerate" = some none)
    (z9 : PySem.W.nsIn K mainGlobals "zip" = some none)
    (z10 : PySem.W.nsIn K mainGlobals "str" = some none)
    (z11 : PySem.W.nsIn K mainGlobals "all" = some none)
    (z12 : PySem.W.nsIn K mainGlobals "min" = some none)
    (z13 : PySem.W.nsIn K mainGlobals "max" = some none)
    (z14 : PySem.W.nsIn K mainGlobals "sum" = some none)
    (z15 : PySem.W.nsIn K mainGlobals "ValueError" = some none)
    (z16 : PySem.W.nsIn K mainGlobals "any" = some none)
    (z17 : PySem.W.nsIn K mainGlobals "reversed" = some none)
    {tk0 : Tok} (y0 : PySem.W.nsIn K mainGlobals "LONGEST_SIDE" = some (some (.int 16 tk0)))
    {CX_TooBig : Addr} {bm0 : List Value} {ni0 B0 ii0 : String} (e0 : PySem.W.nsIn K mainGlobals "TooBig" = some (some (.ref CX_TooBig))) (FB0 : ExcBaseFacts B0 ni0 ii0 bm0) (q0 : PySem.W.excIn K CX_TooBig bm0 ni0 = true)
    {CX_TooSmall : Addr} {bm1 : List Value} {ni1 B1 ii1 : String} (e1 : PySem.W.nsIn K mainGlobals "TooSmall" = some (some (.ref CX_TooSmall))) (FB1 : ExcBaseFacts B1 ni1 ii1 bm1) (q1 : PySem.W.excIn K CX_TooSmall bm1 ni1 = true)
    {CX_BadDrawing : Addr} {bm2 : List Value} {ni2 B2 ii2 : String} (e2 : PySem.W.nsIn K mainGlobals "BadDrawing" = some (some (.ref CX_BadDrawing))) (FB2 : ExcBaseFacts B2 ni2 ii2 bm2) (q2 : PySem.W.excIn K CX_BadDrawing bm2 ni2 = true)
    {CX_BadPlain : Addr} {bm3 : List Value} {ni3 B3 ii3 : String} (e3 : PySem.W.nsIn K mainGlobals "BadPlain" = some (some (.ref CX_BadPlain))) (FB3 : ExcBaseFacts B3 ni3 ii3 bm3) (q3 : PySem.W.excIn K CX_BadPlain bm3 ni3 = true)
    {CX_GridError : Addr} {bm4 : List Value} {ni4 B4 ii4 : String} (e4 : PySem.W.nsIn K mainGlobals "GridError" = some (some (.ref CX_GridError))) (FB4 : ExcBaseFacts B4 ni4 ii4 bm4) (q4 : PySem.W.excIn K CX_GridError bm4 ni4 = true)
    {CX_Crossing : Addr} (j0 : JX K "Crossing" "Crossing.__init__" stI_Crossing CX_Crossing)
    {CX_BadTable : Addr} (j1 : JX K "BadTable" "BadTable.__init__" stI_BadTable CX_BadTable)
    {CX_TooTall : Addr} (j2 : JX K "TooTall" "TooTall.__init__" stI_TooTall CX_TooTall)
    (f_ck_BadTable : ClsK K CX_BadTable)
    (f_ck_Crossing : ClsK K CX_Crossing)
    (f_ck_TooBig : ClsK K CX_TooBig)
    (f_ck_TooSmall : ClsK K CX_TooSmall)
    (f_ck_BadDrawing : ClsK K CX_BadDrawing)
    (f_ck_BadPlain : ClsK K CX_BadPlain)
    (f_ck_TooTall : ClsK K CX_TooTall)
    (f_exgBadTable : PySem.W.exmOne K (.ref CX_BadTable) (.ref CX_GridError) = some true)
    (f_exgCrossing : PySem.W.exmOne K (.ref CX_Crossing) (.ref CX_GridError) = some true)
    (f_exg : PySem.W.exmOne K (.ref CX_TooBig) (.ref CX_GridError) = some true)
    (f_exgS : PySem.W.exmOne K (.ref CX_TooSmall) (.ref CX_GridError) = some true)
    (f_exgBadDrawing : PySem.W.exmOne K (.ref CX_BadDrawing) (.ref CX_GridError) = some true)
    (f_exgBadPlain : PySem.W.exmOne K (.ref CX_BadPlain) (.ref CX_GridError) = some true)
    (f_exgTooTall : PySem.W.exmOne K (.ref CX_TooTall) (.ref CX_GridError) = some true)
    (f_kt_BadTable_BadTable : PySem.W.kitOne K (.ref CX_BadTable) (.ref CX_BadTable) = some true)
    (f_kt_BadTable_Crossing : PySem.W.kitOne K (.ref CX_BadTable) (.ref CX_Crossing) = some false)
    (f_kt_BadTable_TooBig : PySem.W.kitOne K (.ref CX_BadTable) (.ref CX_TooBig) = some false)
    (f_kt_BadTable_TooSmall : PySem.W.kitOne K (.ref CX_BadTable) (.ref CX_TooSmall) = some false)
    (f_kt_BadTable_BadDrawing : PySem.W.kitOne K (.ref CX_BadTable) (.ref CX_BadDrawing) = some false)
    (f_kt_BadTable_BadPlain : PySem.W.kitOne K (.ref CX_BadTable) (.ref CX_BadPlain) = some false)
    (f_kt_BadTable_TooTall : PySem.W.kitOne K (.ref CX_BadTable) (.ref CX_TooTall) = some false)
    (f_kt_Crossing_BadTable : PySem.W.kitOne K (.ref CX_Crossing) (.ref CX_BadTable) = some false)
    (f_kt_Crossing_Crossing : PySem.W.kitOne K (.ref CX_Crossing) (.ref CX_Crossing) = some true)
    (f_kt_Crossing_TooBig : PySem.W.kitOne K (.ref CX_Crossing) (.ref CX_TooBig) = some false)
    (f_kt_Crossing_TooSmall : PySem.W.kitOne K (.ref CX_Crossing) (.ref CX_TooSmall) = some false)
    (f_kt_Crossing_BadDrawing : PySem.W.kitOne K (.ref CX_Crossing) (.ref CX_BadDrawing) = some false)
    (f_kt_Crossing_BadPlain : PySem.W.kitOne K (.ref CX_Crossing) (.ref CX_BadPlain) = some false)
    (f_kt_Crossing_TooTall : PySem.W.kitOne K (.ref CX_Crossing) (.ref CX_TooTall) = some false)
    (f_kt_TooBig_BadTable : PySem.W.kitOne K (.ref CX_TooBig) (.ref CX_BadTable) = some false)
    (f_kt_TooBig_Crossing : PySem.W.kitOne K (.ref CX_TooBig) (.ref CX_Crossing) = some false)
    (f_kt_TooBig_TooBig : PySem.W.kitOne K (.ref CX_TooBig) (.ref CX_TooBig) = some true)
    (f_kt_TooBig_TooSmall : PySem.W.kitOne K (.ref CX_TooBig) (.ref CX_TooSmall) = some false)
    (f_kt_TooBig_BadDrawing : PySem.W.kitOne K (.ref CX_TooBig) (.ref CX_BadDrawing) = some false)
    (f_kt_TooBig_BadPlain : PySem.W.kitOne K (.ref CX_TooBig) (.ref CX_BadPlain) = some false)
    (f_kt_TooBig_TooTall : PySem.W.kitOne K (.ref CX_TooBig) (.ref CX_TooTall) = some false)
    (f_kt_TooSmall_BadTable : PySem.W.kitOne K (.ref CX_TooSmall) (.ref CX_BadTable) = some false)
    (f_kt_TooSmall_Crossing : PySem.W.kitOne K (.ref CX_TooSmall) (.ref CX_Crossing) = some false)
    (f_kt_TooSmall_TooBig : PySem.W.kitOne K (.ref CX_TooSmall) (.ref CX_TooBig) = some false)
    (f_kt_TooSmall_TooSmall : PySem.W.kitOne K (.ref CX_TooSmall) (.ref CX_TooSmall) = some true)
    (f_kt_TooSmall_BadDrawing : PySem.W.kitOne K (.ref CX_TooSmall) (.ref CX_BadDrawing) = some false)
    (f_kt_TooSmall_BadPlain : PySem.W.kitOne K (.ref CX_TooSmall) (.ref CX_BadPlain) = some false)
    (f_kt_TooSmall_TooTall : PySem.W.kitOne K (.ref CX_TooSmall) (.ref CX_TooTall) = some false)
    (f_kt_BadDrawing_BadTable : PySem.W.kitOne K (.ref CX_BadDrawing) (.ref CX_BadTable) = some false)
    (f_kt_BadDrawing_Crossing : PySem.W.kitOne K (.ref CX_BadDrawing) (.ref CX_Crossing) = some false)
    (f_kt_BadDrawing_TooBig : PySem.W.kitOne K (.ref CX_BadDrawing) (.ref CX_TooBig) = some false)
    (f_kt_BadDrawing_TooSmall : PySem.W.kitOne K (.ref CX_BadDrawing) (.ref CX_TooSmall) = some false)
    (f_kt_BadDrawing_BadDrawing : PySem.W.kitOne K (.ref CX_BadDrawing) (.ref CX_BadDrawing) = some true)
    (f_kt_BadDrawing_BadPlain : PySem.W.kitOne K (.ref CX_BadDrawing) (.ref CX_BadPlain) = some false)
    (f_kt_BadDrawing_TooTall : PySem.W.kitOne K (.ref CX_BadDrawing) (.ref CX_TooTall) = some false)
    (f_kt_BadPlain_BadTable : PySem.W.kitOne K (.ref CX_BadPlain) (.ref CX_BadTable) = some false)
    (f_kt_BadPlain_Crossing : PySem.W.kitOne K (.ref CX_BadPlain) (.ref CX_Crossing) = some false)
    (f_kt_BadPlain_TooBig : PySem.W.kitOne K (.ref CX_BadPlain) (.ref CX_TooBig) = some false)
    (f_kt_BadPlain_TooSmall : PySem.W.kitOne K (.ref CX_BadPlain) (.ref CX_TooSmall) = some false)
    (f_kt_BadPlain_BadDrawing : PySem.W.kitOne K (.ref CX_BadPlain) (.ref CX_BadDrawing) = some false)
    (f_kt_BadPlain_BadPlain : PySem.W.kitOne K (.ref CX_BadPlain) (.ref CX_BadPlain) = some true)
    (f_kt_BadPlain_TooTall : PySem.W.kitOne K (.ref CX_BadPlain) (.ref CX_TooTall) = some false)
    (f_kt_TooTall_BadTable : PySem.W.kitOne K (.ref CX_TooTall) (.ref CX_BadTable) = some false)
    (f_kt_TooTall_Crossing : PySem.W.kitOne K (.ref CX_TooTall) (.ref CX_Crossing) = some false)
    (f_kt_TooTall_TooBig : PySem.W.kitOne K (.ref CX_TooTall) (.ref CX_TooBig) = some false)
    (f_kt_TooTall_TooSmall : PySem.W.kitOne K (.ref CX_TooTall) (.ref CX_TooSmall) = some false)
    (f_kt_TooTall_BadDrawing : PySem.W.kitOne K (.ref CX_TooTall) (.ref CX_BadDrawing) = some false)
    (f_kt_TooTall_BadPlain : PySem.W.kitOne K (.ref CX_TooTall) (.ref CX_BadPlain) = some false)
    (f_kt_TooTall_TooTall : PySem.W.kitOne K (.ref CX_TooTall) (.ref CX_TooTall) = some true)
    : ∃ fd : FuncData, (∀ (s : Shared) (v : Value), BindsTo s fd ⟨[v], []⟩ [("_law_script", v)]) ∧ ∀ base : Heap, K.In base → base.Ns mainGlobals mg → FnOk l.prog w K mg base CX0 9 fa fd ["_law_script"] (spLaw K) := by
  have T : Txt mg := ⟨PySem.W.mg_none_of X G z0, PySem.W.mg_none_of X G z1, PySem.W.mg_none_of X G z2, PySem.W.mg_none_of X G z3, PySem.W.mg_none_of X G z4, PySem.W.mg_none_of X G z5, PySem.W.mg_none_of X G z6, PySem.W.mg_none_of X G z7, PySem.W.mg_none_of X G z8, PySem.W.mg_none_of X G z9, PySem.W.mg_none_of X G z10, PySem.W.mg_none_of X G z11, PySem.W.mg_none_of X G z12, PySem.W.mg_none_of X G z13, PySem.W.mg_none_of X G z14, PySem.W.mg_none_of X G z15, PySem.W.mg_none_of X G z16, PySem.W.mg_none_of X G z17⟩
  obtain ⟨f, fd, F, e⟩ := a28.ex
  have e0 := hfa.symm.trans (PySem.W.mg_of X G e)
  cases e0
  refine ⟨fd, ?_, fun base hKb hNb => ?_⟩
  · obtain ⟨oc, od, kV, doc, pm, an, cdv, ct, osl, rfl, lk, hcd⟩ := F.ex
    exact fun s v => .of_eq rfl
  · have k_LONGEST_SIDE : ∃ t, mg "LONGEST_SIDE" = some (.int 16 t) := ⟨_, PySem.W.mg_of X G y0⟩
    have x_TooBig : ExcC K mg base "TooBig" CX_TooBig := ⟨⟨_, _, _, _, FB0, own_mk hKb hNb e0 q0⟩, PySem.W.mg_of X G e0⟩
    have x_TooSmall : ExcC K mg base "TooSmall" CX_TooSmall := ⟨⟨_, _, _, _, FB1, own_mk hKb hNb e1 q1⟩, PySem.W.mg_of X G e1⟩
    have x_BadDrawing : ExcC K mg base "BadDrawing" CX_BadDrawing := ⟨⟨_, _, _, _, FB2, own_mk hKb hNb e2 q2⟩, PySem.W.mg_of X G e2⟩
    have x_BadPlain : ExcC K mg base "BadPlain" CX_BadPlain := ⟨⟨_, _, _, _, FB3, own_mk hKb hNb e3 q3⟩, PySem.W.mg_of X G e3⟩
    have x_GridError : ExcC K mg base "GridError" CX_GridError := ⟨⟨_, _, _, _, FB4, own_mk hKb hNb e4 q4⟩, PySem.W.mg_of X G e4⟩
    have x_Crossing : ExcJ l.prog w K mg base "Crossing" CX_Crossing := j_Crossing hKb hNb j0
    have x_BadTable : ExcJ l.prog w K mg base "BadTable" CX_BadTable := j_BadTable hKb hNb j1
    have x_TooTall : ExcJ l.prog w K mg base "TooTall" CX_TooTall := j_TooTall hKb hNb j2
    have c__law_cell : Cal l.prog w K mg base 1 "_law_cell" ["_law_script", "_law_k"] (spCell K) := a0.cal X G (fun _ _ _ _ _ _ => len2 fun _ _ => rfl) (ok__law_cell T)
    have c_moved_cell : Cal l.prog w K mg base 1 "moved_cell" ["cell", "down", "right"] spMoved := a1.cal X G (fun _ _ _ _ _ _ => len3 fun _ _ _ => rfl) ok_moved_cell
    have c_meets : Cal l.prog w K mg base 1 "meets" ["cell", "block"] (spBlockB meetsB) := a2.cal X G (fun _ _ _ _ _ _ => len2 fun _ _ => rfl) ok_meets
    have c_lies_in : Cal l.prog w K mg base 1 "lies_in" ["cell", "block"] (spBlockB liesB) := a3.cal X G (fun _ _ _ _ _ _ => len2 fun _ _ => rfl) ok_lies_in
    have c_cells_in : Cal l.prog w K mg base 2 "cells_in" ["table", "block"] spCellsIn := a4.cal X G (fun _ _ _ _ _ _ => len2 fun _ _ => rfl) (ok_cells_in T c_meets c_lies_in)
    have c_cut_out : Cal l.prog w K mg base 3 "cut_out" ["table", "top", "left", "height", "width"] spCutOut := a5.cal X G (fun _ _ _ _ _ _ => len5 fun _ _ _ _ _ => rfl) (ok_cut_out T c_moved_cell c_cells_in)
    have c_spans : Cal l.prog w K mg base 1 "spans" ["cell", "line"] spSpans := a6.cal X G (fun _ _ _ _ _ _ => len2 fun _ _ => rfl) ok_spans
    have c_is_open : Cal l.prog w K mg base 2 "is_open" ["table", "line"] spIsOpen := a7.cal X G (fun _ _ _ _ _ _ => len2 fun _ _ => rfl) (ok_is_open T c_spans)
    have c_open_lines : Cal l.prog w K mg base 3 "open_lines" ["table"] spOpenLines := a8.cal X G (fun _ _ _ _ _ _ => len1 fun _ => rfl) (ok_open_lines T c_is_open)
    have c_bands : Cal l.prog w K mg base 4 "bands" ["table"] spBands := a9.cal X G (fun _ _ _ _ _ _ => len1 fun _ => rfl) (ok_bands T c_open_lines)
    have c_band_table : Cal l.prog w K mg base 4 "band_table" ["table", "band"] spBandTable := a10.cal X G (fun _ _ _ _ _ _ => len2 fun _ _ => rfl) (ok_band_table c_cut_out)
    have c_band_tables : Cal l.prog w K mg base 5 "band_tables" ["table"] spBandTables := a11.cal X G (fun _ _ _ _ _ _ => len1 fun _ => rfl) (ok_band_tables T c_bands c_band_table)
    have c_rows_of : Cal l.prog w K mg base 1 "rows_of" ["parts"] spRowsOf := a12.cal X G (fun _ _ _ _ _ _ => len1 fun _ => rfl) (ok_rows_of T)
    have c_empty_cell : Cal l.prog w K mg base 1 "empty_cell" ["row", "column"] spEmptyCell := a13.cal X G (fun _ _ _ _ _ _ => len2 fun _ _ => rfl) ok_empty_cell
    have c_cells_inx : Cal1 l.prog w K mg base 3 "cells_in" ["table", "block"] (spCellsX CX_Crossing) := a14.cal1 X G (fun _ _ _ _ _ _ => len2 fun _ _ => rfl) (ok_cells_inx T x_Crossing c_meets c_lies_in)
    have c_joined : Cal1 l.prog w K mg base 4 "joined" ["table", "top", "left", "height", "width"] (spJoin0 CX_Crossing) := a15.cal1 X G (fun _ _ _ _ _ _ => len5 fun _ _ _ _ _ => rfl) (ok_joined T c_cells_inx)
    have c_has_frame : Cal l.prog w K mg base 1 "has_frame" ["thing"] spFrame0 := a16.cal X G (fun _ _ _ _ _ _ => len1 fun _ => rfl) (ok_has_frame T)
    have c_checked : Cal1 l.prog w K mg base 3 "checked" ["table"] (spChecked0 CX_BadTable) := a17.cal1 X G (fun _ _ _ _ _ _ => len1 fun _ => rfl) (ok_checked x_BadTable c_has_frame)
    have c_empty : Cal l.prog w K mg base 2 "empty" ["rows", "columns"] spEmpty0 := a18.cal X G (fun _ _ _ _ _ _ => len2 fun _ _ => rfl) (ok_empty T c_empty_cell)
    have c_row_in : Cal1 l.prog w K mg base 3 "row_in" ["table", "at"] (spRowIn0 CX_TooBig) := a19.cal1 X G (fun _ _ _ _ _ _ => len2 fun _ _ => rfl) (ok_row_in T k_LONGEST_SIDE x_TooBig)
    have c_row_out : Cal1 l.prog w K mg base 3 "row_out" ["table", "at"] (spRowOut0 CX_TooSmall) := a20.cal1 X G (fun _ _ _ _ _ _ => len2 fun _ _ => rfl) (ok_row_out T x_TooSmall)
    have c_ended_rows : Cal l.prog w K mg base 1 "ended_rows" ["thing"] spEnded0 := a21.cal X G (fun _ _ _ _ _ _ => len1 fun _ => rfl) (ok_ended_rows T)
    have c_is_sheet : Cal l.prog w K mg base 1 "is_sheet" ["signs"] spSheet0 := a22.cal X G (fun _ _ _ _ _ _ => len1 fun _ => rfl) (ok_is_sheet T)
    have c_read : Cal1 l.prog w K mg base 3 "read" ["text"] (spRead0 CX_BadDrawing) := a23.cal1 X G (fun _ _ _ _ _ _ => len1 fun _ => rfl) (ok_read T x_BadDrawing c_ended_rows c_is_sheet)
    have c_read_plain : Cal1 l.prog w K mg base 3 "read_plain" ["text"] (spRead0 CX_BadPlain) := a24.cal1 X G (fun _ _ _ _ _ _ => len1 fun _ => rfl) (ok_read_plain T x_BadPlain c_ended_rows)
    have c_strips : Cal1 l.prog w K mg base 6 "strips" ["table", "head", "room"] (spStrips0 CX_TooTall) := a25.cal1 X G (fun _ _ _ _ _ _ => len3 fun _ _ _ => rfl) (ok_strips T x_TooTall c_band_tables c_rows_of)
    have c__law_deed : Cal1 l.prog w K mg base 7 "_law_deed" ["_law_way"] (spDeed CX_BadTable CX_Crossing CX_TooBig CX_TooSmall CX_BadDrawing CX_BadPlain CX_TooTall) := a26.cal1 X G (fun _ _ _ _ _ _ => len1 fun _ => rfl) (ok__law_deed T c_checked c_joined c_empty c_row_in c_row_out c_read c_read_plain c_strips)
    have c__law_kinds_of : Cal l.prog w K mg base 8 "_law_kinds_of" ["_law_way"] spKindsOf := a27.cal X G (fun _ _ _ _ _ _ => len1 fun _ => rfl) (ok__law_kinds_of T x_GridError x_BadTable x_Crossing x_TooBig x_TooSmall x_BadDrawing x_BadPlain x_TooTall f_ck_BadTable f_ck_Crossing f_ck_TooBig f_ck_TooSmall f_ck_BadDrawing f_ck_BadPlain f_ck_TooTall f_exgBadTable f_exgCrossing f_exg f_exgS f_exgBadDrawing f_exgBadPlain f_exgTooTall f_kt_BadTable_BadTable f_kt_BadTable_Crossing f_kt_BadTable_TooBig f_kt_BadTable_TooSmall f_kt_BadTable_BadDrawing f_kt_BadTable_BadPlain f_kt_BadTable_TooTall f_kt_Crossing_BadTable f_kt_Crossing_Crossing f_kt_Crossing_TooBig f_kt_Crossing_TooSmall f_kt_Crossing_BadDrawing f_kt_Crossing_BadPlain f_kt_Crossing_TooTall f_kt_TooBig_BadTable f_kt_TooBig_Crossing f_kt_TooBig_TooBig f_kt_TooBig_TooSmall f_kt_TooBig_BadDrawing f_kt_TooBig_BadPlain f_kt_TooBig_TooTall f_kt_TooSmall_BadTable f_kt_TooSmall_Crossing f_kt_TooSmall_TooBig f_kt_TooSmall_TooSmall f_kt_TooSmall_BadDrawing f_kt_TooSmall_BadPlain f_kt_TooSmall_TooTall f_kt_BadDrawing_BadTable f_kt_BadDrawing_Crossing f_kt_BadDrawing_TooBig f_kt_BadDrawing_TooSmall f_kt_BadDrawing_BadDrawing f_kt_BadDrawing_BadPlain f_kt_BadDrawing_TooTall f_kt_BadPlain_BadTable f_kt_BadPlain_Crossing f_kt_BadPlain_TooBig f_kt_BadPlain_TooSmall f_kt_BadPlain_BadDrawing f_kt_BadPlain_BadPlain f_kt_BadPlain_TooTall f_kt_TooTall_BadTable f_kt_TooTall_Crossing f_kt_TooTall_TooBig f_kt_TooTall_TooSmall f_kt_TooTall_BadDrawing f_kt_TooTall_BadPlain f_kt_TooTall_TooTall c__law_deed)
    exact ok_law T c__law_cell c__law_kinds_of _ fd F
theorem walk {l : PySem.W.OpenLaw} {q : Program} {loose : List Str} {XP : (Str → Option Value) → Heap → Prop} {YP : World → Heap → Prop} {d : DefRec} {K : Params → PySem.W.Frag} (hn : l.most = some 63) (hdf : d.params.defaults = [])
    (hY : ∀ (w : World) (h : Heap), YP w h → (K w.params).In h)
    (F : ∀ (w : World) (mg : Str → Option Value) (fa : Addr) (h : Heap), (K w.params).In h → h.Ns mainGlobals mg → mg d.name = some (.ref fa) →
      ∃ fd : FuncData, (∀ (s : Shared) (u : Value), BindsTo s fd ⟨[u], []⟩ [("_law_script", u)]) ∧ ∀ base : Heap, (K w.params).In base → base.Ns mainGlobals mg → FnOk l.prog w (K w.params) mg base CX0 9 fa fd ["_law_script"] (spLaw (K w.params))) :
    PySem.W.WalkO q loose XP YP l.row.toRowW d [] (fun f vs => PySem.call f vs) :=
  L2.walk_of (n := 63) (k := 9) (x := "_law_script") (CX := fun _ => CX0) (sp := fun w => spLaw (K w.params)) hn (by decide) hdf ⟨rfl, by decide, by decide⟩ hY F (fun _ _ a ns hl _ hS => ⟨a, ns, rfl, hS, hl, fun _ => rfl⟩) fun _ _ _ _ _ z => z
end KL
noncomputable def PySem.W.Fast.tw14914134109247346307:PySem.Program:=PySem.Challenge.pw_gridframe_k39_refusals_stand_apart
theorem PySem.W.Fast.te14914134109247346307:PySem.Challenge.pw_gridframe_k39_refusals_stand_apart=PySem.W.Fast.tw14914134109247346307:=rfl
namespace PySem.W.Fast
theorem te13367829079234938915:True:=trivial
theorem te1926468272671850859:True:=trivial
theorem te7171940819573175797:True:=trivial
theorem te9684748642886551794:True:=trivial
theorem te7890492312196543614:True:=trivial
theorem te14513849256539738518:True:=trivial
theorem te17659377372487375342:True:=trivial
theorem te6545302028258424597:True:=trivial
theorem te12034350745731987455:True:=trivial
theorem te6876906238475617131:True:=trivial
theorem te15495835927483256228:True:=trivial
theorem te17270502220073904675:True:=trivial
theorem te15748697512334475381:True:=trivial
theorem te998324542471271856:True:=trivial
theorem te4880973678339219693:True:=trivial
theorem te8131685202263495107:True:=trivial
theorem te10358842562149179273:True:=trivial
theorem te15733733612741881273:True:=trivial
theorem te2354331716937710051:True:=trivial
theorem te12936129961880177900:True:=trivial
theorem te10930218017490559143:True:=trivial
theorem te12311905834679090844:True:=trivial
theorem te589477459685753836:True:=trivial
theorem te2756412557870342034:True:=trivial
theorem te3731989784800264811:True:=trivial
theorem te152210077458837669:True:=trivial
theorem te4731692358806105900:True:=trivial
theorem te8011140570167567325:True:=trivial
theorem te7702304527499041806:True:=trivial
theorem te10353907182425751103:True:=trivial
theorem te6332853397597464038:True:=trivial
theorem te2658675871387161857:True:=trivial
theorem te15661094308166702505:True:=trivial
theorem te4363671124657637183:True:=trivial
theorem te13849508531279584962:True:=trivial
theorem te7943503113904662565:True:=trivial
theorem te16530455502890510101:True:=trivial
theorem te5454486215352382151:True:=trivial
theorem te5657814086043055086:True:=trivial
theorem te14514260843068822068:True:=trivial
theorem te735457634110894741:True:=trivial
theorem te13957636661252098492:True:=trivial
theorem te15043028917721765203:True:=trivial
theorem te11702301018589745664:True:=trivial
theorem te14186180400767729001:True:=trivial
theorem te15464985348330214239:True:=trivial
theorem te10424274255107126010:True:=trivial
theorem te14895552363571342187:True:=trivial
theorem te16131189877235196431:True:=trivial
theorem te15702624979178292523:True:=trivial
theorem te18425457320421826344:True:=trivial
theorem te10229165400598431290:True:=trivial
theorem te73666604589497212:True:=trivial
theorem te11114688187973383495:True:=trivial
theorem te11744741677947024301:True:=trivial
theorem te9947981051341530342:True:=trivial
theorem te16011649805666916951:True:=trivial
theorem te1217258098610298534:True:=trivial
theorem te2521153295818888707:True:=trivial
theorem te2504651942749864431:True:=trivial
theorem te13641845489173506433:True:=trivial
theorem te11032258072295002183:True:=trivial
theorem te10677504469603492651:True:=trivial
theorem te12243966964578689434:True:=trivial
theorem te9579865276794014233:True:=trivial
theorem te5853046193589562531:True:=trivial
theorem te7858390379532040630:True:=trivial
theorem te12934916541118426434:True:=trivial
theorem te585696499414297736:True:=trivial
theorem te4064453088863565538:True:=trivial
theorem te11495055084640489001:True:=trivial
theorem te4794483287065525123:True:=trivial
theorem te9887873979194602392:True:=trivial
theorem te11179532308613621888:True:=trivial
theorem te18043795942415415818:True:=trivial
theorem te3233973108356558211:True:=trivial
theorem te7494548841382427867:True:=trivial
theorem te17992372127222387100:True:=trivial
theorem te7461783372759507896:True:=trivial
theorem te9966239016983067925:True:=trivial
theorem te11168524389869017321:True:=trivial
theorem te7893552051151343125:True:=trivial
theorem te1149050278120364947:True:=trivial
theorem te9850958200313826991:True:=trivial
theorem te8062859396214486669:True:=trivial
theorem te14440037214916139264:True:=trivial
theorem te1397619487628776398:True:=trivial
theorem te15656127142592089488:True:=trivial
theorem te14553249275204671555:True:=trivial
theorem te9415174079669978287:True:=trivial
theorem te2187775951030469247:True:=trivial
theorem te10881205541648004305:True:=trivial
theorem te5061058486990569518:True:=trivial
theorem te9705770673126404251:True:=trivial
theorem te10899678005206586192:True:=trivial
theorem te17236422152656362691:True:=trivial
theorem te7856789347361312511:True:=trivial
theorem te6510543387451050623:True:=trivial
theorem te5918721220635123270:True:=trivial
theorem te10958992206832507568:True:=trivial
theorem te9285919538782132303:True:=trivial
theorem te10237215333191056677:True:=trivial
theorem te8850262401095674298:True:=trivial
theorem te3526717391323168150:True:=trivial
theorem te8838033256406027234:True:=trivial
theorem te17220941780482915717:True:=trivial
theorem te17327335345671847866:True:=trivial
theorem te6953797725742158151:True:=trivial
theorem te2746321427535029596:True:=trivial
theorem te2735047474596717291:True:=trivial
theorem te2497303879058678397:True:=trivial
theorem te10189205296179742749:True:=trivial
theorem te4997380948033640553:True:=trivial
theorem te7009668080861687530:True:=trivial
theorem te15832437685338884312:True:=trivial
theorem te9603267731457344321:True:=trivial
theorem te13332686114838944017:True:=trivial
theorem te8473625564050189713:True:=trivial
theorem te10046152329623506424:True:=trivial
theorem te11344182872857014294:True:=trivial
theorem te5312475659531856241:True:=trivial
theorem te3245221209821692286:True:=trivial
theorem te16811325939945015624:True:=trivial
theorem te1344811081606519093:True:=trivial
theorem te8967649293321566457:True:=trivial
theorem te2882736152144058225:True:=trivial
theorem te6869010832859975941:True:=trivial
theorem te12483961709636394213:True:=trivial
theorem te124506404250806983:True:=trivial
theorem te1082314192922286016:True:=trivial
theorem te394889477262045654:True:=trivial
theorem te4715202609062080711:True:=trivial
theorem te10913280327032803240:True:=trivial
theorem te667854547842297017:True:=trivial
theorem te15295431339861372200:True:=trivial
theorem te8367733151192930195:True:=trivial
theorem te5652841186340908015:True:=trivial
theorem te8872295429531455358:True:=trivial
theorem te15679236326145548556:True:=trivial
theorem te15098574331943915995:True:=trivial
theorem te17265687749173656695:True:=trivial
theorem te957312200198792926:True:=trivial
theorem te12291457871618122981:True:=trivial
theorem te782809717756229295:True:=trivial
theorem te3205148291331796110:True:=trivial
theorem te9714285944655867124:True:=trivial
theorem te9772560893272638335:True:=trivial
theorem te17047705654584233903:True:=trivial
theorem te10471383441891883989:True:=trivial
theorem te10208534218022705251:True:=trivial
theorem te1885261240005951309:True:=trivial
theorem te7297275707763010838:True:=trivial
theorem te6276477621977402874:True:=trivial
theorem te13025644120384829394:True:=trivial
theorem te14689901305406795741:True:=trivial
theorem te8206772477050520750:True:=trivial
theorem te13577240715519560767:True:=trivial
theorem te9113544127136211106:True:=trivial
theorem te7571530077246853431:True:=trivial
theorem te10490839049934535146:True:=trivial
theorem te5908001532556057372:True:=trivial
theorem te16363011458272264375:True:=trivial
theorem te1534140849822735970:True:=trivial
theorem te16320503345729791372:True:=trivial
theorem te14328031305028615260:True:=trivial
theorem te2213137702862380136:True:=trivial
theorem te16121199773398615781:True:=trivial
theorem te14659338388173154810:True:=trivial
theorem te18017449864666254409:True:=trivial
theorem te18153281471705004846:True:=trivial
theorem te4134673551899706707:True:=trivial
theorem te9708599988754147551:True:=trivial
theorem te2321960732071240786:True:=trivial
theorem te6734415537561410592:True:=trivial
theorem te2431204704656969149:True:=trivial
theorem te17047154454396778783:True:=trivial
theorem te15524845203237423695:True:=trivial
theorem te1939819817144562187:True:=trivial
theorem te17120989682195593785:True:=trivial
theorem te7744803642723181346:True:=trivial
theorem te13118466348949410763:True:=trivial
theorem te3200270517389221462:True:=trivial
theorem te12173506372862363955:True:=trivial
theorem te14488795619236503158:True:=trivial
theorem te1478215467421020420:True:=trivial
theorem te3407615566488800064:True:=trivial
theorem te5641680894879548754:True:=trivial
theorem te11213100928404396535:True:=trivial
theorem te10535378380717709109:True:=trivial
theorem te5577377810507393070:True:=trivial
theorem te14671336411158598974:True:=trivial
theorem te16077283626391546053:True:=trivial
theorem te6592093570866077708:True:=trivial
theorem te16007086936747324160:True:=trivial
theorem te9011669299961552679:True:=trivial
theorem te11933110083679857360:True:=trivial
theorem te14883390682824747249:True:=trivial
theorem te3081950608231742080:True:=trivial
theorem te4332114881291597696:True:=trivial
theorem te11669244375586802359:True:=trivial
theorem te5380911563178906688:True:=trivial
theorem te16142271391429387734:True:=trivial
theorem te8583550209505351288:True:=trivial
theorem te9629309195177260585:True:=trivial
theorem te3942952109489980261:True:=trivial
theorem te13209501865729737:True:=trivial
theorem te15196224001841382525:True:=trivial
theorem te8323232181671153409:True:=trivial
theorem te13601823561013043179:True:=trivial
theorem te1951669163533550386:True:=trivial
theorem te5355082490095034510:True:=trivial
theorem te17223908782284106857:True:=trivial
theorem te11557976844638281610:True:=trivial
theorem te13090873685136947217:True:=trivial
theorem te15164792895030769591:True:=trivial
theorem te17508642532721502940:True:=trivial
theorem te8087750076612318285:True:=trivial
theorem te18045371991240129981:True:=trivial
theorem te5340013267452305644:True:=trivial
theorem te13748187624840048265:True:=trivial
theorem te14382186121771402694:True:=trivial
theorem te1806943469856859123:True:=trivial
theorem te6643817030046565399:True:=trivial
theorem te3294039389506217486:True:=trivial
theorem te9840852625168321402:True:=trivial
theorem te2926849896771189545:True:=trivial
theorem te16349869658106856867:True:=trivial
theorem te15287867197634285039:True:=trivial
theorem te11512008784070382064:True:=trivial
theorem te1725497082962814684:True:=trivial
theorem te522102620137403837:True:=trivial
theorem te391788657930172155:True:=trivial
theorem te16281337402065507329:True:=trivial
theorem te15306183126485517580:True:=trivial
theorem te4742267086227591968:True:=trivial
theorem te9043439990641871357:True:=trivial
theorem te17856094439954019129:True:=trivial
theorem te4064789621739198490:True:=trivial
theorem te8683191780576744915:True:=trivial
theorem te18365316145194470287:True:=trivial
theorem te14485884014186033414:True:=trivial
theorem te14407167957410767889:True:=trivial
theorem te391282697447947268:True:=trivial
theorem te18199921324892437890:True:=trivial
theorem te9160512340301664080:True:=trivial
theorem te2475458912808355553:True:=trivial
theorem te13820584047704941926:True:=trivial
theorem te479692368761601305:True:=trivial
theorem te4510250243990714528:True:=trivial
theorem te13057121212011755711:True:=trivial
theorem te8727679711293473910:True:=trivial
theorem te3133151381178787550:True:=trivial
theorem te11690504277347285526:True:=trivial
theorem te8868690991090576259:True:=trivial
theorem te15931750019433175704:True:=trivial
theorem te17706172831416819416:True:=trivial
theorem te9070360977125271006:True:=trivial
theorem te4358088224512474072:True:=trivial
theorem te9566229153570535418:True:=trivial
theorem te4957658902590698638:True:=trivial
theorem te2047690521602062267:True:=trivial
theorem te15743550166841438590:True:=trivial
theorem te3790905579009732198:True:=trivial
theorem te3121402657541822132:True:=trivial
theorem te17167987797777781123:True:=trivial
theorem te11329175877187661761:True:=trivial
theorem te14618136758499411136:True:=trivial
theorem te155322200862074880:True:=trivial
theorem te13326629872843556363:True:=trivial
theorem te9747554906906697479:True:=trivial
theorem te10363054521675555088:True:=trivial
theorem te7953543227721427901:True:=trivial
theorem te4325992407398880109:True:=trivial
theorem te735545675819186042:True:=trivial
theorem te4464891152839803548:True:=trivial
theorem te17701180789149193860:True:=trivial
theorem te10268742474682282053:True:=trivial
theorem te12084671248391135188:True:=trivial
theorem te8727270339832113005:True:=trivial
theorem te17261606195960314527:True:=trivial
theorem te9731189734375210472:True:=trivial
theorem te2773118936765271492:True:=trivial
theorem te1860217693733038147:True:=trivial
theorem te4002417560850199937:True:=trivial
theorem te8507945199224051431:True:=trivial
theorem te5012977954561054705:True:=trivial
theorem te4691451981719147508:True:=trivial
theorem te17161362506142064371:True:=trivial
theorem te17568235404787507625:True:=trivial
theorem te18352109942669003717:True:=trivial
theorem te15675665205116178228:True:=trivial
theorem te15439462909297340586:True:=trivial
theorem te2888106217051912033:True:=trivial
theorem te13664559533755927341:True:=trivial
theorem te18021481894504519319:True:=trivial
theorem te11915063997576587619:True:=trivial
theorem te6236433391396554728:True:=trivial
theorem te6946493747738043286:True:=trivial
theorem te15927784836774350151:True:=trivial
theorem te7774533026104398574:True:=trivial
theorem te9403387508271715845:True:=trivial
theorem te7139071745524391204:True:=trivial
theorem te11510265917959742639:True:=trivial
theorem te11012161098969872815:True:=trivial
theorem te16433147374179573982:True:=trivial
theorem te12576156252598491264:True:=trivial
theorem te15667290843900497810:True:=trivial
theorem te3783940793739513078:True:=trivial
theorem te2119403723599738775:True:=trivial
theorem te9311270521883961649:True:=trivial
theorem te12719768357202307541:True:=trivial
theorem te3623237417112621236:True:=trivial
theorem te10311835909965321763:True:=trivial
theorem te17721523444647977253:True:=trivial
theorem te17201988964600723363:True:=trivial
theorem te7509487562336240306:True:=trivial
theorem te4761479024744947459:True:=trivial
theorem te5206979709057350816:True:=trivial
theorem te9663082648245438804:True:=trivial
theorem te128917885175519868:True:=trivial
theorem te13626460180564303276:True:=trivial
theorem te14517981921285761479:True:=trivial
theorem te1808703902823144597:True:=trivial
theorem te4852022297739144468:True:=trivial
theorem te12730834257847939375:True:=trivial
theorem te2432781075153113577:True:=trivial
theorem te14775552314892386608:True:=trivial
theorem te2504748002111458168:True:=trivial
theorem te7753951019420480243:True:=trivial
theorem te64563461501093232:True:=trivial
theorem te15975358296708534446:True:=trivial
theorem te4267822341050402894:True:=trivial
theorem te12903392944039831905:True:=trivial
theorem te4702304380386282022:True:=trivial
theorem te4355652985668851955:True:=trivial
theorem te9531056957112725069:True:=trivial
theorem te10125926501729427083:True:=trivial
theorem te4426405660973666920:True:=trivial
theorem te15965530522355319793:True:=trivial
theorem te547417181402897862:True:=trivial
theorem te2454644623331309816:True:=trivial
theorem te13455197677763702551:True:=trivial
theorem te15422364824865017886:True:=trivial
theorem te9685834647691128965:True:=trivial
theorem te2627772409620918837:True:=trivial
theorem te4350926713410162433:True:=trivial
theorem te4225620581188378140:True:=trivial
theorem te15192436499327399751:True:=trivial
theorem te2080640828879527366:True:=trivial
theorem te5789558464513382102:True:=trivial
theorem te11620275793331641989:True:=trivial
theorem te16393089968132837761:True:=trivial
theorem te15670830092119008098:True:=trivial
theorem te1495563555616133770:True:=trivial
theorem te6977676050564063025:True:=trivial
theorem te14847031043099278488:True:=trivial
theorem te5321270295451101537:True:=trivial
theorem te18044938830251725240:True:=trivial
theorem te17204879306971115005:True:=trivial
theorem te14640629546727569179:True:=trivial
theorem te4291812633449227479:True:=trivial
theorem te9660844627968643185:True:=trivial
theorem te18126045079544534220:True:=trivial
theorem te8245493363746533289:True:=trivial
theorem te18368538616979673374:True:=trivial
theorem te13320125431791918437:True:=trivial
theorem te14555369507298068277:True:=trivial
theorem te12099058325830896958:True:=trivial
theorem te1358126977515207360:True:=trivial
theorem te8834331897040306458:True:=trivial
theorem te6900667496222665263:True:=trivial
theorem te16662394325152925350:True:=trivial
theorem te14308884649331801408:True:=trivial
theorem te16120985930764946666:True:=trivial
theorem te13144217446788587184:True:=trivial
theorem te17452431315746352198:True:=trivial
theorem te17449190229851406247:True:=trivial
theorem te1323917119400109261:True:=trivial
theorem te12065978014188104111:True:=trivial
theorem te12605960715981998387:True:=trivial
theorem te9736238055121990660:True:=trivial
theorem te3084919654311197385:True:=trivial
theorem te9525464318540528072:True:=trivial
theorem te13806808993642049953:True:=trivial
theorem te2776033796854604011:True:=trivial
theorem te9888518794988482211:True:=trivial
theorem te12891572283356177331:True:=trivial
theorem te4518899193260734210:True:=trivial
theorem te4654696156746231719:True:=trivial
theorem te15228247645205339222:True:=trivial
theorem te987306282707965404:True:=trivial
theorem te6566695136696114832:True:=trivial
theorem te10861987917101745920:True:=trivial
theorem te7830161035692121340:True:=trivial
theorem te7929613301612709657:True:=trivial
theorem te2965814137369352894:True:=trivial
theorem te7370510087664696218:True:=trivial
theorem te6058115181542229266:True:=trivial
theorem te2085435294463162214:True:=trivial
theorem te16950488554848835825:True:=trivial
theorem te7386223543266536451:True:=trivial
theorem te2869356978110872423:True:=trivial
theorem te2431258341177226099:True:=trivial
theorem te1501280809512275573:True:=trivial
theorem te380038828230239332:True:=trivial
theorem te10192762364032454075:True:=trivial
theorem te8343873297877895507:True:=trivial
theorem te11900679839880639877:True:=trivial
theorem te1451203545738280194:True:=trivial
theorem te4818208604158577537:True:=trivial
theorem te5733092751771155253:True:=trivial
theorem te12531194618720048479:True:=trivial
theorem te1750549595389199005:True:=trivial
theorem te15068569771824127650:True:=trivial
theorem te4966956590214540641:True:=trivial
theorem te4057618066087190536:True:=trivial
theorem te15047549436973680349:True:=trivial
theorem te16640396215403246566:True:=trivial
theorem te8007565497741311383:True:=trivial
theorem te10410549053864275174:True:=trivial
theorem te13191834788590067662:True:=trivial
theorem te6807956801647490918:True:=trivial
theorem te7787861798828133727:True:=trivial
theorem te15241144921190844282:True:=trivial
theorem te13824091912579889922:True:=trivial
theorem te5339688184709505552:True:=trivial
theorem te4156779317105104350:True:=trivial
theorem te370691928653129906:True:=trivial
theorem te11085166425290441899:True:=trivial
theorem te6254610021053171818:True:=trivial
theorem te17595189394184639031:True:=trivial
theorem te17279474360411443468:True:=trivial
theorem te2068593014582223039:True:=trivial
theorem te13080178631652194496:True:=trivial
theorem te5730080804411386275:True:=trivial
theorem te17952345677683128997:True:=trivial
theorem te1026748107610963603:True:=trivial
theorem te1401559937356775921:True:=trivial
theorem te4309057075418767519:True:=trivial
theorem te16570315471934821615:True:=trivial
theorem te17026579858590611480:True:=trivial
theorem te14665966226873987048:True:=trivial
theorem te16267874116014590350:True:=trivial
theorem te2955233374603862267:True:=trivial
theorem te11303277219831227252:True:=trivial
theorem te9677952743673836936:True:=trivial
theorem te4430410053921849461:True:=trivial
theorem te2087878072518727994:True:=trivial
theorem te5597178779061407479:True:=trivial
theorem te13824605221681882732:True:=trivial
theorem te5116555905741508951:True:=trivial
theorem te13180167336931719783:True:=trivial
theorem te2649184478203241229:True:=trivial
theorem te7873774413892484782:True:=trivial
theorem te15726449457255619034:True:=trivial
theorem te14974973360755614059:True:=trivial
theorem te17157787444302135709:True:=trivial
theorem te1241377786481742641:True:=trivial
theorem te18235137521059547900:True:=trivial
theorem te18243973264014730474:True:=trivial
theorem te9936709844954346751:True:=trivial
theorem te774025798312725116:True:=trivial
theorem te6440503962589667609:True:=trivial
theorem te17563605811128692425:True:=trivial
theorem te2814564273969731696:True:=trivial
theorem te13089205797438322371:True:=trivial
theorem te14909580380536207109:True:=trivial
theorem te10094314491406038523:True:=trivial
theorem te3680211795235947128:True:=trivial
theorem te4200708941520065380:True:=trivial
theorem te3560399549868651277:True:=trivial
theorem te2853871535053082248:True:=trivial
theorem te4075785220041939796:True:=trivial
theorem te3135053096083070608:True:=trivial
theorem te16573127892435336326:True:=trivial
theorem te4327931554756048571:True:=trivial
theorem te1696926153595417070:True:=trivial
theorem te6876737960920887483:True:=trivial
theorem te1970586145808401846:True:=trivial
theorem te17987173524294157678:True:=trivial
theorem te17248055049190879233:True:=trivial
theorem te12812261838328647414:True:=trivial
theorem te9972288112247677683:True:=trivial
theorem te12574054239475404751:True:=trivial
theorem te15894247335184418289:True:=trivial
theorem te18007694605170538010:True:=trivial
end PySem.W.Fast
open PySem PySem.W PyProof.Rows
set_option maxRecDepth 100000 in
set_option maxHeartbeats 0 in
theorem PySem.Challenge.cw_gridframe_k39_refusals_stand_apart_holds : PySem.Challenge.rw_gridframe_k39_refusals_stand_apart.Holds := by
  w_on; o_law; k_head; (case hw => w_witness2)
  k_fill
  refine KL.walk (l := PySem.Challenge.rw_gridframe_k39_refusals_stand_apart) rfl rfl (fun w h Y => PySem.W.kIn_of Y) ?F
  case F =>
    intro w mg fa h KX G hmg
    refine' KL.all_ok KX G hmg ?a0 ?a1 ?a2 ?a3 ?a4 ?a5 ?a6 ?a7 ?a8 ?a9 ?a10 ?a11 ?a12 ?a13 ?a14 ?a15 ?a16 ?a17 ?a18 ?a19 ?a20 ?a21 ?a22 ?a23 ?a24 ?a25 ?a26 ?a27 ?a28 ?z0 ?z1 ?z2 ?z3 ?z4 ?z5 ?z6 ?z7 ?z8 ?z9 ?z10 ?z11 ?z12 ?z13 ?z14 ?z15 ?z16 ?z17 ?y0 ?e0 ?FB0 ?q0 ?e1 ?FB1 ?q1 ?e2 ?FB2 ?q2 ?e3 ?FB3 ?q3 ?e4 ?FB4 ?q4 ?j0 ?j1 ?j2 ?f0 ?f1 ?f2 ?f3 ?f4 ?f5 ?f6 ?f7 ?f8 ?f9 ?f10 ?f11 ?f12 ?f13 ?f14 ?f15 ?f16 ?f17 ?f18 ?f19 ?f20 ?f21 ?f22 ?f23 ?f24 ?f25 ?f26 ?f27 ?f28 ?f29 ?f30 ?f31 ?f32 ?f33 ?f34 ?f35 ?f36 ?f37 ?f38 ?f39 ?f40 ?f41 ?f42 ?f43 ?f44 ?f45 ?f46 ?f47 ?f48 ?f49 ?f50 ?f51 ?f52 ?f53 ?f54 ?f55 ?f56 ?f57 ?f58 ?f59 ?f60 ?f61 ?f62
    (case a0 => refine' L2.at0_mk ?na0 ?lk0 ?co0 ?kp0; (case na0 => k_is); (case lk0 => k_is); (case co0 => k_is); (case kp0 => k_is))
    (case a1 => refine' L2.at0_mk ?na1 ?lk1 ?co1 ?kp1; (case na1 => k_is); (case lk1 => k_is); (case co1 => k_is); (case kp1 => k_is))
    (case a2 => refine' L2.at0_mk ?na2 ?lk2 ?co2 ?kp2; (case na2 => k_is); (case lk2 => k_is); (case co2 => k_is); (case kp2 => k_is))
    (case a3 => refine' L2.at0_mk ?na3 ?lk3 ?co3 ?kp3; (case na3 => k_is); (case lk3 => k_is); (case co3 => k_is); (case kp3 => k_is))
    (case a4 => refine' L2.at0_mk ?na4 ?lk4 ?co4 ?kp4; (case na4 => k_is); (case lk4 => k_is); (case co4 => k_is); (case kp4 => k_is))
    (case a5 => refine' L2.at0_mk ?na5 ?lk5 ?co5 ?kp5; (case na5 => k_is); (case lk5 => k_is); (case co5 => k_is); (case kp5 => k_is))
    (case a6 => refine' L2.at0_mk ?na6 ?lk6 ?co6 ?kp6; (case na6 => k_is); (case lk6 => k_is); (case co6 => k_is); (case kp6 => k_is))
    (case a7 => refine' L2.at0_mk ?na7 ?lk7 ?co7 ?kp7; (case na7 => k_is); (case lk7 => k_is); (case co7 => k_is); (case kp7 => k_is))
    (case a8 => refine' L2.at0_mk ?na8 ?lk8 ?co8 ?kp8; (case na8 => k_is); (case lk8 => k_is); (case co8 => k_is); (case kp8 => k_is))
    (case a9 => refine' L2.at0_mk ?na9 ?lk9 ?co9 ?kp9; (case na9 => k_is); (case lk9 => k_is); (case co9 => k_is); (case kp9 => k_is))
    (case a10 => refine' L2.at0_mk ?na10 ?lk10 ?co10 ?kp10; (case na10 => k_is); (case lk10 => k_is); (case co10 => k_is); (case kp10 => k_is))
    (case a11 => refine' L2.at0_mk ?na11 ?lk11 ?co11 ?kp11; (case na11 => k_is); (case lk11 => k_is); (case co11 => k_is); (case kp11 => k_is))
    (case a12 => refine' L2.at0_mk ?na12 ?lk12 ?co12 ?kp12; (case na12 => k_is); (case lk12 => k_is); (case co12 => k_is); (case kp12 => k_is))
    (case a13 => refine' L2.at0_mk ?na13 ?lk13 ?co13 ?kp13; (case na13 => k_is); (case lk13 => k_is); (case co13 => k_is); (case kp13 => k_is))
    (case a14 => refine' L2.at0_mk ?na14 ?lk14 ?co14 ?kp14; (case na14 => k_is); (case lk14 => k_is); (case co14 => k_is); (case kp14 => k_is))
    (case a15 => refine' L2.at0_mk ?na15 ?lk15 ?co15 ?kp15; (case na15 => k_is); (case lk15 => k_is); (case co15 => k_is); (case kp15 => k_is))
    (case a16 => refine' L2.at0_mk ?na16 ?lk16 ?co16 ?kp16; (case na16 => k_is); (case lk16 => k_is); (case co16 => k_is); (case kp16 => k_is))
    (case a17 => refine' L2.at0_mk ?na17 ?lk17 ?co17 ?kp17; (case na17 => k_is); (case lk17 => k_is); (case co17 => k_is); (case kp17 => k_is))
    (case a18 => refine' L2.at0_mk ?na18 ?lk18 ?co18 ?kp18; (case na18 => k_is); (case lk18 => k_is); (case co18 => k_is); (case kp18 => k_is))
    (case a19 => refine' L2.at0_mk ?na19 ?lk19 ?co19 ?kp19; (case na19 => k_is); (case lk19 => k_is); (case co19 => k_is); (case kp19 => k_is))
    (case a20 => refine' L2.at0_mk ?na20 ?lk20 ?co20 ?kp20; (case na20 => k_is); (case lk20 => k_is); (case co20 => k_is); (case kp20 => k_is))
    (case a21 => refine' L2.at0_mk ?na21 ?lk21 ?co21 ?kp21; (case na21 => k_is); (case lk21 => k_is); (case co21 => k_is); (case kp21 => k_is))
    (case a22 => refine' L2.at0_mk ?na22 ?lk22 ?co22 ?kp22; (case na22 => k_is); (case lk22 => k_is); (case co22 => k_is); (case kp22 => k_is))
    (case a23 => refine' L2.at0_mk ?na23 ?lk23 ?co23 ?kp23; (case na23 => k_is); (case lk23 => k_is); (case co23 => k_is); (case kp23 => k_is))
    (case a24 => refine' L2.at0_mk ?na24 ?lk24 ?co24 ?kp24; (case na24 => k_is); (case lk24 => k_is); (case co24 => k_is); (case kp24 => k_is))
    (case a25 => refine' L2.at0_mk ?na25 ?lk25 ?co25 ?kp25; (case na25 => k_is); (case lk25 => k_is); (case co25 => k_is); (case kp25 => k_is))
    (case a26 => refine' L2.at0_mk ?na26 ?lk26 ?co26 ?kp26; (case na26 => k_is); (case lk26 => k_is); (case co26 => k_is); (case kp26 => k_is))
    (case a27 => refine' L2.at0_mk ?na27 ?lk27 ?co27 ?kp27; (case na27 => k_is); (case lk27 => k_is); (case co27 => k_is); (case kp27 => k_is))
    (case a28 => refine' L2.at0_mk ?na28 ?lk28 ?co28 ?kp28; (case na28 => k_is); (case lk28 => k_is); (case co28 => k_is); (case kp28 => k_is))
    (case z0 => k_is); (case z1 => k_is); (case z2 => k_is); (case z3 => k_is); (case z4 => k_is); (case z5 => k_is); (case z6 => k_is); (case z7 => k_is); (case z8 => k_is); (case z9 => k_is); (case z10 => k_is); (case z11 => k_is); (case z12 => k_is); (case z13 => k_is); (case z14 => k_is); (case z15 => k_is); (case z16 => k_is); (case z17 => k_is)
    (case y0 => k_is)
    (case e0 => k_is); (case FB0 => exact PySem.F.excBase_ValueError); (case q0 => k_exc)
    (case e1 => k_is); (case FB1 => exact PySem.F.excBase_ValueError); (case q1 => k_exc)
    (case e2 => k_is); (case FB2 => exact PySem.F.excBase_ValueError); (case q2 => k_exc)
    (case e3 => k_is); (case FB3 => exact PySem.F.excBase_ValueError); (case q3 => k_exc)
    (case e4 => k_is); (case FB4 => exact PySem.F.excBase_ValueError); (case q4 => k_exc)
    (case j0 => refine' L2.jx_mk ?j0e ?j0c ?j0i ?j0q ?j0l ?j0co ?j0kp ?j0k1 ?j0k2 ?j0k3 ?j0k4 ?j0k5 ?j0n ?j0m ?j0g0 ?j0g1 ?j0g2 ?j0g3; (case j0e => k_is); (case j0c => k_is); (case j0i => k_is); (case j0q => kernel_rfl); (case j0l => k_is); (case j0co => k_is); (case j0kp => k_is); (case j0k1 => k_is); (case j0k2 => kernel_rfl); (case j0k3 => k_is); (case j0k4 => k_is); (case j0k5 => k_is); (case j0n => k_is); (case j0m => kts_exm); (case j0g0 => k_is); (case j0g1 => k_is); (case j0g2 => k_is); (case j0g3 => k_is))
    (case j1 => refine' L2.jx_mk ?j1e ?j1c ?j1i ?j1q ?j1l ?j1co ?j1kp ?j1k1 ?j1k2 ?j1k3 ?j1k4 ?j1k5 ?j1n ?j1m ?j1g0 ?j1g1 ?j1g2 ?j1g3; (case j1e => k_is); (case j1c => k_is); (case j1i => k_is); (case j1q => kernel_rfl); (case j1l => k_is); (case j1co => k_is); (case j1kp => k_is); (case j1k1 => k_is); (case j1k2 => kernel_rfl); (case j1k3 => k_is); (case j1k4 => k_is); (case j1k5 => k_is); (case j1n => k_is); (case j1m => kts_exm); (case j1g0 => k_is); (case j1g1 => k_is); (case j1g2 => k_is); (case j1g3 => k_is))
    (case j2 => refine' L2.jx_mk ?j2e ?j2c ?j2i ?j2q ?j2l ?j2co ?j2kp ?j2k1 ?j2k2 ?j2k3 ?j2k4 ?j2k5 ?j2n ?j2m ?j2g0 ?j2g1 ?j2g2 ?j2g3; (case j2e => k_is); (case j2c => k_is); (case j2i => k_is); (case j2q => kernel_rfl); (case j2l => k_is); (case j2co => k_is); (case j2kp => k_is); (case j2k1 => k_is); (case j2k2 => kernel_rfl); (case j2k3 => k_is); (case j2k4 => k_is); (case j2k5 => k_is); (case j2n => k_is); (case j2m => kts_exm); (case j2g0 => k_is); (case j2g1 => k_is); (case j2g2 => k_is); (case j2g3 => k_is))
    (case f0 => refine' L2.ClsK.mk ?c1 ?c2 ?c3 ?c4 ?c5 ?c6 ?c7 ?c8; (case c1 => k_is); (case c2 => k_is); (case c3 => kernel_rfl); (case c4 => k_is); (case c5 => k_is); (case c6 => k_is); (case c7 => k_is); (case c8 => k_is))
    (case f1 => refine' L2.ClsK.mk ?c1 ?c2 ?c3 ?c4 ?c5 ?c6 ?c7 ?c8; (case c1 => k_is); (case c2 => k_is); (case c3 => kernel_rfl); (case c4 => k_is); (case c5 => k_is); (case c6 => k_is); (case c7 => k_is); (case c8 => k_is))
    (case f2 => refine' L2.ClsK.mk ?c1 ?c2 ?c3 ?c4 ?c5 ?c6 ?c7 ?c8; (case c1 => k_is); (case c2 => k_is); (case c3 => kernel_rfl); (case c4 => k_is); (case c5 => k_is); (case c6 => k_is); (case c7 => k_is); (case c8 => k_is))
    (case f3 => refine' L2.ClsK.mk ?c1 ?c2 ?c3 ?c4 ?c5 ?c6 ?c7 ?c8; (case c1 => k_is); (case c2 => k_is); (case c3 => kernel_rfl); (case c4 => k_is); (case c5 => k_is); (case c6 => k_is); (case c7 => k_is); (case c8 => k_is))
    (case f4 => refine' L2.ClsK.mk ?c1 ?c2 ?c3 ?c4 ?c5 ?c6 ?c7 ?c8; (case c1 => k_is); (case c2 => k_is); (case c3 => kernel_rfl); (case c4 => k_is); (case c5 => k_is); (case c6 => k_is); (case c7 => k_is); (case c8 => k_is))
    (case f5 => refine' L2.ClsK.mk ?c1 ?c2 ?c3 ?c4 ?c5 ?c6 ?c7 ?c8; (case c1 => k_is); (case c2 => k_is); (case c3 => kernel_rfl); (case c4 => k_is); (case c5 => k_is); (case c6 => k_is); (case c7 => k_is); (case c8 => k_is))
    (case f6 => refine' L2.ClsK.mk ?c1 ?c2 ?c3 ?c4 ?c5 ?c6 ?c7 ?c8; (case c1 => k_is); (case c2 => k_is); (case c3 => kernel_rfl); (case c4 => k_is); (case c5 => k_is); (case c6 => k_is); (case c7 => k_is); (case c8 => k_is))
    (case f7 => kts_exm)
    (case f8 => kts_exm)
    (case f9 => kts_exm)
    (case f10 => kts_exm)
    (case f11 => kts_exm)
    (case f12 => kts_exm)
    (case f13 => kts_exm)
    (case f14 => kit_is)
    (case f15 => kit_is)
    (case f16 => kit_is)
    (case f17 => kit_is)
    (case f18 => kit_is)
    (case f19 => kit_is)
    (case f20 => kit_is)
    (case f21 => kit_is)
    (case f22 => kit_is)
    (case f23 => kit_is)
    (case f24 => kit_is)
    (case f25 => kit_is)
    (case f26 => kit_is)
    (case f27 => kit_is)
    (case f28 => kit_is)
    (case f29 => kit_is)
    (case f30 => kit_is)
    (case f31 => kit_is)
    (case f32 => kit_is)
    (case f33 => kit_is)
    (case f34 => kit_is)
    (case f35 => kit_is)
    (case f36 => kit_is)
    (case f37 => kit_is)
    (case f38 => kit_is)
    (case f39 => kit_is)
    (case f40 => kit_is)
    (case f41 => kit_is)
    (case f42 => kit_is)
    (case f43 => kit_is)
    (case f44 => kit_is)
    (case f45 => kit_is)
    (case f46 => kit_is)
    (case f47 => kit_is)
    (case f48 => kit_is)
    (case f49 => kit_is)
    (case f50 => kit_is)
    (case f51 => kit_is)
    (case f52 => kit_is)
    (case f53 => kit_is)
    (case f54 => kit_is)
    (case f55 => kit_is)
    (case f56 => kit_is)
    (case f57 => kit_is)
    (case f58 => kit_is)
    (case f59 => kit_is)
    (case f60 => kit_is)
    (case f61 => kit_is)
    (case f62 => kit_is)
#print axioms PySem.Challenge.cw_gridframe_k39_refusals_stand_apart_holds

