import PyProof.Rows.All
import Wide.All
import OpenK.AllK
import Wide.FinOn
import Lean
import PyProof.EqAt
import PyProof.EqKinds
import PyProof.TupleCall
import PyProof.NeKinds
import PyProof.Rows.SortShellK
import KE.KSortTup
import PyProof.EnumStmt
import PyProof.EnumMake
import PyProof.EnumFor
import PyProof.FactsAll.tuple
import PyProof.FactsAll.int
import PyProof.ListMulRoad
import PyProof.ZipIter
import PyProof.ListNew
import KE.LcSums
import KE.KRevIter
import PyProof.ListRange
import PyProof.Rows.SumAny
import KE.KMinKey
import PyProof.StrBlockG
import PyProof.FitsReplace
import PyProof.Draws
import PyProof.StrCalls
import KE.KIntText
import KE.KxText
import PyProof.CallStr
import KE.KSortKey
import PyProof.StationsW
import KE.KTryOn
import PyProof.ExcInit
import PyProof.FString5
import PyProof.InstStoreFacts
import PyProof.ExcAttrAll.ValueError
import PyProof.StrLawsWords2
import PyProof.StrCalls2
import PyProof.SliceStr2
import PyProof.StrBlockI
import PyProof.StrLawsIdx
import PyProof.StrLawsNeg
import PyProof.StrOps2
import PyProof.Rows.StrNews2
import PyProof.StrCalls6
import PyProof.ToksMono
import PyProof.StrLawsReplace
import PyProof.Rows.MatchSeqLen
import PyProof.NsDelKeeps
import PySem.Challenge.RW_gridframe_k27_spoilt_plain_texts
set_option Elab.async false
set_option linter.all false
set_option maxRecDepth 100000
namespace L2
open PySem PySem.Spec PyProof.Rows
noncomputable abbrev Key := Sum Int Str
noncomputable def Wr : Key -> Value -> Bool
 | .inl k, v => Value.isInt k v
 | .inr x, v => Value.isStrOf x v
noncomputable def zd3 (w : World) : Key -> Int
 | .inl k => hashInt k
 | .inr x => hashStr w x
theorem jk : ∀ {k : Key} {v : Value}, Wr k v = true -> (∃ i t, k = Sum.inl i /\ v = Value.int i t) \/ (∃ x t, k = Sum.inr x /\ v = Value.str x t)
 | .inl i, v, h => by
  obtain ⟨t, e⟩ := Value.isInt_shape (k := i) (v := v) h
  exact .inl ⟨i, t, rfl, e⟩
 | .inr x, v, h => by
  obtain ⟨t, e⟩ := Value.isStrOf_shape (x := x) (v := v) h
  exact .inr ⟨x, t, rfl, e⟩
theorem X7 (i : Int) (t : Tok) : Wr (.inl i) (.int i t) = true := by simp [Wr, Value.isInt]
theorem qa9 (x : Str) (t : Tok) : Wr (.inr x) (.str x t) = true := by simp [Wr, Value.isStrOf]
theorem qs9 (a b : Int) : decide ((Sum.inl a : Key) = Sum.inl b) = (a == b) := by
 by_cases e : a = b
 ·subst e; simp
 ·have h : ¬ (Sum.inl a : Key) = Sum.inl b := fun q => e (Sum.inl.inj q)
  rw [decide_eq_false h]
  exact (beq_eq_false_iff_ne.mpr e).symm
theorem qs4 (a b : Str) : decide ((Sum.inr a : Key) = Sum.inr b) = decide (a = b) := by
 by_cases e : a = b
 ·subst e; simp
 ·have h : ¬ (Sum.inr a : Key) = Sum.inr b := fun q => e (Sum.inr.inj q)
  rw [decide_eq_false h, decide_eq_false e]
theorem qu2 (a : Int) (b : Str) : decide ((Sum.inl a : Key) = Sum.inr b) = false := decide_eq_false (fun q => nomatch q)
theorem qv4 (a : Str) (b : Int) : decide ((Sum.inr a : Key) = Sum.inl b) = false := decide_eq_false (fun q => nomatch q)
noncomputable def yl (prog : Program) (w : World) : PySem.KeyKind prog w Key where
  is := Wr
  hash := zd3 w
  inj := fun v a b ha hb => by
    rcases jk ha with ⟨i, t, rfl, rfl⟩ | ⟨x, t, rfl, rfl⟩
    · rcases jk hb with ⟨j, u, rfl, e⟩ | ⟨y, u, rfl, e⟩
      · injection e with e1 _; rw [e1]
      · exact nomatch e
    · rcases jk hb with ⟨j, u, rfl, e⟩ | ⟨y, u, rfl, e⟩
      · exact nomatch e
      · injection e with e1 _; rw [e1]
  byValue := fun k v h => by
    rcases jk h with ⟨i, t, rfl, rfl⟩ | ⟨x, t, rfl, rfl⟩ <;> rfl
  pyHash := fun hv h => by
    rcases jk hv with ⟨i, t, rfl, rfl⟩ | ⟨x, t, rfl, rfl⟩
    · exact wpAny_pyHash_int h
    · exact wpAny_pyHash_str h
  eqBool := fun hu hv h => by
    rcases jk hu with ⟨i, t, rfl, rfl⟩ | ⟨x, t, rfl, rfl⟩
    · rcases jk hv with ⟨j, u, rfl, rfl⟩ | ⟨y, u, rfl, rfl⟩
      · rw [qs9] at h; exact wpAny_eqBool_int h
      · rw [qu2] at h; exact SeqAt.EqAt.int_str i t y u _ _ _ _ h
    · rcases jk hv with ⟨j, u, rfl, rfl⟩ | ⟨y, u, rfl, rfl⟩
      · rw [qv4] at h; exact SeqAt.EqAt.str_int x t j u _ _ _ _ h
      · rw [qs4] at h; exact wpAny_eqBool_str h
  «strs» := fun k x t v h => by
    rcases jk h with ⟨i, u, rfl, e⟩ | ⟨y, u, rfl, e⟩
    · exact nomatch e
    · injection e with e1 _
      subst e1
      cases v <;> rfl
theorem Qv (prog : Program) (w : World) (i : Int) (t : Tok) : (yl prog w).is (.inl i) (.int i t) = true := X7 i t
theorem T7 (prog : Program) (w : World) (x : Str) (t : Tok) : (yl prog w).is (.inr x) (.str x t) = true := qa9 x t
end L2
namespace L2
open PySem PySem.Spec PyProof.Rows
inductive V where
  | non | bl (b : Bool) | int (i : Int) | str (x : Str) | byt (b : Array UInt8) | flt (b : UInt64) | ref (a : Addr) | ty (n : String)
  deriving DecidableEq
noncomputable def RelV : V -> Value -> Prop
 | .non, u => u = Value.none
 | .bl b, u => u = Value.bool b
 | .int i, u => ∃ t, u = Value.int i t
 | .str x, u => ∃ t, u = Value.str x t
 | .byt b, u => ∃ t, u = Value.bytes b t
 | .flt b, u => ∃ t, u = Value.float b t
 | .ref a, u => u = Value.ref a
 | .ty n, u => u = Value.type n
noncomputable abbrev Vals : List V -> List Value -> Prop := Paired RelV
theorem Vals.length {xs : List V} {us : List Value} (r : Vals xs us) : xs.length = us.length := Paired.length r
theorem Vals.get : ∀ {xs : List V} {us : List Value} {i : Nat} {x : V}, Vals xs us -> xs[i]? = some x -> ∃ u, us[i]? = some u /\ RelV x u
 | _, _, _, _, .nil, e => by simp at e
 | _, _, 0, _, .cons r _, e => by simp at e; subst e; exact ⟨_, rfl, r⟩
 | _, _, i + 1, x, .cons _ t, e => by
  obtain ⟨u, h1, h2⟩ := Vals.get (i := i) (x := x) t (by simpa using e)
  exact ⟨u, by simpa using h1, h2⟩
theorem Vals.append : ∀ {xs ys : List V} {us ws : List Value}, Vals xs us -> Vals ys ws -> Vals (xs ++ ys) (us ++ ws)
 | _, _, _, _, .nil, s => s
 | _, _, _, _, .cons r t, s => .cons r (Vals.append t s)
theorem Vals.take : ∀ {xs : List V} {us : List Value} (n : Nat), Vals xs us -> Vals (xs.take n) (us.take n)
 | _, _, 0, _ => .nil
 | _, _, _ + 1, .nil => .nil
 | _, _, n + 1, .cons r t => .cons r (Vals.take n t)
theorem Vals.drop : ∀ {xs : List V} {us : List Value} (n : Nat), Vals xs us -> Vals (xs.drop n) (us.drop n)
 | _, _, 0, r => r
 | _, _, _ + 1, .nil => .nil
 | _, _, n + 1, .cons _ t => Vals.drop n t
noncomputable def RelO : Option V -> Option Value -> Prop
 | some v, some u => RelV v u
 | none, none => True
 | _, _ => False
noncomputable def KV {κ : Type} : List (κ × V) -> List (κ × Value) -> Prop := Paired fun (p : κ × V) (q : κ × Value) => p.1 = q.1 /\ RelV p.2 q.2
noncomputable def kV : Key -> V
 | .inl i => .int i
 | .inr x => .str x
inductive HO where
    | lst (xs : List V)
    | tup (xs : List V)
    | dK (kvs : List (Key × V)) | dT (kvs : List (List Key × V))
    | set (S : Int -> Bool) (n : Nat)
    | ins (C dx : Addr) (fs : List (Str × V))
    | own (x : Addr)
    | xd (fs : List (Str × V))
    | met (f x : Addr)
    | rng (lo hi : Int)
    | frz (o : Obj) (u : HO)
    | tbl (ps : Array Value)
    | ext (φ : Heap -> Prop)
noncomputable abbrev Hp := Addr -> Option HO
noncomputable def upd (H : Hp) (a : Addr) (o : HO) : Hp := fun b => if b = a then some o else H b
theorem qd {H : Hp} {a : Addr} {o : HO} : upd H a o a = some o := by unfold upd; rw [if_pos rfl]
theorem qt {H : Hp} {a b : Addr} {o : HO} (h : b ≠ a) : upd H a o b = H b := by unfold upd; rw [if_neg h]
theorem Lw {H : Hp} {a b : Addr} {o u : HO} (h : H a = some o) (h' : H b = some u) (d : o ≠ u) : a ≠ b := by
 intro e; subst e; rw [h] at h'; exact d (Option.some.inj h')
theorem qz {H : Hp} {a b : Addr} {o : HO} (h : H a = some o) (h' : H b = none) : a ≠ b := by
 intro e; subst e; rw [h] at h'; cases h'
section
variable (P : Program) (w : World)
noncomputable def ObjOk (H : Hp) (h : Heap) (a : Addr) : HO -> Prop
 | .lst xs => xs.length <= sizeLine /\ ∃ (its : List Value) (n : Nat), Vals xs its /\ h.get? a = some { cls := .type "list", data := .seq its.toArray n }
 | .tup xs => xs.length <= sizeLine /\ ∃ its : List Value, Vals xs its /\ IsTup h a its.toArray
 | .dK kvs => kvs.length <= sizeLine /\ (a == sysModules) = false /\ ∃ vs, KV kvs vs /\ h.DictOf (yl P w) a vs
 | .dT kvs => kvs.length <= sizeLine /\ (a == sysModules) = false /\ ∃ xs : List (List Key × Addr × Value),
   Paired (fun (p : List Key × V) (q : List Key × Addr × Value) => p.1 = q.1 /\ H q.2.1 = some (.tup (p.1.map kV)) /\ RelV p.2 q.2.2) kvs xs /\
   ∃ o es ep, h.get? a = some o /\ o.ExactDict /\ o.data = .dict es ep /\ es.toList = xs.map (entryOfKey (tupleKind (yl P w))) /\ (xs.map (·.1)).Nodup
 | .set S n => h.SetOf (intKind P w) a S n
 | .ins C dx fs => H dx = some (.own a) /\ fs.length <= 1000 /\ dx ≠ a /\ h.get? a = some (PySem.W.instObj C dx) /\
   ∃ mA, h.Ns1 dx mA /\ (∀ f, RelO (fs.lookup f) (mA f)) /\ PySem.Within mA (fs.map (·.1))
 | .own _ => ∃ o, h.get? a = some o
 | .xd fs => ∃ mA, h.Ns1 a mA /\ ∀ f, RelO (fs.lookup f) (mA f)
 | .rng lo hi => ∃ t u v, h.get? a = some { cls := .type "range", data := .fields #[.int lo t, .int hi u, .int 1 v] }
 | .frz o u => h.get? a = some o /\ ObjOk H h a u
 | .tbl ps => h.get? a = some { cls := .none, data := .fields ps }
 | .met f x => h.get? a = some (PySem.W.methodObj (.ref f) (.ref x))
 | .ext φ => φ h /\ (∃ o, h.get? a = some o) /\ ∀ h1 h2 : Heap, φ h1 -> (∀ o, h1.get? a = some o -> h2.get? a = some o) -> φ h2
noncomputable def HOk (H : Hp) (h : Heap) : Prop := ∀ a o, H a = some o -> ObjOk P w H h a o
end
section
variable {P : Program} {w : World} {H H' : Hp} {h h' : Heap} {a : Addr} {o : HO}
theorem ObjOk.lt (x : ObjOk P w H h a o) : a < h.objs.size := by
 cases o with
 | lst xs => obtain ⟨_, _, _, _, e⟩ := x; exact Heap.lt_size e
 | tup xs => obtain ⟨_, _, _, p⟩ := x; exact p.lt
 | dK kvs => obtain ⟨_, _, _, _, o, _, _, e, _⟩ := x; exact Heap.lt_size e
 | dT kvs => obtain ⟨_, _, _, _, o, _, _, e, _⟩ := x; exact Heap.lt_size e
 | set S n => obtain ⟨o, _, _, _, e, _⟩ := x; exact Heap.lt_size e
 | ins C dx fs => obtain ⟨_, _, _, e, _⟩ := x; exact Heap.lt_size e
 | own y => obtain ⟨_, e⟩ := x; exact Heap.lt_size e
 | xd fs => obtain ⟨_, ⟨_, _, _, e, _⟩, _⟩ := x; exact Heap.lt_size e
 | rng lo hi => obtain ⟨_, _, _, e⟩ := x; exact Heap.lt_size e
 | frz ob u => obtain ⟨e, _⟩ := x; exact Heap.lt_size e
 | tbl ps => exact Heap.lt_size (show h.get? a = some _ from x)
 | met f y => exact Heap.lt_size (show h.get? a = some _ from x)
 | ext φ => obtain ⟨_, ⟨_, e⟩, _⟩ := x; exact Heap.lt_size e
theorem Paired.mapP {α β : Type} {F G : α -> β -> Prop} : ∀ {l₁ : List α} {l₂ : List β}, Paired F l₁ l₂ -> (∀ a b, F a b -> G a b) -> Paired G l₁ l₂
 | _, _, .nil, _ => .nil
 | _, _, .cons r t, f => .cons (f _ _ r) (Paired.mapP t f)
theorem ObjOk.stay (x : ObjOk P w H h a o) (k : ∀ b u, (b = a \/ H b = some (.own a)) -> h.get? b = some u -> h'.get? b = some u)
  (ho : ∀ b, H b = some (.own a) -> H' b = some (.own a)) (ht : ∀ b xs, H b = some (.tup xs) -> H' b = some (.tup xs)) : ObjOk P w H' h' a o := by
 induction o with
 | lst xs => obtain ⟨z, its, n, r, e⟩ := x; exact ⟨z, its, n, r, k _ _ (.inl rfl) e⟩
 | tup xs => obtain ⟨z, its, r, ob, e, c⟩ := x; exact ⟨z, its, r, ob, k _ _ (.inl rfl) e, c⟩
 | dK kvs => obtain ⟨z, y, vs, r, ob, es, ep, e, c⟩ := x; exact ⟨z, y, vs, r, ob, es, ep, k _ _ (.inl rfl) e, c⟩
 | dT kvs =>
  obtain ⟨z, y, xs, r, ob, es, ep, e, c⟩ := x
  exact ⟨z, y, xs, Paired.mapP r fun p q z => ⟨z.1, ht _ _ z.2.1, z.2.2⟩, ob, es, ep, k _ _ (.inl rfl) e, c⟩
 | set S n => obtain ⟨ob, es, ep, t, e, c⟩ := x; exact ⟨ob, es, ep, t, k _ _ (.inl rfl) e, c⟩
 | ins C dx fs =>
  obtain ⟨d, z, ne, e, mA, ⟨od, es, ep, e2, c⟩, r⟩ := x
  exact ⟨ho _ d, z, ne, k _ _ (.inl rfl) e, mA, ⟨od, es, ep, k _ _ (.inr d) e2, c⟩, r⟩
 | own y => obtain ⟨ob, e⟩ := x; exact ⟨ob, k _ _ (.inl rfl) e⟩
 | xd fs => obtain ⟨mA, ⟨od, es, ep, e, c⟩, r⟩ := x; exact ⟨mA, ⟨od, es, ep, k _ _ (.inl rfl) e, c⟩, r⟩
 | rng lo hi => obtain ⟨t, u, v, e⟩ := x; exact ⟨t, u, v, k _ _ (.inl rfl) e⟩
 | frz ob u ih => obtain ⟨e, q⟩ := x; exact ⟨k _ _ (.inl rfl) e, ih q⟩
 | tbl ps =>
  have e : h.get? a = some { cls := .none, data := .fields ps } := x
  show h'.get? a = some { cls := .none, data := .fields ps }
  exact k a _ (.inl rfl) e
 | met f y =>
  have e : h.get? a = some (PySem.W.methodObj (.ref f) (.ref y)) := x
  show h'.get? a = some (PySem.W.methodObj (.ref f) (.ref y))
  exact k a _ (.inl rfl) e
 | ext φ => obtain ⟨p, ⟨o, e⟩, st⟩ := x; exact ⟨st _ _ p fun o q => k _ _ (.inl rfl) q, ⟨o, k _ _ (.inl rfl) e⟩, st⟩
theorem HOk.lt (x : HOk P w H h) (e : H a = some o) : a < h.objs.size := (x a o e).lt
theorem HOk.fresh (x : HOk P w H h) (e : h.objs.size <= a) : H a = none := by
 cases q : H a with
 | none => rfl
 | some u => exact absurd (Nat.lt_of_lt_of_le (x.lt q) e) (Nat.lt_irrefl _)
theorem HOk.kept (x : HOk P w H h) (k : ∀ b u, h.get? b = some u -> h'.get? b = some u) : HOk P w H h' := fun a o e =>
 (x a o e).stay (fun b u _ q => k b u q) (fun _ q => q) fun _ _ q => q
theorem HOk.laid (x : HOk P w H h) (k : ∀ b u, h.get? b = some u -> h'.get? b = some u) (hp : h.objs.size <= a) (new : ObjOk P w (upd H a o) h' a o) : HOk P w (upd H a o) h' := fun b u e => by
 have hn := x.fresh hp
 by_cases hb : b = a
 ·subst hb; rw [qd] at e; cases e; exact new
 ·rw [qt hb] at e
  exact (x b u e).stay (fun c v _ q => k c v q) (fun c q => by rw [qt (qz q hn)]; exact q) fun c xs q => by rw [qt (qz q hn)]; exact q
end
noncomputable def Rd (H : Hp) (a : Addr) (u : HO) : Prop := H a = some u \/ ∃ o, H a = some (.frz o u)
theorem Rd.ok {P : Program} {w : World} {H : Hp} {h : Heap} {a : Addr} {u : HO} (r : Rd H a u) (x : HOk P w H h) : ObjOk P w H h a u := by
 rcases r with r | ⟨o, r⟩
 ·exact x a u r
 ·obtain ⟨_, q⟩ := x a _ r
  exact q
noncomputable def Mut : Option HO -> Prop
 | some (.lst _) => True
 | some (.dK _) => True
 | some (.dT _) => True
 | some (.set _ _) => True
 | some (.ins _ _ _) => True
 | some (.ext _) => True
 | _ => False
section
variable {P : Program} {w : World} {H : Hp} {h h' : Heap} {x e : Addr} {o' : HO}
theorem HOk.write (ok : HOk P w H h) (mu : Mut (H x)) (he : e = x \/ H e = some (.own x)) (k : ∀ b u, b ≠ e -> h.get? b = some u -> h'.get? b = some u) (heo : ∃ u, h'.get? e = some u)
  (new : ObjOk P w (upd H x o') h' x o') : HOk P w (upd H x o') h' := fun b u q => by
 have nown : ∀ c y, H c = some (.own y) -> c ≠ x := fun c y r z => by subst z; rw [r] at mu; exact mu
 have ntup : ∀ c xs, H c = some (.tup xs) -> c ≠ x := fun c xs r z => by subst z; rw [r] at mu; exact mu
 by_cases hb : b = x
 ·subst hb; rw [qd] at q; cases q; exact new
 ·rw [qt hb] at q
  by_cases hbe : b = e
  ·have q' : H b = some (.own x) := by
    rcases he with z | z
    ·exact absurd (hbe.trans z) hb
    ·rw [hbe]; exact z
   rw [q] at q'; cases q'
   obtain ⟨v, hv⟩ := heo
   exact ⟨v, by rw [hbe]; exact hv⟩
  ·refine (ok b u q).stay (fun c v hc r => k c v ?_ r) (fun c r => by rw [qt (nown c b r)]; exact r) fun c xs r => by rw [qt (ntup c xs r)]; exact r
   rcases hc with rfl | hc
   ·exact hbe
   ·rintro rfl
    rcases he with z | z
    ·exact nown c b hc z
    ·rw [hc] at z; cases z; exact hb rfl
end
structure Un (fs ex : List Addr) (H H' : Hp) (h h' : Heap) : Prop where
  keep : ∀ b o, h.get? b = some o -> H b = none -> b ∉ fs -> b ∉ ex -> h'.get? b = some o
  slot : ∀ b o, h.get? b = some o -> H b = none -> b ∈ fs -> b ∉ ex -> ∃ sl, h'.get? b = some { o with slots := sl }
  free : ∀ b o, h.get? b = some o -> H b = none -> b ∉ ex -> H' b = none
  there : ∀ b o, h.get? b = some o -> b ∉ ex -> ∃ o', h'.get? b = some o'
  tups : ∀ b xs, H b = some (.tup xs) -> H' b = some (.tup xs)
  frzs : ∀ b o u, H b = some (.frz o u) -> H' b = some (.frz o u)
  tbls : ∀ b ps, H b = some (.tbl ps) -> ∃ more, H' b = some (.tbl (ps ++ more))
section
variable {fs fs' ex ex' : List Addr} {H H1 H2 : Hp} {h h1 h2 h' : Heap} {a x e : Addr} {o : HO}
theorem Un.any (u : Un fs ex H H1 h h1) {b : Addr} {ob : Obj} (q : h.get? b = some ob) (n : H b = none) (hx : b ∉ ex) : ∃ sl, h1.get? b = some { ob with slots := sl } := by
 by_cases hb : b ∈ fs
 ·exact u.slot b ob q n hb hx
 ·exact ⟨ob.slots, u.keep b ob q n hb hx⟩
theorem Un.kept (k : ∀ b u, h.get? b = some u -> h'.get? b = some u) : Un fs ex H H h h' :=
 ⟨fun b ob q _ _ _ => k b ob q, fun b ob q _ _ _ => ⟨ob.slots, k b ob q⟩, fun _ _ _ n _ => n, fun b ob q _ => ⟨ob, k b ob q⟩, fun _ _ q => q, fun _ _ _ q => q, fun _ ps q => ⟨#[], by rw [q]; simp⟩⟩
theorem Un.refl : Un fs ex H H h h := Un.kept fun _ _ q => q
theorem Un.laid (k : ∀ b u, h.get? b = some u -> h'.get? b = some u) (hp : h.objs.size <= a) (hn : H a = none) : Un fs ex H (upd H a o) h h' where
  keep := fun b u q _ _ _ => k b u q
  slot := fun b u q _ _ _ => ⟨u.slots, k b u q⟩
  free := fun b u q n _ => by rw [qt (Nat.ne_of_lt (Nat.lt_of_lt_of_le (Heap.lt_size q) hp))]; exact n
  there := fun b u q _ => ⟨u, k b u q⟩
  tups := fun b xs q => by rw [qt (qz q hn)]; exact q
  frzs := fun b u xs q => by rw [qt (qz q hn)]; exact q
  tbls := fun b ps q => ⟨#[], by rw [qt (qz q hn), q]; simp⟩
theorem Un.write (mu : Mut (H x)) (he : e = x \/ H e = some (.own x)) (k : ∀ b u, b ≠ e -> h.get? b = some u -> h'.get? b = some u) (heo : ∃ u, h'.get? e = some u) : Un fs ex H (upd H x o) h h' := by
 have hx : ∀ b, H b = none -> b ≠ x := fun b n z => by subst z; rw [n] at mu; exact mu
 have hb : ∀ b, H b = none -> b ≠ e := fun b n z => by
  subst z
  rcases he with r | r
  ·exact hx b n r
  ·rw [n] at r; cases r
 have hm : ∀ b u, H b = some u -> ¬ Mut (some u) -> b ≠ x := fun b u q nm z => by subst z; rw [q] at mu; exact nm mu
 refine ⟨fun b u q n _ _ => k b u (hb b n) q, fun b u q n _ _ => ⟨u.slots, k b u (hb b n) q⟩, fun b u q n _ => by rw [qt (hx b n)]; exact n, fun b u q _ => ?_,
  fun b xs q => by rw [qt (hm b _ q fun z => z)]; exact q, fun b u xs q => by rw [qt (hm b _ q fun z => z)]; exact q, fun b ps q => ⟨#[], by rw [qt (hm b _ q fun z => z), q]; simp⟩⟩
 by_cases hbe : b = e
 ·subst hbe; exact heo
 ·exact ⟨u, k b u hbe q⟩
end
noncomputable def trk (h : Heap) (H : Hp) : List Addr := (List.range h.objs.size).filter fun a => (H a).isSome
noncomputable def qi1 (h : Heap) (H : Hp) : Heap := PySem.W.hideAll h (trk h H)
theorem Zr (h : Heap) (H : Hp) : (qi1 h H).objs.size = h.objs.size := PySem.W.hideAll_size _ _
theorem qf6 {h : Heap} {H : Hp} {b : Addr} {o : Obj} (e : h.get? b = some o) (n : H b = none) : (qi1 h H).get? b = some o :=
 PySem.W.hideAll_get _ e fun hm => by
  have q : (H b).isSome = true := (List.mem_filter.mp hm).2
  rw [n] at q; simp at q
theorem qq1 {h : Heap} {H : Hp} {b : Addr} {o : Obj} (e : (qi1 h H).get? b = some o) : h.get? b = some o /\ H b = none := by
 have e' : h.get? b = some o := PySem.W.of_hideAll (trk h H) e
 refine ⟨e', ?_⟩
 cases q : H b with
 | none => rfl
 | some x =>
  have hm : b ∈ trk h H := List.mem_filter.mpr ⟨List.mem_range.mpr (Heap.lt_size e'), by simp [q]⟩
  have z : (qi1 h H).get? b = none := PySem.W.hideAll_none (trk h H) hm
  rw [z] at e; cases e
end L2
namespace L2
open PySem PySem.Spec PyProof.Rows
structure Mod (K : PySem.W.Frag) (mg : Str -> Option Value) (base : Heap) : Prop where
  kin : K.In base
  glob : base.Ns mainGlobals mg
  blt : ∃ mb, base.Ns builtinsNs mb /\ ∀ x : Str, x ≠ "__name__" -> mb x = bootBuiltins x
  nolimit : base.NoLimit
structure Cx where
  prog : Program
  w : World
  K : PySem.W.Frag
  mg : Str -> Option Value
  base : Heap
  A : Around
  N : List Str
  s₀ : Shared
  H₀ : Hp
  env : Env
  outer : List Env
  stack : List Env
  ex : List Addr
  fn : Str -> Bool
  calm : Bool
  pn : List (Addr × Obj)
  xe : Value -> Shared -> Prop
noncomputable def frs (l : List Env) : List Addr := l.filterMap (·.frame)
noncomputable abbrev Cx.fs (X : Cx) : List Addr := frs X.outer
noncomputable def Vis (sc : Scope) (x : Str) : Prop := sc.names.lookup x = some .local \/ sc.names.lookup x = some .cell \/ sc.names.lookup x = some .free
noncomputable def Loc (sc : Scope) (x : Str) : Prop := sc.names.lookup x = some .local \/ sc.names.lookup x = some .cell
noncomputable def Look (env : Env) (h : Heap) (m : Str -> Option Value) (x : Str) (u : Value) : Prop :=
 (env.kindOf x = some .local /\ m x = some u) \/ ((env.kindOf x = some .cell \/ env.kindOf x = some .free) /\ ∃ c, env.cells.lookup x = some c /\ h.IsCell c (some u))
structure Cx.Ok (X : Cx) : Prop where
  mod : Mod X.K X.mg X.base
  kind : X.env.scope.kind = .function
  glob : X.env.globals = mainGlobals
  blt : X.env.builtins = builtinsNs
  above : X.s₀.heap.objs.size <= X.env.locals
  inj : ∀ x y c, X.env.cells.lookup x = some c -> X.env.cells.lookup y = some c -> x = y
  has : ∀ x, (X.env.kindOf x = some .cell \/ X.env.kindOf x = some .free) -> ∃ c, X.env.cells.lookup x = some c
  cab : ∀ x c, X.fn x = true -> X.env.cells.lookup x = some c -> X.s₀.heap.objs.size <= c
  hd : X.calm = true -> X.A.handled = none
  frames : X.A.frames = some X.stack
  stk : X.stack = X.outer \/ (X.stack = X.env :: X.outer /\ X.env.frame = some X.env.locals)
  exf : ∀ b ∈ X.ex, b ≠ X.env.locals /\ ∀ x c, X.env.cells.lookup x = some c -> c ≠ b
  bs : ∀ b o, X.base.get? b = some o -> X.s₀.heap.get? b = some o /\ X.H₀ b = none
  bsz : X.base.objs.size <= X.s₀.heap.objs.size
  noex : ∀ b o, X.base.get? b = some o -> b ∉ X.ex
  exfs : ∀ b ∈ X.ex, b ∉ X.fs
  funs : X.s₀.heap.FunFrames X.base X.outer
  frf : ∀ b ∈ X.fs, X.H₀ b = none
structure Inv (X : Cx) (pins : List (Addr × Obj)) (σ : List (Option V)) (H : Hp) (s : Shared) : Prop where
  ok : X.Ok
  os : s.os = X.s₀.os
  bare : AllBare s.gens
  base : Un X.fs X.ex X.H₀ H X.s₀.heap s.heap
  loc : ∃ m, s.heap.Ns X.env.locals m /\ ∀ (i : Nat) (x : Str) (v : V), X.N[i]? = some x -> σ[i]? = some (some v) -> Vis X.env.scope x -> ∃ u, RelV v u /\ Look X.env s.heap m x u
  cell : ∀ x c, X.env.cells.lookup x = some c -> ∃ v, s.heap.IsCell c v
  free : H X.env.locals = none
  freeC : ∀ x c, X.env.cells.lookup x = some c -> H c = none
  pin : ∀ p ∈ X.pn ++ pins, s.heap.get? p.1 = some p.2 /\ H p.1 = none /\ p.1 ≠ X.env.locals /\ p.1 ∉ X.fs /\ ∀ v, p.2.data ≠ .cell v
  hok : HOk X.prog X.w H s.heap
  len : σ.length = X.N.length
section
variable {X : Cx} {pins : List (Addr × Obj)} {σ : List (Option V)} {H H' : Hp} {s : Shared} {h' : Heap}
theorem Cx.Ok.nofr (ok : X.Ok) {b : Addr} {o : Obj} (e : X.base.get? b = some o) : b ∉ X.fs := fun hb => by
 have := (ok.funs.mem hb).1
 rw [e] at this; cases this
theorem Inv.bs (I : Inv X pins σ H s) : ∀ b o, X.base.get? b = some o -> s.heap.get? b = some o /\ H b = none := fun b o e =>
 ⟨I.base.keep b o (I.ok.bs b o e).1 (I.ok.bs b o e).2 (I.ok.nofr e) (I.ok.noex b o e), I.base.free b o (I.ok.bs b o e).1 (I.ok.bs b o e).2 (I.ok.noex b o e)⟩
theorem Inv.bk (I : Inv X pins σ H s) : ∀ b o, X.base.get? b = some o -> s.heap.get? b = some o := fun b o e => (I.bs b o e).1
theorem Inv.mod (I : Inv X pins σ H s) : Mod X.K X.mg X.base := I.ok.mod
theorem Inv.kIn (I : Inv X pins σ H s) : X.K.In s.heap := I.ok.mod.kin.keeps I.bk
theorem Inv.lt (I : Inv X pins σ H s) : X.env.locals < s.heap.objs.size := let ⟨_, hn, _⟩ := I.loc; hn.lt
theorem Inv.sz (I : Inv X pins σ H s) : X.s₀.heap.objs.size <= s.heap.objs.size := Nat.le_trans I.ok.above (Nat.le_of_lt I.lt)
theorem Inv.nofs (I : Inv X pins σ H s) {a : Addr} (h : s.heap.objs.size <= a) : a ∉ X.fs := fun hb => by
 obtain ⟨_, o, ho, _⟩ := I.ok.funs.mem hb
 exact absurd (Nat.lt_of_lt_of_le (Heap.lt_size ho) (Nat.le_trans I.sz h)) (Nat.lt_irrefl _)
theorem Inv.cne (I : Inv X pins σ H s) : ∀ x c, X.env.cells.lookup x = some c -> c ≠ X.env.locals := fun x c e z => by
 obtain ⟨v, o, ho, hd⟩ := I.cell x c e
 obtain ⟨m, ⟨o', es, ep, ho', hd', _⟩, _⟩ := I.loc
 rw [z, ho'] at ho; cases ho; rw [hd'] at hd; cases hd
theorem Inv.funs (I : Inv X pins σ H s) : s.heap.FunFrames X.base X.outer := by
 have all : ∀ (l : List Env), (∀ b ∈ frs l, b ∈ X.fs) -> X.s₀.heap.FunFrames X.base l -> s.heap.FunFrames X.base l := by
  intro l
  induction l with
  | nil => intro _ _; trivial
  | cons env r ih =>
   intro hs hl
   obtain ⟨hk, ⟨L, o, hf, hn, ho, hd⟩, hr⟩ := hl
   have hL : L ∈ X.fs := hs L (by unfold frs; rw [List.filterMap_cons, hf]; exact List.mem_cons_self)
   obtain ⟨sl, e⟩ := I.base.slot L o ho (I.ok.frf L hL) hL fun z => I.ok.exfs L z hL
   exact ⟨hk, ⟨L, _, hf, hn, e, hd⟩, ih (fun b hb => hs b (by unfold frs; rw [List.filterMap_cons, hf]; exact List.mem_cons_of_mem _ hb)) hr⟩
 exact all X.outer (fun _ hb => hb) I.ok.funs
theorem Inv.stack (I : Inv X pins σ H s) : s.heap.FunFrames X.base X.stack := by
 rcases I.ok.stk with e | ⟨e, hf⟩
 ·rw [e]; exact I.funs
 ·rw [e]
  obtain ⟨m, hn, _⟩ := I.loc
  refine .cons (by rw [I.ok.kind]; decide) hf hn ?_ I.funs
  exact Heap.get?_none_of_le (Nat.le_trans I.ok.bsz I.ok.above)
theorem Inv.stkSub (I : Inv X pins σ H s) : ∀ b ∈ frs X.stack, b ∈ X.env.locals :: X.fs := fun b hb => by
 rcases I.ok.stk with e | ⟨e, hf⟩
 ·rw [e] at hb; exact List.mem_cons_of_mem _ hb
 ·rw [e] at hb
  unfold frs at hb
  rw [List.filterMap_cons, hf] at hb
  exact hb
theorem Inv.stkFree (I : Inv X pins σ H s) : ∀ b ∈ frs X.stack, H b = none := fun b hb => by
 rcases List.mem_cons.mp (I.stkSub b hb) with e | hb
 ·rw [e]; exact I.free
 ·obtain ⟨_, o, ho, _⟩ := I.ok.funs.mem hb
  exact I.base.free b o ho (I.ok.frf b hb) fun z => I.ok.exfs b z hb
theorem Inv.step {g' : Array GenState} {t' : Nat} {d' : Drawn} {ch : List Addr} (I : Inv X pins σ H s)
  (hch : ∀ b ∈ ch, (b ∈ X.ex \/ X.s₀.heap.objs.size <= b) /\ b ≠ X.env.locals /\ (∀ x c, X.env.cells.lookup x = some c -> c ≠ b) /\ ∀ p ∈ X.pn ++ pins, p.1 ≠ b)
  (keep : ∀ b o, b ≠ X.env.locals -> b ∉ X.fs -> b ∉ ch -> s.heap.get? b = some o -> H b = none -> h'.get? b = some o)
  (slot : ∀ b o, b ≠ X.env.locals -> b ∈ X.fs -> b ∉ ch -> s.heap.get? b = some o -> H b = none -> ∃ sl, h'.get? b = some { o with slots := sl }) (free : ∀ b o, b ∉ ch -> s.heap.get? b = some o -> H b = none -> H' b = none)
  (there : ∀ b o, b ∉ ch -> s.heap.get? b = some o -> ∃ o', h'.get? b = some o')
  (tups : ∀ b xs, H b = some (.tup xs) -> H' b = some (.tup xs)) (frzs : ∀ b o u, H b = some (.frz o u) -> H' b = some (.frz o u)) (tbls : ∀ b ps, H b = some (.tbl ps) -> ∃ more, H' b = some (.tbl (ps ++ more)))
  (ns : ∀ m, s.heap.Ns X.env.locals m -> h'.Ns X.env.locals m) (hok : HOk X.prog X.w H' h') (hg : AllBare g') :
  Inv X pins σ H' { s with heap := h', gens := g', drawn := d', toks := t' } := by
 have neL : ∀ b o, X.s₀.heap.get? b = some o -> b ≠ X.env.locals := fun b o e => Nat.ne_of_lt (Nat.lt_of_lt_of_le (Heap.lt_size e) I.ok.above)
 have neC : ∀ b o, X.s₀.heap.get? b = some o -> b ∉ X.ex -> b ∉ ch := fun b o e hx hb => by
  rcases (hch b hb).1 with z | z
  ·exact hx z
  ·exact absurd (Nat.lt_of_lt_of_le (Heap.lt_size e) z) (Nat.lt_irrefl _)
 have cellK : ∀ x c, X.env.cells.lookup x = some c -> ∀ v, s.heap.IsCell c v -> h'.IsCell c v := fun x c e v ⟨o, ho, hd⟩ => by
  have nch : c ∉ ch := fun z => (hch c z).2.2.1 x c e rfl
  by_cases hc : c ∈ X.fs
  ·obtain ⟨sl, q⟩ := slot c o (I.cne x c e) hc nch ho (I.freeC x c e)
   exact ⟨_, q, hd⟩
  ·exact ⟨o, keep c o (I.cne x c e) hc nch ho (I.freeC x c e), hd⟩
 refine ⟨I.ok, I.os, hg, ⟨fun b o e n hb hx => ?_, fun b o e n hb hx => ?_, fun b o e n hx => ?_, fun b o e hx => ?_, fun b xs e => tups b xs (I.base.tups b xs e), fun b o xs e => frzs b o xs (I.base.frzs b o xs e), fun b ps e => ?_⟩, ?_, fun x c e => ?_, ?_, fun x c e => ?_, fun p hp => ?_, hok, I.len⟩
 ·exact keep b o (neL b o e) hb (neC b o e hx) (I.base.keep b o e n hb hx) (I.base.free b o e n hx)
 ·obtain ⟨sl, e1⟩ := I.base.slot b o e n hb hx
  obtain ⟨sl', e2⟩ := slot b _ (neL b o e) hb (neC b o e hx) e1 (I.base.free b o e n hx)
  exact ⟨sl', e2⟩
 ·obtain ⟨o', e1⟩ := I.base.there b o e hx
  exact free b o' (neC b o e hx) e1 (I.base.free b o e n hx)
 ·obtain ⟨o', e1⟩ := I.base.there b o e hx
  exact there b o' (neC b o e hx) e1
 ·obtain ⟨m1, e1⟩ := I.base.tbls b ps e
  obtain ⟨m2, e2⟩ := tbls b _ e1
  exact ⟨m1 ++ m2, by rw [e2, Array.append_assoc]⟩
 ·obtain ⟨m, hn, hl⟩ := I.loc
  refine ⟨m, ns m hn, fun i x v e1 e2 e3 => ?_⟩
  obtain ⟨u, r, l⟩ := hl i x v e1 e2 e3
  refine ⟨u, r, ?_⟩
  rcases l with l | ⟨k, c, e, z⟩
  ·exact .inl l
  ·exact .inr ⟨k, c, e, cellK x c e _ z⟩
 ·obtain ⟨v, z⟩ := I.cell x c e
  exact ⟨v, cellK x c e v z⟩
 ·obtain ⟨m, ⟨o, _, _, ho, _⟩, _⟩ := I.loc
  exact free _ o (fun z => (hch _ z).2.1 rfl) ho I.free
 ·obtain ⟨v, o, ho, hd⟩ := I.cell x c e
  exact free c o (fun z => (hch c z).2.2.1 x c e rfl) ho (I.freeC x c e)
 ·obtain ⟨e, n, ne, nf, d⟩ := I.pin p hp
  have nch : p.1 ∉ ch := fun z => (hch p.1 z).2.2.2 p hp rfl
  exact ⟨keep p.1 p.2 ne nf nch e n, free p.1 p.2 nch e n, ne, nf, d⟩
theorem Inv.un {t' : Nat} (I : Inv X pins σ H s) (u : Un X.fs [] H H' s.heap h') (hok : HOk X.prog X.w H' h') : Inv X pins σ H' { s with heap := h', toks := t' } := by
 obtain ⟨m, ⟨o, es, ep, ho, r⟩, _⟩ := id I.loc
 obtain ⟨sl, hL⟩ := u.any ho I.free (by simp)
 exact I.step (g' := s.gens) (d' := s.drawn) (ch := []) (fun _ z => nomatch z) (fun b o _ hb _ e n => u.keep b o e n hb (by simp)) (fun b o _ hb _ e n => u.slot b o e n hb (by simp)) (fun b o _ e n => u.free b o e n (by simp)) (fun b o _ e => u.there b o e (by simp)) u.tups u.frzs u.tbls (fun m' hm => by
  obtain ⟨o', es', ep', ho', r'⟩ := hm
  rw [ho] at ho'; cases ho'
  exact ⟨_, es', ep', hL, r'⟩) hok I.bare
theorem Inv.call {g' : Array GenState} {t' : Nat} {d' : Drawn} {ch : List Addr} (I : Inv X pins σ H s) (u : Un (frs X.stack) ch H H' s.heap h') (hok : HOk X.prog X.w H' h') (hg : AllBare g')
  (hch : ∀ b ∈ ch, (b ∈ X.ex \/ X.s₀.heap.objs.size <= b) /\ b ≠ X.env.locals /\ (∀ x c, X.env.cells.lookup x = some c -> c ≠ b) /\ ∀ p ∈ X.pn ++ pins, p.1 ≠ b) :
  Inv X pins σ H' { s with heap := h', gens := g', drawn := d', toks := t' } := by
 obtain ⟨m, ⟨o, es, ep, ho, r⟩, _⟩ := id I.loc
 obtain ⟨sl, hL⟩ := u.any ho I.free fun z => (hch _ z).2.1 rfl
 exact I.step (ch := ch) hch (fun b o hL hb hc e n => u.keep b o e n (fun z => (List.mem_cons.mp (I.stkSub b z)).elim hL hb) hc) (fun b o _ _ hc e n => u.any e n hc) (fun b o hc e n => u.free b o e n hc) (fun b o hc e => u.there b o e hc) u.tups u.frzs u.tbls (fun m' hm => by
  obtain ⟨o', es', ep', ho', r'⟩ := hm
  rw [ho] at ho'; cases ho'
  exact ⟨_, es', ep', hL, r'⟩) hok hg
theorem Inv.turned {t' : Nat} {it : Addr} (I : Inv X pins σ H s) (k : ∀ b o, b ≠ it -> s.heap.get? b = some o -> h'.get? b = some o) (hn : H it = none) (hL : it ≠ X.env.locals)
  (h1 : it ∈ X.ex \/ X.s₀.heap.objs.size <= it) (h2 : ∀ x c, X.env.cells.lookup x = some c -> c ≠ it) (h3 : ∀ p ∈ X.pn ++ pins, p.1 ≠ it) : Inv X pins σ H { s with heap := h', toks := t' } := by
 have nit : ∀ b u, H b = some u -> b ≠ it := fun b u e z => by rw [z, hn] at e; cases e
 refine I.step (g' := s.gens) (d' := s.drawn) (ch := [it]) (fun b hb => ?_) (fun b o _ _ hc e _ => k b o (fun z => hc (by simp [z])) e) (fun b o _ _ hc e _ => ⟨o.slots, k b o (fun z => hc (by simp [z])) e⟩) (fun _ _ _ _ n => n)
  (fun b o hc e => ⟨o, k b o (fun z => hc (by simp [z])) e⟩) (fun _ _ e => e) (fun _ _ _ e => e) (fun b ps e => ⟨#[], by rw [e]; simp⟩) (fun m hm => ?_) (fun b u e => ?_) I.bare
 ·have e : b = it := by simpa using hb
  subst e
  exact ⟨h1, hL, h2, h3⟩
 ·obtain ⟨o, es, ep, ho, r⟩ := hm
  exact ⟨o, es, ep, k _ o (Ne.symm hL) ho, r⟩
 ·refine (I.hok b u e).stay (fun c v hc q => k c v ?_ q) (fun _ q => q) fun _ _ q => q
  rcases hc with z | z
  ·rw [z]; exact nit b u e
  ·exact nit c _ z
theorem Inv.tok (I : Inv X pins σ H s) (t : Nat) : Inv X pins σ H { s with toks := t } := I.un (h' := s.heap) (t' := t) Un.refl I.hok
theorem Inv.kept {t' : Nat} (I : Inv X pins σ H s) (k : ∀ b u, s.heap.get? b = some u -> h'.get? b = some u) : Inv X pins σ H { s with heap := h', toks := t' } := I.un (Un.kept k) (I.hok.kept k)
theorem Inv.laid {a : Addr} {o : HO} {t' : Nat} (I : Inv X pins σ H s) (k : ∀ b u, s.heap.get? b = some u -> h'.get? b = some u) (hp : s.heap.objs.size <= a) (new : ObjOk X.prog X.w (upd H a o) h' a o) :
  Inv X pins σ (upd H a o) { s with heap := h', toks := t' } := I.un (Un.laid k hp (I.hok.fresh hp)) (I.hok.laid k hp new)
theorem Inv.write {x e : Addr} {o : HO} {t' : Nat} (I : Inv X pins σ H s) (mu : Mut (H x)) (he : e = x \/ H e = some (.own x)) (k : ∀ b u, b ≠ e -> s.heap.get? b = some u -> h'.get? b = some u) (heo : ∃ u, h'.get? e = some u)
  (new : ObjOk X.prog X.w (upd H x o) h' x o) : Inv X pins σ (upd H x o) { s with heap := h', toks := t' } := I.un (Un.write mu he k heo) (I.hok.write mu he k heo new)
theorem Inv.pins_of {pins' : List (Addr × Obj)} (I : Inv X pins σ H s) (h : ∀ p ∈ pins', s.heap.get? p.1 = some p.2 /\ H p.1 = none /\ p.1 ≠ X.env.locals /\ p.1 ∉ X.fs /\ ∀ v, p.2.data ≠ .cell v) : Inv X pins' σ H s :=
 ⟨I.ok, I.os, I.bare, I.base, I.loc, I.cell, I.free, I.freeC, fun p hp => (List.mem_append.mp hp).elim (fun z => I.pin p (List.mem_append_left _ z)) (h p), I.hok, I.len⟩
theorem Ug {N : List Str} (hN : N.Nodup) {i j : Nat} {x : Str} (a : N[i]? = some x) (b : N[j]? = some x) : i = j := by
 obtain ⟨h1, e1⟩ := List.getElem?_eq_some_iff.mp a
 obtain ⟨h2, e2⟩ := List.getElem?_eq_some_iff.mp b
 exact (List.getElem_inj hN).mp (e1.trans e2.symm)
theorem O5 {M : Model} {A : Around} {E : Value -> Shared -> Prop} {i : Nat} {x : Str} {v : V} {u : Value} {Q : Unit -> Shared -> Prop} (I : Inv X pins σ H s) (hN : X.N.Nodup) (hi : X.N[i]? = some x) (hx : Loc X.env.scope x) (r : RelV v u)
  (h : ∀ s', Inv X pins (σ.set i (some v)) H s' -> (∃ a, Heap.SameBut a s.heap s'.heap /\ (a = X.env.locals \/ X.env.cells.lookup x = some a)) -> Q () s') (hf : X.fn x = true \/ X.env.scope.names.lookup x = some .local := by first | exact .inl rfl | exact .inr rfl | assumption) : wpAny M A (storeName X.env x u) Q E s := by
 obtain ⟨m, hn, hl⟩ := id I.loc
 have hcls : (X.env.scope.kind == .class || (X.env.scope.kind == .module && X.env.locals != X.env.globals)) = false := by rw [I.ok.kind]; rfl
 have hiσ : i < σ.length := by rw [I.len]; exact (List.getElem?_eq_some_iff.mp hi).1
 have cne := I.cne
 have tracked : ∀ {a : Addr} {h' : Heap}, (∃ o, s.heap.get? a = some o /\ H a = none) -> Heap.SameBut a s.heap h' -> HOk X.prog X.w H h' := fun {a h'} ha hs b ob e => by
  obtain ⟨_, _, hfree⟩ := ha
  refine (I.hok b ob e).stay (fun c w' hc q => (hs.2 c ?_).trans q) (fun _ q => q) fun _ _ q => q
  rintro rfl
  rcases hc with rfl | hc
  ·rw [hfree] at e; cases e
  ·rw [hfree] at hc; cases hc
 rcases hx with hk | hk
 ·refine wpAny_storeName_local hk hn (fun h' hn' hs => ?_) hcls
  obtain ⟨oL, _, _, hoL, _⟩ := id hn
  refine h _ ⟨I.ok, I.os, I.bare, ⟨fun b o e n hb hx => ?_, fun b o e n hb hx => ?_, I.base.free, fun b o e hx => ?_, I.base.tups, I.base.frzs, I.base.tbls⟩, ⟨_, hn', fun j y v' e1 e2 e3 => ?_⟩, fun y c e => ?_, I.free, I.freeC, fun p hp => ?_, tracked ⟨oL, hoL, I.free⟩ hs, by simpa using I.len⟩ ⟨_, hs, .inl rfl⟩
  ·exact (hs.2 b (Nat.ne_of_lt (Nat.lt_of_lt_of_le (Heap.lt_size e) I.ok.above))).trans (I.base.keep b o e n hb hx)
  ·obtain ⟨sl, e1⟩ := I.base.slot b o e n hb hx
   exact ⟨sl, (hs.2 b (Nat.ne_of_lt (Nat.lt_of_lt_of_le (Heap.lt_size e) I.ok.above))).trans e1⟩
  ·obtain ⟨o', e1⟩ := I.base.there b o e hx
   exact ⟨o', (hs.2 b (Nat.ne_of_lt (Nat.lt_of_lt_of_le (Heap.lt_size e) I.ok.above))).trans e1⟩
  ·by_cases hj : j = i
   ·subst hj
    rw [hi] at e1; cases e1
    rw [List.getElem?_set_self hiσ] at e2
    cases e2
    exact ⟨u, r, .inl ⟨hk, by simp⟩⟩
   ·rw [List.getElem?_set_ne (Ne.symm hj)] at e2
    obtain ⟨u', r', q⟩ := hl j y v' e1 e2 e3
    refine ⟨u', r', ?_⟩
    rcases q with ⟨k, e⟩ | ⟨k, c, e, z⟩
    ·refine .inl ⟨k, ?_⟩
     have : y ≠ x := fun e => hj (Ug hN e1 (e ▸ hi))
     simp [this, e]
    ·exact .inr ⟨k, c, e, z.sameBut hs (cne y c e)⟩
  ·obtain ⟨w', z⟩ := I.cell y c e
   exact ⟨w', z.sameBut hs (cne y c e)⟩
  ·obtain ⟨e, n, ne, nf, d⟩ := I.pin p hp
   exact ⟨(hs.2 p.1 ne).trans e, n, ne, nf, d⟩
 ·have hfn : X.fn x = true := by
   rcases hf with z | z
   ·exact z
   ·rw [z] at hk; cases hk
  obtain ⟨c, hc⟩ := I.ok.has x (.inl hk)
  obtain ⟨w', z⟩ := I.cell x c hc
  refine wpAny_storeName_cell I.ok.kind hk hc z (fun h' hc' hs => ?_)
  obtain ⟨oc, hoc, hocd⟩ := id z
  refine h { s with heap := h' } ⟨I.ok, I.os, I.bare, ⟨fun b o e n hb hx => ?_, fun b o e n hb hx => ?_, I.base.free, fun b o e hx => ?_, I.base.tups, I.base.frzs, I.base.tbls⟩, ⟨m, hn.sameBut hs (Ne.symm (cne x c hc)), fun j y v' e1 e2 e3 => ?_⟩, fun y c' e => ?_, I.free, I.freeC, fun p hp => ?_, tracked ⟨oc, hoc, I.freeC x c hc⟩ hs, by simpa using I.len⟩ ⟨c, hs, .inr hc⟩
  ·exact (hs.2 b (Nat.ne_of_lt (Nat.lt_of_lt_of_le (Heap.lt_size e) (I.ok.cab x c hfn hc)))).trans (I.base.keep b o e n hb hx)
  ·obtain ⟨sl, e1⟩ := I.base.slot b o e n hb hx
   exact ⟨sl, (hs.2 b (Nat.ne_of_lt (Nat.lt_of_lt_of_le (Heap.lt_size e) (I.ok.cab x c hfn hc)))).trans e1⟩
  ·obtain ⟨o', e1⟩ := I.base.there b o e hx
   exact ⟨o', (hs.2 b (Nat.ne_of_lt (Nat.lt_of_lt_of_le (Heap.lt_size e) (I.ok.cab x c hfn hc)))).trans e1⟩
  ·by_cases hj : j = i
   ·subst hj
    rw [hi] at e1; cases e1
    rw [List.getElem?_set_self hiσ] at e2
    cases e2
    exact ⟨u, r, .inr ⟨.inl hk, c, hc, hc'⟩⟩
   ·rw [List.getElem?_set_ne (Ne.symm hj)] at e2
    obtain ⟨u', r', q⟩ := hl j y v' e1 e2 e3
    refine ⟨u', r', ?_⟩
    rcases q with q | ⟨k, c', e, z'⟩
    ·exact .inl q
    ·refine .inr ⟨k, c', e, z'.sameBut hs ?_⟩
     rintro rfl
     exact hj (Ug hN e1 (I.ok.inj _ _ _ e hc ▸ hi))
  ·by_cases hcc : c' = c
   ·subst hcc; exact ⟨_, hc'⟩
   ·obtain ⟨w2, z2⟩ := I.cell y c' e
    exact ⟨w2, z2.sameBut hs hcc⟩
  ·obtain ⟨e, n, ne, nf, d⟩ := I.pin p hp
   refine ⟨(hs.2 p.1 ?_).trans e, n, ne, nf, d⟩
   intro q
   rw [q, hoc] at e
   have q' : oc = p.2 := Option.some.inj e
   exact d w' (by rw [← q']; exact hocd)
theorem Aj {M : Model} {A : Around} {E : Value -> Shared -> Prop} {i : Nat} {x : Str} {v : V} {u : Value} {Q : Unit -> Shared -> Prop} (I : Inv X pins σ H s) (hN : X.N.Nodup) (hi : X.N[i]? = some x) (hx : Loc X.env.scope x) (r : RelV v u)
  (h : ∀ s', Inv X pins (σ.set i (some v)) H s' -> Q () s') (hf : X.fn x = true \/ X.env.scope.names.lookup x = some .local := by first | exact .inl rfl | exact .inr rfl | assumption) : wpAny M A (storeName X.env x u) Q E s :=
 O5 I hN hi hx r (fun s' I' _ => h s' I') hf
theorem Inv.call' {s' : Shared} {ch : List Addr} (I : Inv X pins σ H s) (ho : s'.os = s.os) (u : Un (frs X.stack) ch H H' s.heap s'.heap) (hok : HOk X.prog X.w H' s'.heap) (hg : AllBare s'.gens)
  (hch : ∀ b ∈ ch, (b ∈ X.ex \/ X.s₀.heap.objs.size <= b) /\ b ≠ X.env.locals /\ (∀ x c, X.env.cells.lookup x = some c -> c ≠ b) /\ ∀ p ∈ X.pn ++ pins, p.1 ≠ b) : Inv X pins σ H' s' := by
 obtain ⟨h', g', d', t', o'⟩ := s'
 have e : o' = s.os := ho
 subst e
 exact I.call (g' := g') (t' := t') (d' := d') u hok hg hch
end
noncomputable abbrev XK := Value -> Option Addr -> Hp -> Prop
noncomputable abbrev St := List (Option V)
noncomputable abbrev VK := V -> Hp -> Prop
noncomputable abbrev TE := St -> Hp -> VK -> Prop
noncomputable abbrev TT := St -> Hp -> (Bool -> Hp -> Prop) -> Prop
noncomputable abbrev TA := St -> Hp -> (List V -> Hp -> Prop) -> Prop
structure Ends where
  nx : St -> Hp -> Prop
  rt : VK
  bk : St -> Hp -> Prop := fun _ _ => False
  ct : St -> Hp -> Prop := fun _ _ => False
noncomputable abbrev TS := Ends -> St -> Hp -> Prop
noncomputable def EP (X : Cx) (pins : List (Addr × Obj)) (σ : St) (Q : VK) (u : Value) (s' : Shared) : Prop := ∃ v H', Inv X pins σ H' s' /\ RelV v u /\ Q v H'
noncomputable def TP (X : Cx) (pins : List (Addr × Obj)) (σ : St) (Q : Bool -> Hp -> Prop) (b : Bool) (s' : Shared) : Prop := ∃ H', Inv X pins σ H' s' /\ Q b H'
noncomputable def AP (X : Cx) (pins : List (Addr × Obj)) (σ : St) (Q : List V -> Hp -> Prop) (us : List Value) (s' : Shared) : Prop := ∃ vs H', Inv X pins σ H' s' /\ Vals vs us /\ Q vs H'
noncomputable def SP (X : Cx) (pins : List (Addr × Obj)) (D : Ends) (f : Flow) (s' : Shared) : Prop :=
 match f with
 | .next => ∃ σ' H', Inv X pins σ' H' s' /\ D.nx σ' H'
 | .brk => ∃ σ' H', Inv X pins σ' H' s' /\ D.bk σ' H'
 | .cont => ∃ σ' H', Inv X pins σ' H' s' /\ D.ct σ' H'
 | .ret u => ∃ v σ' H', Inv X pins σ' H' s' /\ RelV v u /\ D.rt v H'
noncomputable def PE (X : Cx) (e : Expr) (t : TE) : Prop :=
 ∀ (pins : List (Addr × Obj)) (s : Shared) (σ : St) (H : Hp) (Q : VK), Inv X pins σ H s -> t σ H Q -> wpAny (model X.prog X.w) X.A (eval e X.env) (EP X pins σ Q) X.xe s
noncomputable def PT (X : Cx) (e : Expr) (t : TT) : Prop :=
 ∀ (pins : List (Addr × Obj)) (s : Shared) (σ : St) (H : Hp) (Q : Bool -> Hp -> Prop), Inv X pins σ H s -> t σ H Q -> wpAny (model X.prog X.w) X.A (isTrue e X.env (eval e X.env)) (TP X pins σ Q) X.xe s
noncomputable def PW (X : Cx) (e : Expr) (t : TT) : Prop :=
 ∀ (whole : Sem Value) (pins : List (Addr × Obj)) (s : Shared) (σ : St) (H : Hp) (Q : Bool -> Hp -> Prop), Inv X pins σ H s -> t σ H Q -> wpAny (model X.prog X.w) X.A (isTrue e X.env whole) (TP X pins σ Q) X.xe s
theorem PW.pt {X : Cx} {e : Expr} {t : TT} (h : PW X e t) : PT X e t := h _
noncomputable def PA (X : Cx) (es : List Expr) (t : TA) : Prop :=
 ∀ (pos : Pos) (pins : List (Addr × Obj)) (s : Shared) (σ : St) (H : Hp) (Q : List V -> Hp -> Prop), Inv X pins σ H s -> t σ H Q -> wpAny (model X.prog X.w) X.A (spliced (backTo pos (starEach es X.env))) (AP X pins σ Q) X.xe s
noncomputable def PS (X : Cx) (st : Stmt) (t : TS) : Prop :=
 ∀ (pins : List (Addr × Obj)) (s : Shared) (σ : St) (H : Hp) (D : Ends), Inv X pins σ H s -> t D σ H -> wpAny (model X.prog X.w) X.A (exec st X.env) (SP X pins D) X.xe s
noncomputable def PSs (X : Cx) (st : List Stmt) (t : TS) : Prop :=
 ∀ (pins : List (Addr × Obj)) (s : Shared) (σ : St) (H : Hp) (D : Ends), Inv X pins σ H s -> t D σ H -> wpAny (model X.prog X.w) X.A (execs st X.env) (SP X pins D) X.xe s
theorem thn {α : Type} {t : Sem α} {Q Q' : α -> Shared -> Prop} {M : Model} {A : Around} {E : Value -> Shared -> Prop} {s : Shared} (h : wpAny M A t Q E s) (hQ : ∀ a s, Q a s -> Q' a s) : wpAny M A t Q' E s := wpAny_mono h hQ fun _ _ x => x
end L2
namespace L2
open PySem PySem.Spec PyProof.Rows
section
variable {X : Cx}
noncomputable def zb1 (i : Nat) : TE := fun σ H Q => ∃ v, σ[i]? = some (some v) /\ Q v H
noncomputable def tC (v : V) : TE := fun _ H Q => Q v H
theorem ql0 {i : Nat} {x : Str} {pos : Pos} (hN : X.N[i]? = some x) (hv : Vis X.env.scope x) (hd : (x == ("__debug__" : Str)) = false := by decide) (hcd : (x == ("__classdict__" : Str)) = false := by decide) : PE X (.Name x pos) (zb1 i) := by
 intro pins s σ H Q I h
 obtain ⟨v, e, h⟩ := h
 obtain ⟨m, hn, hl⟩ := I.loc
 obtain ⟨u, r, l⟩ := hl i x v hN e hv
 have fin : EP X pins σ Q u s := ⟨v, H, I, r, h⟩
 rcases l with ⟨hk, hm⟩ | ⟨hk, c, hc, hcell⟩
 ·exact wpAny_Name (wpAny_loadName_local I.ok.kind hk hn hm fin) hd
 ·rcases hk with hk | hk
  ·exact wpAny_Name (wpAny_loadName_cell I.ok.kind hk hc hcell fin) hd
  ·exact wpAny_Name (wpAny_loadName_free I.ok.kind hk hc hcell fin hcd) hd
theorem qg {i j pos} : PE X (.Constant (.int i) j pos) (tC (.int i)) := fun _ _ _ H _ I h => wpAny_Constant_int ⟨.int i, H, I.tok _, ⟨_, rfl⟩, h⟩
theorem vq {b j pos} : PE X (.Constant (.bool b) j pos) (tC (.bl b)) := fun _ _ _ H _ I h => Constant_bool ⟨.bl b, H, I, rfl, h⟩
theorem Wh {j pos} : PE X (.Constant .none j pos) (tC .non) := fun _ _ _ H _ I h => Constant_none ⟨.non, H, I, rfl, h⟩
theorem jb {x j pos} : PE X (.Constant (.str x) j pos) (tC (.str x)) := fun _ _ _ H _ I h => Calls.Constant_str ⟨.str x, H, I.tok _, ⟨_, rfl⟩, h⟩
noncomputable def Gl (X : Cx) (x : Str) : Prop := X.env.kindOf x = some .globalImplicit
theorem vo {E : Value -> Shared -> Prop} {pins : List (Addr × Obj)} {s : Shared} {σ : St} {H : Hp} {x : Str} {u : Value} {pos : Pos} {Q : Value -> Shared -> Prop} (I : Inv X pins σ H s) (hg : Gl X x) (hm : X.mg x = some u) (h : Q u s)
  (hd : (x == ("__debug__" : Str)) = false := by decide) : wpAny (model X.prog X.w) X.A (eval (.Name x pos) X.env) Q E s :=
 Calls.Name_function_global I.ok.kind hg (Calls.loadGlobal_global (by rw [I.ok.glob]; exact I.mod.glob.keeps I.bk) hm h) hd
theorem Jo {E : Value -> Shared -> Prop} {pins : List (Addr × Obj)} {s : Shared} {σ : St} {H : Hp} {x : Str} {u : Value} {pos : Pos} {Q : Value -> Shared -> Prop} (I : Inv X pins σ H s) (hg : Gl X x) (hm : X.mg x = none) (hv : bootBuiltins x = some u) (h : Q u s)
  (hn : x ≠ "__name__" := by decide) (hd : (x == ("__debug__" : Str)) = false := by decide) : wpAny (model X.prog X.w) X.A (eval (.Name x pos) X.env) Q E s := by
 obtain ⟨mb, h1, h2⟩ := I.mod.blt
 exact Calls.Name_function_global I.ok.kind hg (Calls.loadGlobal_builtin (by rw [I.ok.glob]; exact I.mod.glob.keeps I.bk) hm (by rw [I.ok.blt]; exact h1.keeps I.bk) ((h2 x hn).trans hv) h) hd
theorem Bw {x : Str} {v : V} {u : Value} {pos : Pos} (hg : Gl X x) (hm : X.mg x = some u) (r : RelV v u) (hd : (x == ("__debug__" : Str)) = false := by decide) : PE X (.Name x pos) (tC v) :=
 fun _ _ _ H _ I h => vo I hg hm ⟨v, H, I, r, h⟩ hd
theorem ju {x : Str} {v : V} {u : Value} {pos : Pos} (hg : Gl X x) (hm : X.mg x = none) (hv : bootBuiltins x = some u) (r : RelV v u) (hn : x ≠ "__name__" := by decide) (hd : (x == ("__debug__" : Str)) = false := by decide) : PE X (.Name x pos) (tC v) :=
 fun _ _ _ H _ I h => Jo I hg hm hv ⟨v, H, I, r, h⟩ hn hd
variable {a b : Expr} {ta tb : TE} {pos : Pos}
noncomputable def PC (X : Cx) (op : CmpOp) (a b : Expr) (t : TE) : Prop :=
 ∀ (pins : List (Addr × Obj)) (s : Shared) (σ : St) (H : Hp) (Q : VK), Inv X pins σ H s -> t σ H Q ->
  wpAny (model X.prog X.w) X.A (eval a X.env) (fun v s₁ => wpAny (model X.prog X.w) X.A (eval b X.env) (fun u s₂ => wpAny (model X.prog X.w) X.A (compareOp op v u) (EP X pins σ Q) X.xe s₂) X.xe s₁) X.xe s
noncomputable def tB (t : TE) : TT := fun σ H Q => t σ H fun x H1 => ∃ c, x = .bl c /\ Q c H1
theorem Uj {op : CmpOp} {t : TE} (h : PC X op a b t) (h1 : behindInMarks op b = false := by first | exact nobehind _ (by decide) (by decide) | rfl) : PT X (.Compare a [op] [b] pos) (tB t) := by
 intro pins s σ H Q I hw
 refine wpAny_isTrue_Compare1 (thn (h pins s σ H _ I hw) fun v s1 h1 => thn h1 fun u s2 h2 => thn h2 fun c s3 ⟨x, H1, I1, r1, q1⟩ => ?_) h1
 obtain ⟨d, rfl, q⟩ := q1
 cases r1
 exact wpAny_truthy_bool ⟨H1, I1, q⟩
theorem jq {e : Expr} {t : TE} (h : PE X e t) (he : ∀ whole, isTrue e X.env whole = (do let v ← whole; standAt e.pos; holding [v] (truthy v)) := by intro _; rfl) : PT X e (tB t) := by
  intro pins s σ H Q I hw
  refine isTrue_plain (thn (h pins s σ H _ I hw) fun v s1 ⟨x, H1, I1, r1, q1⟩ => ?_) (he _)
  obtain ⟨d, rfl, q⟩ := q1
  cases r1
  exact wpAny_truthy_bool ⟨H1, I1, q⟩
variable {tA tB' : TT} {rest : List Expr}
noncomputable def zd5 (t u : TT) : TT := fun σ H Q => t σ H fun c H1 => if c = true then u σ H1 Q else Q false H1
noncomputable def tOr (t u : TT) : TT := fun σ H Q => t σ H fun c H1 => if c = true then Q true H1 else u σ H1 Q
noncomputable def zd9 (t : TT) : TT := fun σ H Q => t σ H fun c H1 => Q (!c) H1
theorem Zk (ha : PT X a tA) : PW X (.BoolOp .And [a] pos) tA := by
 intro wh pins s σ H Q I h
 refine isTrue_and (thn (ha pins s σ H Q I h) fun c s1 e => ?_)
 cases c with
 | true => exact isTrue_and_nil e
 | false => exact e
theorem xu (ha : PT X a tA) : PW X (.BoolOp .Or [a] pos) tA := by
 intro wh pins s σ H Q I h
 refine isTrue_or (thn (ha pins s σ H Q I h) fun c s1 e => ?_)
 cases c with
 | false => exact isTrue_or_nil e
 | true => exact e
theorem qj8 (ha : PT X a tA) (hb : PW X (.BoolOp .And (b :: rest) pos) tB') : PW X (.BoolOp .And (a :: b :: rest) pos) (zd5 tA tB') := by
 intro wh pins s σ H Q I h
 refine isTrue_and (thn (ha pins s σ H _ I h) fun c s1 ⟨H1, I1, q1⟩ => ?_)
 cases c with
 | true => exact hb wh pins s1 σ H1 Q I1 q1
 | false => exact ⟨H1, I1, q1⟩
theorem xx (ha : PT X a tA) (hb : PW X (.BoolOp .Or (b :: rest) pos) tB') : PW X (.BoolOp .Or (a :: b :: rest) pos) (tOr tA tB') := by
 intro wh pins s σ H Q I h
 refine isTrue_or (thn (ha pins s σ H _ I h) fun c s1 ⟨H1, I1, q1⟩ => ?_)
 cases c with
 | true => exact ⟨H1, I1, q1⟩
 | false => exact hb wh pins s1 σ H1 Q I1 q1
theorem jz (ha : PT X a tA) : PT X (.UnaryOp .Not a pos) (zd9 tA) := by
 intro pins s σ H Q I h
 exact isTrue_not (ha pins s σ H (fun c H1 => Q (!c) H1) I h)
noncomputable def qy4 (ta tb : TE) : TE := fun σ H Q => ta σ H fun x H1 => ∃ c, x = .bl c /\ if c = true then tb σ H1 Q else Q (.bl false) H1
noncomputable def zd2 (ta tb : TE) : TE := fun σ H Q => ta σ H fun x H1 => ∃ c, x = .bl c /\ if c = true then Q (.bl true) H1 else tb σ H1 Q
noncomputable def qy9 (ta : TE) : TE := fun σ H Q => ta σ H fun x H1 => ∃ c, x = .bl c /\ Q (.bl (!c)) H1
theorem Br {op} {t : TE} (h : PE X a t) : PE X (.BoolOp op [a] pos) t := fun pins s σ H Q I hw => BoolOp_one (h pins s σ H Q I hw)
theorem ul (ha : PE X a ta) (hb : PE X (.BoolOp .And (b :: rest) pos) tb) : PE X (.BoolOp .And (a :: b :: rest) pos) (qy4 ta tb) := by
 intro pins s σ H Q I h
 refine BoolOp_and (thn (ha pins s σ H _ I h) fun v s1 ⟨x, H1, I1, r1, q1⟩ => ?_)
 obtain ⟨c, rfl, q1⟩ := q1
 cases r1
 refine wpAny_truthy_bool ?_
 cases c with
 | true => exact hb pins s1 σ H1 Q I1 q1
 | false => exact ⟨.bl false, H1, I1, rfl, q1⟩
theorem qy8 (ha : PE X a ta) (hb : PE X (.BoolOp .Or (b :: rest) pos) tb) : PE X (.BoolOp .Or (a :: b :: rest) pos) (zd2 ta tb) := by
 intro pins s σ H Q I h
 refine BoolOp_or (thn (ha pins s σ H _ I h) fun v s1 ⟨x, H1, I1, r1, q1⟩ => ?_)
 obtain ⟨c, rfl, q1⟩ := q1
 cases r1
 refine wpAny_truthy_bool ?_
 cases c with
 | false => exact hb pins s1 σ H1 Q I1 q1
 | true => exact ⟨.bl true, H1, I1, rfl, q1⟩
theorem qs2 (ha : PE X a ta) : PE X (.UnaryOp .Not a pos) (qy9 ta) := by
 intro pins s σ H Q I h
 refine UnaryOp_ (thn (ha pins s σ H _ I h) fun v s1 ⟨x, H1, I1, r1, q1⟩ => ?_)
 obtain ⟨c, rfl, q1⟩ := q1
 cases r1
 exact not_of (wpAny_truthy_bool ⟨.bl (!c), H1, I1, rfl, q1⟩)
end
end L2
namespace L2
open PySem PySem.Spec PyProof.Rows
noncomputable def SqL (K : PySem.W.Frag) (H : Hp) (a : Addr) (xs : List V) : Prop :=
 Rd H a (.lst xs) \/
  ∃ (o : Obj) (its : Array Value) (n : Nat), K.lookup a = some o /\ o.cls = .type "list" /\ o.dict = none /\ o.data = .seq its n /\ its.size <= sizeLine /\ Vals xs its.toList
noncomputable def SqT (K : PySem.W.Frag) (H : Hp) (a : Addr) (xs : List V) : Prop :=
 Rd H a (.tup xs) \/
  ∃ (o : Obj) (its : Array Value) (n : Nat), K.lookup a = some o /\ o.cls = .type "tuple" /\ o.data = .seq its n /\ its.size <= sizeLine /\ Vals xs its.toList
noncomputable def zc6 : Value -> Option V
 | .none => some .non
 | .bool b => some (.bl b)
 | .int i _ => some (.int i)
 | .str x _ => some (.str x)
 | .bytes b _ => some (.byt b)
 | .float b _ => some (.flt b)
 | .ref a => some (.ref a)
 | .type n => some (.ty n)
 | _ => none
theorem RelV.abs {x : V} {u : Value} (r : RelV x u) : zc6 u = some x := by
 cases x with
 | non => cases r; rfl
 | bl _ => cases r; rfl
 | int _ => obtain ⟨t, rfl⟩ := r; rfl
 | str _ => obtain ⟨t, rfl⟩ := r; rfl
 | byt _ => obtain ⟨t, rfl⟩ := r; rfl
 | flt _ => obtain ⟨t, rfl⟩ := r; rfl
 | ref _ => cases r; rfl
 | ty _ => cases r; rfl
theorem RelV.inj {x y : V} {u : Value} (r : RelV x u) (q : RelV y u) : x = y := Option.some.inj (r.abs.symm.trans q.abs)
theorem Vals.inj : ∀ {xs ys : List V} {us : List Value}, Vals xs us -> Vals ys us -> xs = ys
 | _, _, _, .nil, .nil => rfl
 | _, _, _, .cons r t, .cons r' t' => by rw [r.inj r', Vals.inj t t']
section
variable {X : Cx} {pins : List (Addr × Obj)} {σ : St} {H : Hp} {s : Shared} {a : Addr} {xs ys : List V}
theorem SqL.of {K : PySem.W.Frag} (h : H a = some (.lst xs)) : SqL K H a xs := .inl (.inl h)
theorem SqT.of {K : PySem.W.Frag} (h : H a = some (.tup xs)) : SqT K H a xs := .inl (.inl h)
theorem Inv.list (I : Inv X pins σ H s) (h : SqL X.K H a xs) : ∃ its : List Value, Vals xs its /\ PlainL s.heap a its.toArray /\ xs.length <= sizeLine := by
 rcases h with h | ⟨o, its, n, hk, hc, hd, hs, hz, r⟩
 ·obtain ⟨z, its, n, r, e⟩ := h.ok I.hok
  exact ⟨its, r, ⟨_, n, e, rfl, rfl, rfl⟩, z⟩
 ·refine ⟨its.toList, r, ⟨o, n, I.kIn a o hk, hc, hd, by simpa using hs⟩, ?_⟩
  have e := r.length
  simp only [Array.length_toList] at e
  omega
theorem Inv.tuple (I : Inv X pins σ H s) (h : SqT X.K H a xs) : ∃ its : List Value, Vals xs its /\ IsTup s.heap a its.toArray /\ xs.length <= sizeLine := by
 rcases h with h | ⟨o, its, n, hk, hc, hs, hz, r⟩
 ·obtain ⟨z, its, r, p⟩ := h.ok I.hok
  exact ⟨its, r, p, z⟩
 ·refine ⟨its.toList, r, ⟨o, I.kIn a o hk, hc, n, by simpa using hs⟩, ?_⟩
  have e := r.length
  simp only [Array.length_toList] at e
  omega
theorem Inv.list_inj (I : Inv X pins σ H s) (h : SqL X.K H a xs) (h' : SqL X.K H a ys) : xs = ys := by
 obtain ⟨its, r, ⟨o, n, e, _, _, d⟩, _⟩ := I.list h
 obtain ⟨its', r', ⟨o', n', e', _, _, d'⟩, _⟩ := I.list h'
 rw [e] at e'; cases e'
 rw [d] at d'
 injection d' with d1 _
 have : its = its' := by simpa using congrArg Array.toList d1
 subst this
 exact r.inj r'
theorem Inv.tuple_inj (I : Inv X pins σ H s) (h : SqT X.K H a xs) (h' : SqT X.K H a ys) : xs = ys := by
 obtain ⟨its, r, ⟨o, e, _, n, d⟩, _⟩ := I.tuple h
 obtain ⟨its', r', ⟨o', e', _, n', d'⟩, _⟩ := I.tuple h'
 rw [e] at e'; cases e'
 rw [d] at d'
 injection d' with d1 _
 have : its = its' := by simpa using congrArg Array.toList d1
 subst this
 exact r.inj r'
end
noncomputable abbrev Cx.wish (X : Cx) (E : Value -> Shared -> Prop) : Cx := { X with xe := E }
noncomputable abbrev Cx.nox (X : Cx) : Cx := X.wish fun _ _ => False
theorem Cx.Ok.wish {X : Cx} (ok : X.Ok) (E : Value -> Shared -> Prop) : (X.wish E).Ok :=
 ⟨ok.mod, ok.kind, ok.glob, ok.blt, ok.above, ok.inj, ok.has, ok.cab, ok.hd, ok.frames, ok.stk, ok.exf, ok.bs, ok.bsz, ok.noex, ok.exfs, ok.funs, ok.frf⟩
theorem Cx.Ok.unwish {X : Cx} {E : Value -> Shared -> Prop} (ok : (X.wish E).Ok) : X.Ok :=
 ⟨ok.mod, ok.kind, ok.glob, ok.blt, ok.above, ok.inj, ok.has, ok.cab, ok.hd, ok.frames, ok.stk, ok.exf, ok.bs, ok.bsz, ok.noex, ok.exfs, ok.funs, ok.frf⟩
section
variable {X : Cx} {pins : List (Addr × Obj)} {σ : St} {H : Hp} {s : Shared} {E : Value -> Shared -> Prop}
theorem Inv.wish (I : Inv X pins σ H s) (E : Value -> Shared -> Prop) : Inv (X.wish E) pins σ H s := ⟨I.ok.wish E, I.os, I.bare, I.base, I.loc, I.cell, I.free, I.freeC, I.pin, I.hok, I.len⟩
theorem Inv.unwish (I : Inv (X.wish E) pins σ H s) : Inv X pins σ H s := ⟨I.ok.unwish, I.os, I.bare, I.base, I.loc, I.cell, I.free, I.freeC, I.pin, I.hok, I.len⟩
theorem SP.unwish {D : Ends} {f : Flow} {s' : Shared} (h : SP (X.wish E) pins D f s') : SP X pins D f s' := by
 cases f with
 | next => obtain ⟨σ', H', I, q⟩ := h; exact ⟨σ', H', I.unwish, q⟩
 | brk => obtain ⟨σ', H', I, q⟩ := h; exact ⟨σ', H', I.unwish, q⟩
 | cont => obtain ⟨σ', H', I, q⟩ := h; exact ⟨σ', H', I.unwish, q⟩
 | ret u => obtain ⟨v, σ', H', I, r, q⟩ := h; exact ⟨v, σ', H', I.unwish, r, q⟩
theorem PSs.nox {st : List Stmt} {t : TS} (h : PSs X.nox st t) : PSs X st t := fun pins s σ H D I hw =>
 wpAny_mono (h pins s σ H D (I.wish _) hw) (fun _ _ q => q.unwish) fun _ _ z => False.elim z
end
section
variable {X : Cx} {st : Stmt} {rest : List Stmt} {t u : TS} {e : Expr} {te : TE} {pos : Pos}
noncomputable def qz0 : TS := fun D σ H => D.nx σ H
noncomputable def qi0 (t u : TS) : TS := fun D σ H => t { D with nx := u D } σ H
theorem q8 : PSs X [] qz0 := fun _ _ σ H _ I h => wpAny_execs_nil ⟨σ, H, I, h⟩
theorem ql (h1 : PS X st t) (h2 : PSs X rest u) : PSs X (st :: rest) (qi0 t u) := by
 intro pins s σ H D I h
 refine wpAny_execs_cons (thn (h1 pins s σ H { D with nx := u D } I h) fun f s1 q => ?_)
 cases f with
 | next =>
  obtain ⟨σ', H', I', q⟩ := q
  exact h2 pins s1 σ' H' D I' q
 | ret v => exact q
 | brk => exact q
 | cont => exact q
theorem qm (h1 : PS X st t) : PSs X [st] t := by
 intro pins s σ H D I h
 refine wpAny_execs_cons (thn (h1 pins s σ H D I h) fun f s1 q => ?_)
 cases f with
 | next => exact wpAny_execs_nil q
 | ret v => exact q
 | brk => exact q
 | cont => exact q
theorem Inv.quiet {pins : List (Addr × Obj)} {σ : St} {H : Hp} {s : Shared} (I : Inv X pins σ H s) : interactive X.env = false := by simp [interactive, I.ok.kind]
noncomputable def za6 (te : TE) : TS := fun D σ H => te σ H fun _ H1 => D.nx σ H1
theorem Gx (he : PE X e te) (hs : swapsWith e none pos.line X.env = pure false := by rfl) : PS X (.Expr e pos) (za6 te) := by
 intro pins s σ H D I h
 exact wpAny_Expr_any (thn (he pins s σ H _ I h) fun v s1 ⟨x, H1, I1, r1, q1⟩ => ⟨σ, H1, I1, q1⟩) I.quiet hs
noncomputable def zc5 (te : TE) : TS := fun D σ H => te σ H D.rt
theorem qx (he : PE X e te) : PS X (.Return (some e) pos) (zc5 te) := by
 intro pins s σ H D I h
 exact wpAny_Return_some (thn (he pins s σ H _ I h) fun v s1 ⟨x, H1, I1, r1, q1⟩ => ⟨x, σ, H1, I1, r1, q1⟩)
noncomputable def zb5 (c : TT) (t u : TS) : TS := fun D σ H => c σ H fun b H1 => if b = true then t D σ H1 else u D σ H1
theorem jj {c : Expr} {a b : List Stmt} {tc : TT} (hc : PT X c tc) (ha : PSs X a t) (hb : PSs X b u) : PS X (.If c a b pos) (zb5 tc t u) := by
 intro pins s σ H D I h
 refine wpAny_If (thn (hc pins s σ H _ I h) fun d s1 ⟨H1, I1, q1⟩ => ?_)
 cases d with
 | true => exact ha pins s1 σ H1 D I1 q1
 | false => exact hb pins s1 σ H1 D I1 q1
end
noncomputable abbrev TG := V -> St -> Hp -> (St -> Hp -> Prop) -> Prop
noncomputable abbrev TGs := List V -> St -> Hp -> (St -> Hp -> Prop) -> Prop
noncomputable def PG (X : Cx) (target : Expr) (t : TG) : Prop :=
 ∀ (pins : List (Addr × Obj)) (s : Shared) (σ : St) (H : Hp) (v : V) (u : Value) (Q : St -> Hp -> Prop), Inv X pins σ H s -> RelV v u -> t v σ H Q ->
  wpAny (model X.prog X.w) X.A (assign target X.env u) (fun _ s' => ∃ σ' H', Inv X pins σ' H' s' /\ Q σ' H') X.xe s
noncomputable def PGs (X : Cx) (ts : List Expr) (t : TGs) : Prop :=
 ∀ (pins : List (Addr × Obj)) (s : Shared) (σ : St) (H : Hp) (vs : List V) (us : List Value) (Q : St -> Hp -> Prop), Inv X pins σ H s -> Vals vs us -> t vs σ H Q ->
  wpAny (model X.prog X.w) X.A (assignInOrder ((assignEach ts X.env).map (·.2)) us) (fun _ s' => ∃ σ' H', Inv X pins σ' H' s' /\ Q σ' H') X.xe s
section
variable {X : Cx} {pos : Pos}
noncomputable def yf (i : Nat) : TG := fun v σ H Q => Q (σ.set i (some v)) H
theorem zq {i : Nat} {x : Str} (hN : X.N.Nodup) (hi : X.N[i]? = some x) (hx : Loc X.env.scope x) (hf : X.fn x = true \/ X.env.scope.names.lookup x = some .local := by first | exact .inl rfl | exact .inr rfl | assumption) : PG X (.Name x pos) (yf i) := by
 intro pins s σ H v u Q I r h
 exact wpAny_assign_Name (Aj I hN hi hx r (fun s' I' => ⟨_, H, I', h⟩) hf)
noncomputable def zc7 : TGs := fun vs σ H Q => vs = [] /\ Q σ H
noncomputable def qx5 (t : TG) (u : TGs) : TGs := fun vs σ H Q => ∃ v r, vs = v :: r /\ t v σ H fun σ' H' => u r σ' H' Q
theorem ql5 : PGs X [] zc7 := by
 intro pins s σ H vs us Q I r h
 obtain ⟨e, h⟩ := h
 subst e
 cases r
 exact assignInOrder_nil ⟨σ, H, I, h⟩
theorem U6 {e : Expr} {es : List Expr} {t : TG} {u : TGs} (h1 : PG X e t) (h2 : PGs X es u)
  (hs : (assignEach (e :: es) X.env).map (·.2) = assign e X.env :: (assignEach es X.env).map (·.2) := by rfl) : PGs X (e :: es) (qx5 t u) := by
 intro pins s σ H vs us Q I r h
 obtain ⟨v, vr, e1, h⟩ := h
 subst e1
 cases r with
 | cons r rr =>
  rw [hs]
  refine assignInOrder_cons (thn (h1 pins s σ H _ _ _ I r h) fun _ s1 ⟨σ1, H1, I1, q1⟩ => ?_)
  exact h2 pins s1 σ1 H1 _ _ Q I1 rr q1
noncomputable def zb7 (K : PySem.W.Frag) (n : Nat) (t : TGs) : TG := fun v σ H Q => ∃ a xs, v = .ref a /\ SqT K H a xs /\ xs.length = n /\ t xs σ H Q
theorem qr5 {es : List Expr} {k : Nat} {t : TGs} {n : Nat} (hc : X.calm = true) (h : PGs X es t)
  (hn : (assignEach es X.env).length = n := by rfl) (hst : (assignEach es X.env).findIdx? (·.1) = none := by rfl) : PG X (.Tuple es k pos) (zb7 X.K n t) := by
 intro pins s σ H v u Q I r hw
 obtain ⟨a, xs, e1, hq, hl, hw⟩ := hw
 subst e1
 cases r
 obtain ⟨its, rv, ht, hz⟩ := I.tuple hq
 refine assign_Tuple_tuple (I.ok.hd hc) ht (by simp [hn, ← hl, rv.length]) hst fun h' hx => ?_
 have I1 : Inv X pins σ H { s with heap := h' } := I.kept (t' := s.toks) fun b o e => hx b o (Nat.ne_of_lt (Heap.lt_size e)) e
 exact h pins _ σ H xs _ Q I1 (by simpa using rv) hw
noncomputable def qj4 (te : TE) (g : TG) : TS := fun D σ H => te σ H fun x H1 => g x σ H1 D.nx
theorem zf {i : Nat} {x : Str} {e : Expr} {te : TE} {pos' : Pos} (hN : X.N.Nodup) (hi : X.N[i]? = some x) (hx : Loc X.env.scope x) (he : PE X e te) (hs : swapsWith e (some (.Name x pos')) pos.line X.env = pure false := by rfl) (hf : X.fn x = true \/ X.env.scope.names.lookup x = some .local := by first | exact .inl rfl | exact .inr rfl | assumption) :
  PS X (.Assign [.Name x pos'] e pos) (qj4 te (yf i)) := by
 intro pins s σ H D I h
 refine wpAny_Assign_Name (thn (he pins s σ H _ I h) fun v s1 ⟨y, H1, I1, r1, q1⟩ => ?_) hs
 exact Aj I1 hN hi hx r1 (fun s2 I2 => ⟨_, H1, I2, q1⟩) hf
end
section
variable {X : Cx} {pos : Pos}
end
structure It where
  go : Nat -> Hp -> Prop
  yld : Nat -> Hp -> V -> Hp -> Prop
  stop : Nat -> Hp -> Prop
noncomputable def Xe (X : Cx) (pins : List (Addr × Obj)) (H : Hp) (b : Addr) : Prop :=
 H b = none /\ b ≠ X.env.locals /\ b ∉ X.fs /\ (b ∈ X.ex \/ X.s₀.heap.objs.size <= b) /\ (∀ x c, X.env.cells.lookup x = some c -> c ≠ b) /\ ∀ p ∈ X.pn ++ pins, p.1 ≠ b
theorem Inv.fpOk {X : Cx} {pins : List (Addr × Obj)} {σ : St} {H H' : Hp} {s : Shared} {b : Addr} (I : Inv X pins σ H s) (hb : s.heap.objs.size <= b) (hn : H' b = none) : Xe X pins H' b := by
 refine ⟨hn, Nat.ne_of_gt (Nat.lt_of_lt_of_le I.lt hb), I.nofs hb, .inr (Nat.le_trans I.sz hb), fun x c e z => ?_, fun p hp z => ?_⟩
 ·obtain ⟨v, q⟩ := I.cell x c e
  exact absurd (Nat.lt_of_lt_of_le q.lt (by rw [z]; exact hb)) (Nat.lt_irrefl _)
 ·exact absurd (Nat.lt_of_lt_of_le (Heap.lt_size (I.pin p hp).1) (by rw [z]; exact hb)) (Nat.lt_irrefl _)
structure Turn (P : Program) (w : World) (K : PySem.W.Frag) (tg : Expr) (J : It) (fp : List Addr) (it : Addr) (tn : Nat -> Heap -> Prop) : Prop where
  mem : it ∈ fp
  obj : ∀ i h, tn i h -> ∀ b ∈ fp, ∃ o, h.get? b = some o /\ ∀ v, o.data ≠ .cell v
  keep : ∀ i h h', tn i h -> (∀ b ∈ fp, ∀ o, h.get? b = some o -> h'.get? b = some o) -> tn i h'
  item : ∀ (X : Cx), X.prog = P -> X.w = w -> X.K = K -> X.calm = true -> ∀ (i : Nat) (pins : List (Addr × Obj)) (s : Shared) (σ : St) (H : Hp) (E : Value -> Shared -> Prop), Inv X pins σ H s -> (∀ b ∈ fp, Xe X pins H b) -> tn i s.heap -> J.go i H ->
    wpAny (model P w) X.A (pyNext (.ref it)) (fun r s1 => ∃ u, r = some u /\
      wpAny (model P w) X.A (letOwnedTupleGo tg (.ref it) u) (fun _ s2 => ∃ x H', Inv X pins σ H' s2 /\ RelV x u /\ J.yld i H x H' /\ tn (i + 1) s2.heap /\ ∀ b ∈ fp, H' b = none) E s1) E s
  done : ∀ (X : Cx), X.prog = P -> X.w = w -> X.K = K -> X.calm = true -> ∀ (i : Nat) (pins : List (Addr × Obj)) (s : Shared) (σ : St) (H : Hp) (E : Value -> Shared -> Prop), Inv X pins σ H s -> (∀ b ∈ fp, Xe X pins H b) -> tn i s.heap -> J.stop i H ->
    wpAny (model P w) X.A (pyNext (.ref it)) (fun r s1 => r = none /\ Inv X pins σ H s1) E s
  self : ∀ (A : Around) (i : Nat) (s : Shared) (Q : Value -> Shared -> Prop) (E : Value -> Shared -> Prop), tn i s.heap -> Q (.ref it) s -> wpAny (model P w) A (pyIter (.ref it)) Q E s
noncomputable abbrev TI := St -> Hp -> (It -> Hp -> Prop) -> Prop
noncomputable def PIE (X : Cx) (pins : List (Addr × Obj)) (σ : St) (tg : Expr) (R : It -> Hp -> Prop) (itv : Value) (s2 : Shared) : Prop :=
 ∃ (it : Addr) (fp : List Addr) (tn : Nat -> Heap -> Prop) (J : It) (H' : Hp), itv = .ref it /\ Inv X pins σ H' s2 /\ Turn X.prog X.w X.K tg J fp it tn /\ tn 0 s2.heap /\ (∀ b ∈ fp, Xe X pins H' b) /\ R J H'
noncomputable def PI (X : Cx) (tg iter : Expr) (wi : TI) : Prop :=
 ∀ (pins : List (Addr × Obj)) (s : Shared) (σ : St) (H : Hp) (R : It -> Hp -> Prop), Inv X pins σ H s -> wi σ H R ->
  wpAny (model X.prog X.w) X.A (eval iter X.env) (fun v s1 => wpAny (model X.prog X.w) X.A (pyIter v) (PIE X pins σ tg R) X.xe s1) X.xe s
theorem qd2 {M : Model} {A : Around} {E : Value -> Shared -> Prop} {s : Shared} {tg : Expr} {it : Addr} {u : Value} {o : Obj} {n : String} {vs : Array Value} {Q : Unit -> Shared -> Prop} (ho : s.heap.get? it = some o) (hc : o.cls = .type n) (hd : o.data = .fields vs)
    (hn : ["enumerate", "zip", "dict_itemiterator", "dict_reverseitemiterator", "odict_iterator", "itertools.zip_longest", "itertools.pairwise"].contains n = false) (hQ : Q () s) : wpAny M A (letOwnedTupleGo tg (.ref it) u) Q E s := by
  unfold letOwnedTupleGo
  cases tg <;> first
    | exact wpAny_pure hQ
    | (cases u <;> first
        | exact wpAny_pure hQ
        | (refine wpAny_bind (wpAny_load ho ?_)
           rw [hc, hd]
           show wpAny M A (if (["enumerate", "zip", "dict_itemiterator", "dict_reverseitemiterator", "odict_iterator", "itertools.zip_longest", "itertools.pairwise"].contains n && vs[0]? == some (rawInt _)) = true then _ else _) Q E s
           rw [if_neg (by intro h; rw [hn, Bool.false_and] at h; cases h)]
           exact wpAny_pure hQ))
noncomputable def Itl (K : PySem.W.Frag) (a : Addr) : It :=
 ⟨fun i H => ∃ xs x, SqL K H a xs /\ xs[i]? = some x, fun i H x H' => H' = H /\ ∀ xs, SqL K H a xs -> xs[i]? = some x, fun i H => ∃ xs, SqL K H a xs /\ xs.length <= i⟩
noncomputable def Itt (K : PySem.W.Frag) (a : Addr) : It :=
 ⟨fun i H => ∃ xs x, SqT K H a xs /\ xs[i]? = some x, fun i H x H' => H' = H /\ ∀ xs, SqT K H a xs -> xs[i]? = some x, fun i H => ∃ xs, SqT K H a xs /\ xs.length <= i⟩
noncomputable def Itr (lo : Int) (n : Nat) : It := ⟨fun i _ => i < n, fun i H x H' => H' = H /\ x = .int (lo + i), fun i _ => n <= i⟩
theorem Xn {P : Program} {w : World} {K : PySem.W.Frag} {tg : Expr} (a it : Addr) : Turn P w K tg (Itl K a) [it] it (fun i h => h.IsListIter it a i) where
  mem := by simp
  obj := fun i h st b hb => by
    have e : b = it := by simpa using hb
    subst e
    obtain ⟨o, e, c, d⟩ := st
    exact ⟨o, e, fun v z => by rw [d] at z; cases z⟩
  keep := fun i h h' st k => st.at fun o e => k it (by simp) o e
  item := by
    intro X hP hw hK hc i pins s σ H E I hf st hg
    subst hP hw hK
    obtain ⟨xs, x, hq, hx⟩ := hg
    obtain ⟨its, rv, p, hz⟩ := I.list hq
    obtain ⟨u, hu, ru⟩ := rv.get hx
    obtain ⟨f0, f1, f2, f3, f4, f5⟩ := hf it (by simp)
    refine wpAny_pyNext_list_item st p.isList (x := u) (by simpa using hu) fun h' st' sb => ?_
    have I1 : Inv X pins σ H { s with heap := h' } := I.turned (t' := s.toks) (fun b o hb e => (sb.2 b hb).trans e) f0 f1 f3 f4 f5
    obtain ⟨o, e, c, d⟩ := id st'
    exact ⟨u, rfl, qd2 (s := { s with heap := h' }) e c d (by decide) ⟨x, H, I1, ru, ⟨rfl, fun ys hy => by rw [I.list_inj hy hq]; exact hx⟩, st', fun b hb => (hf b hb).1⟩⟩
  done := by
    intro X hP hw hK hc i pins s σ H E I hf st hg
    subst hP hw hK
    obtain ⟨xs, hq, hx⟩ := hg
    obtain ⟨its, rv, p, hz⟩ := I.list hq
    obtain ⟨f0, f1, f2, f3, f4, f5⟩ := hf it (by simp)
    have hl := rv.length
    exact wpAny_pyNext_list_end (I.ok.hd hc) st p.isList (by simp; omega) fun h' eb => ⟨rfl, I.turned (t' := s.toks) (fun b o hb e => eb b o hb e) f0 f1 f3 f4 f5⟩
  self := fun _ _ _ _ _ st h => wpAny_pyIter_listiter st h
theorem Xa {P : Program} {w : World} {K : PySem.W.Frag} {tg : Expr} (a it : Addr) : Turn P w K tg (Itt K a) [it] it (fun i h => h.IsTupleIter it a i) where
  mem := by simp
  obj := fun i h st b hb => by
    have e : b = it := by simpa using hb
    subst e
    obtain ⟨o, e, c, d⟩ := st
    exact ⟨o, e, fun v z => by rw [d] at z; cases z⟩
  keep := fun i h h' st k => st.at fun o e => k it (by simp) o e
  item := by
    intro X hP hw hK hc i pins s σ H E I hf st hg
    subst hP hw hK
    obtain ⟨xs, x, hq, hx⟩ := hg
    obtain ⟨its, rv, p, hz⟩ := I.tuple hq
    obtain ⟨u, hu, ru⟩ := rv.get hx
    obtain ⟨f0, f1, f2, f3, f4, f5⟩ := hf it (by simp)
    refine wpAny_pyNext_tuple_item st (show s.heap.IsTuple a its.toArray from p) (x := u) (by simpa using hu) fun h' st' sb => ?_
    have I1 : Inv X pins σ H { s with heap := h' } := I.turned (t' := s.toks) (fun b o hb e => (sb.2 b hb).trans e) f0 f1 f3 f4 f5
    obtain ⟨o, e, c, d⟩ := id st'
    exact ⟨u, rfl, qd2 (s := { s with heap := h' }) e c d (by decide) ⟨x, H, I1, ru, ⟨rfl, fun ys hy => by rw [I.tuple_inj hy hq]; exact hx⟩, st', fun b hb => (hf b hb).1⟩⟩
  done := by
    intro X hP hw hK hc i pins s σ H E I hf st hg
    subst hP hw hK
    obtain ⟨xs, hq, hx⟩ := hg
    obtain ⟨its, rv, p, hz⟩ := I.tuple hq
    obtain ⟨f0, f1, f2, f3, f4, f5⟩ := hf it (by simp)
    have hl := rv.length
    exact wpAny_pyNext_tuple_end (I.ok.hd hc) st (show s.heap.IsTuple a its.toArray from p) (by simp; omega) fun h' eb => ⟨rfl, I.turned (t' := s.toks) (fun b o hb e => eb b o hb e) f0 f1 f3 f4 f5⟩
  self := fun _ _ _ _ _ st h => wpAny_pyIter_tupleiter st h
theorem W3 {P : Program} {w : World} {K : PySem.W.Frag} {tg : Expr} (it : Addr) (lo : Int) (n : Nat) : Turn P w K tg (Itr lo n) [it] it (fun i h => IsRangeIter h it (lo + (i : Nat) * 1) ((n : Int) - (i : Nat)) 1) where
  mem := by simp
  obj := fun i h st b hb => by
    have e : b = it := by simpa using hb
    subst e
    exact ⟨_, st, fun v z => by
      have z' : Data.fields _ = Data.cell v := z
      cases z'⟩
  keep := fun i h h' st k => k it (by simp) _ st
  item := by
    intro X hP hw hK hc i pins s σ H E I hf st hg
    subst hP hw hK
    obtain ⟨f0, f1, f2, f3, f4, f5⟩ := hf it (by simp)
    have W := Walks.range (prog := X.prog) (w := X.w) (I.ok.hd hc) it lo 1 n
    refine W.item i s _ _ hg st fun v h' tk hv st' kk => ?_
    obtain ⟨t, rfl⟩ := hv
    have I1 : Inv X pins σ H { s with heap := h', toks := tk } := I.turned (fun b o hb e => kk b o (by simpa using hb) e) f0 f1 f3 f4 f5
    refine ⟨_, rfl, qd2 (s := { s with heap := h', toks := tk }) (n := "range_iterator") st' rfl rfl (by decide) ⟨.int (lo + i), H, I1, ⟨t, ?_⟩, ⟨rfl, rfl⟩, st', fun b hb => (hf b hb).1⟩⟩
    rw [Int.mul_one]
  done := by
    intro X hP hw hK hc i pins s σ H E I hf st hg
    subst hP hw hK
    obtain ⟨f0, f1, f2, f3, f4, f5⟩ := hf it (by simp)
    exact wpAny_pyNext_range_end (I.ok.hd hc) st (by have : n <= i := hg; omega) fun h' eb => ⟨rfl, I.turned (t' := s.toks) (fun b o hb e => eb b o hb e) f0 f1 f3 f4 f5⟩
  self := fun _ _ _ _ _ st h => wpAny_pyIter_rangeiter st h
end L2
namespace L2
open PySem PySem.Spec PyProof.Rows
section
variable {X : Cx} {tg : Expr}
noncomputable def qr8 (K : PySem.W.Frag) (tl : TE) : TI := fun σ H R => tl σ H fun x H1 => ∃ a, x = .ref a /\ (∃ xs, SqL K H1 a xs) /\ R (Itl K a) H1
noncomputable def za9 (K : PySem.W.Frag) (tl : TE) : TI := fun σ H R => tl σ H fun x H1 => ∃ a, x = .ref a /\ (∃ xs, SqT K H1 a xs) /\ R (Itt K a) H1
theorem ql1 {l : Expr} {tl : TE} (hl : PE X l tl) : PI X tg l (qr8 X.K tl) := by
 intro pins s σ H R I h
 refine thn (hl pins s σ H _ I h) fun v s1 ⟨x, H1, I1, r1, q1⟩ => ?_
 obtain ⟨a, e, ⟨xs, hq⟩, q⟩ := q1
 subst e
 cases r1
 obtain ⟨its, rv, p, hz⟩ := I1.list hq
 refine wpAny_pyIter_list p.isList ?_
 refine ⟨s1.heap.objs.size, [s1.heap.objs.size], _, _, H1, rfl, I1.kept (t' := s1.toks) fun b o e => Heap.get?_push_of_some _ e, Xn a _, ⟨_, Heap.get?_push_size _ rfl, rfl, rfl⟩, fun b hb => ?_, q⟩
 have e : b = s1.heap.objs.size := by simpa using hb
 subst e
 exact I1.fpOk (Nat.le_refl _) (I1.hok.fresh (Nat.le_refl _))
theorem qv2 {l : Expr} {tl : TE} (hl : PE X l tl) : PI X tg l (za9 X.K tl) := by
 intro pins s σ H R I h
 refine thn (hl pins s σ H _ I h) fun v s1 ⟨x, H1, I1, r1, q1⟩ => ?_
 obtain ⟨a, e, ⟨xs, hq⟩, q⟩ := q1
 subst e
 cases r1
 obtain ⟨its, rv, p, hz⟩ := I1.tuple hq
 refine wpAny_pyIter_tuple (show s1.heap.IsTuple a its.toArray from p) ?_
 refine ⟨s1.heap.objs.size, [s1.heap.objs.size], _, _, H1, rfl, I1.kept (t' := s1.toks) fun b o e => Heap.get?_push_of_some _ e, Xa a _, ⟨_, Heap.get?_push_size _ rfl, rfl, rfl⟩, fun b hb => ?_, q⟩
 have e : b = s1.heap.objs.size := by simpa using hb
 subst e
 exact I1.fpOk (Nat.le_refl _) (I1.hok.fresh (Nat.le_refl _))
theorem Uz {pins : List (Addr × Obj)} {σ : St} {H : Hp} {s : Shared} {R : It -> Hp -> Prop} {E : Value -> Shared -> Prop} {lo hi : Int} {t u v : Tok} {tk : Nat} (I : Inv X pins σ H s) (h1 : -(2 ^ 62) <= lo) (h2 : lo < 2 ^ 62) (h3 : -(2 ^ 62) <= hi) (h4 : hi < 2 ^ 62)
  (q : R (Itr lo (hi - lo).toNat) H) : wpAny (model X.prog X.w) X.A (pyIter (.ref s.heap.objs.size)) (PIE X pins σ tg R) E { s with heap := s.heap.push { cls := .type "range", data := .fields #[.int lo t, .int hi u, .int 1 v] }, toks := tk } := by
 refine wpAny_pyIter_range (IsRange.new ..) (small_one h1 h2 h3 h4) ?_
 have I1 : Inv X pins σ H { s with heap := s.heap.push { cls := .type "range", data := .fields #[.int lo t, .int hi u, .int 1 v] }, toks := tk } := I.kept fun b o e => Heap.get?_push_of_some _ e
 refine ⟨(s.heap.push { cls := .type "range", data := .fields #[.int lo t, .int hi u, .int 1 v] }).objs.size, [(s.heap.push { cls := .type "range", data := .fields #[.int lo t, .int hi u, .int 1 v] }).objs.size], _, _, H, rfl,
  I1.kept (t' := tk) fun b o e => Heap.get?_push_of_some _ e, W3 _ lo (hi - lo).toNat, ?_, fun b hb => ?_, q⟩
 ·have e1 : lo + ((0 : Nat) : Int) * 1 = lo := by simp
  have e2 : (((hi - lo).toNat : Nat) : Int) - ((0 : Nat) : Int) = Builtin.Range.rangeSize lo hi 1 := by rw [rangeSize_one]; split <;> omega
  show IsRangeIter _ _ (lo + ((0 : Nat) : Int) * 1) ((((hi - lo).toNat : Nat) : Int) - ((0 : Nat) : Int)) 1
  rw [e1, e2]
  exact Heap.get?_push_size _ rfl
 ·have e : b = (s.heap.push { cls := .type "range", data := .fields #[.int lo t, .int hi u, .int 1 v] }).objs.size := by simpa using hb
  subst e
  exact I1.fpOk (Nat.le_refl _) (I1.hok.fresh (Nat.le_refl _))
noncomputable def za2 (ta : TA) : TI := fun σ H R => ta σ H fun vs H1 => ∃ j : Int, vs = [.int j] /\ -(2 ^ 62) <= j /\ j < 2 ^ 62 /\ R (Itr 0 j.toNat) H1
noncomputable def qz5 (ta : TA) : TI := fun σ H R => ta σ H fun vs H1 => ∃ i j : Int, vs = [.int i, .int j] /\ (-(2 ^ 62) <= i /\ i < 2 ^ 62 /\ -(2 ^ 62) <= j /\ j < 2 ^ 62) /\ R (Itr i (j - i).toNat) H1
theorem u0 {a : Expr} {ta : TA} {p pos : Pos} (hg : Gl X "range") (hm : X.mg "range" = none) (ha : PA X [a] ta) (hs : starEach [a] X.env = [(false, eval a X.env)] := by rfl) : PI X tg (.Call (.Name "range" p) [a] [] pos) (za2 ta) := by
 intro pins s σ H R I h
 refine Call_ (Jo I hg hm boot_range (PyProof.Rows.callWith_type1 (thn (ha pos pins s σ H _ I h) fun us s1 ⟨vs, H1, I1, r1, q1⟩ => ?_) hs rfl))
 obtain ⟨j, e, q1, q2, q⟩ := q1
 subst e
 cases r1 with
 | cons r rr =>
  cases rr
  obtain ⟨t, rfl⟩ := r
  exact call_range_1 (Uz I1 (by omega) (by omega) q1 q2 (by simpa using q))
theorem yo {a b : Expr} {ta : TA} {p pos : Pos} (hg : Gl X "range") (hm : X.mg "range" = none) (ha : PA X [a, b] ta) (hs : starEach [a, b] X.env = [(false, eval a X.env), (false, eval b X.env)] := by rfl) (hs2 : starEach [b] X.env = [(false, eval b X.env)] := by rfl) :
  PI X tg (.Call (.Name "range" p) [a, b] [] pos) (qz5 ta) := by
 intro pins s σ H R I h
 refine Call_ (Jo I hg hm boot_range (PyProof.Rows.callWith_type1 (thn (ha pos pins s σ H _ I h) fun us s1 ⟨vs, H1, I1, r1, q1⟩ => ?_) (by rw [hs, hs2]) (by rw [hs2]; rfl)))
 obtain ⟨i, j, e, ⟨q1, q2, q3, q4⟩, q⟩ := q1
 subst e
 cases r1 with
 | cons r rr =>
  cases rr with
  | cons r' rr =>
   cases rr
   obtain ⟨t, rfl⟩ := r
   obtain ⟨t', rfl⟩ := r'
   exact call_range_2 (Uz I1 q1 q2 q3 q4 q)
noncomputable def zd8 (wi : TI) (g : TG) (tb : TS) : TS := fun D σ H => wi σ H fun J H1 => ∃ W : Nat -> Nat -> St -> Hp -> Prop, (∃ m, W 0 m σ H1) /\ ∀ i m σ H, W i m σ H ->
 (J.stop i H /\ D.nx σ H) \/ (J.go i H /\ ∃ N : St -> Hp -> Prop, (∀ σ' H', N σ' H' -> ∃ m', m' < m /\ W (i + 1) m' σ' H') /\ ∀ x H', J.yld i H x H' -> g x σ H' fun σ2 H2 => tb { D with nx := N, ct := N, bk := D.nx } σ2 H2)
noncomputable def Oi (fp : List Addr) (h : Heap) : List (Addr × Obj) := fp.filterMap fun b => (h.get? b).map fun o => (b, o)
theorem Ae {fp : List Addr} {h : Heap} {b : Addr} {o : Obj} (hb : b ∈ fp) (e : h.get? b = some o) : (b, o) ∈ Oi fp h := List.mem_filterMap.mpr ⟨b, hb, by rw [e]; rfl⟩
theorem Xr {fp : List Addr} {h : Heap} {p : Addr × Obj} (hp : p ∈ Oi fp h) : p.1 ∈ fp /\ h.get? p.1 = some p.2 := by
 obtain ⟨b, hb, e⟩ := List.mem_filterMap.mp hp
 cases q : h.get? b with
 | none => rw [q] at e; cases e
 | some o =>
  rw [q] at e
  have e' : (b, o) = p := Option.some.inj e
  subst e'
  exact ⟨hb, q⟩
theorem Inv.pinned {pins : List (Addr × Obj)} {σ : St} {H : Hp} {s : Shared} {fp : List Addr} (I : Inv X pins σ H s) (hf : ∀ b ∈ fp, Xe X pins H b) (ho : ∀ b ∈ fp, ∃ o, s.heap.get? b = some o /\ ∀ v, o.data ≠ .cell v) : Inv X (pins ++ Oi fp s.heap) σ H s :=
 I.pins_of fun p hp => (List.mem_append.mp hp).elim (fun z => I.pin p (List.mem_append_right _ z)) fun z => by
  obtain ⟨hb, e⟩ := Xr z
  obtain ⟨f0, f1, f2, _⟩ := hf p.1 hb
  obtain ⟨o, e', d⟩ := ho p.1 hb
  rw [e] at e'; cases e'
  exact ⟨e, f0, f1, f2, d⟩
theorem Inv.unpinned {pins pl : List (Addr × Obj)} {σ : St} {H : Hp} {s : Shared} (I : Inv X (pins ++ pl) σ H s) : Inv X pins σ H s := I.pins_of fun p hp => I.pin p (List.mem_append_right _ (List.mem_append_left _ hp))
theorem xj {iter : Expr} {body : List Stmt} {wi : TI} {g : TG} {tb : TS} {pos : Pos} (hp : PassesOwn (model X.prog X.w) X.A X.env X.xe) (hc : X.calm = true) (hi : PI X tg iter wi) (hg : PG X tg g) (hb : PSs X body tb)
  (hs : ∀ x, foldedSetIterable iter X.env x = pure x := by intro _; rfl) : PS X (.For tg iter body [] pos) (zd8 wi g tb) := by
 intro pins s σ H D I h
 refine wpAny_For (thn (hi pins s σ H _ I h) fun v s1 h1 => thn h1 fun itv s2 h2 => ?_) hs
 obtain ⟨it, fp, tn, J, H2, e, I2, T, st2, f2, W, ⟨m0, w0⟩, turn⟩ := h2
 subst e
 have stat : ∀ {H' : Hp}, (∀ b ∈ fp, H' b = none) -> ∀ b ∈ fp, Xe X pins H' b := fun hn b hb => ⟨hn b hb, (f2 b hb).2⟩
 refine codeAny_forLoop_any (fun n s' => ∃ i σ' H', Inv X pins σ' H' s' /\ tn i s'.heap /\ (∀ b ∈ fp, H' b = none) /\ W i n σ' H') ?_ m0 ⟨0, σ, H2, I2, st2, fun b hb => (f2 b hb).1, w0⟩
 rintro n s3 ⟨i, σ3, H3, I3, st3, fr3, w3⟩
 rcases turn i n σ3 H3 w3 with ⟨stop, qn⟩ | ⟨go, N, hN, step⟩
 ·refine wpAny_passesOwn hp (thn (T.done X rfl rfl rfl hc i pins s3 σ3 H3 X.xe I3 (stat fr3) st3 stop) fun r s4 ⟨hr, I4⟩ => ?_)
  subst hr
  exact wpAny_execs_nil ⟨σ3, H3, I4, qn⟩
 ·refine wpAny_passesOwn hp (thn (T.item X rfl rfl rfl hc i pins s3 σ3 H3 X.xe I3 (stat fr3) st3 go) fun r s4 ⟨u, hr, h4⟩ => ?_)
  subst hr
  refine wpAny_passesOwn hp (thn h4 fun _ s5 ⟨x, H5, I5, r5, y5, st5, fr5⟩ => ?_)
  have I5' := I5.pinned (stat fr5) (T.obj _ _ st5)
  refine wpAny_passesOwn hp (thn (hg _ s5 σ3 H5 x u _ I5' r5 (step x H5 y5)) fun _ s6 ⟨σ6, H6, I6, q6⟩ => ?_)
  refine wpAny_passesOwn hp (thn (hb _ s6 σ6 H6 _ I6 q6) fun f s7 q7 => ?_)
  have again : ∀ {σ7 : St} {H7 : Hp}, Inv X (pins ++ Oi fp s5.heap) σ7 H7 s7 -> N σ7 H7 -> ∃ m, m < n /\ ∃ i σ' H', Inv X pins σ' H' s7 /\ tn i s7.heap /\ (∀ b ∈ fp, H' b = none) /\ W i m σ' H' := fun {σ7 H7} I7 n7 => by
   obtain ⟨m', hm, w7⟩ := hN σ7 H7 n7
   refine ⟨m', hm, i + 1, σ7, H7, I7.unpinned, T.keep _ _ _ st5 fun b hb o e => (I7.pin (b, o) (List.mem_append_right _ (List.mem_append_right _ (Ae hb e)))).1, fun b hb => ?_, w7⟩
   obtain ⟨o, e, d⟩ := T.obj _ _ st5 b hb
   exact (I7.pin (b, o) (List.mem_append_right _ (List.mem_append_right _ (Ae hb e)))).2.1
  cases f with
  | next => obtain ⟨σ7, H7, I7, n7⟩ := q7; exact again I7 n7
  | cont => obtain ⟨σ7, H7, I7, n7⟩ := q7; exact again I7 n7
  | brk => obtain ⟨σ7, H7, I7, q7⟩ := q7; exact ⟨σ7, H7, I7.unpinned, q7⟩
  | ret v => obtain ⟨x7, σ7, H7, I7, r7, q7⟩ := q7; exact ⟨x7, σ7, H7, I7.unpinned, r7, q7⟩
end
theorem Lr {K : PySem.W.Frag} {a : Addr} {xs : List V} {g : TG} {tb : TS} {D : Ends} {σ : St} {H : Hp} (Pv : Nat -> St -> Hp -> Prop) (h0 : Pv 0 σ H) (hl : ∀ i σ H, i <= xs.length -> Pv i σ H -> SqL K H a xs)
  (hs : ∀ i x σ H, xs[i]? = some x -> Pv i σ H -> g x σ H fun σ2 H2 => tb { D with nx := Pv (i + 1), ct := Pv (i + 1), bk := D.nx } σ2 H2) (hd : ∀ σ H, Pv xs.length σ H -> D.nx σ H) :
  ∃ W : Nat -> Nat -> St -> Hp -> Prop, (∃ m, W 0 m σ H) /\ ∀ i m σ H, W i m σ H ->
   ((Itl K a).stop i H /\ D.nx σ H) \/ ((Itl K a).go i H /\ ∃ N : St -> Hp -> Prop, (∀ σ' H', N σ' H' -> ∃ m', m' < m /\ W (i + 1) m' σ' H') /\ ∀ x H', (Itl K a).yld i H x H' -> g x σ H' fun σ2 H2 => tb { D with nx := N, ct := N, bk := D.nx } σ2 H2) := by
 refine ⟨fun i m σ H => m = xs.length - i /\ i <= xs.length /\ Pv i σ H, ⟨xs.length, by simp, Nat.zero_le _, h0⟩, ?_⟩
 rintro i m σ H ⟨rfl, hi, p⟩
 have q := hl i σ H hi p
 by_cases hlt : i < xs.length
 ·refine .inr ⟨⟨xs, xs[i], q, by simp [hlt]⟩, Pv (i + 1), fun σ' H' p' => ⟨xs.length - (i + 1), by omega, rfl, hlt, p'⟩, fun x H' y => ?_⟩
  obtain ⟨e, y⟩ := y
  subst e
  exact hs i x σ _ (y xs q) p
 ·have e : i = xs.length := by omega
  subst e
  exact .inl ⟨⟨xs, q, Nat.le_refl _⟩, hd σ H p⟩
theorem qp9 {K : PySem.W.Frag} {a : Addr} {xs : List V} {g : TG} {tb : TS} {D : Ends} {σ : St} {H : Hp} (Pv : Nat -> St -> Hp -> Prop) (h0 : Pv 0 σ H) (hl : ∀ i σ H, i <= xs.length -> Pv i σ H -> SqT K H a xs)
  (hs : ∀ i x σ H, xs[i]? = some x -> Pv i σ H -> g x σ H fun σ2 H2 => tb { D with nx := Pv (i + 1), ct := Pv (i + 1), bk := D.nx } σ2 H2) (hd : ∀ σ H, Pv xs.length σ H -> D.nx σ H) :
  ∃ W : Nat -> Nat -> St -> Hp -> Prop, (∃ m, W 0 m σ H) /\ ∀ i m σ H, W i m σ H ->
   ((Itt K a).stop i H /\ D.nx σ H) \/ ((Itt K a).go i H /\ ∃ N : St -> Hp -> Prop, (∀ σ' H', N σ' H' -> ∃ m', m' < m /\ W (i + 1) m' σ' H') /\ ∀ x H', (Itt K a).yld i H x H' -> g x σ H' fun σ2 H2 => tb { D with nx := N, ct := N, bk := D.nx } σ2 H2) := by
 refine ⟨fun i m σ H => m = xs.length - i /\ i <= xs.length /\ Pv i σ H, ⟨xs.length, by simp, Nat.zero_le _, h0⟩, ?_⟩
 rintro i m σ H ⟨rfl, hi, p⟩
 have q := hl i σ H hi p
 by_cases hlt : i < xs.length
 ·refine .inr ⟨⟨xs, xs[i], q, by simp [hlt]⟩, Pv (i + 1), fun σ' H' p' => ⟨xs.length - (i + 1), by omega, rfl, hlt, p'⟩, fun x H' y => ?_⟩
  obtain ⟨e, y⟩ := y
  subst e
  exact hs i x σ _ (y xs q) p
 ·have e : i = xs.length := by omega
  subst e
  exact .inl ⟨⟨xs, q, Nat.le_refl _⟩, hd σ H p⟩
theorem jx {lo : Int} {n : Nat} {g : TG} {tb : TS} {D : Ends} {σ : St} {H : Hp} (Pv : Nat -> St -> Hp -> Prop) (h0 : Pv 0 σ H)
  (hs : ∀ i σ H, i < n -> Pv i σ H -> g (.int (lo + i)) σ H fun σ2 H2 => tb { D with nx := Pv (i + 1), ct := Pv (i + 1), bk := D.nx } σ2 H2) (hd : ∀ σ H, Pv n σ H -> D.nx σ H) :
  ∃ W : Nat -> Nat -> St -> Hp -> Prop, (∃ m, W 0 m σ H) /\ ∀ i m σ H, W i m σ H ->
   ((Itr lo n).stop i H /\ D.nx σ H) \/ ((Itr lo n).go i H /\ ∃ N : St -> Hp -> Prop, (∀ σ' H', N σ' H' -> ∃ m', m' < m /\ W (i + 1) m' σ' H') /\ ∀ x H', (Itr lo n).yld i H x H' -> g x σ H' fun σ2 H2 => tb { D with nx := N, ct := N, bk := D.nx } σ2 H2) := by
 refine ⟨fun i m σ H => m = n - i /\ i <= n /\ Pv i σ H, ⟨n, by simp, Nat.zero_le _, h0⟩, ?_⟩
 rintro i m σ H ⟨rfl, hi, p⟩
 by_cases hlt : i < n
 ·refine .inr ⟨hlt, Pv (i + 1), fun σ' H' p' => ⟨n - (i + 1), by omega, rfl, hlt, p'⟩, fun x H' y => ?_⟩
  obtain ⟨e, y⟩ := y
  subst e y
  exact hs i σ _ hlt p
 ·have e : i = n := by omega
  subst e
  exact .inl ⟨Nat.le_refl _, hd σ H p⟩
end L2
namespace L2
open PySem PySem.Spec PyProof.Rows
noncomputable abbrev R2 := V -> V -> Hp -> VK -> Prop
noncomputable def OpR (X : Cx) (f : Value -> Value -> Sem Value) (r : R2) : Prop :=
 ∀ (pins : List (Addr × Obj)) (s : Shared) (σ : St) (H : Hp) (x y : V) (v u : Value) (Q : VK), Inv X pins σ H s -> RelV x v -> RelV y u -> r x y H Q ->
  wpAny (model X.prog X.w) X.A (f v u) (EP X pins σ Q) X.xe s
noncomputable def UnR (X : Cx) (f : Value -> Sem Value) (r : V -> Hp -> VK -> Prop) : Prop :=
 ∀ (pins : List (Addr × Obj)) (s : Shared) (σ : St) (H : Hp) (x : V) (v : Value) (Q : VK), Inv X pins σ H s -> RelV x v -> r x H Q ->
  wpAny (model X.prog X.w) X.A (f v) (EP X pins σ Q) X.xe s
noncomputable def wu (X : Cx) (f : Value) (r : List V -> Hp -> VK -> Prop) : Prop :=
 ∀ (pins : List (Addr × Obj)) (s : Shared) (σ : St) (H : Hp) (xs : List V) (us : List Value) (Q : VK), Inv X pins σ H s -> Vals xs us -> r xs H Q ->
  wpAny (model X.prog X.w) X.A (call f us) (EP X pins σ Q) X.xe s
noncomputable def tOp (r : R2) (ta tb : TE) : TE := fun σ H Q => ta σ H fun x H1 => tb σ H1 fun y H2 => r x y H2 Q
noncomputable def tUn (r : V -> Hp -> VK -> Prop) (ta : TE) : TE := fun σ H Q => ta σ H fun x H1 => r x H1 Q
noncomputable def rI (C : Int -> Int -> Prop) (g : Int -> Int -> V) : R2 := fun x y H Q => ∃ i j, x = .int i /\ y = .int j /\ C i j /\ Q (g i j) H
noncomputable def rI0 (g : Int -> Int -> V) : R2 := fun x y H Q => ∃ i j, x = .int i /\ y = .int j /\ Q (g i j) H
noncomputable def rU (g : Int -> V) : V -> Hp -> VK -> Prop := fun x H Q => ∃ i, x = .int i /\ Q (g i) H
section
variable {X : Cx} {a b c : Expr} {ta tb tc : TE} {pos : Pos}
theorem qy6 (ha : PE X a ta) (hb : PE X b tb) {pins : List (Addr × Obj)} {s : Shared} {σ : St} {H : Hp} {R : V -> V -> Hp -> Prop} (I : Inv X pins σ H s)
  (h : ta σ H fun x H1 => tb σ H1 fun y H2 => R x y H2) {Q : Value -> Shared -> Prop} {f : Value -> Value -> Sem Value}
  (hf : ∀ v u s2 x y H2, Inv X pins σ H2 s2 -> RelV x v -> RelV y u -> R x y H2 -> wpAny (model X.prog X.w) X.A (f v u) Q X.xe s2) :
  wpAny (model X.prog X.w) X.A (eval a X.env) (fun v s₁ => wpAny (model X.prog X.w) X.A (eval b X.env) (fun u s₂ => wpAny (model X.prog X.w) X.A (f v u) Q X.xe s₂) X.xe s₁) X.xe s := by
 refine thn (ha pins s σ H _ I h) fun v s1 ⟨x, H1, I1, r1, q1⟩ => ?_
 refine thn (hb pins s1 σ H1 _ I1 q1) fun u s2 ⟨y, H2, I2, r2, q2⟩ => ?_
 exact hf v u s2 x y H2 I2 r1 r2 q2
theorem qw {op : Operator} {r : R2} (ho : OpR X (binaryOp op) r) (ha : PE X a ta) (hb : PE X b tb) : PE X (.BinOp a op b pos) (tOp r ta tb) := by
 intro pins s σ H Q I h
 exact wpAny_BinOp (qy6 ha hb I h fun v u s2 x y H2 I2 rx ry q => ho pins s2 σ H2 x y v u Q I2 rx ry q)
theorem qi4 {op : UnaryOp} {r : V -> Hp -> VK -> Prop} (ho : UnR X (unaryOp op) r) (ha : PE X a ta) : PE X (.UnaryOp op a pos) (tUn r ta) := by
 intro pins s σ H Q I h
 exact UnaryOp_ (thn (ha pins s σ H _ I h) fun v s1 ⟨x, H1, I1, r1, q1⟩ => ho pins s1 σ H1 x v Q I1 r1 q1)
theorem opI {f : Value -> Value -> Sem Value} {C : Int -> Int -> Prop} {g : Int -> Int -> Int}
  (rule : ∀ (i j : Int) (t u : Tok) (s : Shared) (Q : Value -> Shared -> Prop) (E : Value -> Shared -> Prop), C i j -> Q (.int (g i j) s.toks) { s with toks := s.toks + 1 } -> wpAny (model X.prog X.w) X.A (f (.int i t) (.int j u)) Q E s) :
  OpR X f (rI C fun i j => .int (g i j)) := by
 intro pins s σ H x y v u Q I rx ry h
 obtain ⟨i, j, rfl, rfl, hc, q⟩ := h
 obtain ⟨t, rfl⟩ := rx
 obtain ⟨t', rfl⟩ := ry
 exact rule i j t t' s _ _ hc ⟨.int (g i j), H, I.tok _, ⟨_, rfl⟩, q⟩
theorem zb6 {f : Value -> Value -> Sem Value} {g : Int -> Int -> Int}
  (rule : ∀ (i j : Int) (t u : Tok) (s : Shared) (Q : Value -> Shared -> Prop) (E : Value -> Shared -> Prop), Q (.int (g i j) s.toks) { s with toks := s.toks + 1 } -> wpAny (model X.prog X.w) X.A (f (.int i t) (.int j u)) Q E s) :
  OpR X f (rI0 fun i j => .int (g i j)) := by
 intro pins s σ H x y v u Q I rx ry h
 obtain ⟨i, j, rfl, rfl, q⟩ := h
 obtain ⟨t, rfl⟩ := rx
 obtain ⟨t', rfl⟩ := ry
 exact rule i j t t' s _ _ ⟨.int (g i j), H, I.tok _, ⟨_, rfl⟩, q⟩
theorem qx0 {f : Value -> Value -> Sem Value} {g : Int -> Int -> Bool}
  (rule : ∀ (i j : Int) (t u : Tok) (s : Shared) (Q : Value -> Shared -> Prop) (E : Value -> Shared -> Prop), Q (.bool (g i j)) s -> wpAny (model X.prog X.w) X.A (f (.int i t) (.int j u)) Q E s) :
  OpR X f (rI0 fun i j => .bl (g i j)) := by
 intro pins s σ H x y v u Q I rx ry h
 obtain ⟨i, j, rfl, rfl, q⟩ := h
 obtain ⟨t, rfl⟩ := rx
 obtain ⟨t', rfl⟩ := ry
 exact rule i j t t' s _ _ ⟨.bl (g i j), H, I, rfl, q⟩
noncomputable def zd0 (i j : Int) : Prop := 0 < j /\ j < 1073741824
noncomputable def CMul (i j : Int) : Prop := (-(2 ^ 64) < i /\ i < 2 ^ 64) \/ (-(2 ^ 64) < j /\ j < 2 ^ 64)
theorem CMul.ok {i j : Int} (h : CMul i j) : IntMulOk i j := by
 rcases h with ⟨h1, h2⟩ | ⟨h1, h2⟩
 ·exact .of_left (intBits_le_64 h1 h2)
 ·exact .of_right (intBits_le_64 h1 h2)
theorem zr : OpR X (binaryOp .Add) (rI0 fun i j => .int (i + j)) := zb6 fun _ _ _ _ _ _ _ q => add_int q
theorem Xo : OpR X (binaryOp .Sub) (rI0 fun i j => .int (i - j)) := zb6 fun _ _ _ _ _ _ _ q => sub_int q
theorem xn : OpR X (binaryOp .Mult) (rI CMul fun i j => .int (i * j)) := opI fun _ _ _ _ _ _ _ hc q => mul_int q hc.ok
theorem Zz : OpR X (binaryOp .FloorDiv) (rI zd0 fun i j => .int (i / j)) := opI fun i j _ _ _ _ _ hc q => by
 have h1 : (0 : Int) < j := hc.1
 have h2 : j < 1073741824 := hc.2
 exact floordiv_int (by omega) (by rw [Int.fdiv_eq_ediv_of_nonneg i (by omega)]; exact q) (.inl (PyProof.noPylong_small (by omega)))
theorem yw : OpR X (binaryOp .Mod) (rI (fun _ j => 0 < j) fun i j => .int (i % j)) := opI fun i j _ _ _ _ _ hc q => by
 have h1 : (0 : Int) < j := hc
 exact mod_int' (by omega) (by rw [Int.fmod_eq_emod_of_nonneg i (by omega)]; exact q)
theorem unI {f : Value -> Sem Value} {g : Int -> Int}
  (rule : ∀ (i : Int) (t : Tok) (s : Shared) (Q : Value -> Shared -> Prop) (E : Value -> Shared -> Prop), Q (.int (g i) s.toks) { s with toks := s.toks + 1 } -> wpAny (model X.prog X.w) X.A (f (.int i t)) Q E s) :
  UnR X f (rU fun i => .int (g i)) := by
 intro pins s σ H x v Q I rx h
 obtain ⟨i, rfl, q⟩ := h
 obtain ⟨t, rfl⟩ := rx
 exact rule i t s _ _ ⟨.int (g i), H, I.tok _, ⟨_, rfl⟩, q⟩
theorem Ub : UnR X (unaryOp .USub) (rU fun i => .int (-i)) := unI fun _ _ _ _ _ q => neg_int q
end
noncomputable def zc2 : V -> V -> Bool
 | .non, .non => true | .non, .int _ => true | .int _, .non => true | .non, .bl _ => true | .bl _, .non => true | .non, .str _ => true | .str _, .non => true
 | .int _, .int _ => true | .bl _, .bl _ => true | .str _, .str _ => true | .byt _, .byt _ => true
 | .int _, .str _ => true | .str _, .int _ => true | .bl _, .str _ => true | .str _, .bl _ => true
 | _, _ => false
noncomputable def rEq : R2 := fun x y H Q => zc2 x y = true /\ Q (.bl (decide (x = y))) H
noncomputable def rNe : R2 := fun x y H Q => zc2 x y = true /\ Q (.bl (!decide (x = y))) H
theorem Yd {i j : Int} : decide (V.int i = V.int j) = (i == j) := by
 rw [Bool.eq_iff_iff]
 simp
theorem qk8 {i j : Bool} : decide (V.bl i = V.bl j) = (i == j) := by
 rw [Bool.eq_iff_iff]
 simp
theorem Z2 {i j : Str} : decide (V.str i = V.str j) = (i == j) := by
 rw [Bool.eq_iff_iff]
 simp
theorem Zd {i j : Array UInt8} : decide (V.byt i = V.byt j) = (i.toList == j.toList) := by
 rw [Bool.eq_iff_iff]
 cases i
 cases j
 simp
section
variable {X : Cx} {a b c : Expr} {ta tb tc : TE} {pos : Pos}
theorem jf {pins : List (Addr × Obj)} {σ : St} {H : Hp} {s : Shared} {Q : VK} {k k' : Bool} (I : Inv X pins σ H s) (q : Q (.bl k) H) (e : k = k') : EP X pins σ Q (.bool k') s := by
 subst e
 exact ⟨.bl k, H, I, rfl, q⟩
theorem Bv : OpR X (compareOp .Eq) rEq := by
 intro pins s σ H x y v u Q I rx ry h
 obtain ⟨hs, q⟩ := h
 cases x with
 | non =>
  cases rx
  cases y with
  | non => cases ry; exact PySem.EqNone.eq_none_none (jf I q (by simp))
  | bl j => cases ry; exact PySem.EqNone.eq_none_bool (jf I q (by simp))
  | int j => obtain ⟨t', rfl⟩ := ry; exact PySem.EqNone.eq_none_int (jf I q (by simp))
  | str j => obtain ⟨t', rfl⟩ := ry; exact PySem.EqNone.eq_none_str (jf I q (by simp))
  | _ => exact absurd (show false = true from hs) Bool.false_ne_true
 | bl i =>
  cases rx
  cases y with
  | non => cases ry; exact PySem.EqNone.eq_bool_none (jf I q (by simp))
  | bl j => cases ry; exact eq_bool (jf I q qk8)
  | str j => obtain ⟨t', rfl⟩ := ry; exact PySem.EqMixed.eq_bool_str (jf I q (by simp))
  | _ => exact absurd (show false = true from hs) Bool.false_ne_true
 | int i =>
  obtain ⟨t, rfl⟩ := rx
  cases y with
  | non => cases ry; exact PySem.EqNone.eq_int_none (jf I q (by simp))
  | int j => obtain ⟨t', rfl⟩ := ry; exact eq_int (jf I q Yd)
  | str j => obtain ⟨t', rfl⟩ := ry; exact PySem.EqMixed.eq_int_str (jf I q (by simp))
  | _ => exact absurd (show false = true from hs) Bool.false_ne_true
 | str i =>
  obtain ⟨t, rfl⟩ := rx
  cases y with
  | non => cases ry; exact PySem.EqNone.eq_str_none (jf I q (by simp))
  | bl j => cases ry; exact PySem.EqMixed.eq_str_bool (jf I q (by simp))
  | int j => obtain ⟨t', rfl⟩ := ry; exact PySem.EqMixed.eq_str_int (jf I q (by simp))
  | str j => obtain ⟨t', rfl⟩ := ry; exact eq_str (jf I q Z2)
  | _ => exact absurd (show false = true from hs) Bool.false_ne_true
 | byt i =>
  obtain ⟨t, rfl⟩ := rx
  cases y with
  | byt j => obtain ⟨t', rfl⟩ := ry; exact PySem.W.eq_bytes (jf I q Zd)
  | _ => exact absurd (show false = true from hs) Bool.false_ne_true
 | _ => cases y <;> exact absurd (show false = true from hs) Bool.false_ne_true
theorem Z5 : OpR X (compareOp .NotEq) rNe := by
 intro pins s σ H x y v u Q I rx ry h
 obtain ⟨hs, q⟩ := h
 cases x with
 | non =>
  cases rx
  cases y with
  | non => cases ry; exact PySem.EqNone.ne_none_none (jf I q (by simp))
  | bl j => cases ry; exact PySem.EqNone.ne_none_bool (jf I q (by simp))
  | int j => obtain ⟨t', rfl⟩ := ry; exact PySem.EqNone.ne_none_int (jf I q (by simp))
  | str j => obtain ⟨t', rfl⟩ := ry; exact PySem.EqNone.ne_none_str (jf I q (by simp))
  | _ => exact absurd (show false = true from hs) Bool.false_ne_true
 | bl i =>
  cases rx
  cases y with
  | non => cases ry; exact PySem.EqNone.ne_bool_none (jf I q (by simp))
  | bl j => cases ry; exact ne_bool (jf I q (congrArg not qk8))
  | str j => obtain ⟨t', rfl⟩ := ry; exact PySem.EqMixed.ne_bool_str (jf I q (by simp))
  | _ => exact absurd (show false = true from hs) Bool.false_ne_true
 | int i =>
  obtain ⟨t, rfl⟩ := rx
  cases y with
  | non => cases ry; exact PySem.EqNone.ne_int_none (jf I q (by simp))
  | int j => obtain ⟨t', rfl⟩ := ry; exact ne_int (jf I q (congrArg not Yd))
  | str j => obtain ⟨t', rfl⟩ := ry; exact PySem.EqMixed.ne_int_str (jf I q (by simp))
  | _ => exact absurd (show false = true from hs) Bool.false_ne_true
 | str i =>
  obtain ⟨t, rfl⟩ := rx
  cases y with
  | non => cases ry; exact PySem.EqNone.ne_str_none (jf I q (by simp))
  | bl j => cases ry; exact PySem.EqMixed.ne_str_bool (jf I q (by simp))
  | int j => obtain ⟨t', rfl⟩ := ry; exact PySem.EqMixed.ne_str_int (jf I q (by simp))
  | str j => obtain ⟨t', rfl⟩ := ry; exact ne_str (jf I q (congrArg not Z2))
  | _ => exact absurd (show false = true from hs) Bool.false_ne_true
 | byt i =>
  obtain ⟨t, rfl⟩ := rx
  cases y with
  | byt j => obtain ⟨t', rfl⟩ := ry; exact PySem.W.ne_bytes (jf I q (congrArg not Zd))
  | _ => exact absurd (show false = true from hs) Bool.false_ne_true
 | _ => cases y <;> exact absurd (show false = true from hs) Bool.false_ne_true
theorem Mi : OpR X (compareOp .Lt) (rI0 fun i j => .bl (decide (i < j))) := qx0 fun _ _ _ _ _ _ _ q => lt_int q
theorem Do : OpR X (compareOp .LtE) (rI0 fun i j => .bl (decide (i <= j))) := qx0 fun _ _ _ _ _ _ _ q => le_int q
theorem Iv : OpR X (compareOp .Gt) (rI0 fun i j => .bl (decide (j < i))) := qx0 fun _ _ _ _ _ _ _ q => gt_int q
theorem qp2 : OpR X (compareOp .GtE) (rI0 fun i j => .bl (decide (j <= i))) := qx0 fun _ _ _ _ _ _ _ q => ge_int q
theorem Nb : OpR X (compareOp .In) (fun x y H Q => ∃ i j, x = .str i /\ y = .str j /\ Q (.bl (!(Builtin.Str.occurrences j i 0 j.length 1).isEmpty)) H) := by
 intro pins s σ H x y v u Q I rx ry h
 obtain ⟨i, j, rfl, rfl, q⟩ := h
 obtain ⟨t, rfl⟩ := rx
 obtain ⟨t', rfl⟩ := ry
 exact in_str (jf I q rfl)
theorem Ob : OpR X (compareOp .NotIn) (fun x y H Q => ∃ i j, x = .str i /\ y = .str j /\ Q (.bl (!(!(Builtin.Str.occurrences j i 0 j.length 1).isEmpty))) H) := by
 intro pins s σ H x y v u Q I rx ry h
 obtain ⟨i, j, rfl, rfl, q⟩ := h
 obtain ⟨t, rfl⟩ := rx
 obtain ⟨t', rfl⟩ := ry
 exact notIn_str (jf I q rfl)
theorem zc (b : Expr) {op : CmpOp} (h : op ≠ .In := by decide) (h2 : op ≠ .NotIn := by decide) : behindInMarks op b = false := by
 have e1 : (op == CmpOp.In) = false := by cases op <;> first | rfl | exact absurd rfl h
 have e2 : (op == CmpOp.NotIn) = false := by cases op <;> first | rfl | exact absurd rfl h2
 cases b <;> simp [behindInMarks, e1, e2]
theorem yr {op : CmpOp} {r : R2} (ho : OpR X (compareOp op) r) (ha : PE X a ta) (hb : PE X b tb) (hm : behindInMarks op b = false) : PE X (.Compare a [op] [b] pos) (tOp r ta tb) := by
 intro pins s σ H Q I h
 exact wpAny_Compare1 (qy6 ha hb I h fun v u s2 x y H2 I2 rx ry q => ho pins s2 σ H2 x y v u Q I2 rx ry q) hm
noncomputable def qs3 (t : TE) : TT := fun σ H Q => t σ H fun x H' => ∃ k, x = .bl k /\ Q k H'
theorem za {op : CmpOp} {r : R2} (ho : OpR X (compareOp op) r) (ha : PE X a ta) (hb : PE X b tb) (hm : behindInMarks op b = false) : PT X (.Compare a [op] [b] pos) (qs3 (tOp r ta tb)) := by
 intro pins s σ H Q I h
 refine wpAny_isTrue_Compare1 (thn (ha pins s σ H _ I h) fun v s1 ⟨x, H1, I1, r1, q1⟩ => thn (hb pins s1 σ H1 _ I1 q1) fun u s2 ⟨y, H2, I2, r2, q2⟩ =>
  thn (ho pins s2 σ H2 x y v u _ I2 r1 r2 q2) fun c s3 ⟨z, H3, I3, r3, k, e, q3⟩ => ?_) hm
 subst e
 cases r3
 exact wpAny_truthy_bool ⟨H3, I3, q3⟩
noncomputable def qj3 (r r' : R2) (ta tb tc : TE) : TE := fun σ H Q => ta σ H fun x H1 => tb σ H1 fun y H2 => r x y H2 fun z H3 => ∃ k, z = .bl k /\
 (if k = true then tc σ H3 fun w' H4 => r' y w' H4 Q else Q (.bl false) H3)
theorem Mm {op op' : CmpOp} {r r' : R2} (ho : OpR X (compareOp op) r) (ho' : OpR X (compareOp op') r') (ha : PE X a ta) (hb : PE X b tb) (hc : PE X c tc)
  (hm : lastMarks [op, op'] [b, c] = false := by with_unfolding_all rfl) : PE X (.Compare a [op, op'] [b, c] pos) (qj3 r r' ta tb tc) := by
 intro pins s σ H Q I h
 refine Compare_chain (thn (ha pins s σ H _ I h) fun v s1 ⟨x, H1, I1, r1, q1⟩ => chain_link (thn (hb pins s1 σ H1 _ I1 q1) fun u s2 ⟨y, H2, I2, r2, q2⟩ =>
  thn (ho pins s2 σ H2 x y v u _ I2 r1 r2 q2) fun d s3 ⟨z, H3, I3, r3, k, e, q3⟩ => ?_)) hm
 subst e
 cases r3
 refine wpAny_truthy_bool ?_
 cases k with
 | false => exact ite_ff ⟨.bl false, H3, I3, rfl, q3⟩
 | true => exact ite_tt (chain_last (thn (hc pins s3 σ H3 _ I3 q3) fun w' s4 ⟨z', H4, I4, r4, q4⟩ => ho' pins s4 σ H4 y z' u w' Q I4 r2 r4 q4))
theorem Mf {op op' : CmpOp} {r r' : R2} (ho : OpR X (compareOp op) r) (ho' : OpR X (compareOp op') r') (ha : PE X a ta) (hb : PE X b tb) (hc : PE X c tc)
  (hm : lastMarks [op, op'] [b, c] = false := by with_unfolding_all rfl) : PT X (.Compare a [op, op'] [b, c] pos) (qs3 (qj3 r r' ta tb tc)) := by
 intro pins s σ H Q I h
 refine isTrue_chain (thn (ha pins s σ H _ I h) fun v s1 ⟨x, H1, I1, r1, q1⟩ => test_link (thn (hb pins s1 σ H1 _ I1 q1) fun u s2 ⟨y, H2, I2, r2, q2⟩ =>
  thn (ho pins s2 σ H2 x y v u _ I2 r1 r2 q2) fun d s3 ⟨z, H3, I3, r3, k, e, q3⟩ => ?_)) hm
 subst e
 cases r3
 refine wpAny_truthy_bool ?_
 cases k with
 | false =>
  obtain ⟨k', e', q'⟩ := q3
  cases e'
  exact ite_ff ⟨H3, I3, q'⟩
 | true =>
  refine ite_tt (test_last (thn (hc pins s3 σ H3 _ I3 q3) fun w' s4 ⟨z', H4, I4, r4, q4⟩ => thn (ho' pins s4 σ H4 y z' u w' _ I4 r2 r4 q4) fun d' s5 ⟨z2, H5, I5, r5, k2, e2, q5⟩ => ?_))
  subst e2
  cases r5
  exact wpAny_truthy_bool ⟨H5, I5, q5⟩
theorem Mt : (sizeLine : Nat) < 2 ^ 63 := by rw [sizeLine_eq]; decide
theorem zy : OpR X (binaryOp .Add) (fun x y H Q => ∃ i j, x = .str i /\ y = .str j /\ i.length + j.length <= sizeLine /\ Q (.str (i ++ j)) H) := by
 intro pins s σ H x y v u Q I rx ry h
 obtain ⟨i, j, rfl, rfl, hz, q⟩ := h
 obtain ⟨t, rfl⟩ := rx
 obtain ⟨t', rfl⟩ := ry
 exact add_str (fun t' tk => ⟨.str (i ++ j), H, I.tok _, ⟨_, rfl⟩, q⟩) hz
theorem vals1 {x : V} {us : List Value} (r : Vals [x] us) : ∃ u, us = [u] /\ RelV x u := by
 cases r with
 | cons r1 r2 => cases r2; exact ⟨_, rfl, r1⟩
theorem vals2 {x y : V} {us : List Value} (r : Vals [x, y] us) : ∃ u w', us = [u, w'] /\ RelV x u /\ RelV y w' := by
 cases r with
 | cons r1 r2 =>
  cases r2 with
  | cons r3 r4 => cases r4; exact ⟨_, _, rfl, r1, r3⟩
end
end L2
namespace L2
open PySem PySem.Spec PyProof.Rows
structure ObjM (h : Heap) (x dx C : Addr) (mA : Str -> Option Value) : Prop where
  obj : h.get? x = some (PySem.W.instObj C dx)
  ns : h.Ns1 dx mA
  ne : dx ≠ x
theorem Xx {h : Heap} {dx : Addr} {mA : Str -> Option Value} (n : h.Ns1 dx mA) : ∃ od, h.get? dx = some od /\ ∀ name, PySem.W.lookIn name od = some (mA name) := by
 obtain ⟨o, es, ep, ho, hd, hk, _, hm⟩ := n
 refine ⟨o, ho, fun name => ?_⟩
 have e := hm name
 unfold nsFind findBy at e
 rw [← Array.find?_toList] at e
 unfold PySem.W.lookIn
 rw [hd]
 dsimp only
 split
 ·rename_i y q
  rw [q] at e
  exact congrArg some e
 ·rename_i q
  rw [q] at e
  have a : es.toList.any (·.refKey) = false := by
   rw [List.any_eq_false]
   intro y hy
   obtain ⟨z, t, hkey⟩ := hk y (Array.mem_toList_iff.mp hy)
   simp [DictEntry.refKey, hkey]
  have a' : ¬ es.toList.any (·.refKey) = true := by rw [a]; exact Bool.false_ne_true
  rw [if_neg a']
  exact congrArg some e
theorem ObjM.look {h : Heap} {x dx C : Addr} {mA : Str -> Option Value} (I : ObjM h x dx C mA) : ∃ od, PySem.W.InstAt h x (PySem.W.instObj C dx) C (some od) /\ ∀ name, PySem.W.lookIn name od = some (mA name) :=
 let ⟨od, ho, hl⟩ := Xx I.ns
 ⟨od, ⟨I.obj, rfl, rfl, ho⟩, hl⟩
section
variable {prog : Program} {w : World} {A : Around} {E : Value -> Shared -> Prop} {s : Shared} {K : PySem.W.Frag} {x dx C f : Addr} {mA : Str -> Option Value} {name : Str} {v : Value}
end
section
variable {P : Program} {w : World} {H H' : Hp} {h h' : Heap} {a C dx : Addr} {fs fs' : List (Str × V)}
theorem qn1 (hok : HOk P w H h) (e : H a = some (.ins C dx fs)) : ∃ mA, ObjM h a dx C mA /\ (∀ f, RelO (fs.lookup f) (mA f)) /\ PySem.Within mA (fs.map (·.1)) /\ fs.length <= 1000 /\ H dx = some (.own a) := by
 obtain ⟨d, z, ne, ob, mA, n, r, q⟩ := (show ObjOk P w H h a (.ins C dx fs) from hok a _ e)
 exact ⟨mA, ⟨ob, n, ne⟩, r, q, z, d⟩
end
structure Cls (K : PySem.W.Frag) (C : Addr) : Prop where
  pg : PySem.W.plainGet K C Str.empty = true
  hd : PySem.W.hasDictIn K C = true
  po : PySem.W.plainOver K C = true
  sa : PySem.W.findIn K (.ref C) "__setattr__" = some (some (.builtin "object.__setattr__"))
theorem Cls.get {K : PySem.W.Frag} {C : Addr} (c : Cls K C) (f : Str) : PySem.W.plainGet K C f = true := c.pg
noncomputable def Xw (K : PySem.W.Frag) (C : Addr) (f : Str) : Prop := PySem.W.findIn K (.ref C) f = some none
section
variable {X : Cx} {pins : List (Addr × Obj)} {σ : St} {H : Hp} {s : Shared} {a C dx : Addr} {fs : List (Str × V)} {f : Str} {v : V} {A : Around} {E : Value -> Shared -> Prop}
end
section
variable {X : Cx} {o e value : Expr} {f : Str} {pos pos' tpos : Pos} {ta tv : TE}
end
section
variable {X : Cx} {pins : List (Addr × Obj)} {σ : St} {H : Hp} {s : Shared} {A : Around} {E : Value -> Shared -> Prop} {Q : Value -> Shared -> Prop} {c : Value} {b : Bool}
inductive TyOf (K : PySem.W.Frag) (H : Hp) : V -> Value -> Prop where
  | non : TyOf K H .non (.type "NoneType")
  | bl (x : Bool) : TyOf K H (.bl x) (.type "bool")
  | int (i : Int) : TyOf K H (.int i) (.type "int")
  | str (x : Str) : TyOf K H (.str x) (.type "str")
  | flt (x : UInt64) : TyOf K H (.flt x) (.type "float")
  | lst {a : Addr} {xs : List V} (e : H a = some (.lst xs)) : TyOf K H (.ref a) (.type "list")
  | frz {a : Addr} {o : Obj} {xs : List V} (e : H a = some (.frz o (.lst xs))) : TyOf K H (.ref a) (.type "list")
  | tup {a : Addr} {xs : List V} (e : H a = some (.tup xs)) : TyOf K H (.ref a) (.type "tuple")
  | dK {a : Addr} {kvs : List (Key × V)} (e : H a = some (.dK kvs)) : TyOf K H (.ref a) (.type "dict")
  | dT {a : Addr} {kvs : List (List Key × V)} (e : H a = some (.dT kvs)) : TyOf K H (.ref a) (.type "dict")
  | ins {a C dx : Addr} {fs : List (Str × V)} (e : H a = some (.ins C dx fs)) (cl : Cls K C) (ha : PySem.W.findIn K (.ref C) "__class__" = some (some (.builtin "object.__class__")))
      (hn : PySem.W.specialIn K (.builtin "object.__class__") "__get__" = some (some (.builtin "getset_descriptor.__get__"))) (htk : PySem.W.takesIn K (.builtin "object.__class__") = some true)
      (hm : PySem.W.mroIn K C (.type "object") = some true) : TyOf K H (.ref a) (.ref C)
theorem Xy {x : V} {u t : Value} (I : Inv X pins σ H s) (rx : RelV x u) (ty : TyOf X.K H x t) (e : PySem.W.kitOne X.K t c = some b) (h : ∀ tk, Q (.bool b) { s with toks := tk }) :
  wpAny (model X.prog X.w) A (call (.builtin "isinstance") [u, c]) Q E s := by
 cases ty with
 | non => cases (show u = Value.none from rx); exact PySem.W.kia_one PySem.W.kitx_none I.kIn True.intro e (fun z => nomatch z) h
 | bl y => cases (show u = Value.bool y from rx); exact PySem.W.kia_one PySem.W.kitx_bool I.kIn True.intro e (fun z => nomatch z) h
 | int i => obtain ⟨t, q⟩ := (show ∃ t, u = Value.int i t from rx); cases q; exact PySem.W.kia_one PySem.W.kitx_int I.kIn True.intro e (fun z => nomatch z) h
 | str y => obtain ⟨t, q⟩ := (show ∃ t, u = Value.str y t from rx); cases q; exact PySem.W.kia_one PySem.W.kitx_str I.kIn True.intro e (fun z => nomatch z) h
 | flt y => obtain ⟨t, q⟩ := (show ∃ t, u = Value.float y t from rx); cases q; exact PySem.W.kia_one PySem.W.kitx_float I.kIn True.intro e (fun z => nomatch z) h
 | @lst a xs ea =>
  cases (show u = Value.ref a from rx)
  obtain ⟨_, _, n, _, h1⟩ := (show ObjOk X.prog X.w H s.heap a (.lst xs) from I.hok a _ ea)
  exact PySem.W.kia_one PySem.W.kitx_list I.kIn ⟨_, h1, rfl⟩ e (fun z => nomatch z) h
 | @frz a ob xs ea =>
  cases (show u = Value.ref a from rx)
  obtain ⟨_, _, _, n, _, h1⟩ := (show ObjOk X.prog X.w H s.heap a (.frz ob (.lst xs)) from I.hok a _ ea)
  exact PySem.W.kia_one PySem.W.kitx_list I.kIn ⟨_, h1, rfl⟩ e (fun z => nomatch z) h
 | @tup a xs ea =>
  cases (show u = Value.ref a from rx)
  obtain ⟨_, _, _, p⟩ := (show ObjOk X.prog X.w H s.heap a (.tup xs) from I.hok a _ ea)
  obtain ⟨o, h1, h2, _⟩ := p
  exact PySem.W.kia_one PySem.W.kitx_tuple I.kIn ⟨o, h1, h2⟩ e (fun z => nomatch z) h
 | @dK a kvs ea =>
  cases (show u = Value.ref a from rx)
  obtain ⟨_, _, vs, _, p⟩ := (show ObjOk X.prog X.w H s.heap a (.dK kvs) from I.hok a _ ea)
  obtain ⟨o, es, ep, h1, h2, _⟩ := p
  exact PySem.W.kia_one PySem.W.kitx_dict I.kIn ⟨o, h1, h2.1⟩ e (fun z => nomatch z) h
 | @dT a kvs ea =>
  cases (show u = Value.ref a from rx)
  obtain ⟨_, _, xs, _, o, es, ep, h1, h2, _⟩ := (show ObjOk X.prog X.w H s.heap a (.dT kvs) from I.hok a _ ea)
  exact PySem.W.kia_one PySem.W.kitx_dict I.kIn ⟨o, h1, h2.1⟩ e (fun z => nomatch z) h
 | @ins a C dx fs ea cl ha hn htk hm =>
  cases (show u = Value.ref a from rx)
  obtain ⟨mA, O, _⟩ := qn1 I.hok ea
  obtain ⟨od, J, _⟩ := O.look
  exact PySem.W.kia_one (PySem.W.kitx_own (cl.get _) cl.hd ha hn htk hm) I.kIn J e (fun z => nomatch z) h
end
end L2
namespace L2
open PySem PySem.Spec PyProof.Rows
structure Room (k : Nat) (A : Around) : Prop where
  hd : A.handled = none
  dp : A.depth + 3 * k + 5 < recursionLimit
  un : A.units + 16 * k + 200 < cLine
theorem Room.mono {j k : Nat} {A : Around} (r : Room k A) (h : j <= k) : Room j A := ⟨r.hd, by have := r.dp; omega, by have := r.un; omega⟩
theorem Room.deeper {k : Nat} {A : Around} (r : Room (k + 1) A) (env : Env) : Room k (A.deeper env) :=
 ⟨r.hd, by have := r.dp; show A.depth + 1 + 3 * k + 5 < _; omega, by have := r.un; show A.units + 3 + 16 * k + 200 < _; omega⟩
theorem Wo {A : Around} {C : Addr} {us : List Value} {kw : List (Str × Value)} : (A.under (.builtin "type.__call__" ⟨.ref C :: us, kw⟩)).depth = A.depth + 1 := by
 first | rfl | simp [Around.under, Code.weight, Code.isCreation, Code.isGuard, Code.isCaller, Code.frames, Code.isFrame, guardIds]
theorem W9 {A : Around} {C : Addr} {us : List Value} {kw : List (Str × Value)} : (A.under (.builtin "type.__call__" ⟨.ref C :: us, kw⟩)).units = A.units + 1 := by
 first | rfl | simp [Around.under, Code.cUnits, Code.frames, Code.isFrame]
theorem Room.make {k : Nat} {A : Around} (r : Room (k + 1) A) (C : Addr) (us : List Value) (kw : List (Str × Value)) : Room k (A.under (.builtin "type.__call__" ⟨.ref C :: us, kw⟩)) :=
 ⟨r.hd, by have := r.dp; rw [Wo]; omega, by have := r.un; rw [W9]; omega⟩
theorem Room.depth {k : Nat} {A : Around} (r : Room k A) : A.depth < recursionLimit := by have := r.dp; omega
theorem Room.units {k : Nat} {A : Around} (r : Room k A) : A.units + 64 < cLine := by have := r.un; omega
noncomputable def Tz : TA := fun _ H Q => Q [] H
noncomputable def N8 (ta : TE) (tr : TA) : TA := fun σ H Q => ta σ H fun x H1 => tr σ H1 fun xs H2 => Q (x :: xs) H2
section
variable {X : Cx} {e : Expr} {es : List Expr} {te : TE} {t : TA} {pos : Pos}
theorem qi : PA X [] Tz := fun _ _ _ _ H Q I h => Calls.spliced_nil ⟨[], H, I, .nil, h⟩
theorem qb (ha : PE X e te) (hr : PA X es t) (hs : starEach (e :: es) X.env = (false, eval e X.env) :: starEach es X.env := by rfl) : PA X (e :: es) (N8 te t) := by
 intro pos pins s σ H Q I h
 rw [hs]
 show wpAny _ _ (spliced ((false, eval e X.env) :: backTo pos (starEach es X.env))) _ _ s
 refine Calls.spliced_cons (thn (ha pins s σ H _ I h) fun u s1 ⟨x, H1, I1, r1, q1⟩ => ?_)
 exact thn (hr pos pins s1 σ H1 _ I1 q1) fun us s2 ⟨xs, H2, I2, r2, q2⟩ => ⟨x :: xs, H2, I2, .cons r1 r2, q2⟩
noncomputable def ze9 (t : TA) : TE := fun σ H Q => t σ H fun xs H1 => xs.length <= sizeLine /\ ∀ p, H1 p = none -> Q (.ref p) (upd H1 p (.tup xs))
noncomputable def za7 (t : TA) : TE := fun σ H Q => t σ H fun xs H1 => xs.length <= sizeLine /\ ∀ p, H1 p = none -> Q (.ref p) (upd H1 p (.lst xs))
theorem yx {x1} (h : PA X es t) : PE X (.Tuple es x1 pos) (ze9 t) := by
 intro pins s σ H Q I hq
 refine wpAny_Tuple_spliced (thn (h pos pins s σ H _ I hq) fun us s1 ⟨xs, H1, I1, r, z, q⟩ => ⟨by rw [← r.length]; exact z, ?_⟩)
 have hf : H1 s1.heap.objs.size = none := I1.hok.fresh (Nat.le_refl _)
 refine ⟨.ref s1.heap.objs.size, upd H1 s1.heap.objs.size (.tup xs), I1.laid (t' := s1.toks) (fun b u e => Heap.get?_push_of_some _ e) (Nat.le_refl _) ?_, rfl, q _ hf⟩
 exact ⟨z, us, r, ⟨_, Heap.get?_push_size _ rfl, rfl, _, rfl⟩⟩
theorem Bl (h : PA X es t) : PE X (.List es pos) (za7 t) := by
 intro pins s σ H Q I hq
 refine wpAny_List_spliced (thn (h pos pins s σ H _ I hq) fun us s1 ⟨xs, H1, I1, r, z, q⟩ => ⟨by rw [← r.length]; exact z, ?_⟩)
 have hf : H1 s1.heap.objs.size = none := I1.hok.fresh (Nat.le_refl _)
 refine ⟨.ref s1.heap.objs.size, upd H1 s1.heap.objs.size (.lst xs), I1.laid (t' := s1.toks) (fun b u e => Heap.get?_push_of_some _ e) (Nat.le_refl _) ?_, rfl, q _ hf⟩
 exact ⟨z, us, 0, r, Heap.get?_push_size _ rfl⟩
end
noncomputable abbrev Sp := List V -> Hp -> VK -> XK -> Prop
noncomputable abbrev CXT := List Env -> Hp -> Shared -> XK -> Value -> Shared -> Prop
structure Env0 (P : Program) (w : World) (K : PySem.W.Frag) (mg : Str -> Option Value) (base : Heap) (A : Around) (outer : List Env) (s : Shared) (H : Hp) : Prop where
  frames : A.frames = some outer
  mod : Mod K mg base
  bs : ∀ b o, base.get? b = some o -> s.heap.get? b = some o /\ H b = none
  bsz : base.objs.size <= s.heap.objs.size
  funs : s.heap.FunFrames base outer
  frf : ∀ b ∈ frs outer, H b = none
  hok : HOk P w H s.heap
  bare : AllBare s.gens
noncomputable def CE (outer : List Env) (P : Program) (w : World) (H : Hp) (s : Shared) (Q : VK) (u : Value) (s' : Shared) : Prop :=
 ∃ v H', s'.os = s.os /\ AllBare s'.gens /\ Un (frs outer) [] H H' s.heap s'.heap /\ HOk P w H' s'.heap /\ RelV v u /\ Q v H'
noncomputable def CR (CX : CXT) (outer : List Env) (P : Program) (w : World) (H : Hp) (s : Shared) (Q : VK) (E : XK) (r : Result) (s' : Shared) : Prop :=
 match r with
 | .ok (.ret u) => CE outer P w H s Q u s'
 | .ok _ => False
 | .error e => CX outer H s E e s'
structure FnOk (P : Program) (w : World) (K : PySem.W.Frag) (mg : Str -> Option Value) (base : Heap) (CX : CXT) (k : Nat) (f : Addr) (fd : FuncData) (ps : List Str) (sp : Sp) : Prop where
  len : ∀ vs H Q E, sp vs H Q E -> vs.length = ps.length
  run : ∀ (A : Around) (outer : List Env) (s : Shared) (H : Hp) (args : Args) (us : List Value) (vs : List V) (Q : VK) (E : XK), Room k A -> Env0 P w K mg base A outer s H -> BindsTo s fd args (ps.zip us) -> Vals vs us -> sp vs H Q E ->
    codeAny (model P w) A (.call (.ref f) args) (CR CX outer P w H s Q E) s
theorem Env0.make {P : Program} {w : World} {K : PySem.W.Frag} {mg : Str -> Option Value} {base : Heap} {A : Around} {outer : List Env} {s : Shared} {H : Hp} (e : Env0 P w K mg base A outer s H) (C : Addr) (us : List Value) (kw : List (Str × Value)) :
  Env0 P w K mg base (A.under (.builtin "type.__call__" ⟨.ref C :: us, kw⟩)) outer s H := ⟨by first | exact e.frames | (simpa [Around.under, Code.envs, Code.isFrame, pushEnvs] using e.frames), e.mod, e.bs, e.bsz, e.funs, e.frf, e.hok, e.bare⟩
section
variable {X : Cx} {pins : List (Addr × Obj)} {σ : St} {H : Hp} {s s' : Shared}
theorem Inv.env0 (I : Inv X pins σ H s) : Env0 X.prog X.w X.K X.mg X.base X.A X.stack s H :=
 ⟨I.ok.frames, I.ok.mod, I.bs, Nat.le_trans I.ok.bsz I.sz, I.stack, I.stkFree, I.hok, I.bare⟩
theorem Inv.after {Q : VK} {u : Value} (I : Inv X pins σ H s) (h : CE X.stack X.prog X.w H s Q u s') : EP X pins σ Q u s' := by
 obtain ⟨v, H', os, bare, un, hok, r, q⟩ := h
 obtain ⟨hh, g, d, t, os'⟩ := s'
 obtain rfl : os' = s.os := os
 exact ⟨v, H', I.call (h' := hh) (g' := g) (d' := d) (t' := t) (ch := []) un hok bare (fun b z => absurd z (by simp)), r, q⟩
end
noncomputable def qm8 (sp : Sp) (dvs : List V) (E : XK) (t : TA) : TE := fun σ H Q => t σ H fun vs H1 => sp (vs ++ dvs) H1 Q E
noncomputable def Binds (K : PySem.W.Frag) (fd : FuncData) (ps : List Str) (ds : List Value) : Prop :=
 ∀ (s : Shared) (us : List Value), K.In s.heap -> (us ++ ds).length = ps.length -> BindsTo s fd ⟨us, []⟩ (ps.zip (us ++ ds))
theorem Binds.all {K : PySem.W.Frag} {fd : FuncData} {ps : List Str} (h : ∀ us : List Value, us.length = ps.length -> bindArgs fd ⟨us, []⟩ = pure (ps.zip us)) : Binds K fd ps [] := fun s us _ hl => by
 rw [List.append_nil] at hl ⊢
 exact .of_eq (h us hl)
noncomputable def Uh (CX : CXT) (X : Cx) (E : XK) : Prop := ∀ (pins : List (Addr × Obj)) (σ : St) (H : Hp) (s : Shared) (e : Value) (s' : Shared), Inv X pins σ H s -> CX X.stack H s E e s' -> X.xe e s'
section
variable {X : Cx} {CX : CXT} {k : Nat} {f C : Addr} {fd : FuncData} {ps : List Str} {sp : Sp} {dvs : List V} {ds : List Value} {E : XK} {x m : Str} {p pos apos : Pos} {e o : Expr} {es : List Expr} {ta : TE} {t : TA}
theorem qv3 {pins : List (Addr × Obj)} {σ : St} {H : Hp} {s : Shared} {Q : VK} {us : List Value} {vs : List V} (F : FnOk X.prog X.w X.K X.mg X.base CX k f fd ps sp) (hr : Room k X.A) (hb : Binds X.K fd ps ds) (hd : Vals dvs ds) (hx : Uh CX X E)
  (I : Inv X pins σ H s) (r : Vals vs us) (h : sp (vs ++ dvs) H Q E) : wpAny (model X.prog X.w) X.A (call (.ref f) us) (EP X pins σ Q) X.xe s := by
 have r2 : Vals (vs ++ dvs) (us ++ ds) := r.append hd
 have hl : (us ++ ds).length = ps.length := by rw [← r2.length]; exact F.len _ _ _ _ h
 refine wpAny_call (codeAny_mono (F.run X.A X.stack s H ⟨us, []⟩ (us ++ ds) (vs ++ dvs) Q E hr I.env0 (hb s us I.kIn hl) r2 h) fun r s' hq => ?_)
 cases r with
 | error e => exact hx pins σ H s e s' I hq
 | ok fl =>
  cases fl with
  | ret u => exact I.after hq
  | next => exact False.elim hq
  | brk => exact False.elim hq
  | cont => exact False.elim hq
theorem qa1 (F : FnOk X.prog X.w X.K X.mg X.base CX k f fd ps sp) (hr : Room k X.A) (hg : Gl X x) (hm : X.mg x = some (.ref f)) (hk : PySem.W.keepIn X.K (.ref f) = true) (hb : Binds X.K fd ps ds) (hd : Vals dvs ds) (hx : Uh CX X E)
  (ha : PA X (e :: es) t) (hdb : (x == ("__debug__" : Str)) = false := by decide) (he : starEach (e :: es) X.env = (false, eval e X.env) :: starEach es X.env := by rfl) (hpl : (backTo pos (starEach es X.env)).any (·.1) = false := by rfl) :
  PE X (.Call (.Name x p) (e :: es) [] pos) (qm8 sp dvs E t) := by
 intro pins s σ H Q I h
 refine wpAny_Call_Name_kw (vo I hg hm ?_ hdb)
 refine PySem.W.callWith_K (h₀ := X.base) I.ok.mod.kin hk (thn (ha pos pins s σ H _ I h) fun us s1 ⟨vs, H1, I1, r, q⟩ => ⟨I1.kIn, ?_⟩) he hpl
 exact qv3 F hr hb hd hx I1 r q
end
section
variable {X : Cx} {CX : CXT} {k : Nat} {f C : Addr} {fd : FuncData} {ps ks : List Str} {sp : Sp} {E : XK} {x m : Str} {p pos apos kpos : Pos} {e o : Expr} {es : List Expr} {kws : List Keyword} {te ta : TE} {t tk : TA} {nm : Option Str}
variable {g : List Value -> List Value -> List Value} {gV : List V -> List V -> List V}
end
structure FnScope (N P : List Str) (sc : Scope) : Prop where
  kind : sc.kind = .function
  co : sc.isCoroutine = false
  gen : sc.isGenerator = false
  nd : N.Nodup
  pre : N.take P.length = P
  par : ∀ x ∈ P, sc.names.lookup x = some .local \/ sc.names.lookup x = some .cell
  nofree : ∀ y ∈ sc.names, y.2 ≠ .free
theorem Qk {kindOf : Str -> Option NameKind} {x : Str} : ∀ {binds : List (Str × Value)} {m : Str -> Option Value}, (∀ v, (x, v) ∉ binds) -> bindL kindOf binds m x = m x
 | [], _, _ => rfl
 | (n, v) :: r, m, h => by
  unfold bindL
  rw [Qk fun w hw => h w (List.mem_cons_of_mem _ hw)]
  split
  ·have : x ≠ n := by rintro rfl; exact h v List.mem_cons_self
   simp [this]
  ·rfl
theorem Np {kindOf : Str -> Option NameKind} {x : Str} : ∀ {binds : List (Str × Value)} {m : Str -> Option Value}, (∀ v, (x, v) ∉ binds) -> bindC kindOf binds m x = m x
 | [], _, _ => rfl
 | (n, v) :: r, m, h => by
  unfold bindC
  rw [Np fun w hw => h w (List.mem_cons_of_mem _ hw)]
  split
  ·rfl
  ·have : x ≠ n := by rintro rfl; exact h v List.mem_cons_self
   simp [this]
theorem Qg {kindOf : Str -> Option NameKind} {x : Str} {v : Value} : ∀ {P : List Str} {vs : List Value} {i : Nat} {m : Str -> Option Value}, P.Nodup -> P[i]? = some x -> vs[i]? = some v -> kindOf x = some .local ->
  bindL kindOf (P.zip vs) m x = some v
 | [], _, _, _, _, h, _, _ => by simp at h
 | _ :: _, [], _, _, _, _, h, _ => by simp at h
 | p :: P, w :: vs, 0, m, nd, h1, h2, hk => by
  simp at h1 h2; subst h1; subst h2
  show bindL kindOf ((p, w) :: P.zip vs) m p = _
  unfold bindL
  rw [Qk fun v hv => (List.nodup_cons.mp nd).1 (List.of_mem_zip hv).1, if_pos hk]
  simp
 | p :: P, w :: vs, i + 1, m, nd, h1, h2, hk => by
  show bindL kindOf ((p, w) :: P.zip vs) m x = _
  unfold bindL
  exact Qg (i := i) (List.nodup_cons.mp nd).2 (by simpa using h1) (by simpa using h2) hk
theorem Mv {kindOf : Str -> Option NameKind} {x : Str} {v : Value} : ∀ {P : List Str} {vs : List Value} {i : Nat} {m : Str -> Option Value}, P.Nodup -> P[i]? = some x -> vs[i]? = some v -> kindOf x ≠ some .local ->
  bindC kindOf (P.zip vs) m x = some v
 | [], _, _, _, _, h, _, _ => by simp at h
 | _ :: _, [], _, _, _, _, h, _ => by simp at h
 | p :: P, w :: vs, 0, m, nd, h1, h2, hk => by
  simp at h1 h2; subst h1; subst h2
  show bindC kindOf ((p, w) :: P.zip vs) m p = _
  unfold bindC
  rw [Np fun v hv => (List.nodup_cons.mp nd).1 (List.of_mem_zip hv).1, if_neg hk]
  simp
 | p :: P, w :: vs, i + 1, m, nd, h1, h2, hk => by
  show bindC kindOf ((p, w) :: P.zip vs) m x = _
  unfold bindC
  exact Mv (i := i) (List.nodup_cons.mp nd).2 (by simpa using h1) (by simpa using h2) hk
noncomputable def start (N : List Str) (vs : List V) : St := vs.map some ++ List.replicate (N.length - vs.length) none
noncomputable def uq (CX : CXT) (P : Program) (w : World) (K : PySem.W.Frag) (mg : Str -> Option Value) (base : Heap) (N : List Str) (qual : Str) (scope : Scope) (f : Addr) (cd : Value) (A : Around) (outer : List Env) (s : Shared) (H : Hp) (E : XK) : Cx where
  prog := P
  w := w
  K := K
  mg := mg
  base := base
  A := A.deeper (envOfC qual scope s.heap.objs.size f cd)
  N := N
  s₀ := s
  H₀ := H
  env := envOfC qual scope s.heap.objs.size f cd
  outer := outer
  stack := envOfC qual scope s.heap.objs.size f cd :: outer
  ex := []
  calm := true
  fn := fun _ => true
  pn := []
  xe := fun e s' => wpAny (model P w) (A.deeper (envOfC qual scope s.heap.objs.size f cd)) (leaving (envOfC qual scope s.heap.objs.size f cd) e) (fun _ s'' => CX outer H s E e s'') (fun e' s'' => CX outer H s E e' s'') s'
theorem Ur {sc : Scope} {n : Nat} {x : Str} (h : sc.names.lookup x = some .cell) : ∃ c, (cellsFrom n sc.names []).lookup x = some c := by
 have q := PySem.W.cellsFrom_some sc.names n [] (.inl h)
 exact Option.isSome_iff_exists.mp q
theorem Yp {CX : CXT} {P : Program} {w : World} {K : PySem.W.Frag} {mg : Str -> Option Value} {base : Heap} {N ps : List Str} {qual : Str} {scope : Scope} {f : Addr} {cd : Value} {A : Around} {outer : List Env} {s s1 : Shared} {H : Hp} {E : XK} {us : List Value} {vs : List V}
  (S : FnScope N ps scope) (hd : A.handled = none) (e0 : Env0 P w K mg base A outer s H) (hl : vs.length = ps.length) (r : Vals vs us)
  (x : InCallC s s.heap.objs.size (bindL (envOfC qual scope s.heap.objs.size f cd).kindOf (ps.zip us) fun _ => none) (cellsFrom (s.heap.objs.size + 1) scope.names []) (bindC (envOfC qual scope s.heap.objs.size f cd).kindOf (ps.zip us) fun _ => none) s1) :
  Inv (uq CX P w K mg base N qual scope f cd A outer s H E) [] (start N vs) H s1 := by
 have hpl : ps.length <= N.length := by have := congrArg List.length S.pre; rw [List.length_take] at this; omega
 obtain ⟨h1, tk, rfl, hk⟩ := x.done
 have noA : ∀ b : Addr, b ∉ (uq CX P w K mg base N qual scope f cd A outer s H E).ex := fun b z => absurd (show b ∈ ([] : List Addr) from z) (by simp)
 refine ⟨⟨e0.mod, S.kind, rfl, rfl, Nat.le_refl _, fun y z c h1 h2 => ?_, fun y hy => ?_, fun y c _ h => ?_, fun _ => hd, Around.frames_deeper e0.frames, .inr ⟨rfl, rfl⟩, fun b z => absurd z (noA b), e0.bs, e0.bsz, fun b _ _ => noA b, fun b z => absurd z (noA b), e0.funs, e0.frf⟩,
  rfl, e0.bare, Un.kept hk, ⟨_, x.toInCall.ns, fun i y v h1 h2 h3 => ?_⟩, fun y c h => ⟨_, x.cell y c h⟩, e0.hok.fresh (Nat.le_refl _), fun y c h => ?_, fun p hp => absurd (show p ∈ ([] : List (Addr × Obj)) from hp) (by simp), e0.hok.kept hk, ?_⟩
 ·exact name_of_addr x.apart (PySem.mem_of_lookup h1) (PySem.mem_of_lookup h2)
 ·have hy : scope.names.lookup y = some .cell \/ scope.names.lookup y = some .free := hy
  rcases hy with hy | hy
  ·exact Ur hy
  ·exact absurd rfl (S.nofree _ (PySem.mem_of_lookup hy))
 ·exact Nat.le_of_lt (x.above y c (PySem.mem_of_lookup h))
 ·have hi : i < vs.length := by
   unfold start at h2
   by_cases hi : i < vs.length
   ·exact hi
   ·rw [List.getElem?_append_right (by simpa using hi)] at h2
    rw [List.getElem?_replicate] at h2
    split at h2 <;> cases h2
  have ha : vs[i]? = some v := by
   unfold start at h2
   rw [List.getElem?_append_left (by simpa using hi), List.getElem?_map] at h2
   cases e : vs[i]? with
   | none => rw [e] at h2; cases h2
   | some a => rw [e] at h2; cases h2; rfl
  obtain ⟨u, hu, rv⟩ := r.get ha
  have hp : ps[i]? = some y := by
   rw [← S.pre, List.getElem?_take_of_lt (by omega)]; exact h1
  have ndP : ps.Nodup := by rw [← S.pre]; exact S.nd.sublist (List.take_sublist _ _)
  refine ⟨u, rv, ?_⟩
  rcases S.par y (List.mem_of_getElem? hp) with k | k
  ·exact .inl ⟨k, Qg ndP hp hu k⟩
  ·obtain ⟨c, e⟩ := Ur (n := s.heap.objs.size + 1) k
   refine .inr ⟨.inl k, c, e, ?_⟩
   have q := x.cell y c e
   rw [Mv ndP hp hu (by show scope.names.lookup y ≠ _; rw [k]; decide)] at q
   exact q
 ·exact e0.hok.fresh (Nat.le_of_lt (x.above y c (PySem.mem_of_lookup h)))
 ·unfold start
  show _ = N.length
  rw [List.length_append, List.length_map, List.length_replicate]
  omega
theorem qu3 {CX : CXT} {P : Program} {w : World} {K : PySem.W.Frag} {mg : Str -> Option Value} {base : Heap} {k : Nat} {f : Addr} {name qual : Str} {params : Arguments} {body : List Stmt} {scope : Scope} {dV kV doc pm cdv ct oc : Value} {an od : Option Addr}
  {osl : Array (Option Value)} {N ps : List Str} {sp : Sp} (lk : K.lookup f = some ⟨oc, od, .func (PySem.W.fnOf name qual params body scope dV kV doc pm an cdv ct), osl⟩) (hcd : PySem.W.codeIn K cdv qual = true) (S : FnScope N ps scope)
  (len : ∀ vs H Q E, sp vs H Q E -> vs.length = ps.length)
  (hbody : ∀ (A : Around) (outer : List Env) (s : Shared) (H : Hp) (vs : List V) (Q : VK) (E : XK), Room k (A.deeper (envOfC qual scope s.heap.objs.size f cdv)) -> sp vs H Q E ->
   ∃ t, PSs (uq CX P w K mg base N qual scope f cdv A outer s H E) body t /\ t { nx := fun _ H' => Q .non H', rt := Q } (start N vs) H) :
  FnOk P w K mg base CX (k + 1) f (PySem.W.fnOf name qual params body scope dV kV doc pm an cdv ct) ps sp := by
 refine ⟨len, fun A outer s H args us vs Q E hr e0 hb r hsp => ?_⟩
 have hl := len _ _ _ _ hsp
 have KX : K.In s.heap := e0.mod.kin.keeps fun b o e => (e0.bs b o e).1
 have lim : s.heap.NoLimit := e0.mod.nolimit.keeps fun b o e => (e0.bs b o e).1
 have hkind : ∀ y ∈ ps.zip us, scope.names.lookup y.1 = some .local \/ (scope.names.lookup y.1 = some .cell /\ ((cellsFrom (s.heap.objs.size + 1) scope.names []).lookup y.1).isSome = true) := fun ⟨n, v⟩ hy => by
  rcases S.par n (List.of_mem_zip hy).1 with q | q
  ·exact .inl q
  ·exact .inr ⟨q, PySem.W.cellsFrom_some _ _ _ (.inl q)⟩
 refine codeAny_call_function hr.depth (KX _ _ lk) rfl S.co S.gen rfl (PySem.W.codeRec_of KX hcd) (hb _ _ _ _ ?_)
 refine wpAny_newFunctionEnv_cells S.kind hkind fun env he s1 x => ?_
 subst he
 refine ⟨lim.keeps x.toInCall.keep, codeAny_func ?_⟩
 obtain ⟨t, ht, hq⟩ := hbody A outer s H vs Q E (hr.deeper _) hsp
 have I : Inv (uq CX P w K mg base N qual scope f cdv A outer s H E) [] (start N vs) H s1 := Yp S hr.hd e0 hl r x
 refine wpAny_mono (ht [] s1 (start N vs) H _ I hq) (fun fl s' hs => ?_) fun e s' hs => hs
 have fin : ∀ {σ' : St} {H' : Hp} {v : V} {u : Value}, Inv (uq CX P w K mg base N qual scope f cdv A outer s H E) [] σ' H' s' -> RelV v u -> Q v H' -> CE outer P w H s Q u s' :=
  fun {σ' H' v u} J rv q => ⟨v, H', J.os, J.bare, J.base, J.hok, rv, q⟩
 cases fl with
 | ret u =>
  obtain ⟨v, σ', H', J, rv, q⟩ := hs
  exact fin J rv q
 | next =>
  obtain ⟨σ', H', J, q⟩ := hs
  exact fin (v := V.non) (u := Value.none) J rfl q
 | brk =>
  obtain ⟨_, _, _, q⟩ := hs
  exact False.elim q
 | cont =>
  obtain ⟨_, _, _, q⟩ := hs
  exact False.elim q
end L2
namespace L2
open PySem PySem.Spec PyProof.Rows
section
variable {X : Cx} {x : Str} {p pos : Pos} {e : Expr} {es : List Expr} {t : TA} {id T : String} {r : List V -> Hp -> VK -> Prop}
noncomputable def tCB (r : List V -> Hp -> VK -> Prop) (t : TA) : TE := fun σ H Q => t σ H fun vs H1 => r vs H1 Q
theorem qy (hc : wu X (.builtin id) r) (hg : Gl X x) (hm : X.mg x = none) (hv : bootBuiltins x = some (.builtin id)) (ha : PA X (e :: es) t) (hn : x ≠ "__name__" := by decide) (hdb : (x == ("__debug__" : Str)) = false := by decide)
  (he : starEach (e :: es) X.env = (false, eval e X.env) :: starEach es X.env := by rfl) (hpl : (backTo pos (starEach es X.env)).any (·.1) = false := by rfl) : PE X (.Call (.Name x p) (e :: es) [] pos) (tCB r t) := by
 intro pins s σ H Q I h
 refine wpAny_Call_Name_kw (Jo I hg hm hv ?_ hn hdb)
 exact PyProof.Rows.callWith_builtin1 (thn (ha pos pins s σ H _ I h) fun us s1 ⟨vs, H1, I1, r1, q1⟩ => hc pins s1 σ H1 vs us Q I1 r1 q1) he hpl
theorem yp (hc : wu X (.type T) r) (hg : Gl X x) (hm : X.mg x = none) (hv : bootBuiltins x = some (.type T)) (ha : PA X (e :: es) t) (hn : x ≠ "__name__" := by decide) (hdb : (x == ("__debug__" : Str)) = false := by decide)
  (he : starEach (e :: es) X.env = (false, eval e X.env) :: starEach es X.env := by rfl) (hpl : (backTo pos (starEach es X.env)).any (·.1) = false := by rfl) : PE X (.Call (.Name x p) (e :: es) [] pos) (tCB r t) := by
 intro pins s σ H Q I h
 refine wpAny_Call_Name_kw (Jo I hg hm hv ?_ hn hdb)
 exact PyProof.Rows.callWith_type1 (thn (ha pos pins s σ H _ I h) fun us s1 ⟨vs, H1, I1, r1, q1⟩ => hc pins s1 σ H1 vs us Q I1 r1 q1) he hpl
end
end L2
namespace HT
open PySem PyProof.Rows
theorem qg6 (A : Around) (s : Shared) (a : Int) (t : Tok) (c : Int) (u : Tok) : ∃ e, SeqAt.EqAt A s (.int a t) (.int c u) e /\ (e = true ↔ a = c) :=
 ⟨(a == c), SeqAt.EqAt.int_int a t c u, by simp⟩
section
open PySem.SeqAt
open PySem.AutoSeq1 (wpAny_loadPart')
open PySem.MeetsSeq PySem.MeetsSeq2 PySem.MeetsSeq3
end
section
variable {prog : Program} {w : World} {A : Around} {E : Value -> Shared -> Prop} {s : Shared}
theorem cat_tup {t b : Addr} {vs ws : List Value} {Q : Value -> Shared -> Prop} (ht : IsTup s.heap t vs.toArray) (hb : IsTup s.heap b ws.toArray) (hv : vs ≠ [])
  (h1 : ws = [] -> Q (.ref t) s) (h2 : ws ≠ [] -> Q (.ref s.heap.objs.size) { s with heap := s.heap.push { cls := .type "tuple", data := .seq (vs ++ ws).toArray } })
  (hsz : vs.length + ws.length <= sizeLine) : wpAny (model prog w) A (binaryOp .Add (.ref t) (.ref b)) Q E s := by
 obtain ⟨⟨cls, dd, data, sl⟩, ho, hc, n, hd⟩ := id ht
 obtain ⟨⟨cls2, dd2, data2, sl2⟩, ho2, hc2, n2, hd2⟩ := id hb
 simp only at hc hd hc2 hd2
 subst hc hd hc2 hd2
 have e : vs.toArray ++ ws.toArray = (vs ++ ws).toArray := by simp
 by_cases hw : ws = []
 ·exact concat_meets ⟨_, ho, rfl⟩ ⟨_, ho2, rfl⟩ noFill_tuple_add seq_tuple_add PySem.F.slot_tuple_add PySem.F.entry_tuple_add (PySem.F.args_tuple_add_2 _ _)
   (tuple_addW1 t b vs.toArray ws.toArray n n2 dd dd2 sl sl2 (by simpa using hv) (by simp [hw])) ⟨ho, ho2, h1 hw⟩
 ·refine concat_meets ⟨_, ho, rfl⟩ ⟨_, ho2, rfl⟩ noFill_tuple_add seq_tuple_add PySem.F.slot_tuple_add PySem.F.entry_tuple_add (PySem.F.args_tuple_add_2 _ _)
   (tuple_addW2 t b vs.toArray ws.toArray n n2 dd dd2 sl sl2 (by simpa using hv) (by simpa using hw) (by rw [List.size_toArray, List.size_toArray]; exact hsz)) ⟨ho, ho2, ?_⟩
  rw [e]
  exact h2 hw
noncomputable def sIx (n d : Nat) : Option Int -> Nat
 | none => d
 | some v => if v < 0 then (v + (n : Int)).toNat else min v.toNat n
theorem sIx_none (n d : Nat) : sIx n d none = d := rfl
theorem sIx_nat (n d k : Nat) : sIx n d (some (k : Int)) = min k n := by
 show (if (k : Int) < 0 then ((k : Int) + (n : Int)).toNat else min (k : Int).toNat n) = min k n
 rw [if_neg (by omega), Int.toNat_natCast]
theorem qv5 (n d : Nat) (hd : d <= n) (o : Option Int) : sIx n d o <= n := by
 cases o with
 | none => exact hd
 | some v =>
  show (if v < 0 then (v + (n : Int)).toNat else min v.toNat n) <= n
  by_cases hv : v < 0
  ·rw [if_pos hv]; omega
  ·rw [if_neg hv]; exact Nat.min_le_right _ _
theorem Yw (v : Int) (n d : Nat) : (if v < 0 then max (v + (n : Int)) 0 else min v (n : Int)) = ((sIx n d (some v) : Nat) : Int) := by
 show (if v < 0 then max (v + (n : Int)) 0 else min v (n : Int)) = (((if v < 0 then (v + (n : Int)).toNat else min v.toNat n) : Nat) : Int)
 by_cases hv : v < 0
 ·simp only [if_pos hv]; omega
 ·simp only [if_neg hv]; omega
theorem Wt (lo hi : Option Int) (n : Nat) : Builtin.Slice.sliceAdjust lo hi 1 (n : Int) = (((sIx n 0 lo : Nat) : Int), ((sIx n n hi : Nat) : Int)) := by
 have h1 : ¬ ((1 : Int) < 0) := by omega
 unfold Builtin.Slice.sliceAdjust
 simp only [h1, if_false]
 refine Prod.ext ?_ ?_
 ·cases lo with
  | none => rfl
  | some v => exact Yw v n 0
 ·cases hi with
  | none => rfl
  | some v => exact Yw v n n
theorem W2 (i j : Nat) : Builtin.Slice.slicePlaces (i : Int) (j : Int) 1 = j - i := by
 unfold Builtin.Slice.slicePlaces
 have h1 : (1 : Int) > 0 := by omega
 simp only [h1, if_true, Int.ediv_one]
 split <;> omega
theorem Jk {v : Value} {o : Option Int} {Q : Option Int -> Shared -> Prop} (p : IsPart v o) (h : Q o s) : wpAny (model prog w) A (Builtin.Slice.slicePartIndex v) Q E s := by
 cases p with
 | none => exact slicePart_none h
 | int i t => exact slicePart_int h
theorem Dq {sl : Addr} {vl vu : Value} {lo hi : Option Int} {n : Nat} {Q : Int × Int × Nat -> Shared -> Prop} (hs : s.heap.IsSliceOf sl vl vu .none) (pl : IsPart vl lo) (pu : IsPart vu hi)
  (h : Q (((sIx n 0 lo : Nat) : Int), 1, sIx n n hi - sIx n 0 lo) s) : wpAny (model prog w) A (Builtin.Slice.sliceApplied (.ref sl) (pure (n : Int))) Q E s := by
 obtain ⟨os, hos, hcs, hds⟩ := id hs
 unfold Builtin.Slice.sliceApplied Builtin.Slice.sliceFields
 refine wpAny_bind (wpAny_bind (wpAny_field hos hds (x := vl) rfl (wpAny_bind (wpAny_field hos hds (x := vu) rfl (wpAny_bind (wpAny_field hos hds (x := .none) rfl (wpAny_pure ?_)))))))
 refine wpAny_bind (slicePart_none ?_)
 show wpAny _ _ (if ((1 : Int) == 0) = true then _ else _) _ _ s
 rw [if_neg (by decide)]
 refine wpAny_bind (Jk pl (wpAny_bind (Jk pu (wpAny_bind (wpAny_pure ?_)))))
 show wpAny _ _ (match Builtin.Slice.sliceAdjust lo hi 1 (n : Int) with | (lo, hi) => pure (lo, (1 : Int), Builtin.Slice.slicePlaces lo hi 1)) _ _ s
 rw [Wt lo hi n]
 show wpAny _ _ (pure (((sIx n 0 lo : Nat) : Int), (1 : Int), Builtin.Slice.slicePlaces ((sIx n 0 lo : Nat) : Int) ((sIx n n hi : Nat) : Int) 1)) _ _ s
 rw [W2]
 exact wpAny_pure h
theorem qe3 (xs : Array Value) (i k : Nat) : ((List.range k).filterMap fun (m : Nat) => xs[((i : Int) + (m : Int) * 1).toNat]?).toArray = ((xs.toList.drop i).take k).toArray := by
 have e : (fun (m : Nat) => xs[((i : Int) + (m : Int) * 1).toNat]?) = fun m => xs[i + m]? := by
  funext m
  have : ((i : Int) + (m : Int) * 1).toNat = i + m := by omega
  rw [this]
 rw [e]
 have := pick_run xs i k
 rw [List.filterMap_map] at this
 have e2 : ((fun x => xs[x]?) ∘ fun x => i + x) = fun m => xs[i + m]? := rfl
 rw [e2] at this
 rw [this]
theorem getItem_tuple_cut {t sl : Addr} {items : Array Value} {vl vu : Value} {lo hi : Option Int} {Q : Value -> Shared -> Prop} (ht : IsTup s.heap t items) (hs : s.heap.IsSliceOf sl vl vu .none) (pl : IsPart vl lo) (pu : IsPart vu hi)
  (hw : ¬ (sIx items.size 0 lo = 0 /\ sIx items.size items.size hi = items.size))
  (h : Q (.ref s.heap.objs.size) { s with heap := s.heap.push { cls := .type "tuple", data := .seq ((items.toList.drop (sIx items.size 0 lo)).take (sIx items.size items.size hi - sIx items.size 0 lo)).toArray } })
  (hsz : items.size <= sizeLine) : wpAny (model prog w) A (getItem (.ref t) (.ref sl)) Q E s := by
 have htake : sizeOk (.seq ((items.toList.drop (sIx items.size 0 lo)).take (sIx items.size items.size hi - sIx items.size 0 lo)).toArray) := by
  show ((items.toList.drop (sIx items.size 0 lo)).take (sIx items.size items.size hi - sIx items.size 0 lo)).toArray.size <= sizeLine
  rw [List.size_toArray, List.length_take, List.length_drop, Array.length_toList]
  omega
 have hj : sIx items.size items.size hi <= items.size := qv5 _ _ (Nat.le_refl _) hi
 obtain ⟨os, hos, hcs, hds⟩ := id hs
 have hTs : s.TypeIs (.ref sl) "slice" := ⟨os, hos, hcs⟩
 unfold getItem
 try with_reducible refine wpAny_holding ?_
 first | refine wpAny_bind (wpAny_pure ?_) | skip
 refine wpAny_bind (wpAny_sequenceKey ht.typeIs (by decide) ?_)
 refine wpAny_bind (wpAny_callSpecial?_slot (name := Str.ofString "__getitem__") ht.typeIs PyProof.Rows.slot_tuple_getitem
  (wpAny_call_entry PyProof.Rows.slot_tuple_getitem ht.typeIs entry_tuple_getitem ?_ (args_tuple_getitem _ _)))
 show wpAny _ _ (Builtin.Tuple.tupleItemsOf (.ref t) >>= _) _ _ s
 refine wpAny_bind (tupleItemsOf_ ht ?_)
 refine wpAny_bind (wpAny_typeOf hTs ?_)
 rw [if_pos (by decide)]
 refine wpAny_bind (Dq hs pl pu ?_)
 have hno : ¬ ((((sIx items.size 0 lo : Nat) : Int) == 0 && (1 : Int) == 1 && (sIx items.size items.size hi - sIx items.size 0 lo) == items.size) = true) := by
  intro q
  rw [Bool.and_eq_true, Bool.and_eq_true] at q
  have q1 : ((sIx items.size 0 lo : Nat) : Int) = 0 := eq_of_beq q.1.1
  have q2 : sIx items.size items.size hi - sIx items.size 0 lo = items.size := eq_of_beq q.2
  exact hw ⟨by omega, by omega⟩
 show wpAny _ _ (if (((sIx items.size 0 lo : Nat) : Int) == 0 && (1 : Int) == 1 && (sIx items.size items.size hi - sIx items.size 0 lo) == items.size) = true then _ else _) _ _ s
 rw [if_neg hno, qe3]
 first
  | exact wpAny_bind (m := Builtin.Tuple.tupleExact _) (wpAny_newObj_type (wpAny_pure ⟨_, rfl, wpAny_pure h⟩) htake)
  | exact wpAny_bind (m := Builtin.Tuple.tupleExact _) (wpAny_newObj_type (wpAny_bind (wpAny_pure (wpAny_pure ⟨_, rfl, wpAny_pure h⟩))) htake)
  | exact wpAny_bind (wpAny_bind (m := Builtin.Tuple.tupleExact _) (wpAny_newObj_type (wpAny_pure (wpAny_pure ⟨_, rfl, wpAny_pure h⟩)) htake))
  | exact wpAny_bind (wpAny_bind (m := Builtin.Tuple.tupleExact _) (wpAny_newObj_type (wpAny_pure ⟨_, rfl, wpAny_pure h⟩) htake))
end
end HT
namespace L2
open PySem PySem.Spec PyProof.Rows
noncomputable abbrev TO := St -> Hp -> (Option Int -> Hp -> Prop) -> Prop
noncomputable def PO (X : Cx) (e : Option Expr) (t : TO) : Prop :=
 ∀ (pins : List (Addr × Obj)) (s : Shared) (σ : St) (H : Hp) (Q : Option Int -> Hp -> Prop), Inv X pins σ H s -> t σ H Q ->
  wpAny (model X.prog X.w) X.A (evalPart e X.env) (fun u s' => ∃ o H', Inv X pins σ H' s' /\ IsPart u o /\ Q o H') X.xe s
noncomputable def qn4 : TO := fun _ H Q => Q none H
noncomputable def qy5 (t : TE) : TO := fun σ H Q => t σ H fun x H1 => ∃ i, x = .int i /\ Q (some i) H1
theorem intsAre_of {ns : List Int} : ∀ {us : List Value}, Vals (ns.map V.int) us -> IntsAre us ns := by
 induction ns with
 | nil => intro us r; rw [List.map_nil] at r; cases r; exact .nil
 | cons n ns ih =>
  intro us r
  rw [List.map_cons] at r
  cases r with
  | cons r1 r2 =>
   obtain ⟨t, e⟩ := r1
   subst e
   exact .cons n t (ih r2)
section
variable {X : Cx} {e : Expr} {te : TE} {lo hi : Option Expr} {tl th : TO} {pos p2 : Pos}
theorem jd : PO X none qn4 := by
 intro pins s σ H Q I h
 rw [evalPart_none]
 exact wpAny_pure ⟨none, H, I, .none, h⟩
theorem zp (h : PE X e te) : PO X (some e) (qy5 te) := by
 intro pins s σ H Q I hw
 rw [evalPart_some]
 refine thn (h pins s σ H _ I hw) fun u s1 ⟨x, H1, I1, r1, q1⟩ => ?_
 obtain ⟨i, rfl, q⟩ := q1
 obtain ⟨t, rfl⟩ := r1
 exact ⟨some i, H1, I1, .int i t, q⟩
noncomputable def SlR (X : Cx) (r : V -> Option Int -> Option Int -> Hp -> VK -> Prop) : Prop :=
 ∀ (pins : List (Addr × Obj)) (s : Shared) (σ : St) (H : Hp) (x : V) (v vl vu : Value) (lo hi : Option Int) (sl : Addr) (Q : VK), Inv X pins σ H s -> RelV x v -> s.heap.IsSliceOf sl vl vu .none -> IsPart vl lo -> IsPart vu hi -> r x lo hi H Q ->
  ∃ T id, typeLookup (.type T) "__getitem__" = pure (some (.builtin id)) /\ s.TypeIs v T /\ wpAny (model X.prog X.w) X.A (getItem v (.ref sl)) (EP X pins σ Q) X.xe s
noncomputable def tSl (r : V -> Option Int -> Option Int -> Hp -> VK -> Prop) (te : TE) (tl th : TO) : TE := fun σ H Q => te σ H fun x H1 => tl σ H1 fun l H2 => th σ H2 fun u H3 => r x l u H3 Q
theorem zb {r : V -> Option Int -> Option Int -> Hp -> VK -> Prop} (hr : SlR X r) (he : PE X e te) (hl : PO X lo tl) (hu : PO X hi th) : PE X (.Subscript e (.Slice lo hi none p2) pos) (tSl r te tl th) := by
 intro pins s σ H Q I h
 refine Subscript_ (thn (he pins s σ H _ I h) fun v s1 ⟨x, H1, I1, r1, q1⟩ => ?_)
 refine wpAny_Slice (thn (hl pins s1 σ H1 _ I1 q1) fun vl s2 ⟨l, H2, I2, pl, q2⟩ => thn (hu pins s2 σ H2 _ I2 q2) fun vu s3 ⟨u, H3, I3, pu, q3⟩ => ?_)
 rw [evalPart_none]
 refine wpAny_pure ?_
 have I4 : Inv X pins σ H3 { s3 with heap := s3.heap.push { cls := .type "slice", data := .fields #[vl, vu, .none] } } := I3.kept (t' := s3.toks) fun b ob q => Heap.get?_push_of_some _ q
 obtain ⟨T, id, hT, ht, hg⟩ := hr pins { s3 with heap := s3.heap.push { cls := .type "slice", data := .fields #[vl, vu, .none] } } σ H3 x v vl vu l u s3.heap.objs.size Q I4 r1 (Heap.IsSliceOf.new ..) pl pu q3
 show wpAny (model X.prog X.w) X.A (subscriptTail e (.Slice lo hi none p2) v (.ref s3.heap.objs.size)) (EP X pins σ Q) X.xe { s3 with heap := s3.heap.push { cls := .type "slice", data := .fields #[vl, vu, .none] } }
 exact tail_any (ops := [.ref s3.heap.objs.size, v]) ht hT hg (by with_unfolding_all rfl)
noncomputable def vm (xs : List V) (lo hi : Option Int) : List V := (xs.drop (HT.sIx xs.length 0 lo)).take (HT.sIx xs.length xs.length hi - HT.sIx xs.length 0 lo)
theorem Ax (xs : List V) (lo hi : Option Int) : (vm xs lo hi).length <= xs.length := by
 unfold vm
 rw [List.length_take, List.length_drop]
 omega
noncomputable def zc0 (K : PySem.W.Frag) : V -> Option Int -> Option Int -> Hp -> VK -> Prop := fun x lo hi H Q => ∃ a xs, x = .ref a /\ SqT K H a xs /\
 ¬ (HT.sIx xs.length 0 lo = 0 /\ HT.sIx xs.length xs.length hi = xs.length) /\ ∀ p, H p = none -> Q (.ref p) (upd H p (.tup (vm xs lo hi)))
theorem qr9 : SlR X (zc0 X.K) := by
 intro pins s σ H x v vl vu lo hi sl Q I rx hs pl pu h
 obtain ⟨a, xs, rfl, hx, hw, q⟩ := h
 cases rx
 obtain ⟨its, r, ht, hz⟩ := I.tuple hx
 have hlen : its.toArray.size = xs.length := by rw [List.size_toArray]; exact r.length.symm
 refine ⟨"tuple", _, PyProof.Rows.slot_tuple_getitem.lookup, ht.typeIs, ?_⟩
 refine HT.getItem_tuple_cut ht hs pl pu (by rw [hlen]; exact hw) ?_ (by rw [hlen]; exact hz)
 rw [hlen]
 refine ⟨.ref s.heap.objs.size, _, I.laid (t' := s.toks) (o := .tup (vm xs lo hi)) (fun b ob q => Heap.get?_push_of_some _ q) (Nat.le_refl _) ?_, rfl, q _ (I.hok.fresh (Nat.le_refl _))⟩
 exact ⟨Nat.le_trans (Ax xs lo hi) hz, _, (r.drop (HT.sIx xs.length 0 lo)).take (HT.sIx xs.length xs.length hi - HT.sIx xs.length 0 lo), IsTup.new _ _⟩
noncomputable def qt3 (K : PySem.W.Frag) : R2 := fun x y H Q => ∃ a b xs ys, x = .ref a /\ y = .ref b /\ SqT K H a xs /\ SqT K H b ys /\ xs ≠ [] /\ xs.length + ys.length <= sizeLine /\
 (ys = [] -> Q (.ref a) H) /\ (ys ≠ [] -> ∀ p, H p = none -> Q (.ref p) (upd H p (.tup (xs ++ ys))))
theorem Vals.nil_iff {xs : List V} {us : List Value} (r : Vals xs us) : us = [] ↔ xs = [] := by
 cases r with
 | nil => simp
 | cons _ _ => simp
theorem ql9 : OpR X (binaryOp .Add) (qt3 X.K) := by
 intro pins s σ H x y v u Q I rx ry h
 obtain ⟨a, b, xs, ys, rfl, rfl, ha, hb, hx, hz, q1, q2⟩ := h
 cases rx
 cases ry
 obtain ⟨its, r1, p1, _⟩ := I.tuple ha
 obtain ⟨its2, r2, p2, _⟩ := I.tuple hb
 refine HT.cat_tup p1 p2 (fun z => hx (r1.nil_iff.mp z)) (fun z => ⟨.ref a, H, I, rfl, q1 (r2.nil_iff.mp z)⟩) (fun z => ?_) (by rw [← r1.length, ← r2.length]; exact hz)
 refine ⟨.ref s.heap.objs.size, _, I.laid (t' := s.toks) (o := .tup (xs ++ ys)) (fun b ob q => Heap.get?_push_of_some _ q) (Nat.le_refl _) ?_, rfl, q2 (fun w => z (r2.nil_iff.mpr w)) _ (I.hok.fresh (Nat.le_refl _))⟩
 exact ⟨by rw [List.length_append]; exact hz, _, r1.append r2, IsTup.new _ _⟩
end
end L2
namespace L2
open PySem PySem.Spec PyProof.Rows
noncomputable def ixN (n : Nat) (i : Int) : Option Nat := if 0 <= i then (if i < n then some i.toNat else none) else if -(n : Int) <= i then some (i + n).toNat else none
noncomputable def atI {α : Type} (xs : List α) (i : Int) : Option α := (ixN xs.length i).bind fun j => xs[j]?
theorem ql3 {n : Nat} {i : Int} {j : Nat} (h : ixN n i = some j) : seqIndex? i n = some j /\ j < n /\ -(n : Int) <= i /\ i < n := by
 unfold ixN at h
 by_cases h0 : 0 <= i
 ·rw [if_pos h0] at h
  by_cases h1 : i < n
  ·rw [if_pos h1] at h
   have e : i.toNat = j := Option.some.inj h
   exact ⟨by rw [seqIndex_of h0 h1, e], by omega, by omega, h1⟩
  ·rw [if_neg h1] at h; cases h
 ·rw [if_neg h0] at h
  by_cases h1 : -(n : Int) <= i
  ·rw [if_pos h1] at h
   have e : (i + n).toNat = j := Option.some.inj h
   exact ⟨by rw [seqIndex_neg (by omega) h1, e], by omega, h1, by omega⟩
  ·rw [if_neg h1] at h; cases h
theorem Tq {α : Type} {xs : List α} {i : Int} {v : α} (h : atI xs i = some v) : ∃ j, seqIndex? i xs.length = some j /\ xs[j]? = some v /\ j < xs.length /\ -(xs.length : Int) <= i /\ i < xs.length := by
 unfold atI at h
 cases e : ixN xs.length i with
 | none => rw [e] at h; cases h
 | some j =>
  rw [e] at h
  obtain ⟨h1, h2, h3, h4⟩ := ql3 e
  exact ⟨j, h1, h, h2, h3, h4⟩
theorem Df {α : Type} {xs : List α} {j : Nat} {v : α} (h : xs[j]? = some v) : atI xs (j : Int) = some v := by
 have hj : j < xs.length := (List.getElem?_eq_some_iff.mp h).1
 have e : ixN xs.length (j : Int) = some j := by
  unfold ixN
  rw [if_pos (by omega), if_pos (by omega)]; simp
 unfold atI; rw [e]; exact h
noncomputable def Y6 (b : Expr) : Prop := ∀ o i, subscripted b false o i = operate [o, i] (getItem o i)
noncomputable def IxR (X : Cx) (r : R2) : Prop :=
 ∀ (value slice : Expr) (pins : List (Addr × Obj)) (s : Shared) (σ : St) (H : Hp) (x y : V) (v u : Value) (Q : VK), Inv X pins σ H s -> RelV x v -> RelV y u -> r x y H Q ->
  subscripted slice false v u = operate [v, u] (getItem v u) -> wpAny (model X.prog X.w) X.A (subscriptTail value slice v u) (EP X pins σ Q) X.xe s
noncomputable def MtR (X : Cx) (id : String) (r : V -> List V -> Hp -> VK -> Prop) : Prop :=
 ∀ (pins : List (Addr × Obj)) (s : Shared) (σ : St) (H : Hp) (x : V) (xs : List V) (v : Value) (us : List Value) (Q : VK), Inv X pins σ H s -> RelV x v -> Vals xs us -> r x xs H Q ->
  wpAny (model X.prog X.w) X.A (call (.builtin id) (v :: us)) (EP X pins σ Q) X.xe s
section
variable {X : Cx} {a b : Expr} {ta tb : TE} {pos : Pos}
theorem zg {r : R2} (hr : IxR X r) (ha : PE X a ta) (hb : PE X b tb) (hs : Y6 b) : PE X (.Subscript a b pos) (tOp r ta tb) := by
 intro pins s σ H Q I h
 exact Subscript_ (qy6 ha hb I h fun v u s2 x y H2 I2 rx ry q => hr a b pins s2 σ H2 x y v u Q I2 rx ry q (hs _ _))
noncomputable def zb4 (K : PySem.W.Frag) : R2 := fun x y H Q => ∃ p xs i v, x = .ref p /\ y = .int i /\ SqL K H p xs /\ atI xs i = some v /\ Q v H
noncomputable def za8 (K : PySem.W.Frag) : R2 := fun x y H Q => ∃ p xs i v, x = .ref p /\ y = .int i /\ SqT K H p xs /\ atI xs i = some v /\ Q v H
noncomputable def ze4 : R2 := fun x y H Q => ∃ z i c, x = .str z /\ y = .int i /\ z.length <= sizeLine /\ atI z.cps.toList i = some c /\ Q (.str ⟨#[c]⟩) H
theorem qm0 : IxR X (zb4 X.K) := by
 intro value slice pins s σ H x y v u Q I rx ry h hs
 obtain ⟨p, xs, i, z, rfl, rfl, hq, he, q⟩ := h
 cases rx
 obtain ⟨t, rfl⟩ := ry
 obtain ⟨its, r, pl, hz⟩ := I.list hq
 obtain ⟨j, h1, h2, h3, h4, h5⟩ := Tq he
 obtain ⟨w, ew, rw'⟩ := r.get h2
 have hl := r.length
 have hn := Mt
 have fin : EP X pins σ Q w s := ⟨z, H, I, rw', q⟩
 by_cases h0 : 0 <= i
 ·have hj : i.toNat = j := by
   rw [seqIndex_of h0 h5] at h1
   exact Option.some.inj h1
  exact item_listR pl.isList h0 (by omega) (by rw [hj]; simpa using ew) fin hs
 ·have hj : (i + (its.toArray.size : Int)).toNat = j := by
   rw [seqIndex_neg (by omega) h4] at h1
   rw [List.size_toArray, ← hl]
   exact Option.some.inj h1
  exact subscriptTail_builtinR (x := w) pl.isList.typeIs slot_list_getitem.lookup
   (wpAny_getItem_list_neg (Q := fun r s' => r = w /\ EP X pins σ Q r s') pl.isList (by omega) (by rw [List.size_toArray] <;> omega) (by omega) (by rw [hj]; simpa using ew) ⟨rfl, fin⟩) hs
theorem qv8 : IxR X (za8 X.K) := by
 intro value slice pins s σ H x y v u Q I rx ry h hs
 obtain ⟨p, xs, i, z, rfl, rfl, hq, he, q⟩ := h
 cases rx
 obtain ⟨t, rfl⟩ := ry
 obtain ⟨its, r, pl, hz⟩ := I.tuple hq
 obtain ⟨j, h1, h2, h3, h4, h5⟩ := Tq he
 obtain ⟨w, ew, rw'⟩ := r.get h2
 have hl := r.length
 have hn := Mt
 have fin : EP X pins σ Q w s := ⟨z, H, I, rw', q⟩
 exact subscriptTail_builtinR (x := w) pl.typeIs slot_tuple_getitem.lookup
  (getItem_tuple (j := j) (Q := fun r s' => r = w /\ EP X pins σ Q r s') pl (by omega) (by omega) (by rw [List.size_toArray, ← hl]; exact h1) (by simpa using ew) ⟨rfl, fin⟩) hs
theorem qj5 : IxR X ze4 := by
 intro value slice pins s σ H x y v u Q I rx ry h hs
 obtain ⟨z, i, c, rfl, rfl, hz, he, q⟩ := h
 obtain ⟨t, rfl⟩ := rx
 obtain ⟨t', rfl⟩ := ry
 obtain ⟨j, h1, h2, h3, h4, h5⟩ := Tq he
 have hl : z.cps.toList.length = z.length := by simp [Str.length]
 rw [hl] at h1 h4 h5
 have hn := Mt
 exact tail_any (typeIs_str s z t) slot_str_getitem.lookup (getItem_str (c := c) (by
  have e1 : decide (i < -(2 ^ 63 : Int)) = false := decide_eq_false (by omega)
  have e2 : decide (i >= 2 ^ 63) = false := decide_eq_false (by omega)
  rw [e1, e2, Bool.or_false]) (by rw [h1]; simpa using h2) ⟨.str ⟨#[c]⟩, H, I.tok _, ⟨_, rfl⟩, q⟩) hs
theorem Ms (lo hi : Option Int) (n : Nat) : (sliceBounds lo hi none n).1 = ((HT.sIx n 0 lo : Nat) : Int) /\ (sliceBounds lo hi none n).2.1 = ((HT.sIx n n hi : Nat) : Int) /\ (sliceBounds lo hi none n).2.2 = 1 := by
 refine ⟨?_, ?_, rfl⟩
 ·cases lo with
  | none => simp [sliceBounds, HT.sIx]
  | some i =>
   simp only [sliceBounds, HT.sIx, Option.getD_none, show (1 : Int) > 0 by decide, if_true]
   by_cases h : i < 0
   ·simp only [h, if_true] <;> omega
   ·simp only [h, if_false] <;> omega
 ·cases hi with
  | none => simp [sliceBounds, HT.sIx]
  | some i =>
   simp only [sliceBounds, HT.sIx, Option.getD_none, show (1 : Int) > 0 by decide, if_true]
   by_cases h : i < 0
   ·simp only [h, if_true] <;> omega
   ·simp only [h, if_false] <;> omega
theorem Jw (its : List Value) (lo hi : Option Int) : slicePick its.toArray lo hi none = ((its.drop (HT.sIx its.length 0 lo)).take (HT.sIx its.length its.length hi - HT.sIx its.length 0 lo)).toArray := by
 obtain ⟨h1, h2, h3⟩ := Ms lo hi its.toArray.size
 unfold slicePick
 rw [h1, h2, h3]
 simp only [sliceRange_one, pick_run, List.size_toArray] <;> rfl
noncomputable def zb9 (K : PySem.W.Frag) : V -> Option Int -> Option Int -> Hp -> VK -> Prop := fun x lo hi H Q => ∃ a xs, x = .ref a /\ SqL K H a xs /\ ∀ p, H p = none -> Q (.ref p) (upd H p (.lst (vm xs lo hi)))
theorem qo8 : SlR X (zb9 X.K) := by
 intro pins s σ H x v vl vu lo hi sl Q I rx hs pl pu h
 obtain ⟨a, xs, rfl, hx, q⟩ := h
 cases rx
 obtain ⟨its, r, ht, hz⟩ := I.list hx
 have hlen := r.length
 refine ⟨"list", _, slot_list_getitem.lookup, ht.isList.typeIs, ?_⟩
 refine wpAny_getItem_list_slice ht.isList hs pl pu .none (by simp) ?_ (by rw [List.size_toArray] <;> omega)
 rw [Jw, ← hlen]
 refine ⟨.ref s.heap.objs.size, _, I.laid (t' := s.toks) (o := .lst (vm xs lo hi)) (fun b ob q => Heap.get?_push_of_some _ q) (Nat.le_refl _) ?_, rfl, q _ (I.hok.fresh (Nat.le_refl _))⟩
 exact ⟨Nat.le_trans (Ax xs lo hi) hz, _, 0, (r.drop (HT.sIx xs.length 0 lo)).take (HT.sIx xs.length xs.length hi - HT.sIx xs.length 0 lo), Heap.get?_push_size _ rfl⟩
theorem Ou : wu X (.builtin "len") (fun xs H Q => ∃ p ys, xs = [.ref p] /\ (SqL X.K H p ys \/ SqT X.K H p ys) /\ Q (.int ys.length) H) := by
 intro pins s σ H xs us Q I r h
 obtain ⟨p, ys, rfl, hq, q⟩ := h
 obtain ⟨u, rfl, rx⟩ := vals1 r
 cases rx
 have hn := Mt
 rcases hq with hq | hq
 ·obtain ⟨its, r', pl, hz⟩ := I.list hq
  have hlen := r'.length
  exact Calls.call_len_list pl.isList (by simp only [List.size_toArray] <;> omega) ⟨.int ys.length, H, I.tok _, ⟨s.toks + 1, by rw [List.size_toArray, hlen]⟩, q⟩
 ·obtain ⟨its, r', pl, hz⟩ := I.tuple hq
  have hlen := r'.length
  exact len_tuple pl (by simp only [List.size_toArray] <;> omega) ⟨.int ys.length, H, I.tok _, ⟨s.toks + 1, by rw [List.size_toArray, hlen]⟩, q⟩
theorem Oz : wu X (.builtin "len") (fun xs H Q => ∃ z, xs = [.str z] /\ z.length <= sizeLine /\ Q (.int z.length) H) := by
 intro pins s σ H xs us Q I r h
 obtain ⟨z, rfl, hz, q⟩ := h
 obtain ⟨u, rfl, t, rfl⟩ := vals1 r
 have hn := Mt
 exact len_str (by omega) ⟨.int z.length, H, I.tok _, ⟨_, rfl⟩, q⟩
theorem N7 : wu X (.type "list") (fun xs H Q => ∃ p ys, xs = [.ref p] /\ (SqL X.K H p ys \/ SqT X.K H p ys) /\ ∀ l, H l = none -> Q (.ref l) (upd H l (.lst ys))) := by
 intro pins s σ H xs us Q I r h
 obtain ⟨p, ys, rfl, hq, q⟩ := h
 obtain ⟨u, rfl, rx⟩ := vals1 r
 cases rx
 have fin : ∀ (its : List Value), Vals ys its -> ys.length <= sizeLine -> ∀ (h' : Heap) (c' : Nat), (∀ b o', s.heap.get? b = some o' -> h'.get? b = some o') ->
   h'.get? s.heap.objs.size = some { cls := .type "list", dict := none, data := .seq its.toArray c', slots := #[] } -> EP X pins σ Q (.ref s.heap.objs.size) { s with heap := h' } := fun its r' hz h' c' kp e =>
  ⟨.ref s.heap.objs.size, _, I.laid (t' := s.toks) kp (Nat.le_refl _) (show ObjOk X.prog X.w _ h' _ (.lst ys) from ⟨hz, its, c', r', e⟩), rfl, q _ (I.hok.fresh (Nat.le_refl _))⟩
 rcases hq with hq | hq
 ·obtain ⟨its, r', pl, hz⟩ := I.list hq
  have hlen := r'.length
  obtain ⟨o, ho, hc, n, hd⟩ := pl.isList
  exact call_list_seq p (.inl rfl) ho hc hd (fun h' c' kp e => fin its r' hz h' c' kp e) (by simp only [List.size_toArray] <;> omega)
 ·obtain ⟨its, r', pl, hz⟩ := I.tuple hq
  have hlen := r'.length
  obtain ⟨o, ho, hc, n, hd⟩ := pl
  exact call_list_seq p (.inr rfl) ho hc hd (fun h' c' kp e => fin its r' hz h' c' kp e) (by simp only [List.size_toArray] <;> omega)
theorem Lq : wu X (.type "tuple") (fun xs H Q => ∃ p ys, xs = [.ref p] /\ ((SqL X.K H p ys /\ ∀ l, H l = none -> Q (.ref l) (upd H l (.tup ys))) \/ (SqT X.K H p ys /\ Q (.ref p) H))) := by
 intro pins s σ H xs us Q I r h
 obtain ⟨p, ys, rfl, h⟩ := h
 obtain ⟨u, rfl, rx⟩ := vals1 r
 cases rx
 rcases h with ⟨hq, q⟩ | ⟨hq, q⟩
 ·obtain ⟨its, r', pl, hz⟩ := I.list hq
  have hlen := r'.length
  refine call_tuple_list pl.isList (fun h' kp => ?_) (by simp only [List.size_toArray] <;> omega)
  have I1 : Inv X pins σ H { s with heap := h' } := I.kept (t' := s.toks) kp
  have I2 : Inv X pins σ (upd H h'.objs.size (.tup ys)) { s with heap := h'.push { cls := .type "tuple", data := .seq its.toArray } } :=
   I1.laid (t' := s.toks) (fun b o e => Heap.get?_push_of_some _ e) (Nat.le_refl _) (show ObjOk X.prog X.w _ _ _ (.tup ys) from ⟨hz, its, r', IsTup.new _ _⟩)
  exact ⟨.ref h'.objs.size, _, I2, rfl, q _ (I1.hok.fresh (Nat.le_refl _))⟩
 ·obtain ⟨its, r', pl, hz⟩ := I.tuple hq
  exact call_tuple_same pl ⟨.ref p, H, I, rfl, q⟩
noncomputable def tyV (K : PySem.W.Frag) (T : String) (x : V) (H : Hp) : Prop := match x with
 | .str _ => T = "str"
 | .int _ => T = "int"
 | .ref p => (T = "list" /\ ∃ xs, SqL K H p xs) \/ (T = "tuple" /\ ∃ o, K.lookup p = some o /\ o.cls = .type "tuple" /\ o.dict = none) \/
   (T = "dict" /\ ((∃ kvs, H p = some (.dK kvs)) \/ ∃ kvs, H p = some (.dT kvs))) \/ (T = "set" /\ ∃ S n, H p = some (.set S n))
 | _ => False
theorem qk0 {pins : List (Addr × Obj)} {σ : St} {H : Hp} {s : Shared} {T : String} {x : V} {v : Value} (I : Inv X pins σ H s) (r : RelV x v) (ty : tyV X.K T x H) :
  s.TypeIs v T /\ ∀ a, v = .ref a -> ∃ ob, s.heap.get? a = some ob /\ ob.dict = none := by
 cases x with
 | str z =>
  obtain ⟨t, rfl⟩ := r
  cases (show T = "str" from ty)
  exact ⟨typeIs_str s z t, fun _ e => nomatch e⟩
 | int i =>
  obtain ⟨t, rfl⟩ := r
  cases (show T = "int" from ty)
  exact ⟨typeIs_int s i t, fun _ e => nomatch e⟩
 | ref p =>
  cases r
  rcases ty with ⟨rfl, xs, hq⟩ | ⟨rfl, o, hk, hc, hd⟩ | ⟨rfl, hk⟩ | ⟨rfl, S, n, hk⟩
  ·obtain ⟨its, _, pl, _⟩ := I.list hq
   refine ⟨pl.isList.typeIs, fun a e => ?_⟩
   cases e
   obtain ⟨o, n, e, c, hd, _⟩ := pl
   exact ⟨o, e, hd⟩
  ·refine ⟨⟨o, I.kIn p o hk, hc⟩, fun a e => ?_⟩
   cases e
   exact ⟨o, I.kIn _ o hk, hd⟩
  ·have z : ∃ o, s.heap.get? p = some o /\ o.ExactDict := by
    rcases hk with ⟨kvs, hk⟩ | ⟨kvs, hk⟩
    ·obtain ⟨_, _, _, _, o, _, _, e, ex, _⟩ := I.hok p _ hk
     exact ⟨o, e, ex⟩
    ·obtain ⟨_, _, _, _, o, _, _, e, ex, _⟩ := I.hok p _ hk
     exact ⟨o, e, ex⟩
   obtain ⟨o, e, ex⟩ := z
   refine ⟨⟨o, e, ex.1⟩, fun a e2 => ?_⟩
   cases e2
   exact ⟨o, e, ex.2.1⟩
  ·obtain ⟨o, _, _, _, e, ex, _⟩ := I.hok p _ hk
   refine ⟨⟨o, e, ex.1⟩, fun a e2 => ?_⟩
   cases e2
   exact ⟨o, e, ex.2.1⟩
 | _ => exact False.elim ty
noncomputable def tBM (K : PySem.W.Frag) (T : String) (r : V -> List V -> Hp -> VK -> Prop) (to : TE) (t : TA) : TE := fun σ H Q => to σ H fun x H1 => tyV K T x H1 /\ t σ H1 fun xs H2 => r x xs H2 Q
variable {o e : Expr} {es : List Expr} {to : TE} {t : TA} {name : Str} {apos cpos : Pos} {T id : String} {r : V -> List V -> Hp -> VK -> Prop}
theorem qx6 (pa : PlainAttrs T) (slot : Slot T name id) (hty : typeOf (.builtin id) = pure (.type "method_descriptor")) (hm : MtR X id r) (ho : PE X o to) (ha : PA X (e :: es) t)
  (hbase : attributeBase o name X.env (eval o X.env) = eval o X.env := by rfl)
  (hfew : ((backTo cpos (starEach (e :: es) X.env)).all (fun x => !x.1) && (backToKw cpos (keywordEach [] X.env)).all (fun x => x.1.isSome)
   && decide ((e :: es).length + ([] : List Keyword).length + (if ([] : List Keyword).isEmpty then 0 else 1) < 30)) = true := by rfl)
  (hline : (apos.endLine == cpos.line) = true := by rfl) (hs : starEach (e :: es) X.env = (false, eval e X.env) :: starEach es X.env := by rfl) (hplain : (backTo cpos (starEach es X.env)).any (·.1) = false := by rfl) :
  PE X (.Call (.Attribute o name apos) (e :: es) [] cpos) (tBM X.K T r to t) := by
 intro pins s σ H Q I h
 refine wpAny_Call_method_late hbase hfew hline rfl (thn (ho pins s σ H _ I h) fun v s1 ⟨x, H1, I1, r1, ty, q1⟩ => ?_)
 obtain ⟨h1, h2⟩ := qk0 I1 r1 ty
 refine ⟨T, id, pa, slot, hty, h1, h2, ?_⟩
 have hA := ha cpos pins s1 σ H1 _ I1 q1
 rw [hs] at hA ⊢
 refine Calls.callWith_builtin (by show (false || (backTo cpos (starEach es X.env)).any (·.1)) = false; rw [hplain] <;> rfl) (Calls.evalArgs_plain ?_)
 exact thn hA fun us s2 ⟨vs, H2, I2, r2, q2⟩ => hm pins s2 σ H2 x vs v us Q I2 r1 r2 q2
end
end L2
namespace L2
open PySem PySem.Spec PyProof.Rows
noncomputable def MtM (X : Cx) (id : String) (r : V -> List V -> Hp -> VK -> Prop) : Prop :=
 ∀ (pins : List (Addr × Obj)) (s : Shared) (σ : St) (H : Hp) (x : V) (xs : List V) (v : Value) (us : List Value) (Q : VK), Inv X pins σ H s -> RelV x v -> Vals xs us -> r x xs H Q ->
  wpAny (model X.prog X.w) X.A (call (.builtin id) (v :: us)) (EP X pins σ Q) X.xe s
theorem Vals.one : ∀ {x : V} {us : List Value}, Vals [x] us -> ∃ u, us = [u] /\ RelV x u
 | _, _, .cons r .nil => ⟨_, rfl, r⟩
theorem Vals.two : ∀ {x y : V} {us : List Value}, Vals [x, y] us -> ∃ u v, us = [u, v] /\ RelV x u /\ RelV y v
 | _, _, _, .cons r (.cons q .nil) => ⟨_, _, rfl, r, q⟩
section
variable {X : Cx} {pins : List (Addr × Obj)} {σ : St} {H : Hp} {s : Shared} {l b : Addr} {xs ys zs : List V}
theorem Inv.lset {its its' : List Value} {n : Nat} {f : Array Value -> Array Value} {t' : Nat} (I : Inv X pins σ H s) (hH : H l = some (.lst xs))
  (e : s.heap.get? l = some { cls := .type "list", data := .seq its.toArray n }) (hf : f its.toArray = its'.toArray) (hv : Vals ys its') (hz : ys.length <= sizeLine) :
  Inv X pins σ (upd H l (.lst ys)) { s with heap := s.heap.update l (Obj.mapSeq f), toks := t' } := by
 have q := PySem.IsL.update e f
 rw [hf] at q
 refine I.write (x := l) (e := l) (by rw [hH]; exact trivial) (.inl rfl) (fun b' u hb hu => (Heap.get?_update_other s.heap (Obj.mapSeq f) (Ne.symm hb)).trans hu) ⟨_, q⟩ ?_
 exact ⟨hz, its', _, hv, q⟩
theorem Inv.lnew {its : List Value} {t' : Nat} (I : Inv X pins σ H s) (hv : Vals ys its) (hz : ys.length <= sizeLine) :
  Inv X pins σ (upd H s.heap.objs.size (.lst ys)) { s with heap := s.heap.push { cls := .type "list", data := .seq its.toArray }, toks := t' } :=
 I.laid (fun _ _ q => Heap.get?_push_of_some _ q) (Nat.le_refl _) ⟨hz, its, 0, hv, Heap.get?_push_size _ rfl⟩
theorem Inv.fresh (I : Inv X pins σ H s) : H s.heap.objs.size = none := I.hok.fresh (Nat.le_refl _)
theorem Inv.lstM (I : Inv X pins σ H s) (hH : H l = some (.lst xs)) : xs.length <= sizeLine /\ ∃ (its : List Value) (n : Nat), Vals xs its /\ xs.length = its.length /\ s.heap.get? l = some { cls := .type "list", data := .seq its.toArray n } := by
 obtain ⟨z, its, n, r, e⟩ := I.hok l _ hH
 exact ⟨z, its, n, r, r.length, e⟩
theorem qf1 {n : Nat} (h : n <= sizeLine) : Builtin.List.listTooLong n = false := by
 unfold Builtin.List.listTooLong
 exact decide_eq_false (by omega)
end
section
variable {X : Cx}
noncomputable def qn6 : V -> List V -> Hp -> VK -> Prop := fun x vs H Q => ∃ l xs y, x = .ref l /\ vs = [y] /\ H l = some (.lst xs) /\ xs.length < sizeLine /\ Q .non (upd H l (.lst (xs ++ [y])))
theorem Bp : MtM X "list.append" qn6 := by
 intro pins s σ H x vs v us Q I rx rv h
 obtain ⟨l, xs, y, rfl, rfl, hH, hz, q⟩ := h
 cases rx
 obtain ⟨u, rfl, ru⟩ := rv.one
 obtain ⟨z, its, n, r, hl, e⟩ := I.lstM hH
 refine call_meets F.slot_list_append ⟨_, e, rfl⟩ F.entry_list_append (F.args_list_append_2 _ _) (PySem.list_append l its.toArray n u (by rw [List.size_toArray]; omega)) ⟨e, ?_⟩
 refine ⟨.non, _, I.lset (its' := its ++ [u]) hH e (by simp) (r.append (.cons ru .nil)) ?_, rfl, q⟩
 rw [List.length_append, List.length_singleton]
 omega
noncomputable def ql7 : V -> List V -> Hp -> VK -> Prop := fun x vs H Q => ∃ l b xs zs, x = .ref l /\ vs = [.ref b] /\ H l = some (.lst xs) /\ H b = some (.lst zs) /\ xs.length + zs.length <= sizeLine /\ Q .non (upd H l (.lst (xs ++ zs)))
theorem Yx : MtM X "list.extend" ql7 := by
 intro pins s σ H x vs v us Q I rx rv h
 obtain ⟨l, b, xs, zs, rfl, rfl, hH, hB, hz, q⟩ := h
 cases rx
 obtain ⟨u, rfl, ru⟩ := rv.one
 cases ru
 obtain ⟨z, its, n, r, hl, e⟩ := I.lstM hH
 obtain ⟨z2, its2, n2, r2, hl2, e2⟩ := I.lstM hB
 have hsz : its.toArray.size + its2.toArray.size <= sizeLine := by rw [List.size_toArray, List.size_toArray]; omega
 have hlong : ¬ (!its.toArray.isEmpty && Builtin.List.listTooLong (its.toArray.size + its2.toArray.size)) = true := by
  rw [qf1 hsz, Bool.and_false]
  exact Bool.false_ne_true
 refine call_meets F.slot_list_extend ⟨_, e, rfl⟩ F.entry_list_extend (F.args_list_extend_2 _ _)
  (AutoSeq1.list_extend_list_list_0 l its.toArray n b its2.toArray n2 hlong (by rw [List.size_toArray]; omega) (by omega)) ⟨e, e2, ?_⟩
 refine ⟨.non, _, I.lset (its' := its ++ its2) hH e (by simp) (r.append r2) ?_, rfl, q⟩
 rw [List.length_append]
 omega
noncomputable def ze1 : R2 := fun x y H Q => ∃ l b xs zs, x = .ref l /\ y = .ref b /\ H l = some (.lst xs) /\ H b = some (.lst zs) /\ xs.length + zs.length <= sizeLine /\ ∀ p, H p = none -> Q (.ref p) (upd H p (.lst (xs ++ zs)))
theorem Dl : OpR X (binaryOp .Add) ze1 := by
 intro pins s σ H x y v u Q I rx ry h
 obtain ⟨l, b, xs, zs, rfl, rfl, hH, hB, hz, q⟩ := h
 cases rx
 cases ry
 obtain ⟨z, its, n, r, hl, e⟩ := I.lstM hH
 obtain ⟨z2, its2, n2, r2, hl2, e2⟩ := I.lstM hB
 refine PySem.P.add_list e e2 ?_ (by rw [List.size_toArray, List.size_toArray]; omega)
 have ea : its.toArray ++ its2.toArray = (its ++ its2).toArray := by simp
 rw [ea]
 exact ⟨.ref _, _, I.lnew (t' := s.toks) (r.append r2) (by rw [List.length_append]; omega), rfl, q _ I.fresh⟩
end
section
variable {prog : Program} {w : World} {A : Around} {E : Value -> Shared -> Prop} {s : Shared}
end
section
variable {X : Cx}
end
end L2
namespace L2
open PySem PySem.Spec PyProof.Rows
section
variable {κ : Type} [DecidableEq κ]
noncomputable def wk (kvs : List (κ × V)) (k : κ) : Option V := (kvs.find? fun kv => decide (kv.1 = k)).map (·.2)
noncomputable def putK (kvs : List (κ × V)) (k : κ) (v : V) : List (κ × V) :=
 if (kvs.any fun kv => decide (kv.1 = k)) = true then kvs.map (fun kv => if kv.1 = k then (kv.1, v) else kv) else kvs ++ [(k, v)]
theorem yd {p : κ × V} {r : List (κ × V)} {k : κ} (e : p.1 = k) : wk (p :: r) k = some p.2 := by simp [wk, List.find?_cons, e]
theorem ye {p : κ × V} {r : List (κ × V)} {k : κ} (e : ¬ p.1 = k) : wk (p :: r) k = wk r k := by simp [wk, List.find?_cons, e]
theorem Bt (k : κ) : ∀ kvs : List (κ × V), (kvs.any fun kv => decide (kv.1 = k)) = (wk kvs k).isSome
 | [] => rfl
 | p :: r => by
  rw [List.any_cons]
  by_cases e : p.1 = k
  ·simp only [yd e, decide_eq_true e, Bool.true_or, Option.isSome_some]
  ·rw [ye e, decide_eq_false e, Bool.false_or]; exact Bt k r
theorem Wa (k j : κ) (y : V) : ∀ kvs : List (κ × V), wk (kvs.map fun kv => if kv.1 = k then (kv.1, y) else kv) j = (wk kvs j).map fun x => if j = k then y else x
 | [] => rfl
 | p :: r => by
  have ih := Wa k j y r
  rw [List.map_cons]
  by_cases h : p.1 = k
  ·rw [if_pos h]
   by_cases e : p.1 = j
   ·rw [yd (p := (p.1, y)) e, yd e, Option.map_some, if_pos (e.symm.trans h)]
   ·rw [ye (p := (p.1, y)) e, ye e, ih]
  ·rw [if_neg h]
   by_cases e : p.1 = j
   ·rw [yd (p := p) e, yd e, Option.map_some, if_neg (fun z => h (e.trans z))]
   ·rw [ye (p := p) e, ye e, ih]
theorem O8 (k j : κ) (y : V) : ∀ kvs : List (κ × V), wk kvs k = none -> wk (kvs ++ [(k, y)]) j = if j = k then some y else wk kvs j
 | [], _ => by
  by_cases e : k = j
  ·rw [if_pos e.symm]; exact yd (p := (k, y)) e
  ·rw [if_neg (fun z => e z.symm)]; exact ye (p := (k, y)) e
 | p :: r, hn => by
  rw [List.cons_append]
  have hk : ¬ p.1 = k := fun z => by rw [yd z] at hn; cases hn
  rw [ye hk] at hn
  have ih := O8 k j y r hn
  by_cases e : p.1 = j
  ·rw [yd e, yd e, if_neg (fun z => hk (e.trans z))]
  ·rw [ye e, ye e, ih]
theorem Wf (kvs : List (κ × V)) (k j : κ) (y : V) : wk (putK kvs k y) j = if j = k then some y else wk kvs j := by
 unfold putK
 by_cases a : (kvs.any fun kv => decide (kv.1 = k)) = true
 ·rw [if_pos a, Wa]
  rw [Bt] at a
  by_cases e : j = k
  ·obtain ⟨x, hx⟩ := Option.isSome_iff_exists.mp a
   rw [if_pos e, e, hx, Option.map_some, if_pos rfl]
  ·rw [if_neg e]
   cases wk kvs j with
   | none => rfl
   | some x => rw [Option.map_some, if_neg e]
 ·rw [if_neg a]
  refine O8 k j y kvs ?_
  rw [Bt] at a
  cases q : wk kvs k with
  | none => rfl
  | some x => rw [q] at a; exact (a rfl).elim
theorem Az (kvs : List (κ × V)) (k : κ) (v : V) : (putK kvs k v).length <= kvs.length + 1 := by
 unfold putK
 split
 ·rw [List.length_map]; omega
 ·rw [List.length_append, List.length_cons, List.length_nil]; omega
theorem qh7 {kvs : List (κ × V)} {k : κ} (v : V) (h : wk kvs k = none) : putK kvs k v = kvs ++ [(k, v)] := by
 unfold putK
 rw [Bt, h]
 exact if_neg (by decide)
theorem RelO.isSome_eq {o : Option V} {u : Option Value} (r : RelO o u) : o.isSome = u.isSome := by
 cases o with
 | none => cases u with
  | none => rfl
  | some _ => exact (show False from r).elim
 | some _ => cases u with
  | none => exact (show False from r).elim
  | some _ => rfl
theorem KV.val {kvs : List (κ × V)} {vs : List (κ × Value)} (r : KV kvs vs) (k : κ) : RelO (wk kvs k) (valueAt vs k) := by
 unfold KV at r
 induction r with
 | nil => exact True.intro
 | @cons p q ps qs h t ih =>
  obtain ⟨h1, h2⟩ := h
  by_cases e : p.1 = k
  ·have e' : q.1 = k := h1.symm.trans e
   have b : valueAt (q :: qs) k = some q.2 := by simp [valueAt, List.find?_cons, e']
   rw [yd e, b]; exact h2
  ·have e' : ¬ q.1 = k := fun z => e (h1.trans z)
   have b : valueAt (q :: qs) k = valueAt qs k := by simp [valueAt, List.find?_cons, e']
   rw [ye e, b]; exact ih
theorem KV.any {kvs : List (κ × V)} {vs : List (κ × Value)} (r : KV kvs vs) (k : κ) : (kvs.any fun kv => decide (kv.1 = k)) = vs.any fun kv => decide (kv.1 = k) := by
 unfold KV at r
 induction r with
 | nil => rfl
 | cons h t ih => rw [List.any_cons, List.any_cons, ih, h.1]
theorem KV.repl {kvs : List (κ × V)} {vs : List (κ × Value)} (r : KV kvs vs) (k : κ) {y : V} {u : Value} (ry : RelV y u) :
  KV (kvs.map fun kv => if kv.1 = k then (kv.1, y) else kv) (vs.map fun kv => if kv.1 = k then (kv.1, u) else kv) := by
 unfold KV at r ⊢
 induction r with
 | nil => exact .nil
 | @cons p q ps qs h t ih =>
  rw [List.map_cons, List.map_cons]
  refine .cons ?_ ih
  obtain ⟨h1, h2⟩ := h
  by_cases e : p.1 = k
  ·rw [if_pos e, if_pos (h1.symm.trans e)]; exact ⟨h1, ry⟩
  ·rw [if_neg e, if_neg (fun z => e (h1.trans z))]; exact ⟨h1, h2⟩
theorem KV.put {kvs : List (κ × V)} {vs : List (κ × Value)} (r : KV kvs vs) (k : κ) {y : V} {u : Value} (ry : RelV y u) : KV (putK kvs k y) (stored vs k u) := by
 unfold putK stored
 rw [r.any k]
 by_cases e : (vs.any fun kv => decide (kv.1 = k)) = true
 ·rw [if_pos e, if_pos e]; exact r.repl k ry
 ·rw [if_neg e, if_neg e]; exact Paired.snoc r ⟨rfl, ry⟩
theorem KV.length {kvs : List (κ × V)} {vs : List (κ × Value)} (r : KV kvs vs) : kvs.length = vs.length := Paired.length r
end
theorem qe7 {P : Program} {w : World} {k : Key} {u : Value} (r : RelV (kV k) u) : (yl P w).is k u = true := by
 cases k with
 | inl i => obtain ⟨t, e⟩ := (show ∃ t, u = Value.int i t from r); subst e; exact Qv P w i t
 | inr x => obtain ⟨t, e⟩ := (show ∃ t, u = Value.str x t from r); subst e; exact T7 P w x t
theorem Qm {P : Program} {w : World} : ∀ {ks : List Key} {us : List Value}, Vals (ks.map kV) us -> ItemsAre (yl P w) ks us
 | [], _, r => by rw [List.map_nil] at r; cases r; exact .nil
 | k :: ks, _, r => by
  rw [List.map_cons] at r
  cases r with
  | cons h t => exact .cons (qe7 h) (Qm t)
noncomputable abbrev KT (H : Hp) : List (List Key × V) -> List (List Key × Addr × Value) -> Prop := Paired fun p q => p.1 = q.1 /\ H q.2.1 = some (.tup (p.1.map kV)) /\ RelV p.2 q.2.2
theorem KT.val {H : Hp} {kvs : List (List Key × V)} {xs : List (List Key × Addr × Value)} (r : KT H kvs xs) (k : List Key) : RelO (wk kvs k) ((atKey xs k).map (·.2)) := by
 induction r with
 | nil => exact True.intro
 | @cons p q ps qs h t ih =>
  obtain ⟨h1, _, h2⟩ := h
  by_cases e : p.1 = k
  ·have e' : q.1 = k := h1.symm.trans e
   have b : atKey (q :: qs) k = some q.2 := by simp [atKey, List.find?_cons, e']
   rw [yd e, b]; exact h2
  ·have e' : ¬ q.1 = k := fun z => e (h1.trans z)
   have b : atKey (q :: qs) k = atKey qs k := by simp [atKey, List.find?_cons, e']
   rw [ye e, b]; exact ih
theorem KT.repl {H : Hp} {kvs : List (List Key × V)} {xs : List (List Key × Addr × Value)} (r : KT H kvs xs) (k : List Key) {y : V} {u : Value} (ry : RelV y u) :
  KT H (kvs.map fun kv => if kv.1 = k then (kv.1, y) else kv) (xs.map (putAt k u)) := by
 induction r with
 | nil => exact .nil
 | @cons p q ps qs h t ih =>
  rw [List.map_cons, List.map_cons]
  refine .cons ?_ ih
  obtain ⟨h1, h2, h3⟩ := h
  unfold putAt
  by_cases e : p.1 = k
  ·rw [if_pos e, if_pos (h1.symm.trans e)]; exact ⟨h1, h2, ry⟩
  ·rw [if_neg e, if_neg (fun z => e (h1.trans z))]; exact ⟨h1, h2, h3⟩
theorem KT.put {H : Hp} {kvs : List (List Key × V)} {xs : List (List Key × Addr × Value)} (r : KT H kvs xs) (k : List Key) {b : Addr} {y : V} {u : Value} (hb : H b = some (.tup (k.map kV))) (ry : RelV y u) :
  KT H (putK kvs k y) (storedH xs k b u) := by
 have e : (kvs.any fun kv => decide (kv.1 = k)) = (atKey xs k).isSome := by
  rw [Bt, (r.val k).isSome_eq, Option.isSome_map]
 unfold putK storedH
 rw [e]
 by_cases q : (atKey xs k).isSome = true
 ·rw [if_pos q, if_pos q]; exact r.repl k ry
 ·rw [if_neg q, if_neg q]; exact Paired.snoc r ⟨rfl, hb, ry⟩
theorem KT.keeps {H H' : Hp} {kvs : List (List Key × V)} {xs : List (List Key × Addr × Value)} (r : KT H kvs xs) (ht : ∀ b ys, H b = some (.tup ys) -> H' b = some (.tup ys)) : KT H' kvs xs :=
 Paired.mapP r fun _ _ z => ⟨z.1, ht _ _ z.2.1, z.2.2⟩
section
variable {P : Program} {w : World} {H : Hp} {h : Heap} {a : Addr}
theorem qw5 {u : HO} (ok : HOk P w H h) (e : Rd H a u) : ObjOk P w H h a u := e.ok ok
theorem qo6 {kvs : List (Key × V)} (ok : HOk P w H h) (e : Rd H a (.dK kvs)) : kvs.length <= sizeLine /\ (a == sysModules) = false /\ ∃ vs, KV kvs vs /\ h.DictOf (yl P w) a vs :=
 show ObjOk P w H h a (.dK kvs) from qw5 ok e
theorem qy1 {kvs : List (Key × V)} (ok : HOk P w H h) (e : H a = some (.dK kvs)) : kvs.length <= sizeLine /\ (a == sysModules) = false /\ ∃ vs, KV kvs vs /\ h.DictOf (yl P w) a vs := qo6 ok (.inl e)
theorem U0 {ks : List Key} (ok : HOk P w H h) (e : H a = some (.tup (ks.map kV))) : (tupleKind (yl P w)).is h ks a := by
 obtain ⟨_, its, r, o, h1, h2, n, h3⟩ := (show ObjOk P w H h a (.tup (ks.map kV)) from ok a _ e)
 exact ⟨o, its.toArray, n, h1, h2, h3, by simpa using Qm r⟩
theorem qm9 {kvs : List (List Key × V)} (ok : HOk P w H h) (e : Rd H a (.dT kvs)) : kvs.length <= sizeLine /\ (a == sysModules) = false /\
  ∃ xs, KT H kvs xs /\ h.DictOfH (tupleKind (yl P w)) a xs := by
 obtain ⟨z, y, xs, r, o, es, ep, h1, h2, h3, h4, h5⟩ := (show ObjOk P w H h a (.dT kvs) from qw5 ok e)
 refine ⟨z, y, xs, r, o, es, ep, h1, h2, h3, h4, fun x hx => ?_, h5⟩
 have all : ∀ {l : List (List Key × V)} {m : List (List Key × Addr × Value)}, KT H l m -> ∀ x ∈ m, (tupleKind (yl P w)).is h x.1 x.2.1 := by
  intro l m q
  induction q with
  | nil => intro x hx; exact nomatch hx
  | @cons p q ps qs hq t ih =>
   intro x hx
   rcases List.mem_cons.mp hx with e | hx
   ·subst e
    exact U0 ok (by rw [← hq.1]; exact hq.2.1)
   ·exact ih x hx
 exact all r x hx
theorem qy2 {kvs : List (List Key × V)} (ok : HOk P w H h) (e : H a = some (.dT kvs)) : kvs.length <= sizeLine /\ (a == sysModules) = false /\
  ∃ xs, KT H kvs xs /\ h.DictOfH (tupleKind (yl P w)) a xs := qm9 ok (.inl e)
end
noncomputable def DGet (H : Hp) (a : Addr) (y : V) (r : Option V) : Prop :=
 (∃ kvs k, Rd H a (.dK kvs) /\ y = kV k /\ r = wk kvs k) \/ ∃ kvs k b, Rd H a (.dT kvs) /\ y = .ref b /\ H b = some (.tup (k.map kV)) /\ r = wk kvs k
noncomputable def DPut (H : Hp) (a : Addr) (y v : V) (H' : Hp) : Prop :=
 (∃ kvs k, H a = some (.dK kvs) /\ y = kV k /\ kvs.length < sizeLine /\ H' = upd H a (.dK (putK kvs k v))) \/
 ∃ kvs k b, H a = some (.dT kvs) /\ y = .ref b /\ H b = some (.tup (k.map kV)) /\ kvs.length < sizeLine /\ H' = upd H a (.dT (putK kvs k v))
theorem DGet.t {H : Hp} {a b : Addr} {kvs : List (List Key × V)} {k : List Key} (e : H a = some (.dT kvs)) (eb : H b = some (.tup (k.map kV))) : DGet H a (.ref b) (wk kvs k) := .inr ⟨kvs, k, b, .inl e, rfl, eb, rfl⟩
theorem DPut.t {H : Hp} {a b : Addr} {kvs : List (List Key × V)} {k : List Key} {v : V} (e : H a = some (.dT kvs)) (eb : H b = some (.tup (k.map kV))) (hl : kvs.length < sizeLine) :
  DPut H a (.ref b) v (upd H a (.dT (putK kvs k v))) := .inr ⟨kvs, k, b, e, rfl, eb, hl, rfl⟩
section
variable {X : Cx} {pins : List (Addr × Obj)} {σ : St} {H : Hp} {s : Shared} {a : Addr} {y v : V} {u r : Value} {o : Option V} {A : Around} {E : Value -> Shared -> Prop}
theorem Inv.big (I : Inv X pins σ H s) : sysModules < s.heap.objs.size := by
 have h : mainGlobals < s.heap.objs.size := (I.mod.glob.keeps I.bk).lt
 exact Nat.lt_trans (by decide) h
theorem ze0 {Q : Value -> Shared -> Prop} (hu : A.units + 1 < cLine) (I : Inv X pins σ H s) (g : DGet H a y o) (ry : RelV y u) (h : ∀ s', Inv X pins σ H s' -> Q (.bool o.isSome) s') :
  wpAny (model X.prog X.w) A (compareOp .In u (.ref a)) Q E s := by
 rcases g with ⟨kvs, k, e, ey, l⟩ | ⟨kvs, k, b, e, ey, eb, l⟩
 ·subst ey
  obtain ⟨z, hd, vs, rel, dd⟩ := qo6 I.hok e
  refine wpAny_in_of (qe7 ry) hd dd.mapOf ?_
  rw [← (rel.val k).isSome_eq, ← l]
  exact h _ (I.tok _)
 ·subst ey
  cases (show u = Value.ref b from ry)
  obtain ⟨z, hd, xs, rel, dd⟩ := qm9 I.hok e
  refine wpAny_in_heap (tupleKind_room_in1 hu) (U0 I.hok eb) hd dd ?_
  have q := (rel.val k).isSome_eq
  rw [Option.isSome_map] at q
  rw [← q, ← l]
  exact h _ (I.tok _)
theorem qm4 {Q : Value -> Shared -> Prop} (hu : A.units + 1 < cLine) (I : Inv X pins σ H s) (g : DGet H a y o) (ry : RelV y u) (h : ∀ s', Inv X pins σ H s' -> Q (.bool (!o.isSome)) s') :
  wpAny (model X.prog X.w) A (compareOp .NotIn u (.ref a)) Q E s := by
 rcases g with ⟨kvs, k, e, ey, l⟩ | ⟨kvs, k, b, e, ey, eb, l⟩
 ·subst ey
  obtain ⟨z, hd, vs, rel, dd⟩ := qo6 I.hok e
  refine wpAny_notIn_of (qe7 ry) hd dd.mapOf ?_
  rw [← (rel.val k).isSome_eq, ← l]
  exact h _ (I.tok _)
 ·subst ey
  cases (show u = Value.ref b from ry)
  obtain ⟨z, hd, xs, rel, dd⟩ := qm9 I.hok e
  refine wpAny_notIn_heap (tupleKind_room_in1 hu) (U0 I.hok eb) hd dd ?_
  have q := (rel.val k).isSome_eq
  rw [Option.isSome_map] at q
  rw [← q, ← l]
  exact h _ (I.tok _)
theorem qb3 {h' : Heap} {t' : Nat} {ob : HO} (I : Inv X pins σ H s) (mu : Mut (H a)) (hs : Heap.SameBut a s.heap h') (he : ∃ q, h'.get? a = some q) (new : ObjOk X.prog X.w (upd H a ob) h' a ob) :
  Inv X pins σ (upd H a ob) { s with heap := h', toks := t' } :=
 I.write (x := a) (e := a) mu (.inl rfl) (fun b q hb z => (hs.2 b hb).trans z) he new
theorem qv0 {P : Program} {w : World} {H' : Hp} {h' : Heap} {kvs : List (Key × V)} {vs : List (Key × Value)} (z : kvs.length <= sizeLine) (hd : (a == sysModules) = false) (rel : KV kvs vs) (dd : h'.DictOf (yl P w) a vs) :
  ObjOk P w H' h' a (.dK kvs) := ⟨z, hd, vs, rel, dd⟩
theorem Y8 {H' : Hp} {Q : Unit -> Shared -> Prop} (hu : A.units + 1 < cLine) (I : Inv X pins σ H s) (g : DPut H a y v H') (ry : RelV y u) (rv : RelV v r) (h : ∀ s', Inv X pins σ H' s' -> Q () s') :
  wpAny (model X.prog X.w) A (setItem (.ref a) u r) Q E s := by
 rcases g with ⟨kvs, k, e, ey, l, eH⟩ | ⟨kvs, k, b, e, ey, eb, l, eH⟩
 ·subst ey eH
  obtain ⟨z, hd, vs, rel, dd⟩ := qy1 I.hok e
  have hz : vs.length <= sizeLine := by rw [← rel.length]; exact z
  have hl : (putK kvs k v).length <= sizeLine := by have := Az kvs k v; omega
  refine wpAny_setItem_pairs (hsz := hz) (qe7 ry) dd fun h' dd' hs => h _ ?_
  have he : ∃ q, h'.get? a = some q := let ⟨q, _, _, hq, _⟩ := dd'; ⟨q, hq⟩
  exact qb3 I (by rw [e]; exact True.intro) hs he (qv0 hl hd (rel.put k rv) dd')
 ·subst ey eH
  cases (show u = Value.ref b from ry)
  obtain ⟨z, hd, xs, rel, dd⟩ := qy2 I.hok e
  have hz : xs.length <= sizeLine := by rw [← Paired.length rel]; exact z
  have hl : (putK kvs k v).length <= sizeLine := by have := Az kvs k v; omega
  refine wpAny_setItem_heap (hsz := hz) (tupleKind_room_in1 hu) (U0 I.hok eb) dd fun h' dd' hs => h _ ?_
  obtain ⟨q, es, ep, hq, h2, h3, h4, _, h5⟩ := dd'
  refine qb3 I (by rw [e]; exact True.intro) hs ⟨q, hq⟩ ⟨hl, hd, _, (rel.put k eb rv).keeps fun c ys ec => ?_, q, es, ep, hq, h2, h3, h4, h5⟩
  rw [qt (Lw ec e (fun z => nomatch z))]
  exact ec
end
section
variable {X : Cx} {pins : List (Addr × Obj)} {σ : St} {H : Hp} {s : Shared} {a : Addr} {kvs : List (Key × V)} {k : Key} {u : Value} {A : Around} {E : Value -> Shared -> Prop}
end
noncomputable def ze6 (ty td : TE) : TE := fun σ H Q => ty σ H fun y H1 => td σ H1 fun x H2 => ∃ a o, x = .ref a /\ DGet H2 a y o /\ Q (.bl o.isSome) H2
noncomputable def ql6 (ty td : TE) : TE := fun σ H Q => ty σ H fun y H1 => td σ H1 fun x H2 => ∃ a o, x = .ref a /\ DGet H2 a y o /\ Q (.bl (!o.isSome)) H2
noncomputable def qy7 (td ty tv : TE) : TS := fun D σ H => tv σ H fun v H1 => td σ H1 fun x H2 => ty σ H2 fun y H3 => ∃ a H4, x = .ref a /\ DPut H3 a y v H4 /\ D.nx σ H4
section
variable {X : Cx} {o i e value : Expr} {pos pos' tpos : Pos} {td ty tv : TE}
theorem Zc (hu : X.A.units + 1 < cLine) (hi : PE X i ty) (ho : PE X o td) : PC X .In i o (ze6 ty td) := by
 intro pins s σ H Q I h
 refine thn (hi pins s σ H _ I h) fun iv s1 ⟨y, H1, I1, ry, q1⟩ => thn (ho pins s1 σ H1 _ I1 q1) fun u s2 ⟨x, H2, I2, rx, a, ov, ex, g, q2⟩ => ?_
 subst ex
 obtain rfl : u = Value.ref a := rx
 exact ze0 hu I2 g ry fun s3 I3 => ⟨.bl ov.isSome, H2, I3, rfl, q2⟩
theorem X8 (hu : X.A.units + 1 < cLine) (hi : PE X i ty) (ho : PE X o td) : PC X .NotIn i o (ql6 ty td) := by
 intro pins s σ H Q I h
 refine thn (hi pins s σ H _ I h) fun iv s1 ⟨y, H1, I1, ry, q1⟩ => thn (ho pins s1 σ H1 _ I1 q1) fun u s2 ⟨x, H2, I2, rx, a, ov, ex, g, q2⟩ => ?_
 subst ex
 obtain rfl : u = Value.ref a := rx
 exact qm4 hu I2 g ry fun s3 I3 => ⟨.bl (!ov.isSome), H2, I3, rfl, q2⟩
theorem Tt (hu : X.A.units + 1 < cLine) (ho : PE X o td) (hi : PE X i ty) (hv : PE X value tv) (hs : swapsWith value (some (.Subscript o i pos')) pos.line X.env = pure false) :
  PS X (.Assign [.Subscript o i pos'] value pos) (qy7 td ty tv) := by
 intro pins s σ H D I h
 refine wpAny_Assign_Subscript (thn (hv pins s σ H _ I h) fun r s1 ⟨v, H1, I1, rv, q1⟩ => thn (ho pins s1 σ H1 _ I1 q1) fun u s2 ⟨x, H2, I2, rx, q2⟩ => thn (hi pins s2 σ H2 _ I2 q2) fun iv s3 ⟨y, H3, I3, ry, a, H4, ex, g, q3⟩ => ?_) hs
 subst ex
 obtain rfl : u = Value.ref a := rx
 exact Y8 hu I3 g ry rv fun s4 I4 => ⟨σ, H4, I4, q3⟩
end
theorem qc2 {P : Program} {w : World} {H : Hp} (h : Heap) (hb : sysModules < h.objs.size) : ObjOk P w H (h.push { cls := .type "dict", data := .dict #[] }) h.objs.size (.dT []) :=
 ⟨Nat.zero_le _, beq_eq_false_iff_ne.mpr (Ne.symm (Nat.ne_of_lt hb)), [], .nil, _, #[], 0, Heap.get?_push_size _ rfl, ⟨rfl, rfl, rfl⟩, rfl, rfl, List.nodup_nil⟩
noncomputable def qu6 : TE := fun _ H Q => ∀ p, H p = none -> Q (.ref p) (upd H p (.dT []))
section
variable {X : Cx} {pos : Pos}
theorem J4 : PE X (.Dict [] [] pos) qu6 := fun pins s σ H Q I h =>
 wpAny_Dict_empty ⟨.ref s.heap.objs.size, _, I.laid (a := s.heap.objs.size) (o := .dT []) (t' := s.toks) (fun _ _ q => Heap.get?_push_of_some _ q) (Nat.le_refl _) (qc2 s.heap I.big), rfl, h _ (I.hok.fresh (Nat.le_refl _))⟩
end
section
variable {X : Cx} {pins : List (Addr × Obj)} {σ : St} {H : Hp} {s : Shared} {a : Addr} {y d : V} {u r : Value} {o : Option V} {A : Around} {E : Value -> Shared -> Prop}
end
section
variable {X : Cx} {o e f : Expr} {apos cpos : Pos} {td ty tx : TE}
end
section
variable {X : Cx} {pins : List (Addr × Obj)} {σ : St} {H : Hp} {s : Shared} {a : Addr} {kvs : List (Key × V)} {A : Around} {E : Value -> Shared -> Prop}
end
section
variable {X : Cx} {pins : List (Addr × Obj)} {σ : St} {H : Hp} {s : Shared} {a : Addr} {y : V} {u : Value} {A : Around} {E : Value -> Shared -> Prop}
end
end L2
namespace Att
open PySem PySem.W PySem.Calls PyProof.Rows
theorem Ih {P : Params} {h : Heap} : ∀ (ns : List Int) (vs : List Value), WellAll P h vs (ns.map WData.int) -> IntsAre vs ns := by
 intro ns
 induction ns with
 | nil =>
  intro vs w
  rw [List.map_nil] at w
  cases w
  exact .nil
 | cons n ns ih =>
  intro vs w
  rw [List.map_cons] at w
  cases w with
  | cons a b =>
   cases a
   exact .cons _ _ (ih _ b)
theorem Xl {l : OpenLaw} {n : Nat} (hn : l.most = some n) {P : Params} {h : Heap} {args : List WData} {vals : List Value}
  (hpre : l.row.toRowW.claim.pre args = true) (hwl : WellAll P h vals args) :
  ∃ a vs ns, vals = [Value.ref a] /\ args = [WData.list (ns.map WData.int)] /\ h.get? a = some { cls := .type "list", data := .seq vs.toArray } /\ IntsAre vs ns /\ ns.length <= n := by
 have hsh : WShape.hasAll [] args [.list .int] = true := (pre_splitW hpre).1
 have hc : l.pre.holds [] { args := args } = true := (pre_splitW hpre).2
 obtain ⟨d, r, rfl, h1, h2⟩ := hasAllW_cons hsh
 obtain rfl := hasAllW_nil h2
 obtain ⟨xs, rfl, h3⟩ := hasW_list h1
 obtain ⟨ns, rfl⟩ := items_int h3
 have hlen : ns.length <= n := by
  unfold OpenLaw.pre at hc
  have h4 : (WTm.not (.lt (.lit (.int (n : Int))) (.len (.arg 0)))).holds [] { args := [.list (ns.map .int)] } = true := by
   have h4 := (holds_andW hc).1
   rw [hn] at h4
   exact h4
  have h5 := condW_of h4 (w_not (w_lt w_lit (w_len_list (w_arg rfl))))
  rw [List.length_map] at h5
  refine Nat.le_of_not_lt fun q => ?_
  have q' : (n : Int) < ((ns.length : Nat) : Int) := by omega
  first
   | (rw [decide_eq_true q'] at h5; exact absurd h5 (by decide))
   | (simp at h5; omega)
 cases hwl with
 | cons w1 w2 =>
  cases w2
  cases w1 with
  | list ho hall => exact ⟨_, _, ns, rfl, rfl, ho, Ih ns _ hall, hlen⟩
theorem Z0 (l : OpenLaw) (args : List WData) : l.row.toRowW.claim.post args (.bool true) args = true :=
 postW_of (r := l.row.toRowW) (X := (true == true))
  (show WShape.has [] (.bool true) .bool = true by first | rfl | decide | simp [WShape.has, WShape.arms, WShape.armsAll])
  (show (WTm.eq .res (.lit (.bool true))).value [] { args := args, res := some (.bool true), after := args } = some (.bool (true == true)) from w_eq_bool (w_res rfl) w_lit) rfl
theorem attach_call {l : OpenLaw} {n : Nat} {q : Program} {loose : List Str} {XP : (Str -> Option Value) -> Heap -> Prop} {YP : World -> Heap -> Prop} {d : DefRec}
  (hn : l.most = some n) (hdf : d.params.defaults = [])
  (call : ∀ (w : World) (s₀ s₁ : Shared) (mg mb : Str -> Option Value) (fa : Addr) (o : Obj) (pm cd doc : Value) (a : Addr) (vs : List Value) (ns : List Int),
   Ground q loose [] XP w s₀ mg mb s₁.heap -> YP w s₁.heap ->
   s₁.heap.get? fa = some o -> o.data = .func (docDef d.name d.params d.body d.scope pm cd doc) -> s₁.heap.CodeRec cd d.name -> mg d.name = some (.ref fa) ->
   s₁.heap.get? a = some { cls := .type "list", data := .seq vs.toArray } -> IntsAre vs ns -> ns.length <= n -> s₁.gens = #[] ->
   codeAny (model l.prog w) callerA (.call (.ref fa) ⟨[.ref a], []⟩) (fun r s' => r = .ok (.ret (.bool true)) /\ OldK s₁.heap s'.heap /\ s'.os = s₁.os /\ AllBare s'.gens) s₁) :
  WalkO q loose XP YP l.row.toRowW d [] (fun f vs => PySem.call f vs) := by
 intro w s₀ s₁ mg mb G Y fa o pm cd doc dV kV ho hd hcd hD hmg hg args vals as hpre hlay hrd hwl hlo
 obtain rfl : dV = .none := Dflts.none hD hdf
 obtain rfl : kV = .none := Dflts.noKw hD
 obtain ⟨a, vs, ns, rfl, rfl, hobj, hints, hlen⟩ := Xl hn hpre hwl
 refine enter_call (codeAny_mono (call w s₀ s₁ mg mb fa o pm cd doc a vs ns G Y ho (fd_plain hd) hcd hmg hobj hints hlen hg) fun r s' hq => ?_)
 obtain ⟨rfl, h2, h3, h4⟩ := hq
 exact ⟨.inl ⟨.bool true, .bool true, [], rfl, fun _ => rfl, .bool true, Z0 l _, fun _ => ⟨List.Pairwise.nil, fun _ hm => (nomatch hm)⟩⟩, h2, h3, h4⟩
section
variable {prog : Program} {w : World} {A : Around} {E : Value -> Shared -> Prop} {s : Shared} {K : Frag}
end
end Att
namespace L2
open PySem PySem.Spec PyProof.Rows
theorem Oh : ∀ {vs : List Value} {ns : List Int}, IntsAre vs ns -> Vals (ns.map V.int) vs
 | _, _, .nil => .nil
 | _, _, .cons n t h => .cons ⟨t, rfl⟩ (Oh h)
noncomputable def Only (H : Hp) : Prop := ∀ b, H b = none \/ ∃ o xs, H b = some (.frz o (.lst xs))
theorem qh6 {P : Program} {w : World} {K : PySem.W.Frag} {mg mb : Str -> Option Value} {CX : CXT} {k : Nat} {fa a : Addr} {fd : FuncData} {x : Str} {sp : Sp} {s₁ : Shared} {vs : List Value} {ns : List Int}
  (KX : K.In s₁.heap) (hns : s₁.heap.Ns mainGlobals mg) (hb : s₁.heap.Ns builtinsNs mb) (hbb : ∀ x : Str, x ≠ "__name__" -> mb x = bootBuiltins x) (hlim : s₁.heap.NoLimit) (hg : s₁.gens = #[])
  (ha : s₁.heap.get? a = some { cls := .type "list", data := .seq vs.toArray }) (hi : IntsAre vs ns) (hl : ns.length <= sizeLine) (hr : Room k callerA)
  (F : ∀ base : Heap, K.In base -> base.Ns mainGlobals mg -> FnOk P w K mg base CX k fa fd [x] sp) (hbind : ∀ (s : Shared) (u : Value), BindsTo s fd ⟨[u], []⟩ [(x, u)])
  (hsp : ∀ H : Hp, Only H -> SqL K H a (ns.map V.int) -> sp [.ref a] H (fun v _ => v = .bl true) fun _ _ _ => False)
  (hCX : ∀ H e s', CX [] H s₁ (fun _ _ _ => False) e s' -> False) :
  codeAny (model P w) callerA (.call (.ref fa) ⟨[.ref a], []⟩) (fun r s' => r = .ok (.ret (.bool true)) /\ OldK s₁.heap s'.heap /\ s'.os = s₁.os /\ AllBare s'.gens) s₁ := by
 have rv := Oh hi
 have lenV := hi.length
 have core : ∀ H : Hp, Only H -> SqL K H a (ns.map V.int) -> HOk P w H s₁.heap -> (∀ b, H b ≠ none -> b = a) -> (H a ≠ none -> K.lookup a = none) ->
   codeAny (model P w) callerA (.call (.ref fa) ⟨[.ref a], []⟩) (fun r s' => r = .ok (.ret (.bool true)) /\ OldK s₁.heap s'.heap /\ s'.os = s₁.os /\ AllBare s'.gens) s₁ := by
  intro H hO hS hok hA hK
  have base_of : ∀ {b : Addr} {o : Obj}, s₁.heap.get? b = some o -> H b = none -> (qi1 s₁.heap H).get? b = some o := fun e n => qf6 e n
  have noA : ∀ {b : Addr} {o : Obj} {es : Array DictEntry} {ep : Nat}, s₁.heap.get? b = some o -> o.data = .dict es ep -> H b = none := fun {b o es ep} e d => by
   cases q : H b with
   | none => rfl
   | some u =>
    have e' : b = a := hA b (by rw [q]; simp)
    subst e'
    rw [ha] at e; cases e
    have d' : Data.seq vs.toArray _ = Data.dict es ep := d
    cases d'
  have nsK : ∀ {b : Addr} {m : Str -> Option Value}, s₁.heap.Ns b m -> (qi1 s₁.heap H).Ns b m := fun {b m} ⟨o, es, ep, e, d, r⟩ => ⟨o, es, ep, base_of e (noA e d), d, r⟩
  have hKb : K.In (qi1 s₁.heap H) := fun b o e => base_of (KX b o e) (by
   cases q : H b with
   | none => rfl
   | some u =>
    have e' : b = a := hA b (by rw [q]; simp)
    subst e'
    rw [hK (by rw [q]; simp)] at e; cases e)
  have hM : Mod K mg (qi1 s₁.heap H) := ⟨hKb, nsK hns, ⟨mb, nsK hb, hbb⟩, let ⟨mc, h1, h2⟩ := hlim; ⟨mc, nsK h1, h2⟩⟩
  have e0 : Env0 P w K mg (qi1 s₁.heap H) callerA [] s₁ H := ⟨rfl, hM, fun b o e => qq1 e, Nat.le_of_eq (Zr _ _), trivial, fun b hb => absurd (show b ∈ ([] : List Addr) from hb) (by simp), hok, .of_eq hg⟩
  refine codeAny_mono ((F _ hKb (nsK hns)).run callerA [] s₁ H ⟨[.ref a], []⟩ [.ref a] [.ref a] _ _ hr e0 (hbind s₁ (.ref a)) (.cons rfl .nil) (hsp H hO hS)) fun r s' h => ?_
  cases r with
  | error e => exact (hCX H e s' h).elim
  | ok fl =>
   cases fl with
   | next => exact False.elim h
   | brk => exact False.elim h
   | cont => exact False.elim h
   | ret u =>
    obtain ⟨v, H', os, bare, un, hok', r', q⟩ := h
    have q' : v = .bl true := q
    subst q'
    obtain rfl : u = Value.bool true := r'
    refine ⟨rfl, OldK.of_keep fun b o e => ?_, os, bare⟩
    cases q : H b with
    | none => exact un.keep b o e q (by intro z; exact absurd (show b ∈ ([] : List Addr) from z) (by simp)) (by simp)
    | some u =>
     rcases hO b with z | ⟨ob, xs, z⟩
     ·rw [q] at z; cases z
     ·have z2 := un.frzs b ob _ z
      obtain ⟨e1, _⟩ := hok b _ z
      obtain ⟨e2, _⟩ := hok' b _ z2
      rw [e] at e1; cases e1
      exact e2
 cases hk : K.lookup a with
 | some o =>
  have e := KX a o hk
  rw [ha] at e
  cases e
  refine core (fun _ => none) (fun _ => .inl rfl) (.inr ⟨_, vs.toArray, _, hk, rfl, rfl, rfl, by rw [List.size_toArray, lenV]; exact hl, by simpa using rv⟩) (fun b u z => by have z' : (none : Option HO) = some u := z; cases z') (fun b z => absurd rfl z) fun z => absurd rfl z
 | none =>
  refine core (fun b => if b = a then some (.frz { cls := .type "list", data := .seq vs.toArray } (.lst (ns.map V.int))) else none) (fun b => ?_) (.inl (.inr ⟨{ cls := .type "list", data := .seq vs.toArray }, if_pos rfl⟩)) (fun b u z => ?_) (fun b z => ?_) fun _ => hk
  ·by_cases hb : b = a
   ·exact .inr ⟨_, _, if_pos hb⟩
   ·exact .inl (if_neg hb)
  ·by_cases hb : b = a
   ·have z' := (if_pos hb).symm.trans z
    cases z'
    subst hb
    exact ⟨ha, by rw [List.length_map]; exact hl, vs, _, rv, ha⟩
   ·have z' := (if_neg hb).symm.trans z
    cases z'
  ·by_cases hb : b = a
   ·exact hb
   ·exact absurd (if_neg hb) z
end L2
namespace L2
open PySem PySem.Spec PyProof.Rows
theorem walk_of {l : PySem.W.OpenLaw} {n k : Nat} {q : Program} {loose : List Str} {XP : (Str -> Option Value) -> Heap -> Prop} {YP : World -> Heap -> Prop} {d : DefRec} {K : Params -> PySem.W.Frag} {CX : World -> CXT} {sp : World -> Sp} {x : Str}
  (hn : l.most = some n) (hn2 : n <= sizeLine) (hdf : d.params.defaults = []) (hr : Room k callerA)
  (hY : ∀ (w : World) (h : Heap), YP w h -> (K w.params).In h)
  (F : ∀ (w : World) (mg : Str -> Option Value) (fa : Addr) (h : Heap), (K w.params).In h -> h.Ns mainGlobals mg -> mg d.name = some (.ref fa) ->
   ∃ fd : FuncData, (∀ (s : Shared) (u : Value), BindsTo s fd ⟨[u], []⟩ [(x, u)]) /\
    ∀ base : Heap, (K w.params).In base -> base.Ns mainGlobals mg -> FnOk l.prog w (K w.params) mg base (CX w) k fa fd [x] (sp w))
  (hsp : ∀ (w : World) (H : Hp) (a : Addr) (ns : List Int), ns.length <= n -> Only H -> SqL (K w.params) H a (ns.map V.int) -> sp w [.ref a] H (fun v _ => v = .bl true) fun _ _ _ => False)
  (hCX : ∀ (w : World) (H : Hp) (s : Shared) (e : Value) (s' : Shared), CX w [] H s (fun _ _ _ => False) e s' -> False) :
  PySem.W.WalkO q loose XP YP l.row.toRowW d [] (fun f vs => PySem.call f vs) := by
 refine Att.attach_call hn hdf fun w s₀ s₁ mg mb fa o pm cd doc a vs ns G Y ho hd hcd hmg hobj hints hlen hg => ?_
 have KX := hY w _ Y
 obtain ⟨fd, hb, hF⟩ := F w mg fa _ KX G.T.g hmg
 exact qh6 KX G.T.g G.T.b G.T.builtins G.T.nolimit hg hobj hints (Nat.le_trans hlen hn2) hr hF hb (fun H hO hS => hsp w H a ns hlen hO hS) fun H e s' => hCX w H s₁ e s'
end L2
namespace L2
open PySem PySem.Spec PyProof.Rows
noncomputable def Aa (s : Stmt) : Arguments := match s with
 | .FunctionDef _ a _ _ _ _ _ _ _ _ => a
 | _ => { posonlyargs := [], args := [], vararg := none, kwonlyargs := [], kw_defaults := [], kwarg := none, defaults := [] }
noncomputable def je (s : Stmt) : List Stmt := match s with
 | .FunctionDef _ _ b _ _ _ _ _ _ _ => b
 | _ => []
noncomputable def qj (s : Stmt) : Scope := match s with
 | .FunctionDef _ _ _ _ _ _ sc _ _ _ => sc
 | _ => { kind := .function, names := [], isGenerator := false, isCoroutine := false }
noncomputable abbrev CX0 : CXT := fun _ _ _ _ _ _ => False
noncomputable abbrev E0 : XK := fun _ _ _ => False
theorem qz7 {X : Cx} : Uh CX0 X E0 := fun _ _ _ _ _ _ _ h => h.elim
structure Fun (K : PySem.W.Frag) (x qual : Str) (st : Stmt) (f : Addr) (fd : FuncData) : Prop where
  ex : ∃ (oc : Value) (od : Option Addr) (kV doc pm : Value) (an : Option Addr) (cdv ct : Value) (osl : Array (Option Value)),
    fd = PySem.W.fnOf x qual (Aa st) (je st) (qj st) .none kV doc pm an cdv ct /\ K.lookup f = some ⟨oc, od, .func fd, osl⟩ /\ PySem.W.codeIn K cdv qual = true
  kp : PySem.W.keepIn K (.ref f) = true
section
variable {P : Program} {w : World} {K : PySem.W.Frag} {mg : Str -> Option Value} {base : Heap}
theorem Fun.ok {x qual : Str} {st : Stmt} {f : Addr} {fd : FuncData} {N ps : List Str} {k : Nat} {sp : Sp} (F : Fun K x qual st f fd) (S : FnScope N ps (qj st)) (len : ∀ vs H Q E, sp vs H Q E -> vs.length = ps.length)
  (hbody : ∀ (cdv : Value) (A : Around) (outer : List Env) (s : Shared) (H : Hp) (vs : List V) (Q : VK) (E : XK), Room k (A.deeper (envOfC qual (qj st) s.heap.objs.size f cdv)) -> sp vs H Q E ->
   ∃ t, PSs (uq CX0 P w K mg base N qual (qj st) f cdv A outer s H E).nox (je st) t /\ t { nx := fun _ H' => Q .non H', rt := Q } (start N vs) H) : FnOk P w K mg base CX0 (k + 1) f fd ps sp := by
 obtain ⟨oc, od, kV, doc, pm, an, cdv, ct, osl, rfl, lk, hcd⟩ := F.ex
 refine qu3 lk hcd S len fun A outer s H vs Q E hr hsp => ?_
 obtain ⟨t, h, q⟩ := hbody cdv A outer s H vs Q E hr hsp
 exact ⟨t, h.nox, q⟩
theorem Fun.binds {x qual : Str} {st : Stmt} {f : Addr} {fd : FuncData} {ps : List Str} (F : Fun K x qual st f fd)
  (h : ∀ (kV doc pm : Value) (an : Option Addr) (cdv ct : Value) (us : List Value), us.length = ps.length -> bindArgs (PySem.W.fnOf x qual (Aa st) (je st) (qj st) .none kV doc pm an cdv ct) ⟨us, []⟩ = pure (ps.zip us)) : Binds K fd ps [] := by
 obtain ⟨oc, od, kV, doc, pm, an, cdv, ct, osl, rfl, lk, hcd⟩ := F.ex
 exact .all (h kV doc pm an cdv ct)
theorem qk1 {x qual : Str} {st : Stmt} {f : Addr} {oc : Value} {od an : Option Addr} {osl : Array (Option Value)} {kV doc pm cdv ct : Value} (l : K.lookup f = some ⟨oc, od, .func (PySem.W.fnOf x qual (Aa st) (je st) (qj st) .none kV doc pm an cdv ct), osl⟩)
  (c : PySem.W.codeIn K cdv qual = true) (k : PySem.W.keepIn K (.ref f) = true) : Fun K x qual st f (PySem.W.fnOf x qual (Aa st) (je st) (qj st) .none kV doc pm an cdv ct) := ⟨⟨oc, od, kV, doc, pm, an, cdv, ct, osl, rfl, l, c⟩, k⟩
end
theorem qw4 {A : Around} {k : Nat} (hr : Room k A) : A.units + 1 < cLine := Nat.lt_of_le_of_lt (Nat.add_le_add_left (by decide : 1 <= 64) _) hr.units
theorem zz {n : Nat} (h : n <= 1000) : n < sizeLine := Nat.lt_of_le_of_lt h (by decide)
section
variable {X : Cx}
theorem pv (i : Nat) {x : Str} {pos : Pos} (hN : X.N[i]? = some x := by rfl) (hv : Vis X.env.scope x := by first | exact Or.inl rfl | exact Or.inr (Or.inl rfl) | exact Or.inr (Or.inr rfl)) (hd : (x == ("__debug__" : Str)) = false := by decide)
  (hcd : (x == ("__classdict__" : Str)) = false := by decide) : PE X (.Name x pos) (zb1 i) := ql0 hN hv hd hcd
end
theorem uo {A B : Prop} (h : B) : if false = true then A else B := by
 rw [if_neg Bool.false_ne_true]
 exact h
theorem uh {A B : Prop} (h : A) : if true = true then A else B := by
 rw [if_pos rfl]
 exact h
theorem vd {c A B : Prop} [Decidable c] (h1 : c -> A) (h2 : ¬ c -> B) : if c then A else B := by
 by_cases h : c
 ·rw [if_pos h]
  exact h1 h
 ·rw [if_neg h]
  exact h2 h
theorem qr4 {c A B : Prop} [Decidable c] (hc : c) (h : B) : if (!decide c) = true then A else B := by
 rw [decide_eq_true hc]
 exact uo h
noncomputable def Same (H H' : Hp) : Prop := ∀ b o, H b = some o -> H' b = some o
theorem Same.trans {H H1 H2 : Hp} (a : Same H H1) (b : Same H1 H2) : Same H H2 := fun c o h => b c o (a c o h)
theorem Same.free {H H' : Hp} (e : Same H H') {l : Addr} (h : H' l = Option.none) : H l = Option.none := by
 cases q : H l with
 | none => rfl
 | some o =>
  rw [e l o q] at h
  cases h
theorem Same.seq {K : PySem.W.Frag} {H H' : Hp} {a : Addr} {xs : List V} (e : Same H H') (h : SqL K H a xs) : SqL K H' a xs := by
 rcases h with (h | ⟨o, h⟩) | h
 ·exact .inl (.inl (e _ _ h))
 ·exact .inl (.inr ⟨o, e _ _ h⟩)
 ·exact .inr h
section
variable {κ : Type} [DecidableEq κ]
end
end L2
namespace L2
open PySem PySem.Spec PyProof.Rows
section
variable {prog : Program} {w : World} {A : Around} {R : Result -> Shared -> Prop} {s : Shared}
theorem Qq {elt target iter : Expr} {ifs : List Expr} {scope : Scope} {pos : Pos} {it acc : Value} {env : Env} (I : Nat -> Shared -> Prop)
    (turn : ∀ n s, I n s -> wpAny (model prog w) A (pyNext it) (fun r s1 => match r with
      | none => R (.ok .next) s1
      | some v => wpAny (model prog w) A (letOwnedTupleGo target it v) (fun _ s2 => wpAny (model prog w) A (assign target env v) (fun _ s3 =>
          wpAny (model prog w) A (forIn ifs true fun c r => if r = true then do let ok ← isTrue c env (eval c env); pure (ForInStep.yield ok) else pure (ForInStep.yield r)) (fun ok s4 =>
            if ok = true then wpAny (model prog w) A (eval elt env) (fun x s5 =>
              wpAny (model prog w) A (call (.builtin "list.append") [acc, x]) (fun _ s6 => ∃ m, m < n /\ I m s6) (fun _ _ => False) s5) (fun _ _ => False) s4
            else ∃ m, m < n /\ I m s4) (fun _ _ => False) s3) (fun _ _ => False) s2) (fun _ _ => False) s1) (fun _ _ => False) s)
    (n : Nat) (h : I n s) :
    codeAny (model prog w) A (.compLoop (.ListComp elt [⟨target, iter, ifs, 0⟩] scope pos) 0 it acc env) R s := by
  refine codeAny_loop rfl I (fun n s hI => ?_) n h
  show wpAny _ A ((compTurn (.ListComp elt [⟨target, iter, ifs, 0⟩] scope pos) 0 it acc env).onRaise (fun x => do noteFrame x env; theTreesLotGoes x)) _ _ s
  refine wpAny_noted ?_
  rw [compTurn_list]
  refine wpAny_bind (wpAny_standAt (wpAny_bind (wpAny_mono (turn n s hI) (fun r s1 h1 => ?_) fun _ _ h' => h'.elim)))
  cases r with
  | none => exact wpAny_pure h1
  | some v =>
    refine wpAny_bind (wpAny_mono h1 (fun _ s2 h2 => wpAny_bind (wpAny_mono h2 (fun _ s3 h3 => wpAny_bind (wpAny_mono h3 (fun ok s4 h4 => ?_) fun _ _ h' => h'.elim)) fun _ _ h' => h'.elim)) fun _ _ h' => h'.elim)
    cases ok with
    | false => exact wpAny_pure ⟨rfl, h4⟩
    | true =>
      exact wpAny_bind (wpAny_bind (wpAny_mono h4 (fun x s5 h5 => wpAny_bind (wpAny_mono h5 (fun _ s6 h6 => wpAny_pure (wpAny_pure ⟨rfl, h6⟩)) fun _ _ h' => h'.elim)) fun _ _ h' => h'.elim))
end
noncomputable def yq (X : Cx) (N1 : List Str) (scope : Scope) (cl : List (Str × Addr)) (C : Addr) (s0 : Shared) (H0 : Hp) (fp : List Addr) : Cx where
  prog := X.prog
  w := X.w
  K := X.K
  mg := X.mg
  base := X.base
  A := X.A
  N := N1
  s₀ := s0
  H₀ := H0
  env := compEnvC scope cl C X.env
  outer := X.stack
  stack := X.stack
  ex := fp
  fn := fun _ => false
  calm := X.calm
  pn := []
  xe := fun _ _ => False
structure CompOk (X : Cx) (scope : Scope) (cl : List (Str × Addr)) (N1 : List Str) (cap : List (Option Nat)) : Prop where
  clos : closureFor scope X.env = pure cl
  sub : ∀ x c, cl.lookup x = some c -> X.env.cells.lookup x = some c
  kind : scope.kind = .function
  nocell : ∀ y ∈ scope.names, y.2 ≠ .cell
  names : ∀ y ∈ scope.names, y.2 = .local -> scope.names.lookup y.1 = some .local
  has : ∀ x, ((relabel scope X.env).names.lookup x = some .cell \/ (relabel scope X.env).names.lookup x = some .free) -> ∃ c, cl.lookup x = some c
  len : cap.length = N1.length
  caps : ∀ (i : Nat) (x : Str) (j : Nat), N1[i]? = some x -> cap[i]? = some (some j) -> X.N[j]? = some x /\ Vis X.env.scope x /\ X.env.kindOf x ≠ some .local /\ ((relabel scope X.env).names.lookup x = some .cell \/ (relabel scope X.env).names.lookup x = some .free)
noncomputable def Ze (cap : List (Option Nat)) (σ : St) : St := cap.map fun o => match o with
 | some j => (σ[j]?).getD none
 | none => none
noncomputable def PIf (X : Cx) (ifs : List Expr) (t : TT) : Prop :=
  ∀ (pins : List (Addr × Obj)) (s : Shared) (σ : St) (H : Hp) (Q : Bool -> Hp -> Prop), Inv X pins σ H s -> t σ H Q ->
    wpAny (model X.prog X.w) X.A (forIn ifs true fun c r => if r = true then do let ok ← isTrue c X.env (eval c X.env); pure (ForInStep.yield ok) else pure (ForInStep.yield r)) (TP X pins σ Q) X.xe s
theorem yt {X : Cx} : PIf X [] (fun _ H Q => Q true H) := fun _ _ σ H Q I h => wpAny_tests_nil ⟨H, I, h⟩
theorem qb8 {X : Cx} {c : Expr} {t : TT} (h : PT X c t) : PIf X [c] t := fun pins s σ H Q I q => wpAny_tests_one (h pins s σ H Q I q)
noncomputable def Wv (J : It) (g : TG) (tt : TT) (te : TE) (acc : Addr) (σ0 : St) (H1 : Hp) (Q : VK) : Prop :=
 ∃ W : Nat -> Nat -> St -> Hp -> Prop, (∃ m, W 0 m σ0 (upd H1 acc (.lst []))) /\ ∀ i m σ1 H2, W i m σ1 H2 ->
  (J.stop i H2 /\ Q (.ref acc) H2) \/ (J.go i H2 /\ ∃ N : St -> Hp -> Prop, (∀ σ' H', N σ' H' -> ∃ m', m' < m /\ W (i + 1) m' σ' H') /\ ∀ x H3, J.yld i H2 x H3 -> g x σ1 H3 fun σ4 H4 => tt σ4 H4 fun b H5 =>
   if b = true then te σ4 H5 fun y H6 => ∃ xs, H6 acc = some (.lst xs) /\ xs.length < sizeLine /\ N σ4 (upd H6 acc (.lst (xs ++ [y])))
   else N σ4 H5)
noncomputable def qt5 (wi : TI) (g : TG) (tt : TT) (te : TE) (cap : List (Option Nat)) : TE := fun σ H Q => wi σ H fun J H1 => ∀ acc, H1 acc = none -> Wv J g tt te acc (Ze cap σ) H1 Q
section
variable {X : Cx} {tg elt iter : Expr} {ifs : List Expr} {scope : Scope} {cl : List (Str × Addr)} {N1 : List Str} {cap : List (Option Nat)} {g : TG} {tt : TT} {te : TE} {pos : Pos}
 {pins : List (Addr × Obj)} {σ : St} {H1 : Hp} {s2 : Shared}
theorem qm7 (K : CompOk X scope cl N1 cap) {fp : List Addr} {s : Shared} {H : Hp} (I : Inv X pins σ H s) (hf : ∀ b ∈ fp, Xe X pins H b) (hlt : ∀ b ∈ fp, b < s.heap.objs.size) :
    (yq X N1 scope cl s.heap.objs.size s H fp).Ok where
  mod := I.ok.mod
  kind := K.kind
  glob := I.ok.glob
  blt := I.ok.blt
  above := Nat.le_refl _
  inj := fun x y c h1 h2 => I.ok.inj x y c (K.sub x c h1) (K.sub y c h2)
  has := fun x h => K.has x h
  cab := fun x c h => by cases (show false = true from h)
  hd := I.ok.hd
  frames := I.ok.frames
  stk := .inl rfl
  exf := fun b hb => ⟨Nat.ne_of_lt (hlt b hb), fun x c h => (hf b hb).2.2.2.2.1 x c (K.sub x c h)⟩
  bs := I.bs
  bsz := Nat.le_trans I.ok.bsz I.sz
  noex := fun b o e hb => by
    rcases (hf b hb).2.2.2.1 with z | z
    · exact I.ok.noex b o e z
    · exact absurd (Nat.lt_of_lt_of_le (Heap.lt_size (I.ok.bs b o e).1) z) (Nat.lt_irrefl _)
  exfs := fun b hb z => by
    rcases List.mem_cons.mp (I.stkSub b z) with q | q
    · exact (hf b hb).2.1 q
    · exact (hf b hb).2.2.1 q
  funs := I.stack
  frf := I.stkFree
theorem U8 {J : It} {fp : List Addr} {it : Addr} {tn : Nat -> Heap -> Prop} {Q : VK} {RR : Value -> Addr -> Result -> Shared -> Prop} {E : Value -> Shared -> Prop}
  (K : CompOk X scope cl N1 cap) (hc : X.calm = true) (I : Inv X pins σ H1 s2) (T : Turn X.prog X.w X.K tg J fp it tn) (st2 : tn 0 s2.heap) (f2 : ∀ b ∈ fp, Xe X pins H1 b)
  (hg : ∀ C s0 H0 fp, PG (yq X N1 scope cl C s0 H0 fp) tg g) (ht : ∀ C s0 H0 fp, PIf (yq X N1 scope cl C s0 H0 fp) ifs tt) (he : ∀ C s0 H0 fp, PE (yq X N1 scope cl C s0 H0 fp) elt te)
  (h : ∀ acc, H1 acc = none -> Wv J g tt te acc (Ze cap σ) H1 Q)
  (hRR : ∀ D C H' s', Inv X pins σ H' s' -> (∃ m, s'.heap.Ns C m) -> Xe X pins H' C -> Q (.ref D) H' -> RR (.ref D) C (.ok .next) s') :
  wpAny (model X.prog X.w) X.A (newList []) (fun acc s3 => wpAny (model X.prog X.w) X.A (newFunctionEnv scope X.env.globals cl [] X.env.qual none .none (some X.env)) (fun cenv s4 =>
   codeAny (model X.prog X.w) X.A (.compStart (.ListComp elt [⟨tg, iter, ifs, 0⟩] scope pos) 0 (.ref it) acc { cenv with scope := relabel scope X.env }) (RR acc cenv.locals) s4) E s3) E s2 := by
 have fr := I.hok.fresh (Nat.le_refl s2.heap.objs.size)
 obtain ⟨W, ⟨m0, w0⟩, turn⟩ := h _ fr
 have objs := T.obj 0 _ st2
 have lt2 : ∀ b ∈ fp, b < s2.heap.objs.size := fun b hb => let ⟨o, e, _⟩ := objs b hb; Heap.lt_size e
 refine wpAny_newObj_type ?_
 have I3 : Inv X pins σ (upd H1 s2.heap.objs.size (.lst [])) { s2 with heap := s2.heap.push { cls := .type "list", data := .seq ([] : List Value).toArray }, toks := s2.toks } :=
  I.lnew (its := []) (t' := s2.toks) .nil (Nat.zero_le _)
 have old3 : ∀ b o, s2.heap.get? b = some o -> (s2.heap.push { cls := .type "list", data := .seq ([] : List Value).toArray }).get? b = some o := fun b o e => Heap.get?_push_of_some _ e
 have f3 : ∀ b ∈ fp, Xe X pins (upd H1 s2.heap.objs.size (.lst [])) b := fun b hb => by
  obtain ⟨z, r⟩ := f2 b hb
  exact ⟨by rw [qt (Nat.ne_of_lt (lt2 b hb))]; exact z, r⟩
 have st3 : tn 0 (s2.heap.push { cls := .type "list", data := .seq ([] : List Value).toArray }) := T.keep _ _ _ st2 fun b _ o e => old3 b o e
 show wpAny _ _ _ _ _ { s2 with heap := s2.heap.push { cls := .type "list", data := .seq ([] : List Value).toArray }, toks := s2.toks }
 generalize hs3 : ({ s2 with heap := s2.heap.push { cls := .type "list", data := .seq ([] : List Value).toArray }, toks := s2.toks } : Shared) = s3 at *
 have hh3 : s3.heap = s2.heap.push { cls := .type "list", data := .seq ([] : List Value).toArray } := by rw [← hs3]
 rw [← hh3] at st3
 have lt3 : ∀ b ∈ fp, b < s3.heap.objs.size := fun b hb => by rw [hh3, Heap.size_push]; exact Nat.lt_succ_of_lt (lt2 b hb)
 generalize hD : s2.heap.objs.size = D at *
 generalize hH3 : upd H1 D (HO.lst []) = H3 at *
 refine wpAny_newFunctionEnv K.nocell (by intro y hy; simp at hy) (fun h1 hns sb => ?_) K.kind
 have old4 : ∀ b o, s3.heap.get? b = some o -> h1.get? b = some o := fun b o e => sb.extBut b o (Nat.ne_of_lt (Heap.lt_size e)) (Heap.get?_push_of_some _ e)
 have ok := qm7 K I3 f3 lt3
 have I4 : Inv (yq X N1 scope cl s3.heap.objs.size s3 H3 fp) [] (Ze cap σ) H3 { s3 with heap := h1, toks := s3.toks + ([] : List (Str × Value)).length } := by
  refine ⟨ok, rfl, I3.bare, Un.kept old4, ⟨_, hns, fun i x v e1 e2 e3 => ?_⟩, fun x c e => ?_, I3.hok.fresh (Nat.le_refl _), fun x c e => I3.freeC x c (K.sub x c e), fun p hp => absurd (show p ∈ ([] : List (Addr × Obj)) from hp) (by simp), I3.hok.kept old4, ?_⟩
  ·obtain ⟨j, ej, ev⟩ : ∃ j, cap[i]? = some (some j) /\ (σ[j]?).getD none = some v := by
    unfold Ze at e2
    rw [List.getElem?_map] at e2
    cases q : cap[i]? with
    | none => rw [q] at e2; cases e2
    | some o =>
     rw [q] at e2
     cases o with
     | none => cases e2
     | some j => exact ⟨j, rfl, Option.some.inj e2⟩
   obtain ⟨k1, k2, k3, k4⟩ := K.caps i x j e1 ej
   have ev' : σ[j]? = some (some v) := by
    cases q : σ[j]? with
    | none => rw [q] at ev; cases ev
    | some o => rw [q] at ev; exact congrArg some ev
   obtain ⟨m, hn, hl⟩ := I3.loc
   obtain ⟨u, ru, lk⟩ := hl j x v k1 ev' k2
   refine ⟨u, ru, .inr ⟨k4, ?_⟩⟩
   rcases lk with ⟨z, _⟩ | ⟨_, c, e, hcell⟩
   ·exact absurd z k3
   ·obtain ⟨c', e'⟩ := K.has x k4
    have ec := K.sub x c' e'
    rw [e] at ec; cases ec
    obtain ⟨o, ho, hd⟩ := hcell
    exact ⟨c, e', o, old4 _ _ ho, hd⟩
  ·obtain ⟨v, o, ho, hd⟩ := I3.cell x c (K.sub x c e)
   exact ⟨v, o, old4 _ _ ho, hd⟩
  ·unfold Ze
   rw [List.length_map]
   exact K.len
 have loop : ∀ s5 : Shared, s5 = { s3 with heap := h1, toks := s3.toks + ([] : List (Str × Value)).length } ->
   codeAny (model X.prog X.w) X.A (.compLoop (.ListComp elt [⟨tg, iter, ifs, 0⟩] scope pos) 0 (.ref it) (.ref D) (compEnvC scope cl s3.heap.objs.size X.env)) (RR (.ref D) s3.heap.objs.size) s5 := by
  rintro s5 rfl
  have st4 : tn 0 h1 := T.keep _ _ _ st3 fun b _ o e => old4 b o e
  have stat : ∀ {H' : Hp}, (∀ b ∈ fp, H' b = none) -> ∀ b ∈ fp, Xe (yq X N1 scope cl s3.heap.objs.size s3 H3 fp) [] H' b := fun {H'} hn b hb =>
   ⟨hn b hb, (ok.exf b hb).1, ok.exfs b hb, .inl hb, (ok.exf b hb).2, fun p hp => absurd (show p ∈ ([] : List (Addr × Obj)) from hp) (by simp)⟩
  refine Qq (fun n s' => ∃ i σ' H', Inv (yq X N1 scope cl s3.heap.objs.size s3 H3 fp) [] σ' H' s' /\ tn i s'.heap /\ (∀ b ∈ fp, H' b = none) /\ W i n σ' H') ?_ m0
   ⟨0, _, H3, I4, st4, fun b hb => (f3 b hb).1, w0⟩
  rintro n s6 ⟨i, σ6, H6, I6, st6, fr6, w6⟩
  rcases turn i n σ6 H6 w6 with ⟨stop, q⟩ | ⟨go, N, hN, step⟩
  ·refine thn (T.done (yq X N1 scope cl s3.heap.objs.size s3 H3 fp) rfl rfl rfl hc i [] s6 σ6 H6 _ I6 (stat fr6) st6 stop) fun r s7 ⟨hr, I7⟩ => ?_
   subst hr
   have I8 : Inv X pins σ H6 s7 := I3.call' (ch := fp) I7.os I7.base I7.hok I7.bare fun b hb => ⟨(f3 b hb).2.2.2.1, (f3 b hb).2.1, (f3 b hb).2.2.2.2.1, (f3 b hb).2.2.2.2.2⟩
   have hC : Xe X pins H6 s3.heap.objs.size := I3.fpOk (Nat.le_refl _) I7.free
   obtain ⟨m, hn, _⟩ := I7.loc
   exact hRR D _ H6 s7 I8 ⟨m, hn⟩ hC q
  ·refine thn (T.item (yq X N1 scope cl s3.heap.objs.size s3 H3 fp) rfl rfl rfl hc i [] s6 σ6 H6 _ I6 (stat fr6) st6 go) fun r s7 ⟨u, hr, h7⟩ => ?_
   subst hr
   refine thn h7 fun _ s8 ⟨x, H8, I8, r8, y8, st8, fr8⟩ => ?_
   have I8' := I8.pinned (stat fr8) (T.obj _ _ st8)
   have keepT : ∀ {σ' : St} {H' : Hp} {s' : Shared}, Inv (yq X N1 scope cl s3.heap.objs.size s3 H3 fp) ([] ++ Oi fp s8.heap) σ' H' s' -> tn (i + 1) s'.heap /\ ∀ b ∈ fp, H' b = none := fun {σ' H' s'} I' =>
    ⟨T.keep _ _ _ st8 fun b hb o e => (I'.pin (b, o) (List.mem_append_right _ (List.mem_append_right _ (Ae hb e)))).1, fun b hb => by
     obtain ⟨o, e, d⟩ := T.obj _ _ st8 b hb
     exact (I'.pin (b, o) (List.mem_append_right _ (List.mem_append_right _ (Ae hb e)))).2.1⟩
   refine thn (hg _ s3 H3 fp _ s8 σ6 H8 x u _ I8' r8 (step x H8 y8)) fun _ s9 ⟨σ9, H9, I9, q9⟩ => ?_
   refine thn (ht _ s3 H3 fp _ s9 σ9 H9 _ I9 q9) fun b s10 ⟨H10, I10, q10⟩ => ?_
   cases b with
   | false =>
    rw [if_neg Bool.false_ne_true] at q10 ⊢
    obtain ⟨m', hm, w'⟩ := hN _ _ q10
    obtain ⟨k1, k2⟩ := keepT I10
    exact ⟨m', hm, i + 1, σ9, H10, I10.unpinned, k1, k2, w'⟩
   | true =>
    rw [if_pos rfl] at q10 ⊢
    refine thn (he _ s3 H3 fp _ s10 σ9 H10 _ I10 q10) fun v s11 ⟨y, H11, I11, r11, xs, hx, hz, n11⟩ => ?_
    obtain ⟨m', hm, w'⟩ := hN _ _ n11
    refine thn (Bp (X := yq X N1 scope cl s3.heap.objs.size s3 H3 fp) _ s11 σ9 H11 (.ref D) [y] (.ref D) [v] (fun _ H' => H' = upd H11 D (.lst (xs ++ [y]))) I11 rfl (.cons r11 .nil) ⟨D, xs, y, rfl, rfl, hx, hz, rfl⟩) fun v' s12 ⟨y', H12, I12, r12, q12⟩ => ?_
    subst q12
    obtain ⟨k1, k2⟩ := keepT I12
    exact ⟨m', hm, i + 1, σ9, _, I12.unpinned, k1, k2, w'⟩
 have st4 : tn 0 h1 := T.keep _ _ _ st3 fun b _ o e => old4 b o e
 exact codeAny_compStart_list (loop _ rfl) (T.self X.A 0 _ _ _ st4 (loop _ rfl))
theorem Inv.letgo {H : Hp} {s' : Shared} {C : Addr} (I : Inv X pins σ H s') (f : Xe X pins H C) {h' : Heap} (sb : Heap.SameBut C s'.heap h') : Inv X pins σ H { s' with heap := h' } :=
 I.turned (t' := s'.toks) (fun b o hb e => (sb.2 b hb).trans e) f.1 f.2.1 f.2.2.2.1 f.2.2.2.2.1 f.2.2.2.2.2
theorem yg {wi : TI} (K : CompOk X scope cl N1 cap) (hc : X.calm = true) (hi : PI X tg iter wi) (hg : ∀ C s0 H0 fp, PG (yq X N1 scope cl C s0 H0 fp) tg g) (ht : ∀ C s0 H0 fp, PIf (yq X N1 scope cl C s0 H0 fp) ifs tt)
  (he : ∀ C s0 H0 fp, PE (yq X N1 scope cl C s0 H0 fp) elt te) (hs : ∀ x, foldedSetIterable iter X.env x = pure x := by intro _; rfl) :
  PE X (.ListComp elt [⟨tg, iter, ifs, 0⟩] scope pos) (qt5 wi g tt te cap) := by
 intro pins s σ H Q I h
 rw [eval_ListComp]
 refine wpAny_comprehension_free (use := none) rfl hs K.clos K.kind K.names (thn (hi pins s σ H _ I h) fun v s1 h1 => thn h1 fun itv s2 h2 => ?_)
 obtain ⟨it, fp, tn, J, H2, e, I2, T, st2, f2, hq⟩ := h2
 subst e
 refine U8 (RR := fun acc C => compPost (model X.prog X.w) X.A X.xe none (EP X pins σ Q) acc C) K hc I2 T st2 f2 hg ht he hq ?_
 rintro D C H' s' I' ⟨m, hn⟩ f q
 exact ⟨m, hn, fun h' sb => ⟨.ref D, H', I'.letgo f sb, rfl, q⟩⟩
theorem ql4 {wi : TI} {i : Nat} {y : Str} {py spos : Pos} (K : CompOk X scope cl N1 cap) (hc : X.calm = true) (hi : PI X tg iter wi) (hg : ∀ C s0 H0 fp, PG (yq X N1 scope cl C s0 H0 fp) tg g)
    (ht : ∀ C s0 H0 fp, PIf (yq X N1 scope cl C s0 H0 fp) ifs tt) (he : ∀ C s0 H0 fp, PE (yq X N1 scope cl C s0 H0 fp) elt te)
    (hN : X.N.Nodup) (hy : X.N[i]? = some y) (hl : X.env.scope.names.lookup y = some .local)
    (hsw : swapsWith (.ListComp elt [⟨tg, iter, ifs, 0⟩] scope pos) (some (.Name y py)) spos.line X.env = pure true) (hs : ∀ x, foldedSetIterable iter X.env x = pure x := by intro _; rfl) :
    PS X (.Assign [.Name y py] (.ListComp elt [⟨tg, iter, ifs, 0⟩] scope pos) spos) (qj4 (qt5 wi g tt te cap) (yf i)) := by
  intro pins s σ H D I h
  rw [exec_Assign_Name_used _ _ _ _ hsw]
  refine wpAny_bind (wpAny_standAt (wpAny_bind ?_))
  show wpAny _ X.A (do let _ ← comprehension (.ListComp elt [⟨tg, iter, ifs, 0⟩] scope pos) scope X.env _ (newList []) false (eval iter X.env) (some (assign (.Name y py) X.env))) _ _ s
  refine wpAny_bind (thn (wpAny_comprehension_free (use := some (assign (.Name y py) X.env)) (Q := fun _ s' => SP X pins D .next s') rfl hs K.clos K.kind K.names
    (thn (hi pins s σ H _ I h) fun v s1 h1 => thn h1 fun itv s2 h2 => ?_)) fun _ s' hq => wpAny_pure (wpAny_pure hq))
  obtain ⟨it, fp, tn, J, H2, e, I2, T, st2, f2, hq⟩ := h2
  subst e
  refine U8 (RR := fun acc C => compPost (model X.prog X.w) X.A X.xe (some (assign (.Name y py) X.env)) (fun _ s' => SP X pins D .next s') acc C) (Q := fun x H1 => D.nx (σ.set i (some x)) H1) K hc I2 T st2 f2 hg ht he hq ?_
  rintro L C H' s' I' ⟨m, hn⟩ f q
  show wpAny _ X.A (assign (.Name y py) X.env (.ref L)) _ _ _
  refine wpAny_assign_Name (O5 I' hN hy (.inl hl) (show RelV (.ref L) (.ref L) from rfl) (fun s3 I3 hsb => ?_) (.inr hl))
  obtain ⟨a, sb, ha⟩ := hsb
  have hCa : C ≠ a := by
    rcases ha with rfl | ha
    · exact f.2.1
    · exact Ne.symm (f.2.2.2.2.1 y a ha)
  refine ⟨m, hn.sameBut sb hCa, fun h' sb' => ⟨_, H', I3.letgo f sb', q⟩⟩
end
theorem Di {lo : Int} {n : Nat} {g : TG} {tt : TT} {te : TE} {σ0 : St} {H1 : Hp} {acc : Addr} {Q : VK} (Pv : Nat -> St -> Hp -> Prop) (h0 : Pv 0 σ0 (upd H1 acc (.lst [])))
  (hs : ∀ i σ H, i < n -> Pv i σ H -> g (.int (lo + i)) σ H fun σ4 H4 => tt σ4 H4 fun b H5 =>
   if b = true then te σ4 H5 fun y H6 => ∃ xs, H6 acc = some (.lst xs) /\ xs.length < sizeLine /\ Pv (i + 1) σ4 (upd H6 acc (.lst (xs ++ [y]))) else Pv (i + 1) σ4 H5)
  (hd : ∀ σ H, Pv n σ H -> Q (.ref acc) H) : Wv (Itr lo n) g tt te acc σ0 H1 Q := by
 refine ⟨fun i m σ H => m = n - i /\ i <= n /\ Pv i σ H, ⟨n, by simp, Nat.zero_le _, h0⟩, ?_⟩
 rintro i m σ H ⟨rfl, hi, p⟩
 by_cases hlt : i < n
 ·refine .inr ⟨hlt, Pv (i + 1), fun σ' H' p' => ⟨n - (i + 1), by omega, rfl, hlt, p'⟩, fun x H' y => ?_⟩
  obtain ⟨e, y⟩ := y
  subst e y
  exact hs i σ _ hlt p
 ·have e : i = n := by omega
  subst e
  exact .inl ⟨Nat.le_refl _, hd σ H p⟩
theorem Bd {K : PySem.W.Frag} {a : Addr} {xs : List V} {g : TG} {tt : TT} {te : TE} {σ0 : St} {H1 : Hp} {acc : Addr} {Q : VK} (Pv : Nat -> St -> Hp -> Prop) (h0 : Pv 0 σ0 (upd H1 acc (.lst [])))
  (hl : ∀ i σ H, i <= xs.length -> Pv i σ H -> SqL K H a xs)
  (hs : ∀ i x σ H, xs[i]? = some x -> Pv i σ H -> g x σ H fun σ4 H4 => tt σ4 H4 fun b H5 =>
   if b = true then te σ4 H5 fun y H6 => ∃ ys, H6 acc = some (.lst ys) /\ ys.length < sizeLine /\ Pv (i + 1) σ4 (upd H6 acc (.lst (ys ++ [y]))) else Pv (i + 1) σ4 H5)
  (hd : ∀ σ H, Pv xs.length σ H -> Q (.ref acc) H) : Wv (Itl K a) g tt te acc σ0 H1 Q := by
 refine ⟨fun i m σ H => m = xs.length - i /\ i <= xs.length /\ Pv i σ H, ⟨xs.length, by simp, Nat.zero_le _, h0⟩, ?_⟩
 rintro i m σ H ⟨rfl, hi, p⟩
 have q := hl i σ H hi p
 by_cases hlt : i < xs.length
 ·refine .inr ⟨⟨xs, xs[i], q, by simp [hlt]⟩, Pv (i + 1), fun σ' H' p' => ⟨xs.length - (i + 1), by omega, rfl, hlt, p'⟩, fun x H' y => ?_⟩
  obtain ⟨e, y⟩ := y
  subst e
  exact hs i x σ _ (y xs q) p
 ·have e : i = xs.length := by omega
  subst e
  exact .inl ⟨⟨xs, q, Nat.le_refl _⟩, hd σ H p⟩
noncomputable def Dk (cells : List (Str × Addr)) : List (Str × NameKind) -> List (Str × Addr) -> List (Str × Addr)
 | [], acc => acc
 | (n, k) :: r, acc => Dk cells r (if k == .free then (n, (cells.lookup n).getD 0) :: acc else acc)
theorem Ii {env : Env} : ∀ (names : List (Str × NameKind)) (acc : List (Str × Addr)), (∀ y ∈ names, y.2 = .free -> (env.cells.lookup y.1).isSome = true) ->
    (forIn names acc fun x (cs : List (Str × Addr)) => if (x.2 == NameKind.free) = true then do let c ← cellOf env x.1; pure (ForInStep.yield ((x.1, c) :: cs)) else (pure (ForInStep.yield cs) : Sem (ForInStep (List (Str × Addr))))) = pure (Dk env.cells names acc)
  | [], acc, _ => by rw [List.forIn_nil]; rfl
  | (n, k) :: r, acc, h => by
    rw [List.forIn_cons]
    by_cases hk : (k == NameKind.free) = true
    · obtain ⟨c, hc⟩ := Option.isSome_iff_exists.mp (h (n, k) List.mem_cons_self (by simpa using hk))
      have hc : env.cells.lookup n = some c := hc
      have e : cellOf env n = pure c := by unfold cellOf; rw [hc]
      simp only [hk, if_true, e, pure_bind]
      unfold Dk
      rw [if_pos hk, hc]
      exact Ii r _ fun y hy => h y (List.mem_cons_of_mem _ hy)
    · simp only [hk, if_false, pure_bind, Bool.false_eq_true]
      unfold Dk
      rw [if_neg hk]
      exact Ii r _ fun y hy => h y (List.mem_cons_of_mem _ hy)
theorem Xv {env : Env} {scope : Scope} (h : ∀ y ∈ scope.names, y.2 = .free -> (env.cells.lookup y.1).isSome = true) : closureFor scope env = pure (Dk env.cells scope.names []) := by
 unfold closureFor
 rw [← Ii scope.names [] h]
 simp only [bind_pure]
theorem Li {cells : List (Str × Addr)} : ∀ (names : List (Str × NameKind)) (acc : List (Str × Addr)), (∀ y ∈ names, y.2 = .free -> (cells.lookup y.1).isSome = true) -> (∀ p ∈ acc, cells.lookup p.1 = some p.2) ->
  ∀ p ∈ Dk cells names acc, cells.lookup p.1 = some p.2
 | [], acc, _, ha, p, hp => ha p hp
 | (n, k) :: r, acc, h, ha, p, hp => by
  unfold Dk at hp
  refine Li r _ (fun y hy => h y (List.mem_cons_of_mem _ hy)) ?_ p hp
  by_cases hk : (k == NameKind.free) = true
  ·rw [if_pos hk]
   intro q hq
   rcases List.mem_cons.mp hq with rfl | hq
   ·obtain ⟨c, hc⟩ := Option.isSome_iff_exists.mp (h (n, k) List.mem_cons_self (by simpa using hk))
    have hc : cells.lookup n = some c := hc
    rw [hc]; rfl
   ·exact ha q hq
  ·rw [if_neg hk]; exact ha
theorem Lh {cells : List (Str × Addr)} (x : Str) : ∀ (names : List (Str × NameKind)) (acc : List (Str × Addr)), ((∃ y ∈ names, y.1 = x /\ y.2 = .free) \/ (acc.lookup x).isSome = true) -> ((Dk cells names acc).lookup x).isSome = true
 | [], acc, h => by
  rcases h with ⟨y, hy, _⟩ | h
  ·simp at hy
  ·exact h
 | (n, k) :: r, acc, h => by
  unfold Dk
  refine Lh x r _ ?_
  rcases h with ⟨y, hy, e1, e2⟩ | h
  ·rcases List.mem_cons.mp hy with rfl | hy
   ·refine .inr ?_
    have hk : (k == NameKind.free) = true := by simpa using e2
    rw [if_pos hk]
    have e1 : n = x := e1
    subst e1
    simp [List.lookup_cons]
   ·exact .inl ⟨y, hy, e1, e2⟩
  ·refine .inr ?_
   split
   ·rw [List.lookup_cons]
    split
    ·rfl
    ·exact h
   ·exact h
theorem jy {env : Env} {k : NameKind} : ∀ {names : List (Str × NameKind)} {x : Str}, (∀ y ∈ names, y.2 ≠ .cell) -> k = .cell \/ k = .free ->
  (names.map fun (n, k) => if (k == NameKind.free && env.scope.kind == .function && env.kindOf n == some .cell) then (n, NameKind.cell) else (n, k)).lookup x = some k -> ∃ y ∈ names, y.1 = x /\ y.2 = .free
 | [], x, _, _, h => by simp at h
 | (n, j) :: r, x, hn, hk, h => by
  have ih := @jy env k r x (fun y hy => hn y (List.mem_cons_of_mem _ hy)) hk
  rw [List.map_cons, List.lookup_cons] at h
  have e1 : ∀ (c : Bool), ((if c = true then (n, NameKind.cell) else (n, j)) : Str × NameKind).1 = n := by intro c; cases c <;> rfl
  by_cases hx : (x == n) = true
  ·have hxn : n = x := (by simpa using hx : x = n).symm
   refine ⟨(n, j), List.mem_cons_self, hxn, ?_⟩
   by_cases hc : (j == NameKind.free && env.scope.kind == .function && env.kindOf n == some .cell) = true
   ·simp only [Bool.and_eq_true] at hc
    simpa using hc.1.1
   ·simp only [e1, hx] at h
    simp only [hc] at h
    have h : j = k := by simpa using h
    rcases hk with rfl | rfl
    ·exact absurd h (hn _ List.mem_cons_self)
    ·exact h
  ·have hx' : (x == n) = false := by simpa using hx
   simp only [e1, hx'] at h
   obtain ⟨y, hy, r⟩ := ih h
   exact ⟨y, List.mem_cons_of_mem _ hy, r⟩
theorem uf {env : Env} : ∀ {names : List (Str × NameKind)} {x : Str}, names.lookup x = some .free ->
  (names.map fun (n, k) => if (k == NameKind.free && env.scope.kind == .function && env.kindOf n == some .cell) then (n, NameKind.cell) else (n, k)).lookup x = some .cell \/
  (names.map fun (n, k) => if (k == NameKind.free && env.scope.kind == .function && env.kindOf n == some .cell) then (n, NameKind.cell) else (n, k)).lookup x = some .free
 | [], _, h => by simp at h
 | (n, k) :: r, x, h => by
  have ih := @uf env r x
  show List.lookup x ((if (k == NameKind.free && env.scope.kind == .function && env.kindOf n == some .cell) = true then (n, NameKind.cell) else (n, k)) :: _) = _ \/
   List.lookup x ((if (k == NameKind.free && env.scope.kind == .function && env.kindOf n == some .cell) = true then (n, NameKind.cell) else (n, k)) :: _) = _
  cases hx : x == n with
  | true =>
   simp only [List.lookup_cons, hx] at h
   cases h
   by_cases hc : (NameKind.free == NameKind.free && env.scope.kind == .function && env.kindOf n == some .cell) = true
   ·rw [if_pos hc]; exact .inl (by simp only [List.lookup_cons, hx])
   ·rw [if_neg hc]; exact .inr (by simp only [List.lookup_cons, hx])
  | false =>
   simp only [List.lookup_cons, hx] at h
   by_cases hc : (k == NameKind.free && env.scope.kind == .function && env.kindOf n == some .cell) = true
   ·rw [if_pos hc]; simp only [List.lookup_cons, hx]; exact ih h
   ·rw [if_neg hc]; simp only [List.lookup_cons, hx]; exact ih h
theorem Oq {scope : Scope} {env : Env} {x : Str} (h : scope.names.lookup x = some .free) : (relabel scope env).names.lookup x = some .cell \/ (relabel scope env).names.lookup x = some .free := uf h
theorem Dg {X : Cx} {scope sc : Scope} {N1 : List Str} {cap : List (Option Nat)} (n : Nat) (hsc : X.env.scope = sc) (hcells : X.env.cells = cellsFrom n sc.names []) (kind : scope.kind = .function)
  (nocell : ∀ y ∈ scope.names, y.2 ≠ .cell) (names : ∀ y ∈ scope.names, y.2 = .local -> scope.names.lookup y.1 = some .local) (free : ∀ y ∈ scope.names, y.2 = .free -> sc.names.lookup y.1 = some .cell)
  (len : cap.length = N1.length)
  (caps : ∀ i, i < N1.length -> ∀ x j, N1[i]? = some x -> cap[i]? = some (some j) -> X.N[j]? = some x /\ sc.names.lookup x = some .cell /\ scope.names.lookup x = some .free) :
  CompOk X scope (Dk X.env.cells scope.names []) N1 cap := by
 have fr : ∀ y ∈ scope.names, y.2 = .free -> (X.env.cells.lookup y.1).isSome = true := fun y hy e => by
  rw [hcells]
  exact PySem.W.cellsFrom_some _ _ _ (.inl (free y hy e))
 have mem : ∀ p ∈ Dk X.env.cells scope.names [], X.env.cells.lookup p.1 = some p.2 := Li scope.names [] fr fun p hp => absurd hp (by simp)
 have has : ∀ x, ((relabel scope X.env).names.lookup x = some .cell \/ (relabel scope X.env).names.lookup x = some .free) -> ∃ c, (Dk X.env.cells scope.names []).lookup x = some c := fun x h => by
  have q : ∃ y ∈ scope.names, y.1 = x /\ y.2 = .free := by
   rcases h with h | h
   ·exact jy nocell (.inl rfl) h
   ·exact jy nocell (.inr rfl) h
  exact Option.isSome_iff_exists.mp (Lh x scope.names [] (.inl q))
 refine ⟨Xv fr, fun x c h => mem (x, c) (PySem.mem_of_lookup h), kind, nocell, names, has, len, fun i x j e1 e2 => ?_⟩
 have hi : i < N1.length := (List.getElem?_eq_some_iff.mp e1).1
 obtain ⟨k1, k2, k3⟩ := caps i hi x j e1 e2
 refine ⟨k1, .inr (.inl (by rw [hsc]; exact k2)), ?_, ?_⟩
 ·show X.env.scope.names.lookup x ≠ _
  rw [hsc, k2]
  intro z; cases z
 ·exact Oq k3
end L2
namespace L2
open PySem PySem.Spec PyProof.Rows
inductive Dd where
  | int (i : Int) | str (x : Str) | tup (ds : List Dd) | lst (ds : List Dd)
inductive At (H : Hp) : Dd -> V -> Prop where
  | int (i : Int) : At H (.int i) (.int i)
  | str (x : Str) : At H (.str x) (.str x)
  | tup {a : Addr} {xs : List V} {ds : List Dd} (h : H a = some (.tup xs)) (r : Paired (At H) ds xs) : At H (.tup ds) (.ref a)
  | lst {a : Addr} {xs : List V} {ds : List Dd} (h : H a = some (.lst xs)) (r : Paired (At H) ds xs) : At H (.lst ds) (.ref a)
noncomputable abbrev AtL (H : Hp) : List Dd -> List V -> Prop := Paired (At H)
theorem At.int_inv {H : Hp} {i : Int} {v : V} (h : At H (.int i) v) : v = .int i := by cases h; rfl
theorem At.tup_inv {H : Hp} {ds : List Dd} {v : V} (h : At H (.tup ds) v) : ∃ a xs, v = .ref a /\ H a = some (.tup xs) /\ AtL H ds xs := by
 cases h with
 | tup h r => exact ⟨_, _, rfl, h, r⟩
theorem At.lst_inv {H : Hp} {ds : List Dd} {v : V} (h : At H (.lst ds) v) : ∃ a xs, v = .ref a /\ H a = some (.lst xs) /\ AtL H ds xs := by
 cases h with
 | lst h r => exact ⟨_, _, rfl, h, r⟩
theorem Paired.get {α β : Type} {F : α -> β -> Prop} : ∀ {l : List α} {m : List β} {i : Nat} {a : α} {b : β}, Paired F l m -> l[i]? = some a -> m[i]? = some b -> F a b
 | _, _, _, _, _, .nil, e, _ => by simp at e
 | _, _, 0, _, _, .cons r _, e1, e2 => by simp at e1 e2; subst e1 e2; exact r
 | _, _, i + 1, a, b, .cons _ t, e1, e2 => Paired.get (i := i) t (by simpa using e1) (by simpa using e2)
theorem Paired.get1 {α β : Type} {F : α -> β -> Prop} {l : List α} {m : List β} {i : Nat} {a : α} (p : Paired F l m) (e : l[i]? = some a) : ∃ b, m[i]? = some b /\ F a b := by
 have hl := p.length
 obtain ⟨hi, _⟩ := List.getElem?_eq_some_iff.mp e
 have : m[i]? = some m[i] := by simp [show i < m.length by omega]
 exact ⟨_, this, Paired.get p e this⟩
theorem Paired.get2 {α β : Type} {F : α -> β -> Prop} {l : List α} {m : List β} {i : Nat} {b : β} (p : Paired F l m) (e : m[i]? = some b) : ∃ a, l[i]? = some a /\ F a b := by
 have hl := p.length
 obtain ⟨hi, _⟩ := List.getElem?_eq_some_iff.mp e
 have : l[i]? = some l[i] := by simp [show i < l.length by omega]
 exact ⟨_, this, Paired.get p this e⟩
theorem Paired.app {α β : Type} {F : α -> β -> Prop} : ∀ {l l' : List α} {m m' : List β}, Paired F l m -> Paired F l' m' -> Paired F (l ++ l') (m ++ m')
 | _, _, _, _, .nil, q => q
 | _, _, _, _, .cons r t, q => .cons r (Paired.app t q)
theorem Paired.impM {α β : Type} {F G : α -> β -> Prop} : ∀ {l : List α} {m : List β}, Paired F l m -> (∀ a b, a ∈ l -> F a b -> G a b) -> Paired G l m
 | _, _, .nil, _ => .nil
 | _, _, .cons r t, f => .cons (f _ _ List.mem_cons_self r) (Paired.impM t fun a b h => f a b (List.mem_cons_of_mem _ h))
theorem Same.upd_new {H : Hp} {a : Addr} {o : HO} (n : H a = none) : Same H (upd H a o) := fun b u e => by rw [qt (qz e n)]; exact e
theorem At.same {H H' : Hp} (e : Same H H') : ∀ (n : Nat) {d : Dd} {v : V}, sizeOf d <= n -> At H d v -> At H' d v
 | 0, d, v, hn, _ => by cases d <;> simp at hn
 | n + 1, d, v, hn, h => by
  have lt : ∀ {ds : List Dd} {d' : Dd}, d' ∈ ds -> sizeOf ds < n + 1 -> sizeOf d' <= n := fun hm hs => by
   have := List.sizeOf_lt_of_mem hm
   omega
  cases h with
  | int i => exact .int i
  | str x => exact .str x
  | tup h r => exact .tup (e _ _ h) (Paired.impM r fun a b hm q => At.same e n (lt hm (by simp at hn; omega)) q)
  | lst h r => exact .lst (e _ _ h) (Paired.impM r fun a b hm q => At.same e n (lt hm (by simp at hn; omega)) q)
theorem At.mono {H H' : Hp} {d : Dd} {v : V} (h : At H d v) (e : Same H H') : At H' d v := At.same e _ (Nat.le_refl _) h
theorem AtL.mono {H H' : Hp} {d : List Dd} {v : List V} (h : AtL H d v) (e : Same H H') : AtL H' d v := Paired.impM h fun _ _ _ q => q.mono e
inductive NoL : Dd -> Prop where
  | int (i : Int) : NoL (.int i)
  | str (x : Str) : NoL (.str x)
  | tup {ds : List Dd} (h : ∀ d ∈ ds, NoL d) : NoL (.tup ds)
noncomputable def SameT (H H' : Hp) : Prop := ∀ a xs, H a = some (.tup xs) -> H' a = some (.tup xs)
theorem Same.t {H H' : Hp} (h : Same H H') : SameT H H' := fun a xs e => h a _ e
theorem SameT.trans {H H1 H2 : Hp} (a : SameT H H1) (b : SameT H1 H2) : SameT H H2 := fun c xs e => b c xs (a c xs e)
theorem SameT.put {H : Hp} {l : Addr} {xs : List V} {o : HO} (h : H l = some (.lst xs)) : SameT H (upd H l o) := fun a ys e => by
 rw [qt (Lw e h (fun z => by cases z))]; exact e
theorem At.sameT {H H' : Hp} (e : SameT H H') : ∀ (n : Nat) {d : Dd} {v : V}, sizeOf d <= n -> NoL d -> At H d v -> At H' d v
 | 0, d, v, hn, _, _ => by cases d <;> simp at hn
 | n + 1, d, v, hn, hl, h => by
  cases h with
  | int i => exact .int i
  | str x => exact .str x
  | @tup a xs ds h r =>
   cases hl with
   | tup hl =>
    refine .tup (e _ _ h) (Paired.impM r fun d' b hm q => At.sameT e n ?_ (hl d' hm) q)
    have := List.sizeOf_lt_of_mem hm
    simp at hn
    omega
  | lst h r => cases hl
theorem At.monoT {H H' : Hp} {d : Dd} {v : V} (h : At H d v) (l : NoL d) (e : SameT H H') : At H' d v := At.sameT e _ (Nat.le_refl _) l h
theorem AtL.monoT {H H' : Hp} {d : List Dd} {v : List V} (h : AtL H d v) (l : ∀ x ∈ d, NoL x) (e : SameT H H') : AtL H' d v := Paired.impM h fun _ _ m q => q.monoT (l _ m) e
theorem Paired.snoc' {α β : Type} {F : α -> β -> Prop} {l : List α} {m : List β} {a : α} {b : β} (h : Paired F l m) (q : F a b) : Paired F (l ++ [a]) (m ++ [b]) := Paired.app h (.cons q .nil)
noncomputable def fits : Nat -> Dd -> Prop
 | _, .int _ => True
 | _, .str _ => True
 | 0, _ => False
 | n + 1, .tup ds => ∀ d ∈ ds, fits n d
 | n + 1, .lst ds => ∀ d ∈ ds, fits n d
section
variable {X : Cx} {pins : List (Addr × Obj)} {σ : St} {H : Hp} {s : Shared}
theorem At.inj {H : Hp} : ∀ (n : Nat) {d d' : Dd} {v : V}, sizeOf d <= n -> At H d v -> At H d' v -> d = d'
 | 0, d, _, _, hn, _, _ => by cases d <;> simp at hn
 | n + 1, d, d', v, hn, h, h' => by
  have rec' : ∀ {ds es : List Dd} {xs : List V}, sizeOf ds <= n -> AtL H ds xs -> AtL H es xs -> ds = es := by
   intro ds es xs hs r
   induction r generalizing es with
   | nil => intro q; cases q; rfl
   | @cons a b l1 l2 q t ih =>
    intro q'
    cases q' with
    | @cons a' _ l1' _ q1 t' =>
     have e1 : a = a' := At.inj n (by simp at hs; omega) q q1
     have e2 := ih (by simp at hs; omega) t'
     rw [e1, e2]
  cases h with
  | int i => cases h'; rfl
  | str x => cases h'; rfl
  | @tup a xs ds h r =>
   cases h' with
   | @tup _ ys es h1 r1 =>
    rw [h] at h1; cases h1
    rw [rec' (by simp at hn; omega) r r1]
   | @lst _ ys es h1 r1 => rw [h] at h1; cases h1
  | @lst a xs ds h r =>
   cases h' with
   | @lst _ ys es h1 r1 =>
    rw [h] at h1; cases h1
    rw [rec' (by simp at hn; omega) r r1]
   | @tup _ ys es h1 r1 => rw [h] at h1; cases h1
theorem all_range {n : Nat} {e : Nat -> Bool} : ((List.range n).all e) = true ↔ ∀ j, j < n -> e j = true := by
 rw [List.all_eq_true]
 exact ⟨fun h j hj => h j (List.mem_range.mpr hj), fun h j hj => h j (List.mem_range.mp hj)⟩
theorem Wb {F : Dd -> Dd -> Nat -> Bool -> Prop} {ds es : List Dd} (h : ∀ j d e, ds[j]? = some d -> es[j]? = some e -> ∃ b, F d e j b /\ (b = true ↔ d = e)) :
  ∃ f : Nat -> Bool, (∀ j d e, ds[j]? = some d -> es[j]? = some e -> F d e j (f j) /\ (f j = true ↔ d = e)) := by
 have h' : ∀ j, ∃ b : Bool, ∀ d e, ds[j]? = some d -> es[j]? = some e -> F d e j b /\ (b = true ↔ d = e) := fun j => by
  cases hd : ds[j]? with
  | none => exact ⟨true, fun d e q => by cases q⟩
  | some d =>
   cases he : es[j]? with
   | none => exact ⟨true, fun d e _ q => by cases q⟩
   | some e =>
    obtain ⟨b, q⟩ := h j d e hd he
    exact ⟨b, fun d' e' q1 q2 => by cases q1; cases q2; exact q⟩
 exact Classical.skolem.mp h'
theorem Jg {l : List Value} {j : Nat} {q : Value} (h : j < l.toArray.size) (g : l[j]? = some q) : l.toArray[j] = q := by
 have h' : j < l.length := by simpa using h
 rw [List.getElem?_eq_getElem h'] at g
 simpa using Option.some.inj g
theorem vg {ds es : List Dd} (hl : ds.length = es.length) {f : Nat -> Bool} (h : ∀ j d e, ds[j]? = some d -> es[j]? = some e -> (f j = true ↔ d = e)) : (∀ j, j < ds.length -> f j = true) ↔ ds = es := by
 constructor
 ·intro q
  refine List.ext_getElem hl fun j h1 h2 => ?_
  exact (h j ds[j] es[j] (by simp [h1]) (by simp [h2])).mp (q j h1)
 ·rintro rfl j hj
  exact (h j ds[j] ds[j] (by simp [hj]) (by simp [hj])).mpr rfl
theorem Inv.eqAt (I : Inv X pins σ H s) : ∀ (n : Nat) {A : Around} {d e : Dd} {v x : V} {u y : Value}, fits n d -> At H d v -> At H e x -> RelV v u -> RelV x y -> A.units + n < cLine ->
  ∃ b, SeqAt.EqAt A s u y b /\ (b = true ↔ d = e) := by
 intro n
 induction n with
 | zero =>
  intro A d e v x u y hf h1 h2 r1 r2 hu
  cases h1 with
  | int i =>
   obtain ⟨t, rfl⟩ := r1
   cases h2 with
   | int j => obtain ⟨t', rfl⟩ := r2; exact ⟨_, SeqAt.EqAt.int_int i t j t', by simp⟩
   | str j => obtain ⟨t', rfl⟩ := r2; exact ⟨_, SeqAt.EqAt.int_str i t j t', by simp⟩
   | tup h r => cases r2; obtain ⟨its, _, p, _⟩ := I.tuple (SqT.of (K := X.K) h); exact ⟨_, SeqAt.EqAt.int_tuple i t p (by omega), by simp⟩
   | lst h r => cases r2; obtain ⟨its, _, p, _⟩ := I.list (SqL.of (K := X.K) h); exact ⟨_, SeqAt.EqAt.int_list i t p.isList (by omega), by simp⟩
  | str i =>
   obtain ⟨t, rfl⟩ := r1
   cases h2 with
   | int j => obtain ⟨t', rfl⟩ := r2; exact ⟨_, SeqAt.EqAt.str_int i t j t', by simp⟩
   | str j => obtain ⟨t', rfl⟩ := r2; exact ⟨_, SeqAt.EqAt.str_str i t j t', by simp⟩
   | tup h r => cases r2; obtain ⟨its, _, p, _⟩ := I.tuple (SqT.of (K := X.K) h); exact ⟨_, SeqAt.EqAt.str_tuple i t p (by omega), by simp⟩
   | lst h r => cases r2; obtain ⟨its, _, p, _⟩ := I.list (SqL.of (K := X.K) h); exact ⟨_, SeqAt.EqAt.str_list i t p.isList (by omega), by simp⟩
  | tup h r => exact hf.elim
  | lst h r => exact hf.elim
 | succ n ih =>
  intro A d e v x u y hf h1 h2 r1 r2 hu
  have sub : ∀ {ds es : List Dd} {xs ys : List V} {us ws : List Value}, (∀ d ∈ ds, fits n d) -> AtL H ds xs -> AtL H es ys -> Vals xs us -> Vals ys ws ->
    ∃ f : Nat -> Bool, ∀ j d e, ds[j]? = some d -> es[j]? = some e -> (∃ p q, us[j]? = some p /\ ws[j]? = some q /\ SeqAt.EqAt A.in1 s p q (f j)) /\ (f j = true ↔ d = e) := by
   intro ds es xs ys us ws hfs a1 a2 v1 v2
   refine Wb (F := fun d e j b => ∃ p q, us[j]? = some p /\ ws[j]? = some q /\ SeqAt.EqAt A.in1 s p q b) fun j d e e1 e2 => ?_
   obtain ⟨x1, g1, t1⟩ := Paired.get1 a1 e1
   obtain ⟨x2, g2, t2⟩ := Paired.get1 a2 e2
   obtain ⟨p, p1, p2⟩ := v1.get g1
   obtain ⟨q, q1, q2⟩ := v2.get g2
   obtain ⟨b, hb, hb'⟩ := ih (A := A.in1) (hfs d (List.mem_of_getElem? e1)) t1 t2 p2 q2 (by show A.units + 1 + n < cLine; omega)
   exact ⟨b, ⟨p, q, p1, q1, hb⟩, hb'⟩
  cases h1 with
  | int i =>
   obtain ⟨t, rfl⟩ := r1
   cases h2 with
   | int j => obtain ⟨t', rfl⟩ := r2; exact ⟨_, SeqAt.EqAt.int_int i t j t', by simp⟩
   | str j => obtain ⟨t', rfl⟩ := r2; exact ⟨_, SeqAt.EqAt.int_str i t j t', by simp⟩
   | tup h r => cases r2; obtain ⟨its, _, p, _⟩ := I.tuple (SqT.of (K := X.K) h); exact ⟨_, SeqAt.EqAt.int_tuple i t p (by omega), by simp⟩
   | lst h r => cases r2; obtain ⟨its, _, p, _⟩ := I.list (SqL.of (K := X.K) h); exact ⟨_, SeqAt.EqAt.int_list i t p.isList (by omega), by simp⟩
  | str i =>
   obtain ⟨t, rfl⟩ := r1
   cases h2 with
   | int j => obtain ⟨t', rfl⟩ := r2; exact ⟨_, SeqAt.EqAt.str_int i t j t', by simp⟩
   | str j => obtain ⟨t', rfl⟩ := r2; exact ⟨_, SeqAt.EqAt.str_str i t j t', by simp⟩
   | tup h r => cases r2; obtain ⟨its, _, p, _⟩ := I.tuple (SqT.of (K := X.K) h); exact ⟨_, SeqAt.EqAt.str_tuple i t p (by omega), by simp⟩
   | lst h r => cases r2; obtain ⟨its, _, p, _⟩ := I.list (SqL.of (K := X.K) h); exact ⟨_, SeqAt.EqAt.str_list i t p.isList (by omega), by simp⟩
  | @tup a xs ds h r =>
   cases r1
   obtain ⟨its, rv, p, _⟩ := I.tuple (SqT.of (K := X.K) h)
   cases h2 with
   | int j => obtain ⟨t', rfl⟩ := r2; exact ⟨_, SeqAt.EqAt.tuple_int j t' p (by omega), by simp⟩
   | str j => obtain ⟨t', rfl⟩ := r2; exact ⟨_, SeqAt.EqAt.tuple_str j t' p (by omega), by simp⟩
   | @lst b ys es h' r' =>
    cases r2
    obtain ⟨its', rv', p', _⟩ := I.list (SqL.of (K := X.K) h')
    exact ⟨_, SeqAt.EqAt.tuple_list p p'.isList (by omega), by simp⟩
   | @tup b ys es h' r' =>
    cases r2
    obtain ⟨its', rv', p', _⟩ := I.tuple (SqT.of (K := X.K) h')
    by_cases hab : a = b
    ·subst hab
     have e := At.inj _ (Nat.le_refl _) (At.tup h r) (At.tup h' r')
     exact ⟨true, SeqAt.EqAt.same _, by simp [e]⟩
    ·obtain ⟨f, hfj⟩ := sub hf r r' rv rv'
     have l1 := r.length
     have l2 := r'.length
     have l3 := rv.length
     have l4 := rv'.length
     refine ⟨_, SeqAt.EqAt.of_refs hab (SeqAt.RcAt.tuples (e := f) p p' (by omega) fun j h1 h2 => ?_), ?_⟩
     ·simp only [List.size_toArray] at h1 h2
      obtain ⟨⟨q1, q2, g1, g2, z⟩, _⟩ := hfj j ds[j] es[j] (by simp [show j < ds.length by omega]) (by simp [show j < es.length by omega])
      rw [Jg _ g1, Jg _ g2]
      exact z
     ·rw [Bool.and_eq_true, all_range, List.size_toArray, List.size_toArray, beq_iff_eq]
      constructor
      ·rintro ⟨q, el⟩
       have hl : ds.length = es.length := by omega
       rw [(vg hl fun j d e e1 e2 => (hfj j d e e1 e2).2).mp fun j hj => q j (by omega)]
      ·intro e
       injection e with e
       subst e
       refine ⟨fun j hj => ?_, by omega⟩
       exact (hfj j ds[j] ds[j] (by simp [show j < ds.length by omega]) (by simp [show j < ds.length by omega])).2.mpr rfl
  | @lst a xs ds h r =>
   cases r1
   obtain ⟨its, rv, p, _⟩ := I.list (SqL.of (K := X.K) h)
   cases h2 with
   | int j => obtain ⟨t', rfl⟩ := r2; exact ⟨_, SeqAt.EqAt.list_int j t' p.isList (by omega), by simp⟩
   | str j => obtain ⟨t', rfl⟩ := r2; exact ⟨_, SeqAt.EqAt.list_str j t' p.isList (by omega), by simp⟩
   | @tup b ys es h' r' =>
    cases r2
    obtain ⟨its', rv', p', _⟩ := I.tuple (SqT.of (K := X.K) h')
    exact ⟨_, SeqAt.EqAt.list_tuple p.isList p' (by omega), by simp⟩
   | @lst b ys es h' r' =>
    cases r2
    obtain ⟨its', rv', p', _⟩ := I.list (SqL.of (K := X.K) h')
    by_cases hab : a = b
    ·subst hab
     have e := At.inj _ (Nat.le_refl _) (At.lst h r) (At.lst h' r')
     exact ⟨true, SeqAt.EqAt.same _, by simp [e]⟩
    ·obtain ⟨f, hfj⟩ := sub hf r r' rv rv'
     have l1 := r.length
     have l2 := r'.length
     have l3 := rv.length
     have l4 := rv'.length
     by_cases hl : ds.length = es.length
     ·refine ⟨_, SeqAt.EqAt.of_refs hab (SeqAt.RcAt.lists (e := f) p.isList p'.isList (by simp only [List.size_toArray]; omega) (by omega) fun j h1 h2 => ?_), ?_⟩
      ·simp only [List.size_toArray] at h1 h2
       obtain ⟨⟨q1, q2, g1, g2, z⟩, _⟩ := hfj j ds[j] es[j] (by simp [show j < ds.length by omega]) (by simp [show j < es.length by omega])
       rw [Jg _ g1, Jg _ g2]
       exact z
      ·rw [all_range, List.size_toArray]
       constructor
       ·intro q
        rw [(vg hl fun j d e e1 e2 => (hfj j d e e1 e2).2).mp fun j hj => q j (by omega)]
       ·intro e
        injection e with e
        subst e
        intro j hj
        exact (hfj j ds[j] ds[j] (by simp [show j < ds.length by omega]) (by simp [show j < ds.length by omega])).2.mpr rfl
     ·refine ⟨_, SeqAt.EqAt.of_refs hab (SeqAt.RcAt.lists_lengths p.isList p'.isList (by simp only [List.size_toArray, bne_iff_ne]; omega) (by omega)), ?_⟩
      constructor
      ·intro z; cases z
      ·intro e; injection e with e; exact absurd (congrArg List.length e) hl
theorem Inv.subs (I : Inv X pins σ H s) {n : Nat} {A : Around} {ds es : List Dd} {xs ys : List V} {us ws : List Value} (hfs : ∀ d ∈ ds, fits n d) (a1 : AtL H ds xs) (a2 : AtL H es ys) (v1 : Vals xs us) (v2 : Vals ys ws) (hu : A.units + n + 1 < cLine) :
  ∃ f : Nat -> Bool, (∀ j (h1 : j < us.toArray.size) (h2 : j < ws.toArray.size), SeqAt.EqAt A.in1 s us.toArray[j] ws.toArray[j] (f j)) /\ ∀ j d e, ds[j]? = some d -> es[j]? = some e -> (f j = true ↔ d = e) := by
 obtain ⟨f, hf⟩ := Wb (F := fun d e j b => ∃ p q, us[j]? = some p /\ ws[j]? = some q /\ SeqAt.EqAt A.in1 s p q b) fun j d e e1 e2 => by
  obtain ⟨x1, g1, t1⟩ := Paired.get1 a1 e1
  obtain ⟨x2, g2, t2⟩ := Paired.get1 a2 e2
  obtain ⟨p, p1, p2⟩ := v1.get g1
  obtain ⟨q, q1, q2⟩ := v2.get g2
  obtain ⟨b, hb, hb'⟩ := I.eqAt n (A := A.in1) (hfs d (List.mem_of_getElem? e1)) t1 t2 p2 q2 (by show A.units + 1 + n < cLine; omega)
  exact ⟨b, ⟨p, q, p1, q1, hb⟩, hb'⟩
 have l1 := a1.length
 have l2 := a2.length
 have l3 := v1.length
 have l4 := v2.length
 refine ⟨f, fun j h1 h2 => ?_, fun j d e e1 e2 => (hf j d e e1 e2).2⟩
 simp only [List.size_toArray] at h1 h2
 obtain ⟨⟨q1, q2, g1, g2, z⟩, _⟩ := hf j ds[j] es[j] (by simp [show j < ds.length by omega]) (by simp [show j < es.length by omega])
 rw [Jg _ g1, Jg _ g2]
 exact z
noncomputable def qk6 : Dd -> Dd -> Prop
 | .tup _, .tup _ => True
 | .lst _, .lst _ => True
 | _, _ => False
theorem Inv.rcAt (I : Inv X pins σ H s) {n : Nat} {A : Around} {d e : Dd} {v x : V} {u y : Value} (hf : fits (n + 1) d) (hk : qk6 d e) (h1 : At H d v) (h2 : At H e x) (r1 : RelV v u) (r2 : RelV x y) (hu : A.units + n + 1 < cLine) :
  ∃ b, SeqAt.RcAt A s u y b /\ SeqAt.RcNeAt A s u y (!b) /\ (b = true ↔ d = e) := by
 cases h1 with
 | int i => exact hk.elim
 | str i => exact hk.elim
 | @tup a xs ds h r =>
  cases r1
  cases h2 with
  | int j => exact hk.elim
  | str j => exact hk.elim
  | lst h' r' => exact hk.elim
  | @tup b ys es h' r' =>
   cases r2
   obtain ⟨its, rv, p, _⟩ := I.tuple (SqT.of (K := X.K) h)
   obtain ⟨its', rv', p', _⟩ := I.tuple (SqT.of (K := X.K) h')
   obtain ⟨f, hfj, hfe⟩ := I.subs hf r r' rv rv' hu
   have l1 := r.length
   have l2 := r'.length
   have l3 := rv.length
   have l4 := rv'.length
   refine ⟨_, SeqAt.RcAt.tuples (e := f) p p' (by omega) hfj, SeqAt.RcNeAt.tuples (e := f) p p' (by omega) hfj, ?_⟩
   rw [Bool.and_eq_true, all_range, List.size_toArray, List.size_toArray, beq_iff_eq]
   constructor
   ·rintro ⟨q, el⟩
    have hl : ds.length = es.length := by omega
    rw [(vg hl hfe).mp fun j hj => q j (by omega)]
   ·intro e
    injection e with e
    subst e
    refine ⟨fun j hj => ?_, by omega⟩
    exact (hfe j ds[j] ds[j] (by simp [show j < ds.length by omega]) (by simp [show j < ds.length by omega])).mpr rfl
 | @lst a xs ds h r =>
  cases r1
  cases h2 with
  | int j => exact hk.elim
  | str j => exact hk.elim
  | tup h' r' => exact hk.elim
  | @lst b ys es h' r' =>
   cases r2
   obtain ⟨its, rv, p, _⟩ := I.list (SqL.of (K := X.K) h)
   obtain ⟨its', rv', p', _⟩ := I.list (SqL.of (K := X.K) h')
   obtain ⟨f, hfj, hfe⟩ := I.subs hf r r' rv rv' hu
   have l1 := r.length
   have l2 := r'.length
   have l3 := rv.length
   have l4 := rv'.length
   by_cases hl : ds.length = es.length
   ·refine ⟨_, SeqAt.RcAt.lists (e := f) p.isList p'.isList (by simp only [List.size_toArray]; omega) (by omega) hfj, SeqAt.RcNeAt.lists (e := f) p.isList p'.isList (by simp only [List.size_toArray]; omega) (by omega) hfj, ?_⟩
    rw [all_range, List.size_toArray]
    constructor
    ·intro q
     rw [(vg hl hfe).mp fun j hj => q j (by omega)]
    ·intro e
     injection e with e
     subst e
     intro j hj
     exact (hfe j ds[j] ds[j] (by simp [show j < ds.length by omega]) (by simp [show j < ds.length by omega])).mpr rfl
   ·refine ⟨false, SeqAt.RcAt.lists_lengths p.isList p'.isList (by simp only [List.size_toArray, bne_iff_ne]; omega) (by omega), SeqAt.RcNeAt.lists_lengths p.isList p'.isList (by simp only [List.size_toArray, bne_iff_ne]; omega) (by omega), ?_⟩
    constructor
    ·intro z; cases z
    ·intro e; injection e with e; exact absurd (congrArg List.length e) hl
end
noncomputable def zc8 (n : Nat) : R2 := fun x y H Q => ∃ d e, fits (n + 1) d /\ qk6 d e /\ At H d x /\ At H e y /\ (d = e -> Q (.bl true) H) /\ (d ≠ e -> Q (.bl false) H)
theorem Um {X : Cx} {n : Nat} (hu : X.A.units + n + 1 < cLine) : OpR X (compareOp .Eq) (zc8 n) := by
 intro pins s σ H x y v u Q I rx ry h
 obtain ⟨d, e, hf, hk, h1, h2, q1, q2⟩ := h
 obtain ⟨b, z, _, hb⟩ := I.rcAt hf hk h1 h2 rx ry hu
 refine z X.prog X.w _ _ ?_
 cases b with
 | true => exact ⟨.bl true, H, I, rfl, q1 (hb.mp rfl)⟩
 | false => exact ⟨.bl false, H, I, rfl, q2 fun e => by cases hb.mpr e⟩
theorem zm {X : Cx} {K : PySem.W.Frag} (hK : X.K = K) : wu X (.builtin "isinstance") (fun xs H Q => ∃ x T t b, xs = [x, .ty T] /\ TyOf K H x t /\ PySem.W.kitOne K t (.type T) = some b /\ Q (.bl b) H) := by
 subst hK
 intro pins s σ H xs us Q I r h
 obtain ⟨x, T, t, b, rfl, ty, e, q⟩ := h
 obtain ⟨u, w', rfl, r1, r2⟩ := vals2 r
 cases (show w' = Value.type T from r2)
 exact Xy I r1 ty e fun tk => ⟨.bl b, H, I.tok tk, rfl, q⟩
end L2
namespace L2
open PySem PySem.Spec PyProof.Rows
section
variable {X : Cx} {K : PySem.W.Frag}
theorem qp (h : X.K = K) : IxR X (za8 K) := by subst h; exact qv8
theorem Dt (h : X.K = K) : IxR X (zb4 K) := by subst h; exact qm0
theorem By (h : X.K = K) : SlR X (zc0 K) := by subst h; exact qr9
theorem jr (h : X.K = K) : SlR X (zb9 K) := by subst h; exact qo8
theorem jm (h : X.K = K) : wu X (.builtin "len") (fun xs H Q => ∃ p ys, xs = [.ref p] /\ (SqL K H p ys \/ SqT K H p ys) /\ Q (.int ys.length) H) := by subst h; exact Ou
theorem Jm (h : X.K = K) : wu X (.type "list") (fun xs H Q => ∃ p ys, xs = [.ref p] /\ (SqL K H p ys \/ SqT K H p ys) /\ ∀ l, H l = none -> Q (.ref l) (upd H l (.lst ys))) := by subst h; exact N7
theorem Ar (h : X.K = K) : wu X (.type "tuple") (fun xs H Q => ∃ p ys, xs = [.ref p] /\ ((SqL K H p ys /\ ∀ l, H l = none -> Q (.ref l) (upd H l (.tup ys))) \/ (SqT K H p ys /\ Q (.ref p) H))) := by subst h; exact Lq
theorem Dw (h : X.K = K) : OpR X (binaryOp .Add) (qt3 K) := by subst h; exact ql9
theorem ud {tg l : Expr} {tl : TE} (h : X.K = K) (hl : PE X l tl) : PI X tg l (qr8 K tl) := by subst h; exact ql1 hl
theorem Gk {tg l : Expr} {tl : TE} (h : X.K = K) (hl : PE X l tl) : PI X tg l (za9 K tl) := by subst h; exact qv2 hl
theorem qp1 {es : List Expr} {k : Nat} {t : TGs} {n : Nat} {pos : Pos} (h : X.K = K) (hc : X.calm = true) (hg : PGs X es t)
  (hn : (assignEach es X.env).length = n := by rfl) (hst : (assignEach es X.env).findIdx? (·.1) = none := by rfl) : PG X (.Tuple es k pos) (zb7 K n t) := by subst h; exact qr5 hc hg hn hst
theorem j6 {T : String} {id : String} {name : Str} {r : V -> List V -> Hp -> VK -> Prop} {o e : Expr} {es : List Expr} {to : TE} {t : TA} {apos cpos : Pos} (h : X.K = K) (pa : PlainAttrs T) (slot : Slot T name id) (hty : typeOf (.builtin id) = pure (.type "method_descriptor")) (hm : MtM X id r) (ho : PE X o to) (ha : PA X (e :: es) t)
  (hbase : attributeBase o name X.env (eval o X.env) = eval o X.env := by rfl)
  (hfew : ((backTo cpos (starEach (e :: es) X.env)).all (fun x => !x.1) && (backToKw cpos (keywordEach [] X.env)).all (fun x => x.1.isSome)
   && decide ((e :: es).length + ([] : List Keyword).length + (if ([] : List Keyword).isEmpty then 0 else 1) < 30)) = true := by rfl)
  (hline : (apos.endLine == cpos.line) = true := by rfl) (hs : starEach (e :: es) X.env = (false, eval e X.env) :: starEach es X.env := by rfl) (hplain : (backTo cpos (starEach es X.env)).any (·.1) = false := by rfl) :
  PE X (.Call (.Attribute o name apos) (e :: es) [] cpos) (tBM K T r to t) := by subst h; exact qx6 pa slot hty hm ho ha hbase hfew hline hs hplain
end
structure Cal (P : Program) (w : World) (K : PySem.W.Frag) (mg : Str -> Option Value) (base : Heap) (k : Nat) (x : Str) (ps : List Str) (sp : Sp) : Prop where
  ex : ∃ (f : Addr) (fd : FuncData), FnOk P w K mg base CX0 k f fd ps sp /\ mg x = some (.ref f) /\ PySem.W.keepIn K (.ref f) = true /\ Binds K fd ps []
theorem qu {X : Cx} {k : Nat} {x : Str} {ps : List Str} {sp : Sp} {e : Expr} {es : List Expr} {t : TA} {p pos : Pos} (c : Cal X.prog X.w X.K X.mg X.base k x ps sp) (hr : Room k X.A) (hg : Gl X x) (ha : PA X (e :: es) t)
  (hdb : (x == ("__debug__" : Str)) = false := by decide) (he : starEach (e :: es) X.env = (false, eval e X.env) :: starEach es X.env := by rfl) (hpl : (backTo pos (starEach es X.env)).any (·.1) = false := by rfl) :
  PE X (.Call (.Name x p) (e :: es) [] pos) (qm8 sp [] E0 t) := by
 obtain ⟨f, fd, F, hm, hk, hb⟩ := c.ex
 exact qa1 F hr hg hm hk hb .nil qz7 ha hdb he hpl
structure At0 (K : PySem.W.Frag) (x : Str) (st : Stmt) : Prop where
  ex : ∃ (f : Addr) (fd : FuncData), Fun K x x st f fd /\ PySem.W.nsIn K mainGlobals x = some (some (.ref f))
theorem at0_mk {K : PySem.W.Frag} {x : Str} {st : Stmt} {f : Addr} {oc : Value} {od an : Option Addr} {osl : Array (Option Value)} {kV doc pm cdv ct : Value} (a : PySem.W.nsIn K mainGlobals x = some (some (.ref f)))
  (l : K.lookup f = some ⟨oc, od, .func (PySem.W.fnOf x x (Aa st) (je st) (qj st) .none kV doc pm an cdv ct), osl⟩) (c : PySem.W.codeIn K cdv x = true) (k : PySem.W.keepIn K (.ref f) = true) : At0 K x st :=
 ⟨f, _, qk1 l c k, a⟩
theorem At0.cal {P : Program} {w : World} {K : PySem.W.Frag} {mg : Str -> Option Value} {base h : Heap} {k : Nat} {x : Str} {st : Stmt} {ps : List Str} {sp : Sp} (a : At0 K x st) (X : K.In h) (G : h.Ns mainGlobals mg)
  (hb : ∀ (kV doc pm : Value) (an : Option Addr) (cdv ct : Value) (us : List Value), us.length = ps.length -> bindArgs (PySem.W.fnOf x x (Aa st) (je st) (qj st) .none kV doc pm an cdv ct) ⟨us, []⟩ = pure (ps.zip us))
  (ok : ∀ (f : Addr) (fd : FuncData), Fun K x x st f fd -> FnOk P w K mg base CX0 k f fd ps sp) : Cal P w K mg base k x ps sp := by
 obtain ⟨f, fd, F, e⟩ := a.ex
 exact ⟨f, fd, ok f fd F, PySem.W.mg_of X G e, F.kp, F.binds hb⟩
end L2
set_option autoImplicit false
namespace GS
open PySem PyProof.Rows
noncomputable def Tr : Bool -> Keyed -> Array Keyed -> Nat -> Nat -> Nat -> StateT SortSt Sem (Option Nat) := sortPriv% PySem.Builtin.gallop
structure Cmp (prog : Program) (w : World) (A : Around) (s : Shared) (kind : SortKind) (a0 : List Keyed) (rk : Keyed -> Int) : Prop where
  lt : ∀ x y, x ∈ a0 -> y ∈ a0 -> ∀ (E : Value -> Shared -> Prop) (Q : Bool -> Shared -> Prop), Q (decide (rk x < rk y)) s -> wpAny (model prog w) A (keyLt' kind x.1 y.1) Q E s
  inj : (a0.map rk).Nodup
section
variable {prog : Program} {w : World} {A : Around} {E : Value -> Shared -> Prop} {s : Shared} {kind : SortKind} {a0 : List Keyed} {rk : Keyed -> Int}
theorem Nx (C : Cmp prog w A s kind a0 rk) {x y : Keyed} {st : SortSt} {Q : Option Bool -> SortSt -> Prop} (hk : kindOf st = kind) (hx : x ∈ a0) (hy : y ∈ a0) (h : Q (some (decide (rk x < rk y))) st) :
  wpS (model prog w) A E s (lt' x y) Q st := by
 rw [lt'_eq]
 refine wpS_bind (wpS_get ?_)
 rw [hk]
 refine wpS_bind (wpS_lift (wpAny_attempt (C.lt x y hx hy _ _ ⟨rfl, ?_⟩)))
 exact wpS_pure h
theorem zx {arr : Array Keyed} {i : Nat} {p : Keyed} {st : SortSt} {Q : Keyed -> SortSt -> Prop} (h : arr[i]? = some p) (q : Q p st) : wpS (model prog w) A E s (elem' arr i) Q st := by
 rw [elem'_eq, h]
 exact wpS_pure q
noncomputable def bey (rk : Keyed -> Int) (left : Bool) (key x : Keyed) : Bool := if left = true then decide (rk x < rk key) else !decide (rk key < rk x)
theorem G9 (C : Cmp prog w A s kind a0 rk) {left : Bool} {key x : Keyed} {arr : Array Keyed} {i : Nat} {st : SortSt} {Q : Option Bool -> SortSt -> Prop} (hk : kindOf st = kind) (hx : arr[i]? = some x) (mx : x ∈ a0) (my : key ∈ a0) (h : Q (some (bey rk left key x)) st) :
    wpS (model prog w) A E s (do let x ← elem' arr i; if left = true then lt' x key else (do let r ← lt' key x; pure (Option.map (fun b => !b) r))) Q st := by
  refine wpS_bind (zx hx ?_)
  cases left with
  | true =>
    rw [if_pos rfl]
    exact Nx C hk mx my h
  | false =>
    rw [if_neg Bool.false_ne_true]
    exact wpS_bind (Nx C hk my mx (wpS_pure h))
theorem Je (C : Cmp prog w A s kind a0 rk) {left : Bool} {key : Keyed} {arr : Array Keyed} {base n hint : Nat} {st : SortSt} {Q : Option Nat -> SortSt -> Prop} (hk : kindOf st = kind)
  (my : key ∈ a0) (xs : Nat -> Keyed) (hx : ∀ i, i < n -> arr[base + i]? = some (xs i)) (mx : ∀ i, i < n -> xs i ∈ a0) (hh : hint < n)
  (mono : ∀ i j, i <= j -> j < n -> bey rk left key (xs j) = true -> bey rk left key (xs i) = true)
  (h : ∀ k, k <= n -> (∀ i, i < k -> bey rk left key (xs i) = true) -> (∀ i, k <= i -> i < n -> bey rk left key (xs i) = false) -> Q (some k) st) :
  wpS (model prog w) A E s (Tr left key arr base n hint) Q st := by
 refine wpS_bind (G9 C hk (hx hint hh) (mx hint hh) my ?_)
 have monoF : ∀ i j, i <= j -> j < n -> bey rk left key (xs i) = false -> bey rk left key (xs j) = false := fun i j hij hj hf => by
  cases e : bey rk left key (xs j) with
  | false => rfl
  | true => rw [mono i j hij hj e] at hf; cases hf
 cases hr : bey rk left key (xs hint) with
 | true =>
  dsimp only
  rw [if_pos rfl]
  refine wpS_bind (wpS_mono (wpS_forRange (I := fun i c st' => st' = st /\ ∃ last ofs, c = (none, last, ofs) /\ last < ofs /\ hint + last < n /\ bey rk left key (xs (hint + last)) = true /\ i + 1 <= ofs)
   (Q := fun c st' => st' = st /\ ∃ last ofs, c = (none, last, ofs) /\ last < ofs /\ hint + last < n /\ bey rk left key (xs (hint + last)) = true /\ (n - hint <= ofs \/ (hint + ofs < n /\ bey rk left key (xs (hint + ofs)) = false))) ?step ?fin ⟨rfl, 0, 1, rfl, by omega, by omega, hr, by omega⟩) ?post)
  case fin =>
   rintro c st' ⟨rfl, last, ofs, rfl, a1, a2, a3, a4⟩
   exact ⟨rfl, last, ofs, rfl, a1, a2, a3, .inl (by omega)⟩
  case step =>
   rintro i c st' _ hi' ⟨rfl, last, ofs, rfl, a1, a2, a3, a4⟩
   dsimp only
   by_cases hge : ofs >= n - hint
   ·rw [if_pos hge]
    exact wpS_pure ⟨rfl, last, ofs, rfl, a1, a2, a3, .inl hge⟩
   ·rw [if_neg hge]
    have hm : hint + ofs < n := by omega
    refine wpS_bind (G9 C hk (hx _ hm) (mx _ hm) my ?_)
    cases e : bey rk left key (xs (hint + ofs)) with
    | true =>
     simp only [Bool.not_true, Bool.false_eq_true, if_false]
     exact wpS_pure ⟨rfl, _, _, rfl, by omega, hm, e, by omega⟩
    | false =>
     simp only [Bool.not_false, if_true]
     exact wpS_pure ⟨rfl, _, _, rfl, a1, a2, a3, .inr ⟨hm, e⟩⟩
  case post =>
   rintro c st' ⟨rfl, last, ofs, rfl, a1, a2, a3, a4⟩
   have F1 : ∀ j, j < hint + last + 1 -> bey rk left key (xs j) = true := fun j hj => mono j (hint + last) (by omega) a2 a3
   have F2 : ∀ j, hint + min ofs (n - hint) <= j -> j < n -> bey rk left key (xs j) = false := fun j hj hj' => by
    rcases a4 with a4 | ⟨a4, a5⟩
    ·omega
    ·exact monoF (hint + ofs) j (by omega) hj' a5
   dsimp only
   refine wpS_bind (wpS_mono (wpS_forRange (I := fun i c st'' => st'' = st' /\ ∃ lo hi, c = (none, lo, hi) /\ lo <= hi /\ hi <= n /\ (∀ i, i < lo -> bey rk left key (xs i) = true) /\ (∀ i, hi <= i -> i < n -> bey rk left key (xs i) = false) /\ hi - lo <= n - i)
    (Q := fun c st'' => st'' = st' /\ ∃ k, c = (none, k, k) /\ k <= n /\ (∀ i, i < k -> bey rk left key (xs i) = true) /\ (∀ i, k <= i -> i < n -> bey rk left key (xs i) = false)) ?step2 ?fin2 ⟨rfl, hint + last + 1, hint + min ofs (n - hint), rfl, by omega, by omega, F1, F2, by omega⟩) ?post2)
   case post2 =>
    rintro c st'' ⟨rfl, k, rfl, k1, k2, k3⟩
    exact wpS_pure (h k k1 k2 k3)
   case fin2 =>
    rintro c st'' ⟨rfl, l, r, rfl, b1, b2, b3, b4, b5⟩
    have : l = r := by omega
    subst this
    exact ⟨rfl, l, rfl, b2, b3, b4⟩
   case step2 =>
    rintro i c st'' _ hi' ⟨rfl, l, r, rfl, b1, b2, b3, b4, b5⟩
    dsimp only
    by_cases hge : l >= r
    ·rw [if_pos hge]
     have : l = r := by omega
     subst this
     exact wpS_pure ⟨rfl, l, rfl, b2, b3, b4⟩
    ·rw [if_neg hge]
     have hm : l + (r - l) / 2 < n := by omega
     refine wpS_bind (G9 C hk (hx _ hm) (mx _ hm) my ?_)
     cases e : bey rk left key (xs (l + (r - l) / 2)) with
     | true =>
      simp only [if_true]
      refine wpS_pure ⟨rfl, _, _, rfl, by omega, b2, fun j hj => ?_, b4, by omega⟩
      exact mono j (l + (r - l) / 2) (by omega) hm e
     | false =>
      simp only [Bool.false_eq_true, if_false]
      refine wpS_pure ⟨rfl, _, _, rfl, by omega, by omega, b3, fun j hj hj' => ?_, by omega⟩
      exact monoF _ j hj hj' e
 | false =>
  dsimp only
  rw [if_neg Bool.false_ne_true]
  refine wpS_bind (wpS_mono (wpS_forRange (I := fun i c st' => st' = st /\ ∃ last ofs, c = (none, last, ofs) /\ last < ofs /\ last <= hint /\ bey rk left key (xs (hint - last)) = false /\ i + 1 <= ofs)
   (Q := fun c st' => st' = st /\ ∃ last ofs, c = (none, last, ofs) /\ last < ofs /\ last <= hint /\ bey rk left key (xs (hint - last)) = false /\ (hint + 1 <= ofs \/ (ofs <= hint /\ bey rk left key (xs (hint - ofs)) = true))) ?step ?fin ⟨rfl, 0, 1, rfl, by omega, by omega, hr, by omega⟩) ?post)
  case fin =>
   rintro c st' ⟨rfl, last, ofs, rfl, a1, a2, a3, a4⟩
   exact ⟨rfl, last, ofs, rfl, a1, a2, a3, .inl (by omega)⟩
  case step =>
   rintro i c st' _ hi' ⟨rfl, last, ofs, rfl, a1, a2, a3, a4⟩
   dsimp only
   by_cases hge : ofs >= hint + 1
   ·rw [if_pos hge]
    exact wpS_pure ⟨rfl, last, ofs, rfl, a1, a2, a3, .inl hge⟩
   ·rw [if_neg hge]
    have hm : hint - ofs < n := by omega
    refine wpS_bind (G9 C hk (hx _ hm) (mx _ hm) my ?_)
    cases e : bey rk left key (xs (hint - ofs)) with
    | true =>
     simp only [if_true]
     exact wpS_pure ⟨rfl, _, _, rfl, a1, a2, a3, .inr ⟨by omega, e⟩⟩
    | false =>
     simp only [Bool.false_eq_true, if_false]
     exact wpS_pure ⟨rfl, _, _, rfl, by omega, by omega, e, by omega⟩
  case post =>
   rintro c st' ⟨rfl, last, ofs, rfl, a1, a2, a3, a4⟩
   have F1 : ∀ j, j < hint + 1 - min ofs (hint + 1) -> bey rk left key (xs j) = true := fun j hj => by
    rcases a4 with a4 | ⟨a4, a5⟩
    ·omega
    ·exact mono j (hint - ofs) (by omega) (by omega) a5
   have F2 : ∀ j, hint - last <= j -> j < n -> bey rk left key (xs j) = false := fun j hj hj' => monoF (hint - last) j hj hj' a3
   dsimp only
   refine wpS_bind (wpS_mono (wpS_forRange (I := fun i c st'' => st'' = st' /\ ∃ lo hi, c = (none, lo, hi) /\ lo <= hi /\ hi <= n /\ (∀ i, i < lo -> bey rk left key (xs i) = true) /\ (∀ i, hi <= i -> i < n -> bey rk left key (xs i) = false) /\ hi - lo <= n - i)
    (Q := fun c st'' => st'' = st' /\ ∃ k, c = (none, k, k) /\ k <= n /\ (∀ i, i < k -> bey rk left key (xs i) = true) /\ (∀ i, k <= i -> i < n -> bey rk left key (xs i) = false)) ?step2 ?fin2 ⟨rfl, hint + 1 - min ofs (hint + 1), hint - last, rfl, by omega, by omega, F1, F2, by omega⟩) ?post2)
   case post2 =>
    rintro c st'' ⟨rfl, k, rfl, k1, k2, k3⟩
    exact wpS_pure (h k k1 k2 k3)
   case fin2 =>
    rintro c st'' ⟨rfl, l, r, rfl, b1, b2, b3, b4, b5⟩
    have : l = r := by omega
    subst this
    exact ⟨rfl, l, rfl, b2, b3, b4⟩
   case step2 =>
    rintro i c st'' _ hi' ⟨rfl, l, r, rfl, b1, b2, b3, b4, b5⟩
    dsimp only
    by_cases hge : l >= r
    ·rw [if_pos hge]
     have : l = r := by omega
     subst this
     exact wpS_pure ⟨rfl, l, rfl, b2, b3, b4⟩
    ·rw [if_neg hge]
     have hm : l + (r - l) / 2 < n := by omega
     refine wpS_bind (G9 C hk (hx _ hm) (mx _ hm) my ?_)
     cases e : bey rk left key (xs (l + (r - l) / 2)) with
     | true =>
      simp only [if_true]
      refine wpS_pure ⟨rfl, _, _, rfl, by omega, b2, fun j hj => ?_, b4, by omega⟩
      exact mono j (l + (r - l) / 2) (by omega) hm e
     | false =>
      simp only [Bool.false_eq_true, if_false]
      refine wpS_pure ⟨rfl, _, _, rfl, by omega, by omega, b3, fun j hj hj' => ?_, by omega⟩
      exact monoF _ j hj hj' e
end
end GS
namespace GS
open PySem PyProof.Rows
noncomputable def qd9 : Array Keyed -> Array Keyed -> StateT SortSt Sem (Array Keyed) := sortPriv% PySem.Builtin.mergeLo
noncomputable def qe2 : Array Keyed -> Array Keyed -> StateT SortSt Sem (Array Keyed) := sortPriv% PySem.Builtin.mergeHi
section
variable {rk : Keyed -> Int} {la lb out : List Keyed} {ia ib k : Nat}
noncomputable def Up (rk : Keyed -> Int) (l : List Keyed) : Prop := l.Pairwise fun x y => rk x < rk y
noncomputable def Below (rk : Keyed -> Int) (l m : List Keyed) : Prop := ∀ x ∈ l, ∀ y ∈ m, rk x < rk y
structure Mg (rk : Keyed -> Int) (la lb out : List Keyed) (ia ib : Nat) : Prop where
  perm : out.Perm (la.take ia ++ lb.take ib)
  up : Up rk out
  loA : Below rk out (la.drop ia)
  loB : Below rk out (lb.drop ib)
structure Good (rk : Keyed -> Int) (la lb out : List Keyed) : Prop where
  perm : out.Perm (la ++ lb)
  up : Up rk out
theorem Up.app {l m : List Keyed} (h1 : Up rk l) (h2 : Up rk m) (h : Below rk l m) : Up rk (l ++ m) := List.pairwise_append.mpr ⟨h1, h2, h⟩
theorem Up.drop {l : List Keyed} (h : Up rk l) (i : Nat) : Up rk (l.drop i) := h.sublist (List.drop_sublist i l)
theorem Up.take {l : List Keyed} (h : Up rk l) (i : Nat) : Up rk (l.take i) := h.sublist (List.take_sublist i l)
theorem Up.split {l : List Keyed} (h : Up rk l) (i : Nat) : Below rk (l.take i) (l.drop i) := by
 have q : Up rk (l.take i ++ l.drop i) := by rw [List.take_append_drop]; exact h
 exact (List.pairwise_append.mp q).2.2
theorem Below.left {l l' m : List Keyed} (h : Below rk l m) (s : ∀ x ∈ l', x ∈ l) : Below rk l' m := fun x hx => h x (s x hx)
theorem Below.right {l m m' : List Keyed} (h : Below rk l m) (s : ∀ x ∈ m', x ∈ m) : Below rk l m' := fun x hx y hy => h x hx y (s y hy)
theorem Below.app {l l' m : List Keyed} (h : Below rk l m) (h' : Below rk l' m) : Below rk (l ++ l') m := fun x hx => (List.mem_append.mp hx).elim (h x) (h' x)
theorem Below.nil {l : List Keyed} : Below rk l [] := fun _ _ _ hy => by simp at hy
theorem Uu {l : List Keyed} {i j : Nat} (h : i <= j) : ∀ x ∈ l.drop j, x ∈ l.drop i := fun x hx => by
 have e : l.drop j = (l.drop i).drop (j - i) := by rw [List.drop_drop]; congr 1; omega
 rw [e] at hx
 exact List.mem_of_mem_drop hx
theorem Mg.bulkA (h : Mg rk la lb out ia ib) (ua : Up rk la) (hb : Below rk ((la.drop ia).take k) (lb.drop ib)) : Mg rk la lb (out ++ (la.drop ia).take k) (ia + k) ib where
  perm := by
    rw [List.take_add]
    refine (h.perm.append_right _).trans ?_
    rw [List.append_assoc, List.append_assoc]
    exact List.Perm.append_left _ List.perm_append_comm
  up := h.up.app ((ua.drop ia).take k) (h.loA.right fun x hx => List.mem_of_mem_take hx)
  loA := Below.app (h.loA.right (Uu (by omega))) (by
    have := (ua.drop ia).split k
    rwa [List.drop_drop] at this)
  loB := h.loB.app hb
theorem Mg.bulkB (h : Mg rk la lb out ia ib) (ub : Up rk lb) (hb : Below rk ((lb.drop ib).take k) (la.drop ia)) : Mg rk la lb (out ++ (lb.drop ib).take k) ia (ib + k) where
  perm := by
    rw [List.take_add, ← List.append_assoc]
    exact h.perm.append_right _
  up := h.up.app ((ub.drop ib).take k) (h.loB.right fun x hx => List.mem_of_mem_take hx)
  loA := h.loA.app hb
  loB := Below.app (h.loB.right (Uu (by omega))) (by
    have := (ub.drop ib).split k
    rwa [List.drop_drop] at this)
theorem Ah {l : List Keyed} {i : Nat} {x : Keyed} (h : l[i]? = some x) : (l.drop i).take 1 = [x] := by
 obtain ⟨hi, e⟩ := List.getElem?_eq_some_iff.mp h
 rw [List.drop_eq_getElem_cons hi, e]
 rfl
theorem Mg.pushA (h : Mg rk la lb out ia ib) (ua : Up rk la) {x : Keyed} (hx : la[ia]? = some x) (hb : Below rk [x] (lb.drop ib)) : Mg rk la lb (out ++ [x]) (ia + 1) ib := by
 have := h.bulkA (k := 1) ua (by rw [Ah hx]; exact hb)
 rwa [Ah hx] at this
theorem Mg.pushB (h : Mg rk la lb out ia ib) (ub : Up rk lb) {x : Keyed} (hx : lb[ib]? = some x) (hb : Below rk [x] (la.drop ia)) : Mg rk la lb (out ++ [x]) ia (ib + 1) := by
 have := h.bulkB (k := 1) ub (by rw [Ah hx]; exact hb)
 rwa [Ah hx] at this
theorem Mg.goodAB (h : Mg rk la lb out ia ib) (ua : Up rk la) (ub : Up rk lb) (hb : Below rk (la.drop ia) (lb.drop ib)) : Good rk la lb (out ++ la.drop ia ++ lb.drop ib) where
  perm := by
    refine ((h.perm.append_right _).append_right _).trans ?_
    rw [List.append_assoc, List.append_assoc]
    have e1 : (la.take ia ++ (lb.take ib ++ (la.drop ia ++ lb.drop ib))).Perm (la.take ia ++ (la.drop ia ++ (lb.take ib ++ lb.drop ib))) := by
      refine List.Perm.append_left _ ?_
      rw [← List.append_assoc, ← List.append_assoc]
      exact List.perm_append_comm.append_right _
    refine e1.trans ?_
    rw [← List.append_assoc, List.take_append_drop, List.take_append_drop]
  up := (h.up.app (ua.drop ia) h.loA).app (ub.drop ib) (h.loB.app hb)
theorem Mg.goodBA (h : Mg rk la lb out ia ib) (ua : Up rk la) (ub : Up rk lb) (hb : Below rk (lb.drop ib) (la.drop ia)) : Good rk la lb (out ++ lb.drop ib ++ la.drop ia) where
  perm := by
    refine ((h.perm.append_right _).append_right _).trans ?_
    rw [List.append_assoc, List.append_assoc]
    have e1 : (la.take ia ++ (lb.take ib ++ (lb.drop ib ++ la.drop ia))).Perm (la.take ia ++ (la.drop ia ++ (lb.take ib ++ lb.drop ib))) := by
      refine List.Perm.append_left _ ?_
      rw [← List.append_assoc]
      exact List.perm_append_comm
    refine e1.trans ?_
    rw [← List.append_assoc, List.take_append_drop, List.take_append_drop]
  up := (h.up.app (ub.drop ib) h.loB).app (ua.drop ia) (h.loA.app hb)
theorem km {l : List Keyed} {i : Nat} {x : Keyed} (u : Up rk l) (h : l[i]? = some x) {y : Keyed} (hy : rk y < rk x) : Below rk [y] (l.drop i) := by
 obtain ⟨hi, e⟩ := List.getElem?_eq_some_iff.mp h
 intro z hz t ht
 have hz : z = y := by simpa using hz
 subst hz
 rw [List.drop_eq_getElem_cons hi, e] at ht
 rcases List.mem_cons.mp ht with rfl | ht
 ·exact hy
 ·have q := u.drop i
  rw [List.drop_eq_getElem_cons hi, e] at q
  exact Int.lt_trans hy ((List.pairwise_cons.mp q).1 t ht)
theorem za3 {l : List Keyed} (u : Up rk l) {i j : Nat} {x y : Keyed} (h : i < j) (hx : l[i]? = some x) (hy : l[j]? = some y) : rk x < rk y := by
 obtain ⟨hi, ex⟩ := List.getElem?_eq_some_iff.mp hx
 obtain ⟨hj, ey⟩ := List.getElem?_eq_some_iff.mp hy
 have := List.pairwise_iff_getElem.mp u i j hi hj h
 rw [ex, ey] at this
 exact this
end
end GS
namespace GS
open PySem PyProof.Rows
structure Sim (st st' : SortSt) : Prop where
  arr : arrOf st' = arrOf st
  pend : pendingOf st' = pendingOf st
  kind : kindOf st' = kindOf st
  failed : failedOf st' = failedOf st
theorem Sim.refl (st : SortSt) : Sim st st := ⟨rfl, rfl, rfl, rfl⟩
theorem Sim.trans {a b c : SortSt} (h : Sim a b) (k : Sim b c) : Sim a c := ⟨k.arr.trans h.arr, k.pend.trans h.pend, k.kind.trans h.kind, k.failed.trans h.failed⟩
structure Two (a0 : List Keyed) (rk : Keyed -> Int) (a b : Array Keyed) : Prop where
  ma : ∀ x ∈ a.toList, x ∈ a0
  mb : ∀ x ∈ b.toList, x ∈ a0
  ua : Up rk a.toList
  ub : Up rk b.toList
  dis : ∀ x ∈ a.toList, ∀ y ∈ b.toList, rk x ≠ rk y
  na : 0 < a.size
  nb : 0 < b.size
section
variable {prog : Program} {w : World} {A : Around} {E : Value -> Shared -> Prop} {s : Shared} {kind : SortKind} {a0 : List Keyed} {rk : Keyed -> Int}
theorem j5 {a : Array Keyed} {i : Nat} (h : i < a.size) : ∃ x, a[i]? = some x /\ a.toList[i]? = some x /\ x ∈ a.toList := by
 refine ⟨a[i], by simp [h], by simp [h], by simp⟩
theorem ww (a : Array Keyed) (i : Nat) : (a.extract i).toList = a.toList.drop i := by
 rw [Array.toList_extract, List.extract_eq_take_drop, List.take_of_length_le (by simp)]
theorem Uk (a : Array Keyed) (i k : Nat) : (a.extract i (i + k)).toList = (a.toList.drop i).take k := by
 rw [Array.toList_extract, List.extract_eq_take_drop, show i + k - i = k by omega]
theorem qe9 {left : Bool} {key x y : Keyed} (h : rk x < rk y) (q : bey rk left key y = true) : bey rk left key x = true := by
 unfold bey at q ⊢
 cases left with
 | true => simp at q ⊢; omega
 | false => simp at q ⊢; omega
theorem J8 (C : Cmp prog w A s kind a0 rk) {left : Bool} {key : Keyed} {a : Array Keyed} {i n hint : Nat} {st : SortSt} {Q : Option Nat -> SortSt -> Prop} (hk : kindOf st = kind)
  (my : key ∈ a0) (ma : ∀ x ∈ a.toList, x ∈ a0) (ua : Up rk a.toList) (hn : i + n <= a.size) (hh : hint < n) (dis : ∀ x ∈ a.toList, rk x ≠ rk key)
  (h : ∀ k, k <= n -> (∀ x ∈ (a.toList.drop i).take k, rk x < rk key) -> (∀ x ∈ (a.toList.drop (i + k)).take (n - k), rk key < rk x) -> Q (some k) st) :
  wpS (model prog w) A E s (Tr left key a i n hint) Q st := by
 have at' : ∀ j, j < n -> ∃ x, a[i + j]? = some x /\ a.toList[i + j]? = some x /\ x ∈ a.toList := fun j hj => j5 (by omega)
 obtain ⟨d, hd⟩ : ∃ d : Keyed, d ∈ a.toList := by obtain ⟨x, _, _, m⟩ := at' hint hh; exact ⟨x, m⟩
 have xs : ∀ j, j < n -> a[i + j]? = some ((a[i + j]?).getD d) /\ (a[i + j]?).getD d ∈ a.toList := fun j hj => by
  obtain ⟨x, e, _, m⟩ := at' j hj
  rw [e]
  exact ⟨rfl, m⟩
 have lst : ∀ j, j < n -> a.toList[i + j]? = some ((a[i + j]?).getD d) := fun j hj => by
  obtain ⟨x, e, e2, m⟩ := at' j hj
  rw [e, e2]; rfl
 have val : ∀ x ∈ a.toList, bey rk left key x = decide (rk x < rk key) := fun x hx => by
  have := dis x hx
  unfold bey
  cases left with
  | true => rfl
  | false =>
   rw [if_neg Bool.false_ne_true]
   by_cases q : rk x < rk key
   ·rw [decide_eq_true q, decide_eq_false (by omega)]; rfl
   ·rw [decide_eq_false q, decide_eq_true (by omega)]; rfl
 refine Je C hk my (fun j => (a[i + j]?).getD d) (fun j hj => (xs j hj).1) (fun j hj => ma _ (xs j hj).2) hh (fun p q hpq hq hb => ?_) fun k hk1 hk2 hk3 => h k hk1 (fun x hx => ?_) (fun x hx => ?_)
 ·rcases Nat.lt_or_eq_of_le hpq with z | z
  ·exact qe9 (za3 ua (by omega) (lst p (by omega)) (lst q hq)) hb
  ·subst z; exact hb
 ·obtain ⟨j, hj, e⟩ := List.mem_iff_getElem.mp hx
  rw [List.length_take, List.length_drop] at hj
  rw [List.getElem_take, List.getElem_drop] at e
  have q := hk2 j (by omega)
  have e2 := lst j (by omega)
  rw [List.getElem?_eq_getElem (by omega), e] at e2
  have e2 := Option.some.inj e2
  rw [val _ (xs j (by omega)).2, ← e2] at q
  exact of_decide_eq_true q
 ·obtain ⟨j, hj, e⟩ := List.mem_iff_getElem.mp hx
  rw [List.length_take, List.length_drop] at hj
  rw [List.getElem_take, List.getElem_drop] at e
  have q := hk3 (k + j) (by omega) (by omega)
  have e2 := lst (k + j) (by omega)
  have eidx : i + (k + j) = i + k + j := by omega
  simp only [eidx] at e2 q
  rw [List.getElem?_eq_getElem (by simp at hj ⊢; omega), e] at e2
  have e2 := Option.some.inj e2
  have mem : x ∈ a.toList := List.mem_of_mem_drop (List.mem_of_mem_take hx)
  rw [← e2, val _ mem] at q
  have q := of_decide_eq_false q
  have := dis x mem
  omega
end
end GS
namespace GS
open PySem PyProof.Rows
section
variable {prog : Program} {w : World} {A : Around} {E : Value -> Shared -> Prop} {s : Shared} {kind : SortKind} {a0 : List Keyed} {rk : Keyed -> Int}
structure Opn (rk : Keyed -> Int) (a b out : Array Keyed) (ia ib : Nat) : Prop where
  mg : Mg rk a.toList b.toList out.toList ia ib
  ha : ia + 1 < a.size
  hb : ib < b.size
theorem Yi {G : Prop} (P : Nat -> Prop) (h : (∀ m, P m) -> G) (k : ∀ m, P m) : G := h k
theorem zj {α : Type} {c : Prop} [Decidable c] {p q : StateT SortSt Sem α} {Q : α -> SortSt -> Prop} {st : SortSt} (hp : c -> wpS (model prog w) A E s p Q st) (hn : ¬ c -> wpS (model prog w) A E s q Q st) : wpS (model prog w) A E s (if c then p else q) Q st := by
 by_cases h : c
 ·rw [if_pos h]; exact hp h
 ·rw [if_neg h]; exact hn h
theorem ex1 {α : Type} {A B C : α -> Prop} {G : Prop} (h : ∃ x, A x /\ B x /\ C x) (k : ∀ x, A x -> B x -> C x -> G) : G := by
 obtain ⟨x, a, b, c⟩ := h
 exact k x a b c
theorem exs {α β : Type} {A B C D : α -> β -> Prop} {G : Prop} (h : ∃ x y, A x y /\ B x y /\ C x y /\ D x y) (k : ∀ x y, A x y -> B x y -> C x y -> D x y -> G) : G := by
 obtain ⟨x, y, a, b, c, d⟩ := h
 exact k x y a b c d
theorem ex4 {S : Prop} {α β γ δ : Type} {P Q R : α -> β -> γ -> δ -> Prop} {G : Prop} (h : S /\ ∃ a b c d, P a b c d /\ Q a b c d /\ R a b c d) (k : S -> ∀ a b c d, P a b c d -> Q a b c d -> R a b c d -> G) : G := by
 obtain ⟨s, a, b, c, d, p, q, r⟩ := h
 exact k s a b c d p q r
theorem ex5 {S : Prop} {α β γ δ ε : Type} {P Q R : α -> β -> γ -> δ -> ε -> Prop} {G : Prop} (h : S /\ ∃ a b c d e, P a b c d e /\ Q a b c d e /\ R a b c d e) (k : S -> ∀ a b c d e, P a b c d e -> Q a b c d e -> R a b c d e -> G) : G := by
 obtain ⟨s, a, b, c, d, e, p, q, r⟩ := h
 exact k s a b c d e p q r
theorem ex6 {S : Prop} {α β γ δ ε ζ : Type} {P Q R : α -> β -> γ -> δ -> ε -> ζ -> Prop} {G : Prop} (h : S /\ ∃ a b c d e f, P a b c d e f /\ Q a b c d e f /\ R a b c d e f) (k : S -> ∀ a b c d e f, P a b c d e f -> Q a b c d e f -> R a b c d e f -> G) : G := by
 obtain ⟨s, a, b, c, d, e, f, p, q, r⟩ := h
 exact k s a b c d e f p q r
theorem Q7 (C : Cmp prog w A s kind a0 rk) {a b : Array Keyed} {st : SortSt} {Q : Array Keyed -> SortSt -> Prop} (hk : kindOf st = kind) (T : Two a0 rk a b)
  (first : ∀ x y, a.toList[0]? = some x -> b.toList[0]? = some y -> rk y < rk x) (last : ∀ x, a.toList[a.size - 1]? = some x -> ∀ y ∈ b.toList, rk y < rk x)
  (h : ∀ m st', Sim st st' -> Good rk a.toList b.toList m.toList -> Q m st') : wpS (model prog w) A E s (qd9 a b) Q st := by
 have ua := T.ua
 have ub := T.ub
 refine ex1 (j5 T.nb) fun b0 eb eb' mb0 => ?_
 refine ex1 (j5 T.na) fun x0 ea ea' mx0 => ?_
 have bl : Below rk [b0] (a.toList.drop 0) := km ua ea' (first _ _ ea' eb')
 have M0 : Mg rk a.toList b.toList (#[b0] : Array Keyed).toList 0 1 := by
  have z : Mg rk a.toList b.toList [] 0 0 := ⟨by simp, List.Pairwise.nil, fun _ hx => by simp at hx, fun _ hx => by simp at hx⟩
  exact z.pushB ub eb' bl
 have lastB : ∀ ia ib, ia + 1 = a.size -> Below rk (b.toList.drop ib) (a.toList.drop ia) := fun ia ib hi y hy x hx => by
  refine ex1 (j5 (a := a) (i := ia) (by omega)) fun z ez ez' mz => ?_
  have e : a.toList.drop ia = [z] := by
   obtain ⟨hl, e⟩ := List.getElem?_eq_some_iff.mp ez'
   rw [List.drop_eq_getElem_cons hl, e, List.drop_of_length_le (by simp; omega)]
  rw [e] at hx
  have hx : x = z := by simpa using hx
  subst hx
  exact last _ (by rw [show a.size - 1 = ia by omega]; exact ez') y (List.mem_of_mem_drop hy)
 have endB : ∀ ib, ib = b.size -> b.toList.drop ib = [] := fun ib e => List.drop_of_length_le (by simp; omega)
 have endA : ∀ ia, ia = a.size -> a.toList.drop ia = [] := fun ib e => List.drop_of_length_le (by simp; omega)
 refine wpS_bind (wpS_lift (wpAny_rule ⟨rfl, ?_⟩))
 refine wpS_bind (zx eb ?_)
 dsimp only
 apply zj
 ·intro h1
  have h1 : 1 = b.size := by simpa using h1
  refine wpS_pure (h _ _ (Sim.refl _) ?_)
  have q := M0.goodAB ua ub (by rw [endB 1 h1]; exact Below.nil)
  simp only [Array.toList_append, ww, Array.toList_push]
  exact q
 ·intro h1
  have h1 : ¬ 1 = b.size := by simpa using h1
  have hnb := T.nb
  have hna := T.na
  apply zj
  ·intro h2
   have h2 : 0 + 1 = a.size := by simpa using h2
   refine wpS_pure (h _ _ (Sim.refl _) ?_)
   have q := M0.goodBA ua ub (lastB 0 1 h2)
   simp only [Array.toList_append, ww, Array.toList_push]
   exact q
  ·intro h2
   have h2 : ¬ 0 + 1 = a.size := by simpa using h2
   refine wpS_bind (wpS_get ?_)
   refine wpS_bind (wpS_mono (wpS_forRange
    (I := fun i c st' => Sim st st' /\ ∃ out ia ib mg, c = (none, out, ia, ib, mg) /\ Opn rk a b out ia ib /\ i + 1 <= ia + ib)
    (Q := fun c st' => Sim st st' /\ ∃ m, c.1 = some m /\ Good rk a.toList b.toList m.toList) ?step ?fin ⟨Sim.refl _, _, _, _, _, rfl, ⟨M0, by omega, by omega⟩, by omega⟩) ?post)
   case post =>
    rintro ⟨c1, c2⟩ st' ⟨sm, m, e, g⟩
    dsimp only at e ⊢
    subst e
    exact wpS_pure (h m st' sm g)
   case fin =>
    rintro c st' ⟨sm, out, ia, ib, mg, rfl, O, hp⟩
    have := O.ha
    have := O.hb
    omega
   case step =>
    intro i c st1 _ hi hI
    refine ex4 hI fun sm1 out1 ia1 ib1 mg1 ec O1 hp1 => ?_
    clear hI
    subst ec
    dsimp only
    refine wpS_bind (wpS_mono (wpS_forRange
     (I := fun j c st' => Sim st st' /\ ∃ out ia ib ac bc, c = (none, out, ia, ib, ac, bc) /\ Opn rk a b out ia ib /\ ia1 + ib1 + j <= ia + ib)
     (Q := fun c st' => Sim st st' /\ ((∃ m, c.1 = some m /\ Good rk a.toList b.toList m.toList) \/ ∃ out ia ib ac bc, c = (none, out, ia, ib, ac, bc) /\ Opn rk a b out ia ib /\ ia1 + ib1 + 1 <= ia + ib)) ?s2 ?f2 ⟨sm1, _, _, _, _, _, rfl, O1, by omega⟩) ?p2)
    case f2 =>
     rintro c st' ⟨sm, out, ia, ib, ac, bc, rfl, O, hp⟩
     exact ⟨sm, .inr ⟨out, ia, ib, ac, bc, rfl, O, by omega⟩⟩
    case s2 =>
     intro j c st2 _ hj hI
     refine ex5 hI fun sm2 out ia ib ac bc ec O hp => ?_
     clear hI
     subst ec
     dsimp only
     have M := O.mg
     have hia := O.ha
     have hib := O.hb
     refine ex1 (j5 (a := a) (i := ia) (by omega)) fun x e1 e2 mx => ?_
     refine ex1 (j5 O.hb) fun y e3 e4 my => ?_
     refine wpS_bind (zx e3 (wpS_bind (zx e1 (wpS_bind (Nx C (sm2.kind.trans hk) (T.mb _ my) (T.ma _ mx) ?_)))))
     have dxy := T.dis x mx y my
     apply zj
     ·intro hw
      have hw : rk y < rk x := of_decide_eq_true hw
      refine wpS_bind (zx e3 ?_)
      have M' := M.pushB ub e4 (km ua e2 hw)
      apply zj
      ·intro h3
       have h3 : ib + 1 = b.size := by simpa using h3
       refine wpS_pure ⟨sm2, .inl ⟨_, rfl, ?_⟩⟩
       have q := M'.goodAB ua ub (by rw [endB _ h3]; exact Below.nil)
       simp only [Array.toList_append, ww, Array.toList_push]
       exact q
      ·intro h3
       have h3 : ¬ ib + 1 = b.size := by simpa using h3
       have O' : Opn rk a b (out.push y) ia (ib + 1) := ⟨by simpa using M', hia, by omega⟩
       apply zj
       ·intro h4
        exact wpS_pure ⟨sm2, .inr ⟨_, _, _, _, _, rfl, O', by omega⟩⟩
       ·intro h4
        exact wpS_pure ⟨sm2, _, _, _, _, _, rfl, O', by omega⟩
     ·intro hw
      have hw : ¬ rk y < rk x := fun z => hw (decide_eq_true z)
      refine wpS_bind (zx e1 ?_)
      have M' := M.pushA ua e2 (km ub e4 (by omega))
      apply zj
      ·intro h3
       have h3 : ia + 1 + 1 = a.size := by simpa using h3
       refine wpS_pure ⟨sm2, .inl ⟨_, rfl, ?_⟩⟩
       have q := M'.goodBA ua ub (lastB _ _ h3)
       simp only [Array.toList_append, ww, Array.toList_push]
       exact q
      ·intro h3
       have h3 : ¬ ia + 1 + 1 = a.size := by simpa using h3
       have O' : Opn rk a b (out.push x) (ia + 1) ib := ⟨by simpa using M', by omega, hib⟩
       apply zj
       ·intro h4
        exact wpS_pure ⟨sm2, .inr ⟨_, _, _, _, _, rfl, O', by omega⟩⟩
       ·intro h4
        exact wpS_pure ⟨sm2, _, _, _, _, _, rfl, O', by omega⟩
    case p2 =>
     rintro c st2 ⟨sm2, (⟨m, e, g⟩ | ⟨out2, ia2, ib2, ac2, bc2, rfl, O2, hp2⟩)⟩
     ·obtain ⟨c1, c2⟩ := c
      dsimp only at e ⊢
      subst e
      exact wpS_pure ⟨sm2, m, rfl, g⟩
     ·dsimp only
      refine wpS_bind (wpS_lift (wpAny_rule ⟨rfl, ?_⟩))
      refine wpS_bind (wpS_mono (wpS_forRange
       (I := fun j c st' => Sim st st' /\ ∃ out ia ib mg ac bc, c = (none, out, ia, ib, mg, ac, bc) /\ Opn rk a b out ia ib /\ ia1 + ib1 + 1 <= ia + ib)
       (Q := fun c st' => Sim st st' /\ ((∃ m, c.1 = some m /\ Good rk a.toList b.toList m.toList) \/ ∃ out ia ib mg ac bc, c = (none, out, ia, ib, mg, ac, bc) /\ Opn rk a b out ia ib /\ ia1 + ib1 + 1 <= ia + ib)) ?s3 ?f3 ⟨sm2, _, _, _, _, _, _, rfl, O2, hp2⟩) ?p3)
      case f3 =>
       rintro c st' ⟨sm, out, ia, ib, mg, ac, bc, rfl, O, hp⟩
       exact ⟨sm, .inr ⟨out, ia, ib, mg, ac, bc, rfl, O, hp⟩⟩
      case p3 =>
       rintro c st3 ⟨sm3, (⟨m, e, g⟩ | ⟨out, ia, ib, mg, ac, bc, rfl, O, hp⟩)⟩
       ·obtain ⟨c1, c2⟩ := c
        dsimp only at e ⊢
        subst e
        exact wpS_pure ⟨sm3, m, rfl, g⟩
       ·dsimp only
        refine wpS_bind (wpS_modify ?_)
        exact wpS_pure ⟨sm3.trans ⟨rfl, rfl, rfl, rfl⟩, _, _, _, _, rfl, O, by omega⟩
      case s3 =>
       intro j c st3 _ hj hI
       refine ex6 hI fun sm3 out ia ib mg ac bc ec O hp => ?_
       clear hI
       subst ec
       dsimp only
       have M := O.mg
       have hia := O.ha
       have hib := O.hb
       refine ex1 (j5 O.hb) fun y e3 e4 my => ?_
       refine Yi ?P ?hgA ?hgB
       case hgA =>
        intro key
        apply zj
        ·intro hg
         generalize mg - 1 = m1
         exact key m1
        ·intro hg
         exact key mg
       intro mg
       all_goals
        refine wpS_bind (wpS_modify ?_)
        refine wpS_bind (zx e3 ?_)
        refine wpS_bind (J8 C (by exact sm3.kind.trans hk) (T.mb _ my) T.ma ua (by omega) (by omega) (fun x hx => T.dis x hx y my) fun k hk1 hk2 hk3 => ?_)
        dsimp only
        have Mk := M.bulkA (k := k) ua (fun x hx => km ub e4 (hk2 x hx) x (by simp))
        have yA : Below rk [y] (a.toList.drop (ia + k)) := fun z hz t ht => by
         have hz : z = y := by simpa using hz
         subst hz
         refine hk3 t ?_
         rw [List.take_of_length_le (by simp; omega)]
         exact ht
        have stepA : (∃ out' ia', out' = out ++ a.extract ia (ia + k) /\ ia' = ia + k /\ Mg rk a.toList b.toList out'.toList ia' ib /\ Below rk [y] (a.toList.drop ia')) :=
         ⟨_, _, rfl, rfl, by simpa [Uk] using Mk, yA⟩
        apply zj
        case' hp =>
         intro hk0
         refine exs stepA fun out' ia' eo ei M' yA' => ?_
         rw [← eo, ← ei]
         have hia' : ia' <= a.size := by omega
        case' hn =>
         intro hk0
         have k0 : k = 0 := by omega
         subst k0
         refine exs (show ∃ out' ia', out' = out /\ ia' = ia /\ Mg rk a.toList b.toList out'.toList ia' ib /\ Below rk [y] (a.toList.drop ia') from ⟨_, _, rfl, rfl, M, yA⟩) fun out' ia' eo ei M' yA' => ?_
         rw [← eo, ← ei]
         have hia' : ia' + 1 < a.size := by omega
        case' hp =>
         apply zj
         case' hp =>
          intro h3
          have h3 : ia' + 1 = a.size := by simpa using h3
          refine wpS_pure ⟨sm3.trans ⟨rfl, rfl, rfl, rfl⟩, .inl ⟨_, rfl, ?_⟩⟩
          have q := M'.goodBA ua ub (lastB _ _ h3)
          simp only [Array.toList_append, ww, Array.toList_push]
          exact q
         intro h3
         have h3 : ¬ ia' + 1 = a.size := by simpa using h3
         apply zj
         case' hp =>
          intro h4
          have h4 : ia' = a.size := by simpa using h4
          refine wpS_pure ⟨sm3.trans ⟨rfl, rfl, rfl, rfl⟩, .inl ⟨_, rfl, ?_⟩⟩
          have q := M'.goodAB ua ub (by rw [endA _ h4]; exact fun _ hx => by simp at hx)
          simp only [Array.toList_append, ww, Array.toList_push]
          exact q
         intro h4
         have h4 : ¬ ia' = a.size := by simpa using h4
         have hia'' : ia' + 1 < a.size := by omega
         clear hia'
         have hia' := hia''
       all_goals
        refine wpS_bind (zx e3 ?_)
        have M2 := M'.pushB ub e4 yA'
        apply zj
        case' hp =>
         intro h5
         have h5 : ib + 1 = b.size := by simpa using h5
         refine wpS_pure ⟨sm3.trans ⟨rfl, rfl, rfl, rfl⟩, .inl ⟨_, rfl, ?_⟩⟩
         have q := M2.goodAB ua ub (by rw [endB _ h5]; exact Below.nil)
         simp only [Array.toList_append, ww, Array.toList_push]
         exact q
        intro h5
        have h5 : ¬ ib + 1 = b.size := by simpa using h5
        refine ex1 (j5 (a := a) (i := ia') (by omega)) fun x e1 e2 mx => ?_
        refine wpS_bind (zx e1 ?_)
        refine wpS_bind (J8 C (by exact sm3.kind.trans hk) (T.ma _ mx) T.mb ub (by omega) (by omega) (fun z hz => (T.dis x mx z hz).symm) fun k' hk1' hk2' hk3' => ?_)
        dsimp only
        have Mk' := M2.bulkB (k := k') ub (fun z hz => km ua e2 (hk2' z hz) z (by simp))
        have xB : Below rk [x] (b.toList.drop (ib + 1 + k')) := fun z hz t ht => by
         have hz : z = x := by simpa using hz
         subst hz
         refine hk3' t ?_
         rw [List.take_of_length_le (by simp; omega)]
         exact ht
        have e5 : (out'.push y).toList = out'.toList ++ [y] := Array.toList_push
        have stepB : (∃ out3 ib', out3 = out'.push y ++ b.extract (ib + 1) (ib + 1 + k') /\ ib' = ib + 1 + k' /\ Mg rk a.toList b.toList out3.toList ia' ib' /\ Below rk [x] (b.toList.drop ib')) :=
         ⟨_, _, rfl, rfl, by rw [Array.toList_append, Uk, e5]; exact Mk', xB⟩
        apply zj
        case' hp =>
         intro hk0'
         refine exs stepB fun out3 ib' eo3 ei3 M3 xB' => ?_
         rw [← eo3, ← ei3]
         apply zj
         case' hp =>
          intro h6
          have h6 : ib' = b.size := by simpa using h6
          refine wpS_pure ⟨sm3.trans ⟨rfl, rfl, rfl, rfl⟩, .inl ⟨_, rfl, ?_⟩⟩
          have q := M3.goodAB ua ub (by rw [endB _ h6]; exact Below.nil)
          simp only [Array.toList_append, ww, Array.toList_push]
          exact q
         intro h6
         have h6 : ¬ ib' = b.size := by simpa using h6
         have hib' : ib' < b.size := by omega
        case' hn =>
         intro hk0'
         have k0 : k' = 0 := by omega
         subst k0
         refine exs (show ∃ out3 ib', out3 = out'.push y /\ ib' = ib + 1 /\ Mg rk a.toList b.toList out3.toList ia' ib' /\ Below rk [x] (b.toList.drop ib') from ⟨_, _, rfl, rfl, by rw [e5]; exact M2, xB⟩) fun out3 ib' eo3 ei3 M3 xB' => ?_
         rw [← eo3, ← ei3]
         have hib' : ib' < b.size := by omega
       all_goals
        refine wpS_bind (zx e1 ?_)
        have M4 := M3.pushA ua e2 xB'
        apply zj
        case' hp =>
         intro h7
         have h7 : ia' + 1 + 1 = a.size := by simpa using h7
         refine wpS_pure ⟨sm3.trans ⟨rfl, rfl, rfl, rfl⟩, .inl ⟨_, rfl, ?_⟩⟩
         have q := M4.goodBA ua ub (lastB _ _ h7)
         simp only [Array.toList_append, ww, Array.toList_push]
         exact q
        intro h7
        have h7 : ¬ ia' + 1 + 1 = a.size := by simpa using h7
        have O4 : Opn rk a b (out3.push x) (ia' + 1) ib' := ⟨by rw [Array.toList_push]; exact M4, by omega, hib'⟩
        apply zj <;> intro _
        ·exact wpS_pure ⟨sm3.trans ⟨rfl, rfl, rfl, rfl⟩, .inr ⟨_, _, _, _, _, _, rfl, O4, by omega⟩⟩
        ·exact wpS_pure ⟨sm3.trans ⟨rfl, rfl, rfl, rfl⟩, _, _, _, _, _, _, rfl, O4, by omega⟩
end
end GS
namespace GS
open PySem PyProof.Rows
section
variable {rk : Keyed -> Int} {la lb R : List Keyed} {na nb k : Nat}
structure Mh (rk : Keyed -> Int) (la lb R : List Keyed) (na nb : Nat) : Prop where
  perm : R.Perm (la.drop na ++ lb.drop nb)
  up : Up rk R
  hiA : Below rk (la.take na) R
  hiB : Below rk (lb.take nb) R
theorem Below.appR {l m m' : List Keyed} (h : Below rk l m) (h' : Below rk l m') : Below rk l (m ++ m') := fun x hx y hy => (List.mem_append.mp hy).elim (h x hx y) (h' x hx y)
theorem U4 {l : List Keyed} {i j : Nat} (h : i <= j) : ∀ x ∈ l.take i, x ∈ l.take j := fun x hx => by
 have e : l.take i = (l.take j).take i := by rw [List.take_take]; congr 1; omega
 rw [e] at hx
 exact List.mem_of_mem_take hx
theorem J3 {l : List Keyed} {i j : Nat} (h : i <= j) : l.drop i = (l.take j).drop i ++ l.drop j := by
 have e : l = l.take j ++ l.drop j := (List.take_append_drop j l).symm
 by_cases hj : j <= l.length
 ·conv => lhs; rw [e]
  rw [List.drop_append_of_le_length (by rw [List.length_take]; omega)]
 ·rw [List.take_of_length_le (by omega), List.drop_of_length_le (i := j) (by omega), List.append_nil]
theorem Mh.bulkA (h : Mh rk la lb R na nb) (ua : Up rk la) (hk : k <= na) (hb : Below rk (lb.take nb) ((la.take na).drop k)) : Mh rk la lb ((la.take na).drop k ++ R) k nb where
  perm := by
    rw [J3 (l := la) hk, List.append_assoc]
    exact List.Perm.append_left _ h.perm
  up := ((ua.take na).drop k).app h.up (h.hiA.left fun x hx => List.mem_of_mem_drop hx)
  hiA := Below.appR (by
    have := (ua.take na).split k
    rw [List.take_take, show min k na = k by omega] at this
    exact this) (h.hiA.left (U4 hk))
  hiB := hb.appR h.hiB
theorem Mh.bulkB (h : Mh rk la lb R na nb) (ub : Up rk lb) (hk : k <= nb) (hb : Below rk (la.take na) ((lb.take nb).drop k)) : Mh rk la lb ((lb.take nb).drop k ++ R) na k where
  perm := by
    rw [J3 (l := lb) hk, ← List.append_assoc]
    refine (List.Perm.append_left _ h.perm).trans ?_
    rw [← List.append_assoc]
    exact List.perm_append_comm.append_right _
  up := ((ub.take nb).drop k).app h.up (h.hiB.left fun x hx => List.mem_of_mem_drop hx)
  hiA := hb.appR h.hiA
  hiB := Below.appR (by
    have := (ub.take nb).split k
    rw [List.take_take, show min k nb = k by omega] at this
    exact this) (h.hiB.left (U4 hk))
theorem Ga {l : List Keyed} {i : Nat} {x : Keyed} (h : l[i]? = some x) : (l.take (i + 1)).drop i = [x] := by
 rw [List.drop_take, show i + 1 - i = 1 by omega]
 exact Ah h
theorem Mh.pushA (h : Mh rk la lb R (na + 1) nb) (ua : Up rk la) {x : Keyed} (hx : la[na]? = some x) (hb : Below rk (lb.take nb) [x]) : Mh rk la lb (x :: R) na nb := by
 have := h.bulkA (k := na) ua (by omega) (by rw [Ga hx]; exact hb)
 rwa [Ga hx] at this
theorem Mh.pushB (h : Mh rk la lb R na (nb + 1)) (ub : Up rk lb) {x : Keyed} (hx : lb[nb]? = some x) (hb : Below rk (la.take na) [x]) : Mh rk la lb (x :: R) na nb := by
 have := h.bulkB (k := nb) ub (by omega) (by rw [Ga hx]; exact hb)
 rwa [Ga hx] at this
theorem Mh.goodAB (h : Mh rk la lb R na nb) (ua : Up rk la) (ub : Up rk lb) (hb : Below rk (la.take na) (lb.take nb)) : Good rk la lb (la.take na ++ lb.take nb ++ R) where
  perm := by
    refine (List.Perm.append_left _ h.perm).trans ?_
    have e1 : (la.take na ++ lb.take nb ++ (la.drop na ++ lb.drop nb)).Perm (la.take na ++ la.drop na ++ (lb.take nb ++ lb.drop nb)) := by
      rw [List.append_assoc, List.append_assoc]
      refine List.Perm.append_left _ ?_
      rw [← List.append_assoc, ← List.append_assoc]
      exact List.perm_append_comm.append_right _
    rw [List.take_append_drop, List.take_append_drop] at e1
    exact e1
  up := ((ua.take na).app (ub.take nb) hb).app h.up (h.hiA.app h.hiB)
theorem Mh.goodBA (h : Mh rk la lb R na nb) (ua : Up rk la) (ub : Up rk lb) (hb : Below rk (lb.take nb) (la.take na)) : Good rk la lb (lb.take nb ++ la.take na ++ R) where
  perm := by
    refine (List.Perm.append_left _ h.perm).trans ?_
    have e1 : (lb.take nb ++ la.take na ++ (la.drop na ++ lb.drop nb)).Perm (la.take na ++ la.drop na ++ (lb.take nb ++ lb.drop nb)) := by
      rw [List.append_assoc, ← List.append_assoc (la.take na)]
      rw [← List.append_assoc, ← List.append_assoc (la.take na ++ la.drop na)]
      exact List.perm_append_comm.append_right _
    rw [List.take_append_drop, List.take_append_drop] at e1
    exact e1
  up := ((ub.take nb).app (ua.take na) hb).app h.up (h.hiB.app h.hiA)
theorem Ad {l : List Keyed} {i : Nat} {x : Keyed} (u : Up rk l) (h : l[i]? = some x) {y : Keyed} (hy : rk x < rk y) : Below rk (l.take (i + 1)) [y] := by
 obtain ⟨hi, e⟩ := List.getElem?_eq_some_iff.mp h
 intro z hz t ht
 have ht : t = y := by simpa using ht
 subst ht
 rw [List.take_succ_eq_append_getElem hi, e] at hz
 rcases List.mem_append.mp hz with hz | hz
 ·have q := u.split i
  have : x ∈ l.drop i := by rw [List.drop_eq_getElem_cons hi, e]; exact List.mem_cons_self
  exact Int.lt_trans (q z hz x this) hy
 ·have hz : z = x := by simpa using hz
  subst hz
  exact hy
end
theorem w5 (a : Array Keyed) (n : Nat) : (a.extract 0 n).toList = a.toList.take n := by
 rw [Array.toList_extract, List.extract_eq_take_drop, List.drop_zero, Nat.sub_zero]
theorem yu (a : Array Keyed) (i j : Nat) : (a.extract i j).toList = (a.toList.take j).drop i := by
 rw [Array.toList_extract, List.extract_eq_take_drop, List.drop_take]
section
variable {prog : Program} {w : World} {A : Around} {E : Value -> Shared -> Prop} {s : Shared} {kind : SortKind} {a0 : List Keyed} {rk : Keyed -> Int}
structure Oph (rk : Keyed -> Int) (a b out : Array Keyed) (na nb : Nat) : Prop where
  mh : Mh rk a.toList b.toList out.toList.reverse na nb
  ha : 0 < na
  la : na < a.size
  hb : 1 < nb
  lb : nb <= b.size
theorem Qz (C : Cmp prog w A s kind a0 rk) {a b : Array Keyed} {st : SortSt} {Q : Array Keyed -> SortSt -> Prop} (hk : kindOf st = kind) (T : Two a0 rk a b)
  (first : ∀ x, b.toList[0]? = some x -> ∀ y ∈ a.toList, rk x < rk y) (last : ∀ x, a.toList[a.size - 1]? = some x -> ∀ y ∈ b.toList, rk y < rk x)
  (h : ∀ m st', Sim st st' -> Good rk a.toList b.toList m.toList -> Q m st') : wpS (model prog w) A E s (qe2 a b) Q st := by
 have ua := T.ua
 have ub := T.ub
 have hna := T.na
 have hnb := T.nb
 refine ex1 (j5 (a := a) (i := a.size - 1) (by omega)) fun x0 ea ea' mx0 => ?_
 have M0 : Mh rk a.toList b.toList (#[x0] : Array Keyed).toList.reverse (a.size - 1) b.size := by
  have z : Mh rk a.toList b.toList [] (a.size - 1 + 1) b.size := ⟨by rw [List.drop_of_length_le (by simp; omega), List.drop_of_length_le (by simp)]; simp, List.Pairwise.nil, Below.nil, Below.nil⟩
  refine z.pushA ua ea' fun y hy t ht => ?_
  have ht : t = x0 := by simpa using ht
  subst ht
  exact last _ ea' y (List.mem_of_mem_take hy)
 have firstB : ∀ na nb, nb = 1 -> Below rk (b.toList.take nb) (a.toList.take na) := fun na nb hi y hy x hx => by
  subst hi
  refine ex1 (j5 T.nb) fun z ez ez' mz => ?_
  have e : b.toList.take 1 = [z] := by
   have := Ah ez'
   rwa [List.drop_zero] at this
  rw [e] at hy
  have hy : y = z := by simpa using hy
  subst hy
  exact first _ ez' x (List.mem_of_mem_take hx)
 refine wpS_bind (wpS_lift (wpAny_rule ⟨rfl, ?_⟩))
 refine wpS_bind (zx ea ?_)
 dsimp only
 apply zj
 ·intro h1
  have h1 : a.size - 1 = 0 := by simpa using h1
  refine wpS_pure (h _ _ (Sim.refl _) ?_)
  have q := M0.goodAB ua ub (by rw [h1]; intro x hx; simp at hx)
  simp only [Array.toList_append, w5, Array.toList_push, Array.toList_reverse]
  exact q
 ·intro h1
  have h1 : ¬ a.size - 1 = 0 := by simpa using h1
  apply zj
  ·intro h2
   have h2 : b.size = 1 := by simpa using h2
   refine wpS_pure (h _ _ (Sim.refl _) ?_)
   have q := M0.goodBA ua ub (firstB _ _ h2)
   simp only [Array.toList_append, w5, Array.toList_push, Array.toList_reverse]
   exact q
  ·intro h2
   have h2 : ¬ b.size = 1 := by simpa using h2
   refine wpS_bind (wpS_get ?_)
   refine wpS_bind (wpS_mono (wpS_forRange
    (I := fun i c st' => Sim st st' /\ ∃ na nb out mg, c = (none, na, nb, out, mg) /\ Oph rk a b out na nb /\ na + nb + i + 1 <= a.size + b.size)
    (Q := fun c st' => Sim st st' /\ ∃ m, c.1 = some m /\ Good rk a.toList b.toList m.toList) ?step ?fin ⟨Sim.refl _, _, _, _, _, rfl, ⟨M0, by omega, by omega, by omega, by omega⟩, by omega⟩) ?post)
   case post =>
    rintro ⟨c1, c2⟩ st' ⟨sm, m, e, g⟩
    dsimp only at e ⊢
    subst e
    exact wpS_pure (h m st' sm g)
   case fin =>
    rintro c st' ⟨sm, na, nb, out, mg, rfl, O, hp⟩
    have := O.ha
    have := O.hb
    omega
   case step =>
    intro i c st1 _ hi hI
    refine ex4 hI fun sm1 na1 nb1 out1 mg1 ec O1 hp1 => ?_
    clear hI
    subst ec
    dsimp only
    refine wpS_bind (wpS_mono (wpS_forRange
     (I := fun j c st' => Sim st st' /\ ∃ na nb out ac bc, c = (none, na, nb, out, ac, bc) /\ Oph rk a b out na nb /\ na + nb + j <= na1 + nb1)
     (Q := fun c st' => Sim st st' /\ ((∃ m, c.1 = some m /\ Good rk a.toList b.toList m.toList) \/ ∃ na nb out ac bc, c = (none, na, nb, out, ac, bc) /\ Oph rk a b out na nb /\ na + nb + 1 <= na1 + nb1)) ?s2 ?f2 ⟨sm1, _, _, _, _, _, rfl, O1, by omega⟩) ?p2)
    case f2 =>
     rintro c st' ⟨sm, na, nb, out, ac, bc, rfl, O, hp⟩
     exact ⟨sm, .inr ⟨na, nb, out, ac, bc, rfl, O, by omega⟩⟩
    case s2 =>
     intro j c st2 _ hj hI
     refine ex5 hI fun sm2 na nb out ac bc ec O hp => ?_
     clear hI
     subst ec
     refine Exists.elim (show ∃ p, na = p + 1 from ⟨na - 1, by have := O.ha; omega⟩) fun p ep => ?_
     subst ep
     refine Exists.elim (show ∃ q, nb = q + 1 from ⟨nb - 1, by have := O.hb; omega⟩) fun q ep => ?_
     subst ep
     dsimp only [Nat.add_one_sub_one]
     have M := O.mh
     have hla := O.la
     have hlb := O.lb
     have hqb := O.hb
     refine ex1 (j5 (a := a) (i := p) (by omega)) fun x e1 e2 mx => ?_
     refine ex1 (j5 (a := b) (i := q) (by omega)) fun y e3 e4 my => ?_
     refine wpS_bind (zx e3 (wpS_bind (zx e1 (wpS_bind (Nx C (sm2.kind.trans hk) (T.mb _ my) (T.ma _ mx) ?_)))))
     have dxy := T.dis x mx y my
     apply zj
     ·intro hw
      have hw : rk y < rk x := of_decide_eq_true hw
      refine wpS_bind (zx e1 ?_)
      have M' := M.pushA ua e2 (Ad ub e4 hw)
      apply zj
      ·intro h3
       have h3 : p = 0 := by simpa using h3
       refine wpS_pure ⟨sm2, .inl ⟨_, rfl, ?_⟩⟩
       have q := M'.goodAB ua ub (by rw [h3]; intro x hx; simp at hx)
       simp only [Array.toList_append, w5, Array.toList_push, Array.toList_reverse, List.reverse_append, List.reverse_cons, List.reverse_nil, List.nil_append, List.cons_append]
       exact q
      ·intro h3
       have h3 : ¬ p = 0 := by simpa using h3
       have O' : Oph rk a b (out.push x) p (q + 1) := ⟨by simpa using M', by omega, by omega, hqb, hlb⟩
       apply zj
       ·intro h4
        exact wpS_pure ⟨sm2, .inr ⟨_, _, _, _, _, rfl, O', by omega⟩⟩
       ·intro h4
        exact wpS_pure ⟨sm2, _, _, _, _, _, rfl, O', by omega⟩
     ·intro hw
      have hw : ¬ rk y < rk x := fun z => hw (decide_eq_true z)
      refine wpS_bind (zx e3 ?_)
      have M' := M.pushB ub e4 (Ad ua e2 (by omega))
      apply zj
      ·intro h3
       have h3 : q = 1 := by simpa using h3
       refine wpS_pure ⟨sm2, .inl ⟨_, rfl, ?_⟩⟩
       have q := M'.goodBA ua ub (firstB _ _ h3)
       simp only [Array.toList_append, w5, Array.toList_push, Array.toList_reverse, List.reverse_append, List.reverse_cons, List.reverse_nil, List.nil_append, List.cons_append]
       exact q
      ·intro h3
       have h3 : ¬ q = 1 := by simpa using h3
       have O' : Oph rk a b (out.push y) (p + 1) q := ⟨by simpa using M', by omega, hla, by omega, by omega⟩
       apply zj
       ·intro h4
        exact wpS_pure ⟨sm2, .inr ⟨_, _, _, _, _, rfl, O', by omega⟩⟩
       ·intro h4
        exact wpS_pure ⟨sm2, _, _, _, _, _, rfl, O', by omega⟩
    case p2 =>
     rintro c st2 ⟨sm2, (⟨m, e, g⟩ | ⟨na2, nb2, out2, ac2, bc2, rfl, O2, hp2⟩)⟩
     ·obtain ⟨c1, c2⟩ := c
      dsimp only at e ⊢
      subst e
      exact wpS_pure ⟨sm2, m, rfl, g⟩
     ·dsimp only
      refine wpS_bind (wpS_lift (wpAny_rule ⟨rfl, ?_⟩))
      refine wpS_bind (wpS_mono (wpS_forRange
       (I := fun j c st' => Sim st st' /\ ∃ na nb out mg ac bc, c = (none, na, nb, out, mg, ac, bc) /\ Oph rk a b out na nb /\ na + nb + 1 <= na1 + nb1)
       (Q := fun c st' => Sim st st' /\ ((∃ m, c.1 = some m /\ Good rk a.toList b.toList m.toList) \/ ∃ na nb out mg ac bc, c = (none, na, nb, out, mg, ac, bc) /\ Oph rk a b out na nb /\ na + nb + 1 <= na1 + nb1)) ?s3 ?f3 ⟨sm2, _, _, _, _, _, _, rfl, O2, hp2⟩) ?p3)
      case f3 =>
       rintro c st' ⟨sm, na, nb, out, mg, ac, bc, rfl, O, hp⟩
       exact ⟨sm, .inr ⟨na, nb, out, mg, ac, bc, rfl, O, hp⟩⟩
      case p3 =>
       rintro c st3 ⟨sm3, (⟨m, e, g⟩ | ⟨na, nb, out, mg, ac, bc, rfl, O, hp⟩)⟩
       ·obtain ⟨c1, c2⟩ := c
        dsimp only at e ⊢
        subst e
        exact wpS_pure ⟨sm3, m, rfl, g⟩
       ·dsimp only
        refine wpS_bind (wpS_modify ?_)
        exact wpS_pure ⟨sm3.trans ⟨rfl, rfl, rfl, rfl⟩, _, _, _, _, rfl, O, by omega⟩
      case s3 =>
       intro j c st3 _ hj hI
       refine ex6 hI fun sm3 na nb out mg ac bc ec O hp => ?_
       clear hI
       subst ec
       refine Exists.elim (show ∃ q, nb = q + 1 from ⟨nb - 1, by have := O.hb; omega⟩) fun q ep => ?_
       subst ep
       dsimp only [Nat.add_one_sub_one]
       have M := O.mh
       have hha := O.ha
       have hla := O.la
       have hlb := O.lb
       have hqb := O.hb
       refine ex1 (j5 (a := b) (i := q) (by omega)) fun y e3 e4 my => ?_
       refine Yi ?P ?hgA ?hgB
       case hgA =>
        intro key
        apply zj
        ·intro hg
         generalize mg - 1 = m1
         exact key m1
        ·intro hg
         exact key mg
       intro mg
       all_goals
        refine wpS_bind (wpS_modify ?_)
        refine wpS_bind (zx e3 ?_)
        refine wpS_bind (J8 C (by exact sm3.kind.trans hk) (T.mb _ my) T.ma ua (by omega) (by omega) (fun x hx => T.dis x hx y my) fun k hk1 hk2 hk3 => ?_)
        dsimp only
        rw [List.drop_zero] at hk2
        rw [Nat.zero_add, ← List.drop_take] at hk3
        have Mk := M.bulkA (k := k) ua hk1 (fun x hx t ht => Ad ub e4 (hk3 t ht) x hx t (by simp))
        have yA : Below rk (a.toList.take k) [y] := fun z hz t ht => by
         have ht : t = y := by simpa using ht
         subst ht
         exact hk2 z hz
        have stepA : (∃ out' na', out' = out ++ (a.extract k na).reverse /\ na' = k /\ Mh rk a.toList b.toList out'.toList.reverse na' (q + 1) /\ Below rk (a.toList.take na') [y]) :=
         ⟨_, _, rfl, rfl, by rw [Array.toList_append, Array.toList_reverse, List.reverse_append, List.reverse_reverse, yu]; exact Mk, yA⟩
        apply zj
        case' hp =>
         intro hk0
         refine exs stepA fun out' na' eo ei M' yA' => ?_
         subst ei
         rw [← eo]
         apply zj
         case' hp =>
          intro h3
          have h3 : na' = 0 := by simpa using h3
          refine wpS_pure ⟨sm3.trans ⟨rfl, rfl, rfl, rfl⟩, .inl ⟨_, rfl, ?_⟩⟩
          have g := M'.goodAB ua ub (by rw [h3]; intro x hx; simp at hx)
          simp only [Array.toList_append, w5, Array.toList_push, Array.toList_reverse]
          exact g
         intro h3
         have h3 : ¬ na' = 0 := by simpa using h3
         have hna' : 0 < na' /\ na' <= na := by omega
        case' hn =>
         intro hk0
         have k0 : k = na := by omega
         subst k0
         refine exs (show ∃ out' na', out' = out /\ na' = k /\ Mh rk a.toList b.toList out'.toList.reverse na' (q + 1) /\ Below rk (a.toList.take na') [y] from ⟨_, _, rfl, rfl, M, yA⟩) fun out' na' eo ei M' yA' => ?_
         subst ei
         rw [← eo]
         have hna' : 0 < na' /\ na' <= na' := by omega
       all_goals
        refine Exists.elim (show ∃ p, na' = p + 1 from ⟨na' - 1, by omega⟩) fun p ep => ?_
        subst ep
        dsimp only [Nat.add_one_sub_one]
        refine wpS_bind (zx e3 ?_)
        have M2 := M'.pushB ub e4 yA'
        apply zj
        case' hp =>
         intro h5
         have h5 : q = 1 := by simpa using h5
         refine wpS_pure ⟨sm3.trans ⟨rfl, rfl, rfl, rfl⟩, .inl ⟨_, rfl, ?_⟩⟩
         have g := M2.goodBA ua ub (firstB _ _ h5)
         simp only [Array.toList_append, w5, Array.toList_push, Array.toList_reverse, List.reverse_append, List.reverse_cons, List.reverse_nil, List.nil_append, List.cons_append]
         exact g
        intro h5
        have h5 : ¬ q = 1 := by simpa using h5
        refine ex1 (j5 (a := a) (i := p) (by omega)) fun x e1 e2 mx => ?_
        refine wpS_bind (zx e1 ?_)
        refine wpS_bind (J8 C (by exact sm3.kind.trans hk) (T.ma _ mx) T.mb ub (by omega) (by omega) (fun z hz => (T.dis x mx z hz).symm) fun k' hk1' hk2' hk3' => ?_)
        dsimp only
        rw [List.drop_zero] at hk2'
        rw [Nat.zero_add, ← List.drop_take] at hk3'
        have Mk' := M2.bulkB (k := k') ub hk1' (fun z hz t ht => Ad ua e2 (hk3' t ht) z hz t (by simp))
        have xB : Below rk (b.toList.take k') [x] := fun z hz t ht => by
         have ht : t = x := by simpa using ht
         subst ht
         exact hk2' z hz
        have e5 : (out'.push y).toList.reverse = y :: out'.toList.reverse := by simp
        have stepB : (∃ out3 nb', out3 = out'.push y ++ (b.extract k' q).reverse /\ nb' = k' /\ Mh rk a.toList b.toList out3.toList.reverse (p + 1) nb' /\ Below rk (b.toList.take nb') [x]) :=
         ⟨_, _, rfl, rfl, by rw [Array.toList_append, Array.toList_reverse, List.reverse_append, List.reverse_reverse, yu, e5]; exact Mk', xB⟩
        apply zj
        case' hp =>
         intro hk0'
         refine exs stepB fun out3 nb' eo3 ei3 M3 xB' => ?_
         subst ei3
         rw [← eo3]
         apply zj
         case' hp =>
          intro h6
          have h6 : nb' = 1 := by simpa using h6
          refine wpS_pure ⟨sm3.trans ⟨rfl, rfl, rfl, rfl⟩, .inl ⟨_, rfl, ?_⟩⟩
          have g := M3.goodBA ua ub (firstB _ _ h6)
          simp only [Array.toList_append, w5, Array.toList_push, Array.toList_reverse]
          exact g
         intro h6
         have h6 : ¬ nb' = 1 := by simpa using h6
         apply zj
         case' hp =>
          intro h8
          have h8 : nb' = 0 := by simpa using h8
          refine wpS_pure ⟨sm3.trans ⟨rfl, rfl, rfl, rfl⟩, .inl ⟨_, rfl, ?_⟩⟩
          have g := M3.goodAB ua ub (by rw [h8]; exact fun _ _ _ hy => by simp at hy)
          simp only [Array.toList_append, w5, Array.toList_push, Array.toList_reverse]
          exact g
         intro h8
         have h8 : ¬ nb' = 0 := by simpa using h8
         have hnb' : 1 < nb' /\ nb' <= q := by omega
        case' hn =>
         intro hk0'
         have k0 : k' = q := by omega
         subst k0
         refine exs (show ∃ out3 nb', out3 = out'.push y /\ nb' = k' /\ Mh rk a.toList b.toList out3.toList.reverse (p + 1) nb' /\ Below rk (b.toList.take nb') [x] from ⟨_, _, rfl, rfl, by rw [e5]; exact M2, xB⟩) fun out3 nb' eo3 ei3 M3 xB' => ?_
         subst ei3
         rw [← eo3]
         have hnb' : 1 < nb' /\ nb' <= nb' := by omega
       all_goals
        refine wpS_bind (zx e1 ?_)
        have M4 := M3.pushA ua e2 xB'
        apply zj
        case' hp =>
         intro h7
         have h7 : p = 0 := by simpa using h7
         refine wpS_pure ⟨sm3.trans ⟨rfl, rfl, rfl, rfl⟩, .inl ⟨_, rfl, ?_⟩⟩
         have g := M4.goodAB ua ub (by rw [h7]; intro x hx; simp at hx)
         simp only [Array.toList_append, w5, Array.toList_push, Array.toList_reverse, List.reverse_append, List.reverse_cons, List.reverse_nil, List.nil_append, List.cons_append]
         exact g
        intro h7
        have h7 : ¬ p = 0 := by simpa using h7
        have O4 : Oph rk a b (out3.push x) p nb' := ⟨by simpa using M4, by omega, by omega, by omega, by omega⟩
        apply zj <;> intro _
        ·exact wpS_pure ⟨sm3.trans ⟨rfl, rfl, rfl, rfl⟩, .inr ⟨_, _, _, _, _, _, rfl, O4, by omega⟩⟩
        ·exact wpS_pure ⟨sm3.trans ⟨rfl, rfl, rfl, rfl⟩, _, _, _, _, _, _, rfl, O4, by omega⟩
end
end GS
namespace GS
open PySem PyProof.Rows
noncomputable def Y9 : Nat -> Nat -> StateT SortSt Sem (Option Nat) := sortPriv% PySem.Builtin.countRun
noncomputable def T8 : Nat -> Nat -> Nat -> StateT SortSt Sem Bool := sortPriv% PySem.Builtin.binarySort
noncomputable def rA (rk : Keyed -> Int) (xs : Array Keyed) (i : Nat) : Int := match xs[i]? with | some p => rk p | none => 0
noncomputable def UpTo (rk : Keyed -> Int) (xs : Array Keyed) (lo hi : Nat) : Prop := ∀ i j, lo <= i -> i < j -> j < hi -> rA rk xs i < rA rk xs j
noncomputable def Y4 (rk : Keyed -> Int) (xs : Array Keyed) (lo hi : Nat) : Prop := ∀ i j, lo <= i -> i < j -> j < hi -> rA rk xs j < rA rk xs i
structure Arr (kind : SortKind) (a0 : List Keyed) (st : SortSt) : Prop where
  kind : kindOf st = kind
  failed : failedOf st = none
  perm : (arrOf st).toList.Perm a0
section
variable {kind : SortKind} {a0 : List Keyed} {rk : Keyed -> Int} {st : SortSt}
theorem Ak {xs : Array Keyed} {i : Nat} {p : Keyed} (h : xs[i]? = some p) : rA rk xs i = rk p := by unfold rA; rw [h]
theorem ji {xs ys : Array Keyed} {i j : Nat} (h : xs[i]? = ys[j]?) : rA rk xs i = rA rk ys j := by unfold rA; rw [h]
theorem Arr.size (h : Arr kind a0 st) : (arrOf st).size = a0.length := by simpa using h.perm.length_eq
theorem Arr.get (h : Arr kind a0 st) {i : Nat} (hi : i < a0.length) : ∃ p, (arrOf st)[i]? = some p /\ p ∈ a0 /\ rA rk (arrOf st) i = rk p := by
 have hs := h.size
 obtain ⟨x, e1, e2, m⟩ := j5 (a := arrOf st) (i := i) (by omega)
 exact ⟨x, e1, h.perm.mem_iff.mp m, Ak e1⟩
theorem Arr.ne (h : Arr kind a0 st) (inj : (a0.map rk).Nodup) {i j : Nat} (hi : i < a0.length) (hj : j < a0.length) (n : i ≠ j) : rA rk (arrOf st) i ≠ rA rk (arrOf st) j := by
 have hs := h.size
 have nd : ((arrOf st).toList.map rk).Nodup := (h.perm.map rk).nodup_iff.mpr inj
 obtain ⟨p, e1, _, r1⟩ := h.get (rk := rk) hi
 obtain ⟨q, e2, _, r2⟩ := h.get (rk := rk) hj
 rw [r1, r2]
 intro e
 have l1 : ((arrOf st).toList.map rk)[i]? = some (rk p) := by rw [List.getElem?_map, Array.getElem?_toList, e1]; rfl
 have l2 : ((arrOf st).toList.map rk)[j]? = some (rk p) := by rw [List.getElem?_map, Array.getElem?_toList, e2, e]; rfl
 obtain ⟨h1, g1⟩ := List.getElem?_eq_some_iff.mp l1
 obtain ⟨h2, g2⟩ := List.getElem?_eq_some_iff.mp l2
 exact n ((List.getElem_inj nd).mp (g1.trans g2.symm))
theorem Arr.setArr (h : Arr kind a0 st) {xs : Array Keyed} (p : xs.Perm (arrOf st)) : Arr kind a0 (PyProof.Rows.setArr st xs) := ⟨h.kind, h.failed, (Array.perm_iff_toList_perm.mp p).trans h.perm⟩
structure Only (st st' : SortSt) (lo hi : Nat) : Prop where
  pend : pendingOf st' = pendingOf st
  out : ∀ k, k < lo \/ hi <= k -> (arrOf st')[k]? = (arrOf st)[k]?
theorem Only.refl (st : SortSt) (lo hi : Nat) : Only st st lo hi := ⟨rfl, fun _ _ => rfl⟩
theorem Only.trans {a b c : SortSt} {lo hi : Nat} (h : Only a b lo hi) (k : Only b c lo hi) : Only a c lo hi := ⟨k.pend.trans h.pend, fun i hi => (k.out i hi).trans (h.out i hi)⟩
theorem Only.wide {a b : SortSt} {lo hi lo' hi' : Nat} (h : Only a b lo hi) (h1 : lo' <= lo) (h2 : hi <= hi') : Only a b lo' hi' := ⟨h.pend, fun i hi => h.out i (by omega)⟩
end
section
variable {prog : Program} {w : World} {A : Around} {E : Value -> Shared -> Prop} {s : Shared} {kind : SortKind} {a0 : List Keyed} {rk : Keyed -> Int}
theorem v6 (C : Cmp prog w A s kind a0 rk) {st : SortSt} {i j : Nat} {Q : Option Bool -> SortSt -> Prop} (h : Arr kind a0 st) (hi : i < a0.length) (hj : j < a0.length) (q : Q (some (decide (rA rk (arrOf st) i < rA rk (arrOf st) j))) st) :
  wpS (model prog w) A E s (ltAt' i j) Q st := by
 obtain ⟨x, e1, m1, r1⟩ := h.get (rk := rk) hi
 obtain ⟨y, e2, m2, r2⟩ := h.get (rk := rk) hj
 rw [r1, r2] at q
 rw [ltAt'_eq]
 refine wpS_bind (wpS_get ?_)
 exact wpS_bind (zx e1 (wpS_bind (zx e2 (Nx C h.kind m1 m2 q))))
theorem Mj (C : Cmp prog w A s kind a0 rk) {st : SortSt} {lo nrem : Nat} {Q : Option Nat -> SortSt -> Prop} (h : Arr kind a0 st) (hl : lo + nrem = a0.length) (h1 : 1 <= nrem)
  (q : ∀ m st', Arr kind a0 st' -> 1 <= m -> m <= nrem -> UpTo rk (arrOf st') lo (lo + m) -> Only st st' lo (lo + m) -> Q (some m) st') : wpS (model prog w) A E s (Y9 lo nrem) Q st := by
 have up1 : UpTo rk (arrOf st) lo (lo + 1) := fun i j a b c => by omega
 refine wpS_bind (wpS_mono (wpS_forRange (I := fun x c st' => st' = st /\ c = (none, x) /\ 1 <= x /\ UpTo rk (arrOf st) lo (lo + x))
  (Q := fun c st' => st' = st /\ ∃ n, c = (none, n) /\ 1 <= n /\ n <= nrem /\ UpTo rk (arrOf st) lo (lo + n) /\ (n = nrem \/ rA rk (arrOf st) (lo + n) < rA rk (arrOf st) (lo + n - 1))) ?step ?fin ⟨rfl, rfl, by omega, up1⟩) ?post)
 case fin =>
  rintro c st' ⟨rfl, rfl, a1, a2⟩
  rw [show max 1 nrem = nrem by omega] at a2 ⊢
  exact ⟨rfl, nrem, rfl, by omega, Nat.le_refl _, a2, .inl rfl⟩
 case step =>
  rintro x c st' _ hx ⟨rfl, rfl, a1, a2⟩
  dsimp only
  refine wpS_bind (v6 C h (by omega) (by omega) ?_)
  by_cases hw : rA rk (arrOf st') (lo + x) < rA rk (arrOf st') (lo + x - 1)
  ·simp only [decide_eq_true hw, if_true]
   exact wpS_pure ⟨rfl, x, rfl, a1, by omega, a2, .inr hw⟩
  ·simp only [decide_eq_false hw, Bool.false_eq_true, if_false]
   refine wpS_pure ⟨rfl, rfl, by omega, fun i j b1 b2 b3 => ?_⟩
   have d := h.ne C.inj (i := lo + x) (j := lo + x - 1) (by omega) (by omega) (by omega)
   by_cases hj : j < lo + x
   ·exact a2 i j b1 b2 hj
   ·have e : j = lo + x := by omega
    subst e
    by_cases hi : i = lo + x - 1
    ·subst hi; omega
    ·have := a2 i (lo + x - 1) b1 (by omega) (by omega)
     omega
 case post =>
  rintro c st' ⟨rfl, n, rfl, n1, n2, n3, n4⟩
  dsimp only
  by_cases e1 : (n == nrem) = true
  ·rw [if_pos e1]
   exact wpS_pure (q n st' h n1 n2 n3 (Only.refl _ _ _))
  ·rw [if_neg e1]
   have e1 : ¬ n = nrem := by simpa using e1
   have n4 := n4.resolve_left e1
   by_cases hn : n > 1
   ·rw [if_pos hn]
    refine wpS_bind (v6 C h (by omega) (by omega) ?_)
    have hw : rA rk (arrOf st') lo < rA rk (arrOf st') (lo + n - 1) := n3 lo (lo + n - 1) (by omega) (by omega) (by omega)
    simp only [decide_eq_true hw, if_true]
    exact wpS_pure (q n st' h n1 n2 n3 (Only.refl _ _ _))
   ·rw [if_neg hn]
    have en : n = 1 := by omega
    subst en
    refine wpS_bind (wpS_lift (wpAny_rule ⟨rfl, ?_⟩))
    have dn : Y4 rk (arrOf st') lo (lo + 2) := fun i j b1 b2 b3 => by
     have ei : i = lo := by omega
     have ej : j = lo + 1 := by omega
     subst ei ej
     exact n4
    refine wpS_bind (wpS_mono (wpS_forRange (I := fun x c st'' => st'' = st' /\ c = (none, x, 0) /\ 2 <= x /\ Y4 rk (arrOf st') lo (lo + x))
     (Q := fun c st'' => st'' = st' /\ ∃ n, c = (none, n, 0) /\ 2 <= n /\ n <= nrem /\ Y4 rk (arrOf st') lo (lo + n)) ?step2 ?fin2 ⟨rfl, rfl, by omega, dn⟩) ?post2)
    case fin2 =>
     rintro c st'' ⟨rfl, rfl, a1, a2⟩
     rw [show max (1 + 1) nrem = nrem by omega] at a2 ⊢
     exact ⟨rfl, nrem, rfl, by omega, Nat.le_refl _, a2⟩
    case step2 =>
     rintro x c st'' _ hx ⟨rfl, rfl, a1, a2⟩
     dsimp only
     refine wpS_bind (v6 C h (by omega) (by omega) ?_)
     have d := h.ne C.inj (i := lo + x) (j := lo + x - 1) (by omega) (by omega) (by omega)
     by_cases hw : rA rk (arrOf st'') (lo + x) < rA rk (arrOf st'') (lo + x - 1)
     ·simp only [decide_eq_true hw, if_true]
      rw [if_neg (by omega)]
      refine wpS_pure ⟨rfl, rfl, by omega, fun i j b1 b2 b3 => ?_⟩
      by_cases hj : j < lo + x
      ·exact a2 i j b1 b2 hj
      ·have e : j = lo + x := by omega
       subst e
       by_cases hi : i = lo + x - 1
       ·subst hi; omega
       ·have := a2 i (lo + x - 1) b1 (by omega) (by omega)
        omega
     ·simp only [decide_eq_false hw, Bool.false_eq_true, if_false]
      refine wpS_bind (v6 C h (by omega) (by omega) ?_)
      have hw' : rA rk (arrOf st'') (lo + x - 1) < rA rk (arrOf st'') (lo + x) := by omega
      simp only [decide_eq_true hw', if_true]
      exact wpS_pure ⟨rfl, x, rfl, a1, by omega, a2⟩
    case post2 =>
     rintro c st'' ⟨rfl, n, rfl, m1, m2, m3⟩
     dsimp only
     rw [if_neg (by omega)]
     refine wpS_bind (wpS_modify ?_)
     have hsz := h.size
     have hA : Arr kind a0 (PyProof.Rows.setArr st'' (mirror (arrOf st'') lo (lo + n) ((lo + n - lo) / 2))) := h.setArr (mirror_perm _ _ _ _)
     have gt : ∀ k, (mirror (arrOf st'') lo (lo + n) ((lo + n - lo) / 2))[k]? = if lo <= k /\ k < lo + n then (arrOf st'')[lo + (lo + n) - 1 - k]? else (arrOf st'')[k]? := fun k => getElem?_mirror_all (by omega) k
     have up2 : UpTo rk (mirror (arrOf st'') lo (lo + n) ((lo + n - lo) / 2)) lo (lo + n) := fun i j b1 b2 b3 => by
      have g1 := gt i
      have g2 := gt j
      rw [if_pos (by omega)] at g1 g2
      rw [ji g1, ji g2]
      exact m3 _ _ (by omega) (by omega) (by omega)
     have on2 : Only st'' (PyProof.Rows.setArr st'' (mirror (arrOf st'') lo (lo + n) ((lo + n - lo) / 2))) lo (lo + n) := ⟨rfl, fun k hk => by
      have g := gt k
      rw [if_neg (by omega)] at g
      exact g⟩
     show wpS (model prog w) A E s _ _ (PyProof.Rows.setArr st'' (mirror (arrOf st'') lo (lo + n) ((lo + n - lo) / 2)))
     generalize hst3 : PyProof.Rows.setArr st'' (mirror (arrOf st'') lo (lo + n) ((lo + n - lo) / 2)) = st3 at *
     have up3 : UpTo rk (arrOf st3) lo (lo + n) := by rw [← hst3]; exact up2
     refine wpS_bind (wpS_mono (wpS_forRange (I := fun x c st4 => st4 = st3 /\ c = (none, x) /\ n <= x /\ UpTo rk (arrOf st3) lo (lo + x))
      (Q := fun c st4 => st4 = st3 /\ ∃ m, c = (none, m) /\ n <= m /\ m <= nrem /\ UpTo rk (arrOf st3) lo (lo + m)) ?step3 ?fin3 ⟨rfl, rfl, by omega, up3⟩) ?post3)
     case fin3 =>
      rintro c st4 ⟨rfl, rfl, a1, a2⟩
      rw [show max n nrem = nrem by omega] at a2 ⊢
      exact ⟨rfl, nrem, rfl, by omega, Nat.le_refl _, a2⟩
     case step3 =>
      rintro x c st4 _ hx ⟨rfl, rfl, a1, a2⟩
      dsimp only
      refine wpS_bind (v6 C hA (by omega) (by omega) ?_)
      have d := hA.ne C.inj (i := lo + x) (j := lo + x - 1) (by omega) (by omega) (by omega)
      by_cases hw : rA rk (arrOf st4) (lo + x) < rA rk (arrOf st4) (lo + x - 1)
      ·simp only [decide_eq_true hw, if_true]
       exact wpS_pure ⟨rfl, x, rfl, a1, by omega, a2⟩
      ·simp only [decide_eq_false hw, Bool.false_eq_true, if_false]
       refine wpS_pure ⟨rfl, rfl, by omega, fun i j b1 b2 b3 => ?_⟩
       by_cases hj : j < lo + x
       ·exact a2 i j b1 b2 hj
       ·have e : j = lo + x := by omega
        subst e
        by_cases hi : i = lo + x - 1
        ·subst hi; omega
        ·have := a2 i (lo + x - 1) b1 (by omega) (by omega)
         omega
     case post3 =>
      rintro c st4 ⟨rfl, m, rfl, k1, k2, k3⟩
      exact wpS_pure (q m st4 hA (by omega) k2 k3 (on2.wide (Nat.le_refl _) (by omega)))
theorem Gh (C : Cmp prog w A s kind a0 rk) {st : SortSt} {lo n ok : Nat} {Q : Bool -> SortSt -> Prop} (h : Arr kind a0 st) (hl : lo + n <= a0.length) (hok : ok <= n) (hu : UpTo rk (arrOf st) lo (lo + ok))
  (q : ∀ st', Arr kind a0 st' -> UpTo rk (arrOf st') lo (lo + n) -> Only st st' lo (lo + n) -> Q true st') : wpS (model prog w) A E s (T8 lo n ok) Q st := by
 refine wpS_bind (wpS_mono (wpS_forRange (I := fun k c st' => c = (none, ()) /\ Arr kind a0 st' /\ UpTo rk (arrOf st') lo (lo + min k n) /\ Only st st' lo (lo + n))
  (Q := fun c st' => c = (none, ()) /\ Arr kind a0 st' /\ UpTo rk (arrOf st') lo (lo + n) /\ Only st st' lo (lo + n)) ?step ?fin ?init) ?post)
 case post =>
  rintro c st' ⟨rfl, a1, a2, a3⟩
  exact wpS_pure (q st' a1 a2 a3)
 case init =>
  refine ⟨rfl, h, fun i j b1 b2 b3 => ?_, Only.refl _ _ _⟩
  by_cases z : ok = 0
  ·omega
  ·exact hu i j b1 b2 (by omega)
 case fin =>
  rintro c st' ⟨hc, a1, a2, a3⟩
  rw [show min (max (max ok 1) n) n = n by omega] at a2
  exact ⟨hc, a1, a2, a3⟩
 case step =>
  rintro k c st' hak hkn ⟨rfl, a1, a2, a3⟩
  rw [show min k n = k by omega] at a2
  refine wpS_bind (wpS_mono (wpS_forRange (I := fun x c st'' => st'' = st' /\ ∃ l r, c = (none, l, r) /\ l <= r /\ r <= k /\ r - l <= k - x /\
    (∀ i, i < l -> rA rk (arrOf st') (lo + i) < rA rk (arrOf st') (lo + k)) /\ (∀ i, r <= i -> i < k -> rA rk (arrOf st') (lo + k) < rA rk (arrOf st') (lo + i)))
   (Q := fun c st'' => st'' = st' /\ ∃ l r, c = (none, l, r) /\ l <= k /\
    (∀ i, i < l -> rA rk (arrOf st') (lo + i) < rA rk (arrOf st') (lo + k)) /\ (∀ i, l <= i -> i < k -> rA rk (arrOf st') (lo + k) < rA rk (arrOf st') (lo + i))) ?istep ?ifin ?iinit) ?ipost)
  case iinit => exact ⟨rfl, 0, k, rfl, by omega, by omega, by omega, fun i hi => by omega, fun i h1 h2 => by omega⟩
  case ifin =>
   rintro c st'' ⟨rfl, l, r, rfl, hlr, hrk, hm, hlo, hhi⟩
   have : l = r := by omega
   subst this
   exact ⟨rfl, l, l, rfl, hrk, hlo, hhi⟩
  case istep =>
   rintro x c st'' _ hxk ⟨rfl, l, r, rfl, hlr, hrk, hm, hlo, hhi⟩
   dsimp only
   by_cases hge : l >= r
   ·rw [if_pos hge]
    have : l = r := by omega
    subst this
    exact wpS_pure ⟨rfl, l, l, rfl, hrk, hlo, hhi⟩
   ·rw [if_neg hge]
    refine wpS_bind (v6 C a1 (by omega) (by omega) ?_)
    have d := a1.ne C.inj (i := lo + k) (j := lo + (l + r) / 2) (by omega) (by omega) (by omega)
    by_cases hless : rA rk (arrOf st'') (lo + k) < rA rk (arrOf st'') (lo + (l + r) / 2)
    ·simp only [decide_eq_true hless, if_true]
     refine wpS_pure ⟨rfl, l, (l + r) / 2, rfl, by omega, by omega, by omega, hlo, fun i h1 h2 => ?_⟩
     by_cases e : i = (l + r) / 2
     ·subst e; exact hless
     ·have := a2 (lo + (l + r) / 2) (lo + i) (by omega) (by omega) (by omega)
      omega
    ·simp only [decide_eq_false hless, Bool.false_eq_true, if_false]
     refine wpS_pure ⟨rfl, (l + r) / 2 + 1, r, rfl, by omega, by omega, by omega, fun i h1 => ?_, hhi⟩
     by_cases e : i = (l + r) / 2
     ·subst e; omega
     ·have := a2 (lo + i) (lo + (l + r) / 2) (by omega) (by omega) (by omega)
      omega
  case ipost =>
   rintro c st'' ⟨rfl, l, r, rfl, hlk, hlo, hhi⟩
   dsimp only
   refine wpS_bind (wpS_modify (wpS_pure ⟨rfl, ?_⟩))
   have hsz := a1.size
   show Arr kind a0 (PyProof.Rows.setArr st'' (bubble (arrOf st'') (lo + k) (lo + k - (lo + l)))) /\ UpTo rk (bubble (arrOf st'') (lo + k) (lo + k - (lo + l))) lo (lo + min (k + 1) n) /\ Only st (PyProof.Rows.setArr st'' (bubble (arrOf st'') (lo + k) (lo + k - (lo + l)))) lo (lo + n)
   have gt : ∀ i, (bubble (arrOf st'') (lo + k) (lo + k - (lo + l)))[i]? = if i = lo + l then (arrOf st'')[lo + k]? else if lo + l < i /\ i <= lo + k then (arrOf st'')[i - 1]? else (arrOf st'')[i]? := fun i => by
    have := getElem?_bubble (xs := arrOf st'') (src := lo + k) (by omega) (lo + k - (lo + l)) (by omega) i
    rw [show lo + k - (lo + k - (lo + l)) = lo + l by omega] at this
    exact this
   refine ⟨a1.setArr (bubble_perm _ _ _), fun i j b1 b2 b3 => ?_, a3.trans ⟨rfl, fun i hi => ?_⟩⟩
   ·rw [show min (k + 1) n = k + 1 by omega] at b3
    have g1 := gt i
    have g2 := gt j
    by_cases c1 : i = lo + l
    ·rw [if_pos c1] at g1
     rw [if_neg (by omega), if_pos (by omega)] at g2
     rw [ji g1, ji g2]
     have := hhi (j - 1 - lo) (by omega) (by omega)
     rwa [show lo + (j - 1 - lo) = j - 1 by omega] at this
    ·rw [if_neg c1] at g1
     by_cases c2 : lo + l < i /\ i <= lo + k
     ·rw [if_pos c2] at g1
      rw [if_neg (by omega), if_pos (by omega)] at g2
      rw [ji g1, ji g2]
      exact a2 _ _ (by omega) (by omega) (by omega)
     ·rw [if_neg c2] at g1
      rw [ji g1]
      by_cases c3 : j = lo + l
      ·rw [if_pos c3] at g2
       rw [ji g2]
       have := hlo (i - lo) (by omega)
       rwa [show lo + (i - lo) = i by omega] at this
      ·rw [if_neg c3] at g2
       by_cases c4 : lo + l < j /\ j <= lo + k
       ·rw [if_pos c4] at g2
        rw [ji g2]
        exact a2 _ _ b1 (by omega) (by omega)
       ·rw [if_neg c4] at g2
        rw [ji g2]
        exact a2 _ _ b1 b2 (by omega)
   ·have g := gt i
    rw [if_neg (by omega), if_neg (by omega)] at g
    exact g
end
end GS
namespace GS
open PySem PyProof.Rows
noncomputable def Wc : Nat -> StateT SortSt Sem Bool := sortPriv% PySem.Builtin.mergeAt
theorem Jr (b : Nat) : ∀ (m : List Keyed) (o : Nat) (xs : Array Keyed), b + o + m.length <= xs.size -> ∀ k, ((m.zipIdx o).foldl (fun a x => a.setIfInBounds (b + x.2) x.1) xs)[k]? = if b + o <= k /\ k < b + o + m.length then m[k - (b + o)]? else xs[k]?
 | [], o, xs, h, k => by
  rw [List.zipIdx_nil, List.foldl_nil, if_neg (by simp <;> omega)]
 | x :: m, o, xs, h, k => by
  simp only [List.length_cons] at h
  rw [List.zipIdx_cons, List.foldl_cons, Jr b m (o + 1) _ (by rw [Array.size_setIfInBounds]; omega) k]
  simp only [List.length_cons]
  by_cases c1 : k = b + o
  ·subst c1
   rw [if_neg (by omega), if_pos (by omega), Array.getElem?_setIfInBounds, if_pos rfl, if_pos (by omega)]
   simp
  ·by_cases c2 : b + (o + 1) <= k /\ k < b + (o + 1) + m.length
   ·rw [if_pos c2, if_pos (by omega), show k - (b + o) = (k - (b + (o + 1))) + 1 by omega, List.getElem?_cons_succ]
   ·rw [if_neg c2, if_neg (by omega), Array.getElem?_setIfInBounds, if_neg (by omega)]
theorem qd3 (l : List Keyed) (i n : Nat) : l = l.take i ++ (l.drop i).take n ++ l.drop (i + n) := by
 rw [List.append_assoc, ← List.drop_drop, List.take_append_drop, List.take_append_drop]
theorem fold_list {m : List Keyed} {b : Nat} {xs : Array Keyed} (h : b + m.length <= xs.size) : (m.zipIdx.foldl (fun a x => a.setIfInBounds (b + x.2) x.1) xs).toList = xs.toList.take b ++ m ++ xs.toList.drop (b + m.length) := by
 have hl : xs.toList.length = xs.size := Array.length_toList
 refine List.ext_getElem? fun k => ?_
 rw [Array.getElem?_toList, Jr b m 0 xs (by omega) k, Nat.add_zero]
 by_cases c1 : k < b
 ·rw [if_neg (by omega), List.append_assoc, List.getElem?_append_left (by rw [List.length_take]; omega), List.getElem?_take_of_lt c1, Array.getElem?_toList]
 ·by_cases c2 : k < b + m.length
  ·rw [if_pos (by omega), List.append_assoc, List.getElem?_append_right (by rw [List.length_take]; omega), List.length_take, Nat.min_eq_left (by omega), List.getElem?_append_left (by omega)]
  ·rw [if_neg (by omega), List.getElem?_append_right (by rw [List.length_append, List.length_take]; omega), List.length_append, List.length_take, Nat.min_eq_left (by omega), List.getElem?_drop, ← Array.getElem?_toList]
   congr 1
   omega
section
variable {prog : Program} {w : World} {A : Around} {E : Value -> Shared -> Prop} {s : Shared} {kind : SortKind} {a0 : List Keyed} {rk : Keyed -> Int}
theorem Uw (C : Cmp prog w A s kind a0 rk) {left : Bool} {key : Keyed} {st : SortSt} {st0 : SortSt} {base n hint : Nat} {Q : Option Nat -> SortSt -> Prop} (h : Arr kind a0 st0) (hk : kindOf st = kind)
  (my : key ∈ a0) (hn : base + n <= a0.length) (hu : UpTo rk (arrOf st0) base (base + n)) (hh : hint < n) (dis : ∀ i, base <= i -> i < base + n -> rA rk (arrOf st0) i ≠ rk key)
  (q : ∀ k, k <= n -> (∀ i, base <= i -> i < base + k -> rA rk (arrOf st0) i < rk key) -> (∀ i, base + k <= i -> i < base + n -> rk key < rA rk (arrOf st0) i) -> Q (some k) st) :
  wpS (model prog w) A E s (Tr left key (arrOf st0) base n hint) Q st := by
 have hs := h.size
 have at' : ∀ j, j < n -> ∃ x, (arrOf st0)[base + j]? = some x /\ x ∈ a0 /\ rA rk (arrOf st0) (base + j) = rk x := fun j hj => h.get (by omega)
 have xs : ∀ j, j < n -> (arrOf st0)[base + j]? = some (((arrOf st0)[base + j]?).getD key) /\ ((arrOf st0)[base + j]?).getD key ∈ a0 /\ rA rk (arrOf st0) (base + j) = rk (((arrOf st0)[base + j]?).getD key) := fun j hj => by
  obtain ⟨x, e, m, r⟩ := at' j hj
  rw [e]
  exact ⟨rfl, m, r⟩
 have val : ∀ j, j < n -> bey rk left key (((arrOf st0)[base + j]?).getD key) = decide (rA rk (arrOf st0) (base + j) < rk key) := fun j hj => by
  have d := dis (base + j) (by omega) (by omega)
  rw [(xs j hj).2.2] at d ⊢
  unfold bey
  cases left with
  | true => rfl
  | false =>
   rw [if_neg Bool.false_ne_true]
   by_cases z : rk (((arrOf st0)[base + j]?).getD key) < rk key
   ·rw [decide_eq_true z, decide_eq_false (by omega)]; rfl
   ·rw [decide_eq_false z, decide_eq_true (by omega)]; rfl
 refine Je C hk my (fun j => ((arrOf st0)[base + j]?).getD key) (fun j hj => (xs j hj).1) (fun j hj => (xs j hj).2.1) hh (fun i j hij hj hb => ?_) fun k hk1 hk2 hk3 => q k hk1 (fun i b1 b2 => ?_) (fun i b1 b2 => ?_)
 ·rw [val j hj] at hb
  rw [val i (by omega)]
  have hb := of_decide_eq_true hb
  refine decide_eq_true ?_
  rcases Nat.lt_or_eq_of_le hij with z | z
  ·have := hu (base + i) (base + j) (by omega) (by omega) (by omega)
   omega
  ·subst z; exact hb
 ·have z := hk2 (i - base) (by omega)
  rw [val (i - base) (by omega)] at z
  have z := of_decide_eq_true z
  rwa [show base + (i - base) = i by omega] at z
 ·have z := hk3 (i - base) (by omega) (by omega)
  rw [val (i - base) (by omega)] at z
  have z := of_decide_eq_false z
  rw [show base + (i - base) = i by omega] at z
  have := dis i (by omega) b2
  omega
theorem qj9 {xs : Array Keyed} {i j : Nat} (hj : j <= xs.size) (hu : UpTo rk xs i j) : Up rk (xs.extract i j).toList := by
 refine List.pairwise_iff_getElem.mpr fun p q hp hq hpq => ?_
 rw [yu] at hp hq
 simp only [List.length_drop, List.length_take, Array.length_toList] at hp hq
 have gp : ∀ p (hp : p < (xs.extract i j).toList.length), xs[i + p]? = some (xs.extract i j).toList[p] := fun p hp => by
  have e : (xs.extract i j).toList[p]? = some (xs.extract i j).toList[p] := List.getElem?_eq_getElem hp
  have e2 : (xs.extract i j).toList[p]? = xs[i + p]? := by
   rw [yu] at hp
   simp only [List.length_drop, List.length_take, Array.length_toList] at hp
   rw [yu, List.getElem?_drop, List.getElem?_take_of_lt (by omega), Array.getElem?_toList]
  exact e2.symm.trans e
 have r1 := Ak (rk := rk) (gp p (by rw [yu]; simp; omega))
 have r2 := Ak (rk := rk) (gp q (by rw [yu]; simp; omega))
 rw [← r1, ← r2]
 exact hu _ _ (by omega) (by omega) (by omega)
theorem uw {xs : Array Keyed} {i j : Nat} {x : Keyed} (hj : j <= xs.size) (h : x ∈ (xs.extract i j).toList) : ∃ p, i <= p /\ p < j /\ xs[p]? = some x := by
 obtain ⟨p, hp, e⟩ := List.mem_iff_getElem.mp h
 have e' : (xs.extract i j).toList[p]? = some x := by rw [List.getElem?_eq_getElem hp, e]
 rw [yu] at hp e'
 simp only [List.length_drop, List.length_take, Array.length_toList] at hp
 rw [List.getElem?_drop, List.getElem?_take_of_lt (by omega), Array.getElem?_toList] at e'
 exact ⟨i + p, by omega, by omega, e'⟩
theorem Qf (C : Cmp prog w A s kind a0 rk) {st : SortSt} {i sa na pw sb nb pw' : Nat} {Q : Bool -> SortSt -> Prop} (h : Arr kind a0 st) (p1 : (pendingOf st)[i]? = some (sa, na, pw)) (p2 : (pendingOf st)[i + 1]? = some (sb, nb, pw'))
  (hs : sb = sa + na) (hna : 1 <= na) (hnb : 1 <= nb) (hl : sb + nb <= a0.length) (u1 : UpTo rk (arrOf st) sa sb) (u2 : UpTo rk (arrOf st) sb (sb + nb))
  (q : ∀ st', Arr kind a0 st' -> pendingOf st' = ((pendingOf st).setIfInBounds i (sa, na + nb, pw)).eraseIdxIfInBounds (i + 1) -> UpTo rk (arrOf st') sa (sb + nb) -> (∀ k, k < sa \/ sb + nb <= k -> (arrOf st')[k]? = (arrOf st)[k]?) -> Q true st') :
  wpS (model prog w) A E s (Wc i) Q st := by
 refine wpS_bind (wpS_get ?_)
 dsimp only
 rw [p1, p2]
 dsimp only
 have hsz := h.size
 refine wpS_bind ?_
 show wpS (model prog w) A E s (modify fun _ => SortSt.mk' (kindOf st) (arrOf st) (((pendingOf st).setIfInBounds i (sa, na + nb, pw)).eraseIdxIfInBounds (i + 1)) (gallopOf st) (failedOf st)) _ st
 refine wpS_modify ?_
 generalize hst1 : SortSt.mk' (kindOf st) (arrOf st) (((pendingOf st).setIfInBounds i (sa, na + nb, pw)).eraseIdxIfInBounds (i + 1)) (gallopOf st) (failedOf st) = st1
 have k1 : kindOf st1 = kind := by rw [← hst1]; exact h.kind
 have f1 : failedOf st1 = none := by rw [← hst1]; exact h.failed
 have ar1 : arrOf st1 = arrOf st := by rw [← hst1]
 have pe1 : pendingOf st1 = ((pendingOf st).setIfInBounds i (sa, na + nb, pw)).eraseIdxIfInBounds (i + 1) := by rw [← hst1]
 have A1 : Arr kind a0 st1 := ⟨k1, f1, by rw [ar1]; exact h.perm⟩
 obtain ⟨y, e3, my, ry⟩ := h.get (rk := rk) (i := sb) (by omega)
 have dn : ∀ p p', p < a0.length -> p' < a0.length -> p ≠ p' -> rA rk (arrOf st) p ≠ rA rk (arrOf st) p' := fun p p' a b c => h.ne C.inj a b c
 refine wpS_bind (zx e3 ?_)
 refine wpS_bind (Uw C h k1 my (by omega) (by rw [← hs]; exact u1) (by omega) (fun p b1 b2 => by rw [← ry]; exact dn p sb (by omega) (by omega) (by omega)) fun k hk1 hk2 hk3 => ?_)
 dsimp only
 rw [← ry] at hk2 hk3
 have whole : (∀ p p', sa <= p -> p < sb -> sb <= p' -> p' < sb + nb -> rA rk (arrOf st) p < rA rk (arrOf st) p') -> UpTo rk (arrOf st) sa (sb + nb) := fun z p p' b1 b2 b3 => by
  by_cases c1 : p' < sb
  ·exact u1 p p' b1 b2 c1
  ·by_cases c2 : p < sb
   ·exact z p p' b1 c2 (by omega) b3
   ·exact u2 p p' (by omega) b2 b3
 have geB : ∀ p', sb <= p' -> p' < sb + nb -> rA rk (arrOf st) sb <= rA rk (arrOf st) p' := fun p' b1 b2 => by
  by_cases c : p' = sb
  ·subst c; exact Int.le_refl _
  ·exact Int.le_of_lt (u2 sb p' (Nat.le_refl _) (by omega) b2)
 have leA : ∀ p, sa <= p -> p < sb -> rA rk (arrOf st) p <= rA rk (arrOf st) (sb - 1) := fun p b1 b2 => by
  by_cases c : p = sb - 1
  ·subst c; exact Int.le_refl _
  ·exact Int.le_of_lt (u1 p (sb - 1) b1 (by omega) (by omega))
 by_cases h0 : (na - k == 0) = true
 ·rw [if_pos h0]
  have h0 : na - k = 0 := by simpa using h0
  refine wpS_pure (q st1 A1 pe1 ?_ fun j _ => by rw [ar1])
  rw [ar1]
  refine whole fun p p' b1 b2 b3 b4 => ?_
  have := hk2 p b1 (by omega)
  have := geB p' b3 b4
  omega
 ·rw [if_neg h0]
  have h0 : ¬ na - k = 0 := by simpa using h0
  have hix : sa + k + (na - k) - 1 = sb - 1 := by omega
  rw [hix]
  obtain ⟨x, e1, mx, rx⟩ := h.get (rk := rk) (i := sb - 1) (by omega)
  refine wpS_bind (zx e1 ?_)
  refine wpS_bind (Uw C h k1 mx (by omega) u2 (by omega) (fun p b1 b2 => by rw [← rx]; exact dn p (sb - 1) (by omega) (by omega) (by omega)) fun nb' hk1' hk2' hk3' => ?_)
  dsimp only
  rw [← rx] at hk2' hk3'
  by_cases h9 : (nb' == 0) = true
  ·rw [if_pos h9]
   have h9 : nb' = 0 := by simpa using h9
   refine wpS_pure (q st1 A1 pe1 ?_ fun j _ => by rw [ar1])
   rw [ar1]
   refine whole fun p p' b1 b2 b3 b4 => ?_
   have := hk3' p' (by omega) b4
   have := leA p b1 b2
   omega
  ·rw [if_neg h9]
   have h9 : ¬ nb' = 0 := by simpa using h9
   have ux : UpTo rk (arrOf st) (sa + k) sb := fun p p' b1 b2 b3 => u1 p p' (by omega) b2 b3
   have uy : UpTo rk (arrOf st) sb (sb + nb') := fun p p' b1 b2 b3 => u2 p p' b1 b2 (by omega)
   have sx : ((arrOf st).extract (sa + k) sb).size = na - k := by rw [Array.size_extract]; omega
   have sy : ((arrOf st).extract sb (sb + nb')).size = nb' := by rw [Array.size_extract]; omega
   have T : Two a0 rk ((arrOf st).extract (sa + k) sb) ((arrOf st).extract sb (sb + nb')) := by
    refine ⟨fun z hz => ?_, fun z hz => ?_, qj9 (by omega) ux, qj9 (by omega) uy, fun z hz t ht => ?_, by omega, by omega⟩
    ·obtain ⟨p, b1, b2, e⟩ := uw (by omega) hz
     obtain ⟨z', e', m', _⟩ := h.get (rk := rk) (i := p) (by omega)
     rw [e] at e'; cases e'; exact m'
    ·obtain ⟨p, b1, b2, e⟩ := uw (by omega) hz
     obtain ⟨z', e', m', _⟩ := h.get (rk := rk) (i := p) (by omega)
     rw [e] at e'; cases e'; exact m'
    ·obtain ⟨p, b1, b2, e⟩ := uw (by omega) hz
     obtain ⟨p', b1', b2', e'⟩ := uw (by omega) ht
     rw [← Ak (rk := rk) e, ← Ak (rk := rk) e']
     exact dn p p' (by omega) (by omega) (by omega)
   have exy : ∀ z t, z ∈ ((arrOf st).extract (sa + k) sb).toList -> ((arrOf st).extract sb (sb + nb')).toList[0]? = some t -> rk t < rk z := fun z t hz ht => by
    obtain ⟨p, b1, b2, e⟩ := uw (by omega) hz
    rw [yu, List.getElem?_drop, Nat.add_zero, List.getElem?_take_of_lt (by omega), Array.getElem?_toList] at ht
    rw [← Ak (rk := rk) e, ← Ak (rk := rk) ht]
    exact hk3 p b1 (by omega)
   have last : ∀ z, ((arrOf st).extract (sa + k) sb).toList[((arrOf st).extract (sa + k) sb).size - 1]? = some z -> ∀ t ∈ ((arrOf st).extract sb (sb + nb')).toList, rk t < rk z := fun z hz t ht => by
    obtain ⟨p, b1, b2, e⟩ := uw (by omega) ht
    rw [sx, yu, List.getElem?_drop, show sa + k + (na - k - 1) = sb - 1 by omega, List.getElem?_take_of_lt (by omega), Array.getElem?_toList] at hz
    rw [← Ak (rk := rk) e, ← Ak (rk := rk) hz]
    exact hk2' p b1 b2
   have fin : ∀ (m : Array Keyed) (st2 : SortSt), Sim st1 st2 -> Good rk ((arrOf st).extract (sa + k) sb).toList ((arrOf st).extract sb (sb + nb')).toList m.toList ->
     Q true (SortSt.mk' (kindOf st2) (m.toList.zipIdx.foldl (fun a x => a.setIfInBounds (sa + k + x.2) x.1) (arrOf st2)) (pendingOf st2) (gallopOf st2) (failedOf st2)) := fun m st2 sm g => by
    have lm : m.toList.length = (na - k) + nb' := by
     have := g.perm.length_eq
     rw [List.length_append, Array.length_toList, Array.length_toList, Array.length_toList, sx, sy] at this
     simpa using this
    have ea : arrOf st2 = arrOf st := sm.arr.trans ar1
    have hfit : sa + k + m.toList.length <= (arrOf st).size := by omega
    have gt : ∀ j, (m.toList.zipIdx.foldl (fun a x => a.setIfInBounds (sa + k + x.2) x.1) (arrOf st))[j]? = if sa + k <= j /\ j < sa + k + m.toList.length then m.toList[j - (sa + k)]? else (arrOf st)[j]? := fun j => by
     have := Jr (sa + k) m.toList 0 (arrOf st) (by omega) j
     simpa using this
    have inm : ∀ j, sa + k <= j -> j < sa + k + m.toList.length -> ∃ p, sa + k <= p /\ p < sb + nb' /\ rA rk (m.toList.zipIdx.foldl (fun a x => a.setIfInBounds (sa + k + x.2) x.1) (arrOf st)) j = rA rk (arrOf st) p := fun j b1 b2 => by
     have e := gt j
     rw [if_pos ⟨b1, b2⟩, List.getElem?_eq_getElem (by omega)] at e
     have mem : m.toList[j - (sa + k)]'(by omega) ∈ ((arrOf st).extract (sa + k) sb).toList ++ ((arrOf st).extract sb (sb + nb')).toList := g.perm.mem_iff.mp (List.getElem_mem _)
     rw [Ak e]
     rcases List.mem_append.mp mem with z | z
     ·obtain ⟨p, c1, c2, ep⟩ := uw (by omega) z
      exact ⟨p, c1, by omega, (Ak ep).symm⟩
     ·obtain ⟨p, c1, c2, ep⟩ := uw (by omega) z
      exact ⟨p, by omega, c2, (Ak ep).symm⟩
    have lowp : ∀ j p, sa <= j -> j < sa + k -> sa + k <= p -> p < sb + nb' -> rA rk (arrOf st) j < rA rk (arrOf st) p := fun j p b1 b2 b3 b4 => by
     by_cases c : p < sb
     ·exact u1 j p b1 (by omega) c
     ·have := hk2 j b1 b2
      have := geB p (by omega) (by omega)
      omega
    have highp : ∀ j p, sb + nb' <= j -> j < sb + nb -> sa + k <= p -> p < sb + nb' -> rA rk (arrOf st) p < rA rk (arrOf st) j := fun j p b1 b2 b3 b4 => by
     by_cases c : p < sb
     ·have := hk3' j b1 b2
      have := leA p (by omega) c
      omega
     ·exact u2 p j (by omega) (by omega) b2
    refine q _ ⟨sm.kind.trans k1, sm.failed.trans f1, ?_⟩ (sm.pend.trans pe1) ?_ ?_
    ·show (m.toList.zipIdx.foldl (fun a x => a.setIfInBounds (sa + k + x.2) x.1) (arrOf st2)).toList.Perm a0
     rw [ea, fold_list hfit]
     refine List.Perm.trans ?_ h.perm
     have e0 := qd3 (arrOf st).toList (sa + k) m.toList.length
     have e1' : ((arrOf st).toList.drop (sa + k)).take m.toList.length = ((arrOf st).extract (sa + k) sb).toList ++ ((arrOf st).extract sb (sb + nb')).toList := by
      have c1 : na - k + nb' = sb + nb' - (sa + k) := by omega
      rw [lm, yu, yu, c1, ← List.drop_take]
      have := J3 (l := (arrOf st).toList.take (sb + nb')) (i := sa + k) (j := sb) (by omega)
      rw [List.take_take, show min sb (sb + nb') = sb by omega] at this
      exact this
     conv => rhs; rw [e0, e1']
     exact (List.Perm.append_left _ g.perm).append_right _
    ·show UpTo rk (m.toList.zipIdx.foldl (fun a x => a.setIfInBounds (sa + k + x.2) x.1) (arrOf st2)) sa (sb + nb)
     rw [ea]
     have hm : sa + k + m.toList.length = sb + nb' := by omega
     intro p p' b1 b2 b3
     by_cases c1 : p < sa + k
     ·have g1 := gt p
      rw [if_neg (by omega)] at g1
      rw [ji g1]
      by_cases c2 : p' < sa + k
      ·have g2 := gt p'
       rw [if_neg (by omega)] at g2
       rw [ji g2]
       exact u1 p p' b1 b2 (by omega)
      ·by_cases c3 : p' < sb + nb'
       ·obtain ⟨r, d1, d2, er⟩ := inm p' (by omega) (by omega)
        rw [er]
        exact lowp p r b1 c1 d1 d2
       ·have g2 := gt p'
        rw [if_neg (by omega)] at g2
        rw [ji g2]
        have := hk2 p b1 c1
        have := geB p' (by omega) b3
        omega
     ·by_cases c2 : p' < sb + nb'
      ·have g1 := gt p
       have g2 := gt p'
       rw [if_pos (by omega), List.getElem?_eq_getElem (by omega)] at g1 g2
       rw [Ak g1, Ak g2]
       exact List.pairwise_iff_getElem.mp g.up _ _ _ _ (by omega)
      ·have g2 := gt p'
       rw [if_neg (by omega)] at g2
       rw [ji g2]
       by_cases c3 : p < sb + nb'
       ·obtain ⟨r, d1, d2, er⟩ := inm p (by omega) (by omega)
        rw [er]
        exact highp p' r (by omega) b3 d1 d2
       ·have g1 := gt p
        rw [if_neg (by omega)] at g1
        rw [ji g1]
        exact u2 p p' (by omega) b2 b3
    ·intro j hj
     show (m.toList.zipIdx.foldl (fun a x => a.setIfInBounds (sa + k + x.2) x.1) (arrOf st2))[j]? = (arrOf st)[j]?
     rw [ea, gt j, if_neg (by omega)]
   have f2 : ∀ st2, Sim st1 st2 -> failedOf st2 = none := fun st2 sm => sm.failed.trans f1
   split
   ·refine wpS_bind (Q7 C k1 T (fun z t hz ht => exy z t (List.mem_of_getElem? hz) ht) last fun m st2 sm g => ?_)
    refine wpS_bind (wpS_modify (wpS_bind (wpS_get (wpS_pure ?_))))
    have e : (failedOf st2).isNone = true := by rw [f2 st2 sm]; rfl
    show Q ((failedOf st2).isNone) _
    rw [e]
    exact fin m st2 sm g
   ·refine wpS_bind (Qz C k1 T (fun t ht z hz => exy z t hz ht) last fun m st2 sm g => ?_)
    refine wpS_bind (wpS_modify (wpS_bind (wpS_get (wpS_pure ?_))))
    have e : (failedOf st2).isNone = true := by rw [f2 st2 sm]; rfl
    show Q ((failedOf st2).isNone) _
    rw [e]
    exact fin m st2 sm g
end
end GS
namespace GS
open PySem PyProof.Rows
noncomputable def Zf : StateT SortSt Sem Unit := sortPriv% PySem.Builtin.sortRuns
noncomputable def Runs (rk : Keyed -> Int) (xs : Array Keyed) : List (Nat × Nat × Nat) -> Nat -> Nat -> Prop
 | [], lo, hi => lo = hi
 | (s, n, _) :: r, lo, hi => s = lo /\ 1 <= n /\ UpTo rk xs lo (lo + n) /\ Runs rk xs r (lo + n) hi
section
variable {rk : Keyed -> Int} {xs ys : Array Keyed}
theorem UpTo.congr {lo hi : Nat} (h : UpTo rk xs lo hi) (e : ∀ k, lo <= k -> k < hi -> ys[k]? = xs[k]?) : UpTo rk ys lo hi := fun i j a b c => by
 rw [ji (e i a (by omega)), ji (e j (by omega) c)]
 exact h i j a b c
theorem Runs.le : ∀ {ps : List (Nat × Nat × Nat)} {lo hi : Nat}, Runs rk xs ps lo hi -> lo + ps.length <= hi
 | [], lo, hi, h => by have : lo = hi := h; simp; omega
 | (s, n, p) :: r, lo, hi, h => by
  obtain ⟨_, h1, _, h2⟩ := h
  have := Runs.le h2
  simp only [List.length_cons]
  omega
theorem Runs.congr : ∀ {ps : List (Nat × Nat × Nat)} {lo hi : Nat}, Runs rk xs ps lo hi -> (∀ k, lo <= k -> k < hi -> ys[k]? = xs[k]?) -> Runs rk ys ps lo hi
 | [], lo, hi, h, _ => h
 | (s, n, p) :: r, lo, hi, h, e => by
  obtain ⟨h0, h1, h2, h3⟩ := h
  have := Runs.le h3
  exact ⟨h0, h1, h2.congr fun k a b => e k a (by omega), Runs.congr h3 fun k a b => e k (by omega) b⟩
theorem Runs.snoc : ∀ {ps : List (Nat × Nat × Nat)} {lo mid n p : Nat}, Runs rk xs ps lo mid -> 1 <= n -> UpTo rk xs mid (mid + n) -> Runs rk xs (ps ++ [(mid, n, p)]) lo (mid + n)
 | [], lo, mid, n, p, h, h1, h2 => by
  have e : lo = mid := h
  subst e
  exact ⟨rfl, h1, h2, rfl⟩
 | (s, m, q) :: r, lo, mid, n, p, h, h1, h2 => by
  obtain ⟨a, b, c, d⟩ := h
  exact ⟨a, b, c, Runs.snoc d h1 h2⟩
theorem Runs.power : ∀ {ps qs : List (Nat × Nat × Nat)} {lo hi : Nat}, Runs rk xs ps lo hi -> ps.map (fun x => (x.1, x.2.1)) = qs.map (fun x => (x.1, x.2.1)) -> Runs rk xs qs lo hi
 | [], [], _, _, h, _ => h
 | [], _ :: _, _, _, _, e => by simp at e
 | _ :: _, [], _, _, _, e => by simp at e
 | (s, n, p) :: r, (s', n', p') :: r', lo, hi, h, e => by
  simp only [List.map_cons, List.cons.injEq, Prod.mk.injEq] at e
  obtain ⟨⟨e1, e2⟩, e3⟩ := e
  subst e1 e2
  obtain ⟨a, b, c, d⟩ := h
  exact ⟨a, b, c, Runs.power d e3⟩
theorem Runs.two : ∀ {ps : List (Nat × Nat × Nat)} {lo hi i sa na pw sb nb pw' : Nat}, Runs rk xs ps lo hi -> ps[i]? = some (sa, na, pw) -> ps[i + 1]? = some (sb, nb, pw') ->
  lo <= sa /\ sb = sa + na /\ 1 <= na /\ 1 <= nb /\ sb + nb <= hi /\ UpTo rk xs sa sb /\ UpTo rk xs sb (sb + nb)
 | [], _, _, _, _, _, _, _, _, _, _, e, _ => by simp at e
 | (s, n, p) :: r, lo, hi, 0, sa, na, pw, sb, nb, pw', h, e1, e2 => by
  simp only [List.getElem?_cons_zero, Option.some.injEq, Prod.mk.injEq] at e1
  obtain ⟨rfl, rfl, rfl⟩ := e1
  obtain ⟨rfl, h1, h2, h3⟩ := h
  cases r with
  | nil => simp at e2
  | cons x r' =>
   obtain ⟨s', n', p'⟩ := x
   simp only [Nat.zero_add, List.getElem?_cons_succ, List.getElem?_cons_zero, Option.some.injEq, Prod.mk.injEq] at e2
   obtain ⟨rfl, rfl, rfl⟩ := e2
   obtain ⟨rfl, g1, g2, g3⟩ := h3
   have := Runs.le g3
   exact ⟨Nat.le_refl _, rfl, h1, g1, by omega, h2, g2⟩
 | (s, n, p) :: r, lo, hi, i + 1, sa, na, pw, sb, nb, pw', h, e1, e2 => by
  obtain ⟨_, h1, h2, h3⟩ := h
  have z := Runs.two (i := i) h3 (by simpa using e1) (by simpa using e2)
  exact ⟨by omega, z.2⟩
theorem Runs.merge : ∀ {ps : List (Nat × Nat × Nat)} {lo hi i sa na pw sb nb pw' : Nat}, Runs rk xs ps lo hi -> ps[i]? = some (sa, na, pw) -> ps[i + 1]? = some (sb, nb, pw') ->
  UpTo rk ys sa (sb + nb) -> (∀ k, k < sa \/ sb + nb <= k -> ys[k]? = xs[k]?) -> Runs rk ys ((ps.set i (sa, na + nb, pw)).eraseIdx (i + 1)) lo hi
 | [], _, _, _, _, _, _, _, _, _, _, e, _, _, _ => by simp at e
 | (s, n, p) :: r, lo, hi, 0, sa, na, pw, sb, nb, pw', h, e1, e2, u, o => by
  simp only [List.getElem?_cons_zero, Option.some.injEq, Prod.mk.injEq] at e1
  obtain ⟨rfl, rfl, rfl⟩ := e1
  obtain ⟨rfl, h1, h2, h3⟩ := h
  cases r with
  | nil => simp at e2
  | cons x r' =>
   obtain ⟨s', n', p'⟩ := x
   simp only [Nat.zero_add, List.getElem?_cons_succ, List.getElem?_cons_zero, Option.some.injEq, Prod.mk.injEq] at e2
   obtain ⟨rfl, rfl, rfl⟩ := e2
   obtain ⟨rfl, g1, g2, g3⟩ := h3
   rw [List.set_cons_zero, Nat.zero_add, List.eraseIdx_cons_succ, List.eraseIdx_cons_zero]
   refine ⟨rfl, by omega, by rw [← Nat.add_assoc]; exact u, ?_⟩
   rw [← Nat.add_assoc]
   exact g3.congr fun k a b => o k (by omega)
 | (s, n, p) :: r, lo, hi, i + 1, sa, na, pw, sb, nb, pw', h, e1, e2, u, o => by
  obtain ⟨h0, h1, h2, h3⟩ := h
  have e1' : r[i]? = some (sa, na, pw) := by simpa using e1
  have e2' : r[i + 1]? = some (sb, nb, pw') := by simpa using e2
  have z := Runs.two h3 e1' e2'
  rw [List.set_cons_succ, List.eraseIdx_cons_succ]
  exact ⟨h0, h1, h2.congr fun k a b => o k (by omega), Runs.merge h3 e1' e2' u o⟩
end
section
variable {prog : Program} {w : World} {A : Around} {E : Value -> Shared -> Prop} {s : Shared} {kind : SortKind} {a0 : List Keyed} {rk : Keyed -> Int}
theorem Bc (C : Cmp prog w A s kind a0 rk) {st : SortSt} {i hi : Nat} {Q : Bool -> SortSt -> Prop} (h : Arr kind a0 st) (hr : Runs rk (arrOf st) (pendingOf st).toList 0 hi) (hh : hi <= a0.length) (hi2 : i + 1 < (pendingOf st).size)
  (q : ∀ st', Arr kind a0 st' -> Runs rk (arrOf st') (pendingOf st').toList 0 hi -> (pendingOf st').size + 1 = (pendingOf st).size -> (∀ k, hi <= k -> (arrOf st')[k]? = (arrOf st)[k]?) -> Q true st') :
  wpS (model prog w) A E s (Wc i) Q st := by
 obtain ⟨⟨sa, na, pw⟩, e1⟩ : ∃ x, (pendingOf st)[i]? = some x := ⟨_, by rw [Array.getElem?_eq_getElem (by omega)]⟩
 obtain ⟨⟨sb, nb, pw'⟩, e2⟩ : ∃ x, (pendingOf st)[i + 1]? = some x := ⟨_, by rw [Array.getElem?_eq_getElem hi2]⟩
 have l1 : (pendingOf st).toList[i]? = some (sa, na, pw) := by rw [Array.getElem?_toList]; exact e1
 have l2 : (pendingOf st).toList[i + 1]? = some (sb, nb, pw') := by rw [Array.getElem?_toList]; exact e2
 obtain ⟨z0, z1, z2, z3, z4, z5, z6⟩ := hr.two l1 l2
 refine Qf C h e1 e2 z1 z2 z3 (by omega) z5 z6 fun st' h' pe u o => ?_
 have pl : (pendingOf st').toList = ((pendingOf st).toList.set i (sa, na + nb, pw)).eraseIdx (i + 1) := by
  rw [pe]
  simp [Array.eraseIdxIfInBounds, hi2]
 refine q st' h' ?_ ?_ fun k hk => o k (by omega)
 ·rw [pl]
  exact hr.merge l1 l2 u o
 ·have := congrArg List.length pl
  rw [List.length_eraseIdx, List.length_set] at this
  simp only [Array.length_toList] at this
  rw [if_pos (by omega)] at this
  omega
end
end GS
namespace GS
open PySem PyProof.Rows
section
variable {prog : Program} {w : World} {A : Around} {E : Value -> Shared -> Prop} {s : Shared} {kind : SortKind} {a0 : List Keyed} {rk : Keyed -> Int}
theorem qt7 {c : Prop} [Decidable c] {x y : Nat} : (if c then x else y) = y \/ (if c then x else y) = x := by
 by_cases h : c
 ·rw [if_pos h]; exact .inr rfl
 ·rw [if_neg h]; exact .inl rfl
theorem Lx (C : Cmp prog w A s kind a0 rk) {st : SortSt} {Q : Unit -> SortSt -> Prop} (h : Arr kind a0 st) (hp : pendingOf st = #[]) (q : ∀ st', Arr kind a0 st' -> UpTo rk (arrOf st') 0 a0.length -> Q () st') :
  wpS (model prog w) A E s Zf Q st := by
 have hsz := h.size
 refine wpS_bind (wpS_get ?_)
 dsimp only
 refine wpS_bind (wpS_mono (wpS_forRange
  (I := fun i c st' => ∃ lo, c = (none, lo) /\ lo <= a0.length /\ Arr kind a0 st' /\ Runs rk (arrOf st') (pendingOf st').toList 0 lo /\ (i <= lo \/ lo = a0.length))
  (Q := fun c st' => ∃ lo, c = (none, lo) /\ lo = a0.length /\ Arr kind a0 st' /\ Runs rk (arrOf st') (pendingOf st').toList 0 lo) ?step ?fin ⟨0, rfl, by omega, h, by rw [hp]; rfl, .inl (by omega)⟩) ?post)
 case fin =>
  rintro c st' ⟨lo, rfl, h1, h2, h3, h4⟩
  have h4 : max 0 (arrOf st).size <= lo \/ lo = a0.length := h4
  exact ⟨lo, rfl, by omega, h2, h3⟩
 case step =>
  rintro i c st1 _ hi ⟨lo, rfl, h1, h2, h3, h4⟩
  dsimp only
  by_cases hge : lo >= (arrOf st).size
  ·rw [if_pos hge]
   exact wpS_pure ⟨lo, rfl, by omega, h2, h3⟩
  ·rw [if_neg hge]
   refine wpS_bind (Mj C h2 (by show lo + ((arrOf st).size - lo) = _; omega) (by show 1 <= (arrOf st).size - lo; omega) fun m st2 A2 m1 m2 u2 o2 => ?_)
   have m2 : m <= (arrOf st).size - lo := m2
   dsimp only
   have R2 : Runs rk (arrOf st2) (pendingOf st2).toList 0 lo := by
    rw [o2.pend]
    exact h3.congr fun k a b => o2.out k (by omega)
   split
   case' isTrue hmin =>
    refine wpS_bind (wpS_lift (wpAny_rule ⟨rfl, ?_⟩))
    refine wpS_bind (Gh C A2 (n := min ((arrOf st).size - lo) _) (by omega) (by omega) u2 fun st3 A3 u3 o3 => ?_)
    simp only [Bool.not_true, Bool.false_eq_true, if_false]
    have R3 : Runs rk (arrOf st3) (pendingOf st3).toList 0 lo := by
     rw [o3.pend]
     exact R2.congr fun k a b => o3.out k (by omega)
    have hn : ∃ n, n = min ((arrOf st).size - lo) (PyProof.Rows.minRun' (arrOf st).size (arrOf st).size 0) /\ 1 <= n /\ lo + n <= a0.length /\ UpTo rk (arrOf st3) lo (lo + n) :=
     ⟨_, rfl, by have : m < PyProof.Rows.minRun' (arrOf st).size (arrOf st).size 0 := hmin; omega, by omega, u3⟩
    obtain ⟨n, en, n1, n2, un⟩ := hn
   case' isFalse hmin =>
    obtain ⟨st3, est, A3, R3⟩ : ∃ st3, st3 = st2 /\ Arr kind a0 st3 /\ Runs rk (arrOf st3) (pendingOf st3).toList 0 lo := ⟨_, rfl, A2, R2⟩
    have u2' : UpTo rk (arrOf st3) lo (lo + m) := by rw [est]; exact u2
    obtain ⟨n, en, n1, n2, un⟩ : ∃ n, n = m /\ 1 <= n /\ lo + n <= a0.length /\ UpTo rk (arrOf st3) lo (lo + n) := ⟨_, rfl, m1, by omega, u2'⟩
    rw [← est]
   all_goals
    subst en
    have hlo : i <= lo := by omega
    refine wpS_bind (wpS_get ?_)
    rcases hb : (pendingOf st3).back? with _ | ⟨s1, k1, p1⟩
    ·dsimp only
     refine wpS_bind (wpS_modify (wpS_pure ⟨_, rfl, n2, ⟨A3.kind, A3.failed, A3.perm⟩, ?_, .inl (Nat.add_le_add hlo n1)⟩))
     have z := R3.snoc (p := 0) n1 un
     rw [← Array.toList_push] at z
     exact z
    ·dsimp only
     refine wpS_bind (wpS_mono (wpS_forRange
      (I := fun j c st' => c = (none, ()) /\ Arr kind a0 st' /\ Runs rk (arrOf st') (pendingOf st').toList 0 lo /\ ∀ k, lo <= k -> (arrOf st')[k]? = (arrOf st3)[k]?)
      (Q := fun c st' => c = (none, ()) /\ Arr kind a0 st' /\ Runs rk (arrOf st') (pendingOf st').toList 0 lo /\ ∀ k, lo <= k -> (arrOf st')[k]? = (arrOf st3)[k]?) ?sA (fun _ _ z => z) ⟨rfl, A3, R3, fun _ _ => rfl⟩) ?pA)
     case pA =>
      rintro c st4 ⟨rfl, B1, B2, B3⟩
      dsimp only
      refine wpS_bind (wpS_modify (wpS_bind (wpS_modify (wpS_pure ⟨_, rfl, n2, ⟨B1.kind, B1.failed, B1.perm⟩, ?_, .inl (Nat.add_le_add hlo n1)⟩))))
      have un4 := UpTo.congr (ys := arrOf st4) un fun k a _ => B3 k a
      have key : ∀ pw, Runs rk (arrOf st4) ((pendingOf st4).modify ((pendingOf st4).size - 1) fun x => (x.1, x.2.1, pw)).toList 0 lo := fun pw => by
       refine B2.power ?_
       rw [Array.toList_modify]
       refine List.ext_getElem? fun t => ?_
       rw [List.getElem?_map, List.getElem?_map, List.getElem?_modify]
       cases (pendingOf st4).toList[t]? with
       | none => rfl
       | some v =>
        simp only [Option.map_some]
        split <;> rfl
      have key2 := fun pw => (key pw).snoc (p := 0) n1 un4
      simp only [← Array.toList_push] at key2
      exact key2 _
     case sA =>
      rintro j c st4 _ hj ⟨rfl, B1, B2, B3⟩
      refine wpS_bind (wpS_get ?_)
      by_cases c1 : (pendingOf st4).size > 1
      ·rw [if_pos c1]
       obtain ⟨⟨x1, x2, x3⟩, ex⟩ : ∃ x, (pendingOf st4)[(pendingOf st4).size - 2]? = some x := ⟨_, Array.getElem?_eq_getElem (by omega)⟩
       rw [ex]
       dsimp only
       split
       ·exact wpS_pure ⟨rfl, B1, B2, B3⟩
       ·refine wpS_bind (Bc C B1 B2 h1 (by show (pendingOf st4).size - 2 + 1 < _; omega) fun st5 D1 D2 D3 D4 => ?_)
        simp only [Bool.not_true, Bool.false_eq_true, if_false]
        exact wpS_pure ⟨rfl, D1, D2, fun k hk => (D4 k hk).trans (B3 k hk)⟩
      ·rw [if_neg c1]
       exact wpS_pure ⟨rfl, B1, B2, B3⟩
 case post =>
  rintro c st1 ⟨lo, rfl, rfl, A1, R1⟩
  dsimp only
  refine wpS_bind (wpS_mono (wpS_forRange
   (I := fun i c st' => c = (none, ()) /\ Arr kind a0 st' /\ Runs rk (arrOf st') (pendingOf st').toList 0 a0.length /\ ((pendingOf st').size <= 1 \/ (pendingOf st').size + i <= a0.length))
   (Q := fun c st' => c = (none, ()) /\ Arr kind a0 st' /\ Runs rk (arrOf st') (pendingOf st').toList 0 a0.length /\ (pendingOf st').size <= 1) ?s4 ?f4 ⟨rfl, A1, R1, .inr (by have := R1.le; simpa using this)⟩) ?p4)
  case f4 =>
   rintro c st' ⟨hc, B1, B2, B3⟩
   have B3 : (pendingOf st').size <= 1 \/ (pendingOf st').size + max 0 (arrOf st).size <= a0.length := B3
   exact ⟨hc, B1, B2, by omega⟩
  case p4 =>
   rintro c st' ⟨rfl, B1, B2, B3⟩
   refine wpS_pure (q st' B1 ?_)
   cases e : (pendingOf st').toList with
   | nil =>
    rw [e] at B2
    have : 0 = a0.length := B2
    intro a b c d f
    omega
   | cons x r =>
    have : r = [] := by
     have := congrArg List.length e
     simp only [Array.length_toList, List.length_cons] at this
     exact List.eq_nil_of_length_eq_zero (by omega)
    subst this
    obtain ⟨sx, nx, px⟩ := x
    rw [e] at B2
    obtain ⟨_, _, u, z⟩ := B2
    have z : 0 + nx = a0.length := z
    rw [z] at u
    exact u
  case s4 =>
   rintro i c st' _ hi ⟨rfl, B1, B2, B3⟩
   refine wpS_bind (wpS_get ?_)
   by_cases c1 : (pendingOf st').size <= 1
   ·rw [if_pos c1]
    exact wpS_pure ⟨rfl, B1, B2, c1⟩
   ·rw [if_neg c1]
    have hp1 : ∀ (z : Nat), z = (pendingOf st').size - 2 \/ z = (pendingOf st').size - 2 - 1 -> z + 1 < (pendingOf st').size := fun z hz => by omega
    refine wpS_bind (Bc C B1 B2 (Nat.le_refl _) (hp1 _ ?idx) fun st2 D1 D2 D3 D4 => ?rest)
    case idx => exact qt7
    case rest =>
     simp only [Bool.not_true, Bool.false_eq_true, if_false]
     exact wpS_pure ⟨rfl, D1, D2, by omega⟩
end
end GS
namespace GS
open PySem PyProof.Rows PySem.W
section
variable {prog : Program} {w : World} {A : Around} {E : Value -> Shared -> Prop} {s : Shared}
theorem qs1 {rk : Keyed -> Int} {xs : Array Keyed} (h : UpTo rk xs 0 xs.size) : xs.toList.Pairwise fun x y => rk x < rk y := by
 refine List.pairwise_iff_getElem.mpr fun i j hi hj hij => ?_
 have hi' : i < xs.size := by simpa using hi
 have hj' : j < xs.size := by simpa using hj
 have z := h i j (Nat.zero_le _) hij hj'
 rw [Ak (Array.getElem?_eq_getElem hi'), Ak (Array.getElem?_eq_getElem hj')] at z
 simpa using z
theorem qh9 {xs vs : List Value} {ps : List Keyed} (h : ps.Perm (vs.zip vs)) : (ps.map (·.2)).Perm vs := by
 have := h.map (·.2)
 rwa [List.map_snd_zip (by simp)] at this
theorem vf {vs : List Value} {p : Keyed} (h : p ∈ vs.zip vs) : p.1 = p.2 /\ p.1 ∈ vs := mem_zip_self h
noncomputable def Rest (a : Addr) (h h' : Heap) : Prop := ∀ b o, b ≠ a -> h.get? b = some o -> h'.get? b = some o
theorem Zo {a : Addr} {vs : List Value} {n : Nat} {kind : SortKind} {rk : Value -> Int} {P : Fin -> Shared -> Prop} (ho : s.heap.get? a = some (seqObj "list" vs.toArray n)) (hlen : vs.length <= sizeLine)
  (hkk : 2 <= vs.length -> ∀ (s' : Shared) (Q : SortKind -> Shared -> Prop), Rest a s.heap s'.heap -> Q kind s' -> wpAny (model prog w) A (keyKind' vs.toArray) Q E s')
  (hlt : ∀ (s' : Shared), Rest a s.heap s'.heap -> ∀ x y, x ∈ vs -> y ∈ vs -> ∀ (E : Value -> Shared -> Prop) (Q : Bool -> Shared -> Prop), Q (decide (rk x < rk y)) s' -> wpAny (model prog w) A (keyLt' kind x y) Q E s')
  (inj : (vs.map rk).Nodup)
  (h : ∀ out : List Value, out.Perm vs -> out.Pairwise (fun x y => rk x < rk y) -> P (.done (.ret .none)) { s with heap := sortedHeap s.heap a vs out.toArray }) :
  wpAny (model prog w) A (Builtin.«list.sort» ⟨[.ref a], []⟩) P E s := by
 rw [list_sort_plain]
 have ha : a < s.heap.objs.size := Heap.lt_size ho
 refine wpAny_bind (listItems_at ho rfl (wpAny_bind (listUpdate_at ho rfl ?_)))
 obtain ⟨e1, ho1⟩ : ∃ e1, (s.heap.update a (Obj.mapSeq fun _ => #[])).get? a = some (seqObj "list" #[] e1) := ⟨_, get?_update_seq ho (fun _ => #[])⟩
 refine wpAny_bind (seqEpoch_at ho1 rfl (wpAny_bind (wpAny_newTuple (wpAny_bind (wpAny_newList (wpAny_holding ?_))))))
 generalize hs6 : ({ s with heap := ((s.heap.update a (Obj.mapSeq fun _ => #[])).push (seqObj "tuple" vs.toArray 0)).push (seqObj "list" #[] 0) } : Shared) = s6
 have ho6 : s6.heap.get? a = some (seqObj "list" #[] e1) := by
  rw [← hs6]
  show (((s.heap.update a (Obj.mapSeq fun _ => #[])).push (seqObj "tuple" vs.toArray 0)).push (seqObj "list" #[] 0)).get? a = _
  exact Heap.get?_push_of_some _ (Heap.get?_push_of_some _ ho1)
 have rest : Rest a s.heap s6.heap := fun b o hb e => by
  rw [← hs6]
  exact Heap.get?_push_of_some _ (Heap.get?_push_of_some _ ((Heap.get?_update_other s.heap _ (Ne.symm hb)).trans e))
 have fin : ∀ out : List Value, out.Perm vs -> out.Pairwise (fun x y => rk x < rk y) -> P (.done (.ret .none)) { s6 with heap := s6.heap.update a (Obj.mapSeq fun _ => out.toArray) } := fun out p o => by
  have q := h out p o
  rw [← hs6]
  exact q
 dsimp only
 have hsz : vs.toArray.size = vs.length := by simp
 have ez : vs.toArray.zip vs.toArray = (vs.zip vs).toArray := by simp
 by_cases h2 : vs.toArray.size < 2
 ·rw [if_pos h2, if_pos h2]
  refine wpAny_bind (wpAny_pure ?_)
  rw [StateT.run_pure]
  refine wpAny_bind (wpAny_pure ?_)
  dsimp only
  have em : (arrOf (SortSt.mk' general' (vs.toArray.zip vs.toArray) #[] 7 none)).map (·.2) = vs.toArray := by
   show (vs.toArray.zip vs.toArray).map (·.2) = _
   rw [ez, List.map_toArray, List.map_snd_zip (by simp)]
  rw [em]
  refine wpAny_bind (seqEpoch_at ho6 rfl (wpAny_bind (listUpdate_at ho6 rfl ?_ (hsz2 := by simp; omega))))
  simp only [bne_self_eq_false, Bool.false_eq_true, if_false]
  refine wpAny_pure (fin vs (List.Perm.refl _) ?_)
  match vs, hsz, h2 with
  | [], _, _ => exact List.Pairwise.nil
  | [x], _, _ => exact List.pairwise_singleton _ _
  | _ :: _ :: _, _, h2 => simp at h2; omega
 ·rw [if_neg h2, if_neg h2]
  have C : Cmp prog w A s6 kind (vs.zip vs) (fun p => rk p.1) := ⟨fun x y hx hy E' Q q => hlt s6 rest x.1 y.1 (vf hx).2 (vf hy).2 E' Q q, by
   have e : (vs.zip vs).map (fun p => rk p.1) = vs.map rk := by
    have : (vs.zip vs).map (fun p => rk p.1) = ((vs.zip vs).map (·.1)).map rk := by rw [List.map_map]; rfl
    rw [this, List.map_fst_zip (by simp)]
   rw [e]
   exact inj⟩
  refine wpAny_bind (hkk (by omega) s6 _ rest ?_)
  have ar : Arr kind (vs.zip vs) (SortSt.mk' kind (vs.toArray.zip vs.toArray) #[] 7 none) := ⟨rfl, rfl, by
   show (vs.toArray.zip vs.toArray).toList.Perm _
   rw [ez]⟩
  refine wpAny_bind (wpAny_mono (Lx (E := E) C ar rfl (Q := fun _ st' => Arr kind (vs.zip vs) st' /\ UpTo (fun p => rk p.1) (arrOf st') 0 (vs.zip vs).length) fun st' B u => ⟨B, u⟩) ?_ fun _ _ e => e)
  rintro ⟨⟨⟩, st'⟩ s' ⟨rfl, B, u⟩
  dsimp only
  have bs := B.size
  have pm : ((arrOf st').toList.map (·.2)).Perm vs := qh9 (xs := vs) B.perm
  have em : (arrOf st').map (·.2) = ((arrOf st').toList.map (·.2)).toArray := by
   apply Array.toList_inj.mp
   rw [Array.toList_map]
  have up : ((arrOf st').toList.map (·.2)).Pairwise fun x y => rk x < rk y := by
   rw [← bs] at u
   refine List.Pairwise.map _ (fun x y z => z) ((qs1 u).imp_of_mem fun {x y} hx hy z => ?_)
   have e1 := (vf (B.perm.mem_iff.mp hx)).1
   have e2 := (vf (B.perm.mem_iff.mp hy)).1
   rw [← e1, ← e2]
   exact z
  rw [em]
  refine wpAny_bind (seqEpoch_at ho6 rfl (wpAny_bind (listUpdate_at ho6 rfl ?_ (hsz2 := by
   have := pm.length_eq
   rw [List.size_toArray, this]; omega))))
  rw [B.failed]
  simp only [bne_self_eq_false, Bool.false_eq_true, if_false]
  exact wpAny_pure (fin _ pm up)
theorem sorted_any {l : Addr} {vs : List Value} {kind : SortKind} {rk : Value -> Int} {Q : Value -> Shared -> Prop} (hl : s.heap.IsList l vs.toArray) (hlen : vs.length <= sizeLine)
  (hkk : 2 <= vs.length -> ∀ (A : Around) (s' : Shared) (Q : SortKind -> Shared -> Prop), (∀ b o, s.heap.get? b = some o -> s'.heap.get? b = some o) -> Q kind s' -> wpAny (model prog w) A (keyKind' vs.toArray) Q (fun _ _ => False) s')
  (hlt : ∀ (A : Around) (s' : Shared), (∀ b o, s.heap.get? b = some o -> s'.heap.get? b = some o) -> ∀ x y, x ∈ vs -> y ∈ vs -> ∀ (E : Value -> Shared -> Prop) (Q : Bool -> Shared -> Prop), Q (decide (rk x < rk y)) s' -> wpAny (model prog w) A (keyLt' kind x y) Q E s')
  (inj : (vs.map rk).Nodup)
  (h : ∀ out : List Value, out.Perm vs -> out.Pairwise (fun x y => rk x < rk y) -> Q (.ref (s.heap.objs.size + 1)) { s with heap := sortedAll s.heap vs out.toArray }) :
  wpAny (model prog w) A (call (.builtin "sorted") [.ref l]) Q E s := by
 refine Calls.call_function_entry kind_sorted plain_sorted entry_sorted (args_sorted1 _) ?_
 unfold Builtin.«sorted»
 refine wpAny_bind (m := checkCount "sorted" 1 1 _) (wpAny_pure (wpAny_bind (collect_list hl (wpAny_bind (wpAny_newList ?_)) hlen)))
 have hsz : ((s.heap.push (seqObj "list" #[] 0)).update s.heap.objs.size (Obj.mapSeq (· ++ vs.toArray))).objs.size = s.heap.objs.size + 1 := by
  rw [Heap.size_update, size_push']
 generalize hh8 : (((s.heap.push (seqObj "list" #[] 0)).update s.heap.objs.size (Obj.mapSeq (· ++ vs.toArray))).push (seqObj "list" vs.toArray 0)) = h8
 have hoL : h8.get? (s.heap.objs.size + 1) = some (seqObj "list" vs.toArray 0) := by
  rw [← hh8, ← hsz]; exact Heap.get?_push_size _ rfl
 have old : ∀ b o, s.heap.get? b = some o -> h8.get? b = some o := fun b o e => by
  rw [← hh8]
  refine Heap.get?_push_of_some _ ((Heap.get?_update_other _ _ ?_).trans (Heap.get?_push_of_some _ e))
  exact (Nat.ne_of_lt (Heap.lt_size e)).symm
 dsimp only
 rw [hsz]
 have lift : ∀ s' : Shared, Rest (s.heap.objs.size + 1) h8 s'.heap -> ∀ b o, s.heap.get? b = some o -> s'.heap.get? b = some o := fun s' r b o e =>
  r b o (Nat.ne_of_lt (Nat.lt_succ_of_lt (Heap.lt_size e))) (old b o e)
 refine wpAny_bind (wpAny_holding (wpAny_call_entry slot_list_sort ⟨_, hoL, rfl⟩ entry_list_sort (Zo (s := { s with heap := h8 }) (kind := kind) (rk := rk) hoL hlen
  (fun h2 s' Q' r q => wpAny_mono (hkk h2 _ s' Q' (lift s' r) q) (fun _ _ z => z) fun _ _ z => z.elim) (fun s' r => hlt _ s' (lift s' r)) inj fun out p o => ⟨_, rfl, ?_⟩) (args_list_sort _)))
 have q := h out p o
 unfold sortedAll at q
 rw [hh8] at q
 exact wpAny_pure ⟨_, rfl, q⟩
noncomputable def TwoAt (h : Heap) (x : Value) (t l : Int) : Prop := ∃ a o xs n t1 t2 rest, x = .ref a /\ h.get? a = some o /\ o.cls = .type "tuple" /\ o.data = .seq xs n /\ xs.toList = .int t t1 :: .int l t2 :: rest
theorem TwoAt.keep {h h' : Heap} {x : Value} {t l : Int} (q : TwoAt h x t l) (k : ∀ b o, h.get? b = some o -> h'.get? b = some o) : TwoAt h' x t l := by
 obtain ⟨a, o, xs, n, t1, t2, rest, e, g, r⟩ := q
 exact ⟨a, o, xs, n, t1, t2, rest, e, k _ _ g, r⟩
theorem Ul {b fin : Bool} {Q : Bool -> Shared -> Prop} (h : Q fin s) : ∀ (l : List Value) (i : Nat), KatLex prog w A b fin Q (l.zip l) i s
 | [], i => by simpa using kat_nil h
 | x :: l, i => by
  rw [List.zip_cons_cons]
  exact kat_cons (SeqAt.EqAt.same x prog w _ _ (kat_yes (Ul h l (i + 1))))
theorem lt_two {x y : Value} {t l t' l' : Int} {Q : Bool -> Shared -> Prop} (hx : TwoAt s.heap x t l) (hy : TwoAt s.heap y t' l') (same : t = t' -> l = l' -> x = y)
    (h : Q (decide (t < t' \/ (t = t' /\ l < l'))) s) : wpAny (model prog w) A (keyLt' (tuples' true) x y) Q E s := by
  by_cases hxy : x = y
  · subst hxy
    obtain ⟨a, o, xs, n, t1, t2, rest, rfl, g, c, d, e⟩ := hx
    obtain ⟨a', o', xs', n', t1', t2', rest', ea, g', c', d', e'⟩ := hy
    cases ea
    rw [g] at g'; cases g'
    rw [d] at d'; cases d'
    rw [e] at e'
    simp only [List.cons.injEq, Value.int.injEq] at e'
    obtain ⟨⟨rfl, _⟩, ⟨rfl, _⟩, _⟩ := e'
    refine kat_lt g d g d ?_
    have hf : decide (xs.size < xs.size) = decide (t < t \/ (t = t /\ l < l)) := by simp
    rw [hf]
    exact Ul h xs.toList 0
  · obtain ⟨a, o, xs, n, t1, t2, rest, rfl, g, c, d, e⟩ := hx
    obtain ⟨a', o', xs', n', t1', t2', rest', rfl, g', c', d', e'⟩ := hy
    refine kat_lt g d g' d' ?_
    rw [e, e', List.zip_cons_cons, List.zip_cons_cons]
    refine kat_cons (SeqAt.EqAt.int_int t t1 t' t1' prog w _ _ ?_)
    by_cases ht : t = t'
    · have ht' : (t == t') = true := by simpa using ht
      rw [ht']
      refine kat_yes (kat_cons (SeqAt.EqAt.int_int l t2 l' t2' prog w _ _ ?_))
      have hl : l ≠ l' := fun z => hxy (same ht z)
      have hl' : (l == l') = false := by simpa using hl
      rw [hl']
      refine kat_no ?_
      show wpAny (model prog w) A (oneLt' false _ _) _ _ s
      refine kat_one _ _ (lt_int ?_)
      show Q (decide (l < l')) s
      have : decide (l < l') = decide (t < t' \/ (t = t' /\ l < l')) := by
        by_cases z : l < l'
        · rw [decide_eq_true z, decide_eq_true (.inr ⟨ht, z⟩)]
        · rw [decide_eq_false z, decide_eq_false (by rintro (q | q); · omega
                                                     · exact z q.2)]
      rw [this]
      exact h
    · have ht' : (t == t') = false := by simpa using ht
      rw [ht']
      refine kat_no ?_
      show wpAny (model prog w) A (oneLt' true _ _) _ _ s
      refine oneLt_int ?_
      have : decide (t < t') = decide (t < t' \/ (t = t' /\ l < l')) := by
        by_cases z : t < t'
        · rw [decide_eq_true z, decide_eq_true (.inl z)]
        · rw [decide_eq_false z, decide_eq_false (by rintro (q | q); · exact z q
                                                     · exact ht q.1)]
      rw [this]
      exact h
theorem kind_two {vs : List Value} {Q : SortKind -> Shared -> Prop} (h : ∀ v ∈ vs, ∃ t l, TwoAt s.heap v t l) (hne : 0 < vs.length) (q : Q (tuples' true) s) : wpAny (model prog w) A (keyKind' vs.toArray) Q E s := by
 have mk : ∀ vs : List Value, (∀ v ∈ vs, ∃ t l, TwoAt s.heap v t l) -> ∃ fs : List Value, KatTups s.heap vs fs /\ fs.length = vs.length /\ ∀ f ∈ fs, ∃ t t1, f = .int t t1 := by
  intro vs
  induction vs with
  | nil => exact fun _ => ⟨[], KatTups.nil, rfl, fun f hf => by simp at hf⟩
  | cons v vs ih =>
   intro h
   obtain ⟨fs, k1, k2, k3⟩ := ih fun x hx => h x (List.mem_cons_of_mem _ hx)
   obtain ⟨t, l, a, o, xs, n, t1, t2, rest, rfl, g, c, d, e⟩ := h v List.mem_cons_self
   refine ⟨.int t t1 :: fs, KatTups.cons g c d (by rw [← Array.getElem?_toList, e]; rfl) k1, by simp [k2], fun f hf => ?_⟩
   rcases List.mem_cons.mp hf with rfl | hf
   ·exact ⟨_, _, rfl⟩
   ·exact k3 f hf
 obtain ⟨fs, k1, k2, k3⟩ := mk vs h
 refine kat_kind (T := .type "int") k1 (by omega) (fun v hv => ?_) (by simp) q
 obtain ⟨t, t1, rfl⟩ := k3 v hv
 exact Looks.of_pure rfl
end
end GS
namespace L2
open PySem PySem.Spec PyProof.Rows
noncomputable def qz2 (p q : Int × Int) : Prop := p.1 < q.1 \/ (p.1 = q.1 /\ p.2 < q.2)
noncomputable def qb7 (K : PySem.W.Frag) : List V -> Hp -> VK -> Prop := fun xs H Q => ∃ (p : Addr) (vs : List V) (f : V -> Int × Int), xs = [.ref p] /\ SqL K H p vs /\
 (∀ v ∈ vs, ∃ a rest, v = .ref a /\ SqT K H a (.int (f v).1 :: .int (f v).2 :: rest)) /\ (vs.map f).Nodup /\ (∀ v ∈ vs, 0 <= (f v).2 /\ (f v).2 < 1000) /\
 ∀ q vs', H q = none -> vs'.Perm vs -> vs'.Pairwise (fun u v => qz2 (f u) (f v)) -> Q (.ref q) (upd H q (.lst vs'))
noncomputable def Bb : Value -> V
 | .ref a => .ref a
 | _ => .non
theorem Z7 : ∀ {vs : List V} {us : List Value}, Vals vs us -> (∀ v ∈ vs, ∃ a, v = V.ref a) -> us.map Bb = vs /\ ∀ u ∈ us, ∃ a, u = Value.ref a
 | _, _, .nil, _ => ⟨rfl, fun u hu => by simp at hu⟩
 | v :: vs, u :: us, .cons r t, h => by
  obtain ⟨a, rfl⟩ := h v List.mem_cons_self
  cases r
  obtain ⟨h1, h2⟩ := Z7 t fun x hx => h x (List.mem_cons_of_mem _ hx)
  refine ⟨by rw [List.map_cons, h1]; rfl, fun x hx => ?_⟩
  rcases List.mem_cons.mp hx with rfl | hx
  ·exact ⟨a, rfl⟩
  ·exact h2 x hx
theorem Nh : ∀ {us : List Value}, (∀ u ∈ us, ∃ a, u = Value.ref a) -> Vals (us.map Bb) us
 | [], _ => .nil
 | u :: us, h => by
  obtain ⟨a, rfl⟩ := h u List.mem_cons_self
  exact .cons rfl (Nh fun x hx => h x (List.mem_cons_of_mem _ hx))
theorem M9 {X : Cx} {K : PySem.W.Frag} (hK : X.K = K) : wu X (.builtin "sorted") (qb7 K) := by
 subst hK
 intro pins s σ H xs us Q I r h
 obtain ⟨p, vs, f, rfl, hp, hv, nd, bd, q⟩ := h
 obtain ⟨u, rfl, ru⟩ := vals1 r
 cases ru
 obtain ⟨its, rv, pl, hz⟩ := I.list hp
 obtain ⟨em, isr⟩ := Z7 rv fun v hv' => by obtain ⟨a, _, e, _⟩ := hv v hv'; exact ⟨a, e⟩
 have hlen := rv.length
 have two : ∀ x ∈ its, GS.TwoAt s.heap x (f (Bb x)).1 (f (Bb x)).2 /\ Bb x ∈ vs := fun x hx => by
  have mem : Bb x ∈ vs := by rw [← em]; exact List.mem_map.mpr ⟨x, hx, rfl⟩
  obtain ⟨a, rest, e, ht⟩ := hv _ mem
  obtain ⟨b, rfl⟩ := isr x hx
  have e : b = a := by have : V.ref b = V.ref a := e; injection this
  subst e
  obtain ⟨tt, r2, ⟨o, ho, hc, n, hd⟩, _⟩ := I.tuple ht
  cases r2 with
  | cons r2 t2 =>
   cases t2 with
   | cons r3 t3 =>
    obtain ⟨t1, rfl⟩ := r2
    obtain ⟨t2, rfl⟩ := r3
    exact ⟨⟨b, o, _, n, t1, t2, _, rfl, ho, hc, hd, rfl⟩, mem⟩
 let rk : Value -> Int := fun x => (f (Bb x)).1 * 1000 + (f (Bb x)).2
 have nd2 : vs.Nodup := by
  exact List.Pairwise.of_map (S := (· ≠ ·)) (R := (· ≠ ·)) f (fun a b h e => h (congrArg f e)) nd
 have finj : ∀ u ∈ vs, ∀ v ∈ vs, f u = f v -> u = v := fun u hu v hv' e => by
  obtain ⟨i, hi, ei⟩ := List.mem_iff_getElem.mp hu
  obtain ⟨j, hj, ej⟩ := List.mem_iff_getElem.mp hv'
  have : i = j := (List.getElem_inj (h₀ := by simpa using hi) (h₁ := by simpa using hj) nd).mp (by simp [ei, ej, e])
  subst this
  rw [← ei, ← ej]
 have refinj : ∀ x ∈ its, ∀ y ∈ its, Bb x = Bb y -> x = y := fun x hx y hy e => by
  obtain ⟨a, rfl⟩ := isr x hx
  obtain ⟨b, rfl⟩ := isr y hy
  have : V.ref a = V.ref b := e
  injection this with this
  rw [this]
 have dec : ∀ x ∈ its, ∀ y ∈ its, decide (rk x < rk y) = decide ((f (Bb x)).1 < (f (Bb y)).1 \/ ((f (Bb x)).1 = (f (Bb y)).1 /\ (f (Bb x)).2 < (f (Bb y)).2)) := fun x hx y hy => by
  have b1 := bd _ (two x hx).2
  have b2 := bd _ (two y hy).2
  have : (rk x < rk y) ↔ ((f (Bb x)).1 < (f (Bb y)).1 \/ ((f (Bb x)).1 = (f (Bb y)).1 /\ (f (Bb x)).2 < (f (Bb y)).2)) := by
   show (f (Bb x)).1 * 1000 + (f (Bb x)).2 < (f (Bb y)).1 * 1000 + (f (Bb y)).2 ↔ _
   omega
  exact decide_eq_decide.mpr this
 have ndr : (its.map rk).Nodup := by
  have e : (its.map rk) = vs.map fun v => (f v).1 * 1000 + (f v).2 := by rw [← em, List.map_map]; rfl
  rw [e]
  refine List.Pairwise.map _ (R := fun u v => u ∈ vs /\ v ∈ vs /\ u ≠ v) (fun u v z e => ?_) (nd2.imp_of_mem fun {u v} hu hv' z => ⟨hu, hv', z⟩)
  have b1 := bd u z.1
  have b2 := bd v z.2.1
  have e1 : (f u).1 = (f v).1 := by omega
  have e2 : (f u).2 = (f v).2 := by omega
  exact z.2.2 (finj u z.1 v z.2.1 (Prod.ext e1 e2))
 refine GS.sorted_any (kind := tuples' true) (rk := rk) pl.isList (by omega) (fun h2 A s' Q' k q' => ?_) (fun A s' k x y hx hy E' Q' q' => ?_) ndr fun out hp' ho => ?_
 ·exact GS.kind_two (fun v hv' => ⟨_, _, (two v hv').1.keep k⟩) (by omega) q'
 ·rw [dec x hx y hy] at q'
  exact GS.lt_two ((two x hx).1.keep k) ((two y hy).1.keep k) (fun e1 e2 => refinj x hx y hy (finj _ (two x hx).2 _ (two y hy).2 (Prod.ext e1 e2))) q'
 ·have iso : ∀ u ∈ out, ∃ a, u = Value.ref a := fun u hu => isr u (hp'.mem_iff.mp hu)
  obtain ⟨e, he⟩ := sortedAll_at s.heap its out.toArray
  have pv : (out.map Bb).Perm vs := by rw [← em]; exact hp'.map Bb
  refine ⟨.ref (s.heap.objs.size + 1), _, I.laid (a := s.heap.objs.size + 1) (o := .lst (out.map Bb)) (t' := s.toks) (fun b u e => sortedAll_old e) (Nat.le_succ _) ⟨?_, out, e, Nh iso, he⟩, rfl,
   q _ _ (I.hok.fresh (Nat.le_succ _)) pv ?_⟩
  ·have := pv.length_eq
   rw [this]; exact hz
  ·refine List.Pairwise.map _ (R := fun x y => x ∈ out /\ y ∈ out /\ rk x < rk y) (fun x y z => ?_) (ho.imp_of_mem fun {x y} hx hy z => ⟨hx, hy, z⟩)
   have d := dec x (hp'.mem_iff.mp z.1) y (hp'.mem_iff.mp z.2.1)
   rw [decide_eq_true z.2.2] at d
   have z' := of_decide_eq_true d.symm
   exact z'
noncomputable def Im (sep : Str) (ys : List Str) : Str := PySem.Txt.join sep ys
noncomputable def rJoin (K : PySem.W.Frag) : V -> List V -> Hp -> VK -> Prop := fun x vs H Q => ∃ (sep : Str) (p : Addr) (ys : List Str), x = .str sep /\ vs = [.ref p] /\ SqL K H p (ys.map V.str) /\ (ys.map (·.length)).sum + ys.length * sep.length <= 16777216 /\ Q (.str (Im sep ys)) H
theorem Jd : ∀ {ys : List Str} {us : List Value}, Vals (ys.map V.str) us -> StrsAre us ys
 | [], _, .nil => .nil
 | y :: ys, u :: us, .cons r t => by
  obtain ⟨t', rfl⟩ := r
  exact .cons y t' (Jd t)
theorem Av {X : Cx} {K : PySem.W.Frag} (hK : X.K = K) : MtM X "str.join" (rJoin K) := by
 subst hK
 intro pins s σ H x vs v us Q I rx rv h
 obtain ⟨sep, p, ys, rfl, rfl, hp, hok, q⟩ := h
 obtain ⟨t, rfl⟩ := rx
 obtain ⟨u, rfl, ru⟩ := rv.one
 cases ru
 obtain ⟨its, r, pl, hz⟩ := I.list hp
 exact join_list (ys := ys) pl.isList (by simpa using Jd r) hok fun t' k => ⟨.str (Im sep ys), H, I.tok k, ⟨t', rfl⟩, q⟩
noncomputable def Ite (K : PySem.W.Frag) (a : Addr) : It :=
 ⟨fun i H => ∃ xs x, SqL K H a xs /\ xs[i]? = some x, fun i H x H' => ∃ t y, H t = none /\ x = .ref t /\ H' = upd H t (.tup [.int (i : Int), y]) /\ ∀ xs, SqL K H a xs -> xs[i]? = some y, fun i H => ∃ xs, SqL K H a xs /\ xs.length <= i⟩
theorem Zi {P : Program} {w : World} {K : PySem.W.Frag} {es : List Expr} {k : Nat} {pos : Pos} (a e it : Addr) (hne : e ≠ it) :
    Turn P w K (.Tuple es k pos) (Ite K a) [e, it] e (fun i h => (∃ old, IsEnum h e it (i : Nat) old) /\ h.IsListIter it a i) where
  mem := by simp
  obj := fun i h st b hb => by
    obtain ⟨⟨old, he⟩, ⟨o, ho, c, d⟩⟩ := st
    rcases List.mem_cons.mp hb with rfl | hb
    · exact ⟨_, he, fun v z => by cases (show Data.fields _ = Data.cell v from z)⟩
    · have e : b = it := by simpa using hb
      subst e
      exact ⟨o, ho, fun v z => by rw [d] at z; cases z⟩
  keep := fun i h h' st k => by
    obtain ⟨⟨old, he⟩, hit⟩ := st
    exact ⟨⟨old, k e (by simp) _ he⟩, hit.at fun o q => k it (by simp) o q⟩
  item := by
    intro X hP hw hK hc i pins s σ H E I hf st hg
    subst hP hw hK
    obtain ⟨xs, x, hq, hx⟩ := hg
    obtain ⟨its, rv, p, hz⟩ := I.list hq
    obtain ⟨u, hu, ru⟩ := rv.get hx
    obtain ⟨⟨old, he⟩, hit⟩ := st
    obtain ⟨f0, f1, f2, f3, f4, f5⟩ := hf e (by simp)
    obtain ⟨g0, g1, g2, g3, g4, g5⟩ := hf it (by simp)
    have helt : e < s.heap.objs.size := Heap.lt_size he
    have hilt : it < s.heap.objs.size := by obtain ⟨_, q, _⟩ := hit; exact Heap.lt_size q
    refine wpAny_pyNext_enum_item he hit p.isList (x := u) (by simpa using hu) hne fun h1 ho1 hit1 ht1 hsz1 hk1 => ?_
    refine ⟨_, rfl, wpAny_letOwnedTupleGo_enum ho1 fun h2 he2 sb2 => ?_⟩
    have k2 : ∀ b o, b ≠ e -> b ≠ it -> s.heap.get? b = some o -> h2.get? b = some o := fun b o hb hb' q => (sb2.2 b hb).trans (hk1 b o hb hb' q)
    have fr : H s.heap.objs.size = none := I.hok.fresh (Nat.le_refl _)
    have tr : ∀ b o, H b = some o -> b ≠ e /\ b ≠ it /\ b ≠ s.heap.objs.size := fun b o q => ⟨fun z => (by rw [z, f0] at q; cases q), fun z => (by rw [z, g0] at q; cases q), fun z => (by rw [z, fr] at q; cases q)⟩
    have nch : ∀ b, b ∉ [e, it] -> b ≠ e /\ b ≠ it := fun b hb => ⟨fun z => hb (by simp [z]), fun z => hb (by simp [z])⟩
    have tup2 : IsTup h2 s.heap.objs.size [.int i s.toks, u].toArray := ⟨_, (sb2.2 _ (Nat.ne_of_gt helt)).trans ht1, rfl, _, rfl⟩
    have I2 : Inv X pins σ (upd H s.heap.objs.size (.tup [.int (i : Int), x])) { s with heap := h2, toks := s.toks + 1 } := by
      refine I.step (g' := s.gens) (d' := s.drawn) (ch := [e, it]) (fun b hb => ?_) (fun b o _ _ hb q _ => k2 b o (nch b hb).1 (nch b hb).2 q) (fun b o _ _ hb q _ => ⟨o.slots, k2 b o (nch b hb).1 (nch b hb).2 q⟩)
        (fun b o hb q n => ?_) (fun b o hb q => ⟨o, k2 b o (nch b hb).1 (nch b hb).2 q⟩) (fun b ys q => ?_) (fun b o u q => ?_) (fun b ps q => ⟨#[], ?_⟩) (fun m hm => ?_) (fun b o q => ?_) I.bare
      · rcases List.mem_cons.mp hb with rfl | hb
        · exact ⟨f3, f1, f4, f5⟩
        · have e : b = it := by simpa using hb
          subst e
          exact ⟨g3, g1, g4, g5⟩
      · rw [qt (Nat.ne_of_lt (Heap.lt_size q))]; exact n
      · rw [qt (tr b _ q).2.2]; exact q
      · rw [qt (tr b _ q).2.2]; exact q
      · rw [qt (tr b _ q).2.2, q]; simp
      · obtain ⟨o, es', ep, ho, r⟩ := hm
        exact ⟨o, es', ep, k2 _ o (Ne.symm f1) (Ne.symm g1) ho, r⟩
      · by_cases hb : b = s.heap.objs.size
        · subst hb
          rw [qd] at q
          cases q
          exact ⟨by show 2 <= sizeLine; decide, [.int i s.toks, u], .cons ⟨_, rfl⟩ (.cons ru .nil), tup2⟩
        · rw [qt hb] at q
          refine (I.hok b o q).stay (fun c v hc' z => ?_) (fun c z => ?_) fun c ys z => ?_
          · have : c ≠ e /\ c ≠ it := by
              rcases hc' with rfl | hc'
              · exact ⟨(tr _ _ q).1, (tr _ _ q).2.1⟩
              · exact ⟨(tr _ _ hc').1, (tr _ _ hc').2.1⟩
            exact k2 c v this.1 this.2 z
          · rw [qt (tr c _ z).2.2]; exact z
          · rw [qt (tr c _ z).2.2]; exact z
    refine ⟨.ref s.heap.objs.size, _, I2, rfl, ⟨_, x, fr, rfl, rfl, fun ys hy => by rw [I.list_inj hy hq]; exact hx⟩, ⟨⟨_, by simpa using he2⟩, hit1.at fun o q => (sb2.2 it (Ne.symm hne)).trans q⟩, fun b hb => ?_⟩
    rcases List.mem_cons.mp hb with rfl | hb
    · rw [qt (Nat.ne_of_lt helt)]; exact f0
    · have e : b = it := by simpa using hb
      subst e
      rw [qt (Nat.ne_of_lt hilt)]; exact g0
  done := by
    intro X hP hw hK hc i pins s σ H E I hf st hg
    subst hP hw hK
    obtain ⟨xs, hq, hx⟩ := hg
    obtain ⟨its, rv, p, hz⟩ := I.list hq
    obtain ⟨⟨old, he⟩, hit⟩ := st
    obtain ⟨g0, g1, g2, g3, g4, g5⟩ := hf it (by simp)
    have hl := rv.length
    exact wpAny_pyNext_enum_end (I.ok.hd hc) he hit p.isList (by simp; omega) fun h' eb => ⟨rfl, I.turned (t' := s.toks) (fun b o hb q => eb b o hb q) g0 g1 g3 g4 g5⟩
  self := fun _ _ _ _ _ st h => by
    obtain ⟨⟨old, he⟩, _⟩ := st
    exact wpAny_pyIter_enum he h
noncomputable def qx3 (K : PySem.W.Frag) (ta : TA) : TI := fun σ H R => ta σ H fun vs H1 => ∃ a, vs = [.ref a] /\ (∃ xs, SqL K H1 a xs) /\ R (Ite K a) H1
theorem qp5 {X : Cx} {K : PySem.W.Frag} {es : List Expr} {k : Nat} {tpos : Pos} {a : Expr} {ta : TA} {p pos : Pos} (hK : X.K = K) (hg : Gl X "enumerate") (hm : X.mg "enumerate" = none) (ha : PA X [a] ta) (hs : starEach [a] X.env = [(false, eval a X.env)] := by rfl) :
  PI X (.Tuple es k tpos) (.Call (.Name "enumerate" p) [a] [] pos) (qx3 K ta) := by
 subst hK
 intro pins s σ H R I h
 refine Call_ (Jo I hg hm boot_enumerate (PyProof.Rows.callWith_type1 (thn (ha pos pins s σ H _ I h) fun us s1 ⟨vs, H1, I1, r1, q1⟩ => ?_) hs rfl))
 obtain ⟨b, e, ⟨xs, hq⟩, q⟩ := q1
 subst e
 cases r1 with
 | cons r rr =>
  cases rr
  cases r
  obtain ⟨its, rv, pl, hz⟩ := I1.list hq
  refine call_enumerate_list pl.isList fun h' he hit hsz hk => ?_
  have I2 : Inv X pins σ H1 { s1 with heap := h' } := I1.kept (t' := s1.toks) hk
  refine wpAny_pyIter_enum he ?_
  refine ⟨s1.heap.objs.size + 1, [s1.heap.objs.size + 1, s1.heap.objs.size], _, _, H1, rfl, I2, Zi b _ _ (Nat.succ_ne_self _), ⟨⟨_, he⟩, hit⟩, fun c hc => ?_, q⟩
  have hc' : s1.heap.objs.size <= c := by
   rcases List.mem_cons.mp hc with hc | hc
   ·rw [hc]; exact Nat.le_succ _
   ·have : c = s1.heap.objs.size := by simpa using hc
    rw [this]; exact Nat.le_refl _
  exact I1.fpOk hc' (I1.hok.fresh hc')
theorem qg7 {K : PySem.W.Frag} {a : Addr} {xs : List V} {g : TG} {tb : TS} {D : Ends} {σ : St} {H : Hp} (Pv : Nat -> St -> Hp -> Prop) (h0 : Pv 0 σ H) (hl : ∀ i σ H, i <= xs.length -> Pv i σ H -> SqL K H a xs)
  (hs : ∀ i x σ H t, xs[i]? = some x -> Pv i σ H -> H t = none -> g (.ref t) σ (upd H t (.tup [.int (i : Int), x])) fun σ2 H2 => tb { D with nx := Pv (i + 1), ct := Pv (i + 1), bk := D.nx } σ2 H2) (hd : ∀ σ H, Pv xs.length σ H -> D.nx σ H) :
  ∃ W : Nat -> Nat -> St -> Hp -> Prop, (∃ m, W 0 m σ H) /\ ∀ i m σ H, W i m σ H ->
   ((Ite K a).stop i H /\ D.nx σ H) \/ ((Ite K a).go i H /\ ∃ N : St -> Hp -> Prop, (∀ σ' H', N σ' H' -> ∃ m', m' < m /\ W (i + 1) m' σ' H') /\ ∀ x H', (Ite K a).yld i H x H' -> g x σ H' fun σ2 H2 => tb { D with nx := N, ct := N, bk := D.nx } σ2 H2) := by
 refine ⟨fun i m σ H => m = xs.length - i /\ i <= xs.length /\ Pv i σ H, ⟨xs.length, by simp, Nat.zero_le _, h0⟩, ?_⟩
 rintro i m σ H ⟨rfl, hi, p⟩
 have q := hl i σ H hi p
 by_cases hlt : i < xs.length
 ·refine .inr ⟨⟨xs, xs[i], q, by simp [hlt]⟩, Pv (i + 1), fun σ' H' p' => ⟨xs.length - (i + 1), by omega, rfl, hlt, p'⟩, fun x H' y => ?_⟩
  obtain ⟨t, z, ht, e1, e2, y⟩ := y
  subst e1 e2
  exact hs i z σ H t (y xs q) p ht
 ·have e : i = xs.length := by omega
  subst e
  exact .inl ⟨⟨xs, q, Nat.le_refl _⟩, hd σ H p⟩
end L2
namespace L2
open PySem PySem.Spec PyProof.Rows PySem.W
open Sem (wp)
section
variable {prog : Program} {w : World} {A : Around} {E : Value -> Shared -> Prop} {hp : Heap} {g : Array GenState} {d : Drawn} {tk : Nat} {os : OsState} {a : Addr} {dd : Option Addr} {sl : Array (Option Value)} {its : Array Value} {n : Nat} {k : Int} {t : Tok}
end
end L2
namespace L2
open PySem PySem.Spec PyProof.Rows PySem.W
open Sem (wp)
end L2
namespace L2
open PySem PySem.Spec PyProof.Rows PySem.W
open Sem (wp)
end L2
namespace L2
open PySem PySem.Spec PyProof.Rows
end L2
namespace L2
open PySem PySem.Spec PyProof.Rows
section
variable {prog : Program} {w : World} {A : Around} {E : Value -> Shared -> Prop} {s : Shared}
end
section
variable {prog : Program} {w : World} {A : Around} {R : Result -> Shared -> Prop}
end
end L2
namespace L2
open PySem PySem.Spec PyProof.Rows
theorem M5 : ∀ {bs : List Bool} {us : List Value}, Vals (bs.map V.bl) us -> LSm.BoolsAre us bs
 | [], _, .nil => .nil
 | b :: bs, _, .cons r t => by cases r; exact .cons b (M5 t)
noncomputable def zb8 (K : PySem.W.Frag) : List V -> Hp -> VK -> Prop := fun xs H Q => ∃ (a : Addr) (bs : List Bool), xs = [.ref a] /\ SqL K H a (bs.map V.bl) /\ Q (.bl (bs.all id)) H
theorem Gg {X : Cx} {K : PySem.W.Frag} (hK : X.K = K) (hc : X.calm = true) : wu X (.builtin "all") (zb8 K) := by
 subst hK
 intro pins s σ H xs us Q I rv h
 obtain ⟨l, bs, rfl, hl, q⟩ := h
 obtain ⟨u, rfl, ru⟩ := vals1 rv
 cases ru
 obtain ⟨vs, r2, pl, hz⟩ := I.list hl
 have hb := M5 r2
 have hL := pl.isList
 have hlt : l < s.heap.objs.size := by obtain ⟨_, e, _⟩ := hL; exact Heap.lt_size e
 refine call_all_walk (wpAny_pyIter_list hL ?_)
 refine ⟨s.heap.objs.size, [s.heap.objs.size, l], [s.heap.objs.size], vs.toArray.size, _, _, fun i => (bs[i]?).getD true, rfl, Walks.list (A := X.A.in1) (I.ok.hd hc) _ l (Nat.ne_of_lt hlt) vs.toArray,
  ⟨⟨_, Heap.get?_push_size _ rfl, rfl, rfl⟩, hL.push _⟩, fun i v s' Q' E' hP hQ => ?_, fun h' tk hk => ?_⟩
 ·obtain ⟨b, e, rfl⟩ := hb.get i v (by simpa using hP)
  simp only [e, Option.getD_some] at hQ
  exact wpAny_truthy_bool hQ
 ·have e : ((List.range vs.toArray.size).all fun i => (bs[i]?).getD true) = bs.all id := by
   rw [List.size_toArray, hb.length]; exact LSm.range_all bs
  rw [e]
  exact ⟨.bl _, _, I.kept (t' := tk) (LSm.kept_iter hk), rfl, q⟩
end L2
namespace L2
open PySem PySem.Spec PyProof.Rows
end L2
namespace L2
open PySem PySem.Spec PyProof.Rows
section
variable {prog : Program} {w : World} {A : Around} {s : Shared} {R : Result -> Shared -> Prop}
end
end L2
namespace SZ
end SZ
namespace L2
open PySem PySem.Spec PyProof.Rows
end L2
namespace L2
open PySem PySem.Spec PyProof.Rows
section
variable {prog : Program} {w : World} {A : Around} {R : Result -> Shared -> Prop} {I : Addr} {fp wr : List Addr} {n : Nat} {P : Nat -> Value -> Prop} {St : Nat -> Heap -> Prop}
end
section
variable {prog : Program} {w : World} {A : Around} {E : Value -> Shared -> Prop} {s : Shared} {l : Addr} {xs : Array (Int × Tok)}
end
end L2
namespace L2
open PySem PySem.Spec PyProof.Rows
noncomputable def qi7 : V -> List V -> Hp -> VK -> Prop := fun x vs H Q => ∃ (z sep : Str), x = .str z /\ vs = [.str sep] /\ (sep.length == 0) = false /\ z.length <= sizeLine /\ (Txt.split z sep).length <= sizeLine /\
 (Builtin.Str.partsBetween z (Builtin.Str.occurrences z sep 0 z.length (z.length + 1)) sep.length).length <= sizeLine /\ ∀ l, H l = none -> Q (.ref l) (upd H l (.lst ((Txt.split z sep).map V.str)))
theorem Og : ∀ (l : List (Str × Tok)), Vals ((l.map (·.1)).map V.str) (strValues l)
 | [] => .nil
 | (x, t) :: l => .cons ⟨t, rfl⟩ (Og l)
theorem Bm {X : Cx} : MtM X "str.split" qi7 := by
 intro pins s σ H x vs v us Q I rx rv h
 obtain ⟨z, sep, rfl, rfl, hy, hx, hn, hp, q⟩ := h
 obtain ⟨t, rfl⟩ := rx
 obtain ⟨u, rfl, ru⟩ := rv.one
 obtain ⟨tu, rfl⟩ := ru
 have fin : ∀ (l : List (Str × Tok)) (tk : Nat), l.map (·.1) = Txt.split z sep -> EP X pins σ Q (.ref s.heap.objs.size) { s with toks := tk, heap := s.heap.push { cls := .type "list", data := .seq (strValues l).toArray } } := fun l tk e => by
  refine ⟨.ref _, _, I.laid (t' := tk) (o := .lst ((Txt.split z sep).map V.str)) (fun b o e => Heap.get?_push_of_some _ e) (Nat.le_refl _) ⟨?_, strValues l, 0, ?_, Heap.get?_push_size _ rfl⟩, rfl, q _ (I.hok.fresh (Nat.le_refl _))⟩
  ·rw [List.length_map]; exact hn
  ·rw [← e]; exact Og l
 cases h1 : (decide (z.length < sep.length) || decide (Builtin.Str.strKind z < Builtin.Str.strKind sep)) with
 | true => exact call_meets PySem.F.slot_str_split (typeIs_str _ _ _) PySem.F.entry_str_split (PySem.F.args_str_split_2 _ _) (meets_str_split_cannot_occur z sep t tu h1) (fin [(z, t)] _ (if_pos h1).symm)
 | false =>
  cases hf : (Builtin.Str.occurrences z sep 0 z.length (z.length + 1)).isEmpty with
  | true => exact call_meets PySem.F.slot_str_split (typeIs_str _ _ _) PySem.F.entry_str_split (PySem.F.args_str_split_2 _ _) (meets_str_split_not_found z sep t tu h1 hy hf) (fin [(z, t)] _ ((if_neg (ne_true_of_eq_false h1)).trans (if_pos hf)).symm)
  | false =>
   refine call_meets PySem.F.slot_str_split (typeIs_str _ _ _) PySem.F.entry_str_split (PySem.F.args_str_split_2 _ _) (meets_str_split_sep z sep t tu h1 hy hf hx hp) ?_
   show EP X pins σ Q _ { s with toks := _, heap := s.heap.push { cls := .type "list", data := .seq (strsFrom s.toks (Builtin.Str.partsBetween z (Builtin.Str.occurrences z sep 0 z.length (z.length + 1)) sep.length)).toArray } }
   rw [strsFrom_eq]
   exact fin (numbered s.toks _) _ ((numbered_texts _ _).trans ((if_neg (ne_true_of_eq_false h1)).trans (if_neg (ne_true_of_eq_false hf))).symm)
end L2
namespace GT
open PySem L2 PySem.StrLaws
noncomputable def M6 (c : Nat) : List Nat -> Nat -> List Nat
 | [], _ => []
 | a :: l, k => if a = c then k :: M6 c l (k + 1) else M6 c l (k + 1)
noncomputable def j4 (c : Nat) : List Nat -> List (List Nat)
 | [] => [[]]
 | a :: l => if a = c then [] :: j4 c l else match j4 c l with
  | [] => [[a]]
  | h :: t => (a :: h) :: t
noncomputable def pieces (x : List Nat) : Nat -> List Nat -> List (List Nat)
 | s, [] => [x.drop s]
 | s, k :: r => ((x.take k).drop s) :: pieces x (k + 1) r
theorem vz (c : Nat) : ∀ l, ∃ h t, j4 c l = h :: t
 | [] => ⟨_, _, rfl⟩
 | a :: l => by
  obtain ⟨h, t, e⟩ := vz c l
  unfold j4
  by_cases z : a = c
  ·rw [if_pos z]; exact ⟨_, _, rfl⟩
  ·rw [if_neg z, e]; exact ⟨_, _, rfl⟩
theorem uz (c : Nat) (x : List Nat) : ∀ (l pre mid h : List Nat) (t : List (List Nat)), x = pre ++ mid ++ l -> j4 c l = h :: t -> pieces x pre.length (M6 c l (pre.length + mid.length)) = (mid ++ h) :: t
 | [], pre, mid, h, t, e, es => by
  have es : [[]] = h :: t := es
  injection es with e1 e2
  subst e1 e2
  show [x.drop pre.length] = [mid ++ []]
  rw [e, List.append_nil, List.append_nil, List.drop_left]
 | a :: l, pre, mid, h, t, e, es => by
  unfold M6
  unfold j4 at es
  obtain ⟨h2, t2, e2⟩ := vz c l
  by_cases z : a = c
  ·rw [if_pos z] at es ⊢
   injection es with e1 e3
   subst e1
   show ((x.take (pre.length + mid.length)).drop pre.length) :: pieces x (pre.length + mid.length + 1) _ = _
   have ih := uz c x l (pre ++ mid ++ [a]) [] h2 t2 (by rw [e]; simp) e2
   rw [List.length_append, List.length_append, List.length_singleton, List.length_nil, Nat.add_zero] at ih
   rw [ih, ← e3, e2, List.nil_append, List.append_nil]
   congr 1
   rw [e, List.take_append_of_le_length (by rw [List.length_append]; omega), List.take_of_length_le (by rw [List.length_append]; omega), List.drop_left]
  ·rw [if_neg z] at es ⊢
   rw [e2] at es
   injection es with e1 e3
   have ih := uz c x l pre (mid ++ [a]) h2 t2 (by rw [e]; simp) e2
   rw [List.length_append, List.length_singleton, ← Nat.add_assoc] at ih
   rw [ih, ← e1, e3, List.append_assoc]
   rfl
theorem Jy (x : Str) (c : Nat) : ∀ (l : List Nat) (a : Nat) (st : Array Nat × Nat), x.cps.toList.drop a = l -> st.snd <= a -> st.fst.size <= a ->
  (forIn (List.range' a (l.length + 1)) st (occBody x ⟨#[c]⟩ x.length (x.length + 1))).run.fst.toList = st.fst.toList ++ M6 c l a
 | [], a, st, e, h1, h2 => by
  have hn : ¬ (x.cps.toList[a]? = some c) := fun z => by
   have := (List.getElem?_eq_some_iff.mp z).1
   have := congrArg List.length e
   rw [List.length_drop, List.length_nil] at this
   omega
  rw [List.length_nil, List.range'_succ, List.forIn_cons]
  unfold occBody
  rw [if_neg (fun z => hn ((subAt_one x c a).mp ⟨z.1.2, z.2⟩))]
  show st.fst.toList = st.fst.toList ++ []
  rw [List.append_nil]
 | b :: l, a, st, e, h1, h2 => by
  have hl : a < x.cps.toList.length := by
   have := congrArg List.length e
   rw [List.length_drop, List.length_cons] at this
   omega
  have hb : x.cps.toList[a]? = some b := by
   have : (x.cps.toList.drop a)[0]? = some b := by rw [e]; rfl
   rwa [List.getElem?_drop, Nat.add_zero] at this
  have ed : x.cps.toList.drop (a + 1) = l := by
   have := congrArg (List.drop 1) e
   rw [List.drop_drop] at this
   exact this
  have xl : x.length = x.cps.toList.length := by simp [Str.length]
  rw [List.length_cons, List.range'_succ, List.forIn_cons]
  unfold occBody M6
  by_cases z : b = c
  ·have hs := (subAt_one x c a).mpr (by rw [hb, z])
   rw [if_pos ⟨⟨⟨by omega, h1⟩, hs.1⟩, hs.2⟩, if_pos z]
   have ih := Jy x c l (a + 1) (st.fst.push a, a + (⟨#[c]⟩ : Str).length) ed (Nat.le_refl _) (by show (st.fst.push a).size <= a + 1; rw [Array.size_push]; omega)
   refine Eq.trans ih ?_
   rw [Array.toList_push, List.append_assoc]
   rfl
  ·rw [if_neg (fun q => z (by have := (subAt_one x c a).mp ⟨q.1.2, q.2⟩; rw [hb] at this; exact Option.some.inj this)), if_neg z]
   exact Jy x c l (a + 1) (st.fst, st.snd) ed (by show st.snd <= a + 1; omega) (by show st.fst.size <= a + 1; omega)
theorem Xm (x : Str) (c : Nat) : Builtin.Str.occurrences x ⟨#[c]⟩ 0 x.length (x.length + 1) = M6 c x.cps.toList 0 := by
 have xl : x.length = x.cps.toList.length := by simp [Str.length]
 rw [occ_eq]
 have := Jy x c x.cps.toList 0 (#[], 0) rfl (Nat.le_refl _) (Nat.le_refl _)
 rw [← xl] at this
 exact this
theorem Dn (x : Str) : ∀ (cuts : List Nat) (s : Nat), (∀ k ∈ cuts, k <= x.length) -> (((s :: cuts.map (· + 1)).zip (cuts ++ [x.length])).map fun (i, j) => (Builtin.Str.strSub x i j).cps.toList) = pieces x.cps.toList s cuts
 | [], s, _ => by
  show [((x.cps.extract s x.length).toList)] = [x.cps.toList.drop s]
  rw [Array.toList_extract]
  simp [List.extract, Str.length]
  rw [List.take_of_length_le (by rw [List.length_drop]; simp)]
 | k :: r, s, h => by
  show (x.cps.extract s k).toList :: _ = ((x.cps.toList.take k).drop s) :: _
  rw [Array.toList_extract]
  congr 1
  ·simp only [List.extract]
   rw [List.drop_take]
  ·exact Dn x r (k + 1) fun y hy => h y (List.mem_cons_of_mem _ hy)
end GT
namespace GT
open PySem L2 PySem.StrLaws
theorem Tu (c : Nat) : ∀ (l : List Nat) (k y : Nat), y ∈ M6 c l k -> k <= y /\ y < k + l.length
 | [], k, y, h => by simp [M6] at h
 | a :: l, k, y, h => by
  unfold M6 at h
  rw [List.length_cons]
  by_cases z : a = c
  ·rw [if_pos z] at h
   rcases List.mem_cons.mp h with rfl | h
   ·omega
   ·have := Tu c l (k + 1) y h; omega
  ·rw [if_neg z] at h
   have := Tu c l (k + 1) y h
   omega
theorem Wi {c : Nat} : ∀ {l : List Nat} {k : Nat}, M6 c l k = [] -> j4 c l = [l]
 | [], _, _ => rfl
 | a :: l, k, h => by
  unfold M6 at h
  by_cases z : a = c
  ·rw [if_pos z] at h; cases h
  ·rw [if_neg z] at h
   unfold j4
   rw [if_neg z, Wi h]
theorem qe0 (x : Str) : 1 <= Builtin.Str.strKind x := by
 unfold Builtin.Str.strKind
 split
 ·omega
 ·split <;> omega
theorem Bo (x : Str) {c : Nat} (hc : c < 256) : (Txt.split x ⟨#[c]⟩).map (fun y => y.cps.toList) = j4 c x.cps.toList := by
 have xl : x.length = x.cps.toList.length := by simp [Str.length]
 have k1 : Builtin.Str.strKind ⟨#[c]⟩ = 1 := by
  unfold Builtin.Str.strKind
  rw [if_pos (by simp [hc])]
 unfold Txt.split
 by_cases h1 : (decide (x.length < (⟨#[c]⟩ : Str).length) || decide (Builtin.Str.strKind x < Builtin.Str.strKind ⟨#[c]⟩)) = true
 ·rw [if_pos h1]
  have : x.length < 1 := by
   rcases Bool.or_eq_true _ _ ▸ h1 with z | z
   ·exact of_decide_eq_true z
   ·have := of_decide_eq_true z
    rw [k1] at this
    have := qe0 x
    omega
  have e : x.cps.toList = [] := List.eq_nil_of_length_eq_zero (by omega)
  show [x.cps.toList] = _
  rw [e]
  rfl
 ·rw [if_neg h1, Xm]
  by_cases h2 : (M6 c x.cps.toList 0).isEmpty = true
  ·rw [if_pos h2]
   show [x.cps.toList] = _
   rw [Wi (List.isEmpty_iff.mp h2)]
  ·rw [if_neg h2]
   obtain ⟨h, t, e⟩ := vz c x.cps.toList
   have p := uz c x.cps.toList x.cps.toList [] [] h t rfl e
   rw [e, ← List.nil_append h, ← p]
   have q := Dn x (M6 c x.cps.toList 0) 0 fun y hy => by have := Tu c _ _ y hy; omega
   show _ = pieces x.cps.toList 0 (M6 c x.cps.toList 0)
   rw [← q]
   unfold Builtin.Str.partsBetween
   rw [List.map_map]
   rfl
theorem Ay {c : Nat} : ∀ {w : List Nat} {l : List Nat} {h : List Nat} {t : List (List Nat)}, c ∉ w -> j4 c l = h :: t -> j4 c (w ++ l) = (w ++ h) :: t
 | [], l, h, t, _, e => e
 | a :: w, l, h, t, n, e => by
  have ih := Ay (w := w) (fun z => n (List.mem_cons_of_mem _ z)) e
  rw [List.cons_append]
  unfold j4
  rw [if_neg (fun z => n (by rw [z]; exact List.mem_cons_self)), ih]
  rfl
noncomputable def vh (c : Nat) : List (List Nat) -> List Nat
 | [] => []
 | [w] => w
 | w :: v :: r => w ++ c :: vh c (v :: r)
theorem Dm {c : Nat} : ∀ {ws : List (List Nat)}, ws ≠ [] -> (∀ w ∈ ws, c ∉ w) -> j4 c (vh c ws) = ws
 | [], h, _ => absurd rfl h
 | [w], _, n => by
  have := Ay (l := []) (h := []) (t := []) (n w List.mem_cons_self) rfl
  rw [List.append_nil] at this
  exact this
 | w :: v :: r, _, n => by
  have ih := Dm (ws := v :: r) (by simp) fun y hy => n y (List.mem_cons_of_mem _ hy)
  have e : j4 c (c :: vh c (v :: r)) = [] :: v :: r := by
   show (if c = c then _ else _) = _
   rw [if_pos rfl, ih]
  have := Ay (n w List.mem_cons_self) e
  rw [List.append_nil] at this
  exact this
theorem Gp (c : Nat) : ∀ (r : List Str) (w : List Nat) (acc : Array Nat), acc.toList = w -> (r.foldl (fun acc p => acc ++ (#[c] : Array Nat) ++ p.cps) acc).toList = w ++ (r.map fun p => c :: p.cps.toList).flatten
 | [], w, acc, e => by simp [e]
 | p :: r, w, acc, e => by
  rw [List.foldl_cons, Gp c r (w ++ c :: p.cps.toList) _ (by simp [e])]
  simp
theorem Jl (c : Nat) : ∀ (w : List Nat) (r : List (List Nat)), vh c (w :: r) = w ++ (r.map fun p => c :: p).flatten
 | w, [] => by simp [vh]
 | w, v :: r => by
  show w ++ c :: vh c (v :: r) = _
  rw [Jl c v r]
  simp
theorem wz (c : Nat) (ws : List Str) : (Im ⟨#[c]⟩ ws).cps.toList = vh c (ws.map fun w => w.cps.toList) := by
 cases ws with
 | nil => rfl
 | cons w r =>
  show ((r.foldl (fun acc p => acc ++ (#[c] : Array Nat) ++ p.cps) w.cps).toList) = _
  rw [Gp c r _ _ rfl, List.map_cons, Jl, List.map_map]
  rfl
theorem G7 {x y : Str} (h : x.cps.toList = y.cps.toList) : x = y := by
 cases x
 cases y
 congr 1
 exact Array.toList_inj.mp h
theorem Jj {c : Nat} (hc : c < 256) {ws : List Str} (ne : ws ≠ []) (h : ∀ w ∈ ws, c ∉ w.cps.toList) : Txt.split (Im ⟨#[c]⟩ ws) ⟨#[c]⟩ = ws := by
 have e := Bo (Im ⟨#[c]⟩ ws) hc
 rw [wz, Dm (by simpa using ne) (fun w hw => by obtain ⟨v, hv, rfl⟩ := List.mem_map.mp hw; exact h v hv)] at e
 have inj : ∀ {a b : List Str}, a.map (fun y => y.cps.toList) = b.map (fun y => y.cps.toList) -> a = b := by
  intro a
  induction a with
  | nil => intro b z; cases b with
   | nil => rfl
   | cons _ _ => cases z
  | cons p a ih => intro b z; cases b with
   | nil => cases z
   | cons q b =>
    injection z with z1 z2
    rw [G7 z1, ih z2]
 exact inj e
end GT
namespace GT
open PySem L2
noncomputable def sp1 : Str := ⟨#[32]⟩
noncomputable def qm6 (g : List Str) : Str := Im sp1 g
theorem qo1 (g : List Str) : (qm6 g).length = (g.map (·.length)).sum + (g.length - 1) := by
 have := size_glued sp1 g
 have e : sp1.length = 1 := rfl
 rw [e, Nat.mul_one] at this
 exact this
end GT
namespace GT
open PySem L2
structure Cell where
  top : Nat
  left : Nat
  h : Nat
  w : Nat
  words : List Str
noncomputable def signs : Str := "abcdefghijklmnopqrstuvwxyz0123456789"
structure WordOk (x : Str) : Prop where
  lo : 1 <= x.length
  hi : x.length <= 12
  all : ∀ c ∈ x.cps.toList, c ∈ signs.cps.toList
structure WordsOk (ws : List Str) : Prop where
  few : ws.length <= 12
  each : ∀ x ∈ ws, WordOk x
noncomputable def Us (ws : List Str) : Dd := .tup (ws.map Dd.str)
noncomputable def Cell.D (x : Cell) : Dd := .tup [.int x.top, .int x.left, .int x.h, .int x.w, Us x.words]
noncomputable def Mr (R C : Nat) (cs : List Cell) : Dd := .tup [.int R, .int C, .lst (cs.map Cell.D)]
noncomputable def inC (x : Cell) (r c : Nat) : Prop := x.top <= r /\ r < x.top + x.h /\ x.left <= c /\ c < x.left + x.w
structure Fit (R C : Nat) (x : Cell) : Prop where
  h1 : 1 <= x.h
  w1 : 1 <= x.w
  down : x.top + x.h <= R
  across : x.left + x.w <= C
  words : WordsOk x.words
noncomputable def Apart (x y : Cell) : Prop := ∀ r c, inC x r c -> ¬ inC y r c
theorem Apart.symm {x y : Cell} (h : Apart x y) : Apart y x := fun r c a b => h r c b a
noncomputable def cov (cs : List Cell) (r c : Nat) : Prop := ∃ x ∈ cs, inC x r c
noncomputable def xr (x y : Cell) : Prop := x.top < y.top \/ (x.top = y.top /\ x.left < y.left)
structure Part (R C : Nat) (cs : List Cell) : Prop where
  fit : ∀ x ∈ cs, Fit R C x
  dis : cs.Pairwise Apart
structure Tiles (R C : Nat) (cs : List Cell) : Prop extends Part R C cs where
  all : ∀ r c, r < R -> c < C -> cov cs r c
  ord : cs.Pairwise xr
theorem Part.nil (R C : Nat) : Part R C [] := ⟨fun _ hx => by simp at hx, .nil⟩
theorem Part.snoc {R C : Nat} {cs : List Cell} {x : Cell} (p : Part R C cs) (f : Fit R C x) (d : ∀ r c, inC x r c -> ¬ cov cs r c) : Part R C (cs ++ [x]) where
  fit := fun y hy => (List.mem_append.mp hy).elim (p.fit y) fun z => by
    have : y = x := by simpa using z
    rw [this]; exact f
  dis := List.pairwise_append.mpr ⟨p.dis, List.pairwise_singleton _ _, fun y hy z hz r c h1 h2 => by
    have : z = x := by simpa using hz
    rw [this] at h2
    exact d r c h2 ⟨y, hy, h1⟩⟩
theorem Dv {cs : List Cell} {x : Cell} {r c : Nat} : cov (cs ++ [x]) r c ↔ cov cs r c \/ inC x r c := by
 constructor
 ·rintro ⟨y, hy, h⟩
  rcases List.mem_append.mp hy with hy | hy
  ·exact .inl ⟨y, hy, h⟩
  ·have : y = x := by simpa using hy
   rw [this] at h; exact .inr h
 ·rintro (⟨y, hy, h⟩ | h)
  ·exact ⟨y, List.mem_append_left _ hy, h⟩
  ·exact ⟨x, List.mem_append_right _ (by simp), h⟩
theorem qh0 {cs cs' : List Cell} (p : cs'.Perm cs) {r c : Nat} (h : cov cs r c) : cov cs' r c := by
 obtain ⟨x, hx, i⟩ := h
 exact ⟨x, p.mem_iff.mpr hx, i⟩
theorem Part.perm {R C : Nat} {cs cs' : List Cell} (p : Part R C cs) (q : cs'.Perm cs) : Part R C cs' where
  fit := fun x hx => p.fit x (q.mem_iff.mp hx)
  dis := (q.pairwise_iff fun {x y} h => Apart.symm h).mpr p.dis
noncomputable def key (x : Cell) : Int × Int := ((x.top : Int), (x.left : Int))
theorem Part.keys {R C : Nat} {cs : List Cell} (p : Part R C cs) : (cs.map key).Nodup := by
 refine List.Pairwise.map _ (R := fun x y => Fit R C x /\ Fit R C y /\ Apart x y) (fun x y z e => ?_) (p.dis.imp_of_mem fun {x y} hx hy z => ⟨p.fit x hx, p.fit y hy, z⟩)
 obtain ⟨f, g, a⟩ := z
 unfold key at e
 have e1 : (x.top : Int) = y.top := congrArg Prod.fst e
 have e2 : (x.left : Int) = y.left := congrArg Prod.snd e
 have h1 := f.h1
 have h2 := f.w1
 have h3 := g.h1
 have h4 := g.w1
 exact a x.top x.left ⟨by omega, by omega, by omega, by omega⟩ ⟨by omega, by omega, by omega, by omega⟩
theorem Cell.D_inj {x y : Cell} (h : x.D = y.D) : key x = key y := by
 unfold Cell.D at h
 injection h with h
 simp only [List.cons.injEq, Dd.int.injEq] at h
 unfold key
 rw [h.1, h.2.1]
theorem Wx (ws : List Str) : NoL (Us ws) := .tup fun d hd => by
 obtain ⟨w, _, rfl⟩ := List.mem_map.mp hd
 exact .str w
theorem Cell.D_nol (x : Cell) : NoL x.D := .tup fun d hd => by
 simp only [List.mem_cons, List.mem_nil_iff, or_false] at hd
 rcases hd with rfl | rfl | rfl | rfl | rfl
 ·exact .int _
 ·exact .int _
 ·exact .int _
 ·exact .int _
 ·exact Wx _
theorem Gq (cs : List Cell) : ∀ d ∈ cs.map Cell.D, NoL d := fun d hd => by
 obtain ⟨x, _, rfl⟩ := List.mem_map.mp hd
 exact x.D_nol
theorem Tn (ws : List Str) (n : Nat) : fits (n + 1) (Us ws) := fun d hd => by
 obtain ⟨w, _, rfl⟩ := List.mem_map.mp hd
 cases n <;> trivial
theorem Cell.D_fits (x : Cell) (n : Nat) : fits (n + 2) x.D := fun d hd => by
 simp only [List.mem_cons, List.mem_nil_iff, or_false] at hd
 rcases hd with rfl | rfl | rfl | rfl | rfl
 ·trivial
 ·trivial
 ·trivial
 ·trivial
 ·exact Tn _ n
theorem Zw (R C : Nat) (cs : List Cell) (n : Nat) : fits (n + 4) (Mr R C cs) := fun d hd => by
 simp only [List.mem_cons, List.mem_nil_iff, or_false] at hd
 rcases hd with rfl | rfl | rfl
 ·trivial
 ·trivial
 ·intro d hd
  obtain ⟨x, _, rfl⟩ := List.mem_map.mp hd
  exact x.D_fits n
theorem Cell.at_inv {H : Hp} {x : Cell} {v : V} (h : At H x.D v) : ∃ a b ws, v = .ref a /\ H a = some (.tup [.int x.top, .int x.left, .int x.h, .int x.w, .ref b]) /\ H b = some (.tup ws) /\ AtL H (x.words.map Dd.str) ws := by
 obtain ⟨a, xs, rfl, ha, r⟩ := h.tup_inv
 cases r with
 | cons h1 r =>
  cases r with
  | cons h2 r =>
   cases r with
   | cons h3 r =>
    cases r with
    | cons h4 r =>
     cases r with
     | cons h5 r =>
      cases r
      obtain ⟨b, ws, rfl, hb, rw'⟩ := h5.tup_inv
      rw [h1.int_inv, h2.int_inv, h3.int_inv, h4.int_inv] at ha
      exact ⟨a, b, ws, rfl, ha, hb, rw'⟩
theorem Cell.at_mk {H : Hp} {x : Cell} {a b : Addr} {ws : List V} (ha : H a = some (.tup [.int x.top, .int x.left, .int x.h, .int x.w, .ref b])) (hb : H b = some (.tup ws)) (r : AtL H (x.words.map Dd.str) ws) : At H x.D (.ref a) :=
 .tup ha (.cons (.int _) (.cons (.int _) (.cons (.int _) (.cons (.int _) (.cons (.tup hb r) .nil)))))
theorem Lf {H : Hp} {R C : Nat} {cs : List Cell} {v : V} (h : At H (Mr R C cs) v) : ∃ a l ys, v = .ref a /\ H a = some (.tup [.int R, .int C, .ref l]) /\ H l = some (.lst ys) /\ AtL H (cs.map Cell.D) ys := by
 obtain ⟨a, xs, rfl, ha, r⟩ := h.tup_inv
 cases r with
 | cons h1 r =>
  cases r with
  | cons h2 r =>
   cases r with
   | cons h3 r =>
    cases r
    obtain ⟨l, ys, rfl, hl, ry⟩ := h3.lst_inv
    rw [h1.int_inv, h2.int_inv] at ha
    exact ⟨a, l, ys, rfl, ha, hl, ry⟩
theorem Nq {H : Hp} {R C : Nat} {cs : List Cell} {a l : Addr} {ys : List V} (ha : H a = some (.tup [.int R, .int C, .ref l])) (hl : H l = some (.lst ys)) (r : AtL H (cs.map Cell.D) ys) : At H (Mr R C cs) (.ref a) :=
 .tup ha (.cons (.int _) (.cons (.int _) (.cons (.lst hl r) .nil)))
theorem Ti {α β : Type} {F : α -> β -> Prop} {m m' : List β} (p : m'.Perm m) : ∀ {l : List α}, Paired F l m -> ∃ l', l'.Perm l /\ Paired F l' m' := by
 induction p with
 | nil => intro l h; exact ⟨l, .refl _, h⟩
 | cons x _ ih =>
  intro l h
  cases h with
  | cons r t =>
   obtain ⟨l', p', h'⟩ := ih t
   exact ⟨_, p'.cons _, .cons r h'⟩
 | swap x y m =>
  intro l h
  cases h with
  | cons r t =>
   cases t with
   | cons r' t' => exact ⟨_, List.Perm.swap _ _ _, .cons r' (.cons r t')⟩
 | trans _ _ ih1 ih2 =>
  intro l h
  obtain ⟨l1, p1, h1⟩ := ih2 h
  obtain ⟨l2, p2, h2⟩ := ih1 h1
  exact ⟨l2, p2.trans p1, h2⟩
theorem W8 {H : Hp} {cs : List Cell} {xs xs' : List V} (p : xs'.Perm xs) (h : AtL H (cs.map Cell.D) xs) : ∃ cs' : List Cell, cs'.Perm cs /\ AtL H (cs'.map Cell.D) xs' := by
 have h1 : ∀ {cs : List Cell} {xs : List V}, AtL H (cs.map Cell.D) xs -> Paired (fun x v => At H x.D v) cs xs := by
  intro cs
  induction cs with
  | nil => intro xs h; cases h; exact .nil
  | cons x cs ih => intro xs h; cases h with | cons r t => exact .cons r (ih t)
 have h2 : ∀ {cs : List Cell} {xs : List V}, Paired (fun x v => At H x.D v) cs xs -> AtL H (cs.map Cell.D) xs := by
  intro cs xs h
  induction h with
  | nil => exact .nil
  | cons r _ ih => exact .cons r ih
 obtain ⟨cs', q, r⟩ := Ti p (h1 h)
 exact ⟨cs', q, h2 r⟩
theorem Y0 {H : Hp} {cs : List Cell} {xs : List V} (h : AtL H (cs.map Cell.D) xs) : ∃ f : V -> Int × Int, ∀ (i : Nat) (x : Cell) (v : V), cs[i]? = some x -> xs[i]? = some v -> f v = key x := by
 classical
 refine ⟨fun v => if q : ∃ x ∈ cs, At H x.D v then key q.choose else (0, 0), fun i x v e1 e2 => ?_⟩
 have at1 : At H x.D v := Paired.get h (i := i) (by rw [List.getElem?_map, e1]; rfl) e2
 have q : ∃ x ∈ cs, At H x.D v := ⟨x, List.mem_of_getElem? e1, at1⟩
 simp only [q, dite_true]
 exact Cell.D_inj (At.inj _ (Nat.le_refl _) q.choose_spec.2 at1)
theorem Jf {H : Hp} {cs : List Cell} {xs : List V} (h : AtL H (cs.map Cell.D) xs) {f : V -> Int × Int} (hf : ∀ (i : Nat) (x : Cell) (v : V), cs[i]? = some x -> xs[i]? = some v -> f v = key x) : xs.map f = cs.map key := by
 have hl : cs.length = xs.length := by simpa using h.length
 refine List.ext_getElem (by simp [hl]) fun i h1 h2 => ?_
 simp only [List.getElem_map]
 exact hf i _ _ (List.getElem?_eq_getElem (by simpa using h2)) (List.getElem?_eq_getElem (by simpa using h1))
theorem Qc {K : PySem.W.Frag} {R C : Nat} {cs : List Cell} {H : Hp} {l : Addr} {xs : List V} {Q : VK} (hl : H l = some (.lst xs)) (p : Part R C cs) (hC : C <= 1000) (h : AtL H (cs.map Cell.D) xs)
  (q : ∀ (r : Addr) (cs' : List Cell) (xs' : List V), H r = none -> cs'.Perm cs -> cs'.Pairwise xr -> AtL (upd H r (.lst xs')) (cs'.map Cell.D) xs' -> Q (.ref r) (upd H r (.lst xs'))) : qb7 K [.ref l] H Q := by
 obtain ⟨f, hf⟩ := Y0 h
 have hm := Jf h hf
 have hlen : cs.length = xs.length := by simpa using h.length
 have at' : ∀ v ∈ xs, ∃ x ∈ cs, At H x.D v /\ f v = key x := fun v hv => by
  obtain ⟨i, hi, e⟩ := List.mem_iff_getElem.mp hv
  have e2 : xs[i]? = some v := by rw [List.getElem?_eq_getElem hi, e]
  have e1 : cs[i]? = some cs[i] := List.getElem?_eq_getElem (by omega)
  exact ⟨cs[i], List.getElem_mem _, Paired.get h (i := i) (by rw [List.getElem?_map, e1]; rfl) e2, hf i _ _ e1 e2⟩
 refine ⟨l, xs, f, rfl, SqL.of hl, fun v hv => ?_, by rw [hm]; exact p.keys, fun v hv => ?_, fun r xs' hr hp ho => ?_⟩
 ·obtain ⟨x, hx, a, e⟩ := at' v hv
  obtain ⟨b, c, ws, rfl, hb, _, _⟩ := Cell.at_inv a
  rw [e]
  exact ⟨b, _, rfl, SqT.of hb⟩
 ·obtain ⟨x, hx, a, e⟩ := at' v hv
  have g := p.fit x hx
  have := g.across
  have := g.w1
  rw [e]
  show 0 <= (x.left : Int) /\ (x.left : Int) < 1000
  omega
 ·obtain ⟨cs', pc, hc⟩ := W8 hp h
  have hf' : ∀ (i : Nat) (x : Cell) (v : V), cs'[i]? = some x -> xs'[i]? = some v -> f v = key x := fun i x v e1 e2 => by
   have a1 : At H x.D v := Paired.get hc (i := i) (by rw [List.getElem?_map, e1]; rfl) e2
   obtain ⟨y, _, a2, e⟩ := at' v (hp.mem_iff.mp (List.mem_of_getElem? e2))
   rw [e]
   exact Cell.D_inj (At.inj _ (Nat.le_refl _) a2 a1)
  have hm' := Jf hc hf'
  have ord : cs'.Pairwise xr := by
   have o1 : (xs'.map f).Pairwise qz2 := List.pairwise_map.mpr ho
   rw [hm'] at o1
   refine (List.pairwise_map.mp o1).imp fun {x y} z => ?_
   unfold qz2 key at z
   unfold xr
   simp only at z
   omega
  exact q r cs' xs' hr pc ord (hc.mono (Same.upd_new hr))
theorem Part.tiles {R C : Nat} {cs cs' : List Cell} (p : Part R C cs) (all : ∀ r c, r < R -> c < C -> cov cs r c) (q : cs'.Perm cs) (o : cs'.Pairwise xr) : Tiles R C cs' :=
 { p.perm q with all := fun r c h1 h2 => qh0 q (all r c h1 h2), ord := o }
theorem Ye : signs.cps.toList.length = 36 := by decide +kernel
theorem Tp : signs.length <= sizeLine := by
 have e : signs.length = 36 := by decide +kernel
 rw [e]; decide
theorem Bj : ∀ ys : List Str, (Str.join Str.empty ys).cps.toList = (ys.map (fun y => y.cps.toList)).flatten
 | [] => rfl
 | [x] => by simp [Str.join]
 | x :: y :: ys => by
  have ih := Bj (y :: ys)
  have e : Str.join Str.empty (x :: y :: ys) = x ++ Str.empty ++ Str.join Str.empty (y :: ys) := rfl
  rw [e]
  show ((x.cps ++ Str.empty.cps) ++ (Str.join Str.empty (y :: ys)).cps).toList = _
  rw [Array.toList_append, Array.toList_append, ih]
  simp [Str.empty]
theorem Zj {ys : List Str} (h : ∀ y ∈ ys, ∃ c ∈ signs.cps.toList, y = ⟨#[c]⟩) (h1 : 1 <= ys.length) (h2 : ys.length <= 12) : WordOk (Im "" ys) := by
 have e : (Im "" ys).cps.toList = (ys.map (fun y => y.cps.toList)).flatten := by
  have z : Im "" ys = Str.join Str.empty ys := PySem.StrLaws.glued_eq_join _ _
  rw [z]
  exact Bj ys
 have l : ∀ ys : List Str, (∀ y ∈ ys, ∃ c ∈ signs.cps.toList, y = ⟨#[c]⟩) -> (ys.map (fun y => y.cps.toList)).flatten.length = ys.length /\ ∀ c ∈ (ys.map (fun y => y.cps.toList)).flatten, c ∈ signs.cps.toList := by
  intro ys
  induction ys with
  | nil => exact fun _ => ⟨rfl, fun c hc => by simp at hc⟩
  | cons y ys ih =>
   intro h
   obtain ⟨i1, i2⟩ := ih fun z hz => h z (List.mem_cons_of_mem _ hz)
   obtain ⟨c, hc, rfl⟩ := h y List.mem_cons_self
   refine ⟨by rw [List.map_cons, List.flatten_cons, List.length_append, i1, List.length_cons]; simp; omega, fun d hd => ?_⟩
   rw [List.map_cons, List.flatten_cons] at hd
   rcases List.mem_append.mp hd with hd | hd
   ·have : d = c := by simpa using hd
    rw [this]; exact hc
   ·exact i2 d hd
 obtain ⟨l1, l2⟩ := l ys h
 have ll : (Im "" ys).length = ys.length := by
  show (Im "" ys).cps.size = _
  rw [← Array.length_toList, e, l1]
 exact ⟨by omega, by omega, fun c hc => l2 c (by rw [← e]; exact hc)⟩
theorem Lb (H : Hp) : ∀ ws : List Str, AtL H (ws.map Dd.str) (ws.map V.str)
 | [] => .nil
 | w :: ws => .cons (.str w) (Lb H ws)
end GT
namespace GT
open PySem L2
theorem len_app (x y : Str) : (x ++ y).length = x.length + y.length := by
 show (x.cps ++ y.cps).size = _
 rw [Array.size_append]
 rfl
theorem N6 {g : List Str} {k : Nat} (h : ∀ w ∈ g, w.length <= k) : (g.map (·.length)).sum <= k * g.length := by
 induction g with
 | nil => simp
 | cons w g ih =>
  have := h w List.mem_cons_self
  have := ih fun x hx => h x (List.mem_cons_of_mem _ hx)
  rw [List.map_cons, List.sum_cons, List.length_cons, Nat.mul_succ]
  omega
theorem Wg (c : Nat) : ∀ (l : List Nat) (k : Nat), (M6 c l k).length <= l.length
 | [], _ => Nat.le_refl _
 | a :: l, k => by
  have := Wg c l (k + 1)
  unfold M6
  by_cases z : a = c
  ·rw [if_pos z, List.length_cons, List.length_cons]; omega
  ·rw [if_neg z, List.length_cons]; omega
theorem Xu (x : Str) (c : Nat) (n : Nat) : (Builtin.Str.partsBetween x (Builtin.Str.occurrences x ⟨#[c]⟩ 0 x.length (x.length + 1)) n).length <= x.length + 1 := by
 have xl : x.length = x.cps.toList.length := by simp [Str.length]
 have := Wg c x.cps.toList 0
 rw [Xm]
 unfold Builtin.Str.partsBetween
 simp only [List.length_map, List.length_zip, List.length_cons, List.length_append, List.length_nil]
 omega
end GT
namespace L2
open PySem
theorem xf {X : Cx} {K : PySem.W.Frag} (h : X.K = K) : wu X (.builtin "len") (fun xs H Q => ∃ z, xs = [.str z] /\ z.length <= sizeLine /\ Q (.int z.length) H) := Oz
end L2
namespace GT
open PySem L2
theorem G5 : ∀ (n : Nat) (l : List Nat), l.Nodup -> (∀ x ∈ l, x < n) -> l.length <= n
 | 0, [], _, _ => Nat.le_refl _
 | 0, x :: l, _, h => absurd (h x List.mem_cons_self) (by omega)
 | n + 1, l, nd, h => by
  by_cases hn : n ∈ l
  ·have := G5 n (l.erase n) (nd.erase n) fun x hx => by
    have h1 := h x (List.mem_of_mem_erase hx)
    have h2 : x ≠ n := fun e => by subst e; exact (nd.not_mem_erase) hx
    omega
   rw [List.length_erase_of_mem hn] at this
   omega
  ·have := G5 n l nd fun x hx => by
    have h1 := h x hx
    have h2 : x ≠ n := fun e => hn (e ▸ hx)
    omega
   omega
theorem Part.few {R C : Nat} {cs : List Cell} (p : Part R C cs) : cs.length <= R * C := by
 have key : (cs.map fun x => x.top * C + x.left).Nodup := by
  refine List.Pairwise.map _ (R := fun x y => Fit R C x /\ Fit R C y /\ Apart x y) (fun x y z e => ?_) (p.dis.imp_of_mem fun {x y} hx hy z => ⟨p.fit x hx, p.fit y hy, z⟩)
  obtain ⟨f, g, a⟩ := z
  have h1 := f.h1
  have h2 := f.w1
  have h3 := g.h1
  have h4 := g.w1
  have h5 := f.across
  have h6 := g.across
  have e1 : x.top = y.top := by
   have a1 : (x.top * C + x.left) / C = x.top := by rw [Nat.mul_comm, Nat.mul_add_div (by omega), Nat.div_eq_of_lt (by omega)]; omega
   have a2 : (y.top * C + y.left) / C = y.top := by rw [Nat.mul_comm, Nat.mul_add_div (by omega), Nat.div_eq_of_lt (by omega)]; omega
   have e : x.top * C + x.left = y.top * C + y.left := e
   rw [← a1, ← a2, e]
  have e2 : x.left = y.left := by
   have e : x.top * C + x.left = y.top * C + y.left := e
   rw [e1] at e
   omega
  exact a x.top x.left ⟨by omega, by omega, by omega, by omega⟩ ⟨by omega, by omega, by omega, by omega⟩
 have := G5 (R * C) _ key fun z hz => by
  obtain ⟨x, hx, rfl⟩ := List.mem_map.mp hz
  have f := p.fit x hx
  have h1 := f.h1
  have h2 := f.w1
  have h5 := f.across
  have h6 := f.down
  have : (x.top + 1) * C <= R * C := Nat.mul_le_mul_right C (by omega)
  rw [Nat.succ_mul] at this
  omega
 rwa [List.length_map] at this
end GT
namespace L2
open PySem
theorem Gb {K : PySem.W.Frag} {a : Addr} {xs : List V} {g : TG} {tt : TT} {te : TE} {σ0 : St} {H1 : Hp} {acc : Addr} {Q : VK} (Pv : Nat -> St -> Hp -> Prop) (h0 : Pv 0 σ0 (upd H1 acc (.lst [])))
  (hl : ∀ i σ H, i <= xs.length -> Pv i σ H -> SqT K H a xs)
  (hs : ∀ i x σ H, xs[i]? = some x -> Pv i σ H -> g x σ H fun σ4 H4 => tt σ4 H4 fun b H5 =>
   if b = true then te σ4 H5 fun y H6 => ∃ ys, H6 acc = some (.lst ys) /\ ys.length < sizeLine /\ Pv (i + 1) σ4 (upd H6 acc (.lst (ys ++ [y]))) else Pv (i + 1) σ4 H5)
  (hd : ∀ σ H, Pv xs.length σ H -> Q (.ref acc) H) : Wv (Itt K a) g tt te acc σ0 H1 Q := by
 refine ⟨fun i m σ H => m = xs.length - i /\ i <= xs.length /\ Pv i σ H, ⟨xs.length, by simp, Nat.zero_le _, h0⟩, ?_⟩
 rintro i m σ H ⟨rfl, hi, p⟩
 have q := hl i σ H hi p
 by_cases hlt : i < xs.length
 ·refine .inr ⟨⟨xs, xs[i], q, by simp [hlt]⟩, Pv (i + 1), fun σ' H' p' => ⟨xs.length - (i + 1), by omega, rfl, hlt, p'⟩, fun x H' y => ?_⟩
  obtain ⟨e, y⟩ := y
  subst e
  exact hs i x σ _ (y xs q) p
 ·have e : i = xs.length := by omega
  subst e
  exact .inl ⟨⟨xs, q, Nat.le_refl _⟩, hd σ H p⟩
theorem jg {X : Cx} {scope : Scope} {N1 : List Str} {cap : List (Option Nat)} (kind : scope.kind = .function)
  (nocell : ∀ y ∈ scope.names, y.2 ≠ .cell) (names : ∀ y ∈ scope.names, y.2 = .local -> scope.names.lookup y.1 = some .local) (free : ∀ y ∈ scope.names, y.2 ≠ .free)
  (len : cap.length = N1.length) (caps : ∀ i, i < N1.length -> ∀ x j, N1[i]? = some x -> cap[i]? = some (some j) -> False) :
  CompOk X scope (Dk X.env.cells scope.names []) N1 cap := by
 have fr : ∀ y ∈ scope.names, y.2 = .free -> (X.env.cells.lookup y.1).isSome = true := fun y hy e => absurd e (free y hy)
 have mem : ∀ p ∈ Dk X.env.cells scope.names [], X.env.cells.lookup p.1 = some p.2 := Li scope.names [] fr fun p hp => absurd hp (by simp)
 have has : ∀ x, ((relabel scope X.env).names.lookup x = some .cell \/ (relabel scope X.env).names.lookup x = some .free) -> ∃ c, (Dk X.env.cells scope.names []).lookup x = some c := fun x h => by
  have q : ∃ y ∈ scope.names, y.1 = x /\ y.2 = .free := by
   rcases h with h | h
   ·exact jy nocell (.inl rfl) h
   ·exact jy nocell (.inr rfl) h
  exact Option.isSome_iff_exists.mp (Lh x scope.names [] (.inl q))
 exact ⟨Xv fr, fun x c h => mem (x, c) (PySem.mem_of_lookup h), kind, nocell, names, has, len, fun i x j e1 e2 => (caps i (List.getElem?_eq_some_iff.mp e1).1 x j e1 e2).elim⟩
end L2
namespace GT
open PySem L2
theorem Q6 {H : Hp} : ∀ {ws : List Str} {vs : List V}, AtL H (ws.map Dd.str) vs -> vs = ws.map V.str
 | [], [], _ => rfl
 | w :: ws, v :: vs, h => by
  cases h with
  | cons h1 h2 =>
   rw [Q6 h2]
   cases h1
   rfl
end GT
namespace L2
open PySem PySem.Spec PyProof.Rows PySem.W
open Sem (wp)
end L2
namespace L2
open PySem PySem.Spec PyProof.Rows
theorem qe4 {X : Cx} : MtM X "str.endswith" (fun x vs H Q => ∃ z y, x = .str z /\ vs = [.str y] /\ Q (.bl (Txt.endswith z y)) H) := by
 intro pins s σ H x vs v us Q I rx rv h
 obtain ⟨z, y, rfl, rfl, q⟩ := h
 obtain ⟨t, rfl⟩ := rx
 obtain ⟨u, rfl, ru⟩ := rv.one
 obtain ⟨tu, rfl⟩ := ru
 exact SC.endswith ⟨.bl _, H, I, rfl, q⟩
section
variable {es r : List Expr} {pos : Pos} {env : Env}
end
end L2
namespace L2
open PySem PySem.Spec PyProof.Rows PySem.W
noncomputable def Itx (x : Str) : It := ⟨fun i _ => i < x.cps.size, fun i H v H' => H' = H /\ ∃ c, x.cps[i]? = some c /\ v = .str ⟨#[c]⟩, fun i _ => x.cps.size <= i⟩
theorem qk9 {prog : Program} {w : World} {A : Around} (hh : A.handled = none) (it : Addr) (x : Str) (t : Tok) : Walks prog w A it [it] [it] x.cps.size (SignAt x) (fun i h => h.IsStrIter it (strIterType x) x t i) := by
 unfold strIterType
 split
 ·exact Walks.strAscii hh it x t
 ·exact Walks.strWide hh it x t
theorem Ls (x : Str) : ["enumerate", "zip", "dict_itemiterator", "dict_reverseitemiterator", "odict_iterator", "itertools.zip_longest", "itertools.pairwise"].contains (strIterType x) = false := by
 unfold strIterType
 split <;> decide
theorem qd7 {P : Program} {w : World} {K : PySem.W.Frag} {tg : Expr} (it : Addr) (x : Str) (t : Tok) : Turn P w K tg (Itx x) [it] it (fun i h => i <= x.cps.size /\ h.IsStrIter it (strIterType x) x t i) where
  mem := by simp
  obj := fun i h st b hb => by
    have e : b = it := by simpa using hb
    subst e
    obtain ⟨_, o, e, c, d⟩ := st
    exact ⟨o, e, fun v z => by rw [d] at z; cases z⟩
  keep := fun i h h' st k => by
    obtain ⟨hi, o, e, r⟩ := st
    exact ⟨hi, o, k it (by simp) o e, r⟩
  item := by
    intro X hP hw hK hc i pins s σ H E I hf st hg
    subst hP hw hK
    obtain ⟨f0, f1, f2, f3, f4, f5⟩ := hf it (by simp)
    have W := qk9 (prog := X.prog) (w := X.w) (A := X.A) (I.ok.hd hc) it x t
    refine W.item i s _ _ hg st.2 fun v h' tk hv st' kk => ?_
    obtain ⟨c, u, hcx, rfl⟩ := hv
    have I1 : Inv X pins σ H { s with heap := h', toks := tk } := I.turned (fun b o hb e => kk b o (by simpa using hb) e) f0 f1 f3 f4 f5
    obtain ⟨o, e, cl, d⟩ := id st'
    exact ⟨_, rfl, qd2 (s := { s with heap := h', toks := tk }) e cl d (Ls x) ⟨.str ⟨#[c]⟩, H, I1, ⟨u, rfl⟩, ⟨rfl, c, hcx, rfl⟩, ⟨hg, st'⟩, fun b hb => (hf b hb).1⟩⟩
  done := by
    intro X hP hw hK hc i pins s σ H E I hf st hg
    subst hP hw hK
    obtain ⟨f0, f1, f2, f3, f4, f5⟩ := hf it (by simp)
    obtain ⟨hi, st⟩ := st
    have e : i = x.cps.size := Nat.le_antisymm hi hg
    subst e
    have W := qk9 (prog := X.prog) (w := X.w) (A := X.A) (I.ok.hd hc) it x t
    exact W.done s _ _ st fun h' tk kk => ⟨rfl, I.turned (fun b o hb e => kk b o (by simpa using hb) e) f0 f1 f3 f4 f5⟩
  self := fun A i s Q E st h => by
    obtain ⟨_, st⟩ := st
    unfold strIterType at st
    split at st
    · exact wpAny_pyIter_striter_ascii st h
    · exact wpAny_pyIter_striter_wide st h
theorem qc1 {prog : Program} {w : World} {A : Around} {E : Value -> Shared -> Prop} {s : Shared} {x : Str} {t : Tok} {Q : Value -> Shared -> Prop}
  (hQ : ∀ o : Obj, (s.heap.push o).IsStrIter s.heap.objs.size (strIterType x) x t 0 -> Q (.ref s.heap.objs.size) { s with heap := s.heap.push o }) : wpAny (model prog w) A (pyIter (.str x t)) Q E s := by
 cases ha : x.cps.all (· < 128)
 ·have e : strIterType x = "str_iterator" := by unfold strIterType; rw [ha]; rfl
  rw [e] at hQ
  exact wpAny_pyIter_wide ha (hQ _ ⟨_, Heap.get?_push_size _ rfl, rfl, rfl⟩)
 ·have e : strIterType x = "str_ascii_iterator" := by unfold strIterType; rw [ha]; rfl
  rw [e] at hQ
  exact wpAny_pyIter_ascii ha (hQ _ ⟨_, Heap.get?_push_size _ rfl, rfl, rfl⟩)
noncomputable def ze8 (tl : TE) : TI := fun σ H R => tl σ H fun v H1 => ∃ x, v = .str x /\ R (Itx x) H1
theorem Q0 {X : Cx} {K : PySem.W.Frag} {tg l : Expr} {tl : TE} (hK : X.K = K) (hl : PE X l tl) : PI X tg l (ze8 tl) := by
 intro pins s σ H R I h
 refine thn (hl pins s σ H _ I h) fun v s1 ⟨x, H1, I1, r1, q1⟩ => ?_
 obtain ⟨x, e, q⟩ := q1
 subst e
 obtain ⟨t, rfl⟩ := r1
 refine qc1 fun o hit => ?_
 refine ⟨s1.heap.objs.size, [s1.heap.objs.size], _, _, H1, rfl, I1.kept (t' := s1.toks) fun b o e => Heap.get?_push_of_some _ e, qd7 _ x t, ⟨Nat.zero_le _, hit⟩, fun b hb => ?_, q⟩
 have e : b = s1.heap.objs.size := by simpa using hb
 subst e
 exact I1.fpOk (Nat.le_refl _) (I1.hok.fresh (Nat.le_refl _))
theorem Lz {x : Str} {g : TG} {tt : TT} {te : TE} {σ0 : St} {H1 : Hp} {acc : Addr} {Q : VK} (Pv : Nat -> St -> Hp -> Prop) (h0 : Pv 0 σ0 (upd H1 acc (.lst [])))
  (hs : ∀ i c σ H, x.cps[i]? = some c -> Pv i σ H -> g (.str ⟨#[c]⟩) σ H fun σ4 H4 => tt σ4 H4 fun b H5 =>
   if b = true then te σ4 H5 fun y H6 => ∃ ys, H6 acc = some (.lst ys) /\ ys.length < sizeLine /\ Pv (i + 1) σ4 (upd H6 acc (.lst (ys ++ [y]))) else Pv (i + 1) σ4 H5)
  (hd : ∀ σ H, Pv x.cps.size σ H -> Q (.ref acc) H) : Wv (Itx x) g tt te acc σ0 H1 Q := by
 refine ⟨fun i m σ H => m = x.cps.size - i /\ i <= x.cps.size /\ Pv i σ H, ⟨x.cps.size, by simp, Nat.zero_le _, h0⟩, ?_⟩
 rintro i m σ H ⟨rfl, hi, p⟩
 by_cases hlt : i < x.cps.size
 ·refine .inr ⟨hlt, Pv (i + 1), fun σ' H' p' => ⟨x.cps.size - (i + 1), by omega, rfl, hlt, p'⟩, fun v H' y => ?_⟩
  obtain ⟨e, c, hc, ev⟩ := y
  subst e ev
  exact hs i c σ _ hc p
 ·have e : i = x.cps.size := by omega
  subst e
  exact .inl ⟨Nat.le_refl _, hd σ H p⟩
noncomputable def zb0 : List V -> Hp -> VK -> Prop := fun xs H Q => ∃ v, xs = [v] /\ ((∃ i : Int, v = .int i /\ i.natAbs.log2 < 1920 /\ Q (.str (Str.ofString (toString i))) H) \/ (∃ x, v = .str x /\ Q (.str x) H))
theorem M8 {X : Cx} : wu X (.type "str") zb0 := by
 intro pins s σ H xs us Q I r h
 obtain ⟨v, rfl, h⟩ := h
 obtain ⟨u, rfl, rx⟩ := vals1 r
 rcases h with ⟨i, rfl, hi, q⟩ | ⟨x, rfl, q⟩
 ·obtain ⟨t, rfl⟩ := rx
  exact P.str_of_int hi ⟨.str _, H, I.tok _, ⟨_, rfl⟩, q⟩
 ·obtain ⟨t, rfl⟩ := rx
  exact P.str_of_str ⟨.str x, H, I, ⟨t, rfl⟩, q⟩
theorem qb1 {X : Cx} : wu X (.type "int") (fun xs H Q => ∃ (x : Str) (n : Int), xs = [.str x] /\ PySem.intText? x = some n /\ x.length <= 640 /\ Q (.int n) H) := by
 intro pins s σ H xs us Q I r h
 obtain ⟨x, n, rfl, hn, hl, q⟩ := h
 obtain ⟨u, rfl, rx⟩ := vals1 r
 obtain ⟨t, rfl⟩ := rx
 exact KIN.call_text hn hl ⟨.int n, H, I.tok _, ⟨_, rfl⟩, q⟩
section
variable {X : Cx} {st : Stmt} {ts : TS} {h0 : ExceptHandler} {hs : List ExceptHandler} {tpos : Pos}
end
end L2
namespace GS
open PySem PyProof.Rows PySem.W
section
variable {prog : Program} {w : World} {A : Around} {E : Value -> Shared -> Prop} {s : Shared}
end
end GS
namespace L2
open PySem PySem.Spec PyProof.Rows PySem.W
end L2
namespace L2
open PySem PySem.Spec PyProof.Rows PySem.W
theorem Jb (f : Array Value -> Array Value) (o : Obj) : (Obj.mapFields f o).dict = o.dict := by unfold Obj.mapFields; split <;> rfl
noncomputable def za1 (B h : Heap) (e : Addr) (vs : Array Value) : Option Value -> Prop
 | none => vs[1]? = some .none
 | some fl => ∃ T oT ts, vs[1]? = some (.ref T) /\ B.get? T = none /\ T ≠ e /\ h.get? T = some oT /\ oT.data = .fields ts /\ ts[3]? = some fl
structure Sta (B : Heap) (l : List Env) (e : Addr) (cls : Value) (dd : Option Addr) (tr : Option Value) (h : Heap) : Prop where
  stay : B.StaysIn h
  new : B.get? e = none
  funs : h.FunFrames B l
  obj : ∃ oe vs, h.get? e = some oe /\ oe.cls = cls /\ oe.dict = dd /\ oe.data = .fields vs /\ 1 < vs.size /\ za1 B h e vs tr /\ (dd ≠ none -> vs[2]? = some .none)
theorem Sta.tail {B h : Heap} {env : Env} {l : List Env} {e : Addr} {cls : Value} {dd : Option Addr} {tr : Option Value} (x : Sta B (env :: l) e cls dd tr h) : Sta B l e cls dd tr h :=
 ⟨x.stay, x.new, x.funs.2.2, x.obj⟩
section
variable {M : Model} {A : Around} {E : Value -> Shared -> Prop} {s : Shared} {B : Heap} {env : Env} {l outer : List Env} {L e : Addr} {cls : Value} {dd : Option Addr} {Q : Unit -> Shared -> Prop}
theorem Oj {oe : Obj} {vs : Array Value} {head : Value} {nx : Bool} (hfr : A.frames = some (env :: outer)) (hl : s.heap.FunFrames B (env :: outer)) (hf : env.frame = some L) (st : B.StaysIn s.heap) (new : B.get? e = none)
    (he : s.heap.get? e = some oe) (hd : oe.data = .fields vs) (hz : 1 < vs.size) (hcx : oe.dict ≠ none -> vs[2]? = some .none) (k : ∀ h', Sta B (env :: outer) e oe.cls oe.dict (some (rawInt L)) h' -> s.heap.UpToSlots h' -> Q () { s with heap := h' }) :
    wpAny M A (do let a ← frameOf env; let pl ← entryPlaceOf L nx; let b ← EntryCells.newEntry head a .none (rawInt L) .none pl; setField (.ref e) 1 b) Q E s := by
  have nofr : e ∉ (env :: outer).filterMap (·.frame) := fun hm => by
    obtain ⟨_, o, ho, hn⟩ := hl.mem hm
    rw [he] at ho; cases ho; exact hn vs hd
  refine wpAny_bind (wpAny_frameOf_fun hfr hl hf fun h1 so => wpAny_bind (wpAny_entryPlaceOf fun pl hpl => ?_))
  unfold EntryCells.newEntry newFields
  refine wpAny_bind (wpAny_newObj_type ?_ (hpl.sizeOk5 _ _ _ _ _))
  obtain ⟨ts, hts, h3⟩ : ∃ ts : Array Value, ts = ([head, .ref L, .none, rawInt L, .none] ++ (if pl.isEmpty then List.replicate 6 Value.none else pl)).toArray /\ ts[3]? = some (rawInt L) :=
    ⟨_, rfl, by first | (simp; done) | (rcases hpl with rfl | ⟨_, _, _, _, _, _, _, rfl⟩ <;> simp)⟩
  rw [← hts]
  have e1 : h1.get? e = some oe := (so.2.1 e nofr).trans he
  have st1 : B.StaysIn h1 := fun b o q => (so.2.1 b fun hm => by rw [(hl.mem hm).1] at q; cases q).trans (st b o q)
  have e2 := Heap.get?_push_of_some (h := h1) { cls := .type "traceback", dict := none, data := .fields ts } e1
  have hne : h1.objs.size ≠ e := Nat.ne_of_gt (Heap.lt_size e1)
  refine wpAny_setField e2 hd hz (k _ ?_ ?_)
  all_goals
    have d3 := Obj.data_mapFields hd (·.setIfInBounds 1 (Value.ref h1.objs.size))
    have e3 := Heap.get?_update_self (Obj.mapFields (·.setIfInBounds 1 (Value.ref h1.objs.size))) e2 (Obj.isFreed_of_fields d3)
    have old : ∀ b o, b ≠ e -> h1.get? b = some o -> ((h1.push { cls := .type "traceback", dict := none, data := .fields ts }).update e (Obj.mapFields (·.setIfInBounds 1 (Value.ref h1.objs.size)))).get? b = some o := fun b o nb q => by
      rw [Heap.get?_update_other _ _ (Ne.symm nb)]
      exact Heap.get?_push_of_some _ q
    have norec : ∀ b o, s.heap.get? b = some o -> (∀ ws, o.data ≠ .fields ws) -> b ≠ e := fun b o q hn z => by
      rw [z, he] at q; cases q; exact hn vs hd
  · refine ⟨fun b o q => old b o (fun z => by rw [z, new] at q; cases q) (st1 b o q), new, hl.of_keeps fun b o q hn => ?_, _, _, e3, Obj.cls_mapFields _ _, Jb _ _, d3, by simpa using hz, ⟨h1.objs.size, _, ts, by simp [hz], st1.fresh, hne,
      ⟨(Heap.get?_update_other _ _ (Ne.symm hne)).trans (Heap.get?_push_size h1 rfl), rfl, h3⟩⟩, fun z => by rw [Array.getElem?_setIfInBounds_ne (by decide)]; exact hcx z⟩
    obtain ⟨sl, q1⟩ := so.2.2 b o q
    exact ⟨_, old b _ (norec b o q hn) q1, rfl⟩
  · intro b o q hn
    obtain ⟨sl, q1⟩ := so.2.2 b o q
    exact ⟨sl, old b _ (norec b o q hn) q1⟩
theorem Bq {tr : Option Value} (hfr : A.frames = some (env :: outer)) (hf : env.frame = some L) (htr : tr = none \/ tr = some .none) (x : Sta B (env :: outer) e cls dd tr s.heap)
  (k : ∀ h', Sta B (env :: outer) e cls dd (some (rawInt L)) h' -> s.heap.UpToSlots h' -> Q () { s with heap := h' }) : wpAny M A (noteFrame (.ref e) env) Q E s := by
 obtain ⟨st, new, hl, oe, vs, he, hc, hdd, hd, hz, tl, hcx⟩ := x
 unfold noteFrame
 simp only [hf]
 rcases htr with rfl | rfl
 ·have h1 : vs[1]? = some .none := tl
  refine wpAny_bind (wpAny_field he hd h1 ?_)
  rw [if_neg (by decide)]
  exact Oj hfr hl hf st new he hd hz (fun z => hcx (hdd ▸ z)) fun h' y u => k h' (by rw [← hc, ← hdd]; exact y) u
 ·obtain ⟨T, oT, ts, h1, nT, hTe, hT, dT, h3⟩ := tl
  refine wpAny_bind (wpAny_field he hd h1 ?_)
  rw [if_pos (show (Value.ref T != Value.none) = true from by simp)]
  refine wpAny_bind (wpAny_field hT dT h3 ?_)
  rw [if_neg (show ¬ ((Value.none == rawInt L) = true) from by simp [rawInt])]
  refine wpAny_bind (wpAny_setField hT dT (Array.getElem?_eq_some_iff.mp h3).1 ?_)
  have other : ∀ b, b ≠ T -> (s.heap.update T (Obj.mapFields (·.setIfInBounds 3 Value.none))).get? b = s.heap.get? b := fun b hb => Heap.get?_update_other _ _ (Ne.symm hb)
  have norec : ∀ b o, s.heap.get? b = some o -> (∀ ws, o.data ≠ .fields ws) -> b ≠ T := fun b o q hn z => by
   rw [z, hT] at q; cases q; exact hn ts dT
  refine Oj hfr (hl.of_keeps fun b o q hn => ⟨o, (other b (norec b o q hn)).trans q, rfl⟩) hf (fun b o q => (other b fun z => by rw [z, nT] at q; cases q).trans (st b o q)) new ((other e (Ne.symm hTe)).trans he) hd hz (fun z => hcx (hdd ▸ z))
   fun h' y u => k h' (by rw [← hc, ← hdd]; exact y) fun b o q hn => u b o ((other b (norec b o q hn)).trans q) hn
theorem uv {fl : Value} (x : Sta B l e cls dd (some fl) s.heap) (k : ∀ h', Sta B l e cls dd (some .none) h' -> s.heap.UpToSlots h' -> Q () { s with heap := h' }) : wpAny M A (setFlight (.ref e) none) Q E s := by
 obtain ⟨st, new, hl, oe, vs, he, hc, hdd, hd, hz, ⟨T, oT, ts, h1, nT, hTe, hT, dT, h3⟩, hcx⟩ := x
 have h3z : 3 < ts.size := (Array.getElem?_eq_some_iff.mp h3).1
 have other : ∀ b, b ≠ T -> (s.heap.update T (Obj.mapFields (·.setIfInBounds 3 ((none : Option Addr).elim Value.none fun f => rawInt f)))).get? b = s.heap.get? b := fun b hb => Heap.get?_update_other _ _ (Ne.symm hb)
 have norec : ∀ b o, s.heap.get? b = some o -> (∀ ws, o.data ≠ .fields ws) -> b ≠ T := fun b o q hn z => by
  rw [z, hT] at q; cases q; exact hn ts dT
 unfold setFlight
 refine wpAny_bind (wpAny_field he hd h1 ?_)
 rw [if_pos (show (Value.ref T != Value.none) = true from by simp)]
 refine wpAny_setField hT dT h3z (k _ ⟨fun b o q => (other b fun z => by rw [z, nT] at q; cases q).trans (st b o q), new, hl.of_keeps fun b o q hn => ⟨o, (other b (norec b o q hn)).trans q, rfl⟩, oe, vs,
  (other e (Ne.symm hTe)).trans he, hc, hdd, hd, hz, ⟨T, _, _, h1, nT, hTe, Heap.get?_update_self _ hT (Obj.isFreed_of_fields (Obj.data_mapFields dT _)), Obj.data_mapFields dT _, by simp [h3z]⟩, hcx⟩ fun b o q hn => ⟨o.slots, (other b (norec b o q hn)).trans q⟩)
theorem qu8 {fl : Value} (x : Sta B l e cls dd (some fl) s.heap) (k : ∀ h', Sta B l e cls dd (some (rawInt L)) h' -> s.heap.UpToSlots h' -> Q () { s with heap := h' }) : wpAny M A (setFlight (.ref e) (some L)) Q E s := by
 obtain ⟨st, new, hl, oe, vs, he, hc, hdd, hd, hz, ⟨T, oT, ts, h1, nT, hTe, hT, dT, h3⟩, hcx⟩ := x
 have h3z : 3 < ts.size := (Array.getElem?_eq_some_iff.mp h3).1
 have other : ∀ b, b ≠ T -> (s.heap.update T (Obj.mapFields (·.setIfInBounds 3 ((some L : Option Addr).elim Value.none fun f => rawInt f)))).get? b = s.heap.get? b := fun b hb => Heap.get?_update_other _ _ (Ne.symm hb)
 have norec : ∀ b o, s.heap.get? b = some o -> (∀ ws, o.data ≠ .fields ws) -> b ≠ T := fun b o q hn z => by
  rw [z, hT] at q; cases q; exact hn ts dT
 unfold setFlight
 refine wpAny_bind (wpAny_field he hd h1 ?_)
 rw [if_pos (show (Value.ref T != Value.none) = true from by simp)]
 refine wpAny_setField hT dT h3z (k _ ⟨fun b o q => (other b fun z => by rw [z, nT] at q; cases q).trans (st b o q), new, hl.of_keeps fun b o q hn => ⟨o, (other b (norec b o q hn)).trans q, rfl⟩, oe, vs,
  (other e (Ne.symm hTe)).trans he, hc, hdd, hd, hz, ⟨T, _, _, h1, nT, hTe, Heap.get?_update_self _ hT (Obj.isFreed_of_fields (Obj.data_mapFields dT _)), Obj.data_mapFields dT _, by simp [h3z]⟩, hcx⟩ fun b o q hn => ⟨o.slots, (other b (norec b o q hn)).trans q⟩)
theorem Zu (hf : env.frame = some L) (x : Sta B l e cls dd (some (rawInt L)) s.heap) (k : Q () s) : wpAny M A (noteFrame (.ref e) env) Q E s := by
 obtain ⟨st, new, hl, oe, vs, he, hc, hdd, hd, hz, ⟨T, oT, ts, h1, nT, hTe, hT, dT, h3⟩, hcx⟩ := x
 unfold noteFrame
 simp only [hf]
 refine wpAny_bind (wpAny_field he hd h1 ?_)
 rw [if_pos (show (Value.ref T != Value.none) = true from by simp)]
 refine wpAny_bind (wpAny_field hT dT h3 ?_)
 rw [if_pos (show (rawInt L == rawInt L) = true from by simp)]
 exact wpAny_pure k
theorem Xf (hf : env.frame = some L) (x : Sta B (env :: outer) e cls dd (some (rawInt L)) s.heap)
  (k : ∀ h', Sta B outer e cls dd (some .none) h' -> s.heap.UpToSlots h' -> Q () { s with heap := h' }) : wpAny M A (leaving env (.ref e)) Q E s := by
 unfold leaving
 exact wpAny_bind (Zu hf x (uv x fun h2 z u2 => k h2 z.tail u2))
theorem Z4 {tr : Option Value} (hfr : A.frames = some (env :: outer)) (hf : env.frame = some L) (htr : tr = none \/ tr = some .none) (x : Sta B (env :: outer) e cls dd tr s.heap)
  (k : ∀ h', Sta B outer e cls dd (some .none) h' -> s.heap.UpToSlots h' -> Q () { s with heap := h' }) : wpAny M A (leaving env (.ref e)) Q E s := by
 unfold leaving
 exact wpAny_bind (Bq hfr hf htr x fun h1 y u => uv y fun h2 z u2 => k h2 z.tail (u.trans u2))
end
end L2
namespace L2
open PySem PySem.Spec PyProof.Rows PySem.W
theorem ObjOk.there {P : Program} {w : World} {H : Hp} {h : Heap} {a : Addr} : ∀ {o : HO}, ObjOk P w H h a o -> ∃ u, h.get? a = some u
 | .lst xs, x => by obtain ⟨_, _, _, _, e⟩ := x; exact ⟨_, e⟩
 | .tup xs, x => by obtain ⟨_, _, _, o, e, _⟩ := x; exact ⟨_, e⟩
 | .dK kvs, x => by obtain ⟨_, _, _, _, o, _, _, e, _⟩ := x; exact ⟨_, e⟩
 | .dT kvs, x => by obtain ⟨_, _, _, _, o, _, _, e, _⟩ := x; exact ⟨_, e⟩
 | .set S n, x => by obtain ⟨o, _, _, _, e, _⟩ := x; exact ⟨_, e⟩
 | .ins C dx fs, x => by obtain ⟨_, _, _, e, _⟩ := x; exact ⟨_, e⟩
 | .own y, x => by obtain ⟨_, e⟩ := x; exact ⟨_, e⟩
 | .xd fs, x => by obtain ⟨_, ⟨_, _, _, e, _⟩, _⟩ := x; exact ⟨_, e⟩
 | .rng lo hi, x => by obtain ⟨_, _, _, e⟩ := x; exact ⟨_, e⟩
 | .frz ob u, x => by obtain ⟨e, _⟩ := x; exact ⟨_, e⟩
 | .tbl ps, x => ⟨_, (show h.get? a = some _ from x)⟩
 | .met f y, x => ⟨_, (show h.get? a = some _ from x)⟩
 | .ext φ, x => by obtain ⟨_, ⟨_, e⟩, _⟩ := x; exact ⟨_, e⟩
structure Fly (P : Program) (w : World) (base : Heap) (outer : List Env) (H : Hp) (s : Shared) (s' : Shared) (ea : Addr) (cls : Value) (dd : Option Addr) (B : Heap) (H' : Hp) : Prop where
  os : s'.os = s.os
  bare : AllBare s'.gens
  fly : Sta B outer ea cls dd (some .none) s'.heap
  hok : HOk P w H' B
  bst : base.StaysIn B
  un : Un (frs outer) [] H H' s.heap s'.heap
  keepB : ∀ b o, s.heap.get? b = some o -> H b = none -> b ∉ frs outer -> B.get? b = some o
  thereB : ∀ b o, s.heap.get? b = some o -> b ∉ frs outer -> ∃ o', B.get? b = some o'
noncomputable def CX1 (P : Program) (w : World) (base : Heap) : CXT := fun outer H s E e s' => ∃ (ea : Addr) (cls : Value) (dd : Option Addr) (B : Heap) (H' : Hp), e = .ref ea /\ Fly P w base outer H s s' ea cls dd B H' /\ E cls dd H'
section
variable {P : Program} {w : World} {base : Heap} {outer : List Env} {H H' : Hp} {s s' : Shared} {ea : Addr} {cls : Value} {dd : Option Addr} {B : Heap}
theorem Fly.notB (f : Fly P w base outer H s s' ea cls dd B H') : H' ea = none := by
 cases e : H' ea with
 | none => rfl
 | some o =>
  obtain ⟨u, q⟩ := ObjOk.there (f.hok ea o e)
  rw [f.fly.new] at q; cases q
theorem Fly.go (f : Fly P w base outer H s s' ea cls dd B H') {l : List Env} {h' : Heap} (fl : Sta B l ea cls dd (some .none) h') (up : s'.heap.UpToSlots h') : Un (frs outer) [] H H' s.heap h' where
  keep := fun b o e n hb _ => fl.stay b o (f.keepB b o e n hb)
  slot := fun b o e n hb hx => by
    obtain ⟨sl, e1⟩ := f.un.slot b o e n hb hx
    obtain ⟨_, o', e2, d⟩ := f.fly.funs.mem hb
    rw [e1] at e2
    have e2 := Option.some.inj e2
    subst e2
    obtain ⟨sl', e3⟩ := up b _ e1 d
    exact ⟨sl', e3⟩
  free := f.un.free
  there := fun b o e hx => by
    by_cases hb : b ∈ frs outer
    · obtain ⟨_, o', e2, d⟩ := f.fly.funs.mem hb
      obtain ⟨sl, e3⟩ := up b _ e2 d
      exact ⟨_, e3⟩
    · obtain ⟨o', e1⟩ := f.thereB b o e hb
      exact ⟨o', fl.stay b o' e1⟩
  tups := f.un.tups
  frzs := f.un.frzs
  tbls := f.un.tbls
end
noncomputable def qa4 (H : Hp) (a : Addr) : Hp := fun b => if b = a then none else H b
theorem Gi {H : Hp} {a b : Addr} (h : b ≠ a) : qa4 H a b = H b := by unfold qa4; rw [if_neg h]
theorem Bg {H : Hp} {a : Addr} : qa4 H a a = none := by unfold qa4; rw [if_pos rfl]
theorem Mw {H : Hp} {a : Addr} (h : H a = none) : qa4 H a = H := funext fun b => by
 by_cases q : b = a
 ·rw [q, Bg, h]
 ·exact Gi q
theorem Yu {H : Hp} {a b : Addr} (h : H b = none) : qa4 H a b = none := by
 by_cases q : b = a
 ·rw [q, Bg]
 ·rw [Gi q, h]
noncomputable def LooseAt (H : Hp) (a : Addr) : Prop := H a = none \/ ∃ φ, H a = some (.ext φ)
theorem LooseAt.ne {H : Hp} {a b : Addr} {o : HO} (l : LooseAt H a) (e : H b = some o) (h : ∀ φ, o ≠ .ext φ) : b ≠ a := by
 rintro rfl
 rcases l with z | ⟨φ, z⟩
 ·rw [z] at e; cases e
 ·rw [z] at e; cases e; exact h φ rfl
noncomputable def qw7 (X : Cx) (E : XK) : Prop := ∀ (pins : List (Addr × Obj)) (σ : St) (H : Hp) (s : Shared) (h' : Heap) (ea : Addr) (cls : Value) (args : List Value), Inv X pins σ H s -> Heap.MadeExcOf s.heap h' ea cls args -> E cls none H -> X.xe (.ref ea) { s with heap := h' }
noncomputable def qh4 (X : Cx) (E : XK) : Prop := ∀ (pins : List (Addr × Obj)) (σ : St) (H : Hp) (s : Shared) (ea : Addr) (oe : Obj) (vs : Array Value), Inv X pins σ H s -> s.heap.get? ea = some oe -> oe.data = .fields vs -> 1 < vs.size -> vs[1]? = some .none -> (oe.dict ≠ none -> vs[2]? = some .none) -> X.s₀.heap.get? ea = none -> LooseAt H ea ->
 E oe.cls oe.dict (qa4 H ea) -> X.xe (.ref ea) s
section
variable {P : Program} {w : World} {K : PySem.W.Frag} {mg : Str -> Option Value} {base : Heap} {N : List Str} {qual : Str} {scope : Scope} {f : Addr} {cd : Value} {A : Around} {outer : List Env} {s₀ : Shared} {H₀ : Hp} {E : XK}
theorem qb4 {pins : List (Addr × Obj)} {σ : St} {H : Hp} {s : Shared} {ea : Addr} {oe : Obj} {vs : Array Value} {h'' : Heap} (I : Inv (uq (CX1 P w base) P w K mg base N qual scope f cd A outer s₀ H₀ E) pins σ H s) (he : s.heap.get? ea = some oe) (hd : oe.data = .fields vs) (hnew : s₀.heap.get? ea = none) (lo : LooseAt H ea) (hE : E oe.cls oe.dict (qa4 H ea))
  (x1 : Sta (hideAll s.heap (ea :: frs (envOfC qual scope s₀.heap.objs.size f cd :: outer))) outer ea oe.cls oe.dict (some .none) h'') (x4 : s.heap.UpToSlots h'') : CX1 P w base outer H₀ s₀ E (.ref ea) { s with heap := h'' } := by
 have st := I.stack
 have hin : ∀ env ∈ (envOfC qual scope s₀.heap.objs.size f cd :: outer), ∀ b, env.frame = some b -> b ∈ ea :: frs (envOfC qual scope s₀.heap.objs.size f cd :: outer) := fun env he b hb => List.mem_cons_of_mem _ (List.mem_filterMap.mpr ⟨env, he, hb⟩)
 have eas : ∀ b o, s₀.heap.get? b = some o -> b ≠ ea := fun b o e z => by
  have hnew : s₀.heap.get? ea = none := hnew
  rw [z, hnew] at e; cases e
 have nst : ∀ b o, s₀.heap.get? b = some o -> b ∉ frs outer -> b ∉ ea :: frs (envOfC qual scope s₀.heap.objs.size f cd :: outer) := fun b o e hb hm => by
  rcases List.mem_cons.mp hm with z | hm
  ·exact eas b o e z
  rcases List.mem_cons.mp (I.stkSub b hm) with z | z
  ·exact absurd (Heap.lt_size e) (by rw [z]; exact Nat.not_lt.mpr I.ok.above)
  ·exact hb z
 have up : s.heap.UpToSlots h'' := x4
 have inB : ∀ b o, s.heap.get? b = some o -> b ∉ ea :: frs (envOfC qual scope s₀.heap.objs.size f cd :: outer) -> (hideAll s.heap (ea :: frs (envOfC qual scope s₀.heap.objs.size f cd :: outer))).get? b = some o := fun b o e hb => hideAll_get _ e hb
 have fwd : ∀ b o, H b = some o -> (∀ φ, o ≠ .ext φ) -> qa4 H ea b = some o := fun b o e h => by rw [Gi (lo.ne e h)]; exact e
 have nb : ∀ b, (∃ o, H b = some o /\ ∀ φ, o ≠ .ext φ) \/ (b ≠ ea /\ H b ≠ none) -> b ∉ ea :: frs (envOfC qual scope s₀.heap.objs.size f cd :: outer) := fun b h hm => by
  have hne : b ≠ ea := by
   rcases h with ⟨o, e, h⟩ | h
   ·exact lo.ne e h
   ·exact h.1
  rcases List.mem_cons.mp hm with z | hm
  ·exact hne z
  have hf := I.stkFree b hm
  rcases h with ⟨o, e, _⟩ | h
  ·rw [hf] at e; cases e
  ·exact h.2 hf
 refine ⟨ea, oe.cls, oe.dict, _, qa4 H ea, rfl, ⟨I.os, I.bare, x1, fun a o e => ?_, fun b o e => ?_, ⟨fun b o e n hb _ => ?_, fun b o e n hb _ => ?_, fun b o e n _ => Yu (I.base.free b o e n (by intro z; cases z)), fun b o e _ => ?_,
  fun b xs e => fwd b _ (I.base.tups b xs e) (by intro φ z; cases z), fun b o u e => fwd b _ (I.base.frzs b o u e) (by intro φ z; cases z), fun b ps e => ?_⟩, fun b o e n hb => ?_, fun b o e hb => ?_⟩, hE⟩
 ·have ne : a ≠ ea := fun z => by rw [z, Bg] at e; cases e
  rw [Gi ne] at e
  refine (I.hok a o e).stay (fun b u hb q => inB b u q (nb b ?_)) (fun b q => fwd b _ q (by intro φ z; cases z)) fun b xs q => fwd b _ q (by intro φ z; cases z)
  rcases hb with rfl | hb
  ·exact .inr ⟨ne, by rw [e]; intro z; cases z⟩
  ·exact .inl ⟨_, hb, by intro φ z; cases z⟩
 ·refine inB b o (I.bk b o e) fun hm => ?_
  have hb := I.bs b o e
  rcases List.mem_cons.mp hm with z | hm
  ·obtain ⟨o', e'⟩ := I.ok.bs b o e
   exact eas b o (I.ok.bs b o e).1 z
  have z : base.get? b = none := (st.mem hm).1
  rw [z] at e; cases e
 ·exact x1.stay b o (inB b o (I.base.keep b o e n hb (by intro z; cases z)) (nst b o e hb))
 ·obtain ⟨sl, e1⟩ := I.base.slot b o e n hb (by intro z; cases z)
  obtain ⟨_, o', e2, d⟩ := I.ok.funs.mem hb
  have e2 : s₀.heap.get? b = some o' := e2
  rw [e] at e2
  have e2 := Option.some.inj e2
  subst e2
  obtain ⟨sl', e3⟩ := up b _ e1 d
  exact ⟨sl', e3⟩
 ·obtain ⟨o', e1⟩ := I.base.there b o e (by intro z; cases z)
  by_cases hb : b ∈ frs (envOfC qual scope s₀.heap.objs.size f cd :: outer)
  ·obtain ⟨_, o2, e2, d⟩ := st.mem hb
   obtain ⟨sl, e3⟩ := up b _ e2 d
   exact ⟨_, e3⟩
  ·exact ⟨o', x1.stay b o' (inB b o' e1 (by
    intro hm
    rcases List.mem_cons.mp hm with z | hm
    ·exact eas b o e z
    ·exact hb hm))⟩
 ·obtain ⟨m, e1⟩ := I.base.tbls b ps e
  exact ⟨m, fwd b _ e1 (by intro φ z; cases z)⟩
 ·exact inB b o (I.base.keep b o e n hb (by intro z; cases z)) (nst b o e hb)
 ·obtain ⟨o', e1⟩ := I.base.there b o e (by intro z; cases z)
  exact ⟨o', inB b o' e1 (nst b o e hb)⟩
theorem Zq {pins : List (Addr × Obj)} {σ : St} {H : Hp} {s : Shared} {ea : Addr} {oe : Obj} {vs : Array Value} (I : Inv (uq (CX1 P w base) P w K mg base N qual scope f cd A outer s₀ H₀ E) pins σ H s) (he : s.heap.get? ea = some oe) (hd : oe.data = .fields vs) (hz : 1 < vs.size) (h1 : vs[1]? = some .none) (hcx : oe.dict ≠ none -> vs[2]? = some .none) :
  Sta (hideAll s.heap (ea :: frs (envOfC qual scope s₀.heap.objs.size f cd :: outer))) (envOfC qual scope s₀.heap.objs.size f cd :: outer) ea oe.cls oe.dict none s.heap := by
 have st := I.stack
 have hin : ∀ env ∈ (envOfC qual scope s₀.heap.objs.size f cd :: outer), ∀ b, env.frame = some b -> b ∈ ea :: frs (envOfC qual scope s₀.heap.objs.size f cd :: outer) := fun env he b hb => List.mem_cons_of_mem _ (List.mem_filterMap.mpr ⟨env, he, hb⟩)
 exact ⟨fun b o q => of_hideAll _ q, hideAll_none _ List.mem_cons_self, funFrames_hide st hin, oe, vs, he, rfl, rfl, hd, hz, h1, hcx⟩
theorem v7 : qh4 (uq (CX1 P w base) P w K mg base N qual scope f cd A outer s₀ H₀ E) E := by
 intro pins σ H s ea oe vs I he hd hz h1 hcx hnew lo hE
 exact Z4 I.ok.frames rfl (.inl rfl) (Zq I he hd hz h1 hcx) fun h'' x1 x4 => qb4 I he hd hnew lo hE x1 x4
theorem qq3 {X : Cx} (hex : X.ex = []) (L : qh4 X E) : qw7 X E := by
 intro pins σ H s h' ea cls args I mx hE
 obtain ⟨t, he, _⟩ := mx.there
 have hn : H ea = none := by
  cases q : H ea with
  | none => rfl
  | some o =>
   obtain ⟨u, z⟩ := ObjOk.there (I.hok ea o q)
   rw [mx.new] at z; cases z
 refine L pins σ H { s with heap := h' } ea _ _ (I.kept (t' := s.toks) mx.keeps) he rfl (by simp) rfl (fun z => absurd rfl z) ?_ (.inl hn) ?_
 ·cases q : X.s₀.heap.get? ea with
  | none => rfl
  | some o =>
   obtain ⟨o', z⟩ := I.base.there ea o q (by rw [hex]; intro z; cases z)
   rw [mx.new] at z; cases z
 ·rw [Mw hn]; exact hE
theorem U7 : qw7 (uq (CX1 P w base) P w K mg base N qual scope f cd A outer s₀ H₀ E) E := qq3 rfl v7
end
noncomputable def qi8 (C : Addr) (E : XK) (t : TA) : TS := fun _ σ H => t σ H fun vs H1 => vs.length <= sizeLine /\ E (.ref C) none H1
theorem qf7 {X : Cx} {x : Str} {C : Addr} {bmB : List Value} {newId B initId : String} {E : XK} {e0 : Expr} {t : TA} {np cpos pos : Pos} (FB : ExcBaseFacts B newId initId bmB) (O : OwnCls x C bmB newId X.mg X.base) (hc : X.calm = true) (hg : Gl X x) (L : qw7 X E) (ha : PA X [e0] t)
  (hdb : (x == ("__debug__" : Str)) = false := by decide) (he : starEach [e0] X.env = (false, eval e0 X.env) :: starEach [] X.env := by rfl) (hpl : (backTo cpos (starEach [] X.env)).any (·.1) = false := by rfl) :
  PS X (.Raise (some (.Call (.Name x np) [e0] [] cpos)) none pos) (qi8 C E t) := by
 intro pins s σ H D I h
 obtain ⟨tl, N, nm, q, bs, hdct, sn, sub, ab, col, dd, k0, k1, k2, k3, k5, mN, hC, hN, hni, T⟩ := O.obj
 have hpl2 : (backTo cpos (starEach [e0] X.env)).any (·.1) = false := by
  rw [he]
  show (false || (backTo cpos (starEach [] X.env)).any (·.1)) = false
  rw [hpl]; rfl
 refine wpAny_Raise_call_subT (C := C) (nm := nm) (q := q) (N := N) (bs := bs) (bm := tl) (hdct := hdct) (sn := sn) (sub := sub) (ab := ab) (col := col) (dd := dd) (k0 := k0) (k1 := k1) (k2 := k2) (k3 := k3) (k5 := k5)
  FB (mN := mN) (T.hasType FB.hasBase) (I.ok.hd hc) hpl2 hni (vo I hg O.bound ⟨rfl, ?_⟩ hdb)
 have hh := thn (ha cpos pins s σ H _ I h) (Q' := fun vs s₂ => vs.length <= sizeLine /\ (∀ b o, X.base.get? b = some o -> s₂.heap.get? b = some o) /\ ∀ h' e, Heap.MadeExcOf s₂.heap h' e (.ref C) vs -> X.xe (.ref e) { s₂ with heap := h' }) fun us s1 ⟨vs, H1, I1, r1, z, q1⟩ =>
  ⟨by rw [← r1.length]; exact z, I1.bk, fun h' e mx => L pins σ H1 s1 h' e _ _ I1 mx q1⟩
 rw [he] at hh ⊢
 exact Calls.evalArgs_plain (wpAny_mono hh (fun vs s₂ h₂ => ⟨rfl, h₂.1, h₂.2.1 _ _ hC, hN.keeps h₂.2.1, T.keeps h₂.2.1, h₂.2.2⟩) fun _ _ y => y)
noncomputable def Xk (X : Cx) (ea : Addr) (oe : Obj) : Cx := { X with A := X.A.mark (some (.ref ea)), calm := false, pn := (ea, oe) :: X.pn, xe := fun _ _ => False }
theorem Inv.toEx {X : Cx} {pins : List (Addr × Obj)} {σ : St} {H : Hp} {s : Shared} {ea : Addr} {oe : Obj} {vs : Array Value} (I : Inv X pins σ H s) (he : s.heap.get? ea = some oe) (hd : oe.data = .fields vs) (hn : H ea = none) : Inv (Xk X ea oe) pins σ H s where
  ok := ⟨I.ok.mod, I.ok.kind, I.ok.glob, I.ok.blt, I.ok.above, I.ok.inj, I.ok.has, I.ok.cab, fun z => (by cases z), I.ok.frames, I.ok.stk, I.ok.exf, I.ok.bs, I.ok.bsz, I.ok.noex, I.ok.exfs, I.ok.funs, I.ok.frf⟩
  os := I.os
  bare := I.bare
  base := I.base
  loc := I.loc
  cell := I.cell
  free := I.free
  freeC := I.freeC
  pin := fun p hp => by
    rcases List.mem_cons.mp hp with rfl | hp
    · refine ⟨he, hn, fun z => ?_, fun z => ?_, fun v z => by rw [hd] at z; cases z⟩
      · obtain ⟨m, ⟨o, es, ep, ho, hdo, _⟩, _⟩ := I.loc
        have z : ea = X.env.locals := z
        rw [← z, he] at ho
        cases ho
        rw [hd] at hdo; cases hdo
      · obtain ⟨_, o, ho, d⟩ := I.funs.mem z
        have ho : s.heap.get? ea = some o := ho
        rw [he] at ho
        cases ho
        exact d vs hd
    · exact I.pin p hp
  hok := I.hok
  len := I.len
theorem Inv.ofEx {X : Cx} {pins : List (Addr × Obj)} {σ : St} {H : Hp} {s : Shared} {ea : Addr} {oe : Obj} (ok : X.Ok) (I : Inv (Xk X ea oe) pins σ H s) : Inv X pins σ H s :=
 ⟨ok, I.os, I.bare, I.base, I.loc, I.cell, I.free, I.freeC, fun p hp => I.pin p (List.mem_cons_of_mem _ hp), I.hok, I.len⟩
theorem SP.ofEx {X : Cx} {pins : List (Addr × Obj)} {D : Ends} {f : Flow} {s : Shared} {ea : Addr} {oe : Obj} (ok : X.Ok) (h : SP (Xk X ea oe) pins D f s) : SP X pins D f s := by
 cases f with
 | next => obtain ⟨σ', H', I, q⟩ := h; exact ⟨σ', H', I.ofEx ok, q⟩
 | brk => obtain ⟨σ', H', I, q⟩ := h; exact ⟨σ', H', I.ofEx ok, q⟩
 | cont => obtain ⟨σ', H', I, q⟩ := h; exact ⟨σ', H', I.ofEx ok, q⟩
 | ret u => obtain ⟨v, σ', H', I, r, q⟩ := h; exact ⟨v, σ', H', I.ofEx ok, r, q⟩
theorem Ut {M : Model} {h : Heap} {ea : Addr} {oe : Obj} {cls : Value} (he : h.get? ea = some oe) (hc : oe.cls = cls) : Looks M h (typeOf (.ref ea)) cls := hc ▸ (Looks.ld he).andThen .now
theorem landed {X : Cx} {pins : List (Addr × Obj)} {σ : St} {H H' : Hp} {s s' : Shared} {ea : Addr} {cls : Value} {dd : Option Addr} {B h' : Heap} (I : Inv X pins σ H s) (F : Fly X.prog X.w X.base X.stack H s s' ea cls dd B H') (fl : Sta B X.stack ea cls dd (some .none) h') (up : s'.heap.UpToSlots h') :
  ∃ oe vs, Inv X pins σ H' { s' with heap := h' } /\ h'.get? ea = some oe /\ oe.cls = cls /\ oe.data = .fields vs := by
 have u := F.go fl up
 obtain ⟨oe, vs, he, hc, hq, hd, _⟩ := fl.obj
 exact ⟨oe, vs, I.call' (s' := { s' with heap := h' }) (ch := []) F.os u (F.hok.kept fun b o q => fl.stay b o q) F.bare (fun b z => absurd z (by simp)), he, hc, hd⟩
theorem Fly.on {P : Program} {w : World} {base : Heap} {outer : List Env} {H H' : Hp} {s s' : Shared} {ea : Addr} {cls : Value} {dd : Option Addr} {B h' : Heap} (F : Fly P w base outer H s s' ea cls dd B H') (fl : Sta B outer ea cls dd (some .none) h') (up : s'.heap.UpToSlots h') :
  Fly P w base outer H s { s' with heap := h' } ea cls dd B H' := ⟨F.os, F.bare, fl, F.hok, F.bst, F.go fl up, F.keepB, F.thereB⟩
noncomputable def Catch (X : Cx) (pins : List (Addr × Obj)) (D : Ends) (hs : List ExceptHandler) : Value -> Shared -> Prop := fun e s₁ =>
 wpAny (model X.prog X.w) X.A (noteFrame e X.env) (fun _ s₂ => wpAny (model X.prog X.w) X.A (setFlight e none) (fun _ s₃ => wpAny (model X.prog X.w) X.A (handleBy e X.env hs) (SP X pins D) X.xe s₃) X.xe s₂) X.xe s₁
theorem qs0 {X : Cx} {pins : List (Addr × Obj)} {σ : St} {H H' : Hp} {s s' : Shared} {ea L : Addr} {cls : Value} {dd : Option Addr} {B : Heap} {D : Ends} {x : Str} {C : Addr} {np hpos : Pos} {b0 : Stmt} {suite : List Stmt} {rest : List ExceptHandler} {ts : TS} {env0 : List Env}
  (hst : X.stack = X.env :: env0) (hfr : X.env.frame = some L) (hg : Gl X x) (hm : X.mg x = some (.ref C)) (hx : exmOne X.K cls (.ref C) = some true) (I : Inv X pins σ H s) (F : Fly X.prog X.w X.base X.stack H s s' ea cls dd B H')
  (hsu : ∀ oe, oe.cls = cls -> PSs (Xk X ea oe) (b0 :: suite) ts) (q : ts D σ H') (hdb : (x == ("__debug__" : Str)) = false := by decide) :
  Catch X pins D (.ExceptHandler (some (.Name x np)) none (b0 :: suite) hpos :: rest) (.ref ea) s' := by
 have frs1 : X.A.frames = some (X.env :: env0) := by rw [← hst]; exact I.ok.frames
 have fly1 := F.fly
 rw [hst] at fly1
 refine Bq frs1 hfr (.inr rfl) fly1 fun h1 held1 up1 => ?_
 refine uv held1 fun h2 fl2 up2 => ?_
 rw [← hst] at fl2
 have F2 := F.on fl2 (up1.trans up2)
 obtain ⟨oe, vs, I2, he2, hc2, hd2⟩ := landed I F fl2 (up1.trans up2)
 have X2 := I2.toEx (oe := oe) he2 hd2 F.notB
 refine wpAny_handleBy_cons (codeAny_handlers_test ?_) (by intro z; cases z)
 refine vo X2 hg hm ?_ hdb
 refine (exm_one I2.kIn (Ut he2 hc2) hx).here ?_
 rw [if_pos rfl]
 refine codeAny_handlers_suite ?_
 refine uv fl2 fun h3 fl3 up3 => ?_
 obtain ⟨oe3, vs3, I3, he3, hc3, hd3⟩ := landed I F2 fl3 up3
 have X3 := I3.toEx (oe := oe3) he3 hd3 F.notB
 refine wpAny_mono (hsu oe3 hc3 pins _ σ H' D X3 q) (fun fl s4 h4 => ?_) fun _ _ z => z.elim
 exact SP.ofEx I.ok h4
structure Cal1 (P : Program) (w : World) (K : PySem.W.Frag) (mg : Str -> Option Value) (base : Heap) (k : Nat) (x : Str) (ps : List Str) (sp : Sp) : Prop where
  ex : ∃ (f : Addr) (fd : FuncData), FnOk P w K mg base (CX1 P w base) k f fd ps sp /\ mg x = some (.ref f) /\ PySem.W.keepIn K (.ref f) = true /\ Binds K fd ps []
theorem qv9 {P : Program} {w : World} {base : Heap} {X : Cx} : Uh (CX1 P w base) X E0 := fun _ _ _ _ _ _ _ ⟨_, _, _, _, _, _, _, h⟩ => h.elim
theorem Yr {X : Cx} {k : Nat} {x : Str} {ps : List Str} {sp : Sp} {e : Expr} {es : List Expr} {t : TA} {p pos : Pos} (c : Cal1 X.prog X.w X.K X.mg X.base k x ps sp) (hr : Room k X.A) (hg : Gl X x) (ha : PA X (e :: es) t)
  (hdb : (x == ("__debug__" : Str)) = false := by decide) (he : starEach (e :: es) X.env = (false, eval e X.env) :: starEach es X.env := by rfl) (hpl : (backTo pos (starEach es X.env)).any (·.1) = false := by rfl) :
  PE X (.Call (.Name x p) (e :: es) [] pos) (qm8 sp [] E0 t) := by
 obtain ⟨f, fd, F, hm, hk, hb⟩ := c.ex
 exact qa1 F hr hg hm hk hb .nil qv9 ha hdb he hpl
theorem Fun.ok1 {P : Program} {w : World} {K : PySem.W.Frag} {mg : Str -> Option Value} {base : Heap} {x qual : Str} {st : Stmt} {f : Addr} {fd : FuncData} {N ps : List Str} {k : Nat} {sp : Sp} (F : Fun K x qual st f fd) (S : FnScope N ps (qj st)) (len : ∀ vs H Q E, sp vs H Q E -> vs.length = ps.length)
  (hbody : ∀ (cdv : Value) (A : Around) (outer : List Env) (s : Shared) (H : Hp) (vs : List V) (Q : VK) (E : XK), Room k (A.deeper (envOfC qual (qj st) s.heap.objs.size f cdv)) -> sp vs H Q E ->
   ∃ t, PSs (uq (CX1 P w base) P w K mg base N qual (qj st) f cdv A outer s H E) (je st) t /\ t { nx := fun _ H' => Q .non H', rt := Q } (start N vs) H) : FnOk P w K mg base (CX1 P w base) (k + 1) f fd ps sp := by
 obtain ⟨oc, od, kV, doc, pm, an, cdv, ct, osl, rfl, lk, hcd⟩ := F.ex
 exact qu3 lk hcd S len fun A outer s H vs Q E hr hsp => hbody cdv A outer s H vs Q E hr hsp
theorem At0.cal1 {P : Program} {w : World} {K : PySem.W.Frag} {mg : Str -> Option Value} {base h : Heap} {k : Nat} {x : Str} {st : Stmt} {ps : List Str} {sp : Sp} (a : At0 K x st) (X : K.In h) (G : h.Ns mainGlobals mg)
  (hb : ∀ (kV doc pm : Value) (an : Option Addr) (cdv ct : Value) (us : List Value), us.length = ps.length -> bindArgs (PySem.W.fnOf x x (Aa st) (je st) (qj st) .none kV doc pm an cdv ct) ⟨us, []⟩ = pure (ps.zip us))
  (ok : ∀ (f : Addr) (fd : FuncData), Fun K x x st f fd -> FnOk P w K mg base (CX1 P w base) k f fd ps sp) : Cal1 P w K mg base k x ps sp := by
 obtain ⟨f, fd, F, e⟩ := a.ex
 exact ⟨f, fd, ok f fd F, PySem.W.mg_of X G e, F.kp, F.binds hb⟩
structure ExcC (K : PySem.W.Frag) (mg : Str -> Option Value) (base : Heap) (x : Str) (C : Addr) : Prop where
  own : ∃ bmB newId B initId, ExcBaseFacts B newId initId bmB /\ OwnCls x C bmB newId mg base
  mg : mg x = some (.ref C)
theorem qj0 {K : PySem.W.Frag} {base : Heap} {mg : Str -> Option Value} {x : Str} {C : Addr} {bmB : List Value} {newId : String} (X : K.In base) (G : base.Ns mainGlobals mg) (e : nsIn K mainGlobals x = some (some (.ref C))) (q : excIn K C bmB newId = true) : OwnCls x C bmB newId mg base := by
 refine ⟨mg_of X G e, ?_⟩
 unfold excIn at q
 split at q
 ·rename_i dd cd sl ho
  split at q
  ·rename_i C' bm k0 k1 k2 k3 n k5 hm hs
   simp only [Bool.and_eq_true, beq_iff_eq, Bool.not_eq_true'] at q
   obtain ⟨⟨⟨⟨⟨e1, e2⟩, hdel⟩, htl⟩, hok⟩, hni⟩ := q
   subst e1 e2
   obtain ⟨nm, bs, mro, ns, qn, hd, sn, sub, ab, col, del⟩ := cd
   simp only at hm hdel hok hni
   subst hm hdel
   have hsl : sl = #[k0, k1, k2, k3, some (.builtin n), k5] := by
    cases sl
    simp only at hs
    rw [hs]
   subst hsl
   exact ⟨bm, ns, nm, qn, bs, hd, sn, sub, ab, col, dd, k0, k1, k2, k3, k5, _, X _ _ ho, .of_isNs (isNs_of_in X hok), nsMap_none_of_in X hok hni, tail_of_in X htl⟩
  ·cases q
 ·cases q
theorem Qh {X : Cx} {x : Str} {C : Addr} {E : XK} {e0 : Expr} {t : TA} {np cpos pos : Pos} (O : ExcC X.K X.mg X.base x C) (hc : X.calm = true) (hg : Gl X x) (L : qw7 X E) (ha : PA X [e0] t)
  (hdb : (x == ("__debug__" : Str)) = false := by decide) (he : starEach [e0] X.env = (false, eval e0 X.env) :: starEach [] X.env := by rfl) (hpl : (backTo cpos (starEach [] X.env)).any (·.1) = false := by rfl) :
  PS X (.Raise (some (.Call (.Name x np) [e0] [] cpos)) none pos) (qi8 C E t) := by
 obtain ⟨bmB, newId, B, initId, FB, O⟩ := O.own
 exact qf7 FB O hc hg L ha hdb he hpl
section
variable {X : Cx} {k : Nat} {x y : Str} {C L : Addr} {ps : List Str} {sp : Sp} {e : Expr} {es : List Expr} {t : TA} {ts : TS} {env0 : List Env} {p np pos epos tpos hpos : Pos} {b0 : Stmt} {suite : List Stmt}
theorem J0 {pins : List (Addr × Obj)} {s : Shared} {σ : St} {H : Hp} {Q : VK} {E : XK} {XE : Value -> Shared -> Prop} (c : Cal1 X.prog X.w X.K X.mg X.base k x ps sp) (hr : Room k X.A) (hg : Gl X x) (ha : PA (X.wish XE) (e :: es) t) (I : Inv X pins σ H s)
  (hx : ∀ (H1 : Hp) (s1 : Shared) (v : Value) (s2 : Shared), Inv X pins σ H1 s1 -> CX1 X.prog X.w X.base X.stack H1 s1 E v s2 -> XE v s2) (h : t σ H fun vs H1 => sp vs H1 Q E)
  (hdb : (x == ("__debug__" : Str)) = false) (he : starEach (e :: es) X.env = (false, eval e X.env) :: starEach es X.env) (hpl : (backTo pos (starEach es X.env)).any (·.1) = false) :
  wpAny (model X.prog X.w) X.A (eval (.Call (.Name x p) (e :: es) [] pos) X.env) (EP X pins σ Q) XE s := by
 obtain ⟨f, fd, F, hm, hk, hb⟩ := c.ex
 refine wpAny_Call_Name_kw (vo I hg hm ?_ hdb)
 refine PySem.W.callWith_K (h₀ := X.base) I.ok.mod.kin hk (thn (ha pos pins s σ H _ (I.wish XE) h) fun us s1 ⟨vs, H1, I1, r, q⟩ => ⟨I1.kIn, ?_⟩) he hpl
 have I1 := I1.unwish
 have hl : (us ++ ([] : List Value)).length = ps.length := by rw [List.append_nil, ← r.length]; exact F.len _ _ _ _ q
 have hb' := hb s1 us I1.kIn hl
 rw [List.append_nil] at hb'
 refine wpAny_call (codeAny_mono (F.run X.A X.stack s1 H1 ⟨us, []⟩ us vs Q E hr I1.env0 hb' r q) fun res s2 hq => ?_)
 cases res with
 | error v => exact hx H1 s1 v s2 I1 hq
 | ok fl =>
  cases fl with
  | ret u => exact I1.after hq
  | next => exact False.elim hq
  | brk => exact False.elim hq
  | cont => exact False.elim hq
noncomputable def qz6 (K : PySem.W.Frag) (C : Addr) (sp : Sp) (t : TA) (ts : TS) : TS := fun D σ H => t σ H fun vs H1 => sp vs H1 (fun _ H2 => D.nx σ H2) (fun cls _ H2 => exmOne K cls (.ref C) = some true /\ ts D σ H2)
theorem qm3 (c : Cal1 X.prog X.w X.K X.mg X.base k x ps sp) (hr : Room k X.A) (hst : X.stack = X.env :: env0) (hfr : X.env.frame = some L) (hg : Gl X x) (hgy : Gl X y) (hmy : X.mg y = some (.ref C)) (ha : ∀ XE, PA (X.wish XE) (e :: es) t)
  (hsu : ∀ ea oe, PSs (Xk X ea oe) (b0 :: suite) ts) (hdb : (x == ("__debug__" : Str)) = false := by decide) (hdy : (y == ("__debug__" : Str)) = false := by decide)
  (he : starEach (e :: es) X.env = (false, eval e X.env) :: starEach es X.env := by rfl) (hpl : (backTo pos (starEach es X.env)).any (·.1) = false := by rfl) (hsw : swapsWith (.Call (.Name x p) (e :: es) [] pos) none epos.line X.env = pure false := by rfl) :
  PS X (.Try [.Expr (.Call (.Name x p) (e :: es) [] pos) epos] [.ExceptHandler (some (.Name y np)) none (b0 :: suite) hpos] [] [] tpos) (qz6 X.K C sp t ts) := by
 intro pins s σ H D I h
 refine wpAny_Try_except ?_
 refine wpAny_execs_cons ?_
 refine wpAny_mono (wpAny_Expr_any (Q := fun f s1 => f = .next /\ ∃ H1, Inv X pins σ H1 s1 /\ D.nx σ H1) (E := Catch X pins D [.ExceptHandler (some (.Name y np)) none (b0 :: suite) hpos])
  (wpAny_mono (J0 (E := fun cls _ H2 => exmOne X.K cls (.ref C) = some true /\ ts D σ H2) (Q := fun _ H2 => D.nx σ H2) c hr hg (ha _) I (fun H1 s1 v s2 I1 ⟨ea, cls, dd, B, H', ev, F, hx, q⟩ => ?_) h hdb he hpl) (fun v s1 ⟨z, H1, I1, _, q⟩ => ⟨rfl, H1, I1, q⟩) fun _ _ z => z) I.quiet hsw) (fun f s1 ⟨ef, H1, I1, q⟩ => ?_) fun _ _ z => z
 ·subst ef
  exact wpAny_execs_nil (wpAny_execs_nil ⟨σ, H1, I1, q⟩)
 ·subst ev
  exact qs0 hst hfr hgy hmy hx I1 F (fun oe _ => hsu ea oe) q hdy
end
theorem Tg {prog : Program} {w : World} {A : Around} {E : Value -> Shared -> Prop} {s : Shared} {x c t : Value} {K : PySem.W.Frag} {Q : Value -> Shared -> Prop} (X : K.In s.heap) (LT : Looks (model prog w) s.heap (typeOf x) t) (ne : (t == c) = false) (e : kitOne K t c = some true)
  (hx : x ≠ .builtin "__main__.__loader__#opaque") (h : Q (.bool true) s) : wpAny (model prog w) A (call (.builtin "isinstance") [x, c]) Q E s := by
 refine call_isinstance_of ?_ hx
 obtain ⟨hh, g, d, tk, os⟩ := s
 unfold kitOne at e
 rw [if_neg (by rw [ne]; exact Bool.false_ne_true)] at e
 unfold Builtin.«isinstance.nested»
 refine wpAny_bind (LT.at ?_)
 rw [if_neg (by rw [ne]; exact Bool.false_ne_true)]
 obtain ⟨hty, his, hsub⟩ := kit_cls (M := model prog w) X e
 have LI : Looks (model prog w) hh (isInstance x c) true := LT.andThen hsub
 refine wpAny_bind (hty.at ?_)
 rw [if_pos (by decide)]
 k_delta "plainIsInstance"
 refine wpAny_bind (wpAny_bind (his.at ?_))
 simp only [Bool.not_true, Bool.false_eq_true, if_false]
 refine wpAny_bind (LI.at ?_)
 first
  | exact wpAny_pure (wpAny_pure h)
  | (simp only [if_true]; first | exact wpAny_pure (wpAny_pure h) | exact wpAny_pure h | exact wpAny_bind (wpAny_pure (wpAny_pure h)))
theorem Wy {X : Cx} {ea : Addr} {oe : Obj} {T : String} : wu (Xk X ea oe) (.builtin "isinstance") (fun xs H Q => xs = [.ref ea, .ty T] /\ (oe.cls == .type T) = false /\ kitOne X.K oe.cls (.type T) = some true /\ Q (.bl true) H) := by
 intro pins s σ H xs us Q I r h
 obtain ⟨rfl, ne, e, q⟩ := h
 obtain ⟨u, w', rfl, r1, r2⟩ := vals2 r
 cases r1
 cases (show w' = Value.type T from r2)
 have pe := (I.pin (ea, oe) List.mem_cons_self).1
 exact Tg I.kIn (Ut pe rfl) ne e (by intro z; cases z) ⟨.bl true, H, I, rfl, q⟩
theorem Inv.forgot {X : Cx} {pins : List (Addr × Obj)} {σ : St} {H : Hp} {s : Shared} {m' : Str -> Option Value} {h' : Heap} {t' : Nat} (I : Inv X pins σ H s) (hn : h'.Ns X.env.locals m') (sb : Heap.SameBut X.env.locals s.heap h') : Inv X pins (List.replicate X.N.length none) H { s with heap := h', toks := t' } where
  ok := I.ok
  os := I.os
  bare := I.bare
  base := by
    have ne : ∀ b o, X.s₀.heap.get? b = some o -> b ≠ X.env.locals := fun b o e => Nat.ne_of_lt (Nat.lt_of_lt_of_le (Heap.lt_size e) I.ok.above)
    refine ⟨fun b o e n hb hx => (sb.2 b (ne b o e)).trans (I.base.keep b o e n hb hx), fun b o e n hb hx => ?_, I.base.free, fun b o e hx => ?_, I.base.tups, I.base.frzs, I.base.tbls⟩
    · obtain ⟨sl, e1⟩ := I.base.slot b o e n hb hx
      exact ⟨sl, (sb.2 b (ne b o e)).trans e1⟩
    · obtain ⟨o', e1⟩ := I.base.there b o e hx
      exact ⟨o', (sb.2 b (ne b o e)).trans e1⟩
  loc := ⟨m', hn, fun i x v _ e _ => by
    rw [List.getElem?_replicate] at e
    split at e
    · cases e
    · cases e⟩
  cell := fun x c e => by
    obtain ⟨v, z⟩ := I.cell x c e
    exact ⟨v, z.sameBut sb (I.cne x c e)⟩
  free := I.free
  freeC := I.freeC
  pin := fun p hp => by
    obtain ⟨e, n, ne, nf, d⟩ := I.pin p hp
    exact ⟨(sb.2 p.1 ne).trans e, n, ne, nf, d⟩
  hok := fun b ob e => by
    refine (I.hok b ob e).stay (fun c w' hc q => (sb.2 c ?_).trans q) (fun _ q => q) fun _ _ q => q
    rintro rfl
    rcases hc with hc | hc
    · rw [← hc, I.free] at e; cases e
    · rw [I.free] at hc; cases hc
  len := by simp
theorem qq7 {X : Cx} {pins : List (Addr × Obj)} {σ : St} {H H' : Hp} {s s' : Shared} {ea L : Addr} {cls : Value} {dd : Option Addr} {B : Heap} {D : Ends} {y n : Str} {C : Addr} {i : Nat} {np hpos p1 p2 p3 p4 p5 : Pos} {rest : List ExceptHandler} {env0 : List Env}
    (hst : X.stack = X.env :: env0) (hfr : X.env.frame = some L) (hg : Gl X y) (hm : X.mg y = some (.ref C)) (hx : exmOne X.K cls (.ref C) = some true) (I : Inv X pins σ H s) (F : Fly X.prog X.w X.base X.stack H s s' ea cls dd B H')
    (hN : X.N.Nodup) (hi : X.N[i]? = some n) (hl : X.env.scope.names.lookup n = some .local) (hgI : Gl X "isinstance") (hmI : X.mg "isinstance" = none) (hgV : Gl X "ValueError") (hmV : X.mg "ValueError" = none)
    (ne : (cls == .type "ValueError") = false) (hk : kitOne X.K cls (.type "ValueError") = some true) (q : D.rt (.bl true) H') (hdb : (y == ("__debug__" : Str)) = false := by decide) (hdn : (n == ("__debug__" : Str)) = false := by decide) (hcn : (n == ("__classdict__" : Str)) = false := by decide)
    (he : starEach [.Name n p2, .Name "ValueError" p3] X.env = (false, eval (.Name n p2) X.env) :: starEach [.Name "ValueError" p3] X.env := by rfl) (hpl : (backTo p4 (starEach [.Name "ValueError" p3] X.env)).any (·.1) = false := by rfl) :
    Catch X pins D (.ExceptHandler (some (.Name y np)) (some n) [.Return (some (.Call (.Name "isinstance" p1) [.Name n p2, .Name "ValueError" p3] [] p4)) p5] hpos :: rest) (.ref ea) s' := by
  have frs1 : X.A.frames = some (X.env :: env0) := by rw [← hst]; exact I.ok.frames
  have fly1 := F.fly
  rw [hst] at fly1
  refine Bq frs1 hfr (.inr rfl) fly1 fun h1 held1 up1 => ?_
  refine uv held1 fun h2 fl2 up2 => ?_
  rw [← hst] at fl2
  have F2 := F.on fl2 (up1.trans up2)
  obtain ⟨oe, vs, I2, he2, hc2, hd2⟩ := landed I F fl2 (up1.trans up2)
  have X2 := I2.toEx (oe := oe) he2 hd2 F.notB
  refine wpAny_handleBy_cons (codeAny_handlers_test ?_) (by intro z; cases z)
  refine vo X2 hg hm ?_ hdb
  refine (exm_one I2.kIn (Ut he2 hc2) hx).here ?_
  rw [if_pos rfl]
  refine codeAny_handlers_suite_as ?_
  refine uv fl2 fun h3 fl3 up3 => ?_
  obtain ⟨oe3, vs3, I3, he3, hc3, hd3⟩ := landed I F2 fl3 up3
  have X3 := I3.toEx (oe := oe3) he3 hd3 F.notB
  refine Aj (X := Xk X ea oe3) (v := .ref ea) X3 hN hi (.inl hl) rfl (fun s4 X4 => ?_) (.inr hl)
  have hiσ : i < σ.length := by rw [I.len]; exact (List.getElem?_eq_some_iff.mp hi).1
  have vis : Vis (Xk X ea oe3).env.scope n := .inl hl
  have term : PSs (Xk X ea oe3) [.Return (some (.Call (.Name "isinstance" p1) [.Name n p2, .Name "ValueError" p3] [] p4)) p5] _ :=
    qm (qx (qy (Wy (T := "ValueError")) hgI hmI PyProof.Rows.boot_isinstance (qb (ql0 hi vis hdn hcn) (qb (ju (v := .ty "ValueError") hgV hmV PyProof.Rows.Boot.«ValueError» rfl) qi)) (he := he) (hpl := hpl)))
  refine wpAny_mono (term pins _ _ H' { nx := fun _ _ => False, rt := D.rt } X4 ⟨.ref ea, by rw [List.getElem?_set_self hiσ], rfl, by rw [hc3]; exact ne, by rw [hc3]; exact hk, q⟩) (fun fl s5 h5 => ?_) fun _ _ z => z.elim
  have h6 := SP.ofEx I.ok h5
  have fin : ∀ {σ' : St} {H5 : Hp}, Inv X pins σ' H5 s5 -> ∀ Q : Unit -> Shared -> Prop, (∀ σ'' s6, Inv X pins σ'' H5 s6 -> Q () s6) -> wpAny (model X.prog X.w) X.A (do bindName X.env n .none; unbindBehindTheSuite X.env n hpos) Q X.xe s5 := fun {σ' H5} I5 Q k => by
    obtain ⟨m, hn5, _⟩ := I5.loc
    refine wpAny_nameGoes hl hn5 (by rw [I.ok.kind]; rfl) fun h' m' hn' sb' => ?_
    exact k _ _ (I5.forgot (t' := s5.toks + 1) hn' sb')
  cases fl with
  | ret u =>
    obtain ⟨v, σ5, H5, I5, r5, q5⟩ := h6
    exact fin I5 _ fun σ'' s6 I6 => ⟨v, σ'', H5, I6, r5, q5⟩
  | next =>
    obtain ⟨σ5, H5, I5, q5⟩ := h5
    exact q5.elim
  | brk =>
    obtain ⟨σ5, H5, I5, q5⟩ := h5
    exact q5.elim
  | cont =>
    obtain ⟨σ5, H5, I5, q5⟩ := h5
    exact q5.elim
section
variable {X : Cx} {k : Nat} {x y n : Str} {C L : Addr} {ps : List Str} {sp : Sp} {e : Expr} {es : List Expr} {t : TA} {env0 : List Env} {p np pos epos tpos hpos p1 p2 p3 p4 p5 : Pos} {i : Nat}
noncomputable def qt0 (K : PySem.W.Frag) (C : Addr) (sp : Sp) (t : TA) : TS := fun D σ H => t σ H fun vs H1 => sp vs H1 (fun _ H2 => D.nx σ H2) (fun cls _ H2 => exmOne K cls (.ref C) = some true /\ (cls == .type "ValueError") = false /\ kitOne K cls (.type "ValueError") = some true /\ D.rt (.bl true) H2)
theorem qg0 (c : Cal1 X.prog X.w X.K X.mg X.base k x ps sp) (hr : Room k X.A) (hst : X.stack = X.env :: env0) (hfr : X.env.frame = some L) (hg : Gl X x) (hgy : Gl X y) (hmy : X.mg y = some (.ref C)) (ha : ∀ XE, PA (X.wish XE) (e :: es) t)
  (hN : X.N.Nodup) (hi : X.N[i]? = some n) (hl : X.env.scope.names.lookup n = some .local) (hgI : Gl X "isinstance") (hmI : X.mg "isinstance" = none) (hgV : Gl X "ValueError") (hmV : X.mg "ValueError" = none)
  (hdb : (x == ("__debug__" : Str)) = false := by decide) (hdy : (y == ("__debug__" : Str)) = false := by decide) (hdn : (n == ("__debug__" : Str)) = false := by decide) (hcn : (n == ("__classdict__" : Str)) = false := by decide)
  (he : starEach (e :: es) X.env = (false, eval e X.env) :: starEach es X.env := by rfl) (hpl : (backTo pos (starEach es X.env)).any (·.1) = false := by rfl) (hsw : swapsWith (.Call (.Name x p) (e :: es) [] pos) none epos.line X.env = pure false := by rfl)
  (he2 : starEach [.Name n p2, .Name "ValueError" p3] X.env = (false, eval (.Name n p2) X.env) :: starEach [.Name "ValueError" p3] X.env := by rfl) (hpl2 : (backTo p4 (starEach [.Name "ValueError" p3] X.env)).any (·.1) = false := by rfl) :
  PS X (.Try [.Expr (.Call (.Name x p) (e :: es) [] pos) epos] [.ExceptHandler (some (.Name y np)) (some n) [.Return (some (.Call (.Name "isinstance" p1) [.Name n p2, .Name "ValueError" p3] [] p4)) p5] hpos] [] [] tpos) (qt0 X.K C sp t) := by
 intro pins s σ H D I h
 refine wpAny_Try_except ?_
 refine wpAny_execs_cons ?_
 refine wpAny_mono (wpAny_Expr_any (Q := fun f s1 => f = .next /\ ∃ H1, Inv X pins σ H1 s1 /\ D.nx σ H1) (E := Catch X pins D [.ExceptHandler (some (.Name y np)) (some n) [.Return (some (.Call (.Name "isinstance" p1) [.Name n p2, .Name "ValueError" p3] [] p4)) p5] hpos])
  (wpAny_mono (J0 (E := fun cls _ H2 => exmOne X.K cls (.ref C) = some true /\ (cls == .type "ValueError") = false /\ kitOne X.K cls (.type "ValueError") = some true /\ D.rt (.bl true) H2) (Q := fun _ H2 => D.nx σ H2) c hr hg (ha _) I (fun H1 s1 v s2 I1 ⟨ea, cls, dd, B, H', ev, F, hx, ne, hk, q⟩ => ?_) h hdb he hpl) (fun v s1 ⟨z, H1, I1, _, q⟩ => ⟨rfl, H1, I1, q⟩) fun _ _ z => z) I.quiet hsw) (fun f s1 ⟨ef, H1, I1, q⟩ => ?_) fun _ _ z => z
 ·subst ef
  exact wpAny_execs_nil (wpAny_execs_nil ⟨σ, H1, I1, q⟩)
 ·subst ev
  exact qq7 hst hfr hgy hmy hx I1 F hN hi hl hgI hmI hgV hmV ne hk q hdy hdn hcn he2 hpl2
end
section
variable {X : Cx} {k : Nat} {x y z : Str} {C L : Addr} {ps : List Str} {sp : Sp} {e : Expr} {es : List Expr} {t : TA} {ts : TS} {env0 : List Env} {p np pos zpos apos tpos hpos : Pos} {b0 : Stmt} {suite : List Stmt} {i : Nat}
end
end L2
namespace GT
open PySem L2
end GT
namespace GT
open PySem L2
end GT
namespace GT
open PySem L2
noncomputable def Dz (x : Cell) (j : Nat) : Cell := ⟨x.top + j / x.w, x.left + j % x.w, 1, 1, if j = 0 then x.words else []⟩
noncomputable def An (x : Cell) (j : Nat) : Dd := .tup [.int ((x.top + j / x.w : Nat) : Int), .int ((x.left + j % x.w : Nat) : Int)]
theorem Wq (x : Cell) (j : Nat) : NoL (An x j) := .tup fun d hd => by
 simp only [List.mem_cons, List.mem_nil_iff, or_false] at hd
 rcases hd with rfl | rfl
 ·exact .int _
 ·exact .int _
theorem Xj (x : Cell) (l : List Nat) : ∀ d ∈ l.map (An x), NoL d := fun d hd => by
 obtain ⟨j, _, rfl⟩ := List.mem_map.mp hd
 exact Wq x j
theorem inC_part {x : Cell} {j r c : Nat} : inC (Dz x j) r c ↔ r = x.top + j / x.w /\ c = x.left + j % x.w := by
 unfold inC Dz
 show x.top + j / x.w <= r /\ r < x.top + j / x.w + 1 /\ x.left + j % x.w <= c /\ c < x.left + j % x.w + 1 ↔ _
 omega
theorem qk3 {w i j : Nat} (hj : j < w) : (i * w + j) / w = i /\ (i * w + j) % w = j := by
 have hw : 0 < w := by omega
 constructor
 ·rw [Nat.mul_comm, Nat.mul_add_div hw, Nat.div_eq_of_lt hj]; rfl
 ·rw [Nat.mul_comm, Nat.mul_add_mod, Nat.mod_eq_of_lt hj]
theorem qf4 {x : Cell} {j r c : Nat} (hj : j < x.h * x.w) (h : inC (Dz x j) r c) : inC x r c := by
 obtain ⟨e1, e2⟩ := inC_part.mp h
 have hw : 0 < x.w := Nat.pos_of_ne_zero fun e => by rw [e] at hj; omega
 have a1 : j / x.w < x.h := by rw [Nat.div_lt_iff_lt_mul hw]; exact hj
 have a2 : j % x.w < x.w := Nat.mod_lt _ hw
 generalize j / x.w = q1 at *
 generalize j % x.w = q2 at *
 exact ⟨by omega, by omega, by omega, by omega⟩
theorem Wj {x : Cell} {r c : Nat} (h : inC x r c) : ∃ j, j < x.h * x.w /\ inC (Dz x j) r c := by
 unfold inC at h
 obtain ⟨q1, q2⟩ := qk3 (w := x.w) (i := r - x.top) (j := c - x.left) (by omega)
 refine ⟨(r - x.top) * x.w + (c - x.left), ?_, inC_part.mpr ⟨by rw [q1]; omega, by rw [q2]; omega⟩⟩
 have : (r - x.top + 1) * x.w <= x.h * x.w := Nat.mul_le_mul_right _ (by omega)
 rw [Nat.succ_mul] at this
 omega
theorem Wu (x : Cell) (i : Nat) : (List.range (i * x.w)).map (An x) ++ (List.range x.w).map (fun j => Dd.tup [.int ((x.top + i : Nat) : Int), .int ((x.left + j : Nat) : Int)]) = (List.range ((i + 1) * x.w)).map (An x) := by
 rw [Nat.succ_mul, List.range_add, List.map_append, List.map_map]
 congr 1
 refine List.map_congr_left fun j hj => ?_
 obtain ⟨q1, q2⟩ := qk3 (w := x.w) (i := i) (j := j) (List.mem_range.mp hj)
 show _ = An x (i * x.w + j)
 unfold An
 rw [q1, q2]
theorem qe1 {ys : List V} {i : Nat} (h : i <= ys.length) : vm ys none (some (i : Int)) = ys.take i := by
 unfold vm
 have e1 : HT.sIx ys.length 0 none = 0 := rfl
 have e2 : HT.sIx ys.length ys.length (some (i : Int)) = i := by
  rw [HT.sIx_nat]
  omega
 rw [e1, e2]
 simp
theorem qg9 {ys : List V} {i : Nat} (h : i <= ys.length) : vm ys (some (i : Int)) none = ys.drop i := by
 unfold vm
 have e1 : HT.sIx ys.length ys.length none = ys.length := rfl
 have e2 : HT.sIx ys.length 0 (some (i : Int)) = i := by
  rw [HT.sIx_nat]
  omega
 rw [e1, e2]
 rw [List.take_of_length_le (by simp)]
end GT
namespace GT
open PySem L2
noncomputable def num (n : Nat) : Str := Str.ofString (toString (n : Int))
noncomputable def nl1 : Str := ⟨#[10]⟩
noncomputable def emp : Str := ⟨#[]⟩
noncomputable def figs : Str := "0123456789"
noncomputable abbrev Pt := Nat ⊕ Str
noncomputable def pV : Pt -> V
 | .inl n => .int n
 | .inr x => .str x
noncomputable def pS : Pt -> Str
 | .inl n => num n
 | .inr x => x
noncomputable def OkP : Pt -> Prop
 | .inl n => n <= 16
 | .inr x => WordOk x
noncomputable def um (x : Cell) : List Pt := [.inl x.top, .inl x.left, .inl x.h, .inl x.w] ++ x.words.map .inr
noncomputable def Al (R C : Nat) : List Pt := [.inl R, .inl C]
noncomputable def jh (ps : List Pt) : Str := qm6 (ps.map pS)
noncomputable def Yg (ps : List Pt) : Str := jh ps ++ nl1
noncomputable def plainT (pss : List (List Pt)) : Str := Im emp (pss.map Yg)
noncomputable def Ag (R C : Nat) (cs : List Cell) : List (List Pt) := Al R C :: cs.map um
theorem zc4 : ∀ n, n < 17 -> (1 <= (Nat.toDigits 10 n).length /\ (Nat.toDigits 10 n).length <= 2) /\ ∀ c ∈ (Nat.toDigits 10 n).map Char.toNat, 48 <= c /\ c <= 57 := by decide +kernel
theorem Qw (n : Nat) : (num n).cps.toList = (Nat.toDigits 10 n).map Char.toNat := PySem.W.KIN.signs_num n
theorem T5 {n : Nat} (h : n <= 16) : 1 <= (num n).length /\ (num n).length <= 2 := by
 have e : (num n).length = (num n).cps.toList.length := by simp [Str.length]
 rw [e, Qw, List.length_map]
 exact (zc4 n (by omega)).1
theorem T3 {n : Nat} (h : n <= 16) : ∀ c ∈ (num n).cps.toList, 48 <= c /\ c <= 57 := by
 rw [Qw]
 exact (zc4 n (by omega)).2
theorem Q3 {n : Nat} (h : n <= 16) : PySem.intText? (num n) = some (n : Int) := PySem.W.KIN.num_reads (by omega) (by omega)
theorem qr6 : ∀ c, c < 58 -> 48 <= c -> (!(Builtin.Str.occurrences figs ⟨#[c]⟩ 0 figs.length 1).isEmpty) = true := by decide +kernel
theorem sign_in : ∀ c ∈ signs.cps.toList, (!(Builtin.Str.occurrences signs ⟨#[c]⟩ 0 signs.length 1).isEmpty) = true := by decide +kernel
theorem qh5 : ∀ c ∈ signs.cps.toList, c ≠ 10 /\ c ≠ 32 := by decide +kernel
theorem qa0 {p : Pt} (h : OkP p) : ∀ c ∈ (pS p).cps.toList, c ≠ 10 /\ c ≠ 32 := by
 cases p with
 | inl n => exact fun c hc => by have := T3 h c hc; omega
 | inr x => exact fun c hc => qh5 c (h.all c hc)
theorem Wk {p : Pt} (h : OkP p) : (pS p).length <= 12 := by
 cases p with
 | inl n => have := (T5 h).2; show (num n).length <= 12; omega
 | inr x => exact h.hi
theorem Yc : ∀ n : Nat, n < 17 -> (n : Int).natAbs.log2 < 1920 := by decide +kernel
theorem Ng {p : Pt} (h : OkP p) {Q : VK} {H : Hp} (q : Q (.str (pS p)) H) : zb0 [pV p] H Q := by
 cases p with
 | inl n => exact ⟨_, rfl, .inl ⟨(n : Int), rfl, Yc n (Nat.lt_succ_of_le h), q⟩⟩
 | inr x => exact ⟨_, rfl, .inr ⟨x, rfl, q⟩⟩
theorem Ik {c y : Nat} : ∀ {ws : List (List Nat)}, y ∈ vh c ws -> y = c \/ ∃ w ∈ ws, y ∈ w
 | [], h => by simp [vh] at h
 | [w], h => .inr ⟨w, by simp, h⟩
 | w :: v :: r, h => by
  have h : y ∈ w ++ c :: vh c (v :: r) := h
  rcases List.mem_append.mp h with h | h
  ·exact .inr ⟨w, by simp, h⟩
  ·rcases List.mem_cons.mp h with h | h
   ·exact .inl h
   ·rcases Ik h with h | ⟨u, hu, h⟩
    ·exact .inl h
    ·exact .inr ⟨u, List.mem_cons_of_mem _ hu, h⟩
theorem Bx {ps : List Pt} (h : ∀ p ∈ ps, OkP p) : 10 ∉ (jh ps).cps.toList := fun z => by
 unfold jh qm6 sp1 at z
 rw [wz] at z
 rcases Ik z with z | ⟨w, hw, z⟩
 ·cases z
 ·obtain ⟨y, hy, rfl⟩ := List.mem_map.mp hw
  obtain ⟨p, hp, rfl⟩ := List.mem_map.mp hy
  exact (qa0 (h p hp) _ z).1 rfl
theorem Ac {ps : List Pt} (ne : ps ≠ []) (h : ∀ p ∈ ps, OkP p) : Txt.split (jh ps) sp1 = ps.map pS := Jj (by decide) (by simpa using ne) fun w hw z => by
 obtain ⟨p, hp, rfl⟩ := List.mem_map.mp hw
 exact (qa0 (h p hp) _ z).2 rfl
theorem Uv : ∀ (r : List Str) (acc : Array Nat), (r.foldl (fun acc p => acc ++ (#[] : Array Nat) ++ p.cps) acc).toList = acc.toList ++ (r.map fun p => p.cps.toList).flatten
 | [], acc => by simp
 | p :: r, acc => by
  rw [List.foldl_cons, Uv r]
  simp
theorem vp (ws : List Str) : (Im emp ws).cps.toList = (ws.map fun w => w.cps.toList).flatten := by
 cases ws with
 | nil => rfl
 | cons w r =>
  show ((r.foldl (fun acc p => acc ++ (#[] : Array Nat) ++ p.cps) w.cps).toList) = _
  rw [Uv]
  rfl
theorem jo (a b : Str) : (a ++ b).cps.toList = a.cps.toList ++ b.cps.toList := PySem.W.KT.app_list a b
theorem X6 (a b c : Str) : a ++ b ++ c = a ++ (b ++ c) := G7 (by rw [jo, jo, jo, jo, List.append_assoc])
theorem U3 (ws : List Str) (w : Str) : Im emp (ws ++ [w]) = Im emp ws ++ w := G7 (by rw [vp, jo, vp, List.map_append, List.flatten_append]; simp)
theorem Xi (pss : List (List Pt)) (ps : List Pt) : plainT (pss ++ [ps]) = plainT pss ++ Yg ps := by
 unfold plainT
 rw [List.map_append, List.map_singleton, U3]
noncomputable def Ir (ls : List Str) : Str := Im emp (ls.map fun x => x ++ nl1)
theorem Jh : ∀ rows : List (List Nat), (rows.map (· ++ [10])).flatten = vh 10 (rows ++ [[]])
 | [] => rfl
 | [r] => by simp [vh]
 | r :: v :: rs => by
  have ih := Jh (v :: rs)
  rw [List.map_cons, List.flatten_cons, ih]
  show r ++ [10] ++ _ = r ++ 10 :: vh 10 (v :: rs ++ [[]])
  simp
theorem Uq (ls : List Str) : Ir ls = Im nl1 (ls ++ [emp]) := G7 (by
 unfold Ir nl1
 rw [vp, wz, List.map_append, List.map_map]
 have := Jh (ls.map fun x => x.cps.toList)
 rw [List.map_map] at this
 show _ = vh 10 ((ls.map fun x => x.cps.toList) ++ [[]])
 rw [← this]
 congr 1
 refine List.map_congr_left fun x _ => ?_
 show (x ++ ⟨#[10]⟩ : Str).cps.toList = x.cps.toList ++ [10]
 rw [jo])
theorem Bs {ls : List Str} (h : ∀ x ∈ ls, 10 ∉ x.cps.toList) : Txt.split (Ir ls) nl1 = ls ++ [emp] := by
 rw [Uq]
 refine Jj (by decide) (by simp) fun w hw => ?_
 rcases List.mem_append.mp hw with hw | hw
 ·exact h w hw
 ·have : w = emp := by simpa using hw
  rw [this]
  decide
theorem qc5 {ls : List Str} (ne : ls ≠ []) : Txt.endswith (Ir ls) nl1 = true := by
 obtain ⟨qs, q, rfl⟩ : ∃ qs q, ls = qs ++ [q] := ⟨ls.dropLast, ls.getLast ne, (List.dropLast_concat_getLast _).symm⟩
 unfold Ir
 rw [List.map_append, List.map_singleton, U3, ← X6]
 exact PySem.W.KT.ends_app _ _
theorem Qe (pss : List (List Pt)) : plainT pss = Ir (pss.map jh) := by
 unfold plainT Ir
 rw [List.map_map]
 rfl
theorem Gd {ps : List Pt} (h : ∀ p ∈ ps, OkP p) (n : ps.length <= 16) : (jh ps).length <= 208 := by
 unfold jh
 rw [qo1, List.length_map]
 have := N6 (g := ps.map pS) (k := 12) fun w hw => by
  obtain ⟨p, hp, rfl⟩ := List.mem_map.mp hw
  exact Wk (h p hp)
 rw [List.length_map] at this
 omega
theorem qd4 {ps : List Pt} (h : ∀ p ∈ ps, OkP p) (n : ps.length <= 16) : (Yg ps).length <= 209 := by
 unfold Yg
 rw [len_app]
 have := Gd h n
 show _ + 1 <= 209
 omega
theorem qa3 (ws : List Str) : (Im emp ws).length = (ws.map (·.length)).sum := by
 have e : ∀ x : Str, x.length = x.cps.toList.length := fun x => by simp [Str.length]
 rw [e, vp, List.length_flatten, List.map_map]
 congr 1
structure RowsOk (pss : List (List Pt)) : Prop where
  each : ∀ ps ∈ pss, ∀ p ∈ ps, OkP p
  short : ∀ ps ∈ pss, ps.length <= 16
theorem Uo {pss : List (List Pt)} (h : RowsOk pss) : ((pss.map Yg).map (·.length)).sum <= 209 * pss.length := by
 have := N6 (g := pss.map Yg) (k := 209) fun w hw => by
  obtain ⟨p, hp, rfl⟩ := List.mem_map.mp hw
  exact qd4 (h.each p hp) (h.short p hp)
 rw [List.length_map] at this
 exact this
theorem plain_len {pss : List (List Pt)} (h : RowsOk pss) : (plainT pss).length <= 209 * pss.length := by
 unfold plainT
 rw [qa3]
 exact Uo h
theorem uc {R C : Nat} {x : Cell} (f : Fit R C x) (hR : R <= 16) (hC : C <= 16) : (∀ p ∈ um x, OkP p) /\ (um x).length <= 16 := by
 have d := f.down
 have a := f.across
 have h1 := f.h1
 have w1 := f.w1
 constructor
 ·intro p hp
  rcases List.mem_append.mp hp with hp | hp
  ·simp only [List.mem_cons, List.mem_nil_iff, or_false] at hp
   rcases hp with rfl | rfl | rfl | rfl
   ·show x.top <= 16; omega
   ·show x.left <= 16; omega
   ·show x.h <= 16; omega
   ·show x.w <= 16; omega
  ·obtain ⟨y, hy, rfl⟩ := List.mem_map.mp hp
   exact f.words.each y hy
 ·have := f.words.few
  unfold um
  rw [List.length_append, List.length_map]
  show 4 + _ <= 16
  omega
theorem Dh {R C : Nat} (hR : R <= 16) (hC : C <= 16) : ∀ p ∈ Al R C, OkP p := fun p hp => by
 simp only [Al, List.mem_cons, List.mem_nil_iff, or_false] at hp
 rcases hp with rfl | rfl
 ·exact hR
 ·exact hC
theorem Gz {R C : Nat} {cs : List Cell} (f : Part R C cs) (hR : R <= 16) (hC : C <= 16) : RowsOk (Ag R C cs) := by
 constructor
 ·intro ps hp
  rcases List.mem_cons.mp hp with rfl | hp
  ·exact Dh hR hC
  ·obtain ⟨x, hx, rfl⟩ := List.mem_map.mp hp
   exact (uc (f.fit x hx) hR hC).1
 ·intro ps hp
  rcases List.mem_cons.mp hp with rfl | hp
  ·show 2 <= 16; omega
  ·obtain ⟨x, hx, rfl⟩ := List.mem_map.mp hp
   exact (uc (f.fit x hx) hR hC).2
theorem Zx (x : Cell) : (um x).map pV = [V.int x.top, .int x.left, .int x.h, .int x.w] ++ x.words.map V.str := by
 unfold um
 rw [List.map_append, List.map_map]
 rfl
theorem Ov (x : Cell) : (um x).map pS = [num x.top, num x.left, num x.h, num x.w] ++ x.words := by
 unfold um
 rw [List.map_append, List.map_map]
 show _ ++ x.words.map (fun y => y) = _
 rw [List.map_id']
 rfl
noncomputable def qc6 (H : Hp) (ps : List Pt) (v : V) : Prop := ∃ t, v = .ref t /\ H t = some (.tup (ps.map pV))
theorem O6 {H H' : Hp} (e : SameT H H') {pss : List (List Pt)} {zs : List V} (h : Paired (qc6 H) pss zs) : Paired (qc6 H') pss zs := Paired.impM h fun _ _ _ ⟨t, ev, ht⟩ => ⟨t, ev, e _ _ ht⟩
theorem qg3 (ys : List V) (y : V) : vm (ys ++ [y]) none (some (-1)) = ys := by
 unfold vm
 have e1 : HT.sIx (ys ++ [y]).length 0 none = 0 := rfl
 have e2 : HT.sIx (ys ++ [y]).length (ys ++ [y]).length (some (-1)) = ys.length := by
  show (if (-1 : Int) < 0 then ((-1 : Int) + ((ys ++ [y]).length : Int)).toNat else min (-1 : Int).toNat (ys ++ [y]).length) = ys.length
  rw [if_pos (by omega), List.length_append, List.length_singleton]
  omega
 rw [e1, e2, List.drop_zero, Nat.sub_zero, List.take_left]
end GT
namespace L2
open PySem PySem.Spec PyProof.Rows PySem.W
open Sem (wp)
section
variable {prog : Program} {w : World} {A : Around} {E : Value -> Shared -> Prop} {h : Heap} {g : Array GenState} {d : Drawn} {t : Nat} {os : OsState}
variable {nm q : Str} {C N : Addr} {bs bm bmB : List Value} {hdct : Bool} {sn : List Str} {sub : List Value} {ab : Bool} {col : Option Bool} {dd : Option Addr} {k0 k1 k2 k3 k5 : Option Value} {B newId initId : String}
noncomputable def Ao (h : Heap) (C : Addr) (us : List Value) : Heap := (h.push { cls := .type "tuple", data := .seq us.toArray }).push { cls := .ref C, data := .fields #[.ref h.objs.size, .none, .none, .none, .bool false, .none] }
theorem xg {us : List Value} {b : Addr} {o : Obj} (e : h.get? b = some o) : (Ao h C us).get? b = some o := Heap.get?_push_of_some _ (Heap.get?_push_of_some _ e)
theorem Oo {us : List Value} : (Ao h C us).get? (h.objs.size + 1) = some { cls := .ref C, data := .fields #[.ref h.objs.size, .none, .none, .none, .bool false, .none] } := by unfold Ao; heap_get
theorem Iw (F : ExcBaseFacts B newId initId bmB) (T : OwnTail h bmB bm) {mN : Str -> Option Value} {us : List Value} {fI : Addr} {oI : Obj} {Q : Fin -> Shared -> Prop}
  (hC : h.get? C = some (excClassObj nm q C N bs bm hdct sn sub ab col dd k0 k1 k2 k3 k5 newId)) (hn : h.Ns N mN) (hi : mN "__init__" = some (.ref fI)) (hf : h.get? fI = some oI) (hc : oI.cls = .type "function") (hl : us.length <= sizeLine)
  (k : wpAny (model prog w) A (call (.ref fI) (.ref (h.objs.size + 1) :: us)) (fun r s' => r = .none /\ Q (.done (.ret (.ref (h.objs.size + 1)))) s') E ⟨Ao h C us, g, d, t, os⟩) :
  wpAny (model prog w) A (Builtin.«type.__call__» ⟨.ref C :: us, []⟩) Q E ⟨h, g, d, t, os⟩ := by
 repeat (first | with_reducible refine wpAny_loadPart_at hC ?_ | with_reducible refine wpAny_madeBy_exc hC ?_ | wp_step)
 refine codeAny_call_builtin_code (Code.quiet_builtin _ F.quiet) (wpAny_check_new_subT F T hC ?_)
 refine codeAny_exc_new_subT F T hC ?_ hl
 show wpAny _ _ _ _ _ ⟨Ao h C us, g, d, t, os⟩
 have hC1 := xg (C := C) (us := us) hC
 have hn1 : (Ao h C us).Ns N mN := hn.keeps fun b o e => xg e
 have T1 := T.keeps fun b o e => xg (C := C) (us := us) e
 have he := Oo (h := h) (C := C) (us := us)
 have me : (Value.ref C :: bm).contains (.ref C) = true := by simp
 unfold isInstance
 repeat (first | with_reducible refine wpAny_loadPart_at he ?_ | (with_reducible refine wpAny_isSubtype_exc hC1 ?_; rw [me]) | wp_step)
 show wpAny _ _ (typeLookup (.ref C) _) _ _ _
 refine wpAny_typeLookup_tail hC1 hn1 T1 F.mroIs F.init.lookup ?_
 rw [hi]
 refine wpAny_holding (wpAny_bind ?_)
 unfold bindSpecial
 refine wpAny_bind (wpAny_typeOf (T := "function") ⟨_, xg hf, hc⟩ ?_)
 rw [if_pos (by decide)]
 refine wpAny_pure (wpAny_bind (wpAny_mono k (fun r s' hr => ?_) fun _ _ x => x))
 obtain ⟨rfl, hQ⟩ := hr
 wp_walk
 exact hQ
theorem Yj (F : ExcBaseFacts B newId initId bmB) (T : OwnTail h bmB bm) {mN : Str -> Option Value} {us : List Value} {fI : Addr} {oI : Obj} {Q : Value -> Shared -> Prop}
  (hC : h.get? C = some (excClassObj nm q C N bs bm hdct sn sub ab col dd k0 k1 k2 k3 k5 newId)) (hn : h.Ns N mN) (hi : mN "__init__" = some (.ref fI)) (hf : h.get? fI = some oI) (hc : oI.cls = .type "function") (hl : us.length <= sizeLine)
  (k : wpAny (model prog w) (A.under (.builtin "type.__call__" ⟨.ref C :: us, []⟩)) (call (.ref fI) (.ref (h.objs.size + 1) :: us)) (fun r s' => r = .none /\ Q (.ref (h.objs.size + 1)) s') E ⟨Ao h C us, g, d, t, os⟩) :
  wpAny (model prog w) A (call (.ref C) us) Q E ⟨h, g, d, t, os⟩ := by
 have f1 := tc_lookup
 have f2 := tc_bind (.ref C)
 have hT : (⟨h, g, d, t, os⟩ : Shared).TypeIs (.ref C) "type" := ⟨_, hC, rfl⟩
 refine wpAny_call (codeAny_of_tree ?_)
 show wpAny _ _ (callAny (.ref C) _) _ _ _
 repeat (any_goals (first | assumption | with_reducible refine wpAny_loadPart_at hC ?_ | wp_step))
 refine ⟨rfl, ?_⟩
 exact codeAny_call_builtin_at (Code.quiet_builtin _ (by decide +kernel)) entry_typeCall (wpAny_check_type_call_sub hC (Iw F T hC hn hi hf hc hl k))
end
section
variable {M : Model} {A : Around} {E : Value -> Shared -> Prop} {env : Env}
variable {nm q : Str} {C N : Addr} {bs bm : List Value} {hdct : Bool} {sn : List Str} {sub : List Value} {ab : Bool} {col : Option Bool} {dd : Option Addr} {k0 k1 k2 k3 k5 : Option Value} {newId : String}
noncomputable abbrev Ab (C : Addr) (dx : Option Addr) (a0 : Value) (sl : Array (Option Value)) : Obj := { cls := .ref C, dict := dx, data := .fields #[a0, .none, .none, .none, .bool false, .none], slots := sl }
theorem W5 {s : Shared} {x : Sem Value} {Q : Flow -> Shared -> Prop} (hbase : bm.contains (.type "BaseException") = true) (hh : A.handled = none)
  (h : wpAny M A x (fun v s1 => ∃ e dx a0 sl, v = .ref e /\ s1.heap.get? C = some (excClassObj nm q C N bs bm hdct sn sub ab col dd k0 k1 k2 k3 k5 newId) /\ s1.heap.get? e = some (Ab C dx a0 sl) /\ E (.ref e) s1) E s) :
  wpAny M A (raiseStmt env (some x) none) Q E s := by
 have hcB : (Value.ref C :: bm).contains (.type "BaseException") = true := by rw [List.contains_cons, hbase, Bool.or_true]
 unfold raiseStmt
 refine wpAny_bind (wpAny_mono h (fun v s1 h1 => ?_) fun _ _ x => x)
 obtain ⟨e, dx, a0, sl, rfl, hC, he, hE⟩ := h1
 obtain ⟨hp, g, d, tk, os⟩ := s1
 repeat (first | with_reducible refine wpAny_loadPart_at he ?_ | with_reducible refine wpAny_loadPart_at hC ?_ | (with_reducible refine wpAny_isSubtype_exc hC ?_; rw [hcB]) | wp_step)
 exact wpAny_raiseNew_none hh hE
end
section
variable {prog : Program} {w : World} {A : Around} {E : Value -> Shared -> Prop} {s : Shared} {env : Env}
variable {nm q : Str} {C N : Addr} {bs bm bmB : List Value} {hdct : Bool} {sn : List Str} {sub : List Value} {ab : Bool} {col : Option Bool} {dd : Option Addr} {k0 k1 k2 k3 k5 : Option Value} {B newId initId : String}
theorem Xh (F : ExcBaseFacts B newId initId bmB) {mN : Str -> Option Value} {fI : Addr} {oI : Obj} {x : Str} {np cpos pos : Pos} {args : List Expr} {Q : Flow -> Shared -> Prop}
  (hbase : bm.contains (.type "BaseException") = true) (hh : A.handled = none) (hplain : (backTo cpos (starEach args env)).any (·.1) = false) (hi : mN "__init__" = some (.ref fI)) (hc : oI.cls = .type "function")
  (h : wpAny (model prog w) A (eval (.Name x np) env) (fun f s1 => f = .ref C /\ wpAny (model prog w) A (evalArgs (.ref C) true (backTo cpos (starEach args env)) [])
   (fun a s2 => a.kw = [] /\ a.pos.length <= sizeLine /\ s2.heap.get? C = some (excClassObj nm q C N bs bm hdct sn sub ab col dd k0 k1 k2 k3 k5 newId) /\ s2.heap.Ns N mN /\ OwnTail s2.heap bmB bm /\ s2.heap.get? fI = some oI /\
    wpAny (model prog w) (A.under (.builtin "type.__call__" ⟨.ref C :: a.pos, []⟩)) (call (.ref fI) (.ref (s2.heap.objs.size + 1) :: a.pos))
     (fun r s3 => r = .none /\ s3.heap.get? C = some (excClassObj nm q C N bs bm hdct sn sub ab col dd k0 k1 k2 k3 k5 newId) /\ (∃ dx a0 sl, s3.heap.get? (s2.heap.objs.size + 1) = some (Ab C dx a0 sl)) /\ E (.ref (s2.heap.objs.size + 1)) s3) E { s2 with heap := Ao s2.heap C a.pos }) E s1) E s) :
  wpAny (model prog w) A (exec (.Raise (some (.Call (.Name x np) args [] cpos)) none pos) env) Q E s := by
 rw [arm_exec_Raise]
 refine wpAny_bind (wpAny_standAt (W5 (C := C) (nm := nm) (q := q) (N := N) (bs := bs) (bm := bm) (hdct := hdct) (sn := sn) (sub := sub) (ab := ab) (col := col) (dd := dd) (k0 := k0) (k1 := k1) (k2 := k2) (k3 := k3) (k5 := k5) (newId := newId) hbase hh (wpAny_bind (wpAny_mono (wpAny_Call_ofName (wpAny_mono h (fun f s1 h1 => ?_) fun _ _ x => x)) (fun v s3 h3 => wpAny_bind (wpAny_standAt (wpAny_pure h3))) fun _ _ x => x))))
 obtain ⟨rfl, h1⟩ := h1
 unfold callWith
 refine wpAny_bind (wpAny_holding (wpAny_mono h1 (fun a s2 h2 => wpAny_bind (wpAny_standAt ?_)) fun _ _ x => x))
 obtain ⟨apos, akw⟩ := a
 obtain ⟨hkw, hlen, hC, hn, T, hf, h2⟩ := h2
 obtain rfl : akw = [] := hkw
 obtain ⟨hp, g, d, tk, os⟩ := s2
 simp only [hplain]
 refine wpAny_bind (wpAny_keeperOf_exc hC ?_)
 refine wpAny_bind (Yj F T hC hn hi hf hc hlen (wpAny_mono h2 (fun r s3 h3 => ⟨h3.1, wpAny_bind (wpAny_holding (wpAny_point (wpAny_pure ?_)))⟩) fun _ _ x => x))
 obtain ⟨_, hC3, ⟨dx, a0, sl, he⟩, hE⟩ := h3
 exact ⟨_, dx, a0, sl, rfl, hC3, he, hE⟩
end
end L2
namespace L2
open PySem PySem.Spec PyProof.Rows PySem.W
open Sem (wp)
noncomputable abbrev Qo (a C : Addr) (dx : Option Addr) : HO := .ext fun h => ∃ a0 sl, h.get? a = some (Ab C dx (.ref a0) sl)
theorem Th {P : Program} {w : World} {H : Hp} {h : Heap} {a C : Addr} {dx : Option Addr} {a0 : Addr} {sl : Array (Option Value)} (e : h.get? a = some (Ab C dx (.ref a0) sl)) : ObjOk P w H h a (Qo a C dx) :=
 ⟨⟨a0, sl, e⟩, ⟨_, e⟩, fun h1 h2 ⟨b0, sl', z⟩ k => ⟨b0, sl', k _ z⟩⟩
structure OwnI (x : Str) (C fI : Addr) (bmB : List Value) (newId : String) (mg : Str -> Option Value) (base : Heap) : Prop where
  bound : mg x = some (.ref C)
  obj : ∃ (tl : List Value) (N : Addr) (nm q : Str) (bs : List Value) (hdct : Bool) (sn : List Str) (sub : List Value) (ab : Bool) (col : Option Bool) (dd : Option Addr) (k0 k1 k2 k3 k5 : Option Value) (mN : Str -> Option Value) (oI : Obj),
    base.get? C = some (excClassObj nm q C N bs tl hdct sn sub ab col dd k0 k1 k2 k3 k5 newId) /\ base.Ns N mN /\ mN "__init__" = some (.ref fI) /\ OwnTail base bmB tl /\ base.get? fI = some oI /\ oI.cls = .type "function"
noncomputable def tFR (te : TE) : TE := fun σ H Q => te σ H fun v H1 => ((∃ n : Int, v = .int n /\ n.natAbs.log2 < 1920) \/ v = .non) /\ ∀ x, Q (.str x) H1
theorem Ym {X : Cx} {x0 : Str} {C fI : Addr} {B newId initId : String} {bmB : List Value} (F : ExcBaseFacts B newId initId bmB) (O : OwnI x0 C fI bmB newId X.mg X.base) :
  wu X (.builtin initId) (fun xs H Q => ∃ e x, xs = [.ref e, .str x] /\ H e = some (Qo e C none) /\ Q .non H) := by
 intro pins s σ H xs us Q I r h
 obtain ⟨e, x, rfl, hH, q⟩ := h
 obtain ⟨u1, u2, rfl, r1, r2⟩ := vals2 r
 cases r1
 obtain ⟨t, rfl⟩ := r2
 obtain ⟨⟨a0, sl, he⟩, _⟩ := I.hok e _ hH
 obtain ⟨tl, N, nm, q', bs, hdct, sn, sub, ab, col, dd, k0, k1, k2, k3, k5, mN, oI, hC, hN, hi, T, hf, hc⟩ := O.obj
 have hC1 := I.bk _ _ hC
 have T1 := T.keeps I.bk
 obtain ⟨hp, g, d, tk, os⟩ := s
 refine wpAny_call (codeAny_call_builtin F.init.plain F.initEntry (wpAny_check_init_subT F T1 hC1 he rfl ?_))
 wp_walk
 have hne : hp.objs.size ≠ e := Nat.ne_of_gt (Heap.lt_size he)
 have h1 := Heap.get?_push_of_some { cls := .type "tuple", data := .seq #[Value.str x t] } he
 have h2 := Heap.get?_update_self (Obj.mapFields (·.setIfInBounds 0 (Value.ref hp.objs.size))) h1 rfl
 have hu : upd H e (Qo e C none) = H := funext fun b => by
  by_cases z : b = e
  ·rw [z, qd, hH]
  ·rw [qt z]
 refine ⟨.non, H, ?_, rfl, q⟩
 rw [← hu]
 refine I.write (x := e) (e := e) (t' := tk) (by rw [hH]; exact True.intro) (.inl rfl) (fun b u nb z => ?_) ⟨_, h2⟩ (Th (a0 := hp.objs.size) (sl := sl) h2)
 rw [Heap.get?_update_other _ _ (Ne.symm nb)]
 exact Heap.get?_push_of_some _ z
end L2
namespace L2
open PySem PySem.Spec PyProof.Rows PySem.W
open Sem (wp)
noncomputable abbrev errMro : List Value := [.type "ValueError", .type "Exception", .type "BaseException", .type "object"]
noncomputable def qx2 : Value -> Bool
 | .ref _ => true
 | _ => false
noncomputable def Ia (l : List Value) : Bool := l.dropWhile qx2 == errMro
theorem Bu {l : List Value} (h : Ia l = true) : ∃ l1 : List Value, l = l1 ++ errMro /\ ∀ v ∈ l1, qx2 v = true :=
 ⟨l.takeWhile qx2, by rw [← beq_iff_eq.mp h]; exact (List.takeWhile_append_dropWhile).symm, fun v hv => by
  induction l with
  | nil => cases hv
  | cons a r ih =>
   rw [List.takeWhile_cons] at hv
   split at hv
   ·rename_i ha
    rcases List.mem_cons.mp hv with rfl | hv
    ·exact ha
    ·exact ih (by unfold Ia at h ⊢; rw [List.dropWhile_cons, if_pos ha] at h; exact h) hv
   ·cases hv⟩
theorem Ie (self : Value) : ∀ (l1 : List Value), (∀ v ∈ l1, qx2 v = true) -> refuseLoop self "__setattr__" (l1 ++ errMro) = pure ()
 | [], _ => PySem.F.store_ValueError.passes self
 | v :: r, h => by
  have hv := h v List.mem_cons_self
  cases v <;> first | (cases hv; done) | skip
  rw [List.cons_append, refuseLoop_ref]
  exact Ie self r fun u hu => h u (List.mem_cons_of_mem _ hu)
theorem M7 (self : Value) {l : List Value} (h : Ia l = true) : refuseLoop self "__setattr__" l = pure () := by
 obtain ⟨l1, rfl, hl⟩ := Bu h
 exact Ie self l1 hl
theorem Te {l : List Value} {v : Value} (h : Ia l = true) (hv : errMro.contains v = true) : l.contains v = true := by
 obtain ⟨l1, rfl, _⟩ := Bu h
 rw [List.contains_iff_mem] at hv ⊢
 exact List.mem_append_right _ hv
noncomputable def G4 (K : Frag) (C : Addr) : Bool := (clsIn K C).any fun cd => Ia cd.mro
section
variable {prog : Program} {w : World} {A : Around} {R : Result -> Shared -> Prop} {s : Shared} {K : Frag} {x C : Addr}
theorem qc7 {ox : Obj} {od : Option Obj} {T : String} (X : K.In s.heap) (I : InstAt s.heap x ox C od) (hp : G4 K C = true) (hT : errMro.contains (.type T) = true) : Looks (model prog w) s.heap (isInstance (.ref x) (.type T)) true := by
 obtain ⟨cd, hc, ho⟩ := any_some hp
 have ne : cd.mro.isEmpty = false := by
  cases q : cd.mro with
  | nil => rw [q] at ho; cases ho
  | cons _ _ => rfl
 exact I.type.andThen (looks_mroIn X (by unfold mroIn; rw [hc, Option.bind_some, if_neg (by rw [ne]; decide), Te ho hT]))
theorem qp8 {ox : Obj} {od : Option Obj} {name : Str} {tk : Tok} {v : Value} (X : K.In s.heap) (I : InstAt s.heap x ox C od) (hp : G4 K C = true) (ha : findIn K (.ref C) name = some none)
  (h : wpAny (model prog w) A.in1 (Builtin.ObjectAttr.storeInOwnDict (.ref x) (.ref C) (.str name tk) name v false)
   (fun fin s' => match fin with | .done f => R (.ok f) s' | .again c' => c'.quiet = true /\ codeAny (model prog w) A c' R s') (fun e s' => R (.error e) s') s) :
  codeAny (model prog w) A (.call (.builtin "object.__setattr__") ⟨[.ref x, .str name tk, v], []⟩) R s := by
 have SF := PySem.F.store_object
 obtain ⟨cd, hc, ho⟩ := any_some hp
 have sub : Looks (model prog w) s.heap (isInstance (.ref x) (.type "object")) true := qc7 X I hp (by decide)
 refine codeAny_call_builtin SF.slot.plain SF.entry (@check_slot (model prog w) _ _ s "object.__setattr__" "object" "__setattr__" (.ref x) [.str name tk, v] [] _ SF.kind SF.split sub (SF.args (.ref x) (.str name tk) v) ?_)
 have hm : Looks (model prog w) s.heap (mroOf (.ref C)) cd.mro := (looks_clsIn X hc).andThen .now
 rw [osa_eq, refuse_eq]
 refine wpAny_bind (wpAny_bind (I.type.here (wpAny_bind (hm.here ?_))))
 rw [M7 _ ho]
 exact wpAny_pure (wpAny_bind (I.type.here (wpAny_bind ((looks_findIn X ha).here (wpAny_bind (wpAny_pure h))))))
end
section
variable {prog : Program} {w : World} {A : Around} {E : Value -> Shared -> Prop} {s : Shared} {K : Frag} {x C : Addr} {name : Str} {v a0 : Value} {sl : Array (Option Value)}
theorem qm5 {Q : Unit -> Shared -> Prop} (X : K.In s.heap) (hx : s.heap.get? x = some (Ab C none a0 sl)) (hs : findIn K (.ref C) "__setattr__" = some (some (.builtin "object.__setattr__"))) (hp : G4 K C = true)
  (ha : findIn K (.ref C) name = some none) (hh : hasDictIn K C = true)
  (h : ∀ (h' : Heap) (tk : Nat), h'.get? x = some (Ab C (some s.heap.objs.size) a0 sl) -> h'.Ns1 s.heap.objs.size (fun y => if y = name then some v else none) -> (∀ b o, b ≠ x -> s.heap.get? b = some o -> h'.get? b = some o) -> Q () { s with heap := h', toks := tk }) :
  wpAny (model prog w) A (setAttr (.ref x) name v) Q E s := by
 have J : InstAt s.heap x (Ab C none a0 sl) C none := ⟨hx, rfl, rfl, True.intro⟩
 refine PySem.W.set_plain X J hs (qp8 (s := { s with toks := s.toks + 1 }) X J hp ha ?_)
 obtain ⟨cd, hc, hd⟩ := any_some hh
 refine wpAny_bind (wpAny_pure (wpAny_bind (wpAny_bind (wpAny_loadPart hx (wpAny_bind (PySem.W.Looks.here (s := { s with toks := s.toks + 1 }) (PySem.W.looks_clsIn X hc) ?_))))))
 rw [hd]
 have hx1 : (s.heap.push { cls := .type "dict", data := .dict #[] }).get? x = some (Ab C none a0 sl) := Heap.get?_push_of_some _ hx
 have hxs : x ≠ s.heap.objs.size := Nat.ne_of_lt (Heap.lt_size hx)
 refine wpAny_bind (wpAny_alloc' ?_)
 refine wpAny_bind (wpAny_update' hx1 ?_)
 refine wpAny_pure ?_
 have hgd : ((s.heap.push { cls := .type "dict", data := .dict #[] }).update x fun o => { cls := o.cls, dict := some s.heap.objs.size, data := o.data, slots := o.slots }).get? s.heap.objs.size = some { cls := .type "dict", data := .dict #[] } :=
  (Heap.get?_update_ne _ _ _ _ hxs.symm).trans (Heap.get?_push_at rfl rfl)
 have hgx : ((s.heap.push { cls := .type "dict", data := .dict #[] }).update x fun o => { cls := o.cls, dict := some s.heap.objs.size, data := o.data, slots := o.slots }).get? x = some (Ab C (some s.heap.objs.size) a0 sl) :=
  Heap.get?_update_self _ hx1 rfl
 have hnd : ((s.heap.push { cls := .type "dict", data := .dict #[] }).update x fun o => { cls := o.cls, dict := some s.heap.objs.size, data := o.data, slots := o.slots }).Ns s.heap.objs.size (fun _ => none) :=
  ⟨_, #[], _, hgd, rfl, fun e he => absurd he (by simp), fun _ => rfl⟩
 show wpAny _ _ (Builtin.ObjectAttr.storeInDict s.heap.objs.size (.str name s.toks) name v) _ _ _
 unfold Builtin.ObjectAttr.storeInDict Builtin.ObjectAttr.newKeyGuard
 refine wpAny_bind (wpAny_pure (wpAny_bind (wpAny_nsSet1 (Heap.Ns1.of_empty hnd) fun h' hn' hs' => ?_)))
 obtain ⟨oD, esD, epD, hoD, hdD, hcD⟩ := hn'.count (Within.cons name v Within.nil)
 refine wpAny_bind (wpAny_lookBehind hoD (by rw [hdD]; exact pastItsLine_dict (Nat.le_trans hcD (by rw [List.length_cons, List.length_nil, sizeLine_eq]; omega))) ?_)
 refine wpAny_pure (h h' _ ((hs'.2 x hxs).trans hgx) hn' fun b o nb z => ?_)
 exact (hs'.2 b (Nat.ne_of_lt (Heap.lt_size z))).trans ((Heap.get?_update_ne _ _ _ _ nb).trans (Heap.get?_push_of_some _ z))
end
end L2
namespace L2
open PySem PySem.Spec PyProof.Rows PySem.W
open Sem (wp)
structure ExcK (K : Frag) (C : Addr) : Prop where
  sa : findIn K (.ref C) "__setattr__" = some (some (.builtin "object.__setattr__"))
  eo : G4 K C = true
  hd : hasDictIn K C = true
  ga : findIn K (.ref C) "__getattribute__" = some (some (.builtin "BaseException.__getattribute__"))
  gn : findIn K (.ref C) "__getattr__" = some none
theorem qu5 {P : Program} {w : World} {H : Hp} {h : Heap} {a : Addr} {f : Str} {y : V} {u : Value} (r : RelV y u) (n : h.Ns1 a (fun z => if z = f then some u else none)) : ObjOk P w H h a (.xd [(f, y)]) :=
 ⟨_, n, fun g => by
  show RelO (List.lookup g [(f, y)]) (if g = f then some u else none)
  by_cases q : g = f
  ·subst q
   rw [if_pos rfl, List.lookup_cons, show (g == g) = true from by simp]
   exact r
  ·rw [if_neg q, List.lookup_cons, show (g == f) = false from by simpa using q]
   exact True.intro⟩
section
variable {X : Cx} {pins : List (Addr × Obj)} {σ : St} {H : Hp} {s : Shared} {h' : Heap} {e C dx : Addr} {f : Str} {y : V} {u : Value} {a0 : Addr} {sl : Array (Option Value)}
theorem Inv.excDict {t' : Nat} (I : Inv X pins σ H s) (hH : H e = some (Qo e C none)) (hd : dx = s.heap.objs.size) (he : h'.get? e = some (Ab C (some dx) (.ref a0) sl)) (r : RelV y u) (hn : h'.Ns1 dx (fun z => if z = f then some u else none))
  (k : ∀ b o, b ≠ e -> s.heap.get? b = some o -> h'.get? b = some o) : Inv X pins σ (upd (upd H dx (.xd [(f, y)])) e (Qo e C (some dx))) { s with heap := h', toks := t' } := by
 have fresh : H dx = none := I.hok.fresh (by rw [hd]; exact Nat.le_refl _)
 have hne : ∀ b o, H b = some o -> (∀ φ, o ≠ .ext φ) -> b ≠ e := fun b o q n z => by rw [z, hH] at q; cases q; exact n _ rfl
 have hnd : ∀ b o, H b = some o -> b ≠ dx := fun b o q z => by rw [z, fresh] at q; cases q
 have fwd : ∀ b o, H b = some o -> (∀ φ, o ≠ .ext φ) -> upd (upd H dx (.xd [(f, y)])) e (Qo e C (some dx)) b = some o := fun b o q n => by rw [qt (hne b o q n), qt (hnd b o q)]; exact q
 have nfe : ∀ b, H b = none -> b ≠ e := fun b n z => by rw [z, hH] at n; cases n
 refine I.un ⟨fun b o q n _ _ => k b o (nfe b n) q, fun b o q n _ _ => ⟨o.slots, k b o (nfe b n) q⟩, fun b o q n _ => ?_, fun b o q _ => ?_, fun b xs q => fwd b _ q (by intro φ z; cases z), fun b o u q => fwd b _ q (by intro φ z; cases z),
  fun b ps q => ⟨#[], by rw [Array.append_empty]; exact fwd b _ q (by intro φ z; cases z)⟩⟩ fun b o q => ?_
 ·rw [qt (nfe b n), qt (fun z => absurd (Heap.lt_size q) (by rw [z, hd]; exact Nat.lt_irrefl _))]; exact n
 ·by_cases z : b = e
  ·exact ⟨_, z ▸ he⟩
  ·exact ⟨o, k b o z q⟩
 ·by_cases z : b = e
  ·subst z
   rw [qd] at q; cases q
   exact Th he
  ·rw [qt z] at q
   by_cases z2 : b = dx
   ·subst z2
    rw [qd] at q; cases q
    exact qu5 r hn
   ·rw [qt z2] at q
    refine (I.hok b o q).stay (fun c v hc g => k c v ?_ g) (fun c g => fwd c _ g (by intro φ z; cases z)) fun c xs g => fwd c _ g (by intro φ z; cases z)
    rcases hc with rfl | hc
    ·exact z
    ·exact hne c _ hc (by intro φ z; cases z)
end
noncomputable def ze2 (C : Addr) (ta tv : TE) (f : Str) : TS := fun D σ H => tv σ H fun y H1 => ta σ H1 fun x H2 => ∃ e, x = .ref e /\ H2 e = some (Qo e C none) /\ ∀ dx, H2 dx = none -> dx ≠ e -> D.nx σ (upd (upd H2 dx (.xd [(f, y)])) e (Qo e C (some dx)))
theorem Z3 {X : Cx} {o value : Expr} {f : Str} {pos pos' : Pos} {ta tv : TE} {C : Addr} (c : ExcK X.K C) (n : Xw X.K C f) (ha : PE X o ta) (hv : PE X value tv) (hs : swapsWith value (some (.Attribute o f pos')) pos.line X.env = pure false := by rfl) :
  PS X (.Assign [.Attribute o f pos'] value pos) (ze2 C ta tv f) := by
 intro pins s σ H D I h
 refine plainObj_wpAny_Assign_Attribute (thn (hv pins s σ H _ I h) fun u s1 ⟨y, H1, I1, ry, q⟩ => thn (ha pins s1 σ H1 _ I1 q) fun ov s2 ⟨x, H2, I2, rx, e, ex, ee, q2⟩ => ?_) hs
 subst ex
 obtain rfl : ov = Value.ref e := rx
 obtain ⟨⟨a0, sl, he⟩, _⟩ := I2.hok e _ ee
 refine qm5 I2.kIn he c.sa c.eo n c.hd fun h' tk hx hn k => ⟨σ, _, I2.excDict (t' := tk) ee rfl hx ry hn k, q2 _ (I2.hok.fresh (Nat.le_refl _)) (Ne.symm (Nat.ne_of_lt (Heap.lt_size he)))⟩
theorem Q4 {X : Cx} {G : Str} {Cg : Addr} {mc : Value} {initId : String} {r : List V -> Hp -> VK -> Prop} {e : Expr} {es : List Expr} {t : TA} {p apos pos : Pos} {pl : Sem Bool} (hc : wu X (.builtin initId) r) (hg : Gl X G) (hm : X.mg G = some (.ref Cg))
    (h1 : specialIn X.K (.ref Cg) "__getattribute__" = some (some (.builtin "type.__getattribute__"))) (h2 : readsIn X.K Cg mc = true) (h3 : findCls X.K (.ref Cg) mc "__init__" = some (.val (.builtin initId))) (h4 : handedIn (.builtin initId) = true) (ha : PA X (e :: es) t)
    (hdb : (G == ("__debug__" : Str)) = false := by decide) (hst : starEach (e :: es) X.env = (false, eval e X.env) :: starEach es X.env := by rfl) (hpl : (backTo pos (starEach es X.env)).any (·.1) = false := by rfl)
    (ht : eval (.Call (.Attribute (.Name G p) "__init__" apos) (e :: es) [] pos) X.env = (do
      let ov ← eval (.Name G p) X.env
      standAt apos.atName
      let (f, first) ← holding [ov] (getMethod ov "__init__" pl)
      callWith pos f first (backTo pos (starEach (e :: es) X.env)) (backToKw pos (keywordEach [] X.env))) := by rfl) :
    PE X (.Call (.Attribute (.Name G p) "__init__" apos) (e :: es) [] pos) (tCB r t) := by
  intro pins s σ H Q I h
  refine PySem.W.methodCall_KW (pl := pl) (vo I hg hm (method_cls I.kIn h1 (cls_value I.kIn h2 h3 h4 ?_)) hdb) ht
  exact PyProof.Rows.callWith_builtin1 (thn (ha pos pins _ σ H _ (I.tok _) h) fun us s1 ⟨vs, H1, I1, r1, q1⟩ => hc pins s1 σ H1 vs us Q I1 r1 q1) hst hpl
end L2
namespace L2
open PySem PySem.Spec PyProof.Rows PySem.W
open Sem (wp)
noncomputable def Xq (y : V) : Prop := (∃ n : Int, y = .int n /\ n.natAbs.log2 < 1920) \/ y = .non
noncomputable def Oc (C : Addr) : Sp := fun vs H Q _ => ∃ e y, vs = [.ref e, y] /\ Xq y /\ H e = some (Qo e C none) /\ ∀ dx, H dx = none -> dx ≠ e -> Q .non (upd (upd H dx (.xd [("at", y)])) e (Qo e C (some dx)))
noncomputable def Yz (C : Addr) (E : XK) (t : TA) : TS := fun _ σ H => t σ H fun vs H1 => ∃ y, vs = [y] /\ Xq y /\ ∀ dx, H1 dx = none -> E (.ref C) (some dx) (upd H1 dx (.xd [("at", y)]))
theorem Yl {X : Cx} {x : Str} {C fI : Addr} {bmB : List Value} {newId B initId : String} {E : XK} {e0 : Expr} {t : TA} {np cpos pos : Pos} {k : Nat} {fd : FuncData} {ps : List Str} (FB : ExcBaseFacts B newId initId bmB) (O : OwnI x C fI bmB newId X.mg X.base)
  (F : FnOk X.prog X.w X.K X.mg X.base CX0 k fI fd ps (Oc C)) (hb : Binds X.K fd ps []) (hr : Room (k + 1) X.A) (hc : X.calm = true) (hg : Gl X x) (L : qh4 X E) (ha : PA X [e0] t)
  (hdb : (x == ("__debug__" : Str)) = false := by decide) (he : starEach [e0] X.env = (false, eval e0 X.env) :: starEach [] X.env := by rfl) (hpl : (backTo cpos (starEach [] X.env)).any (·.1) = false := by rfl) :
  PS X (.Raise (some (.Call (.Name x np) [e0] [] cpos)) none pos) (Yz C E t) := by
 intro pins s σ H D I h
 obtain ⟨tl, N, nm, q, bs, hdct, sn, sub, ab, col, dd, k0, k1, k2, k3, k5, mN, oI, hC, hN, hi, T, hf, hcf⟩ := O.obj
 have hpl2 : (backTo cpos (starEach [e0] X.env)).any (·.1) = false := by
  rw [he]
  show (false || (backTo cpos (starEach [] X.env)).any (·.1)) = false
  rw [hpl]; rfl
 refine Xh (C := C) (nm := nm) (q := q) (N := N) (bs := bs) (bm := tl) (hdct := hdct) (sn := sn) (sub := sub) (ab := ab) (col := col) (dd := dd) (k0 := k0) (k1 := k1) (k2 := k2) (k3 := k3) (k5 := k5)
  FB (mN := mN) (T.hasType FB.hasBase) (I.ok.hd hc) hpl2 hi hcf (vo I hg O.bound ⟨rfl, ?_⟩ hdb)
 have hh := thn (ha cpos pins s σ H _ I h) (Q' := fun us s2 => us.length <= sizeLine /\ (∀ b o, X.base.get? b = some o -> s2.heap.get? b = some o) /\
  wpAny (model X.prog X.w) (X.A.under (.builtin "type.__call__" ⟨.ref C :: us, []⟩)) (call (.ref fI) (.ref (s2.heap.objs.size + 1) :: us))
   (fun r s3 => r = .none /\ s3.heap.get? C = some (excClassObj nm q C N bs tl hdct sn sub ab col dd k0 k1 k2 k3 k5 newId) /\ (∃ dx a0 sl, s3.heap.get? (s2.heap.objs.size + 1) = some (Ab C dx a0 sl)) /\ X.xe (.ref (s2.heap.objs.size + 1)) s3) X.xe { s2 with heap := Ao s2.heap C us })
  fun us s1 ⟨vs, H1, I1, r1, y, ev, hy, q1⟩ => ?_
 ·rw [he] at hh ⊢
  exact Calls.evalArgs_plain (wpAny_mono hh (fun us s2 h2 => ⟨rfl, h2.1, h2.2.1 _ _ hC, hN.keeps h2.2.1, T.keeps h2.2.1, h2.2.1 _ _ hf, h2.2.2⟩) fun _ _ y => y)
 subst ev
 obtain ⟨u, rfl, ru⟩ := vals1 r1
 have fe : H1 (s1.heap.objs.size + 1) = none := I1.hok.fresh (Nat.le_succ _)
 have I2 : Inv X pins σ (upd H1 (s1.heap.objs.size + 1) (Qo (s1.heap.objs.size + 1) C none)) { s1 with heap := Ao s1.heap C [u], toks := s1.toks } :=
  I1.laid (fun b o e => xg e) (Nat.le_succ _) (Th Oo)
 refine ⟨by rw [sizeLine_eq]; simp, I1.bk, wpAny_call (codeAny_mono (F.run _ X.stack _ _ ⟨[.ref (s1.heap.objs.size + 1), u], []⟩ [.ref (s1.heap.objs.size + 1), u] [.ref (s1.heap.objs.size + 1), y]
  (fun v H' => v = .non /\ ∃ dx, H1 dx = none /\ dx ≠ s1.heap.objs.size + 1 /\ H' = upd (upd (upd H1 (s1.heap.objs.size + 1) (Qo (s1.heap.objs.size + 1) C none)) dx (.xd [("at", y)])) (s1.heap.objs.size + 1) (Qo (s1.heap.objs.size + 1) C (some dx)))
  (fun _ _ _ => False) (hr.make C [u] []) (I2.env0.make C [u] []) (hb _ [.ref (s1.heap.objs.size + 1), u] I2.kIn ?_) (.cons rfl (.cons ru .nil)) ?_) fun r s' hq' => ?_)⟩
 ·have := F.len [.ref (s1.heap.objs.size + 1), y] (upd H1 (s1.heap.objs.size + 1) (Qo (s1.heap.objs.size + 1) C none)) (fun _ _ => True) (fun _ _ _ => True) ⟨_, y, rfl, hy, qd, fun _ _ _ => True.intro⟩
  exact this
 ·exact ⟨_, y, rfl, hy, qd, fun dx n ne => ⟨rfl, dx, by rw [qt ne] at n; exact n, ne, rfl⟩⟩
 ·cases r with
  | error e => exact False.elim hq'
  | ok fl =>
   cases fl with
   | ret w1 =>
    obtain ⟨v, H', I3, rv, ⟨ev, dx, hn, hne, eH⟩⟩ := I2.after hq'
    subst ev
    subst eH
    obtain rfl : w1 = Value.none := rv
    obtain ⟨⟨a0, sl, hx⟩, _⟩ := I3.hok _ _ qd
    refine ⟨rfl, I3.bk _ _ hC, ⟨_, _, _, hx⟩, ?_⟩
    refine L pins σ _ _ _ _ _ I3 hx rfl (by simp) rfl (fun _ => rfl) (Heap.get?_none_of_le (Nat.le_succ_of_le I1.sz)) (.inr ⟨_, qd⟩) ?_
    have eo : qa4 (upd (upd (upd H1 (s1.heap.objs.size + 1) (Qo (s1.heap.objs.size + 1) C none)) dx (.xd [("at", y)])) (s1.heap.objs.size + 1) (Qo (s1.heap.objs.size + 1) C (some dx))) (s1.heap.objs.size + 1) = upd H1 dx (.xd [("at", y)]) := funext fun b => by
     by_cases z : b = s1.heap.objs.size + 1
     ·rw [z, Bg, qt (Ne.symm hne), fe]
     ·rw [Gi z, qt z]
      by_cases z2 : b = dx
      ·rw [z2, qd, qd]
      ·rw [qt z2, qt z, qt z2]
    rw [eo]
    exact q1 dx hn
   | next => exact False.elim hq'
   | brk => exact False.elim hq'
   | cont => exact False.elim hq'
end L2
namespace L2
open PySem PySem.Spec PyProof.Rows PySem.W
open Sem (wp)
section
variable {prog : Program} {w : World} {A : Around} {E : Value -> Shared -> Prop} {s : Shared} {K : Frag} {x C : Addr} {ox : Obj} {od : Option Obj} {name : Str} {expr : Bool} {Q : Value -> Shared -> Prop}
end
section
variable {X : Cx} {k : Nat} {x y n : Str} {C L : Addr} {ps : List Str} {sp : Sp} {e : Expr} {es : List Expr} {t : TA} {env0 : List Env} {p np pos epos tpos hpos : Pos} {i : Nat} {b0 : Stmt} {suite : List Stmt} {ts : Addr -> Option Addr -> TS}
end
end L2
namespace L2
open PySem PySem.Spec PyProof.Rows PySem.W
noncomputable def qn2 (s : Stmt) : List Stmt := match s with
 | .ClassDef _ _ _ b _ _ _ _ _ _ _ => b
 | _ => []
noncomputable def Uy (K : Frag) (C fI : Addr) (bmB : List Value) (newId : String) : Bool := match K.lookup C with
 | some ⟨.type "type", _, .cls cd, sl⟩ => (match cd.mro, sl.toList with
  | .ref C' :: bm, [_, _, _, _, some (.builtin n), _] => C' == C && n == newId && !cd.hasDel && tailIn K bmB bm && nsOkIn K cd.ns && nsIn K cd.ns "__init__" == some (some (.ref fI)) && typeIn K (.ref fI) == some (.type "function")
  | _, _ => false)
 | _ => false
theorem Ds {K : Frag} {h : Heap} {N : Addr} {x : Str} {v : Value} (X : K.In h) (e : nsOkIn K N = true) (q : nsIn K N x = some (some v)) : h.nsMap N x = some v := by
 have G : h.Ns N (h.nsMap N) := .of_isNs (isNs_of_in X e)
 obtain ⟨o, es, ep, ho, hd, _, hf⟩ := G
 unfold nsIn at q
 split at q
 ·rename_i c d es' n' sl lk
  have := X _ _ lk
  rw [ho] at this
  cases this
  cases hd
  split at q
  ·rename_i en he
   cases q
   rw [← hf]
   unfold nsFind findBy
   rw [← Array.find?_toList, he]
   rfl
  ·split at q <;> cases q
 ·cases q
theorem qv6 {K : Frag} {h : Heap} {f : Addr} (X : K.In h) (e : typeIn K (.ref f) = some (.type "function")) : ∃ o, h.get? f = some o /\ o.cls = .type "function" := by
 obtain ⟨o, ho, hc⟩ := Option.map_eq_some_iff.mp (show (K.lookup f).map (·.cls) = some (.type "function") from e)
 exact ⟨o, X _ _ ho, hc⟩
theorem qq5 {K : Frag} {base : Heap} {mg : Str -> Option Value} {x : Str} {C fI : Addr} {bmB : List Value} {newId : String} (X : K.In base) (G : base.Ns mainGlobals mg) (e : nsIn K mainGlobals x = some (some (.ref C))) (q : Uy K C fI bmB newId = true) : OwnI x C fI bmB newId mg base := by
 refine ⟨mg_of X G e, ?_⟩
 unfold Uy at q
 split at q
 ·rename_i dd cd sl ho
  split at q
  ·rename_i C' bm k0 k1 k2 k3 n k5 hm hs
   simp only [Bool.and_eq_true, beq_iff_eq, Bool.not_eq_true'] at q
   obtain ⟨⟨⟨⟨⟨⟨e1, e2⟩, hdel⟩, htl⟩, hok⟩, hni⟩, hfn⟩ := q
   subst e1 e2
   obtain ⟨nm, bs, mro, ns, qn, hd, sn, sub, ab, col, del⟩ := cd
   simp only at hm hdel hok hni
   subst hm hdel
   have hsl : sl = #[k0, k1, k2, k3, some (.builtin n), k5] := by
    cases sl
    simp only at hs
    rw [hs]
   subst hsl
   obtain ⟨oI, ho1, ho2⟩ := qv6 X hfn
   exact ⟨bm, ns, nm, qn, bs, hd, sn, sub, ab, col, dd, k0, k1, k2, k3, k5, _, oI, X _ _ ho, .of_isNs (isNs_of_in X hok), Ds X hok hni, tail_of_in X htl, ho1, ho2⟩
  ·cases q
 ·cases q
structure JX (K : Frag) (x qual : Str) (st : Stmt) (C : Addr) : Prop where
  ex : ∃ (fI : Addr) (fd : FuncData), nsIn K mainGlobals x = some (some (.ref C)) /\ Uy K C fI errMro "ValueError.__new__" = true /\ Fun K "__init__" qual st fI fd
  k : ExcK K C
  n : Xw K C "at"
  m : exmOne K (.ref C) (.ref C) = some true
  g : ∃ Cg : Addr, nsIn K mainGlobals "GridError" = some (some (.ref Cg)) /\ specialIn K (.ref Cg) "__getattribute__" = some (some (.builtin "type.__getattribute__")) /\ readsIn K Cg (.type "type") = true /\ findCls K (.ref Cg) (.type "type") "__init__" = some (.val (.builtin "ValueError.__init__"))
structure ExcJ (P : Program) (w : World) (K : Frag) (mg : Str -> Option Value) (base : Heap) (x : Str) (C : Addr) : Prop where
  ex : ∃ (fI : Addr) (fd : FuncData) (ps : List Str), OwnI x C fI errMro "ValueError.__new__" mg base /\ FnOk P w K mg base CX0 1 fI fd ps (Oc C) /\ Binds K fd ps []
  mg : mg x = some (.ref C)
  k : ExcK K C
  n : Xw K C "at"
  m : exmOne K (.ref C) (.ref C) = some true
theorem ur {X : Cx} {x : Str} {C : Addr} {E : XK} {e0 : Expr} {t : TA} {np cpos pos : Pos} {k : Nat} (O : ExcJ X.prog X.w X.K X.mg X.base x C) (hr : Room (k + 2) X.A) (hc : X.calm = true) (hg : Gl X x) (L : qh4 X E) (ha : PA X [e0] t)
  (hdb : (x == ("__debug__" : Str)) = false := by decide) (he : starEach [e0] X.env = (false, eval e0 X.env) :: starEach [] X.env := by rfl) (hpl : (backTo cpos (starEach [] X.env)).any (·.1) = false := by rfl) :
  PS X (.Raise (some (.Call (.Name x np) [e0] [] cpos)) none pos) (Yz C E t) := by
 obtain ⟨fI, fd, ps, o, f, b⟩ := O.ex
 exact Yl PySem.F.excBase_ValueError o f b (hr.mono (by omega)) hc hg L ha hdb he hpl
theorem jx_mk {K : Frag} {x qual : Str} {st : Stmt} {C fI Cg : Addr} {cd : ClassData} {oc : Value} {od an : Option Addr} {osl : Array (Option Value)} {kV doc pm cdv ct : Value} (e : nsIn K mainGlobals x = some (some (.ref C))) (c : clsIn K C = some cd) (i : nsIn K cd.ns "__init__" = some (some (.ref fI)))
  (q : Uy K C fI errMro "ValueError.__new__" = true) (l : K.lookup fI = some ⟨oc, od, .func (PySem.W.fnOf "__init__" qual (Aa st) (je st) (qj st) .none kV doc pm an cdv ct), osl⟩) (co : codeIn K cdv qual = true) (kp : keepIn K (.ref fI) = true)
  (k1 : findIn K (.ref C) "__setattr__" = some (some (.builtin "object.__setattr__"))) (k2 : G4 K C = true) (k3 : hasDictIn K C = true) (k4 : findIn K (.ref C) "__getattribute__" = some (some (.builtin "BaseException.__getattribute__"))) (k5 : findIn K (.ref C) "__getattr__" = some none)
  (n : findIn K (.ref C) "at" = some none) (m : exmOne K (.ref C) (.ref C) = some true) (g0 : nsIn K mainGlobals "GridError" = some (some (.ref Cg))) (g1 : specialIn K (.ref Cg) "__getattribute__" = some (some (.builtin "type.__getattribute__"))) (g2 : readsIn K Cg (.type "type") = true)
  (g3 : findCls K (.ref Cg) (.type "type") "__init__" = some (.val (.builtin "ValueError.__init__"))) : JX K x qual st C :=
 ⟨⟨fI, _, e, q, qk1 l co kp⟩, ⟨k1, k2, k3, k4, k5⟩, n, m, Cg, g0, g1, g2, g3⟩
theorem Bh {n : Nat} (h : n <= 1000) : ((n : Int)).natAbs.log2 < 1920 := by
 rw [Int.natAbs_natCast]
 by_cases z : n = 0
 ·subst z; decide
 ·exact Nat.lt_of_lt_of_le ((Nat.log2_lt z).mpr (Nat.lt_of_le_of_lt h (by decide : 1000 < 2 ^ 10))) (by decide)
theorem qe6 {α : Type} {P : List α -> Prop} (h : ∀ a b, P [a, b]) : ∀ us : List α, us.length = 2 -> P us
 | [a, b], _ => h a b
end L2
namespace L2
open PySem PySem.Spec PyProof.Rows
section
variable {X : Cx}
end
end L2
namespace GT
open PySem L2
inductive Thg where
  | non | bl (b : Bool) | int (i : Int) | str (x : Str) | tup (ds : List Thg) | lst (ds : List Thg)
inductive AtG (H : Hp) : Thg -> V -> Prop where
  | non : AtG H .non .non
  | bl (b : Bool) : AtG H (.bl b) (.bl b)
  | int (i : Int) : AtG H (.int i) (.int i)
  | str (x : Str) (h : x.length <= 400000) : AtG H (.str x) (.str x)
  | tup {a : Addr} {xs : List V} {ds : List Thg} (h : H a = some (.tup xs)) (r : Paired (AtG H) ds xs) : AtG H (.tup ds) (.ref a)
  | lst {a : Addr} {xs : List V} {ds : List Thg} (h : H a = some (.lst xs)) (r : Paired (AtG H) ds xs) : AtG H (.lst ds) (.ref a)
noncomputable abbrev AtGL (H : Hp) : List Thg -> List V -> Prop := Paired (AtG H)
mutual
theorem AtG.mono {H H' : Hp} (s : Same H H') : ∀ {g : Thg} {v : V}, AtG H g v -> AtG H' g v
 | _, _, .non => .non
 | _, _, .bl b => .bl b
 | _, _, .int i => .int i
 | _, _, .str x h => .str x h
 | _, _, .tup h r => .tup (s _ _ h) (AtGL.mono s r)
 | _, _, .lst h r => .lst (s _ _ h) (AtGL.mono s r)
theorem AtGL.mono {H H' : Hp} (s : Same H H') : ∀ {g : List Thg} {v : List V}, AtGL H g v -> AtGL H' g v
 | _, _, .nil => .nil
 | _, _, .cons h r => .cons (AtG.mono s h) (AtGL.mono s r)
end
noncomputable def tyG : Thg -> String
 | .non => "NoneType" | .bl _ => "bool" | .int _ => "int" | .str _ => "str" | .tup _ => "tuple" | .lst _ => "list"
theorem AtG.ty {K : PySem.W.Frag} {H : Hp} {g : Thg} {v : V} (h : AtG H g v) : TyOf K H v (.type (tyG g)) := by
 cases h with
 | non => exact .non
 | bl b => exact .bl b
 | int i => exact .int i
 | str x _ => exact .str x
 | tup h _ => exact .tup h
 | lst h _ => exact .lst h
noncomputable def isInt : Thg -> Bool | .int _ => true | .bl _ => true | _ => false
noncomputable def qz8 : Thg -> Bool | .bl _ => true | _ => false
noncomputable def isStr : Thg -> Bool | .str _ => true | _ => false
noncomputable def isTup : Thg -> Bool | .tup _ => true | _ => false
noncomputable def qo9 : Thg -> Bool | .lst _ => true | _ => false
theorem qo5 {K : PySem.W.Frag} (g : Thg) : PySem.W.kitOne K (.type (tyG g)) (.type "int") = some (isInt g) := by cases g <;> rfl
theorem qk4 {K : PySem.W.Frag} (g : Thg) : PySem.W.kitOne K (.type (tyG g)) (.type "bool") = some (qz8 g) := by cases g <;> rfl
theorem qb2 {K : PySem.W.Frag} (g : Thg) : PySem.W.kitOne K (.type (tyG g)) (.type "str") = some (isStr g) := by cases g <;> rfl
theorem Qy {K : PySem.W.Frag} (g : Thg) : PySem.W.kitOne K (.type (tyG g)) (.type "tuple") = some (isTup g) := by cases g <;> rfl
theorem qp3 {K : PySem.W.Frag} (g : Thg) : PySem.W.kitOne K (.type (tyG g)) (.type "list") = some (qo9 g) := by cases g <;> rfl
noncomputable def Am : Thg -> Bool | .int _ => true | _ => false
noncomputable def j8 : Thg -> Bool | .int i => decide (1 <= i) && decide (i <= 16) | _ => false
noncomputable def qn7 (c : Nat) : Bool := !(Builtin.Str.occurrences signs ⟨#[c]⟩ 0 signs.length 1).isEmpty
noncomputable def yc : Thg -> Bool | .str x => decide (1 <= x.length) && decide (x.length <= 12) && x.cps.toList.all qn7 | _ => false
noncomputable def xq : Thg -> Bool | .tup ds => decide (ds.length <= 12) && ds.all yc | _ => false
noncomputable def jw : Thg -> Bool | .tup [.int a, .int b, .int c, .int d, e] => decide (0 <= a) && decide (0 <= b) && decide (1 <= c) && decide (1 <= d) && xq e | _ => false
noncomputable def jt : Thg -> Bool | .tup [a, b, .lst _] => j8 a && j8 b | _ => false
noncomputable def Cell.G (x : Cell) : Thg := .tup [.int x.top, .int x.left, .int x.h, .int x.w, .tup (x.words.map Thg.str)]
end GT
namespace GT
open PySem L2
theorem AtG.tup_inv {H : Hp} {ds : List Thg} {v : V} (h : AtG H (.tup ds) v) : ∃ a xs, v = .ref a /\ H a = some (.tup xs) /\ AtGL H ds xs := by
 cases h with
 | tup h r => exact ⟨_, _, rfl, h, r⟩
theorem AtG.lst_inv {H : Hp} {ds : List Thg} {v : V} (h : AtG H (.lst ds) v) : ∃ a xs, v = .ref a /\ H a = some (.lst xs) /\ AtGL H ds xs := by
 cases h with
 | lst h r => exact ⟨_, _, rfl, h, r⟩
theorem AtG.int_inv {H : Hp} {i : Int} {v : V} (h : AtG H (.int i) v) : v = .int i := by cases h; rfl
theorem AtG.str_inv {H : Hp} {x : Str} {v : V} (h : AtG H (.str x) v) : v = .str x /\ x.length <= 400000 := by cases h; exact ⟨rfl, by assumption⟩
theorem Ju {H : Hp} : ∀ {ws : List Str}, (∀ x ∈ ws, x.length <= 400000) -> AtGL H (ws.map Thg.str) (ws.map V.str)
 | [], _ => .nil
 | x :: ws, h => .cons (.str x (h x List.mem_cons_self)) (Ju fun y hy => h y (List.mem_cons_of_mem _ hy))
theorem Uc {H : Hp} : ∀ {ws : List Str} {vs : List V}, AtGL H (ws.map Thg.str) vs -> vs = ws.map V.str
 | [], [], _ => rfl
 | x :: ws, v :: vs, h => by
  cases h with
  | cons h r =>
   rw [h.str_inv.1, Uc r]
   rfl
theorem Cell.atG {H : Hp} {x : Cell} {v : V} (h : At H x.D v) (ok : ∀ y ∈ x.words, y.length <= 400000) : AtG H x.G v := by
 obtain ⟨b, wb, ws, rfl, hb, hwb, aws⟩ := Cell.at_inv h
 rw [Q6 aws] at hwb
 exact .tup hb (.cons (.int _) (.cons (.int _) (.cons (.int _) (.cons (.int _) (.cons (.tup hwb (Ju ok)) .nil)))))
theorem WordsOk.small {ws : List Str} (h : WordsOk ws) : ∀ y ∈ ws, y.length <= 400000 := fun y hy => by have := (h.each y hy).hi; omega
theorem Cell.ofG {H : Hp} {x : Cell} {v : V} (h : AtG H x.G v) : At H x.D v := by
 obtain ⟨a, xs, rfl, ha, r⟩ := h.tup_inv
 cases r with
 | cons h1 r =>
  cases r with
  | cons h2 r =>
   cases r with
   | cons h3 r =>
    cases r with
    | cons h4 r =>
     cases r with
     | cons h5 r =>
      cases r
      rw [h1.int_inv, h2.int_inv, h3.int_inv, h4.int_inv] at ha
      obtain ⟨b, ys, rfl, hb, rb⟩ := h5.tup_inv
      rw [Uc rb] at hb
      exact Cell.at_mk (x := x) (b := b) (ws := x.words.map V.str) ha hb (Lb _ _)
theorem qq6 {x : Str} (h : WordOk x) : yc (.str x) = true := by
 unfold yc
 rw [Bool.and_eq_true, Bool.and_eq_true]
 exact ⟨⟨decide_eq_true h.lo, decide_eq_true h.hi⟩, List.all_eq_true.mpr fun c hc => sign_in c (h.all c hc)⟩
theorem qe5 {ws : List Str} (h : WordsOk ws) : xq (.tup (ws.map Thg.str)) = true := by
 unfold xq
 rw [Bool.and_eq_true]
 refine ⟨decide_eq_true (by rw [List.length_map]; exact h.few), List.all_eq_true.mpr fun g hg => ?_⟩
 obtain ⟨x, hx, rfl⟩ := List.mem_map.mp hg
 exact qq6 (h.each x hx)
theorem qo7 {x : Cell} (h1 : 1 <= x.h) (w1 : 1 <= x.w) (h : WordsOk x.words) : jw x.G = true := by
 unfold Cell.G jw
 simp only [Bool.and_eq_true, decide_eq_true_eq]
 refine ⟨⟨⟨⟨by omega, by omega⟩, by omega⟩, by omega⟩, qe5 h⟩
theorem qa2 : ∀ {ds : List Thg}, ds.all yc = true -> ∃ ws : List Str, ds = ws.map Thg.str
 | [], _ => ⟨[], rfl⟩
 | d :: ds, h => by
  rw [List.all_cons, Bool.and_eq_true] at h
  obtain ⟨ws, rfl⟩ := qa2 h.2
  cases d with
  | str x => exact ⟨x :: ws, rfl⟩
  | _ => cases h.1
theorem Wd {g : Thg} (h : jw g = true) : ∃ x : Cell, g = x.G /\ 1 <= x.h /\ 1 <= x.w := by
 unfold jw at h
 split at h
 ·rename_i a b c d e
  simp only [Bool.and_eq_true, decide_eq_true_eq] at h
  obtain ⟨⟨⟨⟨ha, hb⟩, hc⟩, hd⟩, he⟩ := h
  cases e with
  | tup ds =>
   have he : (decide (ds.length <= 12) && ds.all yc) = true := he
   rw [Bool.and_eq_true] at he
   obtain ⟨ws, rfl⟩ := qa2 he.2
   refine ⟨⟨a.toNat, b.toNat, c.toNat, d.toNat, ws⟩, ?_, by show 1 <= c.toNat; omega, by show 1 <= d.toNat; omega⟩
   unfold Cell.G
   have e1 : ((a.toNat : Nat) : Int) = a := by omega
   have e2 : ((b.toNat : Nat) : Int) = b := by omega
   have e3 : ((c.toNat : Nat) : Int) = c := by omega
   have e4 : ((d.toNat : Nat) : Int) = d := by omega
   rw [e1, e2, e3, e4]
  | _ => cases he
 ·cases h
noncomputable def Wrong (R C : Nat) (cs : List Cell) (g : Thg) : Prop := jw g = false \/ ∃ x : Cell, g = x.G /\ (R < x.top + x.h \/ C < x.left + x.w \/ (∃ y, cs.getLast? = some y /\ ¬ xr y x) \/ ∃ y ∈ cs, ∃ r c, inC x r c /\ inC y r c)
theorem wj {x y : Cell} (h : x.G = y.G) : x = y := by
 unfold Cell.G at h
 obtain ⟨a, b, c, d, e⟩ := x
 obtain ⟨a', b', c', d', e'⟩ := y
 simp only [Thg.tup.injEq, List.cons.injEq, Thg.int.injEq, and_true] at h
 obtain ⟨h1, h2, h3, h4, h5⟩ := h
 have inj : ∀ {l m : List Str}, l.map Thg.str = m.map Thg.str -> l = m := fun {l m} q => by
  have := congrArg (List.map fun g => match g with | Thg.str x => x | _ => (Str.ofString "")) q
  rw [List.map_map, List.map_map] at this
  have e : ((fun g => match g with | Thg.str x => x | _ => (Str.ofString "")) ∘ Thg.str) = id := rfl
  rw [e, List.map_id, List.map_id] at this
  exact this
 have h5 := inj h5
 congr 1 <;> omega
end GT
namespace GT
open PySem L2
section
variable {R C : Nat} {cs : List Cell}
end
section
variable {R C : Nat} {cs : List Cell}
end
end GT
namespace GT
open PySem L2 PySem.StrLaws
theorem occ_none (x : Str) (c lim : Nat) (h : c ∉ x.cps.toList) : ∀ (l : List Nat) (st : Array Nat × Nat), (forIn l st (occBody x ⟨#[c]⟩ x.length lim)).run.fst = st.fst
 | [], st => rfl
 | a :: l, st => by
  rw [List.forIn_cons]
  unfold occBody
  rw [if_neg (fun z => h (List.mem_of_getElem? ((subAt_one x c a).mp ⟨z.1.2, z.2⟩)))]
  exact occ_none x c lim h l (st.fst, st.snd)
theorem qk2 {x : Str} {c lim : Nat} (h : (!(Builtin.Str.occurrences x ⟨#[c]⟩ 0 x.length lim).isEmpty) = true) : c ∈ x.cps.toList := by
 refine Classical.byContradiction fun z => ?_
 rw [occ_eq, occ_none x c lim z] at h
 simp at h
theorem qf5 {x : Str} (h : yc (.str x) = true) : WordOk x := by
 have h : (decide (1 <= x.length) && decide (x.length <= 12) && x.cps.toList.all qn7) = true := h
 simp only [Bool.and_eq_true, decide_eq_true_eq] at h
 exact ⟨h.1.1, h.1.2, fun c hc => qk2 (List.all_eq_true.mp h.2 c hc)⟩
theorem Zt {g : Thg} (h : jw g = true) : ∃ x : Cell, g = x.G /\ 1 <= x.h /\ 1 <= x.w /\ WordsOk x.words := by
 obtain ⟨x, rfl, h1, w1⟩ := Wd h
 refine ⟨x, rfl, h1, w1, ?_⟩
 have h : (decide ((0 : Int) <= x.top) && decide ((0 : Int) <= x.left) && decide ((1 : Int) <= x.h) && decide ((1 : Int) <= x.w) && (decide ((x.words.map Thg.str).length <= 12) && (x.words.map Thg.str).all yc)) = true := h
 simp only [Bool.and_eq_true, decide_eq_true_eq, List.length_map] at h
 exact ⟨h.2.1, fun y hy => qf5 (List.all_eq_true.mp h.2.2 _ (List.mem_map.mpr ⟨y, hy, rfl⟩))⟩
theorem classify (R C : Nat) : ∀ gs : List Thg, ∃ cs : List Cell, Part R C cs /\ cs.Pairwise xr /\ ((∃ x, gs[cs.length]? = some x /\ gs.take cs.length = cs.map Cell.G /\ Wrong R C cs x) \/ gs = cs.map Cell.G) := by
 intro gs
 have go : ∀ n, n <= gs.length -> ∃ cs : List Cell, Part R C cs /\ cs.Pairwise xr /\ ((∃ x, gs[cs.length]? = some x /\ gs.take cs.length = cs.map Cell.G /\ Wrong R C cs x) \/ (gs.take n = cs.map Cell.G /\ cs.length = n)) := by
  intro n
  induction n with
  | zero => exact fun _ => ⟨[], Part.nil R C, .nil, .inr ⟨rfl, rfl⟩⟩
  | succ n ih =>
   intro hn
   obtain ⟨cs, pt, od, h⟩ := ih (by omega)
   rcases h with h | ⟨e, ln⟩
   ·exact ⟨cs, pt, od, .inl h⟩
   obtain ⟨g, hg⟩ : ∃ g, gs[n]? = some g := ⟨_, List.getElem?_eq_getElem (by omega)⟩
   by_cases wr : Wrong R C cs g
   ·exact ⟨cs, pt, od, .inl ⟨g, by rw [ln]; exact hg, by rw [ln]; exact e, wr⟩⟩
   have hc : jw g = true := by
    cases z : jw g with
    | true => rfl
    | false => exact absurd (.inl z) wr
   obtain ⟨x, rfl, h1, w1, wo⟩ := Zt hc
   have w2 : ¬ (R < x.top + x.h \/ C < x.left + x.w \/ (∃ y, cs.getLast? = some y /\ ¬ xr y x) \/ ∃ y ∈ cs, ∃ r c, inC x r c /\ inC y r c) := fun z => wr (.inr ⟨x, rfl, z⟩)
   have fx : Fit R C x := ⟨h1, w1, by
    refine Nat.le_of_not_lt fun z => w2 (.inl z), by
    refine Nat.le_of_not_lt fun z => w2 (.inr (.inl z)), wo⟩
   refine ⟨cs ++ [x], pt.snoc fx fun r c i1 ⟨y, hy, i2⟩ => w2 (.inr (.inr (.inr ⟨y, hy, r, c, i1, i2⟩))), ?_, .inr ⟨?_, by rw [List.length_append, ln]; rfl⟩⟩
   ·refine List.pairwise_append.mpr ⟨od, List.pairwise_singleton _ _, fun y hy x' hx' => ?_⟩
    have : x' = x := by simpa using hx'
    subst this
    obtain ⟨ys, z, rfl⟩ : ∃ ys z, cs = ys ++ [z] := by
     have hp : cs ≠ [] := fun z => by rw [z] at hy; cases hy
     exact ⟨cs.dropLast, cs.getLast hp, (List.dropLast_concat_getLast hp).symm⟩
    have bz : xr z x' := Classical.byContradiction fun q => w2 (.inr (.inr (.inl ⟨z, by simp, q⟩)))
    rcases List.mem_append.mp hy with hy | hy
    ·have := (List.pairwise_append.mp od).2.2 y hy z (by simp)
     unfold xr at *
     omega
    ·have : y = z := by simpa using hy
     rw [this]
     exact bz
   ·rw [List.take_add_one, hg, e, List.map_append]
    rfl
 obtain ⟨cs, pt, od, h⟩ := go gs.length (Nat.le_refl _)
 rcases h with h | ⟨e, _⟩
 ·exact ⟨cs, pt, od, .inl h⟩
 ·rw [List.take_length] at e
  exact ⟨cs, pt, od, .inr e⟩
theorem Yb {g : Thg} (h : jt g = true) : ∃ (R C : Nat) (gs : List Thg), g = .tup [.int (R : Int), .int (C : Int), .lst gs] /\ 1 <= R /\ R <= 16 /\ 1 <= C /\ C <= 16 := by
 unfold jt at h
 split at h
 ·rename_i a b gs
  rw [Bool.and_eq_true] at h
  have side : ∀ {g : Thg}, j8 g = true -> ∃ n : Nat, g = .int (n : Int) /\ 1 <= n /\ n <= 16 := fun {g} z => by
   cases g with
   | int i =>
    have z : (decide (1 <= i) && decide (i <= 16)) = true := z
    simp only [Bool.and_eq_true, decide_eq_true_eq] at z
    exact ⟨i.toNat, by congr 1; omega, by omega, by omega⟩
   | _ => cases z
  obtain ⟨R, rfl, R1, R2⟩ := side h.1
  obtain ⟨C, rfl, C1, C2⟩ := side h.2
  exact ⟨R, C, gs, rfl, R1, R2, C1, C2⟩
 ·cases h
end GT
namespace GT
open PySem L2 PySem.StrLaws
noncomputable def qm2 (c : Nat) : Bool := !(Builtin.Str.occurrences figs ⟨#[c]⟩ 0 figs.length 1).isEmpty
noncomputable def Yh (x : Str) : Bool := decide (1 <= x.length) && decide (x.length <= 2) && x.cps.toList.all qm2
noncomputable def Mq (x : Str) : Thg := if Yh x = true then (match PySem.intText? x with | some n => .int n | none => .non) else .non
theorem Q8 {c : Nat} (h : qm2 c = true) : 48 <= c /\ c <= 57 := by
 have : c ∈ figs.cps.toList := qk2 h
 have all : ∀ c ∈ figs.cps.toList, 48 <= c /\ c <= 57 := by decide +kernel
 exact all c this
theorem Ue : ∀ a, a < 58 -> 48 <= a -> (PySem.intText? ⟨#[a]⟩).isSome = true /\ ∀ b, b < 58 -> 48 <= b -> (PySem.intText? ⟨#[a, b]⟩).isSome = true := by decide +kernel
theorem qf3 {x : Str} (h : Yh x = true) : ∃ n : Int, PySem.intText? x = some n := by
 unfold Yh at h
 simp only [Bool.and_eq_true, decide_eq_true_eq, List.all_eq_true] at h
 obtain ⟨⟨h1, h2⟩, h3⟩ := h
 obtain ⟨⟨l⟩⟩ := x
 have h1 : 1 <= l.length := h1
 have h2 : l.length <= 2 := h2
 match l, h1, h2, h3 with
 | [a], _, _, h3 =>
  have := Q8 (h3 a (by simp))
  exact Option.isSome_iff_exists.mp (Ue a (by omega) this.1).1
 | [a, b], _, _, h3 =>
  have ha := Q8 (h3 a (by simp))
  have hb := Q8 (h3 b (by simp))
  exact Option.isSome_iff_exists.mp ((Ue a (by omega) ha.1).2 b (by omega) hb.1)
theorem Af {n : Nat} (h : n <= 16) : Mq (num n) = .int (n : Int) := by
 have b : Yh (num n) = true := by
  unfold Yh
  have l := T5 h
  simp only [Bool.and_eq_true, decide_eq_true_eq, List.all_eq_true]
  refine ⟨⟨l.1, l.2⟩, fun c hc => ?_⟩
  have := T3 h c hc
  exact qr6 c (by omega) this.1
 unfold Mq
 rw [if_pos b, Q3 h]
noncomputable def wy (ps : List Str) : Thg := .tup ((ps.take 4).map Mq ++ [.tup ((ps.drop 4).map Thg.str)])
noncomputable def linesOf (z : Str) : List Str := if Txt.endswith z nl1 = true then (Txt.split z nl1).dropLast else []
noncomputable def ql2 (row : Str) : List Thg := (Txt.split row sp1).map Mq
noncomputable def Qd (row : Str) (rows : List Str) : Thg := .tup (ql2 row ++ [.lst (rows.map fun r => wy (Txt.split r sp1))])
noncomputable def yh (z : Str) : Prop := ∃ (R C : Nat) (cs : List Cell), Tiles R C cs /\ 1 <= R /\ R <= 16 /\ 1 <= C /\ C <= 16 /\ plainT (Ag R C cs) = z
theorem Ww {R C : Nat} {cs : List Cell} (p : Part R C cs) (R2 : R <= 16) (C2 : C <= 16) : linesOf (plainT (Ag R C cs)) = jh (Al R C) :: cs.map fun x => jh (um x) := by
 have rok := Gz p R2 C2
 unfold linesOf
 rw [Qe, if_pos (qc5 (by unfold Ag; simp)), Bs (fun x hx => by
  obtain ⟨ps, hp, rfl⟩ := List.mem_map.mp hx
  exact Bx (rok.each ps hp)), List.dropLast_concat]
 unfold Ag
 rw [List.map_cons, List.map_map]
 rfl
theorem Nt {R C : Nat} {x : Cell} (f : Fit R C x) (hR : R <= 16) (hC : C <= 16) : wy (Txt.split (jh (um x)) sp1) = x.G := by
 have ok := uc f hR hC
 rw [Ac (by unfold um; simp) ok.1, Ov]
 have a := f.down
 have b := f.across
 unfold wy
 have e1 : ([num x.top, num x.left, num x.h, num x.w] ++ x.words).take 4 = [num x.top, num x.left, num x.h, num x.w] := rfl
 have e2 : ([num x.top, num x.left, num x.h, num x.w] ++ x.words).drop 4 = x.words := rfl
 rw [e1, e2]
 show Thg.tup [Mq (num x.top), Mq (num x.left), Mq (num x.h), Mq (num x.w), .tup (x.words.map Thg.str)] = _
 rw [Af (by omega), Af (by omega), Af (by omega), Af (by omega)]
 rfl
theorem Qs {R C : Nat} {cs : List Cell} (p : Part R C cs) (R2 : R <= 16) (C2 : C <= 16) : Qd (jh (Al R C)) (cs.map fun x => jh (um x)) = .tup [.int (R : Int), .int (C : Int), .lst (cs.map Cell.G)] := by
 unfold Qd ql2
 rw [Ac (by unfold Al; simp) (Dh R2 C2)]
 have e : ((Al R C).map pS).map Mq = [.int (R : Int), .int (C : Int)] := by
  show [Mq (num R), Mq (num C)] = _
  rw [Af R2, Af C2]
 rw [e, List.map_map]
 have e2 : cs.map ((fun r => wy (Txt.split r sp1)) ∘ fun x => jh (um x)) = cs.map Cell.G := List.map_congr_left fun x hx => Nt (p.fit x hx) R2 C2
 rw [e2]
 rfl
theorem Qj {c : Nat} : ∀ {l w : List Nat}, w ∈ j4 c l -> w.length <= l.length
 | [], w, h => by
  have : w = [] := by simpa [j4] using h
  subst this
  exact Nat.le_refl _
 | a :: l, w, h => by
  obtain ⟨h0, t, e⟩ := vz c l
  have ih := fun {w} hw => Qj (c := c) (l := l) (w := w) hw
  unfold j4 at h
  rw [e] at h ih
  rw [List.length_cons]
  split at h
  ·rcases List.mem_cons.mp h with rfl | h
   ·exact Nat.zero_le _
   ·exact Nat.le_succ_of_le (ih h)
  ·rcases List.mem_cons.mp h with rfl | h
   ·have := ih (w := h0) List.mem_cons_self
    rw [List.length_cons]
    omega
   ·exact Nat.le_succ_of_le (ih (List.mem_cons_of_mem _ h))
theorem Ji {c : Nat} : ∀ {l : List Nat}, (j4 c l).length <= l.length + 1
 | [] => by simp [j4]
 | a :: l => by
  obtain ⟨h0, t, e⟩ := vz c l
  have ih := Ji (c := c) (l := l)
  unfold j4
  rw [e] at ih ⊢
  rw [List.length_cons] at ih ⊢
  split
  ·rw [List.length_cons, List.length_cons]; omega
  ·rw [List.length_cons]; omega
theorem Dj {x y : Str} {c : Nat} (hc : c < 256) (h : y ∈ Txt.split x ⟨#[c]⟩) : y.length <= x.length := by
 have e := Bo x hc
 have : y.cps.toList ∈ j4 c x.cps.toList := by rw [← e]; exact List.mem_map.mpr ⟨y, h, rfl⟩
 have := Qj this
 simpa [Str.length] using this
theorem vy {x : Str} {c : Nat} (hc : c < 256) : (Txt.split x ⟨#[c]⟩).length <= x.length + 1 := by
 have e := congrArg List.length (Bo x hc)
 rw [List.length_map] at e
 have := Ji (c := c) (l := x.cps.toList)
 rw [e]
 simpa [Str.length] using this
theorem Jx {x : Str} {c : Nat} (hc : c < 256) : Txt.split x ⟨#[c]⟩ ≠ [] := fun z => by
 have e := Bo x hc
 obtain ⟨h0, t, e2⟩ := vz c x.cps.toList
 rw [z, e2] at e
 cases e
theorem Zv {ys : List V} {i : Nat} : vm ys none (some (i : Int)) = ys.take i := by
 by_cases h : i <= ys.length
 ·exact qe1 h
 ·unfold vm
  rw [HT.sIx_nat, HT.sIx_none, Nat.min_eq_right (by omega), List.drop_zero, Nat.sub_zero, List.take_length, List.take_of_length_le (by omega)]
theorem Qu {ys : List V} {i : Nat} : vm ys (some (i : Int)) none = ys.drop i := by
 by_cases h : i <= ys.length
 ·exact qg9 h
 ·unfold vm
  rw [HT.sIx_nat, HT.sIx_none, Nat.min_eq_right (by omega), Nat.sub_self, List.take_zero, List.drop_of_length_le (by omega)]
end GT
namespace GT
open PySem L2
section
variable {ns : List Nat} {i : Nat} {p q : Int}
end
end GT
namespace GT
open PySem L2
end GT
namespace GT
open PySem PySem.StrLaws
end GT
namespace GT
open PySem L2
section
variable {R C : Nat} {cs : List Cell} {hs ws : List Nat} {T : Cell -> List (List Str)}
end
end GT
namespace L2
open PySem PySem.Spec PyProof.Rows PySem.W
end L2
namespace L2
open PySem PySem.Spec PyProof.Rows PySem.W
noncomputable def zd6 : V -> Option Int -> Option Int -> Hp -> VK -> Prop := fun x lo hi H Q => ∃ z : Str, x = .str z /\ z.length <= sizeLine /\ Q (.str (PySem.Txt.slice z lo hi)) H
theorem Wl {v : Value} {i : Option Int} (h : IsPart v i) : ∃ l : Option (Int × Tok), v = partValue l /\ l.map (·.1) = i := by
 cases h with
 | none => exact ⟨none, rfl, rfl⟩
 | int i t => exact ⟨some (i, t), rfl, rfl⟩
theorem ue {X : Cx} {K : PySem.W.Frag} (hK : X.K = K) : SlR X zd6 := by
 intro pins s σ H x v vl vu lo hi sl Q I rx hs pl pu h
 obtain ⟨z, rfl, hz, q⟩ := h
 obtain ⟨t, rfl⟩ := rx
 obtain ⟨l1, rfl, rfl⟩ := Wl pl
 obtain ⟨l2, rfl, rfl⟩ := Wl pu
 refine ⟨"str", _, F.slot_str_getitem.lookup, typeIs_str _ _ _, ?_⟩
 refine wpAny_getItem_str_slice (l := l1) (u := l2) (st := none) hs rfl ?_
 have le := PySem.Txt.slice_le z (l1.map (·.1)) (l2.map (·.1))
 unfold PySem.Txt.slice at q le
 unfold sliceMade
 have e : (((none : Option (Int × Tok)).map (·.1)).getD 1) = (1 : Int) := rfl
 have e2 : slicePicked z l1 l2 none = Builtin.Str.strSliceIndices (l1.map (·.1)) (l2.map (·.1)) 1 z.length := rfl
 rw [e, e2]
 split
 ·rename_i hw
  rw [if_pos hw] at q
  exact ⟨.str z, H, I, ⟨t, rfl⟩, q⟩
 ·rename_i hw
  rw [if_neg hw] at q le
  exact ⟨Nat.le_trans le hz, .str _, H, I.tok _, ⟨_, rfl⟩, q⟩
noncomputable def qs7 : V -> List V -> Hp -> VK -> Prop := fun x vs H Q => ∃ (z y : Str) (i : Int), x = .str z /\ vs = [.str y, .int i] /\ Q (.int (PySem.Txt.find3 z y i)) H
theorem J2 {X : Cx} : MtM X "str.find" qs7 := by
 intro pins s σ H x vs v us Q I rx rv h
 obtain ⟨z, y, i, rfl, rfl, q⟩ := h
 obtain ⟨t, rfl⟩ := rx
 obtain ⟨a, b, rfl, ⟨u, rfl⟩, ⟨u2, rfl⟩⟩ := rv.two
 exact SC.find3 ⟨.int _, H, I.tok _, ⟨_, rfl⟩, q⟩
noncomputable def za5 : R2 := fun x y H Q => ∃ (z : Str) (n : Nat), x = .str z /\ y = .int (n : Int) /\ 1 < n /\ 0 < z.length /\ z.length * n <= 1000000 /\ Q (.str ⟨(List.replicate n z.cps).foldl (· ++ ·) #[]⟩) H
theorem We (z : Array Nat) : ∀ (n : Nat) (a : Array Nat), ((List.replicate n z).foldl (· ++ ·) a).size = a.size + n * z.size
 | 0, a => by simp
 | n + 1, a => by
  rw [List.replicate_succ, List.foldl_cons, We z n, Array.size_append, Nat.succ_mul]
  omega
theorem qn8 {X : Cx} : OpR X (binaryOp .Mult) za5 := by
 intro pins s σ H x y v u Q I rx ry h
 obtain ⟨z, n, rfl, rfl, h1, hz, hn, q⟩ := h
 obtain ⟨t, rfl⟩ := rx
 obtain ⟨t', rfl⟩ := ry
 have hl : 1 * n <= z.length * n := Nat.mul_le_mul_right _ hz
 have c1 : ¬ (n : Int) < 1 := by omega
 have c2 : ((n : Int) == 1 || z.length == 0) = false := by
  have a : ((n : Int) == 1) = false := beq_eq_false_iff_ne.mpr (by omega)
  have b : (z.length == 0) = false := beq_eq_false_iff_ne.mpr (by omega)
  rw [a, b]; rfl
 refine PySem.P.mul_str (by rw [decide_eq_false (by omega), decide_eq_false (by omega)]; rfl) (fun _ _ => ?_) (fun _ _ => ?_) ?_
 ·have : (z.length : Int) <= (2 ^ 63 - 1) / (n : Int) := by
   rw [Int.le_ediv_iff_mul_le (by omega)]
   have : ((z.length * n : Nat) : Int) <= ((1000000 : Nat) : Int) := Int.ofNat_le.mpr hn
   rw [Int.natCast_mul] at this
   omega
  omega
 ·rw [Int.toNat_natCast]
  show decide (z.length * n > sizeLine) = false
  rw [sizeLine_eq]
  exact decide_eq_false (by omega)
 ·rw [if_neg c1, if_neg (by rw [c2]; exact Bool.false_ne_true), Int.toNat_natCast]
  refine ⟨?_, .str _, H, I.tok _, ⟨_, rfl⟩, q⟩
  show ((List.replicate n z.cps).foldl (· ++ ·) #[]).size <= sizeLine
  rw [We, sizeLine_eq]
  have e : z.cps.size = z.length := rfl
  rw [e, Nat.mul_comm]
  simp only [List.size_toArray, List.length_nil]
  omega
noncomputable def PEt (X : Cx) (e : Expr) (t : TE) : Prop :=
 ∀ (pins : List (Addr × Obj)) (s : Shared) (σ : St) (H : Hp) (Q : VK), 1 <= s.toks -> Inv X pins σ H s -> t σ H Q -> wpAny (model X.prog X.w) X.A (eval e X.env) (EP X pins σ Q) X.xe s
noncomputable def PAt (X : Cx) (es : List Expr) (t : TA) : Prop :=
 ∀ (pos : Pos) (pins : List (Addr × Obj)) (s : Shared) (σ : St) (H : Hp) (Q : List V -> Hp -> Prop), 1 <= s.toks -> Inv X pins σ H s -> t σ H Q -> wpAny (model X.prog X.w) X.A (spliced (backTo pos (starEach es X.env))) (AP X pins σ Q) X.xe s
noncomputable def PSt (X : Cx) (st : Stmt) (t : TS) : Prop :=
 ∀ (pins : List (Addr × Obj)) (s : Shared) (σ : St) (H : Hp) (D : Ends), 1 <= s.toks -> Inv X pins σ H s -> t D σ H -> wpAny (model X.prog X.w) X.A (exec st X.env) (SP X pins D) X.xe s
noncomputable def qw8 (X : Cx) (st : List Stmt) (t : TS) : Prop :=
 ∀ (pins : List (Addr × Obj)) (s : Shared) (σ : St) (H : Hp) (D : Ends), 1 <= s.toks -> Inv X pins σ H s -> t D σ H -> wpAny (model X.prog X.w) X.A (execs st X.env) (SP X pins D) X.xe s
noncomputable def PEf (X : Cx) (e : Expr) (t : TE) : Prop :=
 ∀ (pins : List (Addr × Obj)) (s : Shared) (σ : St) (H : Hp) (Q : VK), Inv X pins σ H s -> t σ H Q -> wpAny (model X.prog X.w) X.A (eval e X.env) (fun u s' => 1 <= s'.toks /\ EP X pins σ Q u s') X.xe s
noncomputable def PAf (X : Cx) (es : List Expr) (t : TA) : Prop :=
 ∀ (pos : Pos) (pins : List (Addr × Obj)) (s : Shared) (σ : St) (H : Hp) (Q : List V -> Hp -> Prop), Inv X pins σ H s -> t σ H Q -> wpAny (model X.prog X.w) X.A (spliced (backTo pos (starEach es X.env))) (fun u s' => 1 <= s'.toks /\ AP X pins σ Q u s') X.xe s
noncomputable def PSf (X : Cx) (st : Stmt) (t : TS) : Prop :=
 ∀ (pins : List (Addr × Obj)) (s : Shared) (σ : St) (H : Hp) (D : Ends), Inv X pins σ H s -> t D σ H -> wpAny (model X.prog X.w) X.A (exec st X.env) (fun u s' => 1 <= s'.toks /\ SP X pins D u s') X.xe s
section
variable {X : Cx} {e a b : Expr} {es : List Expr} {te ta tb : TE} {tA : TA} {st : Stmt} {rest : List Stmt} {t u : TS} {pos : Pos}
theorem PE.tk (h : PE X e te) : PEt X e te := fun pins s σ H Q _ I q => h pins s σ H Q I q
theorem PA.tk (h : PA X es tA) : PAt X es tA := fun pos pins s σ H Q _ I q => h pos pins s σ H Q I q
theorem PS.tk (h : PS X st t) : PSt X st t := fun pins s σ H D _ I q => h pins s σ H D I q
theorem mo {α : Type} {M : Model} {A : Around} {s : Shared} {c : Sem α} {Q Q' : α -> Shared -> Prop} {E : Value -> Shared -> Prop} (hn : 1 <= s.toks) (h : wpAny M A c Q E s) (k : ∀ a s', 1 <= s'.toks -> Q a s' -> Q' a s') : wpAny M A c Q' E s :=
 wpAny_mono (wpAny_toks_of hn h) (fun a s' x => k a s' x.1 x.2) (fun _ _ x => x.2)
theorem Ai (ha : PEt X e te) (hr : PAt X es tA) (hs : starEach (e :: es) X.env = (false, eval e X.env) :: starEach es X.env := by rfl) : PAt X (e :: es) (N8 te tA) := by
 intro pos pins s σ H Q hn I h
 rw [hs]
 show wpAny _ _ (spliced ((false, eval e X.env) :: backTo pos (starEach es X.env))) _ _ s
 refine Calls.spliced_cons (mo hn (ha pins s σ H _ hn I h) fun u s1 h1 ⟨x, H1, I1, r1, q1⟩ => ?_)
 exact thn (hr pos pins s1 σ H1 _ h1 I1 q1) fun us s2 ⟨xs, H2, I2, r2, q2⟩ => ⟨x :: xs, H2, I2, .cons r1 r2, q2⟩
theorem qq4 {x : Str} {j : Nat} {p0 : Pos} (hr : PA X es tA) (hs : starEach (.Constant (.str x) j p0 :: es) X.env = (false, eval (.Constant (.str x) j p0) X.env) :: starEach es X.env := by rfl) : PAf X (.Constant (.str x) j p0 :: es) (N8 (tC (.str x)) tA) := by
 intro pos pins s σ H Q I h
 rw [hs]
 show wpAny _ _ (spliced ((false, eval (.Constant (.str x) j p0) X.env) :: backTo pos (starEach es X.env))) _ _ s
 refine Calls.spliced_cons (Calls.Constant_str ?_)
 have h1 : 1 <= ({ s with toks := s.toks + 1 } : Shared).toks := Nat.le_add_left _ _
 exact mo h1 (hr pos pins _ σ H _ (I.tok _) h) fun us s2 h2 ⟨xs, H2, I2, r2, q2⟩ => ⟨h2, .str x :: xs, H2, I2, .cons ⟨_, rfl⟩ r2, q2⟩
theorem Yo (h : PAt X es tA) : PEt X (.List es pos) (za7 tA) := by
 intro pins s σ H Q hn I hq
 refine wpAny_List_spliced (thn (h pos pins s σ H _ hn I hq) fun us s1 ⟨xs, H1, I1, r, z, q⟩ => ⟨by rw [← r.length]; exact z, ?_⟩)
 have hf : H1 s1.heap.objs.size = none := I1.hok.fresh (Nat.le_refl _)
 refine ⟨.ref s1.heap.objs.size, upd H1 s1.heap.objs.size (.lst xs), I1.laid (t' := s1.toks) (fun b u e => Heap.get?_push_of_some _ e) (Nat.le_refl _) ?_, rfl, q _ hf⟩
 exact ⟨z, us, 0, r, Heap.get?_push_size _ rfl⟩
theorem qr0 (h : PAf X es tA) : PEf X (.List es pos) (za7 tA) := by
 intro pins s σ H Q I hq
 refine wpAny_List_spliced (thn (h pos pins s σ H _ I hq) fun us s1 ⟨h1, xs, H1, I1, r, z, q⟩ => ⟨by rw [← r.length]; exact z, h1, ?_⟩)
 have hf : H1 s1.heap.objs.size = none := I1.hok.fresh (Nat.le_refl _)
 refine ⟨.ref s1.heap.objs.size, upd H1 s1.heap.objs.size (.lst xs), I1.laid (t' := s1.toks) (fun b u e => Heap.get?_push_of_some _ e) (Nat.le_refl _) ?_, rfl, q _ hf⟩
 exact ⟨z, us, 0, r, Heap.get?_push_size _ rfl⟩
theorem qu4 (ha : PEt X a ta) (hb : PEt X b tb) {pins : List (Addr × Obj)} {s : Shared} {σ : St} {H : Hp} {R : V -> V -> Hp -> Prop} (hn : 1 <= s.toks) (I : Inv X pins σ H s)
  (h : ta σ H fun x H1 => tb σ H1 fun y H2 => R x y H2) {Q : Value -> Shared -> Prop} {f : Value -> Value -> Sem Value}
  (hf : ∀ v u s2 x y H2, Inv X pins σ H2 s2 -> RelV x v -> RelV y u -> R x y H2 -> wpAny (model X.prog X.w) X.A (f v u) Q X.xe s2) :
  wpAny (model X.prog X.w) X.A (eval a X.env) (fun v s₁ => wpAny (model X.prog X.w) X.A (eval b X.env) (fun u s₂ => wpAny (model X.prog X.w) X.A (f v u) Q X.xe s₂) X.xe s₁) X.xe s := by
 refine mo hn (ha pins s σ H _ hn I h) fun v s1 h1 ⟨x, H1, I1, r1, q1⟩ => ?_
 refine thn (hb pins s1 σ H1 _ h1 I1 q1) fun u s2 ⟨y, H2, I2, r2, q2⟩ => ?_
 exact hf v u s2 x y H2 I2 r1 r2 q2
theorem qj7 {op : Operator} {r : R2} (ho : OpR X (binaryOp op) r) (ha : PEt X a ta) (hb : PEt X b tb) : PEt X (.BinOp a op b pos) (tOp r ta tb) := by
 intro pins s σ H Q hn I h
 exact wpAny_BinOp (qu4 ha hb hn I h fun v u s2 x y H2 I2 rx ry q => ho pins s2 σ H2 x y v u Q I2 rx ry q)
theorem qr3 {r : R2} (hr : IxR X r) (ha : PEt X a ta) (hb : PEt X b tb) (hs : Y6 b) : PEt X (.Subscript a b pos) (tOp r ta tb) := by
 intro pins s σ H Q hn I h
 exact Subscript_ (qu4 ha hb hn I h fun v u s2 x y H2 I2 rx ry q => hr a b pins s2 σ H2 x y v u Q I2 rx ry q (hs _ _))
theorem qo0 (he : PEt X e te) : PSt X (.Return (some e) pos) (zc5 te) := by
 intro pins s σ H D hn I h
 exact wpAny_Return_some (thn (he pins s σ H _ hn I h) fun v s1 ⟨x, H1, I1, r1, q1⟩ => ⟨x, σ, H1, I1, r1, q1⟩)
theorem qo2 {i : Nat} {x : Str} {pos' : Pos} (hN : X.N.Nodup) (hi : X.N[i]? = some x) (hx : Loc X.env.scope x) (he : PEt X e te) (hs : swapsWith e (some (.Name x pos')) pos.line X.env = pure false := by rfl) (hf : X.fn x = true \/ X.env.scope.names.lookup x = some .local := by first | exact .inl rfl | exact .inr rfl | assumption) :
  PSt X (.Assign [.Name x pos'] e pos) (qj4 te (yf i)) := by
 intro pins s σ H D hn I h
 refine wpAny_Assign_Name (thn (he pins s σ H _ hn I h) fun v s1 ⟨y, H1, I1, r1, q1⟩ => ?_) hs
 exact Aj I1 hN hi hx r1 (fun s2 I2 => ⟨_, H1, I2, q1⟩) hf
theorem qo3 {i : Nat} {x : Str} {pos' : Pos} (hN : X.N.Nodup) (hi : X.N[i]? = some x) (hx : Loc X.env.scope x) (he : PEf X e te) (hs : swapsWith e (some (.Name x pos')) pos.line X.env = pure false := by rfl) (hf : X.fn x = true \/ X.env.scope.names.lookup x = some .local := by first | exact .inl rfl | exact .inr rfl | assumption) :
  PSf X (.Assign [.Name x pos'] e pos) (qj4 te (yf i)) := by
 intro pins s σ H D I h
 refine wpAny_Assign_Name (thn (he pins s σ H _ I h) fun v s1 ⟨h1, y, H1, I1, r1, q1⟩ => ?_) hs
 refine mo h1 (Aj (Q := fun _ => SP X pins D .next) I1 hN hi hx r1 (fun s2 I2 => ⟨_, H1, I2, q1⟩) hf) fun _ s2 h2 q => ⟨h2, q⟩
theorem Qa (h1 : PSt X st t) (h2 : qw8 X rest u) : qw8 X (st :: rest) (qi0 t u) := by
 intro pins s σ H D hn I h
 refine wpAny_execs_cons (mo hn (h1 pins s σ H { D with nx := u D } hn I h) fun f s1 n1 q => ?_)
 cases f with
 | next =>
  obtain ⟨σ', H', I', q⟩ := q
  exact h2 pins s1 σ' H' D n1 I' q
 | ret v => exact q
 | brk => exact q
 | cont => exact q
theorem qh2 (h1 : PSt X st t) : qw8 X [st] t := by
 intro pins s σ H D hn I h
 refine wpAny_execs_cons (thn (h1 pins s σ H D hn I h) fun f s1 q => ?_)
 cases f with
 | next => exact wpAny_execs_nil q
 | ret v => exact q
 | brk => exact q
 | cont => exact q
theorem Zm (h1 : PSf X st t) (h2 : qw8 X rest u) : PSs X (st :: rest) (qi0 t u) := by
 intro pins s σ H D I h
 refine wpAny_execs_cons (thn (h1 pins s σ H { D with nx := u D } I h) fun f s1 ⟨n1, q⟩ => ?_)
 cases f with
 | next =>
  obtain ⟨σ', H', I', q⟩ := q
  exact h2 pins s1 σ' H' D n1 I' q
 | ret v => exact q
 | brk => exact q
 | cont => exact q
noncomputable def za0 (te : TE) (y z : Str) : TE := fun σ H Q => te σ H fun x H1 => ∃ v : Str, x = .str v /\ v.length + (v.length + 1) * z.length <= 16777216 /\ Q (.str (PySem.Txt.replace v y z)) H1
theorem Ij {K : PySem.W.Frag} {o : Expr} {to : TE} {y z : Str} {j1 j2 : Nat} {p1 p2 apos cpos : Pos} (hyz : (y == z) = false) (ho : PE X o to)
  (hbase : attributeBase o "replace" X.env (eval o X.env) = eval o X.env := by rfl)
  (hfew : ((backTo cpos (starEach [.Constant (.str y) j1 p1, .Constant (.str z) j2 p2] X.env)).all (fun x => !x.1) && (backToKw cpos (keywordEach [] X.env)).all (fun x => x.1.isSome)
   && decide (([.Constant (.str y) j1 p1, .Constant (.str z) j2 p2] : List Expr).length + ([] : List Keyword).length + (if ([] : List Keyword).isEmpty then 0 else 1) < 30)) = true := by rfl)
  (hline : (apos.endLine == cpos.line) = true := by rfl) (hs : starEach [.Constant (.str y) j1 p1, .Constant (.str z) j2 p2] X.env = [(false, eval (.Constant (.str y) j1 p1) X.env), (false, eval (.Constant (.str z) j2 p2) X.env)] := by rfl) :
  PEt X (.Call (.Attribute o "replace" apos) [.Constant (.str y) j1 p1, .Constant (.str z) j2 p2] [] cpos) (za0 to y z) := by
 intro pins s σ H Q hn I h
 refine wpAny_Call_method_late hbase hfew hline rfl (mo hn (ho pins s σ H _ I h) fun v s1 n1 ⟨x, H1, I1, r1, q1⟩ => ?_)
 obtain ⟨v', rfl, hb, q1⟩ := q1
 obtain ⟨t, rfl⟩ := r1
 obtain ⟨h1, h2⟩ := qk0 (T := "str") I1 (x := .str v') ⟨t, rfl⟩ rfl
 refine ⟨"str", "str.replace", F.plainAttrs_str, F.slot_str_replace, F.type_str_replace, h1, h2, ?_⟩
 rw [hs]
 refine Calls.callWith_builtin rfl (Calls.evalArgs_plain ?_)
 refine Calls.spliced_cons (Calls.Constant_str (x := y) (pos := p1) (k := j1) ?_)
 refine Calls.spliced_cons (Calls.Constant_str (x := z) (pos := p2) (k := j2) ?_)
 refine Calls.spliced_nil ?_
 have ne : s1.toks ≠ s1.toks + 1 := by omega
 exact SC.replace (by show s1.toks ≠ 0; omega) (by show s1.toks + 1 ≠ 0; omega) ne hyz hb fun t' k => ⟨.str _, H1, (I1.tok _).tok _, ⟨_, rfl⟩, q1⟩
end
end L2
namespace GT
open PySem L2 PySem.StrLaws
noncomputable def jc (x : Cell) : Str := jh (um x)
theorem xm (R C : Nat) (cs : List Cell) : plainT (Ag R C cs) = Ir (jh (Al R C) :: cs.map jc) := by
 rw [Qe]
 unfold Ag
 rw [List.map_cons, List.map_map]
 rfl
theorem J6 {R C : Nat} {cs : List Cell} (p : Part R C cs) (R2 : R <= 16) (C2 : C <= 16) : ∀ x ∈ jh (Al R C) :: cs.map jc, 10 ∉ x.cps.toList := fun x hx => by
 rcases List.mem_cons.mp hx with rfl | hx
 ·exact Bx (Dh R2 C2)
 ·obtain ⟨y, hy, rfl⟩ := List.mem_map.mp hx
  exact Bx (uc (p.fit y hy) R2 C2).1
theorem qp0 {a b : List Str} (ha : ∀ x ∈ a, 10 ∉ x.cps.toList) (hb : ∀ x ∈ b, 10 ∉ x.cps.toList) (e : Ir a = Ir b) : a = b := by
 have h := Bs ha
 rw [e, Bs hb] at h
 exact (List.append_cancel_right h).symm
theorem wg {M : List Str} (hM : ∀ x ∈ M, 10 ∉ x.cps.toList) (g : yh (Ir M)) : ∃ (R C : Nat) (cs : List Cell), Tiles R C cs /\ R <= 16 /\ C <= 16 /\ M = jh (Al R C) :: cs.map jc := by
 obtain ⟨R, C, cs, tl, _, R2, _, C2, e⟩ := g
 rw [xm] at e
 exact ⟨R, C, cs, tl, R2, C2, (qp0 (J6 tl.toPart R2 C2) hM e).symm⟩
theorem ym {R C : Nat} {x : Cell} (f : Fit R C x) (R2 : R <= 16) (C2 : C <= 16) : Txt.split (jc x) sp1 = [num x.top, num x.left, num x.h, num x.w] ++ x.words := by
 have ok := uc f R2 C2
 unfold jc
 rw [Ac (by unfold um; simp) ok.1, Ov]
theorem Be {n k : Nat} {s : Str} (h : n <= 16) (e : num n = s) (d : PySem.intText? s = some (k : Int)) : n = k := by
 have := Q3 h
 rw [e, d] at this
 injection this with this
 omega
theorem qb5 {n k : Nat} (h : n <= 16) (h2 : k <= 16) (e : num n = num k) : n = k := Be h e (Q3 h2)
theorem Ui {R C R' C' : Nat} {x y : Cell} (f : Fit R C x) (R2 : R <= 16) (C2 : C <= 16) (f' : Fit R' C' y) (R2' : R' <= 16) (C2' : C' <= 16) (e : jc x = jc y) : x.top = y.top /\ x.left = y.left := by
 have a := ym f R2 C2
 rw [e, ym f' R2' C2'] at a
 injection a with a1 a2
 injection a2 with a2 a3
 have := f.down
 have := f.across
 have := f'.down
 have := f'.across
 exact ⟨(qb5 (by omega) (by omega) a1).symm, (qb5 (by omega) (by omega) a2).symm⟩
theorem qf2 {R C : Nat} {A B : List Cell} {x y : Cell} (t : Tiles R C (A ++ x :: y :: B)) (R2 : R <= 16) (C2 : C <= 16) : ¬ yh (Ir (jh (Al R C) :: (A ++ y :: x :: B).map jc)) := fun g => by
 have hm : ∀ z, z ∈ A ++ y :: x :: B -> z ∈ A ++ x :: y :: B := fun z hz => by
  simp only [List.mem_append, List.mem_cons] at hz ⊢
  rcases hz with h | h | h | h
  ·exact .inl h
  ·exact .inr (.inr (.inl h))
  ·exact .inr (.inl h)
  ·exact .inr (.inr (.inr h))
 obtain ⟨R', C', cs, tl, R2', C2', e⟩ := wg (fun z hz => by
  rcases List.mem_cons.mp hz with rfl | hz
  ·exact Bx (Dh R2 C2)
  ·obtain ⟨u, hu, rfl⟩ := List.mem_map.mp hz
   exact Bx (uc (t.fit u (hm u hu)) R2 C2).1) g
 injection e with _ e
 rw [List.map_append, List.map_cons, List.map_cons] at e
 obtain ⟨A', r, rfl, _, e⟩ := List.map_eq_append_iff.mp e.symm
 obtain ⟨y', r2, rfl, ey, e⟩ := List.map_eq_cons_iff.mp e
 obtain ⟨x', B', rfl, ex, _⟩ := List.map_eq_cons_iff.mp e
 have fx := t.fit x (by simp)
 have fy := t.fit y (by simp)
 have a := Ui (tl.fit x' (by simp)) R2' C2' fx R2 C2 ex
 have b := Ui (tl.fit y' (by simp)) R2' C2' fy R2 C2 ey
 have o1 := (List.pairwise_cons.mp (List.pairwise_append.mp t.ord).2.1).1 y (by simp)
 have o2 := (List.pairwise_cons.mp (List.pairwise_append.mp tl.ord).2.1).1 x' (by simp)
 unfold xr at o1 o2
 omega
theorem qq2 (a b : List Str) : Ir a ++ Ir b = Ir (a ++ b) := G7 (by
 unfold Ir
 rw [jo, vp, vp, vp, List.map_append, List.map_append, List.flatten_append])
theorem Z9 {R C : Nat} {cs : List Cell} (t : Part R C cs) (R2 : R <= 16) (C2 : C <= 16) : ¬ yh (plainT (Ag R C cs) ++ plainT (Ag R C cs)) := fun g => by
 rw [xm, qq2] at g
 obtain ⟨R', C', cs', tl, R2', C2', e⟩ := wg (fun z hz => J6 t R2 C2 z ((List.mem_append.mp hz).elim id id)) g
 rw [List.cons_append] at e
 injection e with _ e
 have hd : jh (Al R C) ∈ cs'.map jc := by rw [← e]; simp
 obtain ⟨x, hx, ex⟩ := List.mem_map.mp hd
 have a := ym (tl.fit x hx) R2' C2'
 rw [ex, Ac (by unfold Al; simp) (Dh R2 C2)] at a
 have := congrArg List.length a
 rw [List.length_append, List.length_map] at this
 have h2 : (Al R C).length = 2 := rfl
 have h4 : [num x.top, num x.left, num x.h, num x.w].length = 4 := rfl
 omega
theorem qx9 : ∀ n, n < 17 -> 1 <= n -> ∃ a b r, (Nat.toDigits 10 n).map Char.toNat ++ [32] = a :: b :: r /\ 49 <= a /\ a <= 57 /\ b ≠ 55 := by
 have h : ∀ n, n < 17 -> 1 <= n -> (match (Nat.toDigits 10 n).map Char.toNat ++ [32] with | a :: b :: _ => decide (49 <= a) && decide (a <= 57) && decide (b ≠ 55) | _ => false) = true := by decide +kernel
 intro n h1 h2
 have := h n h1 h2
 split at this
 ·rename_i a b r e
  simp only [Bool.and_eq_true, decide_eq_true_eq] at this
  exact ⟨a, b, r, e, this.1.1, this.1.2, this.2⟩
 ·cases this
theorem Du {z : Str} (g : yh z) : ∃ a b r, z.cps.toList = a :: b :: r /\ 49 <= a /\ a <= 57 /\ b ≠ 55 := by
 obtain ⟨R, C, cs, tl, R1, R2, _, C2, rfl⟩ := g
 obtain ⟨a, b, r, e, h1, h2, h3⟩ := qx9 R (by omega) R1
 have e2 : ∃ q, (plainT (Ag R C cs)).cps.toList = (num R).cps.toList ++ [32] ++ q := by
  rw [xm]
  unfold Ir
  rw [vp, List.map_cons, List.map_cons, List.flatten_cons, jo]
  unfold jh qm6 sp1
  rw [wz]
  refine ⟨(num C).cps.toList ++ nl1.cps.toList ++ (((cs.map jc).map fun x => x ++ nl1).map fun w => w.cps.toList).flatten, ?_⟩
  show ((num R).cps.toList ++ 32 :: (num C).cps.toList) ++ _ ++ _ = _
  simp only [List.append_assoc, List.cons_append, List.nil_append]
 obtain ⟨q, e2⟩ := e2
 rw [Qw, e] at e2
 exact ⟨a, b, r ++ q, e2, h1, h2, h3⟩
theorem Gj {z : Str} (g : yh z) : ∃ p a, z.cps.toList = p ++ [a, 10] /\ a ≠ 10 := by
 obtain ⟨R, C, cs, tl, R1, R2, _, C2, rfl⟩ := g
 have rok := Gz tl.toPart R2 C2
 obtain ⟨qs, q, e⟩ : ∃ qs q, Ag R C cs = qs ++ [q] := ⟨_, _, (List.dropLast_concat_getLast (by unfold Ag; simp)).symm⟩
 have hq : q ∈ Ag R C cs := by rw [e]; simp
 have no := Bx (rok.each q hq)
 have ne : (jh q).cps.toList ≠ [] := by
  have : ∃ n r, q = .inl n :: .inl r :: q.drop 2 := by
   rcases List.mem_cons.mp hq with rfl | h
   ·exact ⟨_, _, rfl⟩
   ·obtain ⟨x, _, rfl⟩ := List.mem_map.mp h
    exact ⟨_, _, rfl⟩
  obtain ⟨n, r, e3⟩ := this
  rw [e3]
  unfold jh qm6 sp1
  rw [wz]
  intro z
  have z : (num n).cps.toList ++ 32 :: _ = [] := z
  simp at z
 rw [e, Xi]
 unfold Yg
 rw [jo, jo]
 refine ⟨(plainT qs).cps.toList ++ (jh q).cps.toList.dropLast, (jh q).cps.toList.getLast ne, ?_, fun z => no (by rw [← z]; exact List.getLast_mem _)⟩
 have := (List.dropLast_concat_getLast ne).symm
 rw [List.append_assoc]
 congr 1
 conv => lhs; rw [this]
 show _ ++ [10] = _
 rw [List.append_assoc]
 rfl
theorem qg8 : ∀ c ∈ signs.cps.toList, c ≠ 9 := by decide +kernel
theorem qg5 {z : Str} (g : yh z) : 9 ∉ z.cps.toList := fun h => by
 obtain ⟨R, C, cs, tl, R1, R2, _, C2, rfl⟩ := g
 have rok := Gz tl.toPart R2 C2
 unfold plainT at h
 rw [vp] at h
 obtain ⟨l, hl, h⟩ := List.mem_flatten.mp h
 rw [List.map_map] at hl
 obtain ⟨ps, hp, rfl⟩ := List.mem_map.mp hl
 have h : 9 ∈ (jh ps ++ nl1).cps.toList := h
 rw [jo] at h
 rcases List.mem_append.mp h with h | h
 ·unfold jh qm6 sp1 at h
  rw [wz] at h
  rcases Ik h with h | ⟨w, hw, h⟩
  ·cases h
  ·obtain ⟨y, hy, rfl⟩ := List.mem_map.mp hw
   obtain ⟨p, hp2, rfl⟩ := List.mem_map.mp hy
   have ok := rok.each ps hp p hp2
   cases p with
   | inl n => have := T3 ok 9 h; omega
   | inr x => exact qg8 9 (ok.all 9 h) rfl
 ·have : (9 : Nat) ∈ [10] := h
  simp at this
theorem Ud {c : Nat} {z : Array Nat} : ∀ (r : List Str) (acc : Array Nat), c ∈ acc.toList -> c ∈ (r.foldl (fun acc p => acc ++ z ++ p.cps) acc).toList
 | [], acc, h => h
 | p :: r, acc, h => Ud r _ (by simp [h])
theorem Gm {x z : Str} {c d : Nat} (hx : c ∈ x.cps.toList) (hd : d ∈ z.cps.toList) : d ∈ (Txt.replace x ⟨#[c]⟩ z).cps.toList := by
 rw [replace_one]
 have jn := join_split x ⟨#[c]⟩
 have fr := split_free x c
 cases h : Txt.split x ⟨#[c]⟩ with
 | nil => rw [h] at jn; rw [← jn] at hx; cases hx
 | cons p r =>
  rw [h] at jn fr
  cases r with
  | nil =>
   have e : p = x := jn
   exact absurd hx (by rw [← e]; exact fr p (by simp))
  | cons q r =>
   rw [← glued_cons]
   show d ∈ (r.foldl (fun acc p => acc ++ z.cps ++ p.cps) (p.cps ++ z.cps ++ q.cps)).toList
   exact Ud r _ (by simp [hd])
theorem W6 {z : Str} (h : 1 <= z.length) : (Txt.slice z none (some (-1))).cps.toList = z.cps.toList.dropLast := by
 have e1 : Builtin.Str.strSliceIndices none (some (-1)) 1 z.length = Builtin.Str.strSliceIndices (some ((0 : Nat) : Int)) (some ((z.length - 1 : Nat) : Int)) 1 z.length := by
  rw [sliceIdx_none_lo, sliceIdx_neg_hi _ _ (by decide) (by omega)]
  congr 2
  omega
 unfold Txt.slice
 rw [e1, strSliceIndices_plain (Nat.zero_le _) (by omega), List.length_map, List.length_range, if_neg (by simp only [Bool.and_eq_true, beq_iff_eq]; omega)]
 have e2 := sliced_plain z (a := 0) (b := z.length - 1) (Nat.zero_le _) (by omega)
 rw [strSliceIndices_plain (Nat.zero_le _) (by omega)] at e2
 rw [e2, List.drop_zero, List.dropLast_eq_take]
 have : z.length = z.cps.toList.length := by simp [Str.length]
 rw [this]
 rfl
theorem Qi : ("" : Str).cps.toList = [] := by decide +kernel
theorem zc1 : ("\n" : Str).cps.toList = [10] := by decide +kernel
theorem zc3 : (" " : Str).cps.toList = [32] := by decide +kernel
theorem ze7 : ("0" : Str).cps.toList = [48] := by decide +kernel
theorem zd4 : ("\t\n" : Str).cps.toList = [9, 10] := by decide +kernel
theorem ze3 : ("\t" : Str).cps.toList = [9] := by decide +kernel
theorem ze5 : ("\n" : Str) = ⟨#[10]⟩ := by decide +kernel
theorem zc9 : (" " : Str) = ⟨#[32]⟩ := by decide +kernel
noncomputable def Qt (z : Str) : Nat -> Str
 | 0 => ""
 | 1 => "\n"
 | 2 => Txt.slice z none (some (-1))
 | 3 => z ++ "\n"
 | 4 => " " ++ z
 | 5 => "0" ++ z
 | 9 => z ++ z
 | 13 => Txt.replace z "\n" "\t\n"
 | 14 => Txt.replace z " " "\t"
 | _ => ""
theorem yz {z : Str} (g : yh z) (k : Nat) : ¬ yh (Qt z k) := fun b => by
 have l1 := Gj g
 have t1 := Du g
 have l2 := Gj b
 have t2 := Du b
 have n9 := qg5 b
 obtain ⟨p, a, ez, na⟩ := l1
 obtain ⟨p2, a2, ez2, na2⟩ := l2
 obtain ⟨b1, b2, br, eb, b3, b4, b5⟩ := t2
 obtain ⟨c1, c2, cr, ec, _⟩ := t1
 have m10 : 10 ∈ z.cps.toList := by rw [ez]; simp
 have nil : (Qt z k).cps.toList = [] -> False := fun e => by rw [e] at eb; cases eb
 match k with
 | 0 => exact nil Qi
 | 1 =>
  have e : (Qt z 1).cps.toList = [10] := zc1
  rw [e] at eb
  injection eb with eb
  omega
 | 2 =>
  have e : (Qt z 2).cps.toList = p ++ [a] := by
   show (Txt.slice z none (some (-1))).cps.toList = _
   rw [W6 (by show 1 <= z.cps.size; rw [← Array.length_toList, ez]; simp), ez]
   rw [List.dropLast_append_of_ne_nil (by simp)]
   rfl
  rw [e] at ez2
  have e3 : p ++ [a] = (p2 ++ [a2]) ++ [10] := by rw [ez2, List.append_assoc]; rfl
  have := List.append_inj_right' e3 rfl
  exact na (by injection this)
 | 3 =>
  have e : (Qt z 3).cps.toList = p ++ [a, 10] ++ [10] := by
   show (z ++ "\n" : Str).cps.toList = _
   rw [jo, ez, zc1]
  rw [e] at ez2
  have e3 : (p ++ [a]) ++ [10, 10] = p2 ++ [a2, 10] := by rw [← ez2]; simp
  have := List.append_inj_right' e3 rfl
  injection this with this
  exact na2 this.symm
 | 4 =>
  have e : (Qt z 4).cps.toList = 32 :: z.cps.toList := by
   show (" " ++ z : Str).cps.toList = _
   rw [jo, zc3]
   rfl
  rw [e] at eb
  injection eb with eb
  omega
 | 5 =>
  have e : (Qt z 5).cps.toList = 48 :: z.cps.toList := by
   show ("0" ++ z : Str).cps.toList = _
   rw [jo, ze7]
   rfl
  rw [e] at eb
  injection eb with eb
  omega
 | 9 =>
  obtain ⟨R, C, cs, tl, R1, R2, _, C2, rfl⟩ := g
  exact Z9 tl.toPart R2 C2 b
 | 13 =>
  have n9 : 9 ∉ (Txt.replace z "\n" "\t\n").cps.toList := n9
  rw [ze5] at n9
  exact n9 (Gm m10 (by rw [zd4]; simp))
 | 14 =>
  have n9 : 9 ∉ (Txt.replace z " " "\t").cps.toList := n9
  rw [zc9] at n9
  refine n9 (Gm ?_ (by rw [ze3]; simp))
  obtain ⟨R, C, cs, tl, R1, R2, _, C2, rfl⟩ := g
  rw [xm]
  unfold Ir
  rw [vp, List.map_cons, List.map_cons, List.flatten_cons, jo]
  unfold jh qm6 sp1
  rw [wz]
  show 32 ∈ ((num R).cps.toList ++ 32 :: (num C).cps.toList) ++ _ ++ _
  simp
 | 6 => exact nil Qi
 | 7 => exact nil Qi
 | 8 => exact nil Qi
 | 10 => exact nil Qi
 | 11 => exact nil Qi
 | 12 => exact nil Qi
 | k + 15 => exact nil Qi
theorem Yk {z : Str} (g : yh z) : ¬ yh (z ++ " ") := fun b => by
 obtain ⟨p2, a2, ez2, _⟩ := Gj b
 rw [jo] at ez2
 have e3 : z.cps.toList ++ [32] = (p2 ++ [a2]) ++ [10] := by
  rw [← zc3, ez2, List.append_assoc]
  rfl
 have := List.append_inj_right' e3 rfl
 injection this with this
 cases this
theorem qd5 {z : Str} {r : List Nat} (e : z.cps.toList = 49 :: 55 :: r) : ¬ yh z := fun b => by
 obtain ⟨b1, b2, br, eb, b3, b4, b5⟩ := Du b
 rw [e] at eb
 injection eb with _ eb
 injection eb with eb
 exact b5 eb.symm
theorem qd1 : ¬ yh ("1 1\n0 0 1 1" ++ ⟨(List.replicate 13 (" a" : Str).cps).foldl (· ++ ·) #[]⟩ ++ "\n") := fun g => by
 have e : ("1 1\n0 0 1 1" ++ ⟨(List.replicate 13 (" a" : Str).cps).foldl (· ++ ·) #[]⟩ ++ "\n" : Str) = Ir ["1 1", "0 0 1 1 a a a a a a a a a a a a a"] := by decide +kernel
 rw [e] at g
 obtain ⟨R, C, cs, tl, R2, C2, e⟩ := wg (by decide +kernel) g
 injection e with _ e
 obtain ⟨x, r, rfl, ex, _⟩ := List.map_eq_cons_iff.mp e.symm
 have fx := tl.fit x (by simp)
 have a := ym fx R2 C2
 rw [ex] at a
 have := congrArg List.length a
 rw [List.length_append] at this
 have h1 : (Txt.split "0 0 1 1 a a a a a a a a a a a a a" sp1).length = 17 := by decide +kernel
 have h4 : [num x.top, num x.left, num x.h, num x.w].length = 4 := rfl
 have := fx.words.few
 omega
theorem qa5 : ¬ yh "1 1\n0 0 1 1 aB\n" := fun g => by
 have e : ("1 1\n0 0 1 1 aB\n" : Str) = Ir ["1 1", "0 0 1 1 aB"] := by decide +kernel
 rw [e] at g
 obtain ⟨R, C, cs, tl, R2, C2, e⟩ := wg (by decide +kernel) g
 injection e with _ e
 obtain ⟨x, r, rfl, ex, _⟩ := List.map_eq_cons_iff.mp e.symm
 have fx := tl.fit x (by simp)
 have a := ym fx R2 C2
 have h1 : Txt.split "0 0 1 1 aB" sp1 = (["0", "0", "1", "1", "aB"] : List Str) := by decide +kernel
 rw [ex, h1] at a
 have hw : ("aB" : Str) ∈ x.words := by
  have : x.words = (["0", "0", "1", "1", "aB"] : List Str).drop 4 := by rw [a]; rfl
  rw [this]
  simp
 have := (fx.words.each _ hw).all 66 (by decide +kernel)
 exact absurd this (by decide +kernel)
theorem qg4 : ¬ yh "1 2\n0 0 1 2\n0 1 1 1\n" := fun g => by
 have e : ("1 2\n0 0 1 2\n0 1 1 1\n" : Str) = Ir ["1 2", "0 0 1 2", "0 1 1 1"] := by decide +kernel
 rw [e] at g
 obtain ⟨R, C, cs, tl, R2, C2, e⟩ := wg (by decide +kernel) g
 injection e with _ e
 obtain ⟨x, r, rfl, ex, e⟩ := List.map_eq_cons_iff.mp e.symm
 obtain ⟨y, r, rfl, ey, e⟩ := List.map_eq_cons_iff.mp e
 have fx := tl.fit x (by simp)
 have fy := tl.fit y (by simp)
 have a := ym fx R2 C2
 have b := ym fy R2 C2
 have h1 : Txt.split "0 0 1 2" sp1 = (["0", "0", "1", "2"] : List Str) := by decide +kernel
 have h2 : Txt.split "0 1 1 1" sp1 = (["0", "1", "1", "1"] : List Str) := by decide +kernel
 rw [ex, h1] at a
 rw [ey, h2] at b
 injection a with a1 a
 injection a with a2 a
 injection a with a3 a
 injection a with a4 a
 injection b with b1 b
 injection b with b2 b
 injection b with b3 b
 injection b with b4 b
 have := fx.down
 have := fx.across
 have := fy.down
 have := fy.across
 have d0 : PySem.intText? "0" = some ((0 : Nat) : Int) := by decide +kernel
 have d1 : PySem.intText? "1" = some ((1 : Nat) : Int) := by decide +kernel
 have d2 : PySem.intText? "2" = some ((2 : Nat) : Int) := by decide +kernel
 have x1 := Be (by omega) a1.symm d0
 have x2 := Be (by omega) a2.symm d0
 have x3 := Be (by omega) a3.symm d1
 have x4 := Be (by omega) a4.symm d2
 have y1 := Be (by omega) b1.symm d0
 have y2 := Be (by omega) b2.symm d1
 have y3 := Be (by omega) b3.symm d1
 have y4 := Be (by omega) b4.symm d1
 have := (List.pairwise_cons.mp tl.dis).1 y (by simp) 0 1
 unfold inC at this
 exact this (by omega) (by omega)
end GT
namespace GT
open PySem L2 PySem.StrLaws
noncomputable def v5 (R C : Nat) (cs : List Cell) : List Str := jh (Al R C) :: cs.map jc
theorem Gs {R C : Nat} {cs : List Cell} (p : Part R C cs) (R2 : R <= 16) (C2 : C <= 16) : Txt.split (plainT (Ag R C cs)) ⟨#[10]⟩ = v5 R C cs ++ [emp] := by
 rw [xm]
 exact Bs (J6 p R2 C2)
theorem Ge {R C : Nat} {cs : List Cell} (p : Part R C cs) (R2 : R <= 16) (C2 : C <= 16) : cs.length <= 256 := by
 have h1 := p.few
 have h2 : R * C <= 16 * 16 := Nat.mul_le_mul R2 C2
 omega
theorem Ux {R C : Nat} {cs : List Cell} : (v5 R C cs ++ [emp]).length = cs.length + 2 := by
 unfold v5
 simp
theorem Zn {R C : Nat} {cs : List Cell} (p : Part R C cs) (R2 : R <= 16) (C2 : C <= 16) : ∀ x ∈ v5 R C cs ++ [emp], x.length <= 208 := fun x hx => by
 rcases List.mem_append.mp hx with hx | hx
 ·rcases List.mem_cons.mp hx with rfl | hx
  ·exact Gd (Dh R2 C2) (by unfold Al; simp)
  ·obtain ⟨y, hy, rfl⟩ := List.mem_map.mp hx
   have ok := uc (p.fit y hy) R2 C2
   exact Gd ok.1 ok.2
 ·rw [List.mem_singleton.mp hx]
  exact Nat.zero_le _
theorem Q5 {R C : Nat} {cs : List Cell} (p : Part R C cs) (R2 : R <= 16) (C2 : C <= 16) : (plainT (Ag R C cs)).length <= 65000 := by
 have a := plain_len (Gz p R2 C2)
 have b : (Ag R C cs).length = cs.length + 1 := by unfold Ag; simp
 have c := Ge p R2 C2
 rw [b] at a
 omega
theorem qr1 {z : Str} (g : yh z) : 1 <= z.length := by
 obtain ⟨a, b, r, e, _⟩ := Du g
 show 1 <= z.cps.size
 rw [← Array.length_toList, e]
 simp
theorem Y5 {ls : List Str} (h : ∀ x ∈ ls, x.length <= 208) (n : ls.length <= 700) : (ls.map (·.length)).sum + ls.length * nl1.length <= 16777216 /\ (Im nl1 ls).length <= 200000 := by
 have a := N6 h
 have b := size_glued nl1 ls
 have e : nl1.length = 1 := rfl
 have b : (Im nl1 ls).length = (ls.map (·.length)).sum + (ls.length - 1) * nl1.length := b
 rw [e] at b ⊢
 rw [b]
 omega
theorem Dy (ls : List Str) (lo hi : Option Int) : ∃ ls' : List Str, vm (ls.map V.str) lo hi = ls'.map V.str /\ ls'.length <= ls.length /\ ∀ x ∈ ls', x ∈ ls := by
 unfold vm
 rw [List.length_map, ← List.map_drop, ← List.map_take]
 refine ⟨_, rfl, ?_, fun x hx => List.mem_of_mem_drop (List.mem_of_mem_take hx)⟩
 rw [List.length_take, List.length_drop]
 omega
theorem qj1 (ys : List V) (f b : Nat) : vm ys (some (f : Int)) (some (b : Int)) = (ys.take b).drop f := by
 unfold vm
 rw [HT.sIx_nat, HT.sIx_nat, List.drop_take]
 by_cases h1 : f <= ys.length
 ·rw [Nat.min_eq_left h1]
  by_cases h2 : b <= ys.length
  ·rw [Nat.min_eq_left h2]
  ·rw [Nat.min_eq_right (by omega)]
   rw [List.take_of_length_le (by rw [List.length_drop]; omega), List.take_of_length_le (by rw [List.length_drop]; omega)]
 ·rw [Nat.min_eq_right (by omega : ys.length <= f), List.drop_length, List.drop_of_length_le (by omega)]
  simp
theorem qx4 {A B : List V} {a b : V} {n : Nat} (h : A.length = n) : vm (A ++ a :: b :: B) (some (n : Int)) (some ((n : Int) + 1)) = [a] := by
 have := qj1 (A ++ a :: b :: B) n (n + 1)
 refine this.trans ?_
 subst h
 simp [List.take_append]
theorem qz3 {A B : List V} {a b : V} {n : Nat} (h : A.length = n) : vm (A ++ a :: b :: B) (some ((n : Int) + 1)) (some ((n : Int) + 2)) = [b] := by
 have := qj1 (A ++ a :: b :: B) (n + 1) (n + 2)
 refine this.trans ?_
 subst h
 simp [List.take_append, List.drop_append]
theorem qy0 {A B : List V} {n : Nat} (h : A.length = n) : vm (A ++ B) none (some (n : Int)) = A := by
 rw [Zv]
 subst h
 simp
theorem qy3 {A B : List V} {a b : V} {n : Nat} (h : A.length = n) : vm (A ++ a :: b :: B) (some ((n : Int) + 2)) none = B := by
 have := Qu (ys := A ++ a :: b :: B) (i := n + 2)
 refine this.trans ?_
 subst h
 simp [List.drop_append]
theorem qt1 {α : Type} {cs : List α} {k : Nat} (h : k + 1 < cs.length) : ∃ A x y B, cs = A ++ x :: y :: B /\ A.length = k := by
 refine ⟨cs.take k, cs[k], cs[k + 1], cs.drop (k + 2), ?_, by rw [List.length_take]; omega⟩
 rw [← List.drop_eq_getElem_cons (by omega), ← List.drop_eq_getElem_cons (by omega), List.take_append_drop]
end GT
namespace L2
open PySem PySem.Spec PyProof.Rows PySem.W
theorem J5 : entryFor table "proto.unchain" = some Builtin.«proto.unchain» := entryFor_of_tree (by kernel_rfl)
section
variable {prog : Program} {w : World} {A : Around} {E : Value -> Shared -> Prop} {s : Shared} {env : Env}
theorem N5 {α : Type} {Q : α -> Shared -> Prop} {e old : Addr} {oe oo : Obj} {vs ws : Array Value} (hh : A.handled = some (.ref old)) (ne : old ≠ e) (he : s.heap.get? e = some oe) (hde : oe.data = .fields ws) (hz : 2 < ws.size)
  (ho : s.heap.get? old = some oo) (hdo : oo.data = .fields vs) (h2 : vs[2]? = some .none) (h : E (.ref e) { s with heap := s.heap.update e (Obj.mapFields (·.setIfInBounds 2 (.ref old))) }) :
  wpAny (model prog w) A (raiseNew (.ref e) : Sem α) Q E s := by
 unfold raiseNew
 refine wpAny_bind (wpAny_handled ?_)
 rw [hh]
 dsimp only
 rw [if_pos (show (Value.ref old != Value.ref e) = true from by simpa using ne)]
 refine wpAny_bind (wpAny_holding (runValue_entry J5 ?_))
 unfold Builtin.«proto.unchain»
 refine wpAny_bind (m := field (.ref old) 2) (wpAny_field ho hdo h2 ?_)
 rw [if_pos (show (Value.none == Value.none) = true from rfl)]
 refine wpAny_pure ⟨.none, rfl, ?_⟩
 unfold updateField
 refine wpAny_bind (wpAny_bind (wpAny_load he ?_))
 rw [hde]
 dsimp only
 rw [if_pos hz]
 exact wpAny_update he (wpAny_throw h)
variable {nm q : Str} {C N : Addr} {bs bm : List Value} {hdct : Bool} {sn : List Str} {sub : List Value} {ab : Bool} {col : Option Bool} {dd : Option Addr} {k0 k1 k2 k3 k5 : Option Value} {newId : String}
theorem Iu {x c : Sem Value} (hc : ∀ (s : Shared) (Q : Value -> Shared -> Prop), Q .none s -> wpAny (model prog w) A c Q E s) {Q : Flow -> Shared -> Prop} {old : Addr} (hbase : bm.contains (.type "BaseException") = true) (hh : A.handled = some (.ref old))
  (h : wpAny (model prog w) A x (fun v s₁ => ∃ e t, v = .ref e /\ s₁.heap.get? C = some (excClassObj nm q C N bs bm hdct sn sub ab col dd k0 k1 k2 k3 k5 newId) /\
   s₁.heap.get? e = some { cls := .ref C, data := .fields #[.ref t, .none, .none, .none, .bool false, .none] } /\ old ≠ e /\ (∃ oo vs, s₁.heap.get? old = some oo /\ oo.data = .fields vs /\ vs[2]? = some .none) /\
   ∀ h', h'.get? e = some { cls := .ref C, data := .fields #[.ref t, .none, .ref old, .none, .bool true, .none] } -> Heap.SameBut e s₁.heap h' -> E (.ref e) { s₁ with heap := h' }) E s) :
  wpAny (model prog w) A (raiseStmt env (some x) (some c)) Q E s := by
 have hcB : (Value.ref C :: bm).contains (.type "BaseException") = true := by rw [List.contains_cons, hbase, Bool.or_true]
 unfold raiseStmt
 refine wpAny_bind (wpAny_mono h (fun v s₁ h₁ => ?_) fun _ _ x => x)
 obtain ⟨e, t, rfl, hC, he, ne, ⟨oo, vs, ho, hdo, h2⟩, hE⟩ := h₁
 obtain ⟨hp, g, d, tk, os⟩ := s₁
 refine wpAny_bind (wpAny_holding (hc _ _ (wpAny_bind (wpAny_pure ?_))))
 repeat (first | with_reducible refine wpAny_loadPart_at he ?_ | with_reducible refine wpAny_loadPart_at hC ?_ | (with_reducible refine wpAny_isSubtype_exc hC ?_; rw [hcB]) | wp_step)
 have hne : e ≠ C := fun z => by
  rw [z, hC] at he
  injection he with he
  injection he with _ _ he
  cases he
 have e1 := Heap.get?_update_self (Obj.mapFields fun x => x.setIfInBounds 3 Value.none) he rfl
 have e2 := Heap.get?_update_self (Obj.mapFields fun x => x.setIfInBounds 4 (Value.bool true)) e1 rfl
 have sb : Heap.SameBut e hp ((hp.update e (Obj.mapFields fun x => x.setIfInBounds 3 Value.none)).update e (Obj.mapFields fun x => x.setIfInBounds 4 (Value.bool true))) := (Heap.SameBut.update ..).trans (Heap.SameBut.update ..)
 have c2 := (sb.2 C (Ne.symm hne)).trans hC
 have o2 := (sb.2 old ne).trans ho
 generalize ((hp.update e (Obj.mapFields fun x => x.setIfInBounds 3 Value.none)).update e (Obj.mapFields fun x => x.setIfInBounds 4 (Value.bool true))) = hp2 at *
 have e3 : hp2.get? e = some { cls := .ref C, data := .fields #[.ref t, .none, .none, .none, .bool true, .none] } := e2
 refine wpAny_loadPart_at c2 (wpAny_pure ?_)
 rw [if_pos (show ((excClassObj nm q C N bs bm hdct sn sub ab col dd k0 k1 k2 k3 k5 newId).cls == Value.type "type") = true from rfl)]
 refine wpAny_pure ?_
 refine wpAny_bind ?_
 unfold setFlight
 refine wpAny_bind (wpAny_field (x := Value.none) e3 rfl rfl ?_)
 rw [if_neg (show ¬ (Value.none != Value.none) = true from by simp)]
 refine wpAny_pure ?_
 refine N5 hh ne e3 rfl (by show 2 < 6; decide) o2 hdo h2 (hE _ (Heap.get?_update_self _ e3 rfl) (sb.trans (Heap.SameBut.update ..)))
variable {bmB : List Value} {B initId : String}
theorem G6 (F : ExcBaseFacts B newId initId bmB) {mN : Str -> Option Value} {x : Str} {np cpos pos kpos : Pos} {kn : Nat} {args : List Expr} {Q : Flow -> Shared -> Prop} {old : Addr}
  (hbase : bm.contains (.type "BaseException") = true) (hh : A.handled = some (.ref old)) (hplain : (backTo cpos (starEach args env)).any (·.1) = false) (hni : mN "__init__" = none)
  (h : wpAny (model prog w) A (eval (.Name x np) env) (fun f s₁ => f = .ref C /\ wpAny (model prog w) A (evalArgs (.ref C) true (backTo cpos (starEach args env)) [])
   (fun a s₂ => a.kw = [] /\ a.pos.length <= sizeLine /\ s₂.heap.get? C = some (excClassObj nm q C N bs bm hdct sn sub ab col dd k0 k1 k2 k3 k5 newId) /\ s₂.heap.Ns N mN /\ OwnTail s₂.heap bmB bm /\ (∃ oo vs, s₂.heap.get? old = some oo /\ oo.data = .fields vs /\ vs[2]? = some .none) /\
    ∀ h' h'' e t, Heap.MadeExcOf s₂.heap h' e (.ref C) a.pos -> h''.get? e = some { cls := .ref C, data := .fields #[.ref t, .none, .ref old, .none, .bool true, .none] } -> Heap.SameBut e h' h'' -> E (.ref e) { s₂ with heap := h'' }) E s₁) E s) :
  wpAny (model prog w) A (exec (.Raise (some (.Call (.Name x np) args [] cpos)) (some (.Constant .none kn kpos)) pos) env) Q E s := by
 rw [arm_exec_Raise]
 refine wpAny_bind (wpAny_standAt ?_)
 refine Iu (C := C) (nm := nm) (q := q) (N := N) (bs := bs) (bm := bm) (hdct := hdct) (sn := sn) (sub := sub) (ab := ab) (col := col) (dd := dd) (k0 := k0) (k1 := k1) (k2 := k2) (k3 := k3) (k5 := k5) (newId := newId) (old := old) (fun s1 Q1 hq => ?_) hbase hh ?_
 ·exact wpAny_bind (Constant_none (wpAny_bind (wpAny_standAt (wpAny_pure hq))))
 refine wpAny_bind (wpAny_mono (wpAny_Call_ofName (wpAny_mono h (fun f s₁ h₁ => ?_) fun _ _ x => x)) (fun v s₃ h₃ => wpAny_bind (wpAny_standAt (wpAny_pure h₃))) fun _ _ x => x)
 obtain ⟨rfl, h₁⟩ := h₁
 unfold callWith
 refine wpAny_bind (wpAny_holding (wpAny_mono h₁ (fun a s₂ h₂ => wpAny_bind (wpAny_standAt ?_)) fun _ _ x => x))
 obtain ⟨apos, akw⟩ := a
 obtain ⟨hkw, hlen, hC, hn, T, ⟨oo, vs, ho, hdo, h2⟩, h₂⟩ := h₂
 obtain rfl : akw = [] := hkw
 obtain ⟨hp, g, d, tk, os⟩ := s₂
 simp only [hplain]
 refine wpAny_bind (wpAny_keeperOf_exc hC ?_)
 refine wpAny_bind (wpAny_call_exc_subT (hrest := hlen) F T hC hn hni fun h' e hm => wpAny_bind (wpAny_holding (wpAny_point (wpAny_pure ?_))))
 obtain ⟨t, ht, _, _⟩ := hm.there
 refine ⟨e, t, rfl, hm.keeps _ _ hC, ht, fun z => ?_, ⟨oo, vs, hm.keeps _ _ ho, hdo, h2⟩, fun h'' he'' sb => h₂ h' h'' e t hm he'' sb⟩
 have := hm.new
 rw [← z, ho] at this
 cases this
end
section
variable {P : Program} {w : World} {K : PySem.W.Frag} {mg : Str -> Option Value} {base : Heap} {N : List Str} {qual : Str} {scope : Scope} {f : Addr} {cd : Value} {A : Around} {outer : List Env} {s₀ : Shared} {H₀ : Hp} {E : XK}
theorem qh3 {pins : List (Addr × Obj)} {σ : St} {H : Hp} {s : Shared} {e t old : Addr} {C2 : Addr} {A2 : Around} (hA2 : A2.frames = some (envOfC qual scope s₀.heap.objs.size f cd :: outer))
  (I : Inv (uq (CX1 P w base) P w K mg base N qual scope f cd A outer s₀ H₀ E) pins σ H s) (he : s.heap.get? e = some { cls := .ref C2, data := .fields #[.ref t, .none, .ref old, .none, .bool true, .none] }) (hnew : s₀.heap.get? e = none) (lo : H e = none) (hE : E (.ref C2) none H) :
  notedBy (model P w) A2 (envOfC qual scope s₀.heap.objs.size f cd) (cameBackBy (model P w) (uq (CX1 P w base) P w K mg base N qual scope f cd A outer s₀ H₀ E).A (envOfC qual scope s₀.heap.objs.size f cd) (uq (CX1 P w base) P w K mg base N qual scope f cd A outer s₀ H₀ E).xe) (.ref e) s := by
 have sta := Zq I he rfl (by show 1 < 6; decide) rfl (fun z => absurd rfl z)
 refine Bq hA2 rfl (.inl rfl) sta fun h1 x1 u1 => ?_
 obtain ⟨st, new, hl, oe, vs, he1, hc, hdd, hd, hz, ⟨T, oT, ts, h1', nT, hTe, hT, dT, h3⟩, hcx⟩ := id x1
 refine wpAny_bind (wpAny_field he1 hd h1' ?_)
 rw [if_neg (show ¬ (Value.ref T == Value.none) = true from by simp)]
 refine qu8 x1 fun h2 x2 u2 => ?_
 refine Xf rfl x2 fun h4 x4 u4 => ?_
 have z := qb4 (s := s) (h'' := h4) (oe := { cls := .ref C2, data := .fields #[.ref t, .none, .ref old, .none, .bool true, .none] }) I he rfl hnew (.inl lo) (by rw [Mw lo]; exact hE) x4 ((u1.trans u2).trans u4)
 exact z
noncomputable def qu1 (K : PySem.W.Frag) (C C2 : Addr) (E : XK) (sp : Sp) (t : TA) (i : Nat) (t0 : TA) : TS := fun D σ H => t σ H fun vs H1 => sp vs H1 (fun v H2 => D.nx (σ.set i (some v)) H2) (fun cls dd H2 => exmOne K cls (.ref C) = some true /\ dd ≠ none /\ t0 σ H2 fun us H3 => us.length <= sizeLine /\ E (.ref C2) none H3)
theorem qp7 {pins : List (Addr × Obj)} {σ : St} {H H' : Hp} {s s' : Shared} {ea : Addr} {cls : Value} {dd : Option Addr} {B : Heap} {D : Ends} {y y2 : Str} {C C2 : Addr} {np np2 hpos cpos kpos rpos : Pos} {kn : Nat} {e0 : Expr} {t0 : TA} {rest : List ExceptHandler}
  (hg : Gl (uq (CX1 P w base) P w K mg base N qual scope f cd A outer s₀ H₀ E) y) (hm : mg y = some (.ref C)) (hx : exmOne K cls (.ref C) = some true) (O : ExcC K mg base y2 C2) (hg2 : Gl (uq (CX1 P w base) P w K mg base N qual scope f cd A outer s₀ H₀ E) y2)
  (I : Inv (uq (CX1 P w base) P w K mg base N qual scope f cd A outer s₀ H₀ E) pins σ H s) (F : Fly P w base (envOfC qual scope s₀.heap.objs.size f cd :: outer) H s s' ea cls dd B H') (hdd : dd ≠ none)
  (ha : ∀ ea oe, PA (Xk (uq (CX1 P w base) P w K mg base N qual scope f cd A outer s₀ H₀ E) ea oe) [e0] t0) (q : t0 σ H' fun us H3 => us.length <= sizeLine /\ E (.ref C2) none H3)
  (hdb : (y == ("__debug__" : Str)) = false := by decide) (hdb2 : (y2 == ("__debug__" : Str)) = false := by decide)
  (he : starEach [e0] (envOfC qual scope s₀.heap.objs.size f cd) = (false, eval e0 (envOfC qual scope s₀.heap.objs.size f cd)) :: starEach [] (envOfC qual scope s₀.heap.objs.size f cd) := by rfl) (hpl : (backTo cpos (starEach [] (envOfC qual scope s₀.heap.objs.size f cd))).any (·.1) = false := by rfl) :
  Catch (uq (CX1 P w base) P w K mg base N qual scope f cd A outer s₀ H₀ E) pins D (.ExceptHandler (some (.Name y np)) none [.Raise (some (.Call (.Name y2 np2) [e0] [] cpos)) (some (.Constant .none kn kpos)) rpos] hpos :: rest) (.ref ea) s' := by
 generalize hX : uq (CX1 P w base) P w K mg base N qual scope f cd A outer s₀ H₀ E = X at *
 have frs1 : X.A.frames = some (envOfC qual scope s₀.heap.objs.size f cd :: outer) := by subst hX; exact I.ok.frames
 have fly1 := F.fly
 subst hX
 refine Bq frs1 rfl (.inr rfl) fly1 fun h1 held1 up1 => ?_
 refine uv held1 fun h2 fl2 up2 => ?_
 have F2 := F.on fl2 (up1.trans up2)
 obtain ⟨oe, vs, I2, he2, hc2, hd2⟩ := landed I F fl2 (up1.trans up2)
 have X2 := I2.toEx (oe := oe) he2 hd2 F.notB
 refine wpAny_handleBy_cons (codeAny_handlers_test ?_) (by intro z; cases z)
 refine vo X2 hg hm ?_ hdb
 refine (exm_one I2.kIn (Ut he2 hc2) hx).here ?_
 rw [if_pos rfl]
 refine codeAny_handlers_suite ?_
 refine uv fl2 fun h3 fl3 up3 => ?_
 obtain ⟨oe3', vs3', I3, he3', hc3, hd3'⟩ := landed I F2 fl3 up3
 obtain ⟨oe3, vs3, he3, _, hq3, hd3, _, _, hcx3⟩ := fl3.obj
 have X3 := I3.toEx (oe := oe3) he3 hd3 F.notB
 have ctx := hcx3 hdd
 obtain ⟨bmB, newId, Bn, initId, FB, O⟩ := O.own
 obtain ⟨tl, Nn, nm, qq, bs, hdct, sn, sub, ab, col, ddc, k0, k1, k2, k3, k5, mN, hC, hN, hni, T⟩ := O.obj
 have hpl2 : (backTo cpos (starEach [e0] (envOfC qual scope s₀.heap.objs.size f cd))).any (·.1) = false := by
  rw [he]
  show (false || (backTo cpos (starEach [] (envOfC qual scope s₀.heap.objs.size f cd))).any (·.1)) = false
  rw [hpl]; rfl
 refine wpAny_execs_cons ?_
 refine G6 (C := C2) (nm := nm) (q := qq) (N := Nn) (bs := bs) (bm := tl) (hdct := hdct) (sn := sn) (sub := sub) (ab := ab) (col := col) (dd := ddc) (k0 := k0) (k1 := k1) (k2 := k2) (k3 := k3) (k5 := k5) (old := ea)
  FB (mN := mN) (T.hasType FB.hasBase) rfl hpl2 hni (vo X3 hg2 O.bound ⟨rfl, ?_⟩ hdb2)
 have hh := wpAny_mono (E' := fun _ _ => False) (ha ea oe3 cpos pins _ σ H' _ X3 q) (Q' := fun vs s₂ => vs.length <= sizeLine /\ (∀ b o, base.get? b = some o -> s₂.heap.get? b = some o) /\ (∃ oo vs, s₂.heap.get? ea = some oo /\ oo.data = .fields vs /\ vs[2]? = some .none) /\
   ∀ h' h'' e t, Heap.MadeExcOf s₂.heap h' e (.ref C2) vs -> h''.get? e = some { cls := .ref C2, data := .fields #[.ref t, .none, .ref ea, .none, .bool true, .none] } -> Heap.SameBut e h' h'' ->
    notedBy (model P w) ((uq (CX1 P w base) P w K mg base N qual scope f cd A outer s₀ H₀ E).A.mark (some (.ref ea))) (envOfC qual scope s₀.heap.objs.size f cd) (cameBackBy (model P w) (uq (CX1 P w base) P w K mg base N qual scope f cd A outer s₀ H₀ E).A (envOfC qual scope s₀.heap.objs.size f cd) (uq (CX1 P w base) P w K mg base N qual scope f cd A outer s₀ H₀ E).xe) (.ref e) { s₂ with heap := h'' })
  (fun us s1 ⟨vs, H1, I1, r1, z, q1⟩ => ⟨by rw [← r1.length]; exact z, I1.bk, ⟨oe3, vs3, (I1.pin (ea, oe3) (List.mem_append_left _ List.mem_cons_self)).1, hd3, ctx⟩, fun h' h'' e t mx he'' sb => ?_⟩) (fun _ _ z => z)
 ·have he' : starEach [e0] (Xk (uq (CX1 P w base) P w K mg base N qual scope f cd A outer s₀ H₀ E) ea oe3).env = (false, eval e0 (envOfC qual scope s₀.heap.objs.size f cd)) :: starEach [] (envOfC qual scope s₀.heap.objs.size f cd) := he
  have he'' : starEach [e0] (uq (CX1 P w base) P w K mg base N qual scope f cd A outer s₀ H₀ E).env = (false, eval e0 (envOfC qual scope s₀.heap.objs.size f cd)) :: starEach [] (envOfC qual scope s₀.heap.objs.size f cd) := he
  rw [he'] at hh
  rw [he'']
  exact Calls.evalArgs_plain (wpAny_mono hh (fun vs s₂ h₂ => ⟨rfl, h₂.1, h₂.2.1 _ _ hC, hN.keeps h₂.2.1, T.keeps h₂.2.1, h₂.2.2.1, h₂.2.2.2⟩) fun _ _ y => y.elim)
 ·have I4 := I1.ofEx I.ok
  have keeps : ∀ b o, s1.heap.get? b = some o -> h''.get? b = some o := fun b o eb => by
   have ne : b ≠ e := fun z => by
    have := mx.new
    rw [← z, eb] at this
    cases this
   exact (sb.2 b ne).trans (mx.keeps b o eb)
  have hn : H1 e = none := by
   cases qe : H1 e with
   | none => rfl
   | some o =>
    obtain ⟨u, z⟩ := ObjOk.there (I4.hok e o qe)
    rw [mx.new] at z; cases z
  have hnew : s₀.heap.get? e = none := by
   cases qe : s₀.heap.get? e with
   | none => rfl
   | some o =>
    obtain ⟨o', z⟩ := I4.base.there e o qe (by intro z; cases z)
    rw [mx.new] at z; cases z
  exact qh3 (s := { s1 with heap := h'' }) frs1 (I4.kept (t' := s1.toks) keeps) he'' hnew hn q1
theorem qc8 {k i : Nat} {x y y2 z : Str} {C C2 : Addr} {ps : List Str} {sp : Sp} {e e0 : Expr} {es : List Expr} {t t0 : TA} {p np np2 pos zpos apos tpos hpos cpos kpos rpos : Pos} {kn : Nat}
  (c : Cal1 P w K mg base k x ps sp) (hr : Room k (A.deeper (envOfC qual scope s₀.heap.objs.size f cd))) (hg : Gl (uq (CX1 P w base) P w K mg base N qual scope f cd A outer s₀ H₀ E) x) (hgy : Gl (uq (CX1 P w base) P w K mg base N qual scope f cd A outer s₀ H₀ E) y) (hmy : mg y = some (.ref C))
  (O : ExcC K mg base y2 C2) (hg2 : Gl (uq (CX1 P w base) P w K mg base N qual scope f cd A outer s₀ H₀ E) y2)
  (ha : ∀ XE, PA ((uq (CX1 P w base) P w K mg base N qual scope f cd A outer s₀ H₀ E).wish XE) (e :: es) t) (hN : N.Nodup) (hi : N[i]? = some z) (hz : Loc scope z)
  (ha0 : ∀ ea oe, PA (Xk (uq (CX1 P w base) P w K mg base N qual scope f cd A outer s₀ H₀ E) ea oe) [e0] t0)
  (hdb : (x == ("__debug__" : Str)) = false := by decide) (hdy : (y == ("__debug__" : Str)) = false := by decide) (hdb2 : (y2 == ("__debug__" : Str)) = false := by decide)
  (he : starEach (e :: es) (envOfC qual scope s₀.heap.objs.size f cd) = (false, eval e (envOfC qual scope s₀.heap.objs.size f cd)) :: starEach es (envOfC qual scope s₀.heap.objs.size f cd) := by rfl) (hpl : (backTo pos (starEach es (envOfC qual scope s₀.heap.objs.size f cd))).any (·.1) = false := by rfl)
  (hsw : swapsWith (.Call (.Name x p) (e :: es) [] pos) (some (.Name z zpos)) apos.line (envOfC qual scope s₀.heap.objs.size f cd) = pure false := by rfl)
  (he0 : starEach [e0] (envOfC qual scope s₀.heap.objs.size f cd) = (false, eval e0 (envOfC qual scope s₀.heap.objs.size f cd)) :: starEach [] (envOfC qual scope s₀.heap.objs.size f cd) := by rfl) (hpl0 : (backTo cpos (starEach [] (envOfC qual scope s₀.heap.objs.size f cd))).any (·.1) = false := by rfl) :
  PS (uq (CX1 P w base) P w K mg base N qual scope f cd A outer s₀ H₀ E) (.Try [.Assign [.Name z zpos] (.Call (.Name x p) (e :: es) [] pos) apos] [.ExceptHandler (some (.Name y np)) none [.Raise (some (.Call (.Name y2 np2) [e0] [] cpos)) (some (.Constant .none kn kpos)) rpos] hpos] [] [] tpos) (qu1 K C C2 E sp t i t0) := by
 intro pins s σ H D I h
 refine wpAny_Try_except ?_
 refine wpAny_execs_cons ?_
 refine wpAny_mono (wpAny_Assign_Name (Q := fun f' s1 => f' = .next /\ ∃ σ' H1, Inv (uq (CX1 P w base) P w K mg base N qual scope f cd A outer s₀ H₀ E) pins σ' H1 s1 /\ D.nx σ' H1) (E := Catch (uq (CX1 P w base) P w K mg base N qual scope f cd A outer s₀ H₀ E) pins D [.ExceptHandler (some (.Name y np)) none [.Raise (some (.Call (.Name y2 np2) [e0] [] cpos)) (some (.Constant .none kn kpos)) rpos] hpos])
  (wpAny_mono (J0 (E := fun cls dd H2 => exmOne K cls (.ref C) = some true /\ dd ≠ none /\ t0 σ H2 fun us H3 => us.length <= sizeLine /\ E (.ref C2) none H3) (Q := fun v H2 => D.nx (σ.set i (some v)) H2) c hr hg (ha _) I (fun H1 s1 v s2 I1 ⟨ea, cls, dd, B, H', ev, F, hx, hdd, q⟩ => ?_) h hdb he hpl) (fun v s1 ⟨u, H1, I1, r1, q⟩ => Aj I1 hN hi hz r1 (fun s2 I2 => ⟨rfl, _, H1, I2, q⟩) (.inl rfl)) fun _ _ z => z) hsw) (fun f' s1 ⟨ef, σ', H1, I1, q⟩ => ?_) fun _ _ z => z
 ·subst ef
  exact wpAny_execs_nil (wpAny_execs_nil ⟨σ', H1, I1, q⟩)
 ·subst ev
  exact qp7 hgy hmy hx O hg2 I1 F hdd ha0 q hdy hdb2 he0 hpl0
end
end L2
namespace GT
open PySem L2
end GT
namespace GT
open PySem L2
end GT
namespace HT
open PySem PyProof.Rows
noncomputable def lexLe : List Int -> List Int -> Bool
 | [], [] => true
 | [], _ :: _ => true
 | _ :: _, [] => false
 | x :: xs, y :: ys => if x = y then lexLe xs ys else decide (x <= y)
theorem lexLe_cons (x y : Int) (xs ys : List Int) : lexLe (x :: xs) (y :: ys) = if x = y then lexLe xs ys else decide (x <= y) := rfl
theorem qi3 (A : Around) (s : Shared) (a : Int) (t : Tok) (c : Int) (u : Tok) (prog : Program) (w : World) (E : Value -> Shared -> Prop) (Q : Value -> Shared -> Prop) (h : Q (.bool (decide (a <= c))) s) :
  wpAny (model prog w) A (richCompare .LtE (.int a t) (.int c u)) Q E s :=
 (PyProof.Rows.le_int h : wpAny (model prog w) A (compareOp .LtE (.int a t) (.int c u)) Q E s)
section
open PySem.SeqAt
open PySem.AutoSeq1 (wpAny_loadPart')
open PySem.MeetsSeq PySem.MeetsSeq2 PySem.MeetsSeq3
theorem La (l b : Addr) (items items2 : Array Value) (n n2 : Nat) (dd dd2 : Option Addr) (sl sl2 : Array (Option Value)) (ns ms : List Int) (hi : IntsAre items.toList ns) (hj : IntsAre items2.toList ms) :
  Meets (Builtin.«tuple.__le__» ⟨[.ref l, .ref b], []⟩)
   (fun _ R s => s.heap.get? l = some { cls := .type "tuple", dict := dd, data := .seq items n, slots := sl } /\ s.heap.get? b = some { cls := .type "tuple", dict := dd2, data := .seq items2 n2, slots := sl2 } /\
    R (.ok (.ret (.bool (lexLe ns ms)))) s) :=
 .of_wp fun prog w A R s h => by
  obtain ⟨hp, g, d, tk, os⟩ := s; obtain ⟨hl, hb, h⟩ := h
  have f2 := AutoSeq1.sub_tuple_tuple
  have z1 : items.size = ns.length := by rw [← hi.length]; simp
  have z2 : items2.size = ms.length := by rw [← hj.length]; simp
  wp_walk using wpAny_loadPart' hl, wpAny_loadPart' hb, wpAny_forIn_list _ (fun rest b s' => b.1 = none /\ s' = ⟨hp, g, d, tk, os⟩ /\ ∃ (vs ws : List Value) (ns' ms' : List Int), rest = vs.zip ws /\
   IntsAre vs ns' /\ IntsAre ws ms' /\ ns'.length + items2.size = ms'.length + items.size /\ R (.ok (.ret (.bool (lexLe ns' ms')))) ⟨hp, g, d, tk, os⟩) _
  case turn =>
   rintro ⟨y, x⟩ rest b s' ⟨hb', rfl, vs, ws, ns', ms', hz, hvi, hwi, hlen, hR⟩
   cases hvi with
   | nil => rw [List.zip_nil_left] at hz; cases hz
   | cons a t hvi' =>
    cases hwi with
    | nil => rw [List.zip_nil_right] at hz; cases hz
    | cons c u hwi' =>
     rw [List.zip_cons_cons] at hz
     injection hz with hyx hrest
     injection hyx with hy hx
     subst hy hx
     rw [lexLe_cons] at hR
     simp only [List.length_cons] at hlen
     obtain ⟨e, he, hiff⟩ := qg6 A.in1 ⟨hp, g, d, tk, os⟩ a t c u
     refine wpAny_bind (he prog w _ _ ?_)
     cases e with
     | true =>
      rw [if_pos (hiff.mp rfl)] at hR
      wp_walk
      exact ⟨rfl, rfl, _, _, _, _, hrest, hvi', hwi', by omega, hR⟩
     | false =>
      rw [if_neg (fun q => absurd (hiff.mpr q) Bool.false_ne_true)] at hR
      have hri := qi3 A.in1 ⟨hp, g, d, tk, os⟩ a t c u prog w
      wp_walk using hri
      exact ⟨_, rfl, by simpa using hR⟩
  case fin =>
   rintro ⟨b1, b2⟩ s' ⟨hb', rfl, vs, ws, ns', ms', hz, hvi, hwi, hlen, hR⟩
   simp only at hb'
   subst hb'
   have hv : lexLe ns' ms' = decide (items.size <= items2.size) := by
    cases hvi with
    | nil =>
     cases hwi with
     | nil =>
      simp only [List.length_nil] at hlen
      exact (decide_eq_true (by omega)).symm
     | cons c u hw =>
      simp only [List.length_nil, List.length_cons] at hlen
      exact (decide_eq_true (by omega)).symm
    | cons a t hv =>
     cases hwi with
     | nil =>
      simp only [List.length_nil, List.length_cons] at hlen
      exact (decide_eq_false (by omega)).symm
     | cons c u hw =>
      rw [List.zip_cons_cons] at hz
      cases hz
   rw [hv] at hR
   wp_walk
   exact ⟨_, rfl, by simpa [Builtin.Tuple.tupleCompareSizes] using hR⟩
  case h =>
   exact ⟨rfl, rfl, items.toList, items2.toList, ns, ms, rfl, hi, hj, by omega, h⟩
end
section
variable {prog : Program} {w : World} {A : Around} {E : Value -> Shared -> Prop} {s : Shared}
theorem le_tupInts {l b : Addr} {items items2 : Array Value} {ns ms : List Int} {Q : Value -> Shared -> Prop} (hl : IsTup s.heap l items) (hb : IsTup s.heap b items2) (hi : IntsAre items.toList ns) (hj : IntsAre items2.toList ms)
  (hu : A.units < cLine) (h : Q (.bool (lexLe ns ms)) s) : wpAny (model prog w) A (compareOp .LtE (.ref l) (.ref b)) Q E s := by
 obtain ⟨⟨cls, dd, data, sl⟩, ho, hc, n, hd⟩ := id hl
 obtain ⟨⟨cls2, dd2, data2, sl2⟩, ho2, hc2, n2, hd2⟩ := id hb
 simp only at hc hd hc2 hd2
 subst hc hd hc2 hd2
 exact richCompare_meets_room (op := .LtE) ⟨_, ho, rfl⟩ ⟨_, ho2, rfl⟩ PySem.F.slot_tuple_le PySem.F.entry_tuple_le (PySem.F.args_tuple_le_2 _ _) (La l b items items2 n n2 dd dd2 sl sl2 ns ms hi hj)
  ⟨ho, ho2, show Value.bool (lexLe ns ms) ≠ Value.notImplemented /\ Q (.bool (lexLe ns ms)) s from ⟨(fun x => nomatch x), h⟩⟩ hu
end
end HT
namespace L2
open PySem PySem.Spec PyProof.Rows
noncomputable def zd7 (K : PySem.W.Frag) : R2 := fun x y H Q => ∃ a b ns ms, x = .ref a /\ y = .ref b /\ SqT K H a (ns.map V.int) /\ SqT K H b (ms.map V.int) /\ Q (.bl (HT.lexLe ns ms)) H
theorem qi6 {X : Cx} {K : PySem.W.Frag} (hK : X.K = K) (hu : X.A.units < cLine) : OpR X (compareOp .LtE) (zd7 K) := by
 subst hK
 intro pins s σ H x y v u Q I rx ry h
 obtain ⟨a, b, ns, ms, rfl, rfl, ha, hb, q⟩ := h
 cases rx
 cases ry
 obtain ⟨its, r1, p1, _⟩ := I.tuple ha
 obtain ⟨its2, r2, p2, _⟩ := I.tuple hb
 have i1 : IntsAre its.toArray.toList ns := intsAre_of r1
 have i2 : IntsAre its2.toArray.toList ms := intsAre_of r2
 exact HT.le_tupInts p1 p2 i1 i2 hu ⟨.bl (HT.lexLe ns ms), H, I, rfl, q⟩
section
variable {prog : Program} {w : World} {KK : Type} [DecidableEq KK] {A : Around} {E : Value -> Shared -> Prop} {s : Shared}
theorem Le {d : Addr} {o : Obj} {es : Array DictEntry} {ep : Nat} (hd : (d == sysModules) = false) :
  MeetsIn prog w (Builtin.«dict.__len__» ⟨[.ref d], []⟩) (fun _ R s => s.heap.get? d = some o /\ o.data = .dict es ep /\ R (.ok (.ret (.int es.size s.toks))) { s with toks := s.toks + 1 }) :=
 .of_wp fun A R s ⟨ho, hdat, h⟩ => by
  show wpAny _ _ (dictSize d >>= _) _ _ s
  unfold dictSize
  refine wpAny_bind (wpAny_bind (wpAny_dictEntries ho hdat (wpAny_pure ?_)))
  show wpAny _ _ (Builtin.Dict.pendingCount d >>= _) _ _ s
  refine wpAny_bind (wpAny_pendingCount_other hd ?_)
  refine wpAny_ret_mkInt ?_
  rw [Nat.add_zero]; exact h
end
end L2
namespace L2
open PySem PySem.Spec PyProof.Rows
section
variable {prog : Program} {w : World} {A : Around} {E : Value -> Shared -> Prop} {s : Shared}
theorem Ol {d : Addr} {o : Obj} {es : Array DictEntry} {ep : Nat} {Q : Value -> Shared -> Prop} (hd : (d == sysModules) = false) (ho : s.heap.get? d = some o) (hT : s.TypeIs (.ref d) "dict") (hdat : o.data = .dict es ep) (hfit : (es.size : Int) < 2 ^ 63)
  (h : Q (.int es.size (s.toks + 1)) { s with toks := s.toks + 1 + 1 }) : wpAny (model prog w) A (Builtin.«len» ⟨[.ref d], []⟩) (fun fin s' => ∃ r, fin = .done (.ret r) /\ Q r s') E s := by
 unfold Builtin.«len»
 refine wpAny_bind (m := oneArg "len" _) (wpAny_pure ?_)
 refine wpAny_bind (m := callSpecial? (.ref d) (Str.ofString "__len__")) (wpAny_callSpecial?_slot (name := Str.ofString "__len__") hT F.slot_dict_len
  (call_meetsIn F.slot_dict_len hT F.entry_dict_len (F.args_dict_len_1 _) (Le (o := o) (es := es) (ep := ep) hd) ⟨ho, hdat, ?_⟩))
 show wpAny _ _ _ _ _ { s with toks := s.toks + 1 }
 refine wpAny_bind (wpAny_holding (wpAny_pure ?_))
 refine wpAny_bind (wpAny_letGo ?_)
 show wpAny _ _ (if ((es.size : Nat) : Int) < 0 then _ else _) _ _ _
 rw [if_neg (by omega)]
 show wpAny _ _ (if ((es.size : Nat) : Int) >= 2 ^ 63 then _ else _) _ _ _
 rw [if_neg (by omega)]
 exact wpAny_bind (wpAny_mkInt (wpAny_pure ⟨_, rfl, h⟩))
theorem Nr {d : Addr} {o : Obj} {es : Array DictEntry} {ep : Nat} {Q : Value -> Shared -> Prop} (hd : (d == sysModules) = false) (ho : s.heap.get? d = some o) (hT : s.TypeIs (.ref d) "dict") (hdat : o.data = .dict es ep) (hfit : (es.size : Int) < 2 ^ 63)
  (h : Q (.int es.size (s.toks + 1)) { s with toks := s.toks + 1 + 1 }) : wpAny (model prog w) A (call (.builtin "len") [.ref d]) Q E s :=
 Calls.call_function_entry kind_len plain_len entry_len (args_len1 _) (Ol hd ho hT hdat hfit h)
end
theorem Jc {X : Cx} {K : PySem.W.Frag} (hK : X.K = K) : wu X (.builtin "len") (fun xs H Q => ∃ a kvs, xs = [V.ref a] /\ H a = some (.dT kvs) /\ Q (.int kvs.length) H) := by
 intro pins s σ H xs us Q I r h
 obtain ⟨a, kvs, rfl, ha, q⟩ := h
 obtain ⟨u, rfl, ru⟩ := vals1 r
 cases ru
 obtain ⟨z, hd, xs, rx, o, es, ep, ho, hx, hdat, hes, hn⟩ := (show ObjOk X.prog X.w H s.heap a (.dT kvs) from I.hok a _ ha)
 have l1 := rx.length
 have l2 : es.size = kvs.length := by
  have := congrArg List.length hes
  rw [List.length_map, Array.length_toList] at this
  omega
 refine Nr hd ho ⟨o, ho, hx.1⟩ hdat ?_ ?_
 ·rw [l2]
  rw [sizeLine_eq] at z
  omega
 ·rw [l2]
  exact ⟨.int kvs.length, H, I.tok _, ⟨_, rfl⟩, q⟩
end L2
namespace GT
open PySem L2
end GT
namespace L2
open PySem PySem.Spec PyProof.Rows PySem.W
section
variable {X : Cx} {k1 k2 : Nat} {x1 x2 y : Str} {C L : Addr} {ps1 ps2 : List Str} {sp1 sp2 : Sp} {c e1 e2 : Expr} {es1 es2 : List Expr} {tc : TT} {t1 t2 : TA} {ts : TS} {env0 : List Env} {p1 p2 np pos1 pos2 epos1 epos2 ipos tpos hpos : Pos} {b0 : Stmt} {suite : List Stmt}
end
section
variable {X : Cx} {k1 k2 : Nat} {x1 x2 y n : Str} {C L : Addr} {ps1 ps2 : List Str} {sp1 sp2 : Sp} {c e1 e2 : Expr} {es1 es2 : List Expr} {tc : TT} {t1 t2 : TA} {env0 : List Env} {p1 p2 np pos1 pos2 epos1 epos2 ipos tpos hpos q1 q2 q3 q4 q5 : Pos} {i : Nat}
end
end L2
namespace L2
open PySem PySem.Spec PyProof.Rows PySem.W
section
variable {X : Cx} {k : Nat} {x y z n : Str} {C C2 L : Addr} {ps : List Str} {sp : Sp} {e : Expr} {es : List Expr} {t : TA} {env0 : List Env} {p np np2 pos epos tpos hpos hpos2 : Pos} {i : Nat} {b0 b1 : Stmt} {suite suite1 : List Stmt} {ts : Addr -> Option Addr -> TS} {ts1 : TS}
end
end L2
namespace L2
open PySem PySem.Spec PyProof.Rows PySem.W
open Sem (wp)
section
variable {X : Cx} {k : Nat} {x y n : Str} {C L : Addr} {ps : List Str} {sp : Sp} {e : Expr} {es : List Expr} {t : TA} {env0 : List Env} {p np pos epos tpos hpos : Pos} {i : Nat} {b0 : Stmt} {suite : List Stmt} {ts : Value -> Addr -> Option Addr -> TS}
end
end L2
namespace L2
open PySem PySem.Spec PyProof.Rows PySem.W
open Sem (wp)
theorem qi2 {X : Cx} {a : Str} {j1 : Nat} {e : Expr} {te : TE} {p p1 p2 : Pos} (he : PE X e te) (hz : a.length <= 1000 := by decide) :
  PE X (.JoinedStr [.Constant (.str a) j1 p1, .FormattedValue e 114 none p2] p) (tFR te) := by
 intro pins s σ H Q I h
 have el : (Str.empty ++ a).length = a.length := by rw [strLen_append]; exact Nat.zero_add _
 refine wpAny_JoinedStr (Calls.Constant_str ⟨a, _, rfl, by rw [el, sizeLine_eq]; omega, ?_⟩)
 have key : ∀ (x : Str) (H1 : Hp) (s1 : Shared), x.length <= 2000 -> Inv X pins σ H1 s1 -> Q (.str (Str.empty ++ a ++ x)) H1 -> ∀ t, wpAny (model X.prog X.w) X.A (formatField (.str x t) Str.empty)
   (fun v s2 => ∃ y t, v = .str y t /\ (Str.empty ++ a ++ y).length <= sizeLine /\ Joins (model X.prog X.w) X.A X.xe [] (Str.empty ++ a ++ y) (fun out s3 => out.length <= sizeLine /\ EP X pins σ Q (.str out s3.toks) { s3 with toks := s3.toks + 1 }) s2) X.xe s1 := fun x H1 s1 hx I1 q t => by
  have l1 : (Str.empty ++ a ++ x).length <= sizeLine := by rw [strLen_append, el, sizeLine_eq]; omega
  refine PyProof.Rows.formatField_str (fun t' tk => ⟨x, t', rfl, l1, l1, ⟨.str _, H1, (I1.tok tk).tok _, ⟨_, rfl⟩, q⟩⟩) (by rw [sizeLine_eq]; omega)
 refine wpAny_FormattedValue_repr (wpAny_mono (he pins _ σ H _ (I.tok _) h) (fun u s1 ⟨v, H1, I1, r, hv, q⟩ => ?_) fun _ _ z => z)
 rcases hv with ⟨n, rfl, hn⟩ | rfl
 ·obtain ⟨t, rfl⟩ := r
  refine wpAny_pyReprObj_gives (typeIs_int _ n t) F.slot_int_repr F.entry_int_repr (F.args_int_repr_1 _) (gives_int_repr n t hn) (key _ H1 _ ?_ (I1.tok _) (q _) _) (hx := int_text_fits hn)
  have e := int_text_length_le (k := 1920) (by decide) hn
  rw [PySem.ofString_length]; omega
 ·obtain rfl : u = Value.none := r
  exact wpAny_pyReprObj_gives (typeIs_none _) F.slot_NoneType_repr F.entry_NoneType_repr (F.args_NoneType_repr_1 _) gives_none_repr (key _ H1 _ (by decide) (I1.tok _) (q _) _) (hx := by decide)
end L2
namespace KL
theorem Qn {α0 : Type} {P : α0 -> Prop} {G : Prop} (h : ∃ a, P a) (k : ∀ a, P a -> G) : G := by
 obtain ⟨a, p⟩ := h
 exact k a p
theorem Il {α0 α1 : Type} {P : α0 -> α1 -> Prop} {G : Prop} (h : ∃ a b, P a b) (k : ∀ a b, P a b -> G) : G := by
 obtain ⟨a, b, p⟩ := h
 exact k a b p
theorem qr2 {α0 α1 α2 : Type} {P : α0 -> α1 -> α2 -> Prop} {G : Prop} (h : ∃ a b c, P a b c) (k : ∀ a b c, P a b c -> G) : G := by
 obtain ⟨a, b, c, p⟩ := h
 exact k a b c p
theorem qw6 {α0 α1 α2 α3 : Type} {P : α0 -> α1 -> α2 -> α3 -> Prop} {G : Prop} (h : ∃ a b c d, P a b c d) (k : ∀ a b c d, P a b c d -> G) : G := by
 obtain ⟨a, b, c, d, p⟩ := h
 exact k a b c d p
theorem zb3 {α0 α1 α2 α3 α4 : Type} {P : α0 -> α1 -> α2 -> α3 -> α4 -> Prop} {G : Prop} (h : ∃ a b c d e, P a b c d e) (k : ∀ a b c d e, P a b c d e -> G) : G := by
 obtain ⟨a, b, c, d, e, p⟩ := h
 exact k a b c d e p
theorem qx1 {α0 α1 α2 α3 α4 α5 α6 : Type} {P : α0 -> α1 -> α2 -> α3 -> α4 -> α5 -> α6 -> Prop} {G : Prop} (h : ∃ a b c d e f g, P a b c d e f g) (k : ∀ a b c d e f g, P a b c d e f g -> G) : G := by
 obtain ⟨a, b, c, d, e, f, g, p⟩ := h
 exact k a b c d e f g p
open PySem L2 GT PyProof.Rows
noncomputable def top (i : Nat) : Stmt := PySem.Challenge.pw_gridframe_k27_spoilt_plain_texts.main.body.getD i (.Pass ⟨0, 0, 0, 0⟩)
structure Txt (mg : Str -> Option Value) : Prop where
  len : mg "len" = none
  range : mg "range" = none
  isinstance : mg "isinstance" = none
  int : mg "int" = none
  bool : mg "bool" = none
  tuple : mg "tuple" = none
  list : mg "list" = none
  sorted : mg "sorted" = none
  enumerate : mg "enumerate" = none
  zip : mg "zip" = none
  str : mg "str" = none
  all : mg "all" = none
  min : mg "min" = none
  max : mg "max" = none
  sum : mg "sum" = none
  ValueError : mg "ValueError" = none
  any : mg "any" = none
  reversed : mg "reversed" = none
noncomputable def j7 (e : Expr) : Scope := match e with
 | .ListComp _ _ sc _ => sc
 | _ => { kind := .function, names := [], isGenerator := false, isCoroutine := false }
noncomputable def ug (s : Stmt) : Expr := match s with
 | .Expr e _ => e
 | .Assign _ e _ => e
 | .Return (some e) _ => e
 | _ => .Constant .none 0 ⟨0, 0, 0, 0⟩
noncomputable def operandOf (e : Expr) : Expr := match e with
 | .UnaryOp _ x _ => x
 | .Compare x _ _ _ => x
 | _ => e
noncomputable def Io (e : Expr) (i : Nat) : Expr := match e with
 | .Call _ as _ _ => as.getD i (.Constant .none 0 ⟨0, 0, 0, 0⟩)
 | _ => .Constant .none 0 ⟨0, 0, 0, 0⟩
noncomputable def bodyOf (s : Stmt) : List Stmt := match s with
 | .For _ _ b _ _ => b
 | .While _ b _ _ => b
 | .If _ b _ _ => b
 | _ => []
noncomputable def nth (l : List Stmt) (i : Nat) : Stmt := l.getD i (.Pass ⟨0, 0, 0, 0⟩)
noncomputable def Ys (e : Expr) : Expr := match e with
 | .BinOp _ _ x _ => x
 | _ => e
noncomputable def qt4 (e : Expr) : Expr := match e with
 | .BinOp x _ _ _ => x
 | _ => e
noncomputable def qk5 (s : Stmt) : Expr := match s with
 | .If e _ _ _ => e
 | _ => .Constant .none 0 ⟨0, 0, 0, 0⟩
noncomputable def orOf (e : Expr) (i : Nat) : Expr := match e with
 | .BoolOp _ xs _ => xs.getD i (.Constant .none 0 ⟨0, 0, 0, 0⟩)
 | _ => e
noncomputable def Gu (K : PySem.W.Frag) : Sp := fun vs H Q _ => ∃ (a : Addr) (ns : List Int) (k : Nat), vs = [.ref a, .int k] /\ SqL K H a (ns.map V.int) /\ Q (.int (ns.getD k 0)) H
noncomputable def Wn : Sp := fun vs H Q _ => ∃ c p m : Int, vs = [.int c, .int p, .int m] /\ 0 < p /\ 0 < m /\ Q (.int (c * 48271 % p % m)) H
noncomputable def Q9 (K : PySem.W.Frag) : Sp := fun vs H Q _ => ∃ (a : Addr) (ns : List Int), vs = [.ref a] /\ SqL K H a (ns.map V.int) /\ ∀ b, Q (.bl b) H
noncomputable def qb6 : Sp := fun vs H Q _ => ∃ (seed : Int) (n : Nat), vs = [.int seed, .int n] /\ 1 <= n /\ n <= 12 /\ ∀ w H', Same H H' -> WordOk w -> Q (.str w) H'
noncomputable def Tf : Sp := fun vs H Q _ => ∃ seed : Int, vs = [.int seed] /\ ∀ v ws H', Same H H' -> WordsOk ws -> At H' (Us ws) v -> Q v H'
noncomputable def Td : Sp := fun vs H Q _ => ∃ (c : Int) (R C : Nat), vs = [.int c, .int R, .int C] /\ 1 <= R /\ 1 <= C /\
 ∀ (t l h w : Nat) (a : Addr) (H' : Hp), Same H H' -> t < R -> l < C -> 1 <= h -> h <= 3 -> 1 <= w -> w <= 3 -> H' a = some (.tup [.int t, .int l, .int h, .int w]) -> Q (.ref a) H'
noncomputable def pl (r c : Nat) : List Key := [Sum.inl (r : Int), Sum.inl (c : Int)]
noncomputable def Yy : Sp := fun vs H Q _ => ∃ (b d : Addr) (t l h w R C : Nat) (kvs : List (List Key × V)), vs = [.ref b, .int R, .int C, .ref d] /\ H b = some (.tup [.int t, .int l, .int h, .int w]) /\ H d = some (.dT kvs) /\ t <= 100 /\ l <= 100 /\ h <= 3 /\ w <= 3 /\
 (∀ H', Same H H' -> Q (.bl false) H') /\ (t + h <= R -> l + w <= C -> (∀ r c, t <= r -> r < t + h -> l <= c -> c < l + w -> wk kvs (pl r c) = none) -> ∀ H', Same H H' -> Q (.bl true) H')
noncomputable def Qx (K : PySem.W.Frag) : Sp := fun vs H Q _ => ∃ (a : Addr) (ns : List Int) (R C : Nat), vs = [.ref a, .int R, .int C] /\ SqL K H a (ns.map V.int) /\ ns.length <= 67 /\ 1 <= R /\ R <= 17 /\ 1 <= C /\ C <= 17 /\
 ∀ v cs H', Same H H' -> Tiles R C cs -> At H' (Mr R C cs) v -> Q v H'
noncomputable def Z1 (K : PySem.W.Frag) : Sp := fun vs H Q _ => ∃ (a : Addr) (ns : List Int) (k : Nat), vs = [.ref a, .int k] /\ SqL K H a (ns.map V.int) /\ ∀ n : Nat, 1 <= n -> n <= 16 -> Q (.int n) H
noncomputable def Z6 (K : PySem.W.Frag) : Sp := fun vs H Q _ => ∃ (a : Addr) (ns : List Int), vs = [.ref a] /\ SqL K H a (ns.map V.int) /\ ns.length <= 63 /\
 ∀ v R C cs H', Same H H' -> 1 <= R -> R <= 16 -> 1 <= C -> C <= 16 -> Tiles R C cs -> At H' (Mr R C cs) v -> Q v H'
noncomputable def Za : Sp := fun vs H Q _ => ∃ (v : V) (R C : Nat) (cs : List Cell), vs = [v] /\ At H (Mr R C cs) v /\ ∀ v' H', Same H H' -> At H' (Mr R C cs) v' -> Q v' H'
section
variable {P : Program} {w : World} {K : PySem.W.Frag} {mg : Str -> Option Value} {base : Heap}
theorem Ni : FnScope ["_law_script", "_law_k"] ["_law_script", "_law_k"] (qj (top 30)) := ⟨rfl, rfl, rfl, by decide +kernel, rfl, by decide +kernel, by decide +kernel⟩
theorem Om (T : Txt mg) (f : Addr) (fd : FuncData) (F : Fun K "_law_cell" "_law_cell" (top 30) f fd) : FnOk P w K mg base CX0 1 f fd ["_law_script", "_law_k"] (Gu K) := by
 refine F.ok Ni (fun vs H Q E h => ?_) (fun cdv A outer s H vs Q E hr h => ?_)
 ·obtain ⟨a, ns, k, rfl, _⟩ := h; rfl
 ·obtain ⟨a, ns, k, rfl, hs, q⟩ := h
  refine ⟨_, (ql (jj (za Mi (pv 1) (qy (jm (K := K) rfl) (by rfl) T.len PySem.boot_len (qb (pv 0) qi)) (zc _)) (qm (qx (zg (Dt (K := K) rfl) (pv 0) (pv 1) (fun _ _ => rfl)))) q8)
   (qm (qx qg))), ?_⟩
  refine ⟨_, rfl, _, rfl, a, _, rfl, .inl hs, _, _, rfl, rfl, _, rfl, ?_⟩
  refine vd (fun hlt => ?_) (fun hlt => ?_)
  ·have hlt := of_decide_eq_true hlt
   rw [List.length_map] at hlt
   refine ⟨_, rfl, _, rfl, a, _, (k : Int), (.int (ns.getD k 0)), rfl, rfl, hs, Df ?_, q⟩
   rw [List.getElem?_map, List.getElem?_eq_getElem (by omega)]
   simp [List.getD_eq_getElem?_getD, List.getElem?_eq_getElem (show k < ns.length by omega)]
  ·have hlt : ¬ ((k : Int) < ((ns.map V.int).length : Int)) := fun z => hlt (decide_eq_true z)
   rw [List.length_map] at hlt
   have e : ns.getD k 0 = 0 := by
    rw [List.getD_eq_getElem?_getD, List.getElem?_eq_none (by omega)]; rfl
   rw [e] at q
   exact q
theorem Tv : FnScope ["_law_cell_here", "_law_prime", "_law_many"] ["_law_cell_here", "_law_prime", "_law_many"] (qj (top 31)) := ⟨rfl, rfl, rfl, by decide +kernel, rfl, by decide +kernel, by decide +kernel⟩
theorem T9 (f : Addr) (fd : FuncData) (F : Fun K "_law_mix" "_law_mix" (top 31) f fd) : FnOk P w K mg base CX0 1 f fd ["_law_cell_here", "_law_prime", "_law_many"] Wn := by
 refine F.ok Tv (fun vs H Q E h => ?_) (fun cdv A outer s H vs Q E hr h => ?_)
 ·obtain ⟨c, p, m, rfl, _⟩ := h; rfl
 ·obtain ⟨c, p, m, rfl, hp, hm, q⟩ := h
  refine ⟨_, (qm (qx (qw yw (qw yw (qw xn (pv 0) qg) (pv 1)) (pv 2)))), ?_⟩
  exact ⟨_, rfl, _, _, rfl, rfl, .inr ⟨by decide, by decide⟩, _, rfl, _, _, rfl, rfl, hp, _, rfl, _, _, rfl, rfl, hm, q⟩
theorem Jz : FnScope ["_law_script"] ["_law_script"] (qj (top 32)) := ⟨rfl, rfl, rfl, by decide +kernel, rfl, by decide +kernel, by decide +kernel⟩
theorem Ln (T : Txt mg) (c__law_cell : Cal P w K mg base 1 "_law_cell" ["_law_script", "_law_k"] (Gu K)) (c__law_mix : Cal P w K mg base 1 "_law_mix" ["_law_cell_here", "_law_prime", "_law_many"] Wn)
  (f : Addr) (fd : FuncData) (F : Fun K "_law_large" "_law_large" (top 32) f fd) : FnOk P w K mg base CX0 2 f fd ["_law_script"] (Q9 K) := by
 refine F.ok Jz (fun vs H Q E h => ?_) (fun cdv A outer s H vs Q E hr h => ?_)
 ·obtain ⟨a, ns, rfl, _⟩ := h; rfl
 ·obtain ⟨a, ns, rfl, hs, q⟩ := h
  have hr__law_cell : Room 1 (A.deeper (envOfC "_law_large" (qj (top 32)) s.heap.objs.size f cdv)) := hr
  have hr__law_mix := hr__law_cell
  refine ⟨_, (qm (qx (yr Bv (qu c__law_mix hr__law_mix rfl (qb (qw zr (qu c__law_cell hr__law_cell rfl (qb (pv 0) (qb qg qi))) (qw xn qg (qy (jm (K := K) rfl) (by rfl) T.len PySem.boot_len (qb (pv 0) qi)))) (qb qg (qb qg qi)))) qg (zc _)))), ?_⟩
  refine ⟨_, rfl, a, ns, 0, rfl, hs, _, rfl, a, _, rfl, .inl hs, _, _, rfl, rfl, .inl ⟨by decide, by decide⟩, _, _, rfl, rfl, _, _, _, rfl, by decide, by decide, rfl, ?_⟩
  exact q _
theorem sc__law_word : FnScope ["_law_seed", "_law_size_here", "_law_signs"] ["_law_seed", "_law_size_here"] (qj (top 33)) := ⟨rfl, rfl, rfl, by decide +kernel, rfl, by decide +kernel, by decide +kernel⟩
theorem qp6 : (["_law_k", "_law_signs", "_law_seed"] : List Str).Nodup := by decide +kernel
noncomputable abbrev qa7 : Scope := j7 (Io (ug (nth (je (top 33)) 1)) 0)
set_option maxHeartbeats 2000000 in
theorem Ox (T : Txt mg) (c__law_mix : Cal P w K mg base 1 "_law_mix" ["_law_cell_here", "_law_prime", "_law_many"] Wn)
  (f : Addr) (fd : FuncData) (F : Fun K "_law_word" "_law_word" (top 33) f fd) : FnOk P w K mg base CX0 2 f fd ["_law_seed", "_law_size_here"] qb6 := by
 refine F.ok sc__law_word (fun vs H Q E h => ?_) (fun cdv A outer s H vs Q E hr h => ?_)
 ·obtain ⟨a, ns, rfl, _⟩ := h; rfl
 ·obtain ⟨seed, n, rfl, n1, n2, k⟩ := h
  have hr__law_mix : Room 1 (A.deeper (envOfC "_law_word" (qj (top 33)) s.heap.objs.size f cdv)) := hr
  have co_word := Dg (X := (uq CX0 P w K mg base ["_law_seed", "_law_size_here", "_law_signs"] "_law_word" (qj (top 33)) f cdv A outer s H E).nox) (N1 := ["_law_k", "_law_signs", "_law_seed"]) (cap := [none, some 2, some 0])
   (scope := qa7) (sc := qj (top 33)) (s.heap.objs.size + 1) rfl rfl rfl
   (by decide +kernel) (by decide +kernel) (by decide +kernel) rfl (by
    intro i hi x j e1 e2
    match i, hi, e1, e2 with
    | 0, _, e1, e2 => cases e2
    | 1, _, e1, e2 => cases e1; cases e2; exact ⟨rfl, rfl, rfl⟩
    | 2, _, e1, e2 => cases e1; cases e2; exact ⟨rfl, rfl, rfl⟩)
  refine ⟨_, (ql (zf (i := 2) sc__law_word.nd rfl (by first | exact Or.inl rfl | exact Or.inr rfl) jb)
   (qm (qx (j6 (K := K) rfl PySem.F.plainAttrs_str PySem.F.slot_str_join PySem.F.type_str_join (Av (K := K) rfl) jb (qb (yg co_word rfl (u0 rfl T.range (qb (pv 1) qi)) (fun _ _ _ _ => (zq (i := 0) qp6 rfl (by first | exact Or.inl rfl | exact Or.inr rfl) (Or.inr rfl))) (fun _ _ _ _ => yt) (fun _ _ _ _ => (zg (qj5) (pv 1) (qu c__law_mix hr__law_mix rfl (qb (qw zr (pv 2) (qw xn (qw xn qg (pv 0)) (pv 0))) (qb qg (qb qg qi)))) (fun _ _ => rfl)))) qi))))), ?_⟩
  have nn : ((n : Int)).toNat = n := by omega
  generalize hsg : Str.ofString "abcdefghijklmnopqrstuvwxyz0123456789" = sg
  have esg : sg = GT.signs := hsg.symm
  have len36 : sg.cps.toList.length = 36 := by rw [esg]; exact Ye
  have lenS : sg.length <= sizeLine := by rw [esg]; exact Tp
  refine ⟨rfl, _, rfl, (n : Int), rfl, by omega, by omega, fun acc hacc => ?_⟩
  rw [nn]
  refine Di (lo := 0) (n := n) (fun j σ1 H3 => ∃ (kk : Option V) (ys : List Str), σ1 = [kk, some (.str sg), some (.int seed)] /\ Same H H3 /\ H3 acc = some (.lst (ys.map V.str)) /\ ys.length = j /\ ∀ y ∈ ys, ∃ c ∈ sg.cps.toList, y = ⟨#[c]⟩)
   ⟨none, [], rfl, Same.upd_new hacc, qd, rfl, fun y hy => by simp at hy⟩ ?_ ?_
  ·intro j σ1 H3 hj hI
   refine Il hI fun kk ys hJ => ?_
   have eI := hJ.1
   have s3 := hJ.2.1
   have h3 := hJ.2.2.1
   have l3 := hJ.2.2.2.1
   have a3 := hJ.2.2.2.2
   clear hI hJ
   subst eI
   dsimp only [yf]
   rw [if_pos rfl]
   refine ⟨_, rfl, _, rfl, _, rfl, _, _, rfl, rfl, .inl ⟨by decide, by decide⟩, _, rfl, _, _, rfl, rfl, .inr ⟨by omega, by omega⟩, _, _, rfl, rfl, _, _, _, rfl, by decide, by decide, ?_⟩
   dsimp only
   generalize hz : (seed + 7 * (0 + (j : Int)) * (0 + (j : Int))) * 48271 % 9931 % 36 = z
   have z0 : 0 <= z := by omega
   have z1 : z < 36 := by omega
   obtain ⟨c, gz⟩ : ∃ c, sg.cps.toList[z.toNat]? = some c := ⟨_, List.getElem?_eq_getElem (by omega)⟩
   have ez : ((z.toNat : Nat) : Int) = z := by omega
   refine ⟨sg, z, c, rfl, rfl, lenS, by rw [← ez]; exact Df gz, ?_⟩
   refine ⟨ys.map V.str, h3, zz (by rw [List.length_map]; omega), ?_⟩
   refine ⟨_, ys ++ [⟨#[c]⟩], rfl, fun b o e => ?_, by rw [qd, List.map_append]; rfl, by rw [List.length_append, l3]; rfl, fun y hy => ?_⟩
   ·rw [qt (qz e hacc)]
    exact s3 _ _ e
   ·rcases List.mem_append.mp hy with hy | hy
    ·exact a3 y hy
    ·have : y = ⟨#[c]⟩ := by simpa using hy
     exact ⟨_, List.mem_of_getElem? gz, this⟩
  ·intro σ1 H3 hI
   refine Il hI fun kk ys hJ => ?_
   have eI := hJ.1
   have s3 := hJ.2.1
   have h3 := hJ.2.2.1
   have l3 := hJ.2.2.2.1
   have a3 := hJ.2.2.2.2
   clear hI hJ
   subst eI
   have one : ∀ y ∈ ys, y.length = 1 := fun y hy => by obtain ⟨c, _, rfl⟩ := a3 y hy; rfl
   have sum1 : (ys.map (·.length)).sum = ys.length := by
    clear h3 l3 a3
    induction ys with
    | nil => rfl
    | cons y ys ih => rw [List.map_cons, List.sum_cons, ih (fun z hz => one z (List.mem_cons_of_mem _ hz)), one y List.mem_cons_self, List.length_cons]; omega
   refine ⟨_, acc, ys, rfl, rfl, SqL.of h3, by rw [sum1]; show ys.length + ys.length * 0 <= _; omega, ?_⟩
   refine k _ _ s3 (Zj ?_ ?_ ?_)
   ·rw [esg] at a3; exact a3
   ·omega
   ·omega
theorem sc__law_words : FnScope ["_law_seed", "_law_found", "_law_many", "_law_k", "_law_size_here"] ["_law_seed"] (qj (top 34)) := ⟨rfl, rfl, rfl, by decide +kernel, rfl, by decide +kernel, by decide +kernel⟩
set_option maxHeartbeats 2000000 in
theorem Lk (T : Txt mg) (c__law_mix : Cal P w K mg base 1 "_law_mix" ["_law_cell_here", "_law_prime", "_law_many"] Wn) (c__law_word : Cal P w K mg base 2 "_law_word" ["_law_seed", "_law_size_here"] qb6)
  (f : Addr) (fd : FuncData) (F : Fun K "_law_words" "_law_words" (top 34) f fd) : FnOk P w K mg base CX0 3 f fd ["_law_seed"] Tf := by
 refine F.ok sc__law_words (fun vs H Q E h => ?_) (fun cdv A outer s H vs Q E hr h => ?_)
 ·obtain ⟨a, rfl, _⟩ := h; rfl
 ·obtain ⟨seed, rfl, k⟩ := h
  have hr__law_word : Room 2 (A.deeper (envOfC "_law_words" (qj (top 34)) s.heap.objs.size f cdv)) := hr
  have hr__law_mix : Room 1 (A.deeper (envOfC "_law_words" (qj (top 34)) s.heap.objs.size f cdv)) := hr.mono (by decide)
  refine ⟨_, (ql (zf (i := 1) sc__law_words.nd rfl (by first | exact Or.inl rfl | exact Or.inr rfl) (Bl qi))
   (ql (zf (i := 2) sc__law_words.nd rfl (by first | exact Or.inl rfl | exact Or.inr rfl) (qu c__law_mix hr__law_mix rfl (qb (pv 0) (qb qg (qb qg qi)))))
   (ql (jj (za Bv (qu c__law_mix hr__law_mix rfl (qb (pv 0) (qb qg (qb qg qi)))) qg (zc _)) (qm (zf (i := 2) sc__law_words.nd rfl (by first | exact Or.inl rfl | exact Or.inr rfl) (qu c__law_mix hr__law_mix rfl (qb (pv 0) (qb qg (qb qg qi)))))) q8)
   (ql (xj PassesOwn.never rfl (u0 rfl T.range (qb (pv 2) qi)) (zq (i := 3) sc__law_words.nd rfl (by first | exact Or.inl rfl | exact Or.inr rfl)) (ql (zf (i := 4) sc__law_words.nd rfl (by first | exact Or.inl rfl | exact Or.inr rfl) (qw zr qg (qu c__law_mix hr__law_mix rfl (qb (qw zr (pv 0) (qw xn (qw xn qg (pv 3)) (pv 3))) (qb qg (qb qg qi))))))
   (qm (Gx (j6 (K := K) rfl PySem.F.plainAttrs_list PySem.F.slot_list_append PySem.F.type_list_append Bp (pv 1) (qb (qu c__law_word hr__law_word rfl (qb (qw zr (pv 0) (qw xn (qw xn qg (pv 3)) (pv 3))) (qb (pv 4) qi))) qi))))))
   (qm (qx (yp (Ar (K := K) rfl) (by rfl) T.tuple PyProof.Rows.boot_tuple (qb (pv 1) qi)))))))), ?_⟩
  refine ⟨by show 0 <= sizeLine; decide, fun l hl => ?_⟩
  refine ⟨_, rfl, _, _, _, rfl, by decide, by decide, ?_⟩
  refine ⟨_, rfl, _, _, _, rfl, by decide, by decide, rfl, _, rfl, ?_⟩
  refine vd (fun _ => ?_) (fun _ => ?_)
  case' refine_1 =>
   refine ⟨_, rfl, _, _, _, rfl, by decide, by decide, ?_⟩
   generalize hm : seed * 48271 % 9901 % 13 = m
   have hm1 : 0 <= m /\ m <= 12 := by omega
  case' refine_2 =>
   generalize hm : seed * 48271 % 9949 % 4 = m
   have hm1 : 0 <= m /\ m <= 12 := by omega
  all_goals
   refine ⟨_, rfl, m, rfl, by omega, by omega, ?_⟩
   refine jx (n := m.toNat) (fun i σ H2 => ∃ (kk sz : Option V) (ws : List Str), σ = [some (.int seed), some (.ref l), some (.int m), kk, sz] /\ Same H H2 /\ H2 l = some (.lst (ws.map V.str)) /\ ws.length = i /\ ∀ x ∈ ws, WordOk x)
    ⟨none, none, [], rfl, Same.upd_new hl, qd, rfl, fun x hx => by simp at hx⟩ ?_ ?_
   ·intro i σ H2 hi hI
    refine qr2 hI fun kk sz ws hJ => ?_
    have eI := hJ.1
    have s2 := hJ.2.1
    have h2 := hJ.2.2.1
    have l2 := hJ.2.2.2.1
    have o2 := hJ.2.2.2.2
    clear hI hJ
    subst eI
    refine ⟨_, rfl, _, rfl, _, _, rfl, rfl, .inl ⟨by decide, by decide⟩, _, rfl, _, _, rfl, rfl, .inr ⟨by omega, by omega⟩, _, _, rfl, rfl, _, _, _, rfl, by decide, by decide, _, _, rfl, rfl, ?_⟩
    dsimp only
    obtain ⟨n, en, n1, n2⟩ : ∃ n : Nat, 1 + (seed + 13 * (0 + (i : Int)) * (0 + (i : Int))) * 48271 % 9941 % 12 = (n : Int) /\ 1 <= n /\ n <= 12 := ⟨(1 + (seed + 13 * (0 + (i : Int)) * (0 + (i : Int))) * 48271 % 9941 % 12).toNat, by omega, by omega, by omega⟩
    rw [en]
    refine ⟨_, rfl, .inl ⟨rfl, _, SqL.of h2⟩, _, rfl, _, rfl, _, _, rfl, rfl, .inl ⟨by decide, by decide⟩, _, rfl, _, _, rfl, rfl, .inr ⟨by omega, by omega⟩, _, _, rfl, rfl, _, rfl, _, n, rfl, n1, n2, fun x H3 s3 ox => ?_⟩
    have h3 := s3 _ _ h2
    refine ⟨l, _, .str x, rfl, rfl, h3, zz (by rw [List.length_map]; omega), ?_⟩
    refine ⟨_, _, ws ++ [x], rfl, fun b o e => ?_, by rw [qd, List.map_append]; rfl, by rw [List.length_append, l2]; rfl, fun y hy => ?_⟩
    ·rw [qt (qz e hl)]
     exact s3 _ _ (s2 _ _ e)
    ·rcases List.mem_append.mp hy with hy | hy
     ·exact o2 y hy
     ·have : y = x := by simpa using hy
      rw [this]; exact ox
   ·intro σ H2 hI
    refine qr2 hI fun kk sz ws hJ => ?_
    have eI := hJ.1
    have s2 := hJ.2.1
    have h2 := hJ.2.2.1
    have l2 := hJ.2.2.2.1
    have o2 := hJ.2.2.2.2
    clear hI hJ
    subst eI
    refine ⟨_, rfl, l, _, rfl, .inl ⟨SqL.of h2, fun t ht => ?_⟩⟩
    refine k _ ws _ (s2.trans (Same.upd_new ht)) ⟨by omega, o2⟩ (.tup qd (Lb _ ws))
theorem sc__law_block : FnScope ["_law_cell_here", "_law_rows", "_law_columns", "_law_top", "_law_left"] ["_law_cell_here", "_law_rows", "_law_columns"] (qj (top 36)) := ⟨rfl, rfl, rfl, by decide +kernel, rfl, by decide +kernel, by decide +kernel⟩
set_option maxHeartbeats 2000000 in
theorem Lp (T : Txt mg) (c__law_mix : Cal P w K mg base 1 "_law_mix" ["_law_cell_here", "_law_prime", "_law_many"] Wn)
  (f : Addr) (fd : FuncData) (F : Fun K "_law_block" "_law_block" (top 36) f fd) : FnOk P w K mg base CX0 2 f fd ["_law_cell_here", "_law_rows", "_law_columns"] Td := by
 refine F.ok sc__law_block (fun vs H Q E h => ?_) (fun cdv A outer s H vs Q E hr h => ?_)
 ·obtain ⟨c, R, C, rfl, _⟩ := h; rfl
 ·obtain ⟨c, R, C, rfl, hR, hC, k⟩ := h
  have hr__law_mix : Room 1 (A.deeper (envOfC "_law_block" (qj (top 36)) s.heap.objs.size f cdv)) := hr
  have R0 : (0 : Int) < (R : Int) := by omega
  have C0 : (0 : Int) < (C : Int) := by omega
  refine ⟨_, (ql (zf (i := 3) sc__law_block.nd rfl (by first | exact Or.inl rfl | exact Or.inr rfl) (qu c__law_mix hr__law_mix rfl (qb (pv 0) (qb qg (qb (pv 1) qi)))))
   (ql (zf (i := 4) sc__law_block.nd rfl (by first | exact Or.inl rfl | exact Or.inr rfl) (qu c__law_mix hr__law_mix rfl (qb (pv 0) (qb qg (qb (pv 2) qi)))))
   (qm (qx (yx (qb (pv 3) (qb (pv 4) (qb (qw zr qg (qu c__law_mix hr__law_mix rfl (qb (pv 0) (qb qg (qb qg qi))))) (qb (qw zr qg (qu c__law_mix hr__law_mix rfl (qb (pv 0) (qb qg (qb qg qi))))) qi))))))))), ?_⟩
  refine ⟨_, rfl, _, rfl, _, _, _, rfl, by decide, R0, ?_⟩
  refine ⟨_, rfl, _, rfl, _, _, _, rfl, by decide, C0, ?_⟩
  refine ⟨_, rfl, _, rfl, _, rfl, _, _, _, rfl, by decide, by decide, _, _, rfl, rfl, _, rfl, _, _, _, rfl, by decide, by decide, _, _, rfl, rfl, by show 4 <= sizeLine; decide, fun p hp => ?_⟩
  dsimp only
  have a1 := Int.emod_nonneg (c * 48271 % 9973) (by omega : (R : Int) ≠ 0)
  have a2 := Int.emod_lt_of_pos (c * 48271 % 9973) R0
  have b1 := Int.emod_nonneg (c * 48271 % 9967) (by omega : (C : Int) ≠ 0)
  have b2 := Int.emod_lt_of_pos (c * 48271 % 9967) C0
  generalize c * 48271 % 9973 % (R : Int) = t at *
  generalize c * 48271 % 9967 % (C : Int) = l at *
  obtain ⟨t, rfl⟩ := Int.eq_ofNat_of_zero_le a1
  obtain ⟨l, rfl⟩ := Int.eq_ofNat_of_zero_le b1
  obtain ⟨h, eh, h1, h2⟩ : ∃ h : Nat, 1 + c * 48271 % 10007 % 3 = (h : Int) /\ 1 <= h /\ h <= 3 := ⟨(1 + c * 48271 % 10007 % 3).toNat, by omega, by omega, by omega⟩
  obtain ⟨w, ew, w1, w2⟩ : ∃ w : Nat, 1 + c * 48271 % 9923 % 3 = (w : Int) /\ 1 <= w /\ w <= 3 := ⟨(1 + c * 48271 % 9923 % 3).toNat, by omega, by omega, by omega⟩
  rw [eh, ew]
  exact k t l h w p _ (Same.upd_new hp) (by omega) (by omega) h1 h2 w1 w2 qd
theorem sc__law_free : FnScope ["_law_block_here", "_law_rows", "_law_columns", "_law_taken", "_law_row", "_law_column"] ["_law_block_here", "_law_rows", "_law_columns", "_law_taken"] (qj (top 35)) := ⟨rfl, rfl, rfl, by decide +kernel, rfl, by decide +kernel, by decide +kernel⟩
set_option maxHeartbeats 2000000 in
theorem O7 (T : Txt mg) (f : Addr) (fd : FuncData) (F : Fun K "_law_free" "_law_free" (top 35) f fd) : FnOk P w K mg base CX0 1 f fd ["_law_block_here", "_law_rows", "_law_columns", "_law_taken"] Yy := by
 refine F.ok sc__law_free (fun vs H Q E h => ?_) (fun cdv A outer s H vs Q E hr h => ?_)
 ·obtain ⟨b, d, t, l, h, w, R, C, kvs, rfl, _⟩ := h; rfl
 ·obtain ⟨b, d, t, l, h, w, R, C, kvs, rfl, hb, hd, t0, l0, h3, w3, qF, qT⟩ := h
  have hu := qw4 hr
  refine ⟨_, (ql (jj (PW.pt (xx (za Iv (qw zr (zg (qp (K := K) rfl) (pv 0) qg (fun _ _ => rfl)) (zg (qp (K := K) rfl) (pv 0) qg (fun _ _ => rfl))) (pv 1) (zc _)) (xu (za Iv (qw zr (zg (qp (K := K) rfl) (pv 0) qg (fun _ _ => rfl)) (zg (qp (K := K) rfl) (pv 0) qg (fun _ _ => rfl))) (pv 2) (zc _))))) (qm (qx vq)) q8)
   (ql (xj PassesOwn.never rfl (yo rfl T.range (qb (zg (qp (K := K) rfl) (pv 0) qg (fun _ _ => rfl)) (qb (qw zr (zg (qp (K := K) rfl) (pv 0) qg (fun _ _ => rfl)) (zg (qp (K := K) rfl) (pv 0) qg (fun _ _ => rfl))) qi))) (zq (i := 4) sc__law_free.nd rfl (by first | exact Or.inl rfl | exact Or.inr rfl)) (qm (xj PassesOwn.never rfl (yo rfl T.range (qb (zg (qp (K := K) rfl) (pv 0) qg (fun _ _ => rfl)) (qb (qw zr (zg (qp (K := K) rfl) (pv 0) qg (fun _ _ => rfl)) (zg (qp (K := K) rfl) (pv 0) qg (fun _ _ => rfl))) qi))) (zq (i := 5) sc__law_free.nd rfl (by first | exact Or.inl rfl | exact Or.inr rfl)) (qm (jj (Uj (Zc hu (yx (qb (pv 4) (qb (pv 5) qi))) (pv 3)) (by rfl)) (qm (qx vq)) q8)))))
   (qm (qx vq)))), ?_⟩
  refine ⟨_, rfl, b, _, (0 : Int), _, rfl, rfl, SqT.of hb, rfl, _, rfl, b, _, (2 : Int), _, rfl, rfl, SqT.of hb, rfl, _, _, rfl, rfl, _, rfl, _, _, rfl, rfl, _, rfl, ?_⟩
  refine vd (fun _ => uh (qF H fun _ _ z => z)) (fun n1 => ?_)
  refine ⟨_, rfl, b, _, (1 : Int), _, rfl, rfl, SqT.of hb, rfl, _, rfl, b, _, (3 : Int), _, rfl, rfl, SqT.of hb, rfl, _, _, rfl, rfl, _, rfl, _, _, rfl, rfl, _, rfl, ?_⟩
  refine vd (fun _ => qF H fun _ _ z => z) (fun n2 => ?_)
  have d1 : t + h <= R := by
   have : ¬ ((R : Int) < (t : Int) + (h : Int)) := fun z => n1 (decide_eq_true z)
   omega
  have d2 : l + w <= C := by
   have : ¬ ((C : Int) < (l : Int) + (w : Int)) := fun z => n2 (decide_eq_true z)
   omega
  refine ⟨_, rfl, b, _, (0 : Int), _, rfl, rfl, SqT.of hb, rfl, _, rfl, b, _, (0 : Int), _, rfl, rfl, SqT.of hb, rfl, _, rfl, b, _, (2 : Int), _, rfl, rfl, SqT.of hb, rfl, _, _, rfl, rfl, (t : Int), (t : Int) + (h : Int), rfl, ⟨by omega, by omega, by omega, by omega⟩, ?_⟩
  have eh : ((t : Int) + (h : Int) - (t : Int)).toNat = h := by omega
  have ew : ((l : Int) + (w : Int) - (l : Int)).toNat = w := by omega
  rw [eh]
  refine jx (n := h) (fun i σ H2 => ∃ (x y : Option V), σ = [some (.ref b), some (.int R), some (.int C), some (.ref d), x, y] /\ Same H H2 /\ ∀ r c, t <= r -> r < t + i -> l <= c -> c < l + w -> wk kvs (pl r c) = none)
   ⟨_, _, rfl, fun _ _ z => z, fun r c h1 h2 => by omega⟩ ?_ ?_
  ·intro i σ H2 hi hI
   refine Il hI fun x y hJ => ?_
   have eI := hJ.1
   have s2 := hJ.2.1
   have a2 := hJ.2.2
   clear hI hJ
   subst eI
   have hb2 := s2 _ _ hb
   refine ⟨_, rfl, b, _, (1 : Int), _, rfl, rfl, SqT.of hb2, rfl, _, rfl, b, _, (1 : Int), _, rfl, rfl, SqT.of hb2, rfl, _, rfl, b, _, (3 : Int), _, rfl, rfl, SqT.of hb2, rfl, _, _, rfl, rfl, (l : Int), (l : Int) + (w : Int), rfl, ⟨by omega, by omega, by omega, by omega⟩, ?_⟩
   rw [ew]
   refine jx (n := w) (fun j σ H3 => ∃ (y : Option V), σ = [some (.ref b), some (.int R), some (.int C), some (.ref d), some (.int ((t : Int) + (i : Int))), y] /\ Same H H3 /\ ∀ c, l <= c -> c < l + j -> wk kvs (pl (t + i) c) = none)
    ⟨_, rfl, s2, fun c h1 h2 => by omega⟩ ?_ ?_
   ·rintro j σ H3 hj ⟨y, rfl, s3, a3⟩
    have e1 : (t : Int) + (i : Int) = ((t + i : Nat) : Int) := by simp
    have e2 : (l : Int) + (j : Int) = ((l + j : Nat) : Int) := by simp
    rw [e2, e1]
    refine ⟨_, rfl, _, rfl, by show 2 <= sizeLine; decide, fun p hp => ?_⟩
    have s4 := s3.trans (Same.upd_new (o := .tup [.int ((t + i : Nat) : Int), .int ((l + j : Nat) : Int)]) hp)
    refine ⟨_, rfl, d, _, rfl, DGet.t (k := pl (t + i) (l + j)) (s4 _ _ hd) qd, _, rfl, ?_⟩
    cases e : wk kvs (pl (t + i) (l + j)) with
    | some v => exact uh (qF _ s4)
    | none =>
     refine uo ?_
     refine ⟨_, rfl, s4, fun c h1 h2 => ?_⟩
     by_cases hc : c = l + j
     ·subst hc; exact e
     ·exact a3 c h1 (by omega)
   ·rintro σ H3 ⟨y, rfl, s3, a3⟩
    refine ⟨_, _, rfl, s3, fun r c h1 h2 h4 h5 => ?_⟩
    by_cases hc : r = t + i
    ·subst hc; exact a3 c h4 h5
    ·exact a2 r c h1 (by omega) h4 h5
  ·intro σ H2 hI
   refine Il hI fun x y hJ => ?_
   have eI := hJ.1
   have s2 := hJ.2.1
   have a2 := hJ.2.2
   clear hI hJ
   subst eI
   exact qT d1 d2 a2 H2 s2
end
end KL
namespace KL
open PySem L2 GT PyProof.Rows
theorem SameT.putD {H : Hp} {d : Addr} {kvs : List (List Key × V)} {o : HO} (h : H d = some (.dT kvs)) : SameT H (upd H d o) := fun a ys e => by
 rw [qt (Lw e h (fun z => by cases z))]; exact e
theorem pl_inj {r c r' c' : Nat} : pl r c = pl r' c' ↔ r = r' /\ c = c' := by
 unfold pl
 constructor
 ·intro h
  simp only [List.cons.injEq, Sum.inl.injEq] at h
  omega
 ·rintro ⟨rfl, rfl⟩; rfl
theorem qm1 {kvs : List (List Key × V)} {r c r' c' : Nat} {v : V} : (wk (putK kvs (pl r c) v) (pl r' c')).isSome = true ↔ (wk kvs (pl r' c')).isSome = true \/ (r' = r /\ c' = c) := by
 rw [Wf]
 by_cases h : pl r' c' = pl r c
 ·rw [if_pos h]
  exact ⟨fun _ => .inr (pl_inj.mp h), fun _ => rfl⟩
 ·rw [if_neg h]
  exact ⟨fun z => .inl z, fun z => z.elim id fun z => absurd (pl_inj.mpr z) h⟩
theorem qc3 {ns : List Int} {lo hi : Option Int} : (∀ x ∈ vm (ns.map V.int) lo hi, ∃ z, x = V.int z) /\ (vm (ns.map V.int) lo hi).length <= ns.length := by
 constructor
 ·intro x hx
  have : x ∈ ns.map V.int := List.mem_of_mem_drop (List.mem_of_mem_take hx)
  obtain ⟨z, _, rfl⟩ := List.mem_map.mp this
  exact ⟨z, rfl⟩
 ·have := Ax (ns.map V.int) lo hi
  rwa [List.length_map] at this
section
variable {P : Program} {w : World} {K : PySem.W.Frag} {mg : Str -> Option Value} {base : Heap}
structure One (H : Hp) (R C : Nat) (d l p : Addr) (items : List V) (i : Nat) (cs : List Cell) (kvs : List (List Key × V)) (xs : List V) (H2 : Hp) : Prop where
  same : Same H H2
  it : H2 p = some (.lst items)
  dd : H2 d = some (.dT kvs)
  ll : H2 l = some (.lst xs)
  at' : AtL H2 (cs.map Cell.D) xs
  part : Part R C cs
  few : cs.length <= i
  fewk : kvs.length <= 9 * i
  cov : ∀ r c, (wk kvs (pl r c)).isSome = true ↔ cov cs r c
noncomputable def qt2 (a : Addr) (H : Hp) (R C : Nat) (d l p : Addr) (items : List V) (i : Nat) (σ : L2.St) (H2 : Hp) : Prop := ∃ (c5 c6 c7 c8 : Option V) (cs : List Cell) (kvs : List (List Key × V)) (xs : List V),
        σ = [some (.ref a), some (.int R), some (.int C), some (.ref d), some (.ref l), c5, c6, c7, c8, none] /\ One H R C d l p items i cs kvs xs H2
noncomputable def qz1 (a : Addr) (R C : Nat) (d l : Addr) (z : Int) (b : Addr) (H H8 : Hp) (p : Addr) (items xs : List V) (r : Addr) (i : Nat) (cs : List Cell) (X : Cell) (t : Nat) (i2 : Nat) (σ : L2.St) (H9 : Hp) : Prop := ∃ (c7 c8 : Option V) (kv : List (List Key × V)), σ = [some (.ref a), some (.int R), some (.int C), some (.ref d), some (.ref l), some (.int z), some (.ref b), c7, c8, none] /\
            Same H H9 /\ SameT H8 H9 /\ H9 p = some (.lst items) /\ H9 d = some (.dT kv) /\ H9 l = some (.lst (xs ++ [.ref r])) /\ kv.length <= 9 * i + 3 * i2 /\ ∀ r' c', (wk kv (pl r' c')).isSome = true ↔ GT.cov cs r' c' \/ (inC X r' c' /\ r' < t + i2)
noncomputable def qx8 (a : Addr) (R C : Nat) (d l : Addr) (z : Int) (b : Addr) (H H8 : Hp) (p : Addr) (items xs : List V) (r : Addr) (i : Nat) (cs : List Cell) (X : Cell) (t : Nat) (lf i2 : Nat) (j : Nat) (σ : L2.St) (H10 : Hp) : Prop := ∃ (c8 : Option V) (kv : List (List Key × V)), σ = [some (.ref a), some (.int R), some (.int C), some (.ref d), some (.ref l), some (.int z), some (.ref b), some (.int ((t : Int) + (i2 : Int))), c8, none] /\
              Same H H10 /\ SameT H8 H10 /\ H10 p = some (.lst items) /\ H10 d = some (.dT kv) /\ H10 l = some (.lst (xs ++ [.ref r])) /\ kv.length <= 9 * i + 3 * i2 + j /\
              ∀ r' c', (wk kv (pl r' c')).isSome = true ↔ GT.cov cs r' c' \/ (inC X r' c' /\ (r' < t + i2 \/ (r' = t + i2 /\ c' < lf + j)))
noncomputable def qz4 (a : Addr) (R C : Nat) (d l : Addr) (c5 c6 : Option V) (H : Hp) (kvs : List (List Key × V)) (cs1 : List Cell) (i : Nat) (σ : L2.St) (H3 : Hp) : Prop := ∃ (c7 c8 c9 : Option V) (cs : List Cell) (xs : List V), σ = [some (.ref a), some (.int R), some (.int C), some (.ref d), some (.ref l), c5, c6, c7, c8, c9] /\
          Same H H3 /\ H3 d = some (.dT kvs) /\ H3 l = some (.lst xs) /\ AtL H3 (cs.map Cell.D) xs /\ Part R C cs /\ cs.length <= 67 + 17 * i /\ ∀ r c, r < R -> c < C -> (GT.cov cs r c ↔ GT.cov cs1 r c \/ r < i)
theorem sc__law_table : FnScope ["_law_script", "_law_rows", "_law_columns", "_law_taken", "_law_cells", "_law_cell_here", "_law_block_here", "_law_row", "_law_column", "_law_seed"] ["_law_script", "_law_rows", "_law_columns"] (qj (top 37)) := ⟨rfl, rfl, rfl, by decide +kernel, rfl, by decide +kernel, by decide +kernel⟩
set_option maxHeartbeats 4000000 in
theorem Ma (T : Txt mg) (c__law_cell : Cal P w K mg base 1 "_law_cell" ["_law_script", "_law_k"] (Gu K)) (c__law_words : Cal P w K mg base 3 "_law_words" ["_law_seed"] Tf)
  (c__law_block : Cal P w K mg base 2 "_law_block" ["_law_cell_here", "_law_rows", "_law_columns"] Td) (c__law_free : Cal P w K mg base 1 "_law_free" ["_law_block_here", "_law_rows", "_law_columns", "_law_taken"] Yy)
  (f : Addr) (fd : FuncData) (F : Fun K "_law_table" "_law_table" (top 37) f fd) : FnOk P w K mg base CX0 4 f fd ["_law_script", "_law_rows", "_law_columns"] (Qx K) := by
 refine F.ok sc__law_table (fun vs H Q E h => ?_) (fun cdv A outer s H vs Q E hr h => ?_)
 ·obtain ⟨a, ns, R, C, rfl, _⟩ := h; rfl
 ·obtain ⟨a, ns, R, C, rfl, hs, hlen, hR1, hR2, hC1, hC2, k⟩ := h
  have hr__law_words : Room 3 (A.deeper (envOfC "_law_table" (qj (top 37)) s.heap.objs.size f cdv)) := hr
  have hr__law_block : Room 2 (A.deeper (envOfC "_law_table" (qj (top 37)) s.heap.objs.size f cdv)) := hr.mono (by decide)
  have hr__law_cell : Room 1 (A.deeper (envOfC "_law_table" (qj (top 37)) s.heap.objs.size f cdv)) := hr.mono (by decide)
  have hr__law_free := hr__law_cell
  have hu := qw4 hr
  refine ⟨_, (ql (zf (i := 3) sc__law_table.nd rfl (by first | exact Or.inl rfl | exact Or.inr rfl) J4)
   (ql (zf (i := 4) sc__law_table.nd rfl (by first | exact Or.inl rfl | exact Or.inr rfl) (Bl qi))
   (ql (xj PassesOwn.never rfl (ud (K := K) rfl (zb (jr (K := K) rfl) (pv 0) (zp qg) (zp (qw zr (qw zr qg (pv 1)) (pv 2))))) (zq (i := 5) sc__law_table.nd rfl (by first | exact Or.inl rfl | exact Or.inr rfl)) (ql (zf (i := 6) sc__law_table.nd rfl (by first | exact Or.inl rfl | exact Or.inr rfl) (qu c__law_block hr__law_block rfl (qb (pv 5) (qb (pv 1) (qb (pv 2) qi)))))
   (qm (jj (jq (qu c__law_free hr__law_free rfl (qb (pv 6) (qb (pv 1) (qb (pv 2) (qb (pv 3) qi)))))) (ql (Gx (j6 (K := K) rfl PySem.F.plainAttrs_list PySem.F.slot_list_append PySem.F.type_list_append Bp (pv 4) (qb (qw (Dw (K := K) rfl) (pv 6) (yx (qb (qu c__law_words hr__law_words rfl (qb (pv 5) qi)) qi))) qi)))
   (qm (xj PassesOwn.never rfl (yo rfl T.range (qb (zg (qp (K := K) rfl) (pv 6) qg (fun _ _ => rfl)) (qb (qw zr (zg (qp (K := K) rfl) (pv 6) qg (fun _ _ => rfl)) (zg (qp (K := K) rfl) (pv 6) qg (fun _ _ => rfl))) qi))) (zq (i := 7) sc__law_table.nd rfl (by first | exact Or.inl rfl | exact Or.inr rfl)) (qm (xj PassesOwn.never rfl (yo rfl T.range (qb (zg (qp (K := K) rfl) (pv 6) qg (fun _ _ => rfl)) (qb (qw zr (zg (qp (K := K) rfl) (pv 6) qg (fun _ _ => rfl)) (zg (qp (K := K) rfl) (pv 6) qg (fun _ _ => rfl))) qi))) (zq (i := 8) sc__law_table.nd rfl (by first | exact Or.inl rfl | exact Or.inr rfl)) (qm (Tt hu (pv 3) (yx (qb (pv 7) (qb (pv 8) qi))) vq rfl))))))) q8))))
   (ql (xj PassesOwn.never rfl (u0 rfl T.range (qb (pv 1) qi)) (zq (i := 7) sc__law_table.nd rfl (by first | exact Or.inl rfl | exact Or.inr rfl)) (qm (xj PassesOwn.never rfl (u0 rfl T.range (qb (pv 2) qi)) (zq (i := 8) sc__law_table.nd rfl (by first | exact Or.inl rfl | exact Or.inr rfl)) (qm (jj (Uj (X8 hu (yx (qb (pv 7) (qb (pv 8) qi))) (pv 3)) (by rfl)) (ql (zf (i := 9) sc__law_table.nd rfl (by first | exact Or.inl rfl | exact Or.inr rfl) (qw zr (qw xn (qw xn qg (pv 7)) (pv 7)) (qw xn (qw xn qg (pv 8)) (pv 8))))
   (ql (zf (i := 9) sc__law_table.nd rfl (by first | exact Or.inl rfl | exact Or.inr rfl) (qw zr (pv 9) (qu c__law_cell hr__law_cell rfl (qb (pv 0) (qb (qw zr qg (qw yw (qw zr (pv 7) (qw xn qg (pv 8))) qg)) qi)))))
   (qm (Gx (j6 (K := K) rfl PySem.F.plainAttrs_list PySem.F.slot_list_append PySem.F.type_list_append Bp (pv 4) (qb (yx (qb (pv 7) (qb (pv 8) (qb qg (qb qg (qb (qu c__law_words hr__law_words rfl (qb (pv 9) qi)) qi)))))) qi)))))) q8)))))
   (qm (qx (yx (qb (pv 1) (qb (pv 2) (qb (qy (M9 (K := K) rfl) (by rfl) T.sorted PyProof.Rows.boot_sorted (qb (pv 4) qi)) qi)))))))))), ?_⟩
  intro d hd0
  refine ⟨by show 0 <= sizeLine; decide, fun l hl0 => ?_⟩
  have ndl : l ≠ d := by intro e; subst e; rw [qd] at hl0; cases hl0
  have hl : H l = none := by rw [qt ndl] at hl0; exact hl0
  have s1 : Same H (upd (upd H d (.dT [])) l (.lst [])) := (Same.upd_new hd0).trans (Same.upd_new hl0)
  have RC : (2 : Int) + (R : Int) + (C : Int) = ((2 + R + C : Nat) : Int) := by simp
  refine ⟨_, rfl, _, rfl, _, rfl, _, _, rfl, rfl, _, rfl, _, _, rfl, rfl, _, rfl, a, _, rfl, s1.seq hs, fun p hp => ⟨p, rfl, ⟨_, SqL.of qd⟩, ?_⟩⟩
  have npd : p ≠ d := by
   intro e; subst e; rw [qt ndl.symm, qd] at hp; cases hp
  have npl : p ≠ l := by intro e; subst e; rw [qd] at hp; cases hp
  have hp0 : H p = none := s1.free hp
  obtain ⟨itsI, ilen⟩ := qc3 (ns := ns) (lo := some 2) (hi := some ((2 : Int) + (R : Int) + (C : Int)))
  generalize hit : vm (ns.map V.int) (some 2) (some ((2 : Int) + (R : Int) + (C : Int))) = items at *
  have s2 := Same.upd_new (o := .lst items) hp
  refine Lr (K := K) (a := p) (xs := items) (qt2 a H R C d l p items)
   ⟨none, none, none, none, [], [], [], rfl, s1.trans s2, qd, by rw [qt npd.symm, qt ndl.symm, qd], by rw [qt npl.symm, qd], .nil, Part.nil R C, Nat.le_refl _, Nat.le_refl _, fun r c => by
    constructor
    ·intro z; cases z
    ·rintro ⟨x, hx, _⟩; simp at hx⟩
   (fun i σ H2 _ ⟨_, _, _, _, _, _, _, _, o⟩ => SqL.of o.it) ?_ ?_
  ·intro i x σ H2 hi hI
   refine qx1 hI fun c5 c6 c7 c8 cs kvs xs hJ => ?_
   have eI := hJ.1
   have O := hJ.2
   clear hI hJ
   subst eI
   obtain ⟨z, rfl⟩ := itsI x (List.mem_of_getElem? hi)
   have hil : i < items.length := (List.getElem?_eq_some_iff.mp hi).1
   have lx := O.at'.length
   rw [List.length_map] at lx
   refine ⟨_, rfl, _, rfl, _, rfl, z, R, C, rfl, hR1, hC1, fun t lf h w b H3 s3 ht hlf h1 h2 w1 w2 hb => ?_⟩
   refine ⟨_, rfl, _, rfl, _, rfl, _, rfl, b, d, t, lf, h, w, R, C, kvs, rfl, hb, s3 _ _ O.dd, by omega, by omega, h2, w2, fun H4 s4 => ⟨false, rfl, uo ?_⟩, fun d1 d2 fr H4 s4 => ⟨true, rfl, uh ?_⟩⟩
   ·have s34 := s3.trans s4
    exact ⟨_, _, _, _, cs, kvs, xs, rfl, O.same.trans s34, s34 _ _ O.it, s34 _ _ O.dd, s34 _ _ O.ll, O.at'.mono s34, O.part, Nat.le_succ_of_le O.few, by have := O.fewk; omega, O.cov⟩
   ·have s34 := s3.trans s4
    refine ⟨_, rfl, .inl ⟨rfl, _, SqL.of (s34 _ _ O.ll)⟩, _, rfl, _, rfl, z, rfl, fun v ws H5 s5 ow av => ⟨by show 1 <= sizeLine; decide, fun q hq => ?_⟩⟩
    have s6 := Same.upd_new (o := .tup [v]) hq
    refine ⟨b, q, _, _, rfl, rfl, SqT.of (s6 _ _ (s5 _ _ (s4 _ _ hb))), SqT.of qd, (by intro z; cases z), (by show 5 <= sizeLine; decide), (fun z => by cases z), fun _ r hrn => ?_⟩
    have s7 := Same.upd_new (o := .tup ([.int t, .int lf, .int h, .int w] ++ [v])) hrn
    have s27 := ((s34.trans s5).trans s6).trans s7
    generalize hH7 : upd (upd H5 q (.tup [v])) r (.tup ([.int t, .int lf, .int h, .int w] ++ [v])) = H7 at *
    have hr7 : H7 r = some (.tup ([.int t, .int lf, .int h, .int w] ++ [v])) := by rw [← hH7]; exact qd
    have l7 := s27 _ _ O.ll
    refine ⟨l, xs, .ref r, rfl, rfl, l7, zz (by have := O.few; omega), ?_⟩
    obtain ⟨bb, wv, rfl, hbb, aw⟩ := av.tup_inv
    have t8 : SameT H7 (upd H7 l (.lst (xs ++ [.ref r]))) := SameT.put l7
    let X : Cell := ⟨t, lf, h, w, ws⟩
    have fx : Fit R C X := ⟨h1, w1, d1, d2, ow⟩
    have dx : ∀ r' c', inC X r' c' -> ¬ GT.cov cs r' c' := fun r' c' hin hc => by
     have := (O.cov r' c').mpr hc
     rw [fr r' c' hin.1 hin.2.1 hin.2.2.1 hin.2.2.2] at this
     cases this
    have s57 := s6.trans s7
    have aX : At (upd H7 l (.lst (xs ++ [.ref r]))) X.D (.ref r) := Cell.at_mk (x := X) (t8 _ _ hr7) (t8 _ _ (s57 _ _ hbb)) ((aw.mono s57).monoT (fun d hd => by obtain ⟨w', _, rfl⟩ := List.mem_map.mp hd; exact .str w') t8)
    have aL : AtL (upd H7 l (.lst (xs ++ [.ref r]))) ((cs ++ [X]).map Cell.D) (xs ++ [.ref r]) := by
     rw [List.map_append]
     exact Paired.snoc' ((O.at'.mono s27).monoT (Gq cs) t8) aX
    have PX := O.part.snoc fx dx
    have nbl : b ≠ l := Lw (s3 _ _ O.ll) hb (by intro z; cases z) |>.symm
    have ndl7 : d ≠ l := Lw O.dd O.ll (by intro z; cases z)
    have hb7 : H7 b = some (.tup [.int t, .int lf, .int h, .int w]) := s57 _ _ (s5 _ _ (s4 _ _ hb))
    have hb8 : (upd H7 l (.lst (xs ++ [.ref r]))) b = some (.tup [.int t, .int lf, .int h, .int w]) := t8 _ _ hb7
    have fk := O.fewk
    have start8 : Same H (upd H7 l (.lst (xs ++ [.ref r]))) := fun b' o e => by
     rw [qt (qz e hl)]
     exact s27 _ _ (O.same _ _ e)
    have p8 : (upd H7 l (.lst (xs ++ [.ref r]))) p = some (.lst items) := by
     rw [qt npl]; exact s27 _ _ O.it
    have d8 : (upd H7 l (.lst (xs ++ [.ref r]))) d = some (.dT kvs) := by rw [qt ndl7]; exact s27 _ _ O.dd
    generalize hH8 : upd H7 l (.lst (xs ++ [.ref r])) = H8 at *
    have l8 : H8 l = some (.lst (xs ++ [.ref r])) := by rw [← hH8]; exact qd
    have ehh : ((t : Int) + (h : Int) - (t : Int)).toNat = h := by omega
    have eww : ((lf : Int) + (w : Int) - (lf : Int)).toNat = w := by omega
    refine ⟨_, rfl, b, _, (0 : Int), _, rfl, rfl, SqT.of hb8, rfl, _, rfl, b, _, (0 : Int), _, rfl, rfl, SqT.of hb8, rfl, _, rfl, b, _, (2 : Int), _, rfl, rfl, SqT.of hb8, rfl, _, _, rfl, rfl, (t : Int), (t : Int) + (h : Int), rfl, ⟨by omega, by omega, by omega, by omega⟩, ?_⟩
    rw [ehh]
    refine jx (n := h) (qz1 a R C d l z b H H8 p items xs r i cs X t)
     ⟨_, _, kvs, rfl, start8, fun _ _ z => z, p8, d8, l8, by omega, fun r' c' => by
      rw [O.cov r' c']
      exact ⟨fun z => .inl z, fun z => z.elim id fun z => absurd z.2 (by have := z.1.1; show ¬ r' < t + 0; have : t <= r' := this; omega)⟩⟩ ?_ ?_
    ·intro i2 σ H9 hi2 hI
     refine qr2 hI fun c7 c8 kv hJ => ?_
     have eI := hJ.1
     have s9 := hJ.2.1
     have t9 := hJ.2.2.1
     have p9 := hJ.2.2.2.1
     have d9 := hJ.2.2.2.2.1
     have l9 := hJ.2.2.2.2.2.1
     have f9 := hJ.2.2.2.2.2.2.1
     have v9 := hJ.2.2.2.2.2.2.2
     clear hI hJ
     subst eI
     have hb9 := t9 _ _ hb8
     refine ⟨_, rfl, b, _, (1 : Int), _, rfl, rfl, SqT.of hb9, rfl, _, rfl, b, _, (1 : Int), _, rfl, rfl, SqT.of hb9, rfl, _, rfl, b, _, (3 : Int), _, rfl, rfl, SqT.of hb9, rfl, _, _, rfl, rfl, (lf : Int), (lf : Int) + (w : Int), rfl, ⟨by omega, by omega, by omega, by omega⟩, ?_⟩
     rw [eww]
     refine jx (n := w) (qx8 a R C d l z b H H8 p items xs r i cs X t lf i2)
      ⟨_, kv, rfl, s9, t9, p9, d9, l9, by omega, fun r' c' => by
       rw [v9 r' c']
       refine ⟨fun z => z.imp id fun z => ⟨z.1, .inl z.2⟩, fun z => z.imp id fun z => ⟨z.1, z.2.elim id fun q => ?_⟩⟩
       have : lf <= c' := z.1.2.2.1
       omega⟩ ?_ ?_
     ·intro j σ H10 hj hI
      refine Il hI fun c8 kv hJ => ?_
      have eI := hJ.1
      have s10 := hJ.2.1
      have t10 := hJ.2.2.1
      have p10 := hJ.2.2.2.1
      have d10 := hJ.2.2.2.2.1
      have l10 := hJ.2.2.2.2.2.1
      have f10 := hJ.2.2.2.2.2.2.1
      have v10 := hJ.2.2.2.2.2.2.2
      clear hI hJ
      subst eI
      have e1 : (t : Int) + (i2 : Int) = ((t + i2 : Nat) : Int) := by simp
      have e2 : (lf : Int) + (j : Int) = ((lf + j : Nat) : Int) := by simp
      rw [e2, e1]
      refine ⟨_, rfl, _, rfl, _, rfl, by show 2 <= sizeLine; decide, fun q2 hq2 => ?_⟩
      have s11 := Same.upd_new (o := .tup [.int ((t + i2 : Nat) : Int), .int ((lf + j : Nat) : Int)]) hq2
      have d11 := s11 _ _ d10
      refine ⟨d, _, rfl, DPut.t (k := pl (t + i2) (lf + j)) d11 qd (zz (by omega)), ?_⟩
      have ndp : p ≠ d := Lw p10 d10 (by intro z; cases z)
      have ndl10 : l ≠ d := Lw l10 d10 (by intro z; cases z)
      refine ⟨_, _, rfl, fun b' o e => ?_, (t10.trans s11.t).trans (SameT.putD d11), ?_, qd, ?_, ?_, fun r' c' => ?_⟩
      ·rw [qt (qz e hd0)]
       exact s11 _ _ (s10 _ _ e)
      ·rw [qt ndp]; exact s11 _ _ p10
      ·rw [qt ndl10]; exact s11 _ _ l10
      ·have := Az kv (pl (t + i2) (lf + j)) (V.bl true)
       omega
      ·rw [qm1, v10 r' c']
       constructor
       ·rintro ((z | z) | z)
        ·exact .inl z
        ·exact .inr ⟨z.1, z.2.imp id fun q => ⟨q.1, by omega⟩⟩
        ·refine .inr ⟨⟨?_, ?_, ?_, ?_⟩, .inr ⟨z.1, by omega⟩⟩
         ·show t <= r'; omega
         ·show r' < t + h; omega
         ·show lf <= c'; omega
         ·show c' < lf + w; omega
       ·rintro (z | z)
        ·exact .inl (.inl z)
        ·by_cases he : r' = t + i2 /\ c' = lf + j
         ·exact .inr he
         ·exact .inl (.inr ⟨z.1, z.2.imp id fun q => ⟨q.1, by omega⟩⟩)
     ·intro σ H10 hI
      refine Il hI fun c8 kv hJ => ?_
      have eI := hJ.1
      have s10 := hJ.2.1
      have t10 := hJ.2.2.1
      have p10 := hJ.2.2.2.1
      have d10 := hJ.2.2.2.2.1
      have l10 := hJ.2.2.2.2.2.1
      have f10 := hJ.2.2.2.2.2.2.1
      have v10 := hJ.2.2.2.2.2.2.2
      clear hI hJ
      subst eI
      refine ⟨_, _, kv, rfl, s10, t10, p10, d10, l10, by omega, fun r' c' => ?_⟩
      rw [v10 r' c']
      refine ⟨fun z => z.imp id fun z => ⟨z.1, by omega⟩, fun z => z.imp id fun z => ⟨z.1, ?_⟩⟩
      have : c' < lf + w := z.1.2.2.2
      omega
    ·intro σ H9 hI
     refine qr2 hI fun c7 c8 kv hJ => ?_
     have eI := hJ.1
     have s9 := hJ.2.1
     have t9 := hJ.2.2.1
     have p9 := hJ.2.2.2.1
     have d9 := hJ.2.2.2.2.1
     have l9 := hJ.2.2.2.2.2.1
     have f9 := hJ.2.2.2.2.2.2.1
     have v9 := hJ.2.2.2.2.2.2.2
     clear hI hJ
     subst eI
     refine ⟨_, _, _, _, cs ++ [X], kv, xs ++ [.ref r], rfl, s9, p9, d9, l9, aL.monoT (Gq _) t9, PX, by rw [List.length_append]; have := O.few; show _ + 1 <= _; omega, by omega, fun r' c' => ?_⟩
     rw [v9 r' c', Dv]
     refine ⟨fun z => z.imp id fun z => z.1, fun z => z.imp id fun z => ⟨z, ?_⟩⟩
     exact z.2.1
  ·intro σ H2 hI
   refine qx1 hI fun c5 c6 c7 c8 cs1 kvs xs1 hJ => ?_
   have eI := hJ.1
   have O := hJ.2
   clear hI hJ
   subst eI
   have lx1 := O.at'.length
   rw [List.length_map] at lx1
   have few1 := O.few
   have eR : ((R : Int)).toNat = R := by omega
   have eC : ((C : Int)).toNat = C := by omega
   refine ⟨_, rfl, (R : Int), rfl, by omega, by omega, ?_⟩
   rw [eR]
   refine jx (n := R) (qz4 a R C d l c5 c6 H kvs cs1)
    ⟨_, _, _, cs1, xs1, rfl, O.same, O.dd, O.ll, O.at', O.part, by omega, fun r c _ _ => ⟨fun z => .inl z, fun z => z.elim id fun z => by omega⟩⟩ ?_ ?_
   ·intro i σ H3 hi hI
    refine zb3 hI fun c7 c8 c9 cs xs hJ => ?_
    have eI := hJ.1
    have s3 := hJ.2.1
    have d3 := hJ.2.2.1
    have l3 := hJ.2.2.2.1
    have a3 := hJ.2.2.2.2.1
    have P3 := hJ.2.2.2.2.2.1
    have f3 := hJ.2.2.2.2.2.2.1
    have v3 := hJ.2.2.2.2.2.2.2
    clear hI hJ
    subst eI
    refine ⟨_, rfl, (C : Int), rfl, by omega, by omega, ?_⟩
    rw [eC]
    refine jx (n := C) (fun j σ H4 => ∃ (c8 c9 : Option V) (cs : List Cell) (xs : List V), σ = [some (.ref a), some (.int R), some (.int C), some (.ref d), some (.ref l), c5, c6, some (.int (0 + (i : Int))), c8, c9] /\
      Same H H4 /\ H4 d = some (.dT kvs) /\ H4 l = some (.lst xs) /\ AtL H4 (cs.map Cell.D) xs /\ Part R C cs /\ cs.length <= 67 + 17 * i + j /\ ∀ r c, r < R -> c < C -> (GT.cov cs r c ↔ GT.cov cs1 r c \/ r < i \/ (r = i /\ c < j)))
     ⟨_, _, cs, xs, rfl, s3, d3, l3, a3, P3, by omega, fun r c hr' hc' => by
      rw [v3 r c hr' hc']
      exact ⟨fun z => z.imp id .inl, fun z => z.imp id fun z => by omega⟩⟩ ?_ ?_
    ·intro j σ H4 hj hI
     refine qw6 hI fun c8 c9 cs xs hJ => ?_
     have eI := hJ.1
     have s4 := hJ.2.1
     have d4 := hJ.2.2.1
     have l4 := hJ.2.2.2.1
     have a4 := hJ.2.2.2.2.1
     have P4 := hJ.2.2.2.2.2.1
     have f4 := hJ.2.2.2.2.2.2.1
     have v4 := hJ.2.2.2.2.2.2.2
     clear hI hJ
     subst eI
     have e1 : (0 : Int) + (i : Int) = ((i : Nat) : Int) := by omega
     have e2 : (0 : Int) + (j : Int) = ((j : Nat) : Int) := by omega
     rw [e2, e1]
     have lx4 := a4.length
     rw [List.length_map] at lx4
     refine ⟨_, rfl, _, rfl, by show 2 <= sizeLine; decide, fun q hq => ?_⟩
     have s5 := Same.upd_new (o := .tup [.int (i : Int), .int (j : Int)]) hq
     refine ⟨_, rfl, d, _, rfl, DGet.t (k := pl i j) (s5 _ _ d4) qd, _, rfl, ?_⟩
     cases ev : wk kvs (pl i j) with
     | some v =>
      refine uo ?_
      have hc : GT.cov cs1 i j := (O.cov i j).mp (by rw [ev]; rfl)
      refine ⟨_, _, cs, xs, rfl, s4.trans s5, s5 _ _ d4, s5 _ _ l4, a4.mono s5, P4, by omega, fun r c hr' hc' => ?_⟩
      rw [v4 r c hr' hc']
      refine ⟨fun z => z.imp id fun z => z.imp id fun z => ⟨z.1, by omega⟩, fun z => ?_⟩
      rcases z with z | z | z
      ·exact .inl z
      ·exact .inr (.inl z)
      ·by_cases he : c = j
       ·obtain ⟨rfl, _⟩ := z
        subst he
        exact .inl hc
       ·exact .inr (.inr ⟨z.1, by omega⟩)
     | none =>
      refine uh ?_
      have hc : ¬ GT.cov cs1 i j := fun z => by
       have := (O.cov i j).mpr z
       rw [ev] at this; cases this
      generalize hH5 : upd H4 q (.tup [.int (i : Int), .int (j : Int)]) = H5 at *
      refine ⟨_, rfl, _, _, rfl, rfl, .inl ⟨by decide, by decide⟩, _, rfl, _, _, rfl, rfl, .inr ⟨by omega, by omega⟩, _, rfl, _, _, rfl, rfl, .inl ⟨by decide, by decide⟩, _, rfl, _, _, rfl, rfl, .inr ⟨by omega, by omega⟩, _, _, rfl, rfl, ?_⟩
      refine ⟨_, rfl, _, rfl, _, rfl, _, rfl, _, _, rfl, rfl, .inl ⟨by decide, by decide⟩, _, _, rfl, rfl, _, _, rfl, rfl, by show (0 : Int) < 20; decide, _, _, rfl, rfl, a, ns, (2 + (i + 3 * j) % 20), ?_, (s4.trans s5).seq hs, _, _, rfl, rfl, ?_⟩
      ·have e3 : (2 : Int) + ((i : Int) + 3 * (j : Int)) % 20 = ((2 + (i + 3 * j) % 20 : Nat) : Int) := by omega
       show [V.ref a, V.int ((2 : Int) + ((i : Int) + 3 * (j : Int)) % 20)] = _
       rw [e3]
      have l5 := s5 _ _ l4
      refine ⟨_, rfl, .inl ⟨rfl, _, SqL.of l5⟩, _, rfl, _, rfl, _, rfl, _, rfl, fun v ws H6 s6 ow av => ⟨by show 5 <= sizeLine; decide, fun r hrn => ?_⟩⟩
      have s7 := Same.upd_new (o := .tup [.int (i : Int), .int (j : Int), .int 1, .int 1, v]) hrn
      generalize hH7 : upd H6 r (.tup [.int (i : Int), .int (j : Int), .int 1, .int 1, v]) = H7 at *
      have hr7 : H7 r = some (.tup [.int (i : Int), .int (j : Int), .int 1, .int 1, v]) := by rw [← hH7]; exact qd
      have s47 := (s5.trans s6).trans s7
      have l7 := s47 _ _ l4
      refine ⟨l, xs, .ref r, rfl, rfl, l7, zz (by have : 17 * i <= 17 * 17 := Nat.mul_le_mul_left _ (by omega); omega), ?_⟩
      obtain ⟨bb, wv, rfl, hbb, aw⟩ := av.tup_inv
      have t8 : SameT H7 (upd H7 l (.lst (xs ++ [.ref r]))) := SameT.put l7
      let X : Cell := ⟨i, j, 1, 1, ws⟩
      have fx : Fit R C X := ⟨Nat.le_refl _, Nat.le_refl _, by show i + 1 <= R; omega, by show j + 1 <= C; omega, ow⟩
      have inX : ∀ r' c', inC X r' c' ↔ r' = i /\ c' = j := fun r' c' => by
       show (i <= r' /\ r' < i + 1 /\ j <= c' /\ c' < j + 1) ↔ _
       omega
      have dx : ∀ r' c', inC X r' c' -> ¬ GT.cov cs r' c' := fun r' c' hin hcv => by
       obtain ⟨rfl, rfl⟩ := (inX r' c').mp hin
       rcases (v4 r' c' hi hj).mp hcv with z | z | z
       ·exact hc z
       ·omega
       ·omega
      have aX : At (upd H7 l (.lst (xs ++ [.ref r]))) X.D (.ref r) := Cell.at_mk (x := X) (t8 _ _ hr7) (t8 _ _ (s7 _ _ hbb)) ((aw.mono s7).monoT (fun d hd => by obtain ⟨w', _, rfl⟩ := List.mem_map.mp hd; exact .str w') t8)
      have ndl7 : d ≠ l := Lw d4 l4 (by intro z; cases z)
      refine ⟨_, _, cs ++ [X], xs ++ [.ref r], rfl, fun b' o e => ?_, by rw [qt ndl7]; exact s47 _ _ d4, qd, ?_, P4.snoc fx dx, by rw [List.length_append]; show _ + 1 <= _; omega, fun r' c' hr' hc' => ?_⟩
      ·rw [qt (qz e hl)]
       exact s47 _ _ (s4 _ _ e)
      ·rw [List.map_append]
       exact Paired.snoc' ((a4.mono s47).monoT (Gq cs) t8) aX
      ·rw [Dv, v4 r' c' hr' hc', inX r' c']
       constructor
       ·rintro ((z | z | z) | z)
        ·exact .inl z
        ·exact .inr (.inl z)
        ·exact .inr (.inr ⟨z.1, by omega⟩)
        ·exact .inr (.inr ⟨z.1, by omega⟩)
       ·rintro (z | z | z)
        ·exact .inl (.inl z)
        ·exact .inl (.inr (.inl z))
        ·by_cases he : c' = j
         ·exact .inr ⟨z.1, he⟩
         ·exact .inl (.inr (.inr ⟨z.1, by omega⟩))
    ·intro σ H4 hI
     refine qw6 hI fun c8 c9 cs xs hJ => ?_
     have eI := hJ.1
     have s4 := hJ.2.1
     have d4 := hJ.2.2.1
     have l4 := hJ.2.2.2.1
     have a4 := hJ.2.2.2.2.1
     have P4 := hJ.2.2.2.2.2.1
     have f4 := hJ.2.2.2.2.2.2.1
     have v4 := hJ.2.2.2.2.2.2.2
     clear hI hJ
     subst eI
     refine ⟨_, _, _, cs, xs, rfl, s4, d4, l4, a4, P4, by omega, fun r c hr' hc' => ?_⟩
     rw [v4 r c hr' hc']
     exact ⟨fun z => z.imp id fun z => by omega, fun z => z.imp id fun z => by omega⟩
   ·intro σ H3 hI
    refine zb3 hI fun c7 c8 c9 cs xs hJ => ?_
    have eI := hJ.1
    have s3 := hJ.2.1
    have d3 := hJ.2.2.1
    have l3 := hJ.2.2.2.1
    have a3 := hJ.2.2.2.2.1
    have P3 := hJ.2.2.2.2.2.1
    have f3 := hJ.2.2.2.2.2.2.1
    have v3 := hJ.2.2.2.2.2.2.2
    clear hI hJ
    subst eI
    refine ⟨_, rfl, _, rfl, _, rfl, ?_⟩
    dsimp only [Tz]
    refine Qc (K := K) l3 P3 (by omega) a3 fun r cs' xs' hrn pc ord at' => ?_
    refine ⟨by show 3 <= sizeLine; decide, fun q hq => ?_⟩
    have s4 := Same.upd_new (o := .lst xs') hrn
    have s5 := Same.upd_new (o := .tup [.int R, .int C, .ref r]) hq
    exact k _ cs' _ ((s3.trans s4).trans s5) (P3.tiles (fun r c hr' hc' => (v3 r c hr' hc').mpr (.inr hr')) pc ord) (Nq qd (s5 _ _ qd) (at'.mono s5))
end
end KL
namespace KL
open PySem L2 GT PyProof.Rows
section
variable {P : Program} {w : World} {K : PySem.W.Frag} {mg : Str -> Option Value} {base : Heap}
theorem Gf {Q : VK} {H : Hp} (q : ∀ n : Nat, 1 <= n -> n <= 16 -> Q (.int n) H) (x : Int) {m : Int} (h0 : 0 < m) (h1 : m <= 16) : Q (.int (1 + x % m)) H := by
 have a := Int.emod_nonneg x (by omega : m ≠ 0)
 have b := Int.emod_lt_of_pos x h0
 obtain ⟨n, en⟩ := Int.eq_ofNat_of_zero_le (by omega : 0 <= 1 + x % m)
 rw [en]
 exact q n (by omega) (by omega)
theorem sc__law_size : FnScope ["_law_script", "_law_k", "_law_most"] ["_law_script", "_law_k"] (qj (top 38)) := ⟨rfl, rfl, rfl, by decide +kernel, rfl, by decide +kernel, by decide +kernel⟩
set_option maxHeartbeats 4000000 in
theorem Nm (T : Txt mg) (c__law_cell : Cal P w K mg base 1 "_law_cell" ["_law_script", "_law_k"] (Gu K)) (c__law_large : Cal P w K mg base 2 "_law_large" ["_law_script"] (Q9 K)) (f : Addr) (fd : FuncData) (F : Fun K "_law_size" "_law_size" (top 38) f fd) : FnOk P w K mg base CX0 3 f fd ["_law_script", "_law_k"] (Z1 K) := by
 refine F.ok sc__law_size (fun vs H Q E h => ?_) (fun cdv A outer s H vs Q E hr h => ?_)
 ·obtain ⟨a, ns, k, rfl, _⟩ := h; rfl
 ·obtain ⟨a, ns, k, rfl, hs, q⟩ := h
  have hr__law_cell : Room 1 (A.deeper (envOfC "_law_size" (qj (top 38)) s.heap.objs.size f cdv)) := hr.mono (by decide)
  have hr__law_large : Room 2 (A.deeper (envOfC "_law_size" (qj (top 38)) s.heap.objs.size f cdv)) := hr.mono (by decide)
  refine ⟨_, (ql (zf (i := 2) sc__law_size.nd rfl (by first | exact Or.inl rfl | exact Or.inr rfl) qg)
   (ql (jj (jq (qu c__law_large hr__law_large rfl (qb (pv 0) qi))) (qm (zf (i := 2) sc__law_size.nd rfl (by first | exact Or.inl rfl | exact Or.inr rfl) qg)) q8)
   (ql (jj (za Iv (qy (jm (K := K) rfl) (by rfl) T.len PySem.boot_len (qb (pv 0) qi)) qg (zc _)) (qm (zf (i := 2) sc__law_size.nd rfl (by first | exact Or.inl rfl | exact Or.inr rfl) qg)) q8)
   (qm (qx (qw zr qg (qw yw (qu c__law_cell hr__law_cell rfl (qb (pv 0) (qb (pv 1) qi))) (pv 2)))))))), ?_⟩
  refine ⟨_, rfl, a, ns, rfl, hs, fun b => ⟨b, rfl, ?_⟩⟩
  refine vd (fun _ => ?_) (fun _ => ?_)
  all_goals
   refine ⟨_, rfl, a, _, rfl, .inl hs, _, _, rfl, rfl, _, rfl, ?_⟩
   refine vd (fun _ => ?_) (fun _ => ?_)
  ·exact ⟨_, rfl, _, rfl, a, ns, k, rfl, hs, _, rfl, _, _, rfl, rfl, by show (0 : Int) < 16; decide, _, _, rfl, rfl, Gf q _ (by decide) (by decide)⟩
  ·exact ⟨_, rfl, _, rfl, a, ns, k, rfl, hs, _, rfl, _, _, rfl, rfl, by show (0 : Int) < 9; decide, _, _, rfl, rfl, Gf q _ (by decide) (by decide)⟩
  ·exact ⟨_, rfl, _, rfl, a, ns, k, rfl, hs, _, rfl, _, _, rfl, rfl, by show (0 : Int) < 16; decide, _, _, rfl, rfl, Gf q _ (by decide) (by decide)⟩
  ·exact ⟨_, rfl, _, rfl, a, ns, k, rfl, hs, _, rfl, _, _, rfl, rfl, by show (0 : Int) < 5; decide, _, _, rfl, rfl, Gf q _ (by decide) (by decide)⟩
theorem sc__law_made : FnScope ["_law_script", "_law_way", "_law_tall"] ["_law_script"] (qj (top 39)) := ⟨rfl, rfl, rfl, by decide +kernel, rfl, by decide +kernel, by decide +kernel⟩
set_option maxHeartbeats 4000000 in
theorem Oa (T : Txt mg) (c__law_cell : Cal P w K mg base 1 "_law_cell" ["_law_script", "_law_k"] (Gu K)) (c__law_table : Cal P w K mg base 4 "_law_table" ["_law_script", "_law_rows", "_law_columns"] (Qx K)) (c__law_size : Cal P w K mg base 3 "_law_size" ["_law_script", "_law_k"] (Z1 K)) (f : Addr) (fd : FuncData) (F : Fun K "_law_made" "_law_made" (top 39) f fd) : FnOk P w K mg base CX0 5 f fd ["_law_script"] (Z6 K) := by
 refine F.ok sc__law_made (fun vs H Q E h => ?_) (fun cdv A outer s H vs Q E hr h => ?_)
 ·obtain ⟨a, ns, rfl, _⟩ := h; rfl
 ·obtain ⟨a, ns, rfl, hs, hlen, q⟩ := h
  have hr__law_cell : Room 1 (A.deeper (envOfC "_law_made" (qj (top 39)) s.heap.objs.size f cdv)) := hr.mono (by decide)
  have hr__law_table : Room 4 (A.deeper (envOfC "_law_made" (qj (top 39)) s.heap.objs.size f cdv)) := hr.mono (by decide)
  have hr__law_size : Room 3 (A.deeper (envOfC "_law_made" (qj (top 39)) s.heap.objs.size f cdv)) := hr.mono (by decide)
  obtain ⟨R, eR, R1, R2⟩ : ∃ R : Nat, 1 + ns.getD 0 0 / 40 % 16 = (R : Int) /\ 1 <= R /\ R <= 16 := ⟨(1 + ns.getD 0 0 / 40 % 16).toNat, by omega, by omega, by omega⟩
  obtain ⟨C, eC, C1, C2⟩ : ∃ C : Nat, 1 + ns.getD 1 0 % 3 = (C : Int) /\ 1 <= C /\ C <= 3 := ⟨(1 + ns.getD 1 0 % 3).toNat, by omega, by omega, by omega⟩
  refine ⟨_, (ql (zf (i := 1) sc__law_made.nd rfl (by first | exact Or.inl rfl | exact Or.inr rfl) (qw yw (qw Zz (qu c__law_cell hr__law_cell rfl (qb (pv 0) (qb qg qi))) qg) qg))
   (ql (zf (i := 2) sc__law_made.nd rfl (by first | exact Or.inl rfl | exact Or.inr rfl) (qw zr qg (qw yw (qw Zz (qu c__law_cell hr__law_cell rfl (qb (pv 0) (qb qg qi))) qg) qg)))
   (ql (jj (za Bv (pv 1) qg (zc _)) (qm (qx (qu c__law_table hr__law_table rfl (qb (pv 0) (qb (pv 2) (qb (qw zr qg (qw yw (qu c__law_cell hr__law_cell rfl (qb (pv 0) (qb qg qi))) qg)) qi)))))) q8)
   (ql (jj (za Bv (pv 1) qg (zc _)) (qm (qx (qu c__law_table hr__law_table rfl (qb (pv 0) (qb (qw zr qg (qw yw (qu c__law_cell hr__law_cell rfl (qb (pv 0) (qb qg qi))) qg)) (qb (pv 2) qi)))))) q8)
   (qm (qx (qu c__law_table hr__law_table rfl (qb (pv 0) (qb (qu c__law_size hr__law_size rfl (qb (pv 0) (qb qg qi))) (qb (qu c__law_size hr__law_size rfl (qb (pv 0) (qb qg qi))) qi)))))))))), ?_⟩
  refine ⟨_, rfl, a, ns, 0, rfl, hs, _, _, rfl, rfl, ⟨by decide, by decide⟩, _, _, rfl, rfl, by show (0 : Int) < 8; decide, ?_⟩
  refine ⟨_, rfl, a, ns, 0, rfl, hs, _, _, rfl, rfl, ⟨by decide, by decide⟩, _, _, rfl, rfl, by show (0 : Int) < 16; decide, _, _, rfl, rfl, ?_⟩
  refine ⟨_, rfl, rfl, _, rfl, ?_⟩
  refine vd (fun _ => ?_) (fun _ => ?_)
  ·refine ⟨_, rfl, _, rfl, _, rfl, a, ns, 1, rfl, hs, _, _, rfl, rfl, by show (0 : Int) < 3; decide, _, _, rfl, rfl, a, ns, R, C, ?_, hs, by omega, R1, by omega, C1, by omega, fun v cs H' s' t a' => q v R C cs H' s' R1 R2 C1 (by omega) t a'⟩
   show [V.ref a, V.int (1 + ns.getD 0 0 / 40 % 16), V.int (1 + ns.getD 1 0 % 3)] = _
   rw [eR, eC]
  refine ⟨_, rfl, rfl, _, rfl, ?_⟩
  refine vd (fun _ => ?_) (fun _ => ?_)
  ·refine ⟨_, rfl, _, rfl, a, ns, 1, rfl, hs, _, _, rfl, rfl, by show (0 : Int) < 3; decide, _, _, rfl, rfl, _, rfl, a, ns, C, R, ?_, hs, by omega, C1, by omega, R1, by omega, fun v cs H' s' t a' => q v C R cs H' s' C1 (by omega) R1 R2 t a'⟩
   show [V.ref a, V.int (1 + ns.getD 1 0 % 3), V.int (1 + ns.getD 0 0 / 40 % 16)] = _
   rw [eR, eC]
  exact ⟨_, rfl, _, rfl, a, ns, 0, rfl, hs, fun R R1 R2 => ⟨_, rfl, a, ns, 1, rfl, hs, fun C C1 C2 => ⟨a, ns, R, C, rfl, hs, by omega, R1, by omega, C1, by omega, fun v cs H' s' t a' => q v R C cs H' s' R1 R2 C1 C2 t a'⟩⟩⟩
theorem Ny : FnScope ["_law_table_here"] ["_law_table_here"] (qj (top 40)) := ⟨rfl, rfl, rfl, by decide +kernel, rfl, by decide +kernel, by decide +kernel⟩
set_option maxHeartbeats 4000000 in
theorem Nf (T : Txt mg) (f : Addr) (fd : FuncData) (F : Fun K "_law_copy" "_law_copy" (top 40) f fd) : FnOk P w K mg base CX0 1 f fd ["_law_table_here"] Za := by
 refine F.ok Ny (fun vs H Q E h => ?_) (fun cdv A outer s H vs Q E hr h => ?_)
 ·obtain ⟨v, R, C, cs, rfl, _⟩ := h; rfl
 ·obtain ⟨v, R, C, cs, rfl, ht, k⟩ := h
  obtain ⟨a, l, ys, rfl, ha, hl, ry⟩ := Lf ht
  refine ⟨_, (qm (qx (yx (qb (zg (qp (K := K) rfl) (pv 0) qg (fun _ _ => rfl)) (qb (zg (qp (K := K) rfl) (pv 0) qg (fun _ _ => rfl)) (qb (yp (Jm (K := K) rfl) (by rfl) T.list PyProof.Rows.boot_list (qb (zg (qp (K := K) rfl) (pv 0) qg (fun _ _ => rfl)) qi)) qi)))))), ?_⟩
  refine ⟨_, rfl, a, _, (0 : Int), _, rfl, rfl, SqT.of ha, rfl, _, rfl, a, _, (1 : Int), _, rfl, rfl, SqT.of ha, rfl, _, rfl, a, _, (2 : Int), _, rfl, rfl, SqT.of ha, rfl, l, ys, rfl, .inl (SqL.of hl), fun n hn => ⟨by show 3 <= sizeLine; decide, fun p hp => ?_⟩⟩
  have s1 := Same.upd_new (o := .lst ys) hn
  have s2 := Same.upd_new (o := .tup [.int R, .int C, .ref n]) hp
  exact k _ _ (s1.trans s2) (Nq qd (s2 _ _ qd) ((ry.mono s1).mono s2))
end
end KL
namespace KL
open PySem L2 GT PyProof.Rows
noncomputable abbrev u9 : Stmt := (qn2 (top 3)).getD 0 (.Pass ⟨0, 0, 0, 0⟩)
theorem Ow : FnScope ["self", "at"] ["self", "at"] (qj u9) := ⟨rfl, rfl, rfl, by decide +kernel, rfl, by decide +kernel, by decide +kernel⟩
set_option maxHeartbeats 4000000 in
theorem Xb {P : Program} {w : World} {K : PySem.W.Frag} {mg : Str -> Option Value} {base : Heap} {C : Addr} (X : K.In base) (G : base.Ns mainGlobals mg) (J : JX K "BadTable" "BadTable.__init__" u9 C) : ExcJ P w K mg base "BadTable" C := by
 obtain ⟨fI, fd, e, q, F⟩ := J.ex
 obtain ⟨Cg, g0, g1, g2, g3⟩ := J.g
 have O := qq5 X G e q
 refine ⟨⟨fI, fd, ["self", "at"], O, ?_, F.binds (fun _ _ _ _ _ _ => qe6 fun _ _ => rfl)⟩, PySem.W.mg_of X G e, J.k, J.n, J.m⟩
 refine F.ok Ow (fun vs H Q E h => ?_) (fun cdv A outer s H vs Q E hr h => ?_)
 ·obtain ⟨e1, y, rfl, _⟩ := h; rfl
 ·obtain ⟨e1, y, rfl, hy, hH, qn⟩ := h
  refine ⟨_, ql (Gx (Q4 (Ym PySem.F.excBase_ValueError O) rfl (PySem.W.mg_of X G g0) g1 g2 g3 rfl (qb (pv 0) (qb (qi2 (pv 1)) qi)))) (qm (Z3 J.k J.n (pv 0) (pv 1))), ?_⟩
  exact ⟨_, rfl, _, rfl, hy, fun x => ⟨_, x, rfl, hH, _, rfl, _, rfl, _, rfl, hH, qn⟩⟩
theorem ut {H : Hp} {x : Cell} {v : V} (h : At H x.D v) : ∃ b wb, v = .ref b /\ H b = some (.tup [.int x.top, .int x.left, .int x.h, .int x.w, .ref wb]) /\ H wb = some (.tup (x.words.map V.str)) := by
 obtain ⟨b, wb, ws, rfl, hb, hwb, aws⟩ := Cell.at_inv h
 rw [Q6 aws] at hwb
 exact ⟨b, wb, rfl, hb, hwb⟩
theorem Nz {H : Hp} {cs : List Cell} {ys : List V} {i : Nat} {v : V} (r : AtL H (cs.map Cell.D) ys) (h : ys[i]? = some v) : ∃ x, cs[i]? = some x /\ At H x.D v := by
 obtain ⟨d, hd, ad⟩ := Paired.get2 r h
 rw [List.getElem?_map] at hd
 obtain ⟨s, hs, rfl⟩ := Option.map_eq_some_iff.mp hd
 exact ⟨s, hs, ad⟩
theorem Xp {R C : Nat} {cs : List Cell} (p : Part R C cs) (hR : R <= 16) (hC : C <= 16) : cs.length <= 300 := by
 have h1 := p.few
 have h2 : R * C <= 16 * 16 := Nat.mul_le_mul hR hC
 omega
theorem zu {n : Nat} (h : n <= 1000000) : n <= sizeLine := by rw [sizeLine_eq]; omega
theorem Ld {n : Nat} (h : n <= 1000) : n <= sizeLine := Nat.le_of_lt (zz h)
noncomputable def Told (H : Hp) (CX : Addr) (i : Nat) (E : XK) : Prop := ∀ (dx : Addr) (H' : Hp), Same H H' -> H' dx = some (.xd [("at", .int (i : Int))]) -> E (.ref CX) (some dx) H'
noncomputable def ToldN (H : Hp) (CX : Addr) (E : XK) : Prop := ∀ (dx : Addr) (H' : Hp), Same H H' -> H' dx = some (.xd [("at", .non)]) -> E (.ref CX) (some dx) H'
noncomputable def spG (f : Thg -> Bool) : Sp := fun vs H Q _ => ∃ (v : V) (g : Thg), vs = [v] /\ AtG H g v /\ ∀ H', Same H H' -> Q (.bl (f g)) H'
noncomputable def Jt : Sp := fun vs H Q _ => ∃ (v : V) (x : Cell) (R C : Nat), vs = [v, .int R, .int C] /\ At H x.D v /\ Q (.bl (decide (R < x.top + x.h \/ C < x.left + x.w))) H
noncomputable def Tw : Sp := fun vs H Q _ => ∃ (v : V) (x : Cell), vs = [v] /\ At H x.D v /\ ∀ t H', Same H H' -> H' t = some (.tup [.int x.top, .int x.left]) -> Q (.ref t) H'
theorem qc0 {K : PySem.W.Frag} {H : Hp} {a : Addr} {bs : List Bool} {Q : VK} (h : H a = some (.lst (bs.map V.bl))) (q : Q (.bl (bs.all id)) H) : zb8 K [.ref a] H Q := ⟨a, bs, rfl, SqL.of h, q⟩
theorem qk7 {n : Nat} {k : Int} (z : (!decide (V.int (n : Int) = V.int k)) = true) : (n : Int) ≠ k := fun e => by rw [e] at z; simp at z
theorem len_eq {n : Nat} {k : Int} (z : ¬ (!decide (V.int (n : Int) = V.int k)) = true) : (n : Int) = k := Classical.byContradiction fun e => z (by
 rw [decide_eq_false (fun y => e (by injection y))]
 rfl)
theorem qg2 {α : Type} {l : List α} (h : l.length = 3) : ∃ a b c, l = [a, b, c] := by
 match l, h with
 | [a, b, c], _ => exact ⟨a, b, c, rfl⟩
theorem qa8 {α : Type} {l : List α} (h : l.length = 5) : ∃ a b c d e, l = [a, b, c, d, e] := by
 match l, h with
 | [a, b, c, d, e], _ => exact ⟨a, b, c, d, e, rfl⟩
theorem Yq {ds : List Thg} (h : ds.length ≠ 3) : jt (.tup ds) = false := by
 unfold jt
 split
 ·rename_i heq
  injection heq with heq
  subst heq
  exact absurd rfl h
 ·rfl
theorem qc4 {ds : List Thg} (h : ds.length ≠ 5) : jw (.tup ds) = false := by
 unfold jw
 split
 ·rename_i heq
  injection heq with heq
  subst heq
  exact absurd rfl h
 ·rfl
section
variable {P : Program} {w : World} {K : PySem.W.Frag} {mg : Str -> Option Value} {base : Heap}
theorem Mx : FnScope ["thing"] ["thing"] (qj (top 12)) := ⟨rfl, rfl, rfl, by decide +kernel, rfl, by decide +kernel, by decide +kernel⟩
set_option maxHeartbeats 4000000 in
theorem My (T : Txt mg) (f : Addr) (fd : FuncData) (F : Fun K "is_number" "is_number" (top 12) f fd) : FnOk P w K mg base CX0 1 f fd ["thing"] (spG Am) := by
 refine F.ok Mx (fun vs H Q E h => ?_) (fun cdv A outer s H vs Q E hr h => ?_)
 ·obtain ⟨v, g, rfl, _⟩ := h; rfl
 ·obtain ⟨v, g, rfl, ag, q⟩ := h
  refine ⟨_, (qm (qx (ul (qy (zm (K := K) rfl) (by rfl) T.isinstance PyProof.Rows.boot_isinstance (qb (pv 0) (qb (ju (v := .ty "int") rfl T.int PyProof.Rows.boot_int rfl) qi))) (Br (qs2 (qy (zm (K := K) rfl) (by rfl) T.isinstance PyProof.Rows.boot_isinstance (qb (pv 0) (qb (ju (v := .ty "bool") rfl T.bool PyProof.Rows.boot_bool rfl) qi)))))))), ?_⟩
  refine ⟨_, rfl, _, "int", _, isInt g, rfl, ag.ty, qo5 g, isInt g, rfl, ?_⟩
  have q0 := q H fun _ _ z => z
  cases g with
  | int i => exact uh ⟨_, rfl, _, "bool", _, qz8 (.int i), rfl, ag.ty, qk4 _, _, rfl, q0⟩
  | bl b => exact uh ⟨_, rfl, _, "bool", _, qz8 (.bl b), rfl, ag.ty, qk4 _, _, rfl, q0⟩
  | _ => exact uo q0
theorem W0 : FnScope ["thing"] ["thing"] (qj (top 11)) := ⟨rfl, rfl, rfl, by decide +kernel, rfl, by decide +kernel, by decide +kernel⟩
set_option maxHeartbeats 4000000 in
theorem Wm (k_LONGEST_SIDE : ∃ t, mg "LONGEST_SIDE" = some (.int 16 t)) (c_is_number : Cal P w K mg base 1 "is_number" ["thing"] (spG Am)) (f : Addr) (fd : FuncData) (F : Fun K "is_side" "is_side" (top 11) f fd) : FnOk P w K mg base CX0 2 f fd ["thing"] (spG j8) := by
 refine F.ok W0 (fun vs H Q E h => ?_) (fun cdv A outer s H vs Q E hr h => ?_)
 ·obtain ⟨v, g, rfl, _⟩ := h; rfl
 ·obtain ⟨v, g, rfl, ag, q⟩ := h
  obtain ⟨t_LONGEST_SIDE, m_LONGEST_SIDE⟩ := k_LONGEST_SIDE
  have hr_is_number : Room 1 (A.deeper (envOfC "is_side" (qj (top 11)) s.heap.objs.size f cdv)) := hr.mono (by decide)
  refine ⟨_, (qm (qx (ul (qu c_is_number hr_is_number rfl (qb (pv 0) qi)) (Br (Mm Do Do qg (pv 0) (Bw (v := .int 16) rfl m_LONGEST_SIDE ⟨_, rfl⟩)))))), ?_⟩
  refine ⟨_, rfl, v, g, rfl, ag, fun H1 s1 => ?_⟩
  have q1 := q H1 s1
  cases g with
  | int i =>
   obtain rfl := ag.int_inv
   refine ⟨true, rfl, uh ?_⟩
   refine ⟨_, rfl, _, _, rfl, rfl, _, rfl, vd (fun z => ?_) (fun z => ?_)⟩
   ·refine ⟨_, _, rfl, rfl, ?_⟩
    dsimp only
    have q1 : Q (.bl (decide (1 <= i) && decide (i <= 16))) H1 := q1
    rw [z, Bool.true_and] at q1
    exact q1
   ·have q1 : Q (.bl (decide (1 <= i) && decide (i <= 16))) H1 := q1
    rw [eq_false_of_ne_true z, Bool.false_and] at q1
    exact q1
  | _ => exact ⟨false, rfl, uo q1⟩
theorem Nk : FnScope ["thing"] ["thing"] (qj (top 10)) := ⟨rfl, rfl, rfl, by decide +kernel, rfl, by decide +kernel, by decide +kernel⟩
set_option maxHeartbeats 4000000 in
theorem Nu (T : Txt mg) (c_is_side : Cal P w K mg base 2 "is_side" ["thing"] (spG j8)) (f : Addr) (fd : FuncData) (F : Fun K "has_frame" "has_frame" (top 10) f fd) : FnOk P w K mg base CX0 3 f fd ["thing"] (spG jt) := by
 refine F.ok Nk (fun vs H Q E h => ?_) (fun cdv A outer s H vs Q E hr h => ?_)
 ·obtain ⟨v, g, rfl, _⟩ := h; rfl
 ·obtain ⟨v, g, rfl, ag, q⟩ := h
  have hr_is_side : Room 2 (A.deeper (envOfC "has_frame" (qj (top 10)) s.heap.objs.size f cdv)) := hr.mono (by decide)
  refine ⟨_, (ql (jj (PW.pt (xx (jz (jq (qy (zm (K := K) rfl) (by rfl) T.isinstance PyProof.Rows.boot_isinstance (qb (pv 0) (qb (ju (v := .ty "tuple") rfl T.tuple PyProof.Rows.boot_tuple rfl) qi))))) (xu (za Z5 (qy (jm (K := K) rfl) (by rfl) T.len PySem.boot_len (qb (pv 0) qi)) qg (zc _))))) (qm (qx vq)) q8)
   (qm (qx (ul (qu c_is_side hr_is_side rfl (qb (zg (qp (K := K) rfl) (pv 0) qg (fun _ _ => rfl)) qi)) (ul (qu c_is_side hr_is_side rfl (qb (zg (qp (K := K) rfl) (pv 0) qg (fun _ _ => rfl)) qi)) (Br (qy (zm (K := K) rfl) (by rfl) T.isinstance PyProof.Rows.boot_isinstance (qb (zg (qp (K := K) rfl) (pv 0) qg (fun _ _ => rfl)) (qb (ju (v := .ty "list") rfl T.list PyProof.Rows.boot_list rfl) qi))))))))), ?_⟩
  refine ⟨_, rfl, _, "tuple", _, isTup g, rfl, ag.ty, Qy g, isTup g, rfl, ?_⟩
  cases g with
  | tup ds =>
   obtain ⟨p, xs, rfl, hp, rx⟩ := ag.tup_inv
   refine uo ?_
   have lx := rx.length
   refine ⟨_, rfl, p, _, rfl, .inr (SqT.of hp), rfl, _, rfl, vd (fun z => ?_) (fun z => ?_)⟩
   ·have z := qk7 z
    have q0 := q H fun _ _ z => z
    rw [Yq (by omega)] at q0
    exact q0
   ·have z := len_eq z
    obtain ⟨a, b, c, rfl⟩ := qg2 (l := ds) (by omega)
    cases rx with
    | cons r1 rx =>
    cases rx with
    | cons r2 rx =>
    cases rx with
    | cons r3 rx =>
    cases rx
    refine ⟨_, rfl, p, _, (0 : Int), _, rfl, rfl, SqT.of hp, rfl, _, a, rfl, r1, fun H1 s1 => ?_⟩
    cases e1 : j8 a with
    | false =>
     have q1 := q H1 s1
     have no : jt (.tup [a, b, c]) = false := by
      cases c <;> first | rfl | (show (j8 a && j8 b) = false; rw [e1]; rfl)
     rw [no] at q1
     exact ⟨false, rfl, uo q1⟩
    | true =>
     refine ⟨true, rfl, uh ?_⟩
     refine ⟨_, rfl, p, _, (1 : Int), _, rfl, rfl, SqT.of (s1 _ _ hp), rfl, _, b, rfl, r2.mono s1, fun H2 s2 => ?_⟩
     have s12 := s1.trans s2
     have q2 := q H2 s12
     cases e2 : j8 b with
     | false =>
      have no : jt (.tup [a, b, c]) = false := by
       cases c <;> first | rfl | (show (j8 a && j8 b) = false; rw [e1, e2]; rfl)
      rw [no] at q2
      exact ⟨false, rfl, uo q2⟩
     | true =>
      refine ⟨true, rfl, uh ?_⟩
      refine ⟨_, rfl, p, _, (2 : Int), _, rfl, rfl, SqT.of (s12 _ _ hp), rfl, _, "list", _, qo9 c, rfl, (r3.mono s12).ty, qp3 c, ?_⟩
      have yes : jt (.tup [a, b, c]) = qo9 c := by
       cases c <;> first | rfl | (show (j8 a && j8 b) = true; rw [e1, e2]; rfl)
      rw [yes] at q2
      exact q2
  | _ => exact uh (uh (q H fun _ _ z => z))
end
section
variable {P : Program} {w : World} {K : PySem.W.Frag} {mg : Str -> Option Value} {base : Heap}
theorem qs5 : (["sign"] : List Str).Nodup := by decide +kernel
noncomputable abbrev iswScope : Scope := j7 (Io (ug (nth (je (top 15)) 1)) 0)
theorem Ws : FnScope ["thing"] ["thing"] (qj (top 15)) := ⟨rfl, rfl, rfl, by decide +kernel, rfl, by decide +kernel, by decide +kernel⟩
set_option maxHeartbeats 4000000 in
theorem W4 (T : Txt mg) (k_LONGEST_WORD : ∃ t, mg "LONGEST_WORD" = some (.int 12 t)) (k_SIGNS : ∃ t, mg "SIGNS" = some (.str (Str.ofString "abcdefghijklmnopqrstuvwxyz0123456789") t)) (f : Addr) (fd : FuncData) (F : Fun K "is_word" "is_word" (top 15) f fd) : FnOk P w K mg base CX0 1 f fd ["thing"] (spG yc) := by
 refine F.ok Ws (fun vs H Q E h => ?_) (fun cdv A outer s H vs Q E hr h => ?_)
 ·obtain ⟨v, g, rfl, _⟩ := h; rfl
 ·obtain ⟨v, g, rfl, ag, q⟩ := h
  obtain ⟨t_LONGEST_WORD, m_LONGEST_WORD⟩ := k_LONGEST_WORD
  obtain ⟨t_SIGNS, m_SIGNS⟩ := k_SIGNS
  have co_isw : ∀ {X : Cx}, CompOk X iswScope (Dk X.env.cells iswScope.names []) ["sign"] [none] := jg rfl (by decide +kernel) (by decide +kernel) (by decide +kernel) rfl (by
    intro i hi x j e1 e2
    match i, hi, e1, e2 with
    | 0, _, e1, e2 => cases e2)
  refine ⟨_, (ql (jj (PW.pt (xx (jz (jq (qy (zm (K := K) rfl) (by rfl) T.isinstance PyProof.Rows.boot_isinstance (qb (pv 0) (qb (ju (v := .ty "str") rfl T.str PyProof.Rows.boot_str rfl) qi))))) (xu (jz (Mf Do Do qg (qy (xf (K := K) rfl) (by rfl) T.len PySem.boot_len (qb (pv 0) qi)) (Bw (v := .int 12) rfl m_LONGEST_WORD ⟨_, rfl⟩)))))) (qm (qx vq)) q8)
   (qm (qx (qy (Gg (K := K) rfl rfl) (by rfl) T.all PyProof.Rows.boot_all (qb (yg co_isw rfl (Q0 (K := K) rfl (pv 0)) (fun _ _ _ _ => (zq (i := 0) qs5 rfl (by first | exact Or.inl rfl | exact Or.inr rfl) (Or.inr rfl))) (fun _ _ _ _ => yt) (fun _ _ _ _ => (yr Nb (pv 0) (Bw (v := .str (Str.ofString "abcdefghijklmnopqrstuvwxyz0123456789")) rfl m_SIGNS ⟨_, rfl⟩) (by with_unfolding_all rfl)))) qi))))), ?_⟩
  generalize hsg : Str.ofString "abcdefghijklmnopqrstuvwxyz0123456789" = sg
  have esg : sg = GT.signs := hsg.symm
  refine ⟨_, rfl, _, "str", _, isStr g, rfl, ag.ty, qb2 g, isStr g, rfl, ?_⟩
  cases g with
  | str x =>
   obtain ⟨rfl, hx⟩ := ag.str_inv
   refine uo ?_
   have q0 : ∀ H', Same H H' -> Q (.bl (decide (1 <= x.length) && decide (x.length <= 12) && x.cps.toList.all qn7)) H' := q
   refine ⟨_, rfl, x, rfl, zu (by omega), _, _, rfl, rfl, _, rfl, vd (fun z1 => ?_) (fun z1 => ?_)⟩
   ·have z1 := of_decide_eq_true z1
    refine ⟨_, _, rfl, rfl, _, rfl, vd (fun z2 => ?_) (fun z2 => ?_)⟩
    ·have q0 := q0 H fun _ _ z => z
     rw [Bool.not_eq_true'] at z2
     have z2 : ¬ x.length <= 12 := fun y => of_decide_eq_false z2 (by omega)
     rw [decide_eq_false z2, Bool.and_false, Bool.false_and] at q0
     exact q0
    ·have z2 : x.length <= 12 := by
      have : ¬ (!decide ((x.length : Int) <= 12)) = true := z2
      rw [Bool.not_eq_true', Bool.not_eq_false, decide_eq_true_eq] at this
      omega
     refine ⟨_, rfl, x, rfl, fun acc hacc => ?_⟩
     refine Lz (x := x) (fun j σ1 H2 => ∃ (c1 : Option V), σ1 = [c1] /\ Same H H2 /\ j <= 12 /\ H2 acc = some (.lst (((x.cps.toList.take j).map qn7).map V.bl)))
      ⟨none, rfl, Same.upd_new hacc, Nat.zero_le _, qd⟩ ?_ ?_
     ·intro j c σ1 H2 hj hI
      refine Qn hI fun c1 hJ => ?_
      have eI := hJ.1
      have s2 := hJ.2.1
      have j2 := hJ.2.2.1
      have h2 := hJ.2.2.2
      clear hI hJ
      subst eI
      have hjl : j < x.length := (Array.getElem?_eq_some_iff.mp hj).1
      have hjc : x.cps.toList[j]? = some c := by rw [Array.getElem?_toList]; exact hj
      dsimp only [yf]
      rw [if_pos rfl]
      refine ⟨_, rfl, _, sg, rfl, rfl, ?_⟩
      rw [esg]
      refine ⟨_, h2, zz (by rw [List.length_map, List.length_map, List.length_take]; omega), _, rfl, fun b o e => ?_, by omega, ?_⟩
      ·rw [qt (qz e hacc)]
       exact s2 _ _ e
      ·rw [qd, List.take_add_one, hjc, List.map_append, List.map_append]
       rfl
     intro σ1 H2 hI
     refine Qn hI fun c1 hJ => ?_
     have s2 := hJ.2.1
     have h2 := hJ.2.2.2
     have h2 : H2 acc = some (.lst ((x.cps.toList.map qn7).map V.bl)) := by
      rw [h2]
      congr 4
      exact List.take_of_length_le (by show x.cps.toList.length <= x.cps.size; rw [Array.length_toList]; exact Nat.le_refl _)
     have q2 := q0 H2 s2
     rw [decide_eq_true (by omega : 1 <= x.length), decide_eq_true z2, Bool.true_and, Bool.true_and] at q2
     refine qc0 h2 ?_
     have e : (x.cps.toList.map qn7).all id = x.cps.toList.all qn7 := by rw [List.all_map]; rfl
     rw [e]
     exact q2
   ·have z1 : ¬ 1 <= x.length := fun y => z1 (decide_eq_true (by omega))
    have q0 := q0 H fun _ _ z => z
    rw [decide_eq_false z1, Bool.false_and, Bool.false_and] at q0
    exact ⟨false, rfl, uh q0⟩
  | _ => exact uh (uh (q H fun _ _ z => z))
theorem qt9 : (["part"] : List Str).Nodup := by decide +kernel
noncomputable abbrev arwScope : Scope := j7 (Io (ug (nth (je (top 14)) 1)) 0)
theorem Ot : FnScope ["thing"] ["thing"] (qj (top 14)) := ⟨rfl, rfl, rfl, by decide +kernel, rfl, by decide +kernel, by decide +kernel⟩
set_option maxHeartbeats 4000000 in
theorem Nv (T : Txt mg) (k_MOST_WORDS : ∃ t, mg "MOST_WORDS" = some (.int 12 t)) (c_is_word : Cal P w K mg base 1 "is_word" ["thing"] (spG yc)) (f : Addr) (fd : FuncData) (F : Fun K "are_words" "are_words" (top 14) f fd) : FnOk P w K mg base CX0 2 f fd ["thing"] (spG xq) := by
 refine F.ok Ot (fun vs H Q E h => ?_) (fun cdv A outer s H vs Q E hr h => ?_)
 ·obtain ⟨v, g, rfl, _⟩ := h; rfl
 ·obtain ⟨v, g, rfl, ag, q⟩ := h
  obtain ⟨t_MOST_WORDS, m_MOST_WORDS⟩ := k_MOST_WORDS
  have hr_is_word : Room 1 (A.deeper (envOfC "are_words" (qj (top 14)) s.heap.objs.size f cdv)) := hr.mono (by decide)
  have co_arw : ∀ {X : Cx}, CompOk X arwScope (Dk X.env.cells arwScope.names []) ["part"] [none] := jg rfl (by decide +kernel) (by decide +kernel) (by decide +kernel) rfl (by
    intro i hi x j e1 e2
    match i, hi, e1, e2 with
    | 0, _, e1, e2 => cases e2)
  refine ⟨_, (ql (jj (PW.pt (xx (jz (jq (qy (zm (K := K) rfl) (by rfl) T.isinstance PyProof.Rows.boot_isinstance (qb (pv 0) (qb (ju (v := .ty "tuple") rfl T.tuple PyProof.Rows.boot_tuple rfl) qi))))) (xu (za Iv (qy (jm (K := K) rfl) (by rfl) T.len PySem.boot_len (qb (pv 0) qi)) (Bw (v := .int 12) rfl m_MOST_WORDS ⟨_, rfl⟩) (zc _))))) (qm (qx vq)) q8)
   (qm (qx (qy (Gg (K := K) rfl rfl) (by rfl) T.all PyProof.Rows.boot_all (qb (yg co_arw rfl (Gk (K := K) rfl (pv 0)) (fun _ _ _ _ => (zq (i := 0) qt9 rfl (by first | exact Or.inl rfl | exact Or.inr rfl) (Or.inr rfl))) (fun _ _ _ _ => yt) (fun _ _ _ _ => (qu c_is_word hr_is_word rfl (qb (pv 0) qi)))) qi))))), ?_⟩
  refine ⟨_, rfl, _, "tuple", _, isTup g, rfl, ag.ty, Qy g, isTup g, rfl, ?_⟩
  cases g with
  | tup ds =>
   obtain ⟨t, xs, rfl, ht, rx⟩ := ag.tup_inv
   have lx := rx.length
   have q0 : ∀ H', Same H H' -> Q (.bl (decide (ds.length <= 12) && ds.all yc)) H' := q
   refine uo ?_
   refine ⟨_, rfl, t, _, rfl, .inr (SqT.of ht), _, _, rfl, rfl, _, rfl, vd (fun z => ?_) (fun z => ?_)⟩
   ·have z := of_decide_eq_true z
    have q0 := q0 H fun _ _ z => z
    rw [decide_eq_false (by omega), Bool.false_and] at q0
    exact q0
   have z : ds.length <= 12 := Classical.byContradiction fun y => z (decide_eq_true (by omega))
   refine ⟨_, rfl, t, rfl, ⟨_, SqT.of ht⟩, fun acc hacc => ?_⟩
   refine Gb (K := K) (a := t) (xs := xs) (fun j σ1 H2 => ∃ (c1 : Option V), σ1 = [c1] /\ Same H H2 /\ H2 acc = some (.lst (((ds.take j).map yc).map V.bl)))
    ⟨none, rfl, Same.upd_new hacc, qd⟩ (fun j σ1 H2 _ ⟨_, _, s2, _⟩ => SqT.of (s2 _ _ ht)) ?_ ?_
   ·intro j x σ1 H2 hj hI
    refine Qn hI fun c1 hJ => ?_
    have eI := hJ.1
    have s2 := hJ.2.1
    have h2 := hJ.2.2
    clear hI hJ
    subst eI
    have hjl := (List.getElem?_eq_some_iff.mp hj).1
    obtain ⟨d, hd, ad⟩ := Paired.get2 rx hj
    dsimp only [yf]
    rw [if_pos rfl]
    refine ⟨_, rfl, x, d, rfl, ad.mono s2, fun H3 s3 => ?_⟩
    refine ⟨_, s3 _ _ h2, zz (by rw [List.length_map, List.length_map, List.length_take]; omega), _, rfl, fun b o e => ?_, ?_⟩
    ·rw [qt (qz e hacc)]
     exact s3 _ _ (s2 _ _ e)
    ·rw [qd, List.take_add_one, hd, List.map_append, List.map_append]
     rfl
   intro σ1 H2 hI
   refine Qn hI fun c1 hJ => ?_
   have s2 := hJ.2.1
   have h2 := hJ.2.2
   rw [← lx, List.take_length] at h2
   have q2 := q0 H2 s2
   rw [decide_eq_true z, Bool.true_and] at q2
   refine qc0 h2 ?_
   have e : (ds.map yc).all id = ds.all yc := by rw [List.all_map]; rfl
   rw [e]
   exact q2
  | _ => exact uh (uh (q H fun _ _ z => z))
end
theorem qd0 {a b c d e : Thg} (h : ([a, b, c, d].map Am).all id = false) : jw (.tup [a, b, c, d, e]) = false := by
 unfold jw
 split
 ·rename_i heq
  injection heq with heq
  simp only [List.cons.injEq, and_true] at heq
  obtain ⟨rfl, rfl, rfl, rfl, rfl⟩ := heq
  cases h
 ·rfl
theorem qn3 {a b c d : Thg} (h : ([a, b, c, d].map Am).all id = true) : ∃ i j k l, a = .int i /\ b = .int j /\ c = .int k /\ d = .int l := by
 simp only [List.map_cons, List.map_nil, List.all_cons, List.all_nil, id, Bool.and_true, Bool.and_eq_true] at h
 obtain ⟨h1, h2, h3, h4⟩ := h
 have n : ∀ {g : Thg}, Am g = true -> ∃ i, g = .int i := fun {g} z => by cases g <;> first | exact ⟨_, rfl⟩ | cases z
 obtain ⟨i, rfl⟩ := n h1
 obtain ⟨j, rfl⟩ := n h2
 obtain ⟨k, rfl⟩ := n h3
 obtain ⟨l, rfl⟩ := n h4
 exact ⟨i, j, k, l, rfl, rfl, rfl, rfl⟩
section
variable {P : Program} {w : World} {K : PySem.W.Frag} {mg : Str -> Option Value} {base : Heap}
theorem qv1 : (["part"] : List Str).Nodup := by decide +kernel
noncomputable abbrev icnScope : Scope := j7 (Io (operandOf (qk5 (nth (je (top 13)) 1))) 0)
theorem Wz : FnScope ["thing"] ["thing"] (qj (top 13)) := ⟨rfl, rfl, rfl, by decide +kernel, rfl, by decide +kernel, by decide +kernel⟩
set_option maxHeartbeats 4000000 in
theorem Xd (T : Txt mg) (c_is_number : Cal P w K mg base 1 "is_number" ["thing"] (spG Am)) (c_are_words : Cal P w K mg base 2 "are_words" ["thing"] (spG xq)) (f : Addr) (fd : FuncData) (F : Fun K "is_cell" "is_cell" (top 13) f fd) : FnOk P w K mg base CX0 3 f fd ["thing"] (spG jw) := by
 refine F.ok Wz (fun vs H Q E h => ?_) (fun cdv A outer s H vs Q E hr h => ?_)
 ·obtain ⟨v, g, rfl, _⟩ := h; rfl
 ·obtain ⟨v, g, rfl, ag, q⟩ := h
  have hr_is_number : Room 1 (A.deeper (envOfC "is_cell" (qj (top 13)) s.heap.objs.size f cdv)) := hr.mono (by decide)
  have hr_are_words : Room 2 (A.deeper (envOfC "is_cell" (qj (top 13)) s.heap.objs.size f cdv)) := hr.mono (by decide)
  have co_icn : ∀ {X : Cx}, CompOk X icnScope (Dk X.env.cells icnScope.names []) ["part"] [none] := jg rfl (by decide +kernel) (by decide +kernel) (by decide +kernel) rfl (by
    intro i hi x j e1 e2
    match i, hi, e1, e2 with
    | 0, _, e1, e2 => cases e2)
  refine ⟨_, (ql (jj (PW.pt (xx (jz (jq (qy (zm (K := K) rfl) (by rfl) T.isinstance PyProof.Rows.boot_isinstance (qb (pv 0) (qb (ju (v := .ty "tuple") rfl T.tuple PyProof.Rows.boot_tuple rfl) qi))))) (xu (za Z5 (qy (jm (K := K) rfl) (by rfl) T.len PySem.boot_len (qb (pv 0) qi)) qg (zc _))))) (qm (qx vq)) q8)
   (ql (jj (jz (jq (qy (Gg (K := K) rfl rfl) (by rfl) T.all PyProof.Rows.boot_all (qb (yg co_icn rfl (Gk (K := K) rfl (zb (By (K := K) rfl) (pv 0) jd (zp qg))) (fun _ _ _ _ => (zq (i := 0) qv1 rfl (by first | exact Or.inl rfl | exact Or.inr rfl) (Or.inr rfl))) (fun _ _ _ _ => yt) (fun _ _ _ _ => (qu c_is_number hr_is_number rfl (qb (pv 0) qi)))) qi)))) (qm (qx vq)) q8)
   (ql (jj (PW.pt (xx (za Mi (zg (qp (K := K) rfl) (pv 0) qg (fun _ _ => rfl)) qg (zc _)) (xx (za Mi (zg (qp (K := K) rfl) (pv 0) qg (fun _ _ => rfl)) qg (zc _)) (xx (za Mi (zg (qp (K := K) rfl) (pv 0) qg (fun _ _ => rfl)) qg (zc _)) (xu (za Mi (zg (qp (K := K) rfl) (pv 0) qg (fun _ _ => rfl)) qg (zc _))))))) (qm (qx vq)) q8)
   (qm (qx (qu c_are_words hr_are_words rfl (qb (zg (qp (K := K) rfl) (pv 0) qg (fun _ _ => rfl)) qi))))))), ?_⟩
  refine ⟨_, rfl, _, "tuple", _, isTup g, rfl, ag.ty, Qy g, isTup g, rfl, ?_⟩
  cases g with
  | tup ds =>
   obtain ⟨t, xs, rfl, ht, rx⟩ := ag.tup_inv
   have lx := rx.length
   refine uo ?_
   refine ⟨_, rfl, t, _, rfl, .inr (SqT.of ht), rfl, _, rfl, vd (fun z => ?_) (fun z => ?_)⟩
   ·have z := qk7 z
    have q0 := q H fun _ _ z => z
    rw [qc4 (by omega)] at q0
    exact q0
   have z := len_eq z
   obtain ⟨a, b, c, d, e, rfl⟩ := qa8 (l := ds) (by omega)
   obtain ⟨xa, xb, xc, xd, xe, rfl⟩ := qa8 (l := xs) (by omega)
   have r4 : AtGL H [a, b, c, d] [xa, xb, xc, xd] := by
    cases rx with
    | cons r1 rx =>
    cases rx with
    | cons r2 rx =>
    cases rx with
    | cons r3 rx =>
    cases rx with
    | cons r4 rx => exact .cons r1 (.cons r2 (.cons r3 (.cons r4 .nil)))
   have re : AtG H e xe := by
    cases rx with
    | cons r1 rx =>
    cases rx with
    | cons r2 rx =>
    cases rx with
    | cons r3 rx =>
    cases rx with
    | cons r4 rx =>
    cases rx with
    | cons r5 rx => exact r5
   refine ⟨_, rfl, _, rfl, t, _, rfl, SqT.of ht, (fun z => absurd z.2 (by show ¬ HT.sIx 5 5 (some 4) = 5; decide)), fun p hp => ⟨p, rfl, ⟨_, SqT.of qd⟩, fun acc hacc => ?_⟩⟩
   have s1 : Same H (upd H p (.tup (vm [xa, xb, xc, xd, xe] none (some 4)))) := Same.upd_new hp
   have k1 : upd H p (.tup (vm [xa, xb, xc, xd, xe] none (some 4))) p = some (.tup [xa, xb, xc, xd]) := qd
   generalize hH1 : upd H p (.tup (vm [xa, xb, xc, xd, xe] none (some 4))) = H1 at *
   refine Gb (K := K) (a := p) (xs := [xa, xb, xc, xd]) (fun j σ1 H2 => ∃ (c1 : Option V), σ1 = [c1] /\ Same H1 H2 /\ H2 acc = some (.lst ((([a, b, c, d].take j).map Am).map V.bl)))
    ⟨none, rfl, Same.upd_new hacc, qd⟩ (fun j σ1 H2 _ ⟨_, _, s2, _⟩ => SqT.of (s2 _ _ k1)) ?_ ?_
   ·intro j y σ1 H2 hj hI
    refine Qn hI fun c1 hJ => ?_
    have eI := hJ.1
    have s2 := hJ.2.1
    have h2 := hJ.2.2
    clear hI hJ
    subst eI
    have hjl : j < 4 := (List.getElem?_eq_some_iff.mp hj).1
    obtain ⟨d', hd, ad⟩ := Paired.get2 r4 hj
    dsimp only [yf]
    rw [if_pos rfl]
    refine ⟨_, rfl, y, d', rfl, ad.mono (s1.trans s2), fun H3 s3 => ?_⟩
    refine ⟨_, s3 _ _ h2, zz (by rw [List.length_map, List.length_map, List.length_take]; omega), _, rfl, fun b' o e => ?_, ?_⟩
    ·rw [qt (qz e hacc)]
     exact s3 _ _ (s2 _ _ e)
    ·rw [qd, List.take_add_one, hd, List.map_append, List.map_append]
     rfl
   intro σ1 H2 hI
   refine Qn hI fun c1 hJ => ?_
   have s2 := hJ.2.1
   have h2 : H2 acc = some (.lst (([a, b, c, d].map Am).map V.bl)) := hJ.2.2
   clear hI hJ
   unfold Tz
   refine qc0 h2 ?_
   have s12 := s1.trans s2
   refine ⟨_, rfl, ?_⟩
   cases en : ([a, b, c, d].map Am).all id with
   | false =>
    have q2 := q H2 s12
    rw [qd0 en] at q2
    exact uh q2
   | true =>
    refine uo ?_
    obtain ⟨i, j, k, l, rfl, rfl, rfl, rfl⟩ := qn3 en
    have ea : xa = .int i /\ xb = .int j /\ xc = .int k /\ xd = .int l := by
     cases r4 with
     | cons r1 r4 =>
     cases r4 with
     | cons r2 r4 =>
     cases r4 with
     | cons r3 r4 =>
     cases r4 with
     | cons r5 r4 => exact ⟨r1.int_inv, r2.int_inv, r3.int_inv, r5.int_inv⟩
    obtain ⟨rfl, rfl, rfl, rfl⟩ := ea
    have hb2 := s12 _ _ ht
    have q0 : ∀ H', Same H H' -> Q (.bl (decide (0 <= i) && decide (0 <= j) && decide (1 <= k) && decide (1 <= l) && xq e)) H' := q
    have q2 := q0 H2 s12
    refine ⟨_, rfl, t, _, (0 : Int), _, rfl, rfl, SqT.of hb2, rfl, _, _, rfl, rfl, _, rfl, vd (fun z => ?_) (fun z1 => ?_)⟩
    ·rw [decide_eq_false (by have := of_decide_eq_true z; omega)] at q2
     exact uh q2
    refine ⟨_, rfl, t, _, (1 : Int), _, rfl, rfl, SqT.of hb2, rfl, _, _, rfl, rfl, _, rfl, vd (fun z => ?_) (fun z2 => ?_)⟩
    ·rw [decide_eq_false (by have := of_decide_eq_true z; omega : ¬ 0 <= j), Bool.and_false] at q2
     exact q2
    refine ⟨_, rfl, t, _, (2 : Int), _, rfl, rfl, SqT.of hb2, rfl, _, _, rfl, rfl, _, rfl, vd (fun z => ?_) (fun z3 => ?_)⟩
    ·rw [decide_eq_false (by have := of_decide_eq_true z; omega : ¬ 1 <= k), Bool.and_false] at q2
     exact q2
    refine ⟨_, rfl, t, _, (3 : Int), _, rfl, rfl, SqT.of hb2, rfl, _, _, rfl, rfl, _, rfl, vd (fun z => ?_) (fun z4 => ?_)⟩
    ·rw [decide_eq_false (by have := of_decide_eq_true z; omega : ¬ 1 <= l), Bool.and_false] at q2
     exact q2
    refine ⟨_, rfl, t, _, (4 : Int), _, rfl, rfl, SqT.of hb2, rfl, xe, e, rfl, re.mono s12, fun H3 s3 => ?_⟩
    have q3 := q0 H3 (s12.trans s3)
    rw [decide_eq_true (Int.not_lt.mp fun y => z1 (decide_eq_true y) : 0 <= i), decide_eq_true (Int.not_lt.mp fun y => z2 (decide_eq_true y) : 0 <= j), decide_eq_true (Int.not_lt.mp fun y => z3 (decide_eq_true y) : 1 <= k), decide_eq_true (Int.not_lt.mp fun y => z4 (decide_eq_true y) : 1 <= l)] at q3
    exact q3
  | _ => exact uh (uh (q H fun _ _ z => z))
theorem Ly : FnScope ["cell", "rows", "columns"] ["cell", "rows", "columns"] (qj (top 16)) := ⟨rfl, rfl, rfl, by decide +kernel, rfl, by decide +kernel, by decide +kernel⟩
set_option maxHeartbeats 4000000 in
theorem Lg (f : Addr) (fd : FuncData) (F : Fun K "sticks_out" "sticks_out" (top 16) f fd) : FnOk P w K mg base CX0 1 f fd ["cell", "rows", "columns"] Jt := by
 refine F.ok Ly (fun vs H Q E h => ?_) (fun cdv A outer s H vs Q E hr h => ?_)
 ·obtain ⟨v, x, R, C, rfl, _⟩ := h; rfl
 ·obtain ⟨v, x, R, C, rfl, hx, q⟩ := h
  obtain ⟨b, wb, rfl, hb, hwb⟩ := ut hx
  refine ⟨_, (qm (qx (qy8 (yr Iv (qw zr (zg (qp (K := K) rfl) (pv 0) qg (fun _ _ => rfl)) (zg (qp (K := K) rfl) (pv 0) qg (fun _ _ => rfl))) (pv 1) (zc _)) (Br (yr Iv (qw zr (zg (qp (K := K) rfl) (pv 0) qg (fun _ _ => rfl)) (zg (qp (K := K) rfl) (pv 0) qg (fun _ _ => rfl))) (pv 2) (zc _)))))), ?_⟩
  refine ⟨_, rfl, b, _, (0 : Int), _, rfl, rfl, SqT.of hb, rfl, _, rfl, b, _, (2 : Int), _, rfl, rfl, SqT.of hb, rfl, _, _, rfl, rfl, _, rfl, _, _, rfl, rfl, _, rfl, vd (fun z => ?_) (fun z => ?_)⟩
  ·have z := of_decide_eq_true z
   rw [decide_eq_true (.inl (by omega))] at q
   exact q
  have z : ¬ _ := fun y => z (decide_eq_true y)
  refine ⟨_, rfl, b, _, (1 : Int), _, rfl, rfl, SqT.of hb, rfl, _, rfl, b, _, (3 : Int), _, rfl, rfl, SqT.of hb, rfl, _, _, rfl, rfl, _, rfl, _, _, rfl, rfl, ?_⟩
  dsimp only
  have e : decide ((C : Int) < (x.left : Int) + (x.w : Int)) = decide (R < x.top + x.h \/ C < x.left + x.w) := decide_eq_decide.mpr ⟨fun y => .inr (by omega), fun y => y.elim (fun y => absurd (by omega) z) fun y => by omega⟩
  rw [e]
  exact q
theorem Iz : FnScope ["cell"] ["cell"] (qj (top 17)) := ⟨rfl, rfl, rfl, by decide +kernel, rfl, by decide +kernel, by decide +kernel⟩
set_option maxHeartbeats 4000000 in
theorem Ip (f : Addr) (fd : FuncData) (F : Fun K "first_place" "first_place" (top 17) f fd) : FnOk P w K mg base CX0 1 f fd ["cell"] Tw := by
 refine F.ok Iz (fun vs H Q E h => ?_) (fun cdv A outer s H vs Q E hr h => ?_)
 ·obtain ⟨v, x, rfl, _⟩ := h; rfl
 ·obtain ⟨v, x, rfl, hx, q⟩ := h
  obtain ⟨b, wb, rfl, hb, hwb⟩ := ut hx
  refine ⟨_, (qm (qx (yx (qb (zg (qp (K := K) rfl) (pv 0) qg (fun _ _ => rfl)) (qb (zg (qp (K := K) rfl) (pv 0) qg (fun _ _ => rfl)) qi))))), ?_⟩
  exact ⟨_, rfl, b, _, (0 : Int), _, rfl, rfl, SqT.of hb, rfl, _, rfl, b, _, (1 : Int), _, rfl, rfl, SqT.of hb, rfl, by show 2 <= sizeLine; decide, fun t ht => q t _ (Same.upd_new ht) qd⟩
end
end KL
namespace KL
open PySem L2 GT PyProof.Rows
noncomputable def Jp : Sp := fun vs H Q _ => ∃ (v : V) (x : Cell), vs = [v] /\ At H x.D v /\ x.top <= 100 /\ x.left <= 100 /\ x.h <= 17 /\ x.w <= 17 /\
 ∀ (r : Addr) (xs : List V) (H' : Hp), Same H H' -> H' r = some (.lst xs) -> AtL H' ((List.range (x.h * x.w)).map (An x)) xs -> Q (.ref r) H'
section
variable {P : Program} {w : World} {K : PySem.W.Frag} {mg : Str -> Option Value} {base : Heap}
theorem qr7 : (["column", "row"] : List Str).Nodup := by decide +kernel
noncomputable abbrev qe8 : Scope := j7 (Io (ug (nth (bodyOf (nth (je (top 18)) 1)) 0)) 0)
theorem sc_places : FnScope ["cell", "found", "row"] ["cell"] (qj (top 18)) := ⟨rfl, rfl, rfl, by decide +kernel, rfl, by decide +kernel, by decide +kernel⟩
set_option maxHeartbeats 4000000 in
theorem Zg (T : Txt mg) (f : Addr) (fd : FuncData) (F : Fun K "places" "places" (top 18) f fd) : FnOk P w K mg base CX0 1 f fd ["cell"] Jp := by
 refine F.ok sc_places (fun vs H Q E h => ?_) (fun cdv A outer s H vs Q E hr h => ?_)
 ·obtain ⟨v, x, rfl, _⟩ := h; rfl
 ·obtain ⟨v, x, rfl, hx, b1, b2, b3, b4, q⟩ := h
  obtain ⟨a, wb, ws, rfl, ha, hwb, aw⟩ := Cell.at_inv hx
  have co_plc := Dg (X := (uq CX0 P w K mg base ["cell", "found", "row"] "places" (qj (top 18)) f cdv A outer s H E).nox) (N1 := ["column", "row"]) (cap := [none, some 2]) (scope := qe8) (sc := qj (top 18)) (s.heap.objs.size + 1) rfl rfl rfl
   (by decide +kernel) (by decide +kernel) (by decide +kernel) rfl (by
    intro i hi x j e1 e2
    match i, hi, e1, e2 with
    | 0, _, e1, e2 => cases e2
    | 1, _, e1, e2 => cases e1; cases e2; exact ⟨rfl, rfl, rfl⟩)
  have eh : ((x.top : Int) + (x.h : Int) - (x.top : Int)).toNat = x.h := by omega
  have ew : ((x.left : Int) + (x.w : Int) - (x.left : Int)).toNat = x.w := by omega
  refine ⟨_, (ql (zf (i := 1) sc_places.nd rfl (by first | exact Or.inl rfl | exact Or.inr rfl) (Bl qi))
   (ql (xj PassesOwn.never rfl (yo rfl T.range (qb (zg (qp (K := K) rfl) (pv 0) qg (fun _ _ => rfl)) (qb (qw zr (zg (qp (K := K) rfl) (pv 0) qg (fun _ _ => rfl)) (zg (qp (K := K) rfl) (pv 0) qg (fun _ _ => rfl))) qi))) (zq (i := 2) sc_places.nd rfl (by first | exact Or.inl rfl | exact Or.inr rfl)) (qm (Gx (j6 (K := K) rfl PySem.F.plainAttrs_list PySem.F.slot_list_extend PySem.F.type_list_extend Yx (pv 1) (qb (yg co_plc rfl (yo rfl T.range (qb (zg (qp (K := K) rfl) (pv 0) qg (fun _ _ => rfl)) (qb (qw zr (zg (qp (K := K) rfl) (pv 0) qg (fun _ _ => rfl)) (zg (qp (K := K) rfl) (pv 0) qg (fun _ _ => rfl))) qi))) (fun _ _ _ _ => (zq (i := 0) qr7 rfl (by first | exact Or.inl rfl | exact Or.inr rfl) (Or.inr rfl))) (fun _ _ _ _ => yt) (fun _ _ _ _ => (yx (qb (pv 1) (qb (pv 0) qi))))) qi)))))
   (qm (qx (pv 1))))), ?_⟩
  refine ⟨by show 0 <= sizeLine; decide, fun l hl => ?_⟩
  have s1 := Same.upd_new (o := .lst []) hl
  have ha1 := s1 _ _ ha
  refine ⟨_, rfl, a, _, (0 : Int), _, rfl, rfl, SqT.of ha1, rfl, _, rfl, a, _, (0 : Int), _, rfl, rfl, SqT.of ha1, rfl, _, rfl, a, _, (2 : Int), _, rfl, rfl, SqT.of ha1, rfl, _, _, rfl, rfl, (x.top : Int), (x.top : Int) + (x.h : Int), rfl, ⟨by omega, by omega, by omega, by omega⟩, ?_⟩
  rw [eh]
  refine jx (n := x.h) (fun i σ H2 => ∃ (row : Option V) (xs : List V), σ = [some (.ref a), some (.ref l), row] /\ Same H H2 /\ H2 l = some (.lst xs) /\ AtL H2 ((List.range (i * x.w)).map (An x)) xs)
   ⟨none, [], rfl, s1, qd, by rw [Nat.zero_mul]; exact .nil⟩ ?_ ?_
  ·intro i σ H2 hi hI
   refine Il hI fun row xs hJ => ?_
   have eI := hJ.1
   have s2 := hJ.2.1
   have h2l := hJ.2.2.1
   have a2 := hJ.2.2.2
   clear hI hJ
   subst eI
   have ha2 := s2 _ _ ha
   refine ⟨_, rfl, .inl ⟨rfl, _, SqL.of h2l⟩, _, rfl, a, _, (1 : Int), _, rfl, rfl, SqT.of ha2, rfl, _, rfl, a, _, (1 : Int), _, rfl, rfl, SqT.of ha2, rfl, _, rfl, a, _, (3 : Int), _, rfl, rfl, SqT.of ha2, rfl, _, _, rfl, rfl, (x.left : Int), (x.left : Int) + (x.w : Int), rfl, ⟨by omega, by omega, by omega, by omega⟩, fun acc hacc => ?_⟩
   rw [ew]
   refine Di (lo := (x.left : Int)) (n := x.w) (fun j σ1 H3 => ∃ (col : Option V) (ys : List V), σ1 = [col, some (.int ((x.top : Int) + (i : Int)))] /\ Same H2 H3 /\ H3 acc = some (.lst ys) /\ AtL H3 ((List.range j).map (fun (j : Nat) => Dd.tup [.int ((x.top + i : Nat) : Int), .int ((x.left + j : Nat) : Int)])) ys)
    ⟨none, [], rfl, Same.upd_new hacc, qd, .nil⟩ ?_ ?_
   ·intro j σ1 H3 hj hI
    refine Il hI fun col ys hJ => ?_
    have eI := hJ.1
    have s3 := hJ.2.1
    have h3 := hJ.2.2.1
    have a3 := hJ.2.2.2
    clear hI hJ
    subst eI
    have e1 : (x.top : Int) + (i : Int) = ((x.top + i : Nat) : Int) := by simp
    have e2 : (x.left : Int) + (j : Int) = ((x.left + j : Nat) : Int) := by simp
    dsimp only [yf]
    rw [if_pos rfl]
    refine ⟨_, rfl, _, rfl, by show 2 <= sizeLine; decide, fun p hp => ⟨ys, ?_, ?_, ?_⟩⟩
    ·exact (Same.upd_new hp) _ _ h3
    ·have := a3.length
     rw [List.length_map, List.length_range] at this
     exact zz (by omega)
    ·rw [e1, e2] at *
     have s4 := Same.upd_new (o := .tup [.int ((x.top + i : Nat) : Int), .int ((x.left + j : Nat) : Int)]) hp
     generalize hH4 : upd H3 p (.tup [.int ((x.top + i : Nat) : Int), .int ((x.left + j : Nat) : Int)]) = H4 at *
     have p4 : H4 p = some (.tup [.int ((x.top + i : Nat) : Int), .int ((x.left + j : Nat) : Int)]) := by rw [← hH4]; exact qd
     have t5 : SameT H4 (upd H4 acc (.lst (ys ++ [.ref p]))) := SameT.put (s4 _ _ h3)
     refine ⟨_, ys ++ [.ref p], rfl, fun b o e => ?_, qd, ?_⟩
     ·rw [qt (qz e hacc)]
      exact s4 _ _ (s3 _ _ e)
     ·rw [List.range_succ, List.map_append]
      refine Paired.snoc' ((a3.mono s4).monoT (fun d hd => ?_) t5) (.tup (t5 _ _ p4) (.cons (.int _) (.cons (.int _) .nil)))
      obtain ⟨k, _, rfl⟩ := List.mem_map.mp hd
      exact .tup fun d hd => by
       simp only [List.mem_cons, List.mem_nil_iff, or_false] at hd
       rcases hd with rfl | rfl
       ·exact .int _
       ·exact .int _
   ·intro σ1 H3 hI
    refine Il hI fun col ys hJ => ?_
    have eI := hJ.1
    have s3 := hJ.2.1
    have h3 := hJ.2.2.1
    have a3 := hJ.2.2.2
    clear hI hJ
    subst eI
    have h3l := s3 _ _ h2l
    have ly := a3.length
    have lx := a2.length
    rw [List.length_map, List.length_range] at ly lx
    have hm : i * x.w <= 17 * 17 := Nat.mul_le_mul (by omega) b4
    refine ⟨l, acc, xs, ys, rfl, rfl, h3l, h3, Nat.le_of_lt (zz (by omega)), ?_⟩
    have t5 : SameT H3 (upd H3 l (.lst (xs ++ ys))) := SameT.put h3l
    refine ⟨_, xs ++ ys, rfl, fun b o e => ?_, qd, ?_⟩
    ·rw [qt (qz e hl)]
     exact s3 _ _ (s2 _ _ e)
    ·rw [← Wu]
     refine Paired.app ((a2.mono s3).monoT (Xj _ _) t5) (a3.monoT (fun d hd => ?_) t5)
     obtain ⟨k, _, rfl⟩ := List.mem_map.mp hd
     exact .tup fun d hd => by
      simp only [List.mem_cons, List.mem_nil_iff, or_false] at hd
      rcases hd with rfl | rfl
      ·exact .int _
      ·exact .int _
  ·intro σ H2 hI
   refine Il hI fun row xs hJ => ?_
   have eI := hJ.1
   have s2 := hJ.2.1
   have h2l := hJ.2.2.1
   have a2 := hJ.2.2.2
   clear hI hJ
   subst eI
   exact ⟨_, rfl, q l xs H2 s2 h2l a2⟩
end
theorem Ua {r c r' c' : Nat} (h : pl r c = pl r' c') : r = r' /\ c = c' := by
 unfold pl at h
 injection h with h1 h
 injection h with h2 _
 injection h1 with h1
 injection h2 with h2
 exact ⟨by omega, by omega⟩
structure Kv (R C : Nat) (kv : List (List Key × V)) (S : Nat -> Nat -> Prop) : Prop where
  nd : (kv.map (·.1)).Nodup
  inn : ∀ k ∈ kv.map (·.1), ∃ r c, k = pl r c /\ r < R /\ c < C
  val : ∀ r c, wk kv (pl r c) ≠ none ↔ S r c
theorem val_none {kv : List (List Key × V)} {k : List Key} : wk kv k = none ↔ k ∉ kv.map (·.1) := by
 unfold wk
 rw [Option.map_eq_none_iff, List.find?_eq_none]
 constructor
 ·intro h hm
  obtain ⟨x, hx, rfl⟩ := List.mem_map.mp hm
  exact h x hx (decide_eq_true rfl)
 ·intro h x hx z
  exact h (List.mem_map.mpr ⟨x, hx, of_decide_eq_true z⟩)
theorem Kv.put {R C r c : Nat} {kv : List (List Key × V)} {S : Nat -> Nat -> Prop} (h : Kv R C kv S) (n : ¬ S r c) (hr : r < R) (hc : c < C) (v : V) : putK kv (pl r c) v = kv ++ [(pl r c, v)] /\ Kv R C (putK kv (pl r c) v) (fun r' c' => S r' c' \/ (r' = r /\ c' = c)) := by
 have hv : wk kv (pl r c) = none := by
  cases e : wk kv (pl r c) with
  | none => rfl
  | some o => exact absurd ((h.val r c).mp (by rw [e]; simp)) n
 have e := qh7 v hv
 refine ⟨e, ?_⟩
 have nm := val_none.mp hv
 refine ⟨?_, fun k hk => ?_, fun r' c' => ?_⟩
 ·rw [e, List.map_append]
  refine List.nodup_append.mpr ⟨h.nd, by simp, fun a ha b hb z => ?_⟩
  have : b = pl r c := by simpa using hb
  rw [this] at z
  rw [z] at ha
  exact nm ha
 ·rw [e, List.map_append] at hk
  rcases List.mem_append.mp hk with hk | hk
  ·exact h.inn k hk
  ·have : k = pl r c := by simpa using hk
   exact ⟨r, c, this, hr, hc⟩
 ·rw [Wf]
  by_cases z : pl r' c' = pl r c
  ·rw [if_pos z]
   have := Ua z
   exact ⟨fun _ => .inr this, fun _ => by simp⟩
  ·rw [if_neg z, h.val]
   exact ⟨fun q => .inl q, fun q => q.elim id fun q => absurd (by rw [q.1, q.2]) z⟩
theorem kj {α : Type} : ∀ {l m : List α}, l.Nodup -> (∀ x ∈ l, x ∈ m) -> l.length <= m.length
 | [], m, _, _ => Nat.zero_le _
 | a :: l, m, h, s => by
  obtain ⟨h1, h2⟩ := List.nodup_cons.mp h
  obtain ⟨m1, m2, e⟩ := List.append_of_mem (s a List.mem_cons_self)
  have ih := kj (l := l) (m := m1 ++ m2) h2 fun x hx => by
   have := s x (List.mem_cons_of_mem _ hx)
   rw [e] at this
   rcases List.mem_append.mp this with q | q
   ·exact List.mem_append_left _ q
   ·rcases List.mem_cons.mp q with q | q
    ·rw [q] at hx
     exact absurd hx h1
    ·exact List.mem_append_right _ q
  rw [e]
  rw [List.length_append] at ih ⊢
  rw [List.length_cons, List.length_cons]
  omega
noncomputable def Aq (R C : Nat) : List (List Key) := ((List.range R).map fun r => (List.range C).map fun c => pl r c).flatten
theorem places_len (R C : Nat) : (Aq R C).length = R * C := by
 unfold Aq
 rw [List.length_flatten, List.map_map]
 have : (List.length ∘ fun r => (List.range C).map fun c => pl r c) = fun _ => C := by
  funext r
  simp
 rw [this]
 clear this
 induction R with
 | zero => simp
 | succ R ih => rw [List.range_succ, List.map_append, List.sum_append, ih]; simp [Nat.succ_mul]
theorem places_mem {R C : Nat} {k : List Key} : k ∈ Aq R C ↔ ∃ r c, k = pl r c /\ r < R /\ c < C := by
 unfold Aq
 rw [List.mem_flatten]
 constructor
 ·rintro ⟨l, hl, hk⟩
  obtain ⟨r, hr, rfl⟩ := List.mem_map.mp hl
  obtain ⟨c, hc, rfl⟩ := List.mem_map.mp hk
  exact ⟨r, c, rfl, List.mem_range.mp hr, List.mem_range.mp hc⟩
 ·rintro ⟨r, c, rfl, hr, hc⟩
  exact ⟨_, List.mem_map.mpr ⟨r, List.mem_range.mpr hr, rfl⟩, List.mem_map.mpr ⟨c, List.mem_range.mpr hc, rfl⟩⟩
theorem Mu (R C : Nat) : (Aq R C).Nodup := by
 unfold Aq List.Nodup
 rw [List.pairwise_flatten]
 refine ⟨fun l hl => ?_, ?_⟩
 ·obtain ⟨r, _, rfl⟩ := List.mem_map.mp hl
  exact List.pairwise_map.mpr (List.nodup_range.imp fun {a b} h z => h (Ua z).2)
 ·refine List.pairwise_map.mpr (List.nodup_range.imp fun {a b} h x hx y hy z => ?_)
  obtain ⟨c, _, rfl⟩ := List.mem_map.mp hx
  obtain ⟨c', _, rfl⟩ := List.mem_map.mp hy
  exact h (Ua z).1
theorem Kv.count {R C : Nat} {kv : List (List Key × V)} {S : Nat -> Nat -> Prop} (h : Kv R C kv S) (all : ∀ r c, r < R -> c < C -> S r c) : kv.length = R * C := by
 have h1 := kj h.nd fun k hk => places_mem.mpr (h.inn k hk)
 have h2 := kj (Mu R C) fun k hk => by
  obtain ⟨r, c, rfl, hr, hc⟩ := places_mem.mp hk
  have := (h.val r c).mpr (all r c hr hc)
  by_cases z : pl r c ∈ kv.map (·.1)
  ·exact z
  ·exact absurd (val_none.mpr z) this
 rw [places_len, List.length_map] at h1
 rw [places_len, List.length_map] at h2
 omega
theorem Kv.few {R C : Nat} {kv : List (List Key × V)} {S : Nat -> Nat -> Prop} (h : Kv R C kv S) (hR : R <= 17) (hC : C <= 17) : kv.length <= 289 := by
 have h1 := kj h.nd fun k hk => places_mem.mpr (h.inn k hk)
 rw [places_len, List.length_map] at h1
 have : R * C <= 17 * 17 := Nat.mul_le_mul hR hC
 omega
theorem Kv.same {R C : Nat} {kv : List (List Key × V)} {S S' : Nat -> Nat -> Prop} (h : Kv R C kv S) (e : ∀ r c, S r c ↔ S' r c) : Kv R C kv S' := ⟨h.nd, h.inn, fun r c => (h.val r c).trans (e r c)⟩
noncomputable def za4 (H : Hp) (CX : Addr) (Q : VK) (E : XK) (R C : Nat) (cs : List Cell) (gs : List Thg) : Prop :=
 (∃ x, gs[cs.length]? = some x /\ gs.take cs.length = cs.map Cell.G /\ Wrong R C cs x /\ Told H CX cs.length E) \/
 (gs = cs.map Cell.G /\ (((∃ r c, r < R /\ c < C /\ ¬ GT.cov cs r c) /\ ToldN H CX E) \/
  ((∀ r c, r < R -> c < C -> GT.cov cs r c) /\ ∀ (p l : Addr) (zs : List V) (H' : Hp), Same H H' -> H l = none -> H' p = some (.tup [.int R, .int C, .ref l]) -> H' l = some (.lst zs) -> AtL H' (cs.map Cell.D) zs -> Q (.ref p) H')))
noncomputable def Ba (CX : Addr) : Sp := fun vs H Q E => ∃ (v : V) (g : Thg), vs = [v] /\ AtG H g v /\ ((jt g = false /\ ToldN H CX E) \/
 ∃ (R C : Nat) (cs : List Cell) (gs : List Thg), g = .tup [.int (R : Int), .int (C : Int), .lst gs] /\ 1 <= R /\ R <= 16 /\ 1 <= C /\ C <= 16 /\ gs.length <= 500000 /\ Part R C cs /\ cs.Pairwise xr /\ za4 H CX Q E R C cs gs)
noncomputable def qu7 (H1 : Hp) (p n d : Addr) (R C : Nat) (cs : List Cell) (i : Nat) (σ : L2.St) (H2 : Hp) : Prop := ∃ (kv : List (List Key × V)) (c5 c6 c7 : Option V), σ = [some (.ref p), some (.int R), some (.int C), some (.ref n), some (.ref d), c5, c6, c7] /\ Same H1 H2 /\ H2 d = some (.dT kv) /\ Kv R C kv (GT.cov (cs.take i)) /\ i <= cs.length
noncomputable def qx7 (cs : List Cell) (i : Nat) (x : Cell) (j r c : Nat) : Prop := GT.cov (cs.take i) r c \/ ∃ k, k < j /\ r = x.top + k / x.w /\ c = x.left + k % x.w
noncomputable def qo4 (H1 H6 : Hp) (p n d l : Addr) (xs : List V) (R C : Nat) (cs : List Cell) (i : Nat) (x : Cell) (b : V) (j : Nat) (σ : L2.St) (H2 : Hp) : Prop := ∃ (kv : List (List Key × V)) (c7 : Option V), σ = [some (.ref p), some (.int R), some (.int C), some (.ref n), some (.ref d), some (.int i), some b, c7] /\ Same H1 H2 /\ SameT H6 H2 /\ H2 l = some (.lst xs) /\ H2 d = some (.dT kv) /\ Kv R C kv (qx7 cs i x j) /\ ∀ k, k < j -> ¬ GT.cov (cs.take i) (x.top + k / x.w) (x.left + k % x.w)
theorem U5 {x : Cell} {j : Nat} (hj : j < x.h * x.w) : inC x (x.top + j / x.w) (x.left + j % x.w) := qf4 hj (inC_part.mpr ⟨rfl, rfl⟩)
theorem Zy {x : Cell} {j k : Nat} (h : k < j) (e1 : x.top + j / x.w = x.top + k / x.w) (e2 : x.left + j % x.w = x.left + k % x.w) : False := by
 have a1 : j / x.w = k / x.w := by omega
 have a2 : j % x.w = k % x.w := by omega
 have b := Nat.div_add_mod j x.w
 rw [a1, a2, Nat.div_add_mod] at b
 omega
theorem Zh {R C i : Nat} {cs : List Cell} {x : Cell} (t : Part R C cs) (hx : cs[i]? = some x) : ∀ r c, inC x r c -> ¬ GT.cov (cs.take i) r c := fun r c h1 ⟨y, hy, h2⟩ => by
 have pw := t.dis
 have hiL := (List.getElem?_eq_some_iff.mp hx).1
 rw [← List.take_append_drop i cs, List.drop_eq_getElem_cons hiL] at pw
 have := (List.pairwise_append.mp pw).2.2 y hy x (by rw [(List.getElem?_eq_some_iff.mp hx).2]; exact List.mem_cons_self)
 exact this r c h2 h1
theorem Z8 {cs : List Cell} {i : Nat} {x : Cell} (hx : cs[i]? = some x) (r c : Nat) : qx7 cs i x (x.h * x.w) r c ↔ GT.cov (cs.take (i + 1)) r c := by
 rw [List.take_add_one, hx]
 show _ ↔ GT.cov (cs.take i ++ [x]) r c
 rw [Dv]
 constructor
 ·rintro (z | ⟨k, hk, rfl, rfl⟩)
  ·exact .inl z
  ·exact .inr (U5 hk)
 ·rintro (z | z)
  ·exact .inl z
  ·obtain ⟨k, hk, hi⟩ := Wj z
   obtain ⟨e1, e2⟩ := inC_part.mp hi
   exact .inr ⟨k, hk, e1, e2⟩
theorem qf9 {H : Hp} {x : Cell} {xs : List V} {j : Nat} {v : V} {n : Nat} (a : AtL H ((List.range n).map (An x)) xs) (h : xs[j]? = some v) : j < n /\ ∃ b, v = .ref b /\ H b = some (.tup [.int ((x.top + j / x.w : Nat) : Int), .int ((x.left + j % x.w : Nat) : Int)]) := by
 have lx := a.length
 rw [List.length_map, List.length_range] at lx
 have hjl := (List.getElem?_eq_some_iff.mp h).1
 obtain ⟨d, hd, ad⟩ := Paired.get2 a h
 rw [List.getElem?_map, List.getElem?_range (by omega)] at hd
 have hd : An x j = d := Option.some.inj hd
 subst hd
 obtain ⟨b, us, rfl, hb, ru⟩ := ad.tup_inv
 refine ⟨by omega, b, rfl, ?_⟩
 have eu : us = [.int ((x.top + j / x.w : Nat) : Int), .int ((x.left + j % x.w : Nat) : Int)] := by
  cases ru with
  | cons g1 ru =>
   cases ru with
   | cons g2 ru =>
    cases ru
    rw [g1.int_inv, g2.int_inv]
 rw [← eu]
 exact hb
theorem qi9 {a b c d : Nat} : HT.lexLe [(a : Int), (b : Int)] [(c : Int), (d : Int)] = decide (¬ (c < a \/ (c = a /\ d < b))) := by
 rw [HT.lexLe_cons]
 by_cases z : (a : Int) = c
 ·rw [if_pos z, HT.lexLe_cons]
  by_cases y : (b : Int) = d
  ·rw [if_pos y]
   exact (decide_eq_true (by omega)).symm
  ·rw [if_neg y]
   exact decide_eq_decide.mpr (by omega)
 ·rw [if_neg z]
  exact decide_eq_decide.mpr (by omega)
theorem Kv.less {R C : Nat} {kv : List (List Key × V)} {S : Nat -> Nat -> Prop} (h : Kv R C kv S) {r c : Nat} (hr : r < R) (hc : c < C) (n : ¬ S r c) : kv.length < R * C := by
 have hn : pl r c ∉ kv.map (·.1) := fun z => n ((h.val r c).mp fun y => (val_none.mp y) z)
 have h1 := kj (l := pl r c :: kv.map (·.1)) (m := Aq R C) (List.nodup_cons.mpr ⟨hn, h.nd⟩) fun k hk => by
  rcases List.mem_cons.mp hk with rfl | hk
  ·exact places_mem.mpr ⟨r, c, rfl, hr, hc⟩
  ·exact places_mem.mpr (h.inn k hk)
 rw [places_len, List.length_cons, List.length_map] at h1
 omega
theorem qi5 : ∀ {H : Hp} {cs : List Cell} {xs : List V}, AtGL H (cs.map Cell.G) xs -> AtL H (cs.map Cell.D) xs
 | _, [], [], _ => .nil
 | _, x :: cs, v :: xs, h => by
  cases h with
  | cons h r => exact .cons (Cell.ofG h) (qi5 r)
theorem qd6 {c B : Prop} [Decidable c] {M : Prop} {N : Hp -> Prop} {H : Hp} (n : ∀ H', Same H H' -> B -> N H') (b : ¬ c -> B) (m : c -> (∀ H', Same H H' -> B -> N H') -> M) : if decide c = true then M else N H :=
 vd (fun z => m (of_decide_eq_true z) n) (fun z => n H (fun _ _ z => z) (b fun y => z (decide_eq_true y)))
section
variable {P : Program} {w : World} {K : PySem.W.Frag} {mg : Str -> Option Value} {base : Heap}
theorem sc_checked : FnScope ["table", "rows", "columns", "cells", "covered", "at", "cell", "place"] ["table"] (qj (top 9)) := ⟨rfl, rfl, rfl, by decide +kernel, rfl, by decide +kernel, by decide +kernel⟩
set_option maxHeartbeats 4000000 in
theorem Xc (T : Txt mg) {CX_BadTable : Addr} (x_BadTable : ExcJ P w K mg base "BadTable" CX_BadTable) (c_has_frame : Cal P w K mg base 3 "has_frame" ["thing"] (spG jt)) (c_is_cell : Cal P w K mg base 3 "is_cell" ["thing"] (spG jw)) (c_sticks_out : Cal P w K mg base 1 "sticks_out" ["cell", "rows", "columns"] Jt) (c_first_place : Cal P w K mg base 1 "first_place" ["cell"] Tw) (c_places : Cal P w K mg base 1 "places" ["cell"] Jp) (f : Addr) (fd : FuncData) (F : Fun K "checked" "checked" (top 9) f fd) : FnOk P w K mg base (CX1 P w base) 5 f fd ["table"] (Ba CX_BadTable) := by
 refine F.ok1 sc_checked (fun vs H Q E h => ?_) (fun cdv A outer s H vs Q E hr h => ?_)
 ·obtain ⟨v, g, rfl, _⟩ := h; rfl
 ·obtain ⟨v, g, rfl, ag, hg⟩ := h
  have hr_has_frame : Room 3 (A.deeper (envOfC "checked" (qj (top 9)) s.heap.objs.size f cdv)) := hr.mono (by decide)
  have hr_is_cell : Room 3 (A.deeper (envOfC "checked" (qj (top 9)) s.heap.objs.size f cdv)) := hr.mono (by decide)
  have hr_sticks_out : Room 1 (A.deeper (envOfC "checked" (qj (top 9)) s.heap.objs.size f cdv)) := hr.mono (by decide)
  have hr_first_place : Room 1 (A.deeper (envOfC "checked" (qj (top 9)) s.heap.objs.size f cdv)) := hr.mono (by decide)
  have hr_places : Room 1 (A.deeper (envOfC "checked" (qj (top 9)) s.heap.objs.size f cdv)) := hr.mono (by decide)
  have hu : (A.deeper (envOfC "checked" (qj (top 9)) s.heap.objs.size f cdv)).units + 1 < cLine := by have := hr.units; omega
  have hu0 : (A.deeper (envOfC "checked" (qj (top 9)) s.heap.objs.size f cdv)).units < cLine := by omega
  refine ⟨_, (ql (jj (jz (jq (qu c_has_frame hr_has_frame rfl (qb (pv 0) qi)))) (qm (ur x_BadTable hr rfl rfl v7 (qb Wh qi))) q8)
   (ql (zf (i := 1) sc_checked.nd rfl (by first | exact Or.inl rfl | exact Or.inr rfl) (zg (qp (K := K) rfl) (pv 0) qg (fun _ _ => rfl)))
   (ql (zf (i := 2) sc_checked.nd rfl (by first | exact Or.inl rfl | exact Or.inr rfl) (zg (qp (K := K) rfl) (pv 0) qg (fun _ _ => rfl)))
   (ql (zf (i := 3) sc_checked.nd rfl (by first | exact Or.inl rfl | exact Or.inr rfl) (yp (Jm (K := K) rfl) (by rfl) T.list PyProof.Rows.boot_list (qb (zg (qp (K := K) rfl) (pv 0) qg (fun _ _ => rfl)) qi)))
   (ql (zf (i := 4) sc_checked.nd rfl (by first | exact Or.inl rfl | exact Or.inr rfl) J4)
   (ql (xj PassesOwn.leaving rfl (qp5 (K := K) rfl rfl T.enumerate (qb (pv 3) qi)) (qp1 (K := K) (n := 2) rfl rfl (U6 (zq (i := 5) sc_checked.nd rfl (by first | exact Or.inl rfl | exact Or.inr rfl)) (U6 (zq (i := 6) sc_checked.nd rfl (by first | exact Or.inl rfl | exact Or.inr rfl)) ql5))) (ql (jj (PW.pt (xx (jz (jq (qu c_is_cell hr_is_cell rfl (qb (pv 6) qi)))) (xu (jq (qu c_sticks_out hr_sticks_out rfl (qb (pv 6) (qb (pv 1) (qb (pv 2) qi)))))))) (qm (ur x_BadTable hr rfl rfl v7 (qb (pv 5) qi))) q8)
   (ql (jj (PW.pt (qj8 (za Iv (pv 5) qg (zc _)) (Zk (za (qi6 (K := K) rfl hu0) (qu c_first_place hr_first_place rfl (qb (pv 6) qi)) (qu c_first_place hr_first_place rfl (qb (zg (Dt (K := K) rfl) (pv 3) (qw Xo (pv 5) qg) (fun _ _ => rfl)) qi)) (zc _))))) (qm (ur x_BadTable hr rfl rfl v7 (qb (pv 5) qi))) q8)
   (qm (xj PassesOwn.leaving rfl (ud (K := K) rfl (qu c_places hr_places rfl (qb (pv 6) qi))) (zq (i := 7) sc_checked.nd rfl (by first | exact Or.inl rfl | exact Or.inr rfl)) (ql (jj (Uj (Zc hu (pv 7) (pv 4)) (by rfl)) (qm (ur x_BadTable hr rfl rfl v7 (qb (pv 5) qi))) q8)
   (qm (Tt hu (pv 4) (pv 7) vq rfl))))))))
   (ql (jj (za Mi (qy (Jc (K := K) rfl) (by rfl) T.len PySem.boot_len (qb (pv 4) qi)) (qw xn (pv 1) (pv 2)) (zc _)) (qm (ur x_BadTable hr rfl rfl v7 (qb Wh qi))) q8)
   (qm (qx (yx (qb (pv 1) (qb (pv 2) (qb (pv 3) qi))))))))))))), ?_⟩
  refine ⟨_, rfl, v, g, rfl, ag, fun H0 s0 => ?_⟩
  rcases hg with ⟨no, tell⟩ | ⟨R, C, cs, gs, rfl, R1, R2, C1, C2, lim, pt, ord, hend⟩
  ·rw [no]
   exact ⟨false, rfl, uh ⟨_, rfl, .inr rfl, fun dx hdx => tell dx _ (s0.trans (Same.upd_new hdx)) qd⟩⟩
  have yes : jt (.tup [.int (R : Int), .int (C : Int), .lst gs]) = true := by
   show (decide ((1 : Int) <= R) && decide ((R : Int) <= 16) && (decide ((1 : Int) <= C) && decide ((C : Int) <= 16))) = true
   rw [decide_eq_true (by omega : (1 : Int) <= R), decide_eq_true (by omega : (R : Int) <= 16), decide_eq_true (by omega : (1 : Int) <= C), decide_eq_true (by omega : (C : Int) <= 16)]
   rfl
  rw [yes]
  refine ⟨true, rfl, uo ?_⟩
  obtain ⟨p, xs, rfl, hp, rx⟩ := (ag.mono s0).tup_inv
  cases rx with
  | cons r1 rx =>
  cases rx with
  | cons r2 rx =>
  cases rx with
  | cons r3 rx =>
  cases rx
  obtain rfl := r1.int_inv
  obtain rfl := r2.int_inv
  obtain ⟨l, ys, rfl, hl, ry⟩ := r3.lst_inv
  have lx := ry.length
  have few := Xp pt R2 C2
  refine ⟨_, rfl, p, _, (0 : Int), _, rfl, rfl, SqT.of hp, rfl, ?_⟩
  refine ⟨_, rfl, p, _, (1 : Int), _, rfl, rfl, SqT.of hp, rfl, ?_⟩
  refine ⟨_, rfl, p, _, (2 : Int), _, rfl, rfl, SqT.of hp, rfl, l, ys, rfl, .inl (SqL.of hl), fun n hn => ?_⟩
  have s1 := Same.upd_new (o := .lst ys) hn
  have k1 := qd (H := H0) (a := n) (o := .lst ys)
  generalize hH1 : upd H0 n (.lst ys) = H1 at *
  have s01 := s0.trans s1
  refine fun d hd => ?_
  have s2 := Same.upd_new (o := .dT []) hd
  have k2 := qd (H := H1) (a := d) (o := .dT [])
  generalize hH2 : upd H1 d (.dT []) = H2 at *
  refine ⟨_, rfl, n, rfl, ⟨_, SqL.of (s2 _ _ k1)⟩, ?_⟩
  refine qg7 (K := K) (a := n) (xs := ys) (qu7 H1 p n d R C cs) ⟨[], none, none, none, rfl, s2, k2, ⟨by simp, fun k hk => by simp at hk, fun r c => ⟨fun z => absurd rfl z, fun ⟨x, hx, _⟩ => by simp at hx⟩⟩, Nat.zero_le _⟩ (fun i σ H3 _ hI => ?_) ?_ ?_
  ·obtain ⟨_, _, _, _, _, s3, _⟩ := hI
   exact SqL.of (s3 _ _ k1)
  ·intro i x σ H3 tp hi hI htp
   refine qw6 hI fun kv c5 c6 c7 hJ => ?_
   have eI := hJ.1
   have s3 := hJ.2.1
   have d3 := hJ.2.2.1
   have kv3 := hJ.2.2.2.1
   have hiC := hJ.2.2.2.2
   clear hI hJ
   subst eI
   have hiL := (List.getElem?_eq_some_iff.mp hi).1
   obtain ⟨gi, hgi, agi⟩ := Paired.get2 ry hi
   have s13 := s1.trans s3
   have good : i < cs.length -> ∃ X, cs[i]? = some X /\ gi = X.G /\ Fit R C X := fun z => by
    obtain ⟨X, hX⟩ : ∃ X, cs[i]? = some X := ⟨_, List.getElem?_eq_getElem z⟩
    refine ⟨X, hX, ?_, pt.fit X (List.mem_of_getElem? hX)⟩
    have : gs.take cs.length = cs.map Cell.G := by
     rcases hend with ⟨_, _, e, _⟩ | ⟨e, _⟩
     ·exact e
     ·rw [e, List.take_of_length_le (by rw [List.length_map]; exact Nat.le_refl _)]
    have e2 : (gs.take cs.length)[i]? = some gi := by rw [List.getElem?_take_of_lt z]; exact hgi
    rw [this, List.getElem?_map, hX] at e2
    exact (Option.some.inj e2).symm
   have bad : i = cs.length -> Wrong R C cs gi /\ Told H CX_BadTable i E := fun z => by
    rcases hend with ⟨x, e1, _, e3, e4⟩ | ⟨e, _⟩
    ·rw [← z, hgi] at e1
     cases e1
     rw [z]
     exact ⟨e3, e4⟩
    ·rw [e, List.getElem?_map, List.getElem?_eq_none (by omega)] at hgi
     cases hgi
   have tell : ¬ i < cs.length -> Told H CX_BadTable i E := fun z => (bad (by omega)).2
   have prev : ∀ j, i = j + 1 -> ∃ Y yv, cs[j]? = some Y /\ ys[j]? = some yv /\ At H0 Y.D yv := fun j hj => by
    obtain ⟨Y, hY⟩ : ∃ Y, cs[j]? = some Y := ⟨_, List.getElem?_eq_getElem (by omega)⟩
    have : gs.take cs.length = cs.map Cell.G := by
     rcases hend with ⟨_, _, e, _⟩ | ⟨e, _⟩
     ·exact e
     ·rw [e, List.take_of_length_le (by rw [List.length_map]; exact Nat.le_refl _)]
    have e2 : gs[j]? = some Y.G := by
     have : (gs.take cs.length)[j]? = some Y.G := by rw [this, List.getElem?_map, hY]; rfl
     rw [List.getElem?_take_of_lt (by omega)] at this
     exact this
    obtain ⟨yv, hyv, ay⟩ := Paired.get1 ry e2
    exact ⟨Y, yv, hY, hyv, Cell.ofG ay⟩
   have s4 := Same.upd_new (o := .tup [.int (i : Int), x]) htp
   have k4 := qd (H := H3) (a := tp) (o := .tup [.int (i : Int), x])
   generalize hH4 : upd H3 tp (.tup [.int (i : Int), x]) = H4 at *
   have s04 := (s0.trans s13).trans s4
   refine ⟨tp, _, rfl, SqT.of k4, rfl, _, _, rfl, _, _, rfl, rfl, ?_⟩
   refine ⟨_, rfl, x, gi, rfl, (agi.mono s13).mono s4, fun H5 s5 => ?_⟩
   have s05 := s04.trans s5
   cases ec : jw gi with
   | false =>
    refine ⟨false, rfl, uh (uh ⟨_, rfl, _, rfl, .inl ⟨_, rfl, Bh (by omega)⟩, fun dx hdx => ?_⟩)⟩
    refine tell (fun z => ?_) dx _ (s05.trans (Same.upd_new hdx)) qd
    obtain ⟨X, _, rfl, f⟩ := good z
    rw [qo7 f.h1 f.w1 f.words] at ec
    cases ec
   | true =>
   refine ⟨true, rfl, uo ?_⟩
   obtain ⟨X, rfl, x1, x2⟩ := Wd ec
   have ad0 : At H0 X.D x := Cell.ofG agi
   have ad5 : At H5 X.D x := (ad0.mono s13).mono (s4.trans s5)
   refine ⟨_, rfl, _, rfl, _, rfl, x, X, R, C, rfl, ad5, ?_⟩
   by_cases st : R < X.top + X.h \/ C < X.left + X.w
   ·rw [decide_eq_true st]
    refine ⟨true, rfl, uh ⟨_, rfl, _, rfl, .inl ⟨_, rfl, Bh (by omega)⟩, fun dx hdx => ?_⟩⟩
    refine tell (fun z => ?_) dx _ (s05.trans (Same.upd_new hdx)) qd
    obtain ⟨Y, _, eY, f⟩ := good z
    have := wj eY
    subst this
    have := f.down
    have := f.across
    omega
   rw [decide_eq_false st]
   refine ⟨false, rfl, uo ?_⟩
   have f1 : X.top + X.h <= R := by omega
   have f2 : X.left + X.w <= C := by omega
   refine ⟨_, rfl, _, _, rfl, rfl, _, rfl, ?_⟩
   refine qd6 (H := H5) (B := ∀ j Y, i = j + 1 -> cs[j]? = some Y -> xr Y X) (fun H6 s6 be => uo ?_) (fun z j Y hj => absurd (by omega) z) (fun h0 k => ?_)
   case' refine_2 =>
    obtain ⟨j, rfl⟩ : ∃ j, i = j + 1 := ⟨i - 1, by omega⟩
    obtain ⟨Y, yv, hY, hyv, ay⟩ := prev j rfl
    have ej : ((j + 1 : Nat) : Int) - 1 = (j : Int) := by omega
    refine ⟨_, rfl, _, X, rfl, ad5, fun t7 H7 s7 k7 => ?_⟩
    have s37 := (s4.trans s5).trans s7
    refine ⟨_, rfl, _, rfl, _, _, rfl, rfl, n, _, ((j + 1 : Nat) : Int) - 1, yv, rfl, rfl, SqL.of (s37 _ _ (s3 _ _ k1)), by rw [ej]; exact Df hyv, yv, Y, rfl, ay.mono (s13.trans s37), fun t8 H8 s8 k8 => ?_⟩
    by_cases be : xr Y X
    ·refine ⟨t7, t8, [(X.top : Int), (X.left : Int)], [(Y.top : Int), (Y.left : Int)], rfl, rfl, SqT.of (s8 _ _ k7), SqT.of k8, false, ?_, k H8 (s7.trans s8) fun j' Y' hj' hY' => ?_⟩
     ·exact congrArg V.bl (by rw [qi9]; exact decide_eq_false fun z => z be)
     ·have : j' = j := by omega
      subst this
      rw [hY] at hY'
      cases hY'
      exact be
    ·refine ⟨t7, t8, [(X.top : Int), (X.left : Int)], [(Y.top : Int), (Y.left : Int)], rfl, rfl, SqT.of (s8 _ _ k7), SqT.of k8, true, ?_, uh ⟨_, rfl, _, rfl, .inl ⟨_, rfl, Bh (by omega)⟩, fun dx hdx => ?_⟩⟩
     ·exact congrArg V.bl (by rw [qi9]; exact decide_eq_true be)
     ·refine tell (fun z => ?_) dx _ (((s05.trans s7).trans s8).trans (Same.upd_new hdx)) qd
      obtain ⟨X', hX', eX, _⟩ := good z
      have := wj eX
      subst this
      have hyl := (List.getElem?_eq_some_iff.mp hY)
      have := List.pairwise_iff_getElem.mp ord j (j + 1) hyl.1 z (by omega)
      rw [(List.getElem?_eq_some_iff.mp hX').2, hyl.2] at this
      exact be this
   have s46 := (s4.trans s5).trans s6
   have s06 := s05.trans s6
   refine ⟨_, rfl, _, X, rfl, ad5.mono s6, by omega, by omega, by omega, by omega, fun r xs H7 s7 h7 a7 => ⟨r, rfl, ⟨_, SqL.of h7⟩, ?_⟩⟩
   have s37 := s46.trans s7
   have hw : X.h * X.w <= 16 * 16 := Nat.mul_le_mul (by omega) (by omega)
   refine Lr (K := K) (a := r) (xs := xs) (qo4 H1 H7 p n d r xs R C cs i X x) ⟨kv, c7, rfl, s3.trans s37, fun _ _ z => z, h7, s37 _ _ d3, kv3.same fun r c => ⟨fun z => .inl z, fun z => z.elim id fun ⟨k, hk, _⟩ => by omega⟩, fun k hk => absurd hk (Nat.not_lt_zero _)⟩ (fun j σ H8 _ hI => ?_) ?_ ?_
   ·obtain ⟨_, _, _, _, _, z, _⟩ := hI
    exact SqL.of z
   ·intro j v σ H8 hj hI
    refine Il hI fun kv c7 hJ => ?_
    have eI := hJ.1
    have s8 := hJ.2.1
    have t8 := hJ.2.2.1
    have h8 := hJ.2.2.2.1
    have d8 := hJ.2.2.2.2.1
    have kv8 := hJ.2.2.2.2.2.1
    have no8 := hJ.2.2.2.2.2.2
    clear hI hJ
    subst eI
    obtain ⟨hjn, bj, rfl, hbj⟩ := qf9 a7 hj
    have hin := U5 hjn
    have i1 := hin.2.1
    have i2 := hin.2.2.2
    have hb8 := t8 _ _ hbj
    dsimp only [yf]
    refine ⟨_, rfl, _, rfl, d, _, rfl, DGet.t (k := pl (X.top + j / X.w) (X.left + j % X.w)) d8 hb8, _, rfl, ?_⟩
    cases hv : wk kv (pl (X.top + j / X.w) (X.left + j % X.w)) with
    | some o =>
     refine uh ⟨_, rfl, _, rfl, .inl ⟨_, rfl, Bh (by omega)⟩, fun dx hdx => ?_⟩
     refine tell (fun z => ?_) dx _ ((s01.trans s8).trans (Same.upd_new hdx)) qd
     have cv := (kv8.val _ _).mp (by rw [hv]; simp)
     obtain ⟨X', hX', eX, _⟩ := good z
     have := wj eX
     subst this
     exact cv.elim (Zh pt hX' _ _ hin) fun ⟨k, hk, e1, e2⟩ => Zy hk e1 e2
    | none =>
     have hno : ¬ qx7 cs i X j (X.top + j / X.w) (X.left + j % X.w) := fun z => (kv8.val _ _).mpr z hv
     refine uo ?_
     have kf := kv8.few (by omega) (by omega)
     obtain ⟨_, kvn⟩ := kv8.put hno (by omega) (by omega) (V.bl true)
     refine ⟨_, rfl, _, rfl, d, _, rfl, DPut.t (k := pl (X.top + j / X.w) (X.left + j % X.w)) d8 hb8 (zz (by omega)), ?_⟩
     refine ⟨_, some (.ref bj), rfl, fun b' o e => ?_, t8.trans (SameT.putD d8), ?_, qd, kvn.same fun r c => ?_, fun k hk => ?_⟩
     ·rw [qt (qz e hd)]
      exact s8 _ _ e
     ·rw [qt (Lw h8 d8 (fun z => by cases z))]
      exact h8
     ·constructor
      ·rintro ((z | ⟨k, hk, e⟩) | ⟨rfl, rfl⟩)
       ·exact .inl z
       ·exact .inr ⟨k, by omega, e⟩
       ·exact .inr ⟨j, by omega, rfl, rfl⟩
      ·rintro (z | ⟨k, hk, e⟩)
       ·exact .inl (.inl z)
       ·by_cases z : k = j
        ·rw [z] at e
         exact .inr e
        ·exact .inl (.inr ⟨k, by omega, e⟩)
     ·by_cases z : k = j
      ·subst z
       exact fun y => hno (.inl y)
      ·exact no8 k (by omega)
   ·intro σ H8 hI
    refine Il hI fun kv c7 hJ => ?_
    have eI := hJ.1
    have s8 := hJ.2.1
    have d8 := hJ.2.2.2.2.1
    have kv8 := hJ.2.2.2.2.2.1
    have no8 := hJ.2.2.2.2.2.2
    clear hI hJ
    subst eI
    have la := a7.length
    rw [List.length_map, List.length_range] at la
    rw [← la] at kv8 no8
    have hlt : i < cs.length := by
     refine Classical.byContradiction fun z => ?_
     have ei : i = cs.length := by omega
     have tk : cs.take i = cs := by rw [ei, List.take_length]
     rcases (bad ei).1 with y | ⟨X', eX, y⟩
     ·rw [ec] at y; cases y
     ·have := wj eX
      subst this
      rcases y with y | y | ⟨Y, hY, y⟩ | ⟨Y, hY, r0, c0, y1, y2⟩
      ·omega
      ·omega
      ·have hpos : 0 < cs.length := by
        cases cs with
        | nil => cases hY
        | cons a as => simp
       have hg : cs[i - 1]? = some Y := by rw [List.getLast?_eq_getElem?] at hY; rw [ei]; exact hY
       exact y (be (i - 1) Y (by omega) hg)
      ·obtain ⟨k, hk, hi2⟩ := Wj y1
       obtain ⟨e1, e2⟩ := inC_part.mp hi2
       refine no8 k hk ⟨Y, by rw [tk]; exact hY, ?_⟩
       rw [← e1, ← e2]
       exact y2
    obtain ⟨X', hX', eX, _⟩ := good hlt
    have := wj eX
    subst this
    exact ⟨kv, _, _, _, rfl, s8, d8, kv8.same (Z8 hX'), hlt⟩
  ·intro σ H3 hI
   refine qw6 hI fun kv c5 c6 c7 hJ => ?_
   have eI := hJ.1
   have s3 := hJ.2.1
   have d3 := hJ.2.2.1
   have kv3 := hJ.2.2.2.1
   have hiC := hJ.2.2.2.2
   clear hI hJ
   subst eI
   rcases hend with ⟨x, e1, _⟩ | ⟨rfl, hend⟩
   ·have := (List.getElem?_eq_some_iff.mp e1).1
    omega
   rw [List.length_map] at lx
   rw [← lx, List.take_length] at kv3
   have s03 := s01.trans s3
   refine ⟨_, rfl, d, kv, rfl, d3, _, rfl, _, rfl, _, _, rfl, rfl, .inl ⟨by omega, by omega⟩, _, _, rfl, rfl, _, rfl, ?_⟩
   rcases hend with ⟨⟨r0, c0, hr0, hc0, no⟩, tell⟩ | ⟨all, q⟩
   ·have cnt := kv3.less hr0 hc0 no
    refine vd (fun _ => ?_) (fun z => absurd (decide_eq_true (by rw [← Int.natCast_mul]; omega)) z)
    exact ⟨_, rfl, .inr rfl, fun dx hdx => tell dx _ (s03.trans (Same.upd_new hdx)) qd⟩
   ·have cnt := kv3.count all
    refine vd (fun z => absurd (of_decide_eq_true z) (by rw [cnt, Int.natCast_mul]; omega)) (fun _ => ?_)
    refine ⟨_, rfl, _, rfl, _, rfl, by show 3 <= sizeLine; decide, fun p2 hp2 => ?_⟩
    have s4 := Same.upd_new (o := .tup [.int (R : Int), .int (C : Int), .ref n]) hp2
    have hnH : H n = none := by
     cases e : H n with
     | none => rfl
     | some o => rw [s0 _ _ e] at hn; cases hn
    exact q _ n ys _ (s03.trans s4) hnH qd (s4 _ _ (s3 _ _ k1)) ((qi5 ry).mono ((s1.trans s3).trans s4))
end
end KL
namespace KL
open PySem L2 GT PyProof.Rows
noncomputable def De : Sp := fun vs H Q _ => ∃ (t : Addr) (ps : List Pt), vs = [.ref t] /\ H t = some (.tup (ps.map pV)) /\ (∀ p ∈ ps, OkP p) /\ ps.length <= 16 /\ ∀ H', Same H H' -> Q (.str (Yg ps)) H'
noncomputable def J1 : Sp := fun vs H Q _ => ∃ (v : V) (R C : Nat) (cs : List Cell), vs = [v] /\ At H (Mr R C cs) v /\ Part R C cs /\ R <= 16 /\ C <= 16 /\ ∀ H', Same H H' -> Q (.str (plainT (Ag R C cs))) H'
theorem Gn : Str.ofString " " = sp1 := by decide +kernel
theorem Bf : Str.ofString "\n" = nl1 := by decide +kernel
theorem Ml : Str.ofString "" = emp := by decide +kernel
theorem j9 {α β : Type} {f : α -> β} {xs : List α} {i : Nat} {x : α} (h : xs[i]? = some x) : (xs.take (i + 1)).map f = (xs.take i).map f ++ [f x] := by
 rw [List.take_add_one, h, List.map_append]
 rfl
theorem W7 {K : PySem.W.Frag} {H : Hp} {acc : Addr} {ps : List Pt} {Q : VK} (h : H acc = some (.lst ((ps.map pS).map V.str))) (ok : ∀ p ∈ ps, OkP p) (n : ps.length <= 16) (q : Q (.str (jh ps)) H) : rJoin K (.str sp1) [.ref acc] H Q := by
 refine ⟨_, acc, ps.map pS, rfl, rfl, SqL.of h, ?_, q⟩
 have := N6 (g := ps.map pS) (k := 12) fun w hw => by
  obtain ⟨p, hp, rfl⟩ := List.mem_map.mp hw
  exact Wk (ok p hp)
 rw [List.length_map] at this
 rw [List.length_map]
 show _ + ps.length * 1 <= _
 omega
theorem qb9 {K : PySem.W.Frag} {H : Hp} {acc : Addr} {ps : List Pt} {Q : VK} (h : H acc = some (.lst ((ps.map pS).map V.str))) (ok : ∀ p ∈ ps, OkP p) (n : ps.length <= 16) (q : Q (.str (jh ps)) H) : rJoin K (.str (Str.ofString " ")) [.ref acc] H Q := by
 rw [Gn]
 exact W7 h ok n q
section
variable {P : Program} {w : World} {K : PySem.W.Frag} {mg : Str -> Option Value} {base : Heap}
theorem qw1 : (["part"] : List Str).Nodup := by decide +kernel
noncomputable abbrev plrScope : Scope := j7 (Io (qt4 (ug (nth (je (top 24)) 0))) 0)
theorem Nj : FnScope ["parts"] ["parts"] (qj (top 24)) := ⟨rfl, rfl, rfl, by decide +kernel, rfl, by decide +kernel, by decide +kernel⟩
set_option maxHeartbeats 4000000 in
theorem Od (T : Txt mg) (f : Addr) (fd : FuncData) (F : Fun K "plain_row" "plain_row" (top 24) f fd) : FnOk P w K mg base CX0 1 f fd ["parts"] De := by
 refine F.ok Nj (fun vs H Q E h => ?_) (fun cdv A outer s H vs Q E hr h => ?_)
 ·obtain ⟨t, ps, rfl, _⟩ := h; rfl
 ·obtain ⟨t, ps, rfl, ht, ok, short, q⟩ := h
  have co_plr : ∀ {X : Cx}, CompOk X plrScope (Dk X.env.cells plrScope.names []) ["part"] [none] := jg rfl (by decide +kernel) (by decide +kernel) (by decide +kernel) rfl (by
    intro i hi x j e1 e2
    match i, hi, e1, e2 with
    | 0, _, e1, e2 => cases e2)
  refine ⟨_, (qm (qx (qw zy (j6 (K := K) rfl PySem.F.plainAttrs_str PySem.F.slot_str_join PySem.F.type_str_join (Av (K := K) rfl) jb (qb (yg co_plr rfl (Gk (K := K) rfl (pv 0)) (fun _ _ _ _ => (zq (i := 0) qw1 rfl (by first | exact Or.inl rfl | exact Or.inr rfl) (Or.inr rfl))) (fun _ _ _ _ => yt) (fun _ _ _ _ => (yp M8 (by rfl) T.str PyProof.Rows.boot_str (qb (pv 0) qi)))) qi)) jb))), ?_⟩
  refine ⟨rfl, _, rfl, t, rfl, ⟨_, SqT.of ht⟩, fun acc hacc => ?_⟩
  refine Gb (K := K) (a := t) (xs := ps.map pV) (fun j σ1 H2 => ∃ (c1 : Option V), σ1 = [c1] /\ Same H H2 /\ H2 acc = some (.lst (((ps.take j).map pS).map V.str)))
   ⟨none, rfl, Same.upd_new hacc, qd⟩ (fun j σ1 H2 _ ⟨_, _, s2, _⟩ => SqT.of (s2 _ _ ht)) ?_ ?_
  ·intro j x σ1 H2 hj hI
   refine Qn hI fun c1 hJ => ?_
   have eI := hJ.1
   have s2 := hJ.2.1
   have h2 := hJ.2.2
   clear hI hJ
   subst eI
   rw [List.getElem?_map] at hj
   obtain ⟨p, hp, rfl⟩ := Option.map_eq_some_iff.mp hj
   dsimp only [yf]
   rw [if_pos rfl]
   refine ⟨_, rfl, ?_⟩
   unfold Tz
   refine Ng (ok p (List.mem_of_getElem? hp)) ?_
   refine ⟨_, h2, zz (by rw [List.length_map, List.length_map, List.length_take]; omega), _, rfl, fun b o e => ?_, ?_⟩
   ·rw [qt (qz e hacc)]
    exact s2 _ _ e
   ·rw [qd, j9 hp, List.map_append]
    rfl
  intro σ1 H2 hI
  refine Qn hI fun c1 hJ => ?_
  have s2 := hJ.2.1
  have h2 := hJ.2.2
  clear hI hJ
  rw [List.length_map, List.take_length] at h2
  unfold Tz
  refine qb9 h2 ok short ?_
  have ll := Gd ok short
  refine ⟨_, _, rfl, rfl, Ld (by rw [Bf]; show _ + 1 <= 1000; omega), ?_⟩
  rw [Bf]
  exact q _ s2
end
noncomputable def qj6 (H2 : Hp) (acc : Addr) (cs : List Cell) (i : Nat) (σ : L2.St) (H3 : Hp) : Prop := ∃ (c1 : Option V) (zs : List V), σ = [c1] /\ Same H2 H3 /\ H3 acc = some (.lst zs) /\ Paired (qc6 H3) ((cs.take i).map um) zs
section
variable {P : Program} {w : World} {K : PySem.W.Frag} {mg : Str -> Option Value} {base : Heap}
theorem qn0 : (["cell"] : List Str).Nodup := by decide +kernel
theorem qq8 : (["row"] : List Str).Nodup := by decide +kernel
noncomputable abbrev pln1Scope : Scope := j7 (Ys (ug (nth (je (top 22)) 0)))
noncomputable abbrev pln2Scope : Scope := j7 (Io (ug (nth (je (top 22)) 1)) 0)
theorem sc_plain : FnScope ["table", "rows"] ["table"] (qj (top 22)) := ⟨rfl, rfl, rfl, by decide +kernel, rfl, by decide +kernel, by decide +kernel⟩
set_option maxHeartbeats 4000000 in
theorem qd8 (T : Txt mg) (c_plain_row : Cal P w K mg base 1 "plain_row" ["parts"] De) (f : Addr) (fd : FuncData) (F : Fun K "plain" "plain" (top 22) f fd) : FnOk P w K mg base CX0 2 f fd ["table"] J1 := by
 refine F.ok sc_plain (fun vs H Q E h => ?_) (fun cdv A outer s H vs Q E hr h => ?_)
 ·obtain ⟨v, R, C, cs, rfl, _⟩ := h; rfl
 ·obtain ⟨v, R, C, cs, rfl, ht, tl, R2, C2, q⟩ := h
  have hr_plain_row : Room 1 (A.deeper (envOfC "plain" (qj (top 22)) s.heap.objs.size f cdv)) := hr.mono (by decide)
  obtain ⟨p, l, ys, rfl, hp, hl, ry⟩ := Lf ht
  have lx := ry.length
  rw [List.length_map] at lx
  have few := Xp tl R2 C2
  have rok := Gz tl R2 C2
  have co_pln1 : ∀ {X : Cx}, CompOk X pln1Scope (Dk X.env.cells pln1Scope.names []) ["cell"] [none] := jg rfl (by decide +kernel) (by decide +kernel) (by decide +kernel) rfl (by
    intro i hi x j e1 e2
    match i, hi, e1, e2 with
    | 0, _, e1, e2 => cases e2)
  have co_pln2 : ∀ {X : Cx}, CompOk X pln2Scope (Dk X.env.cells pln2Scope.names []) ["row"] [none] := jg rfl (by decide +kernel) (by decide +kernel) (by decide +kernel) rfl (by
    intro i hi x j e1 e2
    match i, hi, e1, e2 with
    | 0, _, e1, e2 => cases e2)
  refine ⟨_, (ql (zf (i := 1) sc_plain.nd rfl (by first | exact Or.inl rfl | exact Or.inr rfl) (qw Dl (Bl (qb (zb (By (K := K) rfl) (pv 0) jd (zp qg)) qi)) (yg co_pln1 rfl (ud (K := K) rfl (zg (qp (K := K) rfl) (pv 0) qg (fun _ _ => rfl))) (fun _ _ _ _ => (zq (i := 0) qn0 rfl (by first | exact Or.inl rfl | exact Or.inr rfl) (Or.inr rfl))) (fun _ _ _ _ => yt) (fun _ _ _ _ => (qw (Dw (K := K) rfl) (zb (By (K := K) rfl) (pv 0) jd (zp qg)) (zg (qp (K := K) rfl) (pv 0) qg (fun _ _ => rfl)))))))
   (qm (qx (j6 (K := K) rfl PySem.F.plainAttrs_str PySem.F.slot_str_join PySem.F.type_str_join (Av (K := K) rfl) jb (qb (yg co_pln2 rfl (ud (K := K) rfl (pv 1)) (fun _ _ _ _ => (zq (i := 0) qq8 rfl (by first | exact Or.inl rfl | exact Or.inr rfl) (Or.inr rfl))) (fun _ _ _ _ => yt) (fun _ _ _ _ => (qu c_plain_row hr_plain_row rfl (qb (pv 0) qi)))) qi))))), ?_⟩
  refine ⟨_, rfl, _, rfl, p, _, rfl, SqT.of hp, (fun z => absurd z.2 (by show ¬ HT.sIx 3 3 (some 2) = 3; decide)), fun u hu => ⟨by show 1 <= sizeLine; decide, fun m hm => ?_⟩⟩
  have s1 := Same.upd_new (o := .tup (vm [.int R, .int C, .ref l] none (some 2))) hu
  have k1 : upd H u (.tup (vm [.int R, .int C, .ref l] none (some 2))) u = some (.tup ((Al R C).map pV)) := qd
  generalize hH1 : upd H u (.tup (vm [.int R, .int C, .ref l] none (some 2))) = H1 at *
  have s2 := Same.upd_new (o := .lst [V.ref u]) hm
  have k2 := qd (H := H1) (a := m) (o := .lst [V.ref u])
  generalize hH2 : upd H1 m (.lst [V.ref u]) = H2 at *
  have s12 := s1.trans s2
  refine ⟨_, rfl, p, _, (2 : Int), _, rfl, rfl, SqT.of (s12 _ _ hp), rfl, l, rfl, ⟨_, SqL.of (s12 _ _ hl)⟩, fun acc hacc => ?_⟩
  refine Bd (K := K) (a := l) (xs := ys) (qj6 H2 acc cs) ⟨none, [], rfl, Same.upd_new hacc, qd, .nil⟩ (fun i σ1 H3 _ hI => ?_) ?_ ?_
  ·obtain ⟨_, _, _, s3, _⟩ := hI
   exact SqL.of (s3 _ _ (s12 _ _ hl))
  ·intro i x σ1 H3 hi hI
   refine Il hI fun c1 zs hJ => ?_
   have eI := hJ.1
   have s3 := hJ.2.1
   have h3 := hJ.2.2.1
   have a3 := hJ.2.2.2
   clear hI hJ
   subst eI
   obtain ⟨X, hX, ad⟩ := Nz ry hi
   have hiL := (List.getElem?_eq_some_iff.mp hX).1
   have wf := (tl.fit X (List.mem_of_getElem? hX)).words.few
   obtain ⟨b, wb, rfl, hb, hwb⟩ := ut (ad.mono (s12.trans s3))
   have fin : ∀ (t : Addr) (H4 : Hp), Same H3 H4 -> H4 t = some (.tup ((um X).map pV)) -> ∃ xs, H4 acc = some (.lst xs) /\ xs.length < sizeLine /\ qj6 H2 acc cs (i + 1) [some (.ref b)] (upd H4 acc (.lst (xs ++ [.ref t]))) := fun t H4 s4 h4 => by
    have l3 := a3.length
    rw [List.length_map, List.length_take] at l3
    refine ⟨zs, s4 _ _ h3, zz (by omega), _, _, rfl, fun b' o e => ?_, qd, ?_⟩
    ·rw [qt (qz e hacc)]
     exact s4 _ _ (s3 _ _ e)
    ·have t5 : SameT H4 (upd H4 acc (.lst (zs ++ [.ref t]))) := SameT.put (s4 _ _ h3)
     rw [j9 hX]
     exact Paired.snoc' (O6 (s4.t.trans t5) a3) ⟨t, rfl, t5 _ _ h4⟩
   rw [Zx] at fin
   dsimp only [yf]
   rw [if_pos rfl]
   refine ⟨_, rfl, _, rfl, b, _, rfl, SqT.of hb, (fun z => absurd z.2 (by show ¬ HT.sIx 5 5 (some 4) = 5; decide)), fun t4 ht4 => ?_⟩
   have s4 := Same.upd_new (o := .tup (vm [.int X.top, .int X.left, .int X.h, .int X.w, .ref wb] none (some 4))) ht4
   have k4 : upd H3 t4 (.tup (vm [.int X.top, .int X.left, .int X.h, .int X.w, .ref wb] none (some 4))) t4 = some (.tup [.int X.top, .int X.left, .int X.h, .int X.w]) := qd
   generalize hH4 : upd H3 t4 (.tup (vm [.int X.top, .int X.left, .int X.h, .int X.w, .ref wb] none (some 4))) = H4 at *
   refine ⟨_, rfl, b, _, (4 : Int), _, rfl, rfl, SqT.of (s4 _ _ hb), rfl, t4, wb, _, _, rfl, rfl, SqT.of k4, SqT.of (s4 _ _ hwb), by simp, Ld (by rw [List.length_map]; show 4 + _ <= 1000; omega), fun e => ?_, fun _ t5 ht5 => ?_⟩
   ·refine fin t4 H4 s4 ?_
    rw [e]
    exact k4
   ·exact fin t5 _ (s4.trans (Same.upd_new ht5)) qd
  intro σ1 H3 hI
  refine Il hI fun c1 zs hJ => ?_
  have s3 := hJ.2.1
  have h3 := hJ.2.2.1
  have a3 := hJ.2.2.2
  clear hI hJ
  rw [← lx, List.take_length] at a3
  have l3 := a3.length
  rw [List.length_map] at l3
  refine ⟨m, acc, _, _, rfl, rfl, s3 _ _ k2, h3, Ld (by show 1 + _ <= 1000; omega), fun r hr => ?_⟩
  have s4 := Same.upd_new (o := .lst ([V.ref u] ++ zs)) hr
  have k4 := qd (H := H3) (a := r) (o := .lst ([V.ref u] ++ zs))
  generalize hH4 : upd H3 r (.lst ([V.ref u] ++ zs)) = H4 at *
  have a4 : Paired (qc6 H4) (Ag R C cs) ([V.ref u] ++ zs) := .cons ⟨u, rfl, s4 _ _ (s3 _ _ (s2 _ _ k1))⟩ (O6 s4.t a3)
  have s04 := (s12.trans s3).trans s4
  have tlen : (Ag R C cs).length = cs.length + 1 := by unfold Ag; rw [List.length_cons, List.length_map]
  generalize htp : Ag R C cs = pss at *
  refine ⟨rfl, _, rfl, r, rfl, ⟨_, SqL.of k4⟩, fun acc2 hacc2 => ?_⟩
  refine Bd (K := K) (a := r) (xs := [V.ref u] ++ zs) (fun i σ1 H5 => ∃ (c1 : Option V), σ1 = [c1] /\ Same H4 H5 /\ H5 acc2 = some (.lst (((pss.take i).map Yg).map V.str)))
   ⟨none, rfl, Same.upd_new hacc2, qd⟩ (fun i σ1 H5 _ ⟨_, _, s5, _⟩ => SqL.of (s5 _ _ k4)) ?_ ?_
  ·intro i x σ1 H5 hi hI
   refine Qn hI fun c1 hJ => ?_
   have eI := hJ.1
   have s5 := hJ.2.1
   have h5 := hJ.2.2
   clear hI hJ
   subst eI
   obtain ⟨ps, hps, t, rfl, ht⟩ := Paired.get2 a4 hi
   have hm := List.mem_of_getElem? hps
   dsimp only [yf]
   rw [if_pos rfl]
   refine ⟨_, rfl, t, ps, rfl, s5 _ _ ht, rok.each ps hm, rok.short ps hm, fun H6 s6 => ?_⟩
   refine ⟨_, s6 _ _ h5, zz (by rw [List.length_map, List.length_map, List.length_take]; omega), _, rfl, fun b o e => ?_, ?_⟩
   ·rw [qt (qz e hacc2)]
    exact s6 _ _ (s5 _ _ e)
   ·rw [qd, j9 hps, List.map_append]
    rfl
  intro σ1 H5 hI
  refine Qn hI fun c1 hJ => ?_
  have s5 := hJ.2.1
  have h5 := hJ.2.2
  clear hI hJ
  have l4 := a4.length
  rw [← l4, List.take_length] at h5
  have sm := Uo rok
  refine ⟨_, acc2, pss.map Yg, rfl, rfl, SqL.of h5, ?_, ?_⟩
  ·rw [Ml]
   show _ + (pss.map Yg).length * 0 <= _
   omega
  ·rw [Ml]
   exact q _ (s04.trans s5)
end
end KL
namespace KL
open PySem L2 GT PyProof.Rows
mutual
noncomputable def noL : Thg -> Prop
 | .lst _ => False
 | .tup ds => qn9 ds
 | .non => True
 | .bl _ => True
 | .int _ => True
 | .str _ => True
noncomputable def qn9 : List Thg -> Prop
 | [] => True
 | d :: ds => noL d /\ qn9 ds
end
mutual
theorem AtG.monoT {H H' : Hp} (s : SameT H H') : ∀ {g : Thg} {v : V}, noL g -> AtG H g v -> AtG H' g v
 | _, _, _, .non => .non
 | _, _, _, .bl b => .bl b
 | _, _, _, .int i => .int i
 | _, _, _, .str x h => .str x h
 | _, _, n, .tup h r => .tup (s _ _ h) (AtGL.monoT s (by unfold noL at n; exact n) r)
 | _, _, n, .lst h r => by unfold noL at n; exact n.elim
theorem AtGL.monoT {H H' : Hp} (s : SameT H H') : ∀ {g : List Thg} {v : List V}, qn9 g -> AtGL H g v -> AtGL H' g v
 | _, _, _, .nil => .nil
 | _, _, n, .cons h r => by
  unfold qn9 at n
  exact .cons (AtG.monoT s n.1 h) (AtGL.monoT s n.2 r)
end
theorem Bk : ∀ {gs : List Thg}, (∀ g ∈ gs, noL g) -> qn9 gs
 | [], _ => by unfold qn9; trivial
 | g :: gs, h => by unfold qn9; exact ⟨h g List.mem_cons_self, Bk fun x hx => h x (List.mem_cons_of_mem _ hx)⟩
theorem Js (x : Str) : noL (Mq x) := by
 unfold Mq
 split
 ·split <;> (unfold noL; trivial)
 ·unfold noL; trivial
theorem Gy (ps : List Str) : noL (wy ps) := by
 unfold wy noL
 refine Bk fun g hg => ?_
 rcases List.mem_append.mp hg with hg | hg
 ·obtain ⟨x, _, rfl⟩ := List.mem_map.mp hg
  exact Js x
 ·have : g = .tup ((ps.drop 4).map Thg.str) := by simpa using hg
  subst this
  unfold noL
  refine Bk fun g hg => ?_
  obtain ⟨x, _, rfl⟩ := List.mem_map.mp hg
  unfold noL
  trivial
theorem Xz {n : Nat} (h : n <= 1000000) : n < sizeLine := by rw [sizeLine_eq]; omega
noncomputable def qb0 : Sp := fun vs H Q _ => ∃ x : Str, vs = [.str x] /\ x.length <= 400000 /\ ∀ v H', Same H H' -> AtG H' (Mq x) v -> Q v H'
noncomputable def Jq : Sp := fun vs H Q _ => ∃ (l : Addr) (xs : List Str), vs = [.ref l] /\ H l = some (.lst (xs.map V.str)) /\ (∀ x ∈ xs, x.length <= 400000) /\ xs.length <= 500000 /\ ∀ t zs H', Same H H' -> H' t = some (.tup zs) -> AtGL H' (xs.map Mq) zs -> Q (.ref t) H'
noncomputable def Tj : Sp := fun vs H Q _ => ∃ x : Str, vs = [.str x] /\ x.length <= 400000 /\ ∀ v H', Same H H' -> AtG H' (wy (Txt.split x sp1)) v -> Q v H'
noncomputable def Yn : Sp := fun vs H Q _ => ∃ (v : V) (g : Thg), vs = [v] /\ AtG H g v /\ (isStr g = false -> ∀ l H', Same H H' -> H' l = some (.lst []) -> Q (.ref l) H') /\ (∀ z, g = .str z -> ∀ l H', Same H H' -> H' l = some (.lst ((GT.linesOf z).map V.str)) -> Q (.ref l) H')
theorem kh {H : Hp} {z : Str} {c : Nat} (hc : c < 256) {Q : VK} (n : z.length <= 400000) (q : ∀ l, H l = none -> Q (.ref l) (upd H l (.lst ((Txt.split z ⟨#[c]⟩).map V.str)))) : qi7 (.str z) [.str ⟨#[c]⟩] H Q := by
 have f := vy (x := z) hc
 exact ⟨z, ⟨#[c]⟩, rfl, rfl, rfl, zu (by omega), zu (by omega), zu (Nat.le_trans (Xu z c _) (by omega)), q⟩
section
variable {P : Program} {w : World} {K : PySem.W.Frag} {mg : Str -> Option Value} {base : Heap}
theorem qt6 : (["sign"] : List Str).Nodup := by decide +kernel
noncomputable abbrev nmfScope : Scope := j7 (Io (operandOf (orOf (qk5 (nth (je (top 28)) 0)) 1)) 0)
theorem Mz : FnScope ["part"] ["part"] (qj (top 28)) := ⟨rfl, rfl, rfl, by decide +kernel, rfl, by decide +kernel, by decide +kernel⟩
set_option maxHeartbeats 4000000 in
theorem O3 (T : Txt mg) (k_FIGURES : ∃ t, mg "FIGURES" = some (.str (Str.ofString "0123456789") t)) (k_MOST_FIGURES : ∃ t, mg "MOST_FIGURES" = some (.int 2 t)) (f : Addr) (fd : FuncData) (F : Fun K "number_in" "number_in" (top 28) f fd) : FnOk P w K mg base CX0 1 f fd ["part"] qb0 := by
 refine F.ok Mz (fun vs H Q E h => ?_) (fun cdv A outer s H vs Q E hr h => ?_)
 ·obtain ⟨x, rfl, _⟩ := h; rfl
 ·obtain ⟨x, rfl, hx, q⟩ := h
  obtain ⟨t_FIGURES, m_FIGURES⟩ := k_FIGURES
  obtain ⟨t_MOST_FIGURES, m_MOST_FIGURES⟩ := k_MOST_FIGURES
  have co_nmf : ∀ {X : Cx}, CompOk X nmfScope (Dk X.env.cells nmfScope.names []) ["sign"] [none] := jg rfl (by decide +kernel) (by decide +kernel) (by decide +kernel) rfl (by
    intro i hi x j e1 e2
    match i, hi, e1, e2 with
    | 0, _, e1, e2 => cases e2)
  have no : Yh x = false -> ∀ H', Same H H' -> Q .non H' := fun z H' s' => q .non H' s' (by
   unfold Mq
   rw [if_neg (by rw [z]; exact Bool.false_ne_true)]
   exact .non)
  refine ⟨_, (ql (jj (PW.pt (xx (jz (Mf Do Do qg (qy (xf (K := K) rfl) (by rfl) T.len PySem.boot_len (qb (pv 0) qi)) (Bw (v := .int 2) rfl m_MOST_FIGURES ⟨_, rfl⟩))) (xu (jz (jq (qy (Gg (K := K) rfl rfl) (by rfl) T.all PyProof.Rows.boot_all (qb (yg co_nmf rfl (Q0 (K := K) rfl (pv 0)) (fun _ _ _ _ => (zq (i := 0) qt6 rfl (by first | exact Or.inl rfl | exact Or.inr rfl) (Or.inr rfl))) (fun _ _ _ _ => yt) (fun _ _ _ _ => (yr Nb (pv 0) (Bw (v := .str (Str.ofString "0123456789")) rfl m_FIGURES ⟨_, rfl⟩) (by with_unfolding_all rfl)))) qi))))))) (qm (qx Wh)) q8)
   (qm (qx (yp qb1 (by rfl) T.int PyProof.Rows.boot_int (qb (pv 0) qi))))), ?_⟩
  generalize hsg : Str.ofString "0123456789" = sg
  have esg : sg = GT.figs := hsg.symm
  refine ⟨_, rfl, x, rfl, zu (by omega), _, _, rfl, rfl, _, rfl, vd (fun z1 => ?_) (fun z1 => ?_)⟩
  ·have z1 := of_decide_eq_true z1
   refine ⟨_, _, rfl, rfl, _, rfl, vd (fun z2 => ?_) (fun z2 => ?_)⟩
   ·rw [Bool.not_eq_true'] at z2
    have z2 : ¬ x.length <= 2 := fun y => of_decide_eq_false z2 (by omega)
    exact no (by unfold Yh; rw [decide_eq_false z2, Bool.and_false, Bool.false_and]) H fun _ _ z => z
   ·have z2 : x.length <= 2 := by
     have : ¬ (!decide ((x.length : Int) <= 2)) = true := z2
     rw [Bool.not_eq_true', Bool.not_eq_false, decide_eq_true_eq] at this
     omega
    refine ⟨_, rfl, x, rfl, fun acc hacc => ?_⟩
    refine Lz (x := x) (fun j σ1 H2 => ∃ (c1 : Option V), σ1 = [c1] /\ Same H H2 /\ j <= 12 /\ H2 acc = some (.lst (((x.cps.toList.take j).map qm2).map V.bl)))
     ⟨none, rfl, Same.upd_new hacc, Nat.zero_le _, qd⟩ ?_ ?_
    ·intro j c σ1 H2 hj hI
     refine Qn hI fun c1 hJ => ?_
     have eI := hJ.1
     have s2 := hJ.2.1
     have j2 := hJ.2.2.1
     have h2 := hJ.2.2.2
     clear hI hJ
     subst eI
     have hjl : j < x.length := (Array.getElem?_eq_some_iff.mp hj).1
     have hjc : x.cps.toList[j]? = some c := by rw [Array.getElem?_toList]; exact hj
     dsimp only [yf]
     rw [if_pos rfl]
     refine ⟨_, rfl, _, sg, rfl, rfl, ?_⟩
     rw [esg]
     refine ⟨_, h2, zz (by rw [List.length_map, List.length_map, List.length_take]; omega), _, rfl, fun b o e => ?_, by omega, ?_⟩
     ·rw [qt (qz e hacc)]
      exact s2 _ _ e
     ·rw [qd, List.take_add_one, hjc, List.map_append, List.map_append]
      rfl
    intro σ1 H2 hI
    refine Qn hI fun c1 hJ => ?_
    have s2 := hJ.2.1
    have h2 := hJ.2.2.2
    have h2 : H2 acc = some (.lst ((x.cps.toList.map qm2).map V.bl)) := by
     rw [h2]
     congr 4
     exact List.take_of_length_le (by show x.cps.toList.length <= x.cps.size; rw [Array.length_toList]; exact Nat.le_refl _)
    have e : (x.cps.toList.map qm2).all id = x.cps.toList.all qm2 := by rw [List.all_map]; rfl
    unfold Tz
    refine qc0 h2 ?_
    rw [e]
    refine ⟨_, rfl, ?_⟩
    cases ha : x.cps.toList.all qm2 with
    | false => exact uh (no (by unfold Yh; rw [ha, Bool.and_false]) H2 s2)
    | true =>
     have hb : Yh x = true := by
      unfold Yh
      rw [ha, decide_eq_true (by omega : 1 <= x.length), decide_eq_true z2]
      rfl
     obtain ⟨n, hn⟩ := qf3 hb
     refine uo ⟨_, rfl, x, n, rfl, hn, by omega, q _ H2 s2 ?_⟩
     unfold Mq
     rw [if_pos hb, hn]
     exact .int n
  ·have z1 : ¬ 1 <= x.length := fun y => z1 (decide_eq_true (by omega))
   exact ⟨false, rfl, uh (no (by unfold Yh; rw [decide_eq_false z1, Bool.false_and, Bool.false_and]) H fun _ _ z => z)⟩
end
section
variable {P : Program} {w : World} {K : PySem.W.Frag} {mg : Str -> Option Value} {base : Heap}
theorem qw3 : (["part"] : List Str).Nodup := by decide +kernel
noncomputable abbrev nmiScope : Scope := j7 (Io (ug (nth (je (top 27)) 0)) 0)
theorem Mp : FnScope ["parts"] ["parts"] (qj (top 27)) := ⟨rfl, rfl, rfl, by decide +kernel, rfl, by decide +kernel, by decide +kernel⟩
set_option maxHeartbeats 4000000 in
theorem Jv (T : Txt mg) (c_number_in : Cal P w K mg base 1 "number_in" ["part"] qb0) (f : Addr) (fd : FuncData) (F : Fun K "numbers_in" "numbers_in" (top 27) f fd) : FnOk P w K mg base CX0 2 f fd ["parts"] Jq := by
 refine F.ok Mp (fun vs H Q E h => ?_) (fun cdv A outer s H vs Q E hr h => ?_)
 ·obtain ⟨l, xs, rfl, _⟩ := h; rfl
 ·obtain ⟨l, xs, rfl, hl, each, few, q⟩ := h
  have hr_number_in : Room 1 (A.deeper (envOfC "numbers_in" (qj (top 27)) s.heap.objs.size f cdv)) := hr.mono (by decide)
  have co_nmi : ∀ {X : Cx}, CompOk X nmiScope (Dk X.env.cells nmiScope.names []) ["part"] [none] := jg rfl (by decide +kernel) (by decide +kernel) (by decide +kernel) rfl (by
    intro i hi x j e1 e2
    match i, hi, e1, e2 with
    | 0, _, e1, e2 => cases e2)
  refine ⟨_, (qm (qx (yp (Ar (K := K) rfl) (by rfl) T.tuple PyProof.Rows.boot_tuple (qb (yg co_nmi rfl (ud (K := K) rfl (pv 0)) (fun _ _ _ _ => (zq (i := 0) qw3 rfl (by first | exact Or.inl rfl | exact Or.inr rfl) (Or.inr rfl))) (fun _ _ _ _ => yt) (fun _ _ _ _ => (qu c_number_in hr_number_in rfl (qb (pv 0) qi)))) qi)))), ?_⟩
  refine ⟨_, rfl, l, rfl, ⟨_, SqL.of hl⟩, fun acc hacc => ?_⟩
  refine Bd (K := K) (a := l) (xs := xs.map V.str) (fun i σ1 H2 => ∃ (c1 : Option V) (zs : List V), σ1 = [c1] /\ Same H H2 /\ H2 acc = some (.lst zs) /\ AtGL H2 ((xs.take i).map Mq) zs)
   ⟨none, [], rfl, Same.upd_new hacc, qd, .nil⟩ (fun i σ1 H2 _ ⟨_, _, _, s2, _⟩ => SqL.of (s2 _ _ hl)) ?_ ?_
  ·intro i x σ1 H2 hi hI
   refine Il hI fun c1 zs hJ => ?_
   have eI := hJ.1
   have s2 := hJ.2.1
   have h2 := hJ.2.2.1
   have a2 := hJ.2.2.2
   clear hI hJ
   subst eI
   rw [List.getElem?_map] at hi
   obtain ⟨y, hy, rfl⟩ := Option.map_eq_some_iff.mp hi
   have hil := (List.getElem?_eq_some_iff.mp hy).1
   have l2 := a2.length
   rw [List.length_map, List.length_take] at l2
   dsimp only [yf]
   rw [if_pos rfl]
   refine ⟨_, rfl, y, rfl, each y (List.mem_of_getElem? hy), fun v H3 s3 a3 => ?_⟩
   refine ⟨zs, s3 _ _ h2, Xz (by omega), _, _, rfl, fun b o e => ?_, qd, ?_⟩
   ·rw [qt (qz e hacc)]
    exact s3 _ _ (s2 _ _ e)
   ·have t6 : SameT H3 (upd H3 acc (.lst (zs ++ [v]))) := SameT.put (s3 _ _ h2)
    rw [j9 hy]
    exact Paired.snoc' (AtGL.monoT t6 (Bk fun g hg => by
     obtain ⟨x, _, rfl⟩ := List.mem_map.mp hg
     exact Js x) (AtGL.mono s3 a2)) (AtG.monoT t6 (Js y) a3)
  intro σ1 H2 hI
  refine Il hI fun c1 zs hJ => ?_
  have s2 := hJ.2.1
  have h2 := hJ.2.2.1
  have a2 := hJ.2.2.2
  clear hI hJ
  rw [List.length_map, List.take_length] at a2
  exact ⟨acc, _, rfl, .inl ⟨SqL.of h2, fun t ht => q t zs _ (s2.trans (Same.upd_new ht)) qd (AtGL.mono (Same.upd_new ht) a2)⟩⟩
theorem sc_cell_in : FnScope ["row", "parts"] ["row"] (qj (top 26)) := ⟨rfl, rfl, rfl, by decide +kernel, rfl, by decide +kernel, by decide +kernel⟩
set_option maxHeartbeats 4000000 in
theorem Xg (T : Txt mg) (c_numbers_in : Cal P w K mg base 2 "numbers_in" ["parts"] Jq) (f : Addr) (fd : FuncData) (F : Fun K "cell_in" "cell_in" (top 26) f fd) : FnOk P w K mg base CX0 3 f fd ["row"] Tj := by
 refine F.ok sc_cell_in (fun vs H Q E h => ?_) (fun cdv A outer s H vs Q E hr h => ?_)
 ·obtain ⟨x, rfl, _⟩ := h; rfl
 ·obtain ⟨x, rfl, hx, q⟩ := h
  have hr_numbers_in : Room 2 (A.deeper (envOfC "cell_in" (qj (top 26)) s.heap.objs.size f cdv)) := hr.mono (by decide)
  refine ⟨_, (ql (zf (i := 1) sc_cell_in.nd rfl (by first | exact Or.inl rfl | exact Or.inr rfl) (j6 (K := K) rfl PySem.F.plainAttrs_str PySem.F.slot_str_split PySem.F.type_str_split Bm (pv 0) (qb jb qi)))
   (qm (qx (qw (Dw (K := K) rfl) (qu c_numbers_in hr_numbers_in rfl (qb (zb (jr (K := K) rfl) (pv 1) jd (zp qg)) qi)) (yx (qb (yp (Ar (K := K) rfl) (by rfl) T.tuple PyProof.Rows.boot_tuple (qb (zb (jr (K := K) rfl) (pv 1) (zp qg) jd) qi)) qi)))))), ?_⟩
  refine ⟨_, rfl, rfl, ?_⟩
  unfold N8 tC Tz
  rw [Gn]
  refine kh (c := 32) (by decide) hx fun m hm => ?_
  have fw := vy (x := x) (c := 32) (by decide)
  have pp : ∀ y ∈ Txt.split x sp1, y.length <= 400000 := fun y hy => Nat.le_trans (Dj (c := 32) (by decide) hy) hx
  have ne := Jx (x := x) (c := 32) (by decide)
  have ex : Txt.split x ⟨#[32]⟩ = Txt.split x sp1 := rfl
  rw [ex] at fw ne ⊢
  generalize Txt.split x sp1 = ps at *
  have s1 := Same.upd_new (o := .lst (ps.map V.str)) hm
  have k1 := qd (H := H) (a := m) (o := .lst (ps.map V.str))
  generalize hH1 : upd H m (.lst (ps.map V.str)) = H1 at *
  refine ⟨_, rfl, _, rfl, m, _, rfl, SqL.of k1, fun u hu => ?_⟩
  have e1 : vm (ps.map V.str) none (some 4) = (ps.take 4).map V.str := by rw [List.map_take]; exact Zv (i := 4)
  rw [e1]
  have s2 := Same.upd_new (o := .lst ((ps.take 4).map V.str)) hu
  have k2 := qd (H := H1) (a := u) (o := .lst ((ps.take 4).map V.str))
  generalize hH2 : upd H1 u (.lst ((ps.take 4).map V.str)) = H2 at *
  refine ⟨u, ps.take 4, rfl, k2, fun y hy => pp y (List.mem_of_mem_take hy), by rw [List.length_take]; omega, fun t zs H3 s3 h3 a3 => ?_⟩
  refine ⟨_, rfl, _, rfl, m, _, rfl, SqL.of (s3 _ _ (s2 _ _ k1)), fun u2 hu2 => ?_⟩
  have e2 : vm (ps.map V.str) (some 4) none = (ps.drop 4).map V.str := by rw [List.map_drop]; exact Qu (i := 4)
  rw [e2]
  have s4 := Same.upd_new (o := .lst ((ps.drop 4).map V.str)) hu2
  have k4 := qd (H := H3) (a := u2) (o := .lst ((ps.drop 4).map V.str))
  generalize hH4 : upd H3 u2 (.lst ((ps.drop 4).map V.str)) = H4 at *
  refine ⟨u2, _, rfl, .inl ⟨SqL.of k4, fun wt hwt => ?_⟩⟩
  have s5 := Same.upd_new (o := .tup ((ps.drop 4).map V.str)) hwt
  have k5 := qd (H := H4) (a := wt) (o := .tup ((ps.drop 4).map V.str))
  generalize hH5 : upd H4 wt (.tup ((ps.drop 4).map V.str)) = H5 at *
  refine ⟨by show 1 <= sizeLine; decide, fun t6 ht6 => ?_⟩
  have s6 := Same.upd_new (o := .tup [.ref wt]) ht6
  have k6 := qd (H := H5) (a := t6) (o := .tup [.ref wt])
  generalize hH6 : upd H5 t6 (.tup [.ref wt]) = H6 at *
  have s36 := (s4.trans s5).trans s6
  have lz := a3.length
  rw [List.length_map, List.length_take] at lz
  have zne : zs ≠ [] := fun z => by
   rw [z, List.length_nil] at lz
   have : 0 < ps.length := List.length_pos_iff.mpr ne
   omega
  refine ⟨t, t6, zs, _, rfl, rfl, SqT.of (s36 _ _ h3), SqT.of k6, zne, zu (by simp only [List.length_cons, List.length_nil]; omega), fun e => (by cases e), fun _ t7 ht7 => ?_⟩
  have s7 := Same.upd_new (o := .tup (zs ++ [.ref wt])) ht7
  have s37 := s36.trans s7
  refine q _ _ (((s1.trans s2).trans s3).trans s37) ?_
  exact .tup qd (Paired.snoc' (AtGL.mono s37 a3) (.tup (s7 _ _ (s6 _ _ k5)) (Ju fun y hy => pp y (List.mem_of_mem_drop hy))))
theorem Lj : FnScope ["thing"] ["thing"] (qj (top 25)) := ⟨rfl, rfl, rfl, by decide +kernel, rfl, by decide +kernel, by decide +kernel⟩
set_option maxHeartbeats 4000000 in
theorem J9 (T : Txt mg) (f : Addr) (fd : FuncData) (F : Fun K "ended_rows" "ended_rows" (top 25) f fd) : FnOk P w K mg base CX0 1 f fd ["thing"] Yn := by
 refine F.ok Lj (fun vs H Q E h => ?_) (fun cdv A outer s H vs Q E hr h => ?_)
 ·obtain ⟨v, g, rfl, _⟩ := h; rfl
 ·obtain ⟨v, g, rfl, ag, qn, qs⟩ := h
  refine ⟨_, (ql (jj (PW.pt (xx (jz (jq (qy (zm (K := K) rfl) (by rfl) T.isinstance PyProof.Rows.boot_isinstance (qb (pv 0) (qb (ju (v := .ty "str") rfl T.str PyProof.Rows.boot_str rfl) qi))))) (xu (jz (jq (j6 (K := K) rfl PySem.F.plainAttrs_str PySem.F.slot_str_endswith PySem.F.type_str_endswith qe4 (pv 0) (qb jb qi))))))) (qm (qx (Bl qi))) q8)
   (qm (qx (zb (jr (K := K) rfl) (j6 (K := K) rfl PySem.F.plainAttrs_str PySem.F.slot_str_split PySem.F.type_str_split Bm (pv 0) (qb jb qi)) jd (zp (qi4 Ub qg)))))), ?_⟩
  rw [Bf]
  refine ⟨_, rfl, _, "str", _, isStr g, rfl, ag.ty, qb2 g, isStr g, rfl, ?_⟩
  cases g with
  | str tx =>
   obtain ⟨rfl, hx⟩ := ag.str_inv
   have q := qs tx rfl
   unfold GT.linesOf at q
   refine uo ?_
   refine ⟨_, rfl, rfl, tx, nl1, rfl, rfl, _, rfl, ?_⟩
   cases en : Txt.endswith tx nl1 with
   | false =>
    rw [if_neg (by rw [en]; exact Bool.false_ne_true)] at q
    exact uh ⟨by show 0 <= sizeLine; decide, fun l hl => q l _ (Same.upd_new hl) qd⟩
   | true =>
    rw [if_pos en] at q
    refine uo ?_
    have fw := vy (x := tx) (c := 10) (by decide)
    have ne := Jx (x := tx) (c := 10) (by decide)
    refine ⟨_, rfl, rfl, ?_⟩
    unfold N8 tC Tz
    refine kh (c := 10) (by decide) hx fun m hm => ?_
    have ex : Txt.split tx ⟨#[10]⟩ = Txt.split tx nl1 := rfl
    rw [ex] at fw ne ⊢
    obtain ⟨ys, y, ey⟩ : ∃ ys y, Txt.split tx nl1 = ys ++ [y] := ⟨_, _, (List.dropLast_concat_getLast ne).symm⟩
    rw [ey, List.dropLast_concat] at q
    rw [ey, List.map_append]
    refine ⟨_, rfl, _, rfl, m, _, rfl, SqL.of qd, fun u hu => ?_⟩
    rw [show vm (ys.map V.str ++ [y].map V.str) none (some (-1)) = ys.map V.str from qg3 _ _]
    exact q u _ ((Same.upd_new hm).trans (Same.upd_new hu)) qd
  | _ => exact uh (uh ⟨by show 0 <= sizeLine; decide, fun l hl => qn rfl l _ (Same.upd_new hl) qd⟩)
end
end KL
namespace KL
open PySem L2 GT PyProof.Rows
theorem qa6 {T : TS} {D : Ends} {σ : L2.St} {H : Hp} {P : L2.St -> Hp -> Prop} (k : ∀ N2 : L2.St -> Hp -> Prop, (∀ σ' H', P σ' H' -> N2 σ' H') -> T { D with nx := N2 } σ H) (h : ∀ σ' H', P σ' H' -> D.nx σ' H') : T D σ H := k D.nx h
noncomputable def Dc (CB : Addr) : Sp := fun vs H Q E => ∃ (v : V) (g : Thg), vs = [v] /\ AtG H g v /\ ((isStr g = false /\ ∀ H', Same H H' -> E (.ref CB) none H') \/
 ∃ z, g = .str z /\ ((yh z /\ ∀ R C cs v' H', Tiles R C cs -> 1 <= R -> R <= 16 -> 1 <= C -> C <= 16 -> plainT (Ag R C cs) = z -> Same H H' -> At H' (Mr R C cs) v' -> Q v' H') \/ (¬ yh z /\ ∀ H', Same H H' -> E (.ref CB) none H')))
theorem Zb (ls : List Str) : fits 2 (.lst (ls.map Dd.str)) := fun d hd => by
 obtain ⟨x, _, rfl⟩ := List.mem_map.mp hd
 trivial
section
variable {P : Program} {w : World} {K : PySem.W.Frag} {mg : Str -> Option Value} {base : Heap}
theorem qw2 : (["row"] : List Str).Nodup := by decide +kernel
noncomputable abbrev rdpScope : Scope := j7 (ug (nth (je (top 23)) 2))
theorem sc_read_plain : FnScope ["text", "rows", "cells", "told"] ["text"] (qj (top 23)) := ⟨rfl, rfl, rfl, by decide +kernel, rfl, by decide +kernel, by decide +kernel⟩
set_option maxHeartbeats 4000000 in
theorem J7 (T : Txt mg) {CX_BadTable : Addr} (x_BadTable : ExcJ P w K mg base "BadTable" CX_BadTable) {CX_BadPlain : Addr} (x_BadPlain : ExcC K mg base "BadPlain" CX_BadPlain) (c_checked : Cal1 P w K mg base 5 "checked" ["table"] (Ba CX_BadTable)) (c_plain : Cal P w K mg base 2 "plain" ["table"] J1) (c_ended_rows : Cal P w K mg base 1 "ended_rows" ["thing"] Yn) (c_cell_in : Cal P w K mg base 3 "cell_in" ["row"] Tj) (c_numbers_in : Cal P w K mg base 2 "numbers_in" ["parts"] Jq) (f : Addr) (fd : FuncData) (F : Fun K "read_plain" "read_plain" (top 23) f fd) : FnOk P w K mg base (CX1 P w base) 7 f fd ["text"] (Dc CX_BadPlain) := by
  refine F.ok1 sc_read_plain (fun vs H Q E h => ?_) (fun cdv A outer s H vs Q E hr h => ?_)
  · obtain ⟨v, g, rfl, _⟩ := h; rfl
  · obtain ⟨v, g, rfl, ag, hg⟩ := h
    have hr_checked : Room 5 (A.deeper (envOfC "read_plain" (qj (top 23)) s.heap.objs.size f cdv)) := hr.mono (by decide)
    have hr_plain : Room 2 (A.deeper (envOfC "read_plain" (qj (top 23)) s.heap.objs.size f cdv)) := hr.mono (by decide)
    have hr_ended_rows : Room 1 (A.deeper (envOfC "read_plain" (qj (top 23)) s.heap.objs.size f cdv)) := hr.mono (by decide)
    have hr_cell_in : Room 3 (A.deeper (envOfC "read_plain" (qj (top 23)) s.heap.objs.size f cdv)) := hr.mono (by decide)
    have hr_numbers_in : Room 2 (A.deeper (envOfC "read_plain" (qj (top 23)) s.heap.objs.size f cdv)) := hr.mono (by decide)
    have hu2 : (A.deeper (envOfC "read_plain" (qj (top 23)) s.heap.objs.size f cdv)).units + 1 + 1 < cLine := by have := hr.units; omega
    have co_rdp : ∀ {X : Cx}, CompOk X rdpScope (Dk X.env.cells rdpScope.names []) ["row"] [none] := jg rfl (by decide +kernel) (by decide +kernel) (by decide +kernel) rfl (by
        intro i hi x j e1 e2
        match i, hi, e1, e2 with
        | 0, _, e1, e2 => cases e2)
    refine ⟨_, (ql (zf (i := 1) sc_read_plain.nd rfl (by first | exact Or.inl rfl | exact Or.inr rfl) (qu c_ended_rows hr_ended_rows rfl (qb (pv 0) qi)))
      (ql (jj (za (Um (n := 1) hu2) (pv 1) (Bl qi) (zc _)) (qm (Qh x_BadPlain rfl rfl U7 (qb jb qi))) q8)
      (ql (ql4 co_rdp rfl (ud (K := K) rfl (zb (jr (K := K) rfl) (pv 1) (zp qg) jd)) (fun _ _ _ _ => (zq (i := 0) qw2 rfl (by first | exact Or.inl rfl | exact Or.inr rfl) (Or.inr rfl))) (fun _ _ _ _ => yt) (fun _ _ _ _ => (qu c_cell_in hr_cell_in rfl (qb (pv 0) qi))) sc_read_plain.nd (i := 2) rfl rfl rfl)
      (ql (qc8 (i := 3) c_checked hr_checked rfl rfl x_BadTable.mg x_BadPlain rfl (fun XE => (qb (qw (Dw (K := K) rfl) (qu c_numbers_in hr_numbers_in rfl (qb (j6 (K := K) rfl PySem.F.plainAttrs_str PySem.F.slot_str_split PySem.F.type_str_split Bm (zg (Dt (K := K) rfl) (pv 1) qg (fun _ _ => rfl)) (qb jb qi)) qi)) (yx (qb (pv 2) qi))) qi)) sc_read_plain.nd rfl (by first | exact Or.inl rfl | exact Or.inr rfl) (fun ea oe => (qb jb qi)))
      (ql (jj (za Z5 (qu c_plain hr_plain rfl (qb (pv 3) qi)) (pv 0) (zc _)) (qm (Qh x_BadPlain rfl rfl U7 (qb jb qi))) q8)
      (qm (qx (pv 3)))))))), ?_⟩
    dsimp only [qi0]
    refine qa6 (T := qj4 _ _) (P := fun σ H1 => ∃ (ls : List Str) (l : Addr), σ = [some v, some (.ref l), none, none] /\ Same H H1 /\ H1 l = some (.lst (ls.map V.str)) /\ (∀ x ∈ ls, x.length <= 400000) /\ ls.length <= 400001 /\
      (((∀ z, g = .str z -> ¬ yh z) /\ (isStr g = false -> ls = []) /\ ∀ H', Same H H' -> E (.ref CX_BadPlain) none H') \/
       ∃ (R C : Nat) (cs : List Cell) (z : Str), g = .str z /\ Tiles R C cs /\ 1 <= R /\ R <= 16 /\ 1 <= C /\ C <= 16 /\ plainT (Ag R C cs) = z /\ ls = jh (Al R C) :: cs.map fun x => jh (um x))) (fun N2 k2 => ?_) ?_
    · refine ⟨_, rfl, v, g, rfl, ag, fun no l H1 s1 h1 => ?_, fun z ez l H1 s1 h1 => ?_⟩
      · rcases hg with ⟨_, tell⟩ | ⟨z, rfl, _⟩
        · exact k2 _ _ ⟨[], l, rfl, s1, h1, (fun x hx => by cases hx), Nat.zero_le _, .inl ⟨(fun z ez => by rw [ez] at no; cases no), fun _ => rfl, tell⟩⟩
        · cases no
      · subst ez
        obtain ⟨_, hz⟩ := ag.str_inv
        have fw := vy (x := z) (c := 10) (by decide)
        have lz : ∀ x ∈ GT.linesOf z, x.length <= 400000 := fun x hx => by
          unfold GT.linesOf at hx
          split at hx
          · exact Nat.le_trans (Dj (c := 10) (by decide) ((List.dropLast_sublist _).subset hx)) hz
          · cases hx
        have ll : (GT.linesOf z).length <= 400001 := by
          unfold GT.linesOf
          split
          · rw [List.length_dropLast]
            have ex : Txt.split z ⟨#[10]⟩ = Txt.split z nl1 := rfl
            rw [ex] at fw
            omega
          · exact Nat.zero_le _
        rcases hg with ⟨no, _⟩ | ⟨z', ez, hg⟩
        · cases no
        injection ez with ez
        subst ez
        rcases hg with ⟨⟨R, C, cs, tl, R1, R2, C1, C2, e⟩, _⟩ | ⟨no, tell⟩
        · exact k2 _ _ ⟨_, l, rfl, s1, h1, lz, ll, .inr ⟨R, C, cs, z, rfl, tl, R1, R2, C1, C2, e, by rw [← e]; exact Ww tl.toPart R2 C2⟩⟩
        · exact k2 _ _ ⟨_, l, rfl, s1, h1, lz, ll, .inl ⟨(fun z' ez' => by injection ez' with ez'; subst ez'; exact no), (fun z => by cases z), tell⟩⟩
    rintro σ H1 ⟨ls, l, rfl, s1, h1, lz, ll, mode⟩
    refine ⟨_, rfl, by show 0 <= sizeLine; decide, fun u hu => ?_⟩
    have s2 := Same.upd_new (o := .lst []) hu
    have k2 := qd (H := H1) (a := u) (o := .lst [])
    generalize hH2 : upd H1 u (.lst []) = H2 at *
    have h2 := s2 _ _ h1
    have s02 := s1.trans s2
    refine ⟨.lst (ls.map Dd.str), .lst [], Zb _, trivial, .lst h2 (Lb _ _), .lst k2 .nil, fun e => ⟨true, rfl, uh ?_⟩, fun ne => ⟨false, rfl, uo ?_⟩⟩
    · have e : ls = [] := by
        injection e with e
        exact List.map_eq_nil_iff.mp e
      rcases mode with ⟨_, _, tell⟩ | ⟨R, C, cs, z, _, _, _, _, _, _, _, e2⟩
      · exact ⟨by show 1 <= sizeLine; decide, tell _ s02⟩
      · rw [e] at e2; cases e2
    obtain ⟨r0, rs, rfl⟩ : ∃ r0 rs, ls = r0 :: rs := by
      cases ls with
      | nil => exact absurd rfl ne
      | cons a b => exact ⟨a, b, rfl⟩
    rw [List.length_cons] at ll
    refine ⟨_, rfl, _, rfl, l, _, rfl, SqL.of h2, fun u3 hu3 => ?_⟩
    have e3 : vm ((r0 :: rs).map V.str) (some 1) none = rs.map V.str := Qu (i := 1)
    rw [e3]
    have s3 := Same.upd_new (o := .lst (rs.map V.str)) hu3
    have k3 := qd (H := H2) (a := u3) (o := .lst (rs.map V.str))
    generalize hH3 : upd H2 u3 (.lst (rs.map V.str)) = H3 at *
    refine ⟨u3, rfl, ⟨_, SqL.of k3⟩, fun acc hacc => ?_⟩
    refine Bd (K := K) (a := u3) (xs := rs.map V.str) (fun i σ1 H4 => ∃ (c1 : Option V) (zs : List V), σ1 = [c1] /\ Same H3 H4 /\ H4 acc = some (.lst zs) /\ AtGL H4 ((rs.take i).map fun r => wy (Txt.split r sp1)) zs)
      ⟨none, [], rfl, Same.upd_new hacc, qd, .nil⟩ (fun i σ1 H4 _ ⟨_, _, _, s4, _⟩ => SqL.of (s4 _ _ k3)) ?_ ?_
    · intro i x σ1 H4 hi hI
      refine Il hI fun c1 zs hJ => ?_
      have eI := hJ.1
      have s4 := hJ.2.1
      have h4 := hJ.2.2.1
      have a4 := hJ.2.2.2
      clear hI hJ
      subst eI
      rw [List.getElem?_map] at hi
      obtain ⟨y, hy, rfl⟩ := Option.map_eq_some_iff.mp hi
      have hil := (List.getElem?_eq_some_iff.mp hy).1
      have l4 := a4.length
      rw [List.length_map, List.length_take] at l4
      dsimp only [yf]
      rw [if_pos rfl]
      refine ⟨_, rfl, y, rfl, lz y (List.mem_cons_of_mem _ (List.mem_of_getElem? hy)), fun v' H5 s5 a5 => ?_⟩
      refine ⟨zs, s5 _ _ h4, Xz (by omega), _, _, rfl, fun b o e => ?_, qd, ?_⟩
      · rw [qt (qz e hacc)]
        exact s5 _ _ (s4 _ _ e)
      · have t6 : SameT H5 (upd H5 acc (.lst (zs ++ [v']))) := SameT.put (s5 _ _ h4)
        rw [j9 hy]
        exact Paired.snoc' (AtGL.monoT t6 (Bk fun g hg => by
          obtain ⟨x, _, rfl⟩ := List.mem_map.mp hg
          exact Gy _) (AtGL.mono s5 a4)) (AtG.monoT t6 (Gy _) a5)
    intro σ1 H4 hI
    refine Il hI fun c1 zs hJ => ?_
    have s4 := hJ.2.1
    have h4 := hJ.2.2.1
    have a4 := hJ.2.2.2
    clear hI hJ
    rw [List.length_map, List.take_length] at a4
    have s24 := s3.trans s4
    have lr0 := lz r0 List.mem_cons_self
    refine ⟨_, rfl, l, _, (0 : Int), .str r0, rfl, rfl, SqL.of (s24 _ _ h2), Df (j := 0) rfl, rfl, ?_⟩
    unfold N8 tC Tz
    rw [Gn]
    refine kh (c := 32) (by decide) lr0 fun m hm => ?_
    have fw := vy (x := r0) (c := 32) (by decide)
    have pp : ∀ y ∈ Txt.split r0 sp1, y.length <= 400000 := fun y hy => Nat.le_trans (Dj (c := 32) (by decide) hy) lr0
    have pne := Jx (x := r0) (c := 32) (by decide)
    have ex : Txt.split r0 ⟨#[32]⟩ = Txt.split r0 sp1 := rfl
    rw [ex] at fw pne ⊢
    have s5 := Same.upd_new (o := .lst ((Txt.split r0 sp1).map V.str)) hm
    have k5 := qd (H := H4) (a := m) (o := .lst ((Txt.split r0 sp1).map V.str))
    generalize hH5 : upd H4 m (.lst ((Txt.split r0 sp1).map V.str)) = H5 at *
    refine ⟨m, _, rfl, k5, pp, by omega, fun t ns H6 s6 h6 a6 => ?_⟩
    refine ⟨_, rfl, by show 1 <= sizeLine; decide, fun t7 ht7 => ?_⟩
    have s7 := Same.upd_new (o := .tup [.ref acc]) ht7
    have k7 := qd (H := H6) (a := t7) (o := .tup [.ref acc])
    generalize hH7 : upd H6 t7 (.tup [.ref acc]) = H7 at *
    have ln := a6.length
    rw [List.length_map] at ln
    have nne : ns ≠ [] := fun z => by
      rw [z, List.length_nil] at ln
      exact pne (List.length_eq_zero_iff.mp ln)
    refine ⟨t, t7, ns, _, rfl, rfl, SqT.of (s7 _ _ h6), SqT.of k7, nne, zu (by simp only [List.length_cons, List.length_nil]; omega), fun e => (by cases e), fun _ t8 ht8 => ?_⟩
    have s8 := Same.upd_new (o := .tup (ns ++ [.ref acc])) ht8
    have k8 := qd (H := H7) (a := t8) (o := .tup (ns ++ [.ref acc]))
    generalize hH8 : upd H7 t8 (.tup (ns ++ [.ref acc])) = H8 at *
    have s68 := s7.trans s8
    have s48 := (s5.trans s6).trans s68
    have s08 := (s02.trans s24).trans s48
    have lzs := a4.length
    rw [List.length_map] at lzs
    have a8 : AtG H8 (Qd r0 rs) (.ref t8) := .tup k8 (Paired.snoc' (AtGL.mono s68 a6) (.lst (s48 _ _ h4) (AtGL.mono s48 a4)))
    rcases mode with ⟨no, isS, tell⟩ | ⟨R, C, cs, z, rfl, tl, R1, R2, C1, C2, ez, els⟩
    · obtain ⟨z, rfl⟩ : ∃ z, g = .str z := by
        cases g with
        | str z => exact ⟨z, rfl⟩
        | _ => exact absurd (isS rfl) (by simp)
      obtain ⟨rfl, _⟩ := ag.str_inv
      have no := no z rfl
      have tellN : ∀ (dx : Addr) (H' : Hp), Same H8 H' -> PySem.W.exmOne K (.ref CX_BadTable) (.ref CX_BadTable) = some true /\ (some dx) ≠ none /\ (fun (us : List V) H3 => us.length <= sizeLine /\ E (.ref CX_BadPlain) none H3) [V.str (Str.ofString "what is written is no table")] H' := fun dx H' s' => ⟨x_BadTable.m, by simp, by show 1 <= sizeLine; decide, tell _ (s08.trans s')⟩
      refine ⟨.ref t8, _, rfl, a8, ?_⟩
      cases ef : jt (Qd r0 rs) with
      | false => exact .inl ⟨rfl, fun dx H' s' _ => tellN dx H' s'⟩
      | true =>
        obtain ⟨R, C, gs, eg, R1, R2, C1, C2⟩ := Yb ef
        have lgs : gs.length <= 500000 := by
          have e2 : ql2 r0 ++ [Thg.lst (rs.map fun r => wy (Txt.split r sp1))] = [.int (R : Int), .int (C : Int)] ++ [.lst gs] := by
            have := eg
            unfold Qd at this
            injection this
          have := (List.append_inj' e2 rfl).2
          injection this with this
          injection this with this
          rw [← this, List.length_map]
          omega
        obtain ⟨cs, pt, od, h⟩ := classify R C gs
        refine .inr ⟨R, C, cs, gs, eg, R1, R2, C1, C2, lgs, pt, od, ?_⟩
        rcases h with ⟨x, hx, ht, hw⟩ | e
        · exact .inl ⟨x, hx, ht, hw, fun dx H' s' _ => tellN dx H' s'⟩
        · refine .inr ⟨e, ?_⟩
          by_cases all : ∀ r c, r < R -> c < C -> GT.cov cs r c
          · refine .inr ⟨all, fun p2 l2 zs2 H9 s9 _ hp2 hl2 az2 => ?_⟩
            have tl : Tiles R C cs := ⟨pt, all, od⟩
            have a9 : At H9 (Mr R C cs) (.ref p2) := Nq hp2 hl2 az2
            refine ⟨_, rfl, .ref p2, R, C, cs, rfl, a9, pt, R2, C2, fun H10 s10 => ⟨_, rfl, ?_⟩⟩
            refine ⟨rfl, _, rfl, ?_⟩
            by_cases ez : plainT (Ag R C cs) = z
            · exact absurd ⟨R, C, cs, tl, R1, R2, C1, C2, ez⟩ no
            · rw [decide_eq_false (fun y => ez (by injection y))]
              exact uh ⟨by show 1 <= sizeLine; decide, tell _ ((s08.trans s9).trans s10)⟩
          · refine .inl ⟨?_, fun dx H' s' _ => tellN dx H' s'⟩
            refine Classical.byContradiction fun z => all fun r c hr hc => Classical.byContradiction fun y => z ⟨r, c, hr, hc, y⟩
    · injection els with e1 e2
      subst e1 e2
      obtain ⟨rfl, _⟩ := ag.str_inv
      rw [Qs tl.toPart R2 C2] at a8
      have few := Xp tl.toPart R2 C2
      have q : ∀ R C cs v' H', Tiles R C cs -> 1 <= R -> R <= 16 -> 1 <= C -> C <= 16 -> plainT (Ag R C cs) = z -> Same H H' -> At H' (Mr R C cs) v' -> Q v' H' := by
        rcases hg with ⟨no, _⟩ | ⟨z', ez', hg⟩
        · cases no
        injection ez' with ez'
        subst ez'
        rcases hg with ⟨_, q⟩ | ⟨no, _⟩
        · exact q
        · exact absurd ⟨R, C, cs, tl, R1, R2, C1, C2, ez⟩ no
      refine ⟨.ref t8, _, rfl, a8, .inr ⟨R, C, cs, _, rfl, R1, R2, C1, C2, by rw [List.length_map]; omega, tl.toPart, tl.ord, .inr ⟨rfl, .inr ⟨tl.all, fun p2 l2 zs2 H9 s9 _ hp2 hl2 az2 => ?_⟩⟩⟩⟩
      have a9 : At H9 (Mr R C cs) (.ref p2) := Nq hp2 hl2 az2
      refine ⟨_, rfl, .ref p2, R, C, cs, rfl, a9, tl.toPart, R2, C2, fun H10 s10 => ⟨_, rfl, rfl, _, rfl, qr4 (by rw [ez]) ?_⟩⟩
      exact ⟨_, rfl, q R C cs _ H10 tl R1 R2 C1 C2 ez ((s08.trans s9).trans s10) (a9.mono s10)⟩
end
end KL
namespace KL
open PySem L2 GT PyProof.Rows
noncomputable def qp4 : Sp := fun vs H Q _ => ∃ x : Str, vs = [.str x] /\ WordOk x /\ ∀ H', Same H H' -> Q (.bl true) H'
noncomputable def qn5 : Sp := fun vs H Q _ => ∃ (v : V) (R C : Nat) (x : Cell), vs = [v] /\ At H x.D v /\ Fit R C x /\ ∀ H', Same H H' -> Q (.bl true) H'
noncomputable def qq0 : Sp := fun vs H Q _ => ∃ (v : V) (R C : Nat) (cs : List Cell), vs = [v] /\ At H (Mr R C cs) v /\ Tiles R C cs /\ 1 <= R /\ R <= 16 /\ 1 <= C /\ C <= 16 /\ ∀ H', Same H H' -> Q (.bl true) H'
noncomputable def Yt (e : Expr) : Expr := match e with
 | .Compare x _ _ _ => x
 | _ => e
section
variable {P : Program} {w : World} {K : PySem.W.Frag} {mg : Str -> Option Value} {base : Heap}
theorem qs6 : (["_law_sign", "_law_signs"] : List Str).Nodup := by decide +kernel
noncomputable abbrev qh1 : Scope := j7 (Yt (ug (nth (je (top 41)) 2)))
theorem sc__law_is_word : FnScope ["_law_word_here", "_law_signs"] ["_law_word_here"] (qj (top 41)) := ⟨rfl, rfl, rfl, by decide +kernel, rfl, by decide +kernel, by decide +kernel⟩
set_option maxHeartbeats 4000000 in
theorem Gr (T : Txt mg) (f : Addr) (fd : FuncData) (F : Fun K "_law_is_word" "_law_is_word" (top 41) f fd) : FnOk P w K mg base CX0 1 f fd ["_law_word_here"] qp4 := by
 refine F.ok sc__law_is_word (fun vs H Q E h => ?_) (fun cdv A outer s H vs Q E hr h => ?_)
 ·obtain ⟨x, rfl, _⟩ := h; rfl
 ·obtain ⟨x, rfl, ok, q⟩ := h
  have hu2 : (A.deeper (envOfC "_law_is_word" (qj (top 41)) s.heap.objs.size f cdv)).units + 1 + 1 < cLine := by have := hr.units; omega
  have co_liw := Dg (X := (uq CX0 P w K mg base ["_law_word_here", "_law_signs"] "_law_is_word" (qj (top 41)) f cdv A outer s H E).nox) (N1 := ["_law_sign", "_law_signs"]) (cap := [none, some 1])
   (scope := qh1) (sc := qj (top 41)) (s.heap.objs.size + 1) rfl rfl rfl
   (by decide +kernel) (by decide +kernel) (by decide +kernel) rfl (by
    intro i hi x j e1 e2
    match i, hi, e1, e2 with
    | 0, _, e1, e2 => cases e2
    | 1, _, e1, e2 => cases e1; cases e2; exact ⟨rfl, rfl, rfl⟩)
  refine ⟨_, (ql (jj (PW.pt (xx (jz (jq (qy (zm (K := K) rfl) (by rfl) T.isinstance PyProof.Rows.boot_isinstance (qb (pv 0) (qb (ju (v := .ty "str") rfl T.str PyProof.Rows.boot_str rfl) qi))))) (xu (jz (Mf Do Do qg (qy (xf (K := K) rfl) (by rfl) T.len PySem.boot_len (qb (pv 0) qi)) qg))))) (qm (qx vq)) q8)
   (ql (zf (i := 1) sc__law_is_word.nd rfl (by first | exact Or.inl rfl | exact Or.inr rfl) jb)
   (qm (qx (yr (Um (n := 1) hu2) (yg co_liw rfl (Q0 (K := K) rfl (pv 0)) (fun _ _ _ _ => (zq (i := 0) qs6 rfl (by first | exact Or.inl rfl | exact Or.inr rfl) (Or.inr rfl))) (fun _ _ _ _ => (qb8 (za Ob (pv 0) (pv 1) (by with_unfolding_all rfl)))) (fun _ _ _ _ => (pv 0))) (Bl qi) (zc _)))))), ?_⟩
  generalize hsg : Str.ofString "abcdefghijklmnopqrstuvwxyz0123456789" = sg
  have esg : sg = GT.signs := hsg.symm
  have lo := ok.lo
  have hi := ok.hi
  refine ⟨_, rfl, _, "str", _, true, rfl, .str x, rfl, true, rfl, uo ?_⟩
  refine ⟨_, rfl, x, rfl, zu (by omega), _, _, rfl, rfl, _, rfl, vd (fun _ => ?_) (fun z => absurd (decide_eq_true (by omega)) z)⟩
  refine ⟨_, _, rfl, rfl, _, rfl, qr4 (by omega) ?_⟩
  refine ⟨_, rfl, x, rfl, fun acc hacc => ?_⟩
  refine Lz (x := x) (fun j σ1 H2 => ∃ (c1 : Option V), σ1 = [c1, some (.str sg)] /\ Same H H2 /\ H2 acc = some (.lst []))
   ⟨none, rfl, Same.upd_new hacc, qd⟩ ?_ ?_
  ·intro j c σ1 H2 hj hI
   refine Qn hI fun c1 hJ => ?_
   have eI := hJ.1
   have s2 := hJ.2.1
   have h2 := hJ.2.2
   clear hI hJ
   subst eI
   have hc : c ∈ GT.signs.cps.toList := ok.all c (by
    have : x.cps.toList[j]? = some c := by rw [Array.getElem?_toList]; exact hj
    exact List.mem_of_getElem? this)
   dsimp only [yf]
   refine ⟨_, rfl, _, rfl, _, sg, rfl, rfl, _, rfl, ?_⟩
   rw [esg, GT.sign_in c hc]
   refine uo ⟨_, rfl, s2, h2⟩
  intro σ1 H2 hI
  refine Qn hI fun c1 hJ => ?_
  have s2 := hJ.2.1
  have h2 := hJ.2.2
  refine ⟨by show 0 <= sizeLine; decide, fun u hu => ?_⟩
  have s3 := Same.upd_new (o := .lst []) hu
  exact ⟨.lst [], .lst [], (fun d hd => by cases hd), trivial, .lst (s3 _ _ h2) .nil, .lst qd .nil, fun _ => q _ (s2.trans s3), fun z => absurd rfl z⟩
theorem qv7 : (["_law_word_here"] : List Str).Nodup := by decide +kernel
noncomputable abbrev licScope : Scope := j7 (Yt (orOf (ug (nth (je (top 42)) 2)) 2))
theorem sc__law_is_cell : FnScope ["_law_cell_here", "_law_number"] ["_law_cell_here"] (qj (top 42)) := ⟨rfl, rfl, rfl, by decide +kernel, rfl, by decide +kernel, by decide +kernel⟩
set_option maxHeartbeats 4000000 in
theorem Gw (T : Txt mg) (c__law_is_word : Cal P w K mg base 1 "_law_is_word" ["_law_word_here"] qp4) (f : Addr) (fd : FuncData) (F : Fun K "_law_is_cell" "_law_is_cell" (top 42) f fd) : FnOk P w K mg base CX0 2 f fd ["_law_cell_here"] qn5 := by
 refine F.ok sc__law_is_cell (fun vs H Q E h => ?_) (fun cdv A outer s H vs Q E hr h => ?_)
 ·obtain ⟨v, R, C, x, rfl, _⟩ := h; rfl
 ·obtain ⟨v, R, C, x, rfl, ax, fx, q⟩ := h
  have hr__law_is_word : Room 1 (A.deeper (envOfC "_law_is_cell" (qj (top 42)) s.heap.objs.size f cdv)) := hr.mono (by decide)
  have hu2 : (A.deeper (envOfC "_law_is_cell" (qj (top 42)) s.heap.objs.size f cdv)).units + 1 + 1 < cLine := by have := hr.units; omega
  have co_lic : ∀ {X : Cx}, CompOk X licScope (Dk X.env.cells licScope.names []) ["_law_word_here"] [none] := jg rfl (by decide +kernel) (by decide +kernel) (by decide +kernel) rfl (by
    intro i hi x j e1 e2
    match i, hi, e1, e2 with
    | 0, _, e1, e2 => cases e2)
  obtain ⟨b, wb, rfl, hb, hw⟩ := ut ax
  have h1 := fx.h1
  have w1 := fx.w1
  have few := fx.words.few
  refine ⟨_, (ql (jj (PW.pt (xx (jz (jq (qy (zm (K := K) rfl) (by rfl) T.isinstance PyProof.Rows.boot_isinstance (qb (pv 0) (qb (ju (v := .ty "tuple") rfl T.tuple PyProof.Rows.boot_tuple rfl) qi))))) (xx (za Z5 (qy (jm (K := K) rfl) (by rfl) T.len PySem.boot_len (qb (pv 0) qi)) qg (zc _)) (xx (jz (jq (qy (zm (K := K) rfl) (by rfl) T.isinstance PyProof.Rows.boot_isinstance (qb (zg (qp (K := K) rfl) (pv 0) qg (fun _ _ => rfl)) (qb (ju (v := .ty "tuple") rfl T.tuple PyProof.Rows.boot_tuple rfl) qi))))) (xu (za Iv (qy (jm (K := K) rfl) (by rfl) T.len PySem.boot_len (qb (zg (qp (K := K) rfl) (pv 0) qg (fun _ _ => rfl)) qi)) qg (zc _))))))) (qm (qx vq)) q8)
   (ql (xj PassesOwn.never rfl (Gk (K := K) rfl (zb (By (K := K) rfl) (pv 0) jd (zp qg))) (zq (i := 1) sc__law_is_cell.nd rfl (by first | exact Or.inl rfl | exact Or.inr rfl)) (qm (jj (PW.pt (xx (jz (jq (qy (zm (K := K) rfl) (by rfl) T.isinstance PyProof.Rows.boot_isinstance (qb (pv 1) (qb (ju (v := .ty "int") rfl T.int PyProof.Rows.boot_int rfl) qi))))) (xx (jq (qy (zm (K := K) rfl) (by rfl) T.isinstance PyProof.Rows.boot_isinstance (qb (pv 1) (qb (ju (v := .ty "bool") rfl T.bool PyProof.Rows.boot_bool rfl) qi)))) (xu (za Mi (pv 1) qg (zc _)))))) (qm (qx vq)) q8)))
   (qm (qx (ul (yr Iv (zg (qp (K := K) rfl) (pv 0) qg (fun _ _ => rfl)) qg (zc _)) (ul (yr Iv (zg (qp (K := K) rfl) (pv 0) qg (fun _ _ => rfl)) qg (zc _)) (Br (yr (Um (n := 1) hu2) (yg co_lic rfl (Gk (K := K) rfl (zg (qp (K := K) rfl) (pv 0) qg (fun _ _ => rfl))) (fun _ _ _ _ => (zq (i := 0) qv7 rfl (by first | exact Or.inl rfl | exact Or.inr rfl) (Or.inr rfl))) (fun _ _ _ _ => (qb8 (jz (jq (qu c__law_is_word hr__law_is_word rfl (qb (pv 0) qi)))))) (fun _ _ _ _ => (pv 0))) (Bl qi) (zc _))))))))), ?_⟩
  refine ⟨_, rfl, _, "tuple", _, true, rfl, .tup hb, rfl, true, rfl, uo ?_⟩
  refine ⟨_, rfl, b, _, rfl, .inr (SqT.of hb), rfl, _, rfl, uo ?_⟩
  refine ⟨_, rfl, b, _, (4 : Int), _, rfl, rfl, SqT.of hb, rfl, _, "tuple", _, true, rfl, .tup hw, rfl, true, rfl, uo ?_⟩
  refine ⟨_, rfl, b, _, (4 : Int), _, rfl, rfl, SqT.of hb, rfl, wb, _, rfl, .inr (SqT.of hw), _, _, rfl, rfl, _, rfl, vd (fun z => absurd (of_decide_eq_true z) (by rw [List.length_map]; omega)) (fun _ => ?_)⟩
  refine ⟨_, rfl, _, rfl, b, _, rfl, SqT.of hb, (fun z => absurd z.2 (by show ¬ HT.sIx 5 5 (some 4) = 5; decide)), fun t3 ht3 => ?_⟩
  rw [show vm [V.int (x.top : Int), V.int (x.left : Int), V.int (x.h : Int), V.int (x.w : Int), V.ref wb] none (some 4) = [V.int (x.top : Int), V.int (x.left : Int), V.int (x.h : Int), V.int (x.w : Int)] from rfl]
  have s3 := Same.upd_new (o := .tup [V.int (x.top : Int), V.int (x.left : Int), V.int (x.h : Int), V.int (x.w : Int)]) ht3
  have k3 := qd (H := H) (a := t3) (o := .tup [V.int (x.top : Int), V.int (x.left : Int), V.int (x.h : Int), V.int (x.w : Int)])
  generalize hH3 : upd H t3 (.tup [V.int (x.top : Int), V.int (x.left : Int), V.int (x.h : Int), V.int (x.w : Int)]) = H3 at *
  refine ⟨t3, rfl, ⟨_, SqT.of k3⟩, ?_⟩
  refine qp9 (K := K) (a := t3) (xs := [V.int (x.top : Int), V.int (x.left : Int), V.int (x.h : Int), V.int (x.w : Int)]) (fun _ σ H4 => ∃ c1 : Option V, σ = [some (.ref b), c1] /\ H4 = H3) ⟨none, rfl, rfl⟩ (fun i σ H4 _ ⟨_, _, e⟩ => by rw [e]; exact SqT.of k3) ?_ ?_
  ·intro i v σ H4 hi hI
   obtain ⟨n, rfl⟩ : ∃ n : Nat, v = .int (n : Int) := by
    match i, hi with
    | 0, hi => exact ⟨_, (Option.some.inj hi).symm⟩
    | 1, hi => exact ⟨_, (Option.some.inj hi).symm⟩
    | 2, hi => exact ⟨_, (Option.some.inj hi).symm⟩
    | 3, hi => exact ⟨_, (Option.some.inj hi).symm⟩
    | i + 4, hi => cases hi
   obtain ⟨c1, rfl, rfl⟩ := hI
   dsimp only [yf]
   refine ⟨_, rfl, _, "int", _, true, rfl, .int _, rfl, true, rfl, uo ?_⟩
   refine ⟨_, rfl, _, "bool", _, false, rfl, .int _, rfl, false, rfl, uo ?_⟩
   refine ⟨_, rfl, _, _, rfl, rfl, _, rfl, vd (fun z => absurd (of_decide_eq_true z) (by omega)) (fun _ => ?_)⟩
   exact ⟨_, rfl, rfl⟩
  rintro σ H4 ⟨c1, rfl, rfl⟩
  have hb3 := s3 _ _ hb
  have hw3 := s3 _ _ hw
  refine ⟨_, rfl, b, _, (2 : Int), _, rfl, rfl, SqT.of hb3, rfl, _, _, rfl, rfl, _, rfl, vd (fun _ => ?_) (fun z => absurd (decide_eq_true (by omega)) z)⟩
  refine ⟨_, rfl, b, _, (3 : Int), _, rfl, rfl, SqT.of hb3, rfl, _, _, rfl, rfl, _, rfl, vd (fun _ => ?_) (fun z => absurd (decide_eq_true (by omega)) z)⟩
  refine ⟨_, rfl, b, _, (4 : Int), _, rfl, rfl, SqT.of hb3, rfl, wb, rfl, ⟨_, SqT.of hw3⟩, fun acc hacc => ?_⟩
  refine Gb (K := K) (a := wb) (xs := x.words.map V.str) (fun j σ1 H5 => ∃ c1 : Option V, σ1 = [c1] /\ Same H4 H5 /\ H5 acc = some (.lst []))
   ⟨none, rfl, Same.upd_new hacc, qd⟩ (fun j σ1 H5 _ ⟨_, _, s5, _⟩ => SqT.of (s5 _ _ hw3)) ?_ ?_
  ·intro j v σ1 H5 hj hI
   refine Qn hI fun c1 hJ => ?_
   have eI := hJ.1
   have s5 := hJ.2.1
   have h5 := hJ.2.2
   clear hI hJ
   subst eI
   rw [List.getElem?_map] at hj
   obtain ⟨y, hy, rfl⟩ := Option.map_eq_some_iff.mp hj
   dsimp only [yf]
   refine ⟨_, rfl, y, rfl, fx.words.each y (List.mem_of_getElem? hy), fun H6 s6 => ⟨true, rfl, uo ?_⟩⟩
   exact ⟨_, rfl, s5.trans s6, s6 _ _ h5⟩
  intro σ1 H5 hI
  refine Qn hI fun c1 hJ => ?_
  have s5 := hJ.2.1
  have h5 := hJ.2.2
  refine ⟨by show 0 <= sizeLine; decide, fun u hu => ?_⟩
  have s6 := Same.upd_new (o := .lst []) hu
  exact ⟨.lst [], .lst [], (fun d hd => by cases hd), trivial, .lst (s6 _ _ h5) .nil, .lst qd .nil, fun _ => q _ ((s3.trans s5).trans s6), fun z => absurd rfl z⟩
end
end KL
namespace KL
open PySem L2 GT PyProof.Rows
noncomputable def qu9 (H : Hp) (p d : Addr) (R C : Nat) (cs : List Cell) (i : Nat) (σ : L2.St) (H2 : Hp) : Prop := ∃ (kv : List (List Key × V)) (la : Addr) (c3 c4 c5 : Option V) (a b : Int), σ = [some (.ref p), some (.ref d), some (.ref la), c3, c4, c5] /\ Same H H2 /\ H2 d = some (.dT kv) /\ Kv R C kv (GT.cov (cs.take i)) /\ H2 la = some (.tup [.int a, .int b]) /\ ∀ x, cs[i]? = some x -> a < (x.top : Int) \/ (a = (x.top : Int) /\ b < (x.left : Int))
noncomputable def qq9 (H H6 : Hp) (p d la q : Addr) (R C : Nat) (cs : List Cell) (i : Nat) (X : Cell) (j : Nat) (σ : L2.St) (H2 : Hp) : Prop := ∃ (kv : List (List Key × V)) (c4 c5 : Option V), σ = [some (.ref p), some (.ref d), some (.ref la), some (.ref q), c4, c5] /\ Same H H2 /\ SameT H6 H2 /\ H2 d = some (.dT kv) /\ Kv R C kv (fun r c => GT.cov (cs.take i) r c \/ (inC X r c /\ r < X.top + j))
noncomputable def ql8 (H H6 : Hp) (p d la q : Addr) (R C : Nat) (cs : List Cell) (i : Nat) (X : Cell) (j k : Nat) (σ : L2.St) (H2 : Hp) : Prop := ∃ (kv : List (List Key × V)) (c5 : Option V), σ = [some (.ref p), some (.ref d), some (.ref la), some (.ref q), some (.int ((X.top : Int) + (j : Int))), c5] /\ Same H H2 /\ SameT H6 H2 /\ H2 d = some (.dT kv) /\ Kv R C kv (fun r c => GT.cov (cs.take i) r c \/ (inC X r c /\ (r < X.top + j \/ (r = X.top + j /\ c < X.left + k))))
section
variable {P : Program} {w : World} {K : PySem.W.Frag} {mg : Str -> Option Value} {base : Heap}
theorem sc__law_is_table : FnScope ["_law_table_here", "_law_seen", "_law_last", "_law_cell_here", "_law_row", "_law_column"] ["_law_table_here"] (qj (top 43)) := ⟨rfl, rfl, rfl, by decide +kernel, rfl, by decide +kernel, by decide +kernel⟩
set_option maxHeartbeats 4000000 in
theorem Dp (T : Txt mg) (c__law_is_cell : Cal P w K mg base 2 "_law_is_cell" ["_law_cell_here"] qn5) (f : Addr) (fd : FuncData) (F : Fun K "_law_is_table" "_law_is_table" (top 43) f fd) : FnOk P w K mg base CX0 3 f fd ["_law_table_here"] qq0 := by
 refine F.ok sc__law_is_table (fun vs H Q E h => ?_) (fun cdv A outer s H vs Q E hr h => ?_)
 ·obtain ⟨v, R, C, cs, rfl, _⟩ := h; rfl
 ·obtain ⟨v, R, C, cs, rfl, ht, tl, R1, hR, C1, hC, q⟩ := h
  have hr__law_is_cell : Room 2 (A.deeper (envOfC "_law_is_table" (qj (top 43)) s.heap.objs.size f cdv)) := hr.mono (by decide)
  obtain ⟨p, l, ys, rfl, hp, hl, ry⟩ := Lf ht
  have lx := ry.length
  rw [List.length_map] at lx
  have hu : (A.deeper (envOfC "_law_is_table" (qj (top 43)) s.heap.objs.size f cdv)).units + 1 < cLine := by have := hr.units; omega
  have hu0 : (A.deeper (envOfC "_law_is_table" (qj (top 43)) s.heap.objs.size f cdv)).units < cLine := by omega
  refine ⟨_, (ql (jj (PW.pt (xx (jz (jq (qy (zm (K := K) rfl) (by rfl) T.isinstance PyProof.Rows.boot_isinstance (qb (pv 0) (qb (ju (v := .ty "tuple") rfl T.tuple PyProof.Rows.boot_tuple rfl) qi))))) (xx (za Z5 (qy (jm (K := K) rfl) (by rfl) T.len PySem.boot_len (qb (pv 0) qi)) qg (zc _)) (xu (jz (jq (qy (zm (K := K) rfl) (by rfl) T.isinstance PyProof.Rows.boot_isinstance (qb (zg (qp (K := K) rfl) (pv 0) qg (fun _ _ => rfl)) (qb (ju (v := .ty "list") rfl T.list PyProof.Rows.boot_list rfl) qi))))))))) (qm (qx vq)) q8)
   (ql (zf (i := 1) sc__law_is_table.nd rfl (by first | exact Or.inl rfl | exact Or.inr rfl) J4)
   (ql (zf (i := 2) sc__law_is_table.nd rfl (by first | exact Or.inl rfl | exact Or.inr rfl) (yx (qb (qi4 Ub qg) (qb (qi4 Ub qg) qi))))
   (ql (xj PassesOwn.never rfl (ud (K := K) rfl (zg (qp (K := K) rfl) (pv 0) qg (fun _ _ => rfl))) (zq (i := 3) sc__law_is_table.nd rfl (by first | exact Or.inl rfl | exact Or.inr rfl)) (ql (jj (PW.pt (xx (jz (jq (qu c__law_is_cell hr__law_is_cell rfl (qb (pv 3) qi)))) (xu (za (qi6 (K := K) rfl hu0) (zb (By (K := K) rfl) (pv 3) jd (zp qg)) (pv 2) (zc _))))) (qm (qx vq)) q8)
   (ql (zf (i := 2) sc__law_is_table.nd rfl (by first | exact Or.inl rfl | exact Or.inr rfl) (zb (By (K := K) rfl) (pv 3) jd (zp qg)))
   (qm (xj PassesOwn.never rfl (yo rfl T.range (qb (zg (qp (K := K) rfl) (pv 3) qg (fun _ _ => rfl)) (qb (qw zr (zg (qp (K := K) rfl) (pv 3) qg (fun _ _ => rfl)) (zg (qp (K := K) rfl) (pv 3) qg (fun _ _ => rfl))) qi))) (zq (i := 4) sc__law_is_table.nd rfl (by first | exact Or.inl rfl | exact Or.inr rfl)) (qm (xj PassesOwn.never rfl (yo rfl T.range (qb (zg (qp (K := K) rfl) (pv 3) qg (fun _ _ => rfl)) (qb (qw zr (zg (qp (K := K) rfl) (pv 3) qg (fun _ _ => rfl)) (zg (qp (K := K) rfl) (pv 3) qg (fun _ _ => rfl))) qi))) (zq (i := 5) sc__law_is_table.nd rfl (by first | exact Or.inl rfl | exact Or.inr rfl)) (ql (jj (PW.pt (xx (Uj (Zc hu (yx (qb (pv 4) (qb (pv 5) qi))) (pv 1)) (by rfl)) (xx (za qp2 (pv 4) (zg (qp (K := K) rfl) (pv 0) qg (fun _ _ => rfl)) (zc _)) (xu (za qp2 (pv 5) (zg (qp (K := K) rfl) (pv 0) qg (fun _ _ => rfl)) (zc _)))))) (qm (qx vq)) q8)
   (qm (Tt hu (pv 1) (yx (qb (pv 4) (qb (pv 5) qi))) vq rfl))))))))))
   (qm (qx (ul (Mm Do Do qg (zg (qp (K := K) rfl) (pv 0) qg (fun _ _ => rfl)) qg) (ul (Mm Do Do qg (zg (qp (K := K) rfl) (pv 0) qg (fun _ _ => rfl)) qg) (Br (yr Bv (qy (Jc (K := K) rfl) (by rfl) T.len PySem.boot_len (qb (pv 1) qi)) (qw xn (zg (qp (K := K) rfl) (pv 0) qg (fun _ _ => rfl)) (zg (qp (K := K) rfl) (pv 0) qg (fun _ _ => rfl))) (zc _))))))))))), ?_⟩
  refine ⟨_, rfl, _, "tuple", _, true, rfl, .tup hp, rfl, true, rfl, uo ?_⟩
  refine ⟨_, rfl, p, _, rfl, .inr (SqT.of hp), rfl, _, rfl, uo ?_⟩
  refine ⟨_, rfl, p, _, (2 : Int), _, rfl, rfl, SqT.of hp, rfl, _, "list", _, true, rfl, .lst hl, rfl, true, rfl, uo ?_⟩
  refine fun d hd => ?_
  have s0 := Same.upd_new (o := .dT []) hd
  have k0 := qd (H := H) (a := d) (o := .dT [])
  generalize hH0 : upd H d (.dT []) = H0 at *
  refine ⟨_, rfl, _, rfl, by show 2 <= sizeLine; decide, fun la hla => ?_⟩
  have s1 := Same.upd_new (o := .tup [.int (-1), .int (-1)]) hla
  have k1 := qd (H := H0) (a := la) (o := .tup [.int (-1), .int (-1)])
  generalize hH1 : upd H0 la (.tup [.int (-1), .int (-1)]) = H1 at *
  have s01 := s0.trans s1
  refine ⟨_, rfl, p, _, (2 : Int), _, rfl, rfl, SqT.of (s01 _ _ hp), rfl, l, rfl, ⟨_, SqL.of (s01 _ _ hl)⟩, ?_⟩
  refine Lr (K := K) (a := l) (xs := ys) (qu9 H p d R C cs) ⟨[], la, none, none, none, -1, -1, rfl, s01, s1 _ _ k0, ⟨by simp, fun k hk => by simp at hk, fun r c => ⟨fun z => absurd rfl z, fun ⟨x, hx, _⟩ => by simp at hx⟩⟩, k1, fun x _ => .inl (by omega)⟩ (fun i σ H2 _ hI => ?_) ?_ ?_
  ·obtain ⟨_, _, _, _, _, _, _, _, s2, _⟩ := hI
   exact SqL.of (s2 _ _ hl)
  ·intro i x σ H2 hi hI
   refine qx1 hI fun kv la c3 c4 c5 a b hJ => ?_
   have eI := hJ.1
   have s2 := hJ.2.1
   have d2 := hJ.2.2.1
   have kv2 := hJ.2.2.2.1
   have la2 := hJ.2.2.2.2.1
   have or2 := hJ.2.2.2.2.2
   clear hI hJ
   subst eI
   obtain ⟨X, hX, ad⟩ := Nz ry hi
   have hiL := (List.getElem?_eq_some_iff.mp hX).1
   have fX := tl.toPart.fit X (List.mem_of_getElem? hX)
   have f1 := fX.down
   have f2 := fX.across
   obtain ⟨b0, wb, rfl, hb0, hwb⟩ := ut (ad.mono s2)
   have hp2 := s2 _ _ hp
   have ordX := or2 X hX
   have ele : HT.lexLe [(X.top : Int), (X.left : Int)] [a, b] = false := by
    rw [HT.lexLe_cons]
    by_cases z : (X.top : Int) = a
    ·rw [if_pos z, HT.lexLe_cons, if_neg (by omega)]
     exact decide_eq_false (by omega)
    ·rw [if_neg z]
     exact decide_eq_false (by omega)
   refine ⟨_, rfl, .ref b0, R, C, X, rfl, ad.mono s2, fX, fun Hq sq => ⟨true, rfl, uo ?_⟩⟩
   replace s2 := s2.trans sq
   replace d2 := sq _ _ d2
   replace la2 := sq _ _ la2
   replace hp2 := sq _ _ hp2
   have hb := sq _ _ hb0
   clear hb0 sq
   refine ⟨_, rfl, _, rfl, b0, _, rfl, SqT.of hb, (fun z => absurd z.2 (by show ¬ HT.sIx 5 5 (some 2) = 5; decide)), fun t3 ht3 => ?_⟩
   rw [show vm [V.int (X.top : Int), V.int (X.left : Int), V.int (X.h : Int), V.int (X.w : Int), V.ref wb] none (some 2) = [V.int (X.top : Int), V.int (X.left : Int)] from rfl]
   have s3 := Same.upd_new (o := .tup [V.int (X.top : Int), V.int (X.left : Int)]) ht3
   have k3 := qd (H := Hq) (a := t3) (o := .tup [V.int (X.top : Int), V.int (X.left : Int)])
   generalize hH3 : upd Hq t3 (.tup [V.int (X.top : Int), V.int (X.left : Int)]) = H3 at *
   refine ⟨_, rfl, t3, la, [(X.top : Int), (X.left : Int)], [a, b], rfl, rfl, SqT.of k3, SqT.of (s3 _ _ la2), _, rfl, ?_⟩
   rw [ele]
   refine uo ?_
   have hb3 := s3 _ _ hb
   refine ⟨_, rfl, _, rfl, b0, _, rfl, SqT.of hb3, (fun z => absurd z.2 (by show ¬ HT.sIx 5 5 (some 2) = 5; decide)), fun l5 hl5 => ?_⟩
   rw [show vm [V.int (X.top : Int), V.int (X.left : Int), V.int (X.h : Int), V.int (X.w : Int), V.ref wb] none (some 2) = [V.int (X.top : Int), V.int (X.left : Int)] from rfl]
   have s5 := Same.upd_new (o := .tup [V.int (X.top : Int), V.int (X.left : Int)]) hl5
   have k5 := qd (H := H3) (a := l5) (o := .tup [V.int (X.top : Int), V.int (X.left : Int)])
   generalize hH5 : upd H3 l5 (.tup [V.int (X.top : Int), V.int (X.left : Int)]) = H5 at *
   have hb5 := s5 _ _ hb3
   have s25 := s3.trans s5
   have eh : ((X.top : Int) + (X.h : Int) - (X.top : Int)).toNat = X.h := by omega
   have ew : ((X.left : Int) + (X.w : Int) - (X.left : Int)).toNat = X.w := by omega
   have apart : ∀ r c, inC X r c -> ¬ GT.cov (cs.take i) r c := fun r c h1 ⟨y, hy, h2⟩ => by
    have pw := tl.toPart.dis
    rw [← List.take_append_drop i cs, List.drop_eq_getElem_cons hiL] at pw
    have := (List.pairwise_append.mp pw).2.2 y hy X (by rw [(List.getElem?_eq_some_iff.mp hX).2]; exact List.mem_cons_self)
    exact this r c h2 h1
   refine ⟨_, rfl, b0, _, (0 : Int), _, rfl, rfl, SqT.of hb5, rfl, _, rfl, b0, _, (0 : Int), _, rfl, rfl, SqT.of hb5, rfl, _, rfl, b0, _, (2 : Int), _, rfl, rfl, SqT.of hb5, rfl, _, _, rfl, rfl, (X.top : Int), (X.top : Int) + (X.h : Int), rfl, ⟨by omega, by omega, by omega, by omega⟩, ?_⟩
   rw [eh]
   refine jx (n := X.h) (qq9 H H5 p d l5 b0 R C cs i X) ⟨kv, c4, c5, rfl, s2.trans s25, fun _ _ z => z, s25 _ _ d2, kv2.same fun r c => ⟨fun z => .inl z, fun z => z.elim id fun z => absurd z.1.1 (by omega)⟩⟩ ?_ ?_
   ·intro j σ H6 hj hI
    refine qr2 hI fun kv c4 c5 hJ => ?_
    have eI := hJ.1
    have s6 := hJ.2.1
    have t6 := hJ.2.2.1
    have d6 := hJ.2.2.2.1
    have kv6 := hJ.2.2.2.2
    clear hI hJ
    subst eI
    have hb6 := t6 _ _ hb5
    refine ⟨_, rfl, b0, _, (1 : Int), _, rfl, rfl, SqT.of hb6, rfl, _, rfl, b0, _, (1 : Int), _, rfl, rfl, SqT.of hb6, rfl, _, rfl, b0, _, (3 : Int), _, rfl, rfl, SqT.of hb6, rfl, _, _, rfl, rfl, (X.left : Int), (X.left : Int) + (X.w : Int), rfl, ⟨by omega, by omega, by omega, by omega⟩, ?_⟩
    rw [ew]
    refine jx (n := X.w) (ql8 H H5 p d l5 b0 R C cs i X j) ⟨kv, c5, rfl, s6, t6, d6, kv6.same fun r c => ⟨fun z => z.imp id fun z => ⟨z.1, .inl z.2⟩, fun z => z.imp id fun z => ⟨z.1, z.2.elim id fun q => absurd z.1.2.2.1 (by omega)⟩⟩⟩ ?_ ?_
    ·intro k σ H7 hk hI
     refine Il hI fun kv c5 hJ => ?_
     have eI := hJ.1
     have s7 := hJ.2.1
     have t7 := hJ.2.2.1
     have d7 := hJ.2.2.2.1
     have kv7 := hJ.2.2.2.2
     clear hI hJ
     subst eI
     have e1 : (X.top : Int) + (j : Int) = ((X.top + j : Nat) : Int) := by simp
     have e2 : (X.left : Int) + (k : Int) = ((X.left + k : Nat) : Int) := by simp
     have hin : inC X (X.top + j) (X.left + k) := ⟨by omega, by omega, by omega, by omega⟩
     have hno : ¬ (GT.cov (cs.take i) (X.top + j) (X.left + k) \/ (inC X (X.top + j) (X.left + k) /\ (X.top + j < X.top + j \/ (X.top + j = X.top + j /\ X.left + k < X.left + k)))) := fun z => z.elim (apart _ _ hin) fun z => by have := z.2; omega
     have hvn : wk kv (pl (X.top + j) (X.left + k)) = none := by
      cases e : wk kv (pl (X.top + j) (X.left + k)) with
      | none => rfl
      | some o => exact absurd ((kv7.val _ _).mp (by rw [e]; simp)) hno
     dsimp only [yf]
     rw [e2, e1]
     refine ⟨_, rfl, _, rfl, by show 2 <= sizeLine; decide, fun t8 ht8 => ?_⟩
     have s8 := Same.upd_new (o := .tup [.int ((X.top + j : Nat) : Int), .int ((X.left + k : Nat) : Int)]) ht8
     have k8 := qd (H := H7) (a := t8) (o := .tup [.int ((X.top + j : Nat) : Int), .int ((X.left + k : Nat) : Int)])
     generalize hH8 : upd H7 t8 (.tup [.int ((X.top + j : Nat) : Int), .int ((X.left + k : Nat) : Int)]) = H8 at *
     refine ⟨_, rfl, d, _, rfl, DGet.t (k := pl (X.top + j) (X.left + k)) (s8 _ _ d7) k8, _, rfl, ?_⟩
     rw [hvn]
     refine uo ?_
     have hp8 := (s7.trans s8) _ _ hp
     refine ⟨_, rfl, _, rfl, p, _, (0 : Int), _, rfl, rfl, SqT.of hp8, rfl, _, _, rfl, rfl, _, rfl, vd (fun z => absurd (of_decide_eq_true z) (by omega)) (fun _ => ?_)⟩
     refine ⟨_, rfl, _, rfl, p, _, (1 : Int), _, rfl, rfl, SqT.of hp8, rfl, _, _, rfl, rfl, _, rfl, vd (fun z => absurd (of_decide_eq_true z) (by omega)) (fun _ => ?_)⟩
     refine ⟨_, rfl, _, rfl, _, rfl, by show 2 <= sizeLine; decide, fun t9 ht9 => ?_⟩
     have s9 := Same.upd_new (o := .tup [.int ((X.top + j : Nat) : Int), .int ((X.left + k : Nat) : Int)]) ht9
     have k9 := qd (H := H8) (a := t9) (o := .tup [.int ((X.top + j : Nat) : Int), .int ((X.left + k : Nat) : Int)])
     generalize hH9 : upd H8 t9 (.tup [.int ((X.top + j : Nat) : Int), .int ((X.left + k : Nat) : Int)]) = H9 at *
     have s79 := s8.trans s9
     have d9 := s79 _ _ d7
     have kf := kv7.few (by omega) (by omega)
     obtain ⟨_, kvn⟩ := kv7.put hno (by omega) (by omega) (V.bl true)
     refine ⟨d, _, rfl, DPut.t (k := pl (X.top + j) (X.left + k)) d9 k9 (zz (by omega)), ?_⟩
     refine ⟨_, some (.int ((X.left + k : Nat) : Int)), ?_, fun b' o e => ?_, (t7.trans s79.t).trans (SameT.putD d9), qd, kvn.same fun r c => ?_⟩
     ·rw [← e1]
      rfl
     ·rw [qt (qz e hd)]
      exact s79 _ _ (s7 _ _ e)
     ·constructor
      ·rintro ((z | z) | z)
       ·exact .inl z
       ·exact .inr ⟨z.1, z.2.imp id fun q => ⟨q.1, by omega⟩⟩
       ·obtain ⟨rfl, rfl⟩ := z
        exact .inr ⟨hin, .inr ⟨rfl, by omega⟩⟩
      ·rintro (z | z)
       ·exact .inl (.inl z)
       ·rcases z.2 with q | q
        ·exact .inl (.inr ⟨z.1, .inl q⟩)
        ·by_cases e : c = X.left + k
         ·exact .inr ⟨q.1, e⟩
         ·exact .inl (.inr ⟨z.1, .inr ⟨q.1, by omega⟩⟩)
    ·intro σ H7 hI
     refine Il hI fun kv c5 hJ => ?_
     have eI := hJ.1
     have s7 := hJ.2.1
     have t7 := hJ.2.2.1
     have d7 := hJ.2.2.2.1
     have kv7 := hJ.2.2.2.2
     clear hI hJ
     subst eI
     refine ⟨kv, _, _, rfl, s7, t7, d7, kv7.same fun r c => ⟨fun z => z.imp id fun z => ⟨z.1, by have := z.2; omega⟩, fun z => z.imp id fun z => ⟨z.1, ?_⟩⟩⟩
     have h1 := z.2
     have h2 := z.1.2.2.2
     omega
   ·intro σ H6 hI
    refine qr2 hI fun kv c4 c5 hJ => ?_
    have eI := hJ.1
    have s6 := hJ.2.1
    have t6 := hJ.2.2.1
    have d6 := hJ.2.2.2.1
    have kv6 := hJ.2.2.2.2
    clear hI hJ
    subst eI
    refine ⟨kv, l5, _, _, _, (X.top : Int), (X.left : Int), rfl, s6, d6, kv6.same fun r c => ?_, t6 _ _ k5, fun y hy => ?_⟩
    ·rw [List.take_add_one, hX]
     show _ ↔ GT.cov (cs.take i ++ [X]) r c
     rw [Dv]
     exact ⟨fun z => z.imp id fun z => z.1, fun z => z.imp id fun z => ⟨z, z.2.1⟩⟩
    ·have ord := tl.ord
     have hyl := (List.getElem?_eq_some_iff.mp hy)
     have := List.pairwise_iff_getElem.mp ord i (i + 1) hiL hyl.1 (by omega)
     rw [(List.getElem?_eq_some_iff.mp hX).2, hyl.2] at this
     rcases this with z | z
     ·exact .inl (by omega)
     ·exact .inr ⟨by omega, by omega⟩
  ·intro σ H2 hI
   refine qx1 hI fun kv la c3 c4 c5 a b hJ => ?_
   have eI := hJ.1
   have s2 := hJ.2.1
   have d2 := hJ.2.2.1
   have kv2 := hJ.2.2.2.1
   clear hI hJ
   subst eI
   rw [← lx, List.take_length] at kv2
   have cnt := kv2.count tl.all
   have hp2 := s2 _ _ hp
   refine ⟨_, rfl, p, _, (0 : Int), _, rfl, rfl, SqT.of hp2, rfl, _, _, rfl, rfl, _, rfl, vd (fun _ => ?_) (fun z => absurd (decide_eq_true (by omega)) z)⟩
   refine ⟨_, _, rfl, rfl, _, rfl, vd (fun _ => ?_) (fun z => absurd (decide_eq_true (by omega)) z)⟩
   refine ⟨_, rfl, p, _, (1 : Int), _, rfl, rfl, SqT.of hp2, rfl, _, _, rfl, rfl, _, rfl, vd (fun _ => ?_) (fun z => absurd (decide_eq_true (by omega)) z)⟩
   refine ⟨_, _, rfl, rfl, _, rfl, vd (fun _ => ?_) (fun z => absurd (decide_eq_true (by omega)) z)⟩
   refine ⟨_, rfl, d, kv, rfl, d2, _, rfl, p, _, (0 : Int), _, rfl, rfl, SqT.of hp2, rfl, _, rfl, p, _, (1 : Int), _, rfl, rfl, SqT.of hp2, rfl, _, _, rfl, rfl, .inl ⟨by omega, by omega⟩, rfl, ?_⟩
   show Q (.bl (decide (V.int (kv.length : Int) = V.int ((R : Int) * (C : Int))))) H2
   rw [decide_eq_true (by rw [cnt]; simp)]
   exact q _ s2
end
end KL
namespace KL
open PySem L2 GT PyProof.Rows
noncomputable def GoodG (g : Thg) : Prop := ∃ z, g = .str z /\ yh z
noncomputable def X5 : Sp := fun vs H Q _ => ∃ (v : V) (g : Thg), vs = [v] /\ AtG H g v /\ (GoodG g -> ∀ H', Same H H' -> Q (.bl false) H') /\ (¬ GoodG g -> ∀ H', Same H H' -> Q (.bl true) H')
noncomputable def Qp : Sp := fun vs H Q _ => ∃ (v : V) (g : Thg), vs = [v] /\ AtG H g v /\ ¬ GoodG g /\ ∀ H', Same H H' -> Q (.bl true) H'
theorem T4 {H : Hp} {CB : Addr} {Q : VK} {E : XK} {v : V} {g : Thg} (ag : AtG H g v) (good : ∀ z R C cs v' H', g = .str z -> Tiles R C cs -> 1 <= R -> R <= 16 -> 1 <= C -> C <= 16 -> plainT (Ag R C cs) = z -> Same H H' -> At H' (Mr R C cs) v' -> Q v' H') (bad : ¬ GoodG g -> ∀ H', Same H H' -> E (.ref CB) none H') : Dc CB [v] H Q E := by
 refine ⟨v, g, rfl, ag, ?_⟩
 cases g with
 | str z =>
  refine .inr ⟨z, rfl, ?_⟩
  by_cases h : yh z
  ·exact .inl ⟨h, fun R C cs v' H' => good z R C cs v' H' rfl⟩
  ·exact .inr ⟨h, bad fun ⟨z', e, h'⟩ => by cases e; exact h h'⟩
 | _ => exact .inl ⟨rfl, bad fun ⟨z', e, h'⟩ => by cases e⟩
section
variable {P : Program} {w : World} {K : PySem.W.Frag} {mg : Str -> Option Value} {base : Heap}
theorem Ib : FnScope ["_law_text"] ["_law_text"] (qj (top 44)) := ⟨rfl, rfl, rfl, by decide +kernel, rfl, by decide +kernel, by decide +kernel⟩
set_option maxHeartbeats 4000000 in
theorem G3 (T : Txt mg) {CX_BadPlain : Addr} (x_BadPlain : ExcC K mg base "BadPlain" CX_BadPlain) (f_exmBadPlain : PySem.W.exmOne K (.ref CX_BadPlain) (.ref CX_BadPlain) = some true) (c_read_plain : Cal1 P w K mg base 7 "read_plain" ["text"] (Dc CX_BadPlain)) (f : Addr) (fd : FuncData) (F : Fun K "_law_refused" "_law_refused" (top 44) f fd) : FnOk P w K mg base CX0 8 f fd ["_law_text"] X5 := by
 refine F.ok Ib (fun vs H Q E h => ?_) (fun cdv A outer s H vs Q E hr h => ?_)
 ·obtain ⟨v, g, rfl, _⟩ := h; rfl
 ·obtain ⟨v, g, rfl, ag, q1, q2⟩ := h
  have hr_read_plain : Room 7 (A.deeper (envOfC "_law_refused" (qj (top 44)) s.heap.objs.size f cdv)) := hr.mono (by decide)
  refine ⟨_, (ql (qm3 c_read_plain hr_read_plain rfl rfl rfl rfl x_BadPlain.mg (fun XE => (qb (pv 0) qi)) (fun ea oe => (qm (qx vq))))
   (qm (qx vq))), ?_⟩
  refine ⟨_, rfl, ?_⟩
  dsimp only [Tz]
  exact T4 ag (fun z R C cs v' H' ez tl R1 R2 C1 C2 ep s' a' => q1 ⟨z, ez, R, C, cs, tl, R1, R2, C1, C2, ep⟩ _ s') (fun no H' s' => ⟨f_exmBadPlain, q2 no _ s'⟩)
theorem sc__law_by_base : FnScope ["_law_text", "e"] ["_law_text"] (qj (top 45)) := ⟨rfl, rfl, rfl, by decide +kernel, rfl, by decide +kernel, by decide +kernel⟩
set_option maxHeartbeats 4000000 in
theorem Gv (T : Txt mg) {CX_BadPlain : Addr} (x_BadPlain : ExcC K mg base "BadPlain" CX_BadPlain) {CX_GridError : Addr} (x_GridError : ExcC K mg base "GridError" CX_GridError) (f_exgBadPlain : PySem.W.exmOne K (.ref CX_BadPlain) (.ref CX_GridError) = some true) (f_kitBadPlain : PySem.W.kitOne K (.ref CX_BadPlain) (.type "ValueError") = some true) (c_read_plain : Cal1 P w K mg base 7 "read_plain" ["text"] (Dc CX_BadPlain)) (f : Addr) (fd : FuncData) (F : Fun K "_law_by_base" "_law_by_base" (top 45) f fd) : FnOk P w K mg base CX0 8 f fd ["_law_text"] Qp := by
 refine F.ok sc__law_by_base (fun vs H Q E h => ?_) (fun cdv A outer s H vs Q E hr h => ?_)
 ·obtain ⟨v, g, rfl, _⟩ := h; rfl
 ·obtain ⟨v, g, rfl, ag, no, q⟩ := h
  have hr_read_plain : Room 7 (A.deeper (envOfC "_law_by_base" (qj (top 45)) s.heap.objs.size f cdv)) := hr.mono (by decide)
  refine ⟨_, (ql (qg0 (i := 1) c_read_plain hr_read_plain rfl rfl rfl rfl x_GridError.mg (fun XE => (qb (pv 0) qi)) sc__law_by_base.nd rfl rfl rfl T.isinstance rfl T.ValueError)
   (qm (qx vq))), ?_⟩
  refine ⟨_, rfl, ?_⟩
  dsimp only [Tz]
  exact T4 ag (fun z R C cs v' H' ez tl R1 R2 C1 C2 ep s' a' => absurd ⟨z, ez, R, C, cs, tl, R1, R2, C1, C2, ep⟩ no) (fun _ H' s' => ⟨f_exgBadPlain, rfl, f_kitBadPlain, q _ s'⟩)
end
end KL
namespace KL
open PySem L2 GT PyProof.Rows
noncomputable def Ig : Sp := fun vs H Q _ => ∃ (R C : Nat) (cs : List Cell) (n : Int), vs = [.str (plainT (Ag R C cs)), .int n] /\ Tiles R C cs /\ 1 <= R /\ R <= 16 /\ 1 <= C /\ C <= 16 /\ ∀ z H', Same H H' -> z.length <= 200000 -> ¬ yh z -> Q (.str z) H'
theorem qh8 {R C : Nat} {A B : List Cell} {x y : Cell} : (v5 R C (A ++ x :: y :: B) ++ [emp]).map V.str = (jh (Al R C) :: A.map jc).map V.str ++ V.str (jc x) :: V.str (jc y) :: (B.map jc ++ [emp]).map V.str := by
 unfold v5
 simp
theorem qg1 {R C : Nat} {A B : List Cell} {x y : Cell} : ((jh (Al R C) :: A.map jc).map V.str ++ ([V.str (jc y)] ++ [V.str (jc x)])) ++ (B.map jc ++ [emp]).map V.str = ((jh (Al R C) :: (A ++ y :: x :: B).map jc) ++ [emp]).map V.str := by
 simp
section
variable {P : Program} {w : World} {K : PySem.W.Frag} {mg : Str -> Option Value} {base : Heap}
theorem sc__law_turned_rows : FnScope ["_law_text", "_law_place", "_law_rows", "_law_at", "_law_turned_two"] ["_law_text", "_law_place"] (qj (top 47)) := ⟨rfl, rfl, rfl, by decide +kernel, rfl, by decide +kernel, by decide +kernel⟩
set_option maxHeartbeats 4000000 in
theorem Aw (T : Txt mg) (f : Addr) (fd : FuncData) (F : Fun K "_law_turned_rows" "_law_turned_rows" (top 47) f fd) : FnOk P w K mg base CX0 1 f fd ["_law_text", "_law_place"] Ig := by
 refine F.ok sc__law_turned_rows (fun vs H Q E h => ?_) (fun cdv A outer s H vs Q E hr h => ?_)
 ·obtain ⟨R, C, cs, n, rfl, _⟩ := h; rfl
 ·obtain ⟨R, C, cs, n, rfl, tl, R1, R2, C1, C2, q⟩ := h
  have sp := Gs tl.toPart R2 C2
  have ll := Zn tl.toPart R2 C2
  have tle := Q5 tl.toPart R2 C2
  have few := Ge tl.toPart R2 C2
  have rl := Ux (R := R) (C := C) (cs := cs)
  have good : yh (plainT (Ag R C cs)) := ⟨R, C, cs, tl, R1, R2, C1, C2, rfl⟩
  generalize hz : plainT (Ag R C cs) = z at *
  refine ⟨_, (ql (zf (i := 2) sc__law_turned_rows.nd rfl (by first | exact Or.inl rfl | exact Or.inr rfl) (j6 (K := K) rfl PySem.F.plainAttrs_str PySem.F.slot_str_split PySem.F.type_str_split Bm (pv 0) (qb jb qi)))
   (ql (jj (za Mi (qy (jm (K := K) rfl) (by rfl) T.len PySem.boot_len (qb (pv 2) qi)) qg (zc _)) (qm (qx (qw zy (pv 0) jb))) q8)
   (ql (zf (i := 3) sc__law_turned_rows.nd rfl (by first | exact Or.inl rfl | exact Or.inr rfl) (qw zr qg (qw yw (pv 1) (qw Xo (qy (jm (K := K) rfl) (by rfl) T.len PySem.boot_len (qb (pv 2) qi)) qg))))
   (ql (zf (i := 4) sc__law_turned_rows.nd rfl (by first | exact Or.inl rfl | exact Or.inr rfl) (qw Dl (zb (jr (K := K) rfl) (pv 2) (zp (qw zr (pv 3) qg)) (zp (qw zr (pv 3) qg))) (zb (jr (K := K) rfl) (pv 2) (zp (pv 3)) (zp (qw zr (pv 3) qg)))))
   (qm (qx (j6 (K := K) rfl PySem.F.plainAttrs_str PySem.F.slot_str_join PySem.F.type_str_join (Av (K := K) rfl) jb (qb (qw Dl (qw Dl (zb (jr (K := K) rfl) (pv 2) jd (zp (pv 3))) (pv 4)) (zb (jr (K := K) rfl) (pv 2) (zp (qw zr (pv 3) qg)) jd)) qi)))))))), ?_⟩
  refine ⟨_, rfl, rfl, ?_⟩
  unfold N8 tC Tz
  rw [Bf]
  refine kh (c := 10) (by decide) (by omega) fun l hl => ?_
  rw [sp]
  have s1 := Same.upd_new (o := .lst ((v5 R C cs ++ [emp]).map V.str)) hl
  have k1 := qd (H := H) (a := l) (o := .lst ((v5 R C cs ++ [emp]).map V.str))
  generalize hH1 : upd H l (.lst ((v5 R C cs ++ [emp]).map V.str)) = H1 at *
  have el : (((v5 R C cs ++ [emp]).map V.str).length : Int) = (cs.length : Int) + 2 := by rw [List.length_map, rl]; simp
  refine ⟨_, rfl, l, _, rfl, .inl (SqL.of k1), _, _, rfl, rfl, _, rfl, vd (fun small => ?_) (fun big => ?_)⟩
  ·refine ⟨_, rfl, _, _, rfl, rfl, zu (by show z.length + 1 <= _; omega), ?_⟩
   exact q _ _ s1 (by rw [len_app]; show z.length + 1 <= _; omega) (Yk good)
  rw [el] at big
  have big : ¬ ((cs.length : Int) + 2 < 4) := fun e => big (decide_eq_true e)
  have pos : (0 : Int) < (((v5 R C cs ++ [emp]).map V.str).length : Int) - 3 := by omega
  refine ⟨_, rfl, _, rfl, l, _, rfl, .inl (SqL.of k1), _, _, rfl, rfl, _, _, rfl, rfl, pos, _, _, rfl, rfl, ?_⟩
  rw [el] at pos
  obtain ⟨k, ek, hk⟩ : ∃ k : Nat, 1 + n % ((((v5 R C cs ++ [emp]).map V.str).length : Int) - 3) = ((k + 1 : Nat) : Int) /\ k + 1 < cs.length := by
   rw [el]
   have a1 := Int.emod_nonneg n (by omega : (cs.length : Int) + 2 - 3 ≠ 0)
   have a2 := Int.emod_lt_of_pos n pos
   exact ⟨(n % ((cs.length : Int) + 2 - 3)).toNat, by omega, by omega⟩
  obtain ⟨A, x, y, B, rfl, hA⟩ := qt1 hk
  dsimp only [yf]
  rw [ek]
  rw [qh8] at k1
  have hP : ((jh (Al R C) :: A.map jc).map V.str).length = k + 1 := by simp [hA]
  have lB : B.length <= 256 := by rw [List.length_append, List.length_cons, List.length_cons] at few; omega
  have lA : A.length <= 256 := by rw [List.length_append, List.length_cons, List.length_cons] at few; omega
  refine ⟨_, rfl, _, rfl, _, _, rfl, rfl, _, rfl, _, rfl, _, _, rfl, rfl, _, rfl, l, _, rfl, SqL.of k1, fun u2 hu2 => ?_⟩
  rw [qz3 hP]
  have s2 := Same.upd_new (o := .lst [V.str (jc y)]) hu2
  have k2 := qd (H := H1) (a := u2) (o := .lst [V.str (jc y)])
  generalize hH2 : upd H1 u2 (.lst [V.str (jc y)]) = H2 at *
  have l2 := s2 _ _ k1
  refine ⟨_, rfl, _, rfl, _, rfl, _, rfl, _, _, rfl, rfl, _, rfl, l, _, rfl, SqL.of l2, fun u3 hu3 => ?_⟩
  rw [qx4 hP]
  have s3 := Same.upd_new (o := .lst [V.str (jc x)]) hu3
  have k3 := qd (H := H2) (a := u3) (o := .lst [V.str (jc x)])
  generalize hH3 : upd H2 u3 (.lst [V.str (jc x)]) = H3 at *
  have l3 := s3 _ _ l2
  refine ⟨u2, u3, _, _, rfl, rfl, s3 _ _ k2, k3, by show 2 <= sizeLine; decide, fun u4 hu4 => ?_⟩
  have s4 := Same.upd_new (o := .lst ([V.str (jc y)] ++ [V.str (jc x)])) hu4
  have k4 := qd (H := H3) (a := u4) (o := .lst ([V.str (jc y)] ++ [V.str (jc x)]))
  generalize hH4 : upd H3 u4 (.lst ([V.str (jc y)] ++ [V.str (jc x)])) = H4 at *
  have l4 := s4 _ _ l3
  dsimp only [yf]
  refine ⟨rfl, _, rfl, _, rfl, _, rfl, l, _, rfl, SqL.of l4, fun u5 hu5 => ?_⟩
  rw [qy0 hP]
  have s5 := Same.upd_new (o := .lst ((jh (Al R C) :: A.map jc).map V.str)) hu5
  have k5 := qd (H := H4) (a := u5) (o := .lst ((jh (Al R C) :: A.map jc).map V.str))
  generalize hH5 : upd H4 u5 (.lst ((jh (Al R C) :: A.map jc).map V.str)) = H5 at *
  have l5 := s5 _ _ l4
  refine ⟨_, rfl, u5, u4, _, _, rfl, rfl, k5, s5 _ _ k4, zu (by rw [hP]; show k + 1 + 2 <= _; omega), fun u6 hu6 => ?_⟩
  have s6 := Same.upd_new (o := .lst ((jh (Al R C) :: A.map jc).map V.str ++ ([V.str (jc y)] ++ [V.str (jc x)]))) hu6
  have k6 := qd (H := H5) (a := u6) (o := .lst ((jh (Al R C) :: A.map jc).map V.str ++ ([V.str (jc y)] ++ [V.str (jc x)])))
  generalize hH6 : upd H5 u6 (.lst ((jh (Al R C) :: A.map jc).map V.str ++ ([V.str (jc y)] ++ [V.str (jc x)]))) = H6 at *
  have l6 := s6 _ _ l5
  refine ⟨_, rfl, _, rfl, _, _, rfl, rfl, _, rfl, l, _, rfl, SqL.of l6, fun u7 hu7 => ?_⟩
  rw [qy3 hP]
  have s7 := Same.upd_new (o := .lst ((B.map jc ++ [emp]).map V.str)) hu7
  have k7 := qd (H := H6) (a := u7) (o := .lst ((B.map jc ++ [emp]).map V.str))
  generalize hH7 : upd H6 u7 (.lst ((B.map jc ++ [emp]).map V.str)) = H7 at *
  refine ⟨u6, u7, _, _, rfl, rfl, s7 _ _ k6, k7, zu (by simp only [List.length_append, List.length_map, List.length_cons, List.length_nil]; omega), fun u8 hu8 => ?_⟩
  rw [qg1]
  have s8 := Same.upd_new (o := .lst (((jh (Al R C) :: (A ++ y :: x :: B).map jc) ++ [emp]).map V.str)) hu8
  have k8 := qd (H := H7) (a := u8) (o := .lst (((jh (Al R C) :: (A ++ y :: x :: B).map jc) ++ [emp]).map V.str))
  generalize hH8 : upd H7 u8 (.lst (((jh (Al R C) :: (A ++ y :: x :: B).map jc) ++ [emp]).map V.str)) = H8 at *
  have s18 : Same H H8 := (((((((s1.trans s2).trans s3).trans s4).trans s5).trans s6).trans s7).trans s8)
  have jl := Y5 (ls := (jh (Al R C) :: (A ++ y :: x :: B).map jc) ++ [emp]) (fun v hv => ll v (by
   unfold v5
   simp only [List.mem_append, List.mem_cons, List.map_append, List.map_cons] at hv ⊢
   rcases hv with (hv | hv | hv | hv | hv) | hv
   ·exact .inl (.inl hv)
   ·exact .inl (.inr (.inl hv))
   ·exact .inl (.inr (.inr (.inr (.inl hv))))
   ·exact .inl (.inr (.inr (.inl hv)))
   ·exact .inl (.inr (.inr (.inr (.inr hv))))
   ·exact .inr hv)) (by simp; omega)
  refine ⟨_, u8, _, rfl, rfl, SqL.of k8, jl.1, q _ _ s18 jl.2 ?_⟩
  rw [← Uq]
  exact qf2 tl R2 C2
end
end KL
namespace KL
open PySem L2 GT PyProof.Rows
noncomputable def G8 : Sp := fun vs H Q _ => ∃ (R C : Nat) (cs : List Cell) (way n sg : Int), vs = [.str (plainT (Ag R C cs)), .int way, .int n, .int sg] /\ Tiles R C cs /\ 1 <= R /\ R <= 16 /\ 1 <= C /\ C <= 16 /\ ∀ z H', Same H H' -> z.length <= 200000 -> Q (.str z) H'
theorem qw0 (sg : Int) : ∃ c, atI (Str.ofString "0123 abz-A\n9").cps.toList (sg % 12) = some c := by
 obtain ⟨j, ej, hj⟩ : ∃ j : Nat, sg % 12 = (j : Int) /\ j < 12 := ⟨(sg % 12).toNat, by omega, by omega⟩
 have l : (Str.ofString "0123 abz-A\n9").cps.toList.length = 12 := by decide +kernel
 obtain ⟨c, hc⟩ : ∃ c, (Str.ofString "0123 abz-A\n9").cps.toList[j]? = some c := ⟨_, List.getElem?_eq_getElem (by omega)⟩
 rw [ej]
 exact ⟨c, Df hc⟩
theorem U9 {K : PySem.W.Frag} {H H4 : Hp} {u : Addr} {R C : Nat} {cs : List Cell} {a b : List Str} {Q : VK} (ll : ∀ x ∈ v5 R C cs ++ [emp], x.length <= 208) (few : (v5 R C cs ++ [emp]).length <= 300) (la : a.length <= (v5 R C cs ++ [emp]).length) (lb : b.length <= (v5 R C cs ++ [emp]).length) (ia : ∀ x ∈ a, x ∈ v5 R C cs ++ [emp]) (ib : ∀ x ∈ b, x ∈ v5 R C cs ++ [emp])
  (k : H4 u = some (.lst (a.map V.str ++ b.map V.str))) (s : Same H H4) (q : ∀ z H', Same H H' -> z.length <= 200000 -> Q (.str z) H') : rJoin K (.str nl1) [.ref u] H4 Q := by
 rw [← List.map_append] at k
 have jl := Y5 (ls := a ++ b) (fun v hv => (List.mem_append.mp hv).elim (fun z => ll v (ia v z)) fun z => ll v (ib v z)) (by rw [List.length_append]; omega)
 exact ⟨_, u, _, rfl, rfl, SqL.of k, jl.1, q _ _ s jl.2⟩
section
variable {P : Program} {w : World} {K : PySem.W.Frag} {mg : Str -> Option Value} {base : Heap}
theorem sc__law_spoilt : FnScope ["_law_text", "_law_way", "_law_place", "_law_sign", "_law_rows", "_law_at"] ["_law_text", "_law_way", "_law_place", "_law_sign"] (qj (top 48)) := ⟨rfl, rfl, rfl, by decide +kernel, rfl, by decide +kernel, by decide +kernel⟩
set_option maxHeartbeats 4000000 in
theorem Ja (T : Txt mg) (f : Addr) (fd : FuncData) (F : Fun K "_law_spoilt" "_law_spoilt" (top 48) f fd) : FnOk P w K mg base CX0 1 f fd ["_law_text", "_law_way", "_law_place", "_law_sign"] G8 := by
 refine F.ok sc__law_spoilt (fun vs H Q E h => ?_) (fun cdv A outer s H vs Q E hr h => ?_)
 ·obtain ⟨R, C, cs, way, n, sg, rfl, _⟩ := h; rfl
 ·obtain ⟨R, C, cs, way, n, sg, rfl, tl, R1, R2, C1, C2, q⟩ := h
  have sp := Gs tl.toPart R2 C2
  have ll := Zn tl.toPart R2 C2
  have tle := Q5 tl.toPart R2 C2
  have few := Ge tl.toPart R2 C2
  have rl := Ux (R := R) (C := C) (cs := cs)
  have ge := qr1 (z := plainT (Ag R C cs)) ⟨R, C, cs, tl, R1, R2, C1, C2, rfl⟩
  generalize hz : plainT (Ag R C cs) = z at *
  refine ⟨_, (ql (jj (za Mi (pv 1) qg (zc _)) (ql (zf (i := 4) sc__law_spoilt.nd rfl (by first | exact Or.inl rfl | exact Or.inr rfl) (j6 (K := K) rfl PySem.F.plainAttrs_str PySem.F.slot_str_split PySem.F.type_str_split Bm (pv 0) (qb jb qi)))
   (ql (zf (i := 5) sc__law_spoilt.nd rfl (by first | exact Or.inl rfl | exact Or.inr rfl) (qw yw (pv 2) (qw Xo (qy (jm (K := K) rfl) (by rfl) T.len PySem.boot_len (qb (pv 4) qi)) qg)))
   (ql (jj (za Bv (pv 1) qg (zc _)) (qm (qx (j6 (K := K) rfl PySem.F.plainAttrs_str PySem.F.slot_str_join PySem.F.type_str_join (Av (K := K) rfl) jb (qb (qw Dl (zb (jr (K := K) rfl) (pv 4) jd (zp (pv 5))) (zb (jr (K := K) rfl) (pv 4) (zp (qw zr (pv 5) qg)) jd)) qi)))) q8)
   (qm (qx (j6 (K := K) rfl PySem.F.plainAttrs_str PySem.F.slot_str_join PySem.F.type_str_join (Av (K := K) rfl) jb (qb (qw Dl (zb (jr (K := K) rfl) (pv 4) jd (zp (qw zr (pv 5) qg))) (zb (jr (K := K) rfl) (pv 4) (zp (pv 5)) jd)) qi))))))) q8)
   (ql (zf (i := 5) sc__law_spoilt.nd rfl (by first | exact Or.inl rfl | exact Or.inr rfl) (qw yw (pv 2) (qy (xf (K := K) rfl) (by rfl) T.len PySem.boot_len (qb (pv 0) qi))))
   (ql (jj (za Bv (pv 1) qg (zc _)) (qm (qx (qw zy (zb (ue (K := K) rfl) (pv 0) jd (zp (pv 5))) (zb (ue (K := K) rfl) (pv 0) (zp (qw zr (pv 5) qg)) jd)))) q8)
   (ql (jj (za Bv (pv 1) qg (zc _)) (ql (jj (PW.pt (qj8 (za Bv (qw yw (pv 3) qg) qg (zc _)) (Zk (za qp2 (j6 (K := K) rfl PySem.F.plainAttrs_str PySem.F.slot_str_find PySem.F.type_str_find J2 (pv 0) (qb jb (qb (pv 5) qi))) qg (zc _))))) (qm (zf (i := 5) sc__law_spoilt.nd rfl (by first | exact Or.inl rfl | exact Or.inr rfl) (j6 (K := K) rfl PySem.F.plainAttrs_str PySem.F.slot_str_find PySem.F.type_str_find J2 (pv 0) (qb jb (qb (pv 5) qi))))) q8)
   (qm (qx (qw zy (zb (ue (K := K) rfl) (pv 0) jd (zp (qw zr (pv 5) qg))) (zb (ue (K := K) rfl) (pv 0) (zp (pv 5)) jd))))) q8)
   (ql (jj (za Bv (qw yw (pv 3) qg) qg (zc _)) (ql (zf (i := 5) sc__law_spoilt.nd rfl (by first | exact Or.inl rfl | exact Or.inr rfl) (qw zr (j6 (K := K) rfl PySem.F.plainAttrs_str PySem.F.slot_str_find PySem.F.type_str_find J2 (pv 0) (qb jb (qb (pv 5) qi))) qg))
   (qm (qx (qw zy (qw zy (zb (ue (K := K) rfl) (pv 0) jd (zp (pv 5))) jb) (zb (ue (K := K) rfl) (pv 0) (zp (pv 5)) jd))))) q8)
   (qm (qx (qw zy (qw zy (zb (ue (K := K) rfl) (pv 0) jd (zp (pv 5))) (zg (qj5) jb (qw yw (pv 3) qg) (fun _ _ => rfl))) (zb (ue (K := K) rfl) (pv 0) (zp (qw zr (pv 5) qg)) jd))))))))), ?_⟩
  refine ⟨_, rfl, _, _, rfl, rfl, _, rfl, vd (fun _ => ?_) (fun _ => ?_)⟩
  ·refine ⟨_, rfl, rfl, ?_⟩
   unfold N8 tC Tz
   rw [Bf]
   refine kh (c := 10) (by decide) (by omega) fun l hl => ?_
   rw [sp]
   generalize hL : v5 R C cs ++ [emp] = L at *
   have s1 := Same.upd_new (o := .lst (L.map V.str)) hl
   have k1 := qd (H := H) (a := l) (o := .lst (L.map V.str))
   generalize hH1 : upd H l (.lst (L.map V.str)) = H1 at *
   have pos : (0 : Int) < ((L.map V.str).length : Int) - 1 := by rw [List.length_map]; omega
   refine ⟨_, rfl, _, rfl, l, _, rfl, .inl (SqL.of k1), _, _, rfl, rfl, _, _, rfl, rfl, pos, ?_⟩
   dsimp only [yf]
   generalize n % (((L.map V.str).length : Int) - 1) = at0
   refine ⟨_, rfl, rfl, _, rfl, vd (fun _ => ?_) (fun _ => ?_)⟩
   ·refine ⟨rfl, _, rfl, _, rfl, _, rfl, l, _, rfl, SqL.of k1, fun u2 hu2 => ?_⟩
    obtain ⟨m2, e2, n2, i2⟩ := Dy L none (some at0)
    rw [e2]
    have s2 := Same.upd_new (o := .lst (m2.map V.str)) hu2
    have k2 := qd (H := H1) (a := u2) (o := .lst (m2.map V.str))
    generalize hH2 : upd H1 u2 (.lst (m2.map V.str)) = H2 at *
    refine ⟨_, rfl, _, rfl, _, _, rfl, rfl, _, rfl, l, _, rfl, SqL.of (s2 _ _ k1), fun u3 hu3 => ?_⟩
    obtain ⟨m3, e3, n3, i3⟩ := Dy L (some (at0 + 1)) none
    rw [e3]
    have s3 := Same.upd_new (o := .lst (m3.map V.str)) hu3
    have k3 := qd (H := H2) (a := u3) (o := .lst (m3.map V.str))
    generalize hH3 : upd H2 u3 (.lst (m3.map V.str)) = H3 at *
    refine ⟨u2, u3, _, _, rfl, rfl, s3 _ _ k2, k3, zu (by rw [List.length_map, List.length_map]; omega), fun u4 hu4 => ?_⟩
    subst hL
    exact U9 ll (by omega) n2 n3 i2 i3 qd (((s1.trans s2).trans s3).trans (Same.upd_new hu4)) q
   ·refine ⟨rfl, _, rfl, _, rfl, _, _, rfl, rfl, _, rfl, l, _, rfl, SqL.of k1, fun u2 hu2 => ?_⟩
    obtain ⟨m2, e2, n2, i2⟩ := Dy L none (some (at0 + 1))
    rw [e2]
    have s2 := Same.upd_new (o := .lst (m2.map V.str)) hu2
    have k2 := qd (H := H1) (a := u2) (o := .lst (m2.map V.str))
    generalize hH2 : upd H1 u2 (.lst (m2.map V.str)) = H2 at *
    refine ⟨_, rfl, _, rfl, _, rfl, l, _, rfl, SqL.of (s2 _ _ k1), fun u3 hu3 => ?_⟩
    obtain ⟨m3, e3, n3, i3⟩ := Dy L (some at0) none
    rw [e3]
    have s3 := Same.upd_new (o := .lst (m3.map V.str)) hu3
    have k3 := qd (H := H2) (a := u3) (o := .lst (m3.map V.str))
    generalize hH3 : upd H2 u3 (.lst (m3.map V.str)) = H3 at *
    refine ⟨u2, u3, _, _, rfl, rfl, s3 _ _ k2, k3, zu (by rw [List.length_map, List.length_map]; omega), fun u4 hu4 => ?_⟩
    subst hL
    exact U9 ll (by omega) n2 n3 i2 i3 qd (((s1.trans s2).trans s3).trans (Same.upd_new hu4)) q
  have zl : z.length <= sizeLine := zu (by omega)
  have sl : ∀ lo hi, (PySem.Txt.slice z lo hi).length <= 65000 := fun lo hi => Nat.le_trans (PySem.Txt.slice_le z lo hi) tle
  have two : ∀ a b c d, (PySem.Txt.slice z a b).length + (PySem.Txt.slice z c d).length <= sizeLine := fun a b c d => zu (by have := sl a b; have := sl c d; omega)
  have here : ∀ y : Str, y.length <= 200000 -> Q (.str y) H := fun y hy => q y H (fun _ _ z => z) hy
  have here2 : ∀ a b c d, Q (.str (PySem.Txt.slice z a b ++ PySem.Txt.slice z c d)) H := fun a b c d => here _ (by rw [len_app]; have := sl a b; have := sl c d; omega)
  refine ⟨_, rfl, _, rfl, z, rfl, zl, _, _, rfl, rfl, (by show (0 : Int) < (z.length : Int); omega), ?_⟩
  dsimp only [yf]
  generalize n % (z.length : Int) = at0
  refine ⟨_, rfl, rfl, _, rfl, vd (fun _ => ?_) (fun _ => ?_)⟩
  ·exact ⟨_, rfl, _, rfl, _, rfl, z, rfl, zl, _, rfl, _, rfl, _, _, rfl, rfl, _, rfl, z, rfl, zl, _, _, rfl, rfl, two _ _ _ _, here2 _ _ _ _⟩
  refine ⟨_, rfl, rfl, _, rfl, vd (fun _ => ?_) (fun _ => ?_)⟩
  ·dsimp only [qi0]
   refine qa6 (T := zb5 _ _ _) (P := fun σ H2 => ∃ i : Int, σ = [some (.str z), some (.int way), some (.int n), some (.int sg), none, some (.int i)] /\ H2 = H) (fun N2 k2 => ?_) ?_
   ·refine ⟨_, rfl, _, _, rfl, rfl, (by show (0 : Int) < 2; decide), rfl, _, rfl, vd (fun _ => ?_) (fun _ => k2 _ _ ⟨at0, rfl, rfl⟩)⟩
    refine ⟨_, rfl, rfl, _, rfl, z, _, at0, rfl, rfl, _, _, rfl, rfl, _, rfl, vd (fun _ => ?_) (fun _ => k2 _ _ ⟨at0, rfl, rfl⟩)⟩
    exact ⟨_, rfl, rfl, _, rfl, z, _, at0, rfl, rfl, k2 _ _ ⟨_, rfl, rfl⟩⟩
   ·rintro σ H2 ⟨i, rfl, rfl⟩
    exact ⟨_, rfl, _, rfl, _, _, rfl, rfl, _, rfl, z, rfl, zl, _, rfl, _, rfl, _, rfl, z, rfl, zl, _, _, rfl, rfl, two _ _ _ _, here2 _ _ _ _⟩
  refine ⟨_, rfl, _, _, rfl, rfl, (by show (0 : Int) < 3; decide), rfl, _, rfl, vd (fun _ => ?_) (fun _ => ?_)⟩
  ·refine ⟨_, rfl, rfl, _, rfl, z, _, at0, rfl, rfl, _, _, rfl, rfl, ?_⟩
   dsimp only [yf]
   refine ⟨_, rfl, _, rfl, _, rfl, z, rfl, zl, _, _, rfl, rfl, zu ?_, _, rfl, _, rfl, _, rfl, z, rfl, zl, _, _, rfl, rfl, zu ?_, here _ ?_⟩
   ·have := sl none (some (PySem.Txt.find3 z (Str.ofString " ") at0 + 1))
    have e : (Str.ofString "0").length = 1 := by decide +kernel
    omega
   ·rw [len_app]
    have := sl none (some (PySem.Txt.find3 z (Str.ofString " ") at0 + 1))
    have := sl (some (PySem.Txt.find3 z (Str.ofString " ") at0 + 1)) none
    have e : (Str.ofString "0").length = 1 := by decide +kernel
    omega
   ·rw [len_app, len_app]
    have := sl none (some (PySem.Txt.find3 z (Str.ofString " ") at0 + 1))
    have := sl (some (PySem.Txt.find3 z (Str.ofString " ") at0 + 1)) none
    have e : (Str.ofString "0").length = 1 := by decide +kernel
    omega
  ·obtain ⟨c, hc⟩ := qw0 sg
   have e1 : (⟨#[c]⟩ : Str).length = 1 := rfl
   refine ⟨_, rfl, _, rfl, _, rfl, z, rfl, zl, _, rfl, _, _, rfl, rfl, (by show (0 : Int) < 12; decide), _, _, c, rfl, rfl, zu (by decide +kernel), hc, _, _, rfl, rfl, zu ?_, _, rfl, _, rfl, _, _, rfl, rfl, _, rfl, z, rfl, zl, _, _, rfl, rfl, zu ?_, here _ ?_⟩
   ·have := sl none (some at0)
    omega
   ·rw [len_app]
    have := sl none (some at0)
    have := sl (some (at0 + 1)) none
    omega
   ·rw [len_app, len_app]
    have := sl none (some at0)
    have := sl (some (at0 + 1)) none
    omega
end
end KL
namespace KL
open PySem L2 GT PyProof.Rows
noncomputable def Tc : Sp := fun vs H Q _ => ∃ (z : Str) (n : Int), vs = [.str z, .int n] /\ yh z /\ z.length <= 65000 /\ ∀ v g H', Same H H' -> AtG H' g v -> ¬ GoodG g -> Q v H'
theorem Yv {x z : Str} {c : Nat} (hc : c < 256) (hz : z.length <= 2) : (PySem.Txt.replace x ⟨#[c]⟩ z).length <= 2 * x.length := by
 rw [PySem.StrLaws.replace_one]
 have a := PySem.StrLaws.join_split x ⟨#[c]⟩
 have b := size_glued z (PySem.Txt.split x ⟨#[c]⟩)
 have d := size_glued ⟨#[c]⟩ (PySem.Txt.split x ⟨#[c]⟩)
 rw [PySem.StrLaws.glued_eq_join] at b d
 rw [a] at d
 have e1 : (⟨#[c]⟩ : Str).length = 1 := rfl
 rw [e1] at d
 have f := vy (x := x) hc
 have g : ((PySem.Txt.split x ⟨#[c]⟩).length - 1) * z.length <= ((PySem.Txt.split x ⟨#[c]⟩).length - 1) * 2 := Nat.mul_le_mul_left _ hz
 omega
theorem yj {H : Hp} {x : Str} (h : x.length <= 400000) (b : ¬ yh x) : ∃ g, AtG H g (.str x) /\ ¬ GoodG g := ⟨.str x, .str x h, fun ⟨z, e, g⟩ => by cases e; exact b g⟩
noncomputable def O9 (z : Str) (u : Addr) : List V := [.str (Str.ofString ""), .str (Str.ofString "\n"), .str (PySem.Txt.slice z none (some (-1))), .str (z ++ Str.ofString "\n"), .str (Str.ofString " " ++ z), .str (Str.ofString "0" ++ z), .non, .int 7, .ref u, .str (z ++ z)]
noncomputable def qz9 : Str := Str.ofString "1 1\n0 0 1 1" ++ ⟨(List.replicate 13 (Str.ofString " a").cps).foldl (· ++ ·) #[]⟩ ++ Str.ofString "\n"
noncomputable def Ql (z t : Str) : List V := [.str t, .str qz9, .str (Str.ofString "1 1\n0 0 1 1 aB\n"), .str (PySem.Txt.replace z (Str.ofString "\n") (Str.ofString "\t\n"))]
noncomputable def T6 (z : Str) : List V := [.str (PySem.Txt.replace z (Str.ofString " ") (Str.ofString "\t")), .str (Str.ofString "1 2\n0 0 1 2\n0 1 1 1\n")]
theorem qc9 {H : Hp} {z t : Str} {u : Addr} (g : yh z) (zl : z.length <= 65000) (hu : H u = some (.lst [.str z])) (tl : t.length <= 1000) {r : List Nat} (et : t.cps.toList = 49 :: 55 :: r) : ∀ v ∈ O9 z u ++ Ql z t ++ T6 z, ∃ g, AtG H g v /\ ¬ GoodG g := by
 have e1 : (Str.ofString "\n").length = 1 := by decide +kernel
 have e2 : (Str.ofString " ").length = 1 := by decide +kernel
 have e3 : (Str.ofString "0").length = 1 := by decide +kernel
 have n1 : Str.ofString "\n" = ⟨#[10]⟩ := by decide +kernel
 have n2 : Str.ofString " " = ⟨#[32]⟩ := by decide +kernel
 intro v hv
 unfold O9 Ql T6 at hv
 simp only [List.cons_append, List.nil_append, List.mem_cons, List.not_mem_nil, or_false] at hv
 rcases hv with rfl | rfl | rfl | rfl | rfl | rfl | rfl | rfl | rfl | rfl | rfl | rfl | rfl | rfl | rfl | rfl
 ·exact yj (by decide +kernel) (yz g 0)
 ·exact yj (by decide +kernel) (yz g 1)
 ·exact yj (Nat.le_trans (PySem.Txt.slice_le z _ _) (by omega)) (yz g 2)
 ·exact yj (by rw [len_app]; omega) (yz g 3)
 ·exact yj (by rw [len_app]; omega) (yz g 4)
 ·exact yj (by rw [len_app]; omega) (yz g 5)
 ·exact ⟨.non, .non, fun ⟨z, e, _⟩ => by cases e⟩
 ·exact ⟨.int 7, .int 7, fun ⟨z, e, _⟩ => by cases e⟩
 ·exact ⟨.lst [.str z], .lst hu (.cons (.str z (by omega)) .nil), fun ⟨z, e, _⟩ => by cases e⟩
 ·exact yj (by rw [len_app]; omega) (yz g 9)
 ·exact yj (by omega) (qd5 et)
 ·exact yj (by decide +kernel) qd1
 ·exact yj (by decide +kernel) qa5
 ·refine yj ?_ (yz g 13)
  rw [n1]
  exact Nat.le_trans (Yv (by decide) (by decide +kernel)) (by omega)
 ·refine yj ?_ (yz g 14)
  rw [n2]
  exact Nat.le_trans (Yv (by decide) (by decide +kernel)) (by omega)
 ·exact yj (by decide +kernel) qg4
theorem qf0 (y : Str) : ∃ r, (Str.ofString "17 1\n" ++ y).cps.toList = 49 :: 55 :: r := by
 rw [jo]
 have e : (Str.ofString "17 1\n").cps.toList = [49, 55, 32, 49, 10] := by decide +kernel
 rw [e]
 exact ⟨_, rfl⟩
section
variable {P : Program} {w : World} {K : PySem.W.Frag} {mg : Str -> Option Value} {base : Heap}
theorem qu0 : (["_law_row"] : List Str).Nodup := by decide +kernel
noncomputable abbrev ltlScope : Scope := j7 (Io (Ys (ug (nth (je (top 46)) 1))) 0)
theorem sc__law_none : FnScope ["_law_text", "_law_way", "_law_some", "_law_tall"] ["_law_text", "_law_way"] (qj (top 46)) := ⟨rfl, rfl, rfl, by decide +kernel, rfl, by decide +kernel, by decide +kernel⟩
set_option maxHeartbeats 4000000 in
theorem Oe (T : Txt mg) (f : Addr) (fd : FuncData) (F : Fun K "_law_none" "_law_none" (top 46) f fd) : FnOk P w K mg base CX0 1 f fd ["_law_text", "_law_way"] Tc := by
 refine F.ok sc__law_none (fun vs H Q E h => ?_) (fun cdv A outer s H vs Q E hr h => ?_)
 ·obtain ⟨z, n, rfl, _⟩ := h; rfl
 ·obtain ⟨z, n, rfl, good, tle, q⟩ := h
  have co_ltl : ∀ {X : Cx}, CompOk X ltlScope (Dk X.env.cells ltlScope.names []) ["_law_row"] [none] := jg rfl (by decide +kernel) (by decide +kernel) (by decide +kernel) rfl (by
    intro i hi x j e1 e2
    match i, hi, e1, e2 with
    | 0, _, e1, e2 => cases e2)
  have zl : z.length <= sizeLine := zu (by omega)
  have e1 : (Str.ofString "\n").length = 1 := by decide +kernel
  have e2 : (Str.ofString " ").length = 1 := by decide +kernel
  have e3 : (Str.ofString "0").length = 1 := by decide +kernel
  refine ⟨_, (Zm (qo3 (i := 2) sc__law_none.nd rfl (by first | exact Or.inl rfl | exact Or.inr rfl) (qr0 (qq4 (qb jb (qb (zb (ue (K := K) rfl) (pv 0) jd (zp (qi4 Ub qg))) (qb (qw zy (pv 0) jb) (qb (qw zy jb (pv 0)) (qb (qw zy jb (pv 0)) (qb Wh (qb qg (qb (Bl (qb (pv 0) qi)) (qb (qw zy (pv 0) (pv 0)) qi))))))))))))
   (Qa (PS.tk (zf (i := 3) sc__law_none.nd rfl (by first | exact Or.inl rfl | exact Or.inr rfl) (qw zy jb (j6 (K := K) rfl PySem.F.plainAttrs_str PySem.F.slot_str_join PySem.F.type_str_join (Av (K := K) rfl) jb (qb (yg co_ltl rfl (u0 rfl T.range (qb qg qi)) (fun _ _ _ _ => (zq (i := 0) qu0 rfl (by first | exact Or.inl rfl | exact Or.inr rfl) (Or.inr rfl))) (fun _ _ _ _ => yt) (fun _ _ _ _ => (qw zy (yp M8 (by rfl) T.str PyProof.Rows.boot_str (qb (pv 0) qi)) jb))) qi)))))
   (Qa (qo2 (i := 2) sc__law_none.nd rfl (by first | exact Or.inl rfl | exact Or.inr rfl) (qj7 Dl (PE.tk (pv 2)) (Yo (Ai (PE.tk (pv 3)) (Ai (PE.tk (qw zy (qw zy jb (qw qn8 jb qg)) jb)) (Ai (PE.tk jb) (Ai (Ij (K := K) (by decide +kernel) (pv 0)) (PA.tk qi))))))))
   (qh2 (qo0 (qr3 (Dt (K := K) rfl) (qj7 Dl (PE.tk (pv 2)) (Yo (Ai (Ij (K := K) (by decide +kernel) (pv 0)) (Ai (PE.tk jb) (PA.tk qi))))) (PE.tk (qw yw (pv 1) qg)) (fun _ _ => rfl))))))), ?_⟩
  dsimp only [qi0]
  refine qa6 (T := qj4 _ _) (P := fun σ H2 => ∃ u1 u2 : Addr, σ = [some (.str z), some (.int n), some (.ref u2), none] /\ Same H H2 /\ H2 u1 = some (.lst [.str z]) /\ H2 u2 = some (.lst (O9 z u1))) (fun N2 k2 => ?_) ?_
  ·refine ⟨_, rfl, _, rfl, _, rfl, z, rfl, zl, _, rfl, _, _, rfl, rfl, zu (by omega), _, rfl, _, _, rfl, rfl, zu (by omega), _, rfl, _, _, rfl, rfl, zu (by omega), _, rfl, by show 1 <= sizeLine; decide, fun u1 hu1 => ?_⟩
   have s1 := Same.upd_new (o := .lst [.str z]) hu1
   have k1 := qd (H := H) (a := u1) (o := .lst [.str z])
   generalize hH1 : upd H u1 (.lst [.str z]) = H1 at *
   refine ⟨_, rfl, _, rfl, _, _, rfl, rfl, zu (by omega), by show 10 <= sizeLine; decide, fun u2 hu2 => ?_⟩
   exact k2 _ _ ⟨u1, u2, rfl, s1.trans (Same.upd_new hu2), Same.upd_new hu2 _ _ k1, qd⟩
  rintro σ H2 ⟨u1, u2, rfl, s2, k1, k2⟩
  dsimp only [qi0]
  refine qa6 (T := qj4 _ _) (P := fun σ H3 => ∃ (t : Str) (r : List Nat), σ = [some (.str z), some (.int n), some (.ref u2), some (.str t)] /\ Same H2 H3 /\ t.length <= 1000 /\ t.cps.toList = 49 :: 55 :: r) (fun N2 k3 => ?_) ?_
  ·refine ⟨rfl, (17 : Int), rfl, by decide, by decide, fun acc hacc => ?_⟩
   refine Di (lo := 0) (n := 17) (fun j σ1 H3 => ∃ (c1 : Option V) (ys : List Str), σ1 = [c1] /\ Same H2 H3 /\ H3 acc = some (.lst (ys.map V.str)) /\ ys.length = j /\ ∀ y ∈ ys, y.length <= 20)
    ⟨none, [], rfl, Same.upd_new hacc, qd, rfl, fun y hy => by cases hy⟩ ?_ ?_
   ·intro j σ1 H3 hj hI
    refine Il hI fun c1 ys hJ => ?_
    have eI := hJ.1
    have s3 := hJ.2.1
    have h3 := hJ.2.2.1
    have l3 := hJ.2.2.2.1
    have b3 := hJ.2.2.2.2
    clear hI hJ
    subst eI
    have ej : (0 : Int) + (j : Int) = ((j : Nat) : Int) := by omega
    dsimp only [yf]
    rw [if_pos rfl, ej]
    have lj := T5 (n := j) (by omega)
    have el : (Str.ofString " 0 1 1\n").length = 7 := by decide +kernel
    refine ⟨_, rfl, ?_⟩
    unfold Tz
    refine Ng (p := .inl j) (show j <= 16 by omega) ?_
    refine ⟨_, _, rfl, rfl, zu (by show (num j).length + _ <= _; omega), ys.map V.str, h3, zz (by rw [List.length_map]; omega), _, ys ++ [num j ++ Str.ofString " 0 1 1\n"], rfl, fun b o e => ?_, ?_, by rw [List.length_append, l3]; rfl, fun y hy => ?_⟩
    ·rw [qt (qz e hacc)]
     exact s3 _ _ e
    ·rw [List.map_append]
     exact qd
    ·rcases List.mem_append.mp hy with hy | hy
     ·exact b3 y hy
     ·rw [List.mem_singleton.mp hy, len_app]
      omega
   intro σ1 H3 hI
   refine Il hI fun c1 ys hJ => ?_
   have s3 := hJ.2.1
   have h3 := hJ.2.2.1
   have l3 := hJ.2.2.2.1
   have b3 := hJ.2.2.2.2
   clear hI hJ
   have sm := N6 b3
   have e0 : (Str.ofString "").length = 0 := by decide +kernel
   have e17 : (Str.ofString "17 1\n").length = 5 := by decide +kernel
   have lj : (Im (Str.ofString "") ys).length <= 340 := by
    rw [Ml, qa3]
    omega
   obtain ⟨r, er⟩ := qf0 (Im (Str.ofString "") ys)
   refine ⟨_, acc, ys, rfl, rfl, SqL.of h3, by rw [e0]; omega, _, _, rfl, rfl, zu (by omega), ?_⟩
   exact k3 _ _ ⟨_, r, rfl, s3, by rw [len_app]; omega, er⟩
  rintro σ H3 ⟨t, r, rfl, s3, tl, et⟩
  replace k1 := s3 _ _ k1
  replace k2 := s3 _ _ k2
  replace s3 := s2.trans s3
  clear s2
  have t1 : (Str.ofString "\t\n").length = 2 := by decide +kernel
  have t2 : (Str.ofString "\t").length = 1 := by decide +kernel
  dsimp only [qi0]
  refine qa6 (T := qj4 _ _) (P := fun σ H4 => ∃ u4 : Addr, σ = [some (.str z), some (.int n), some (.ref u4), some (.str t)] /\ Same H3 H4 /\ H4 u4 = some (.lst (O9 z u1 ++ Ql z t))) (fun N2 k4 => ?_) ?_
  ·refine ⟨_, rfl, _, rfl, _, 13, rfl, rfl, by decide, by decide +kernel, by decide +kernel, _, _, rfl, rfl, zu (by decide +kernel), _, _, rfl, rfl, zu (by decide +kernel), _, rfl, z, rfl, by rw [t1]; omega, by show 4 <= sizeLine; decide, fun u3 hu3 => ?_⟩
   have s4 := Same.upd_new (o := .lst (Ql z t)) hu3
   refine ⟨u2, u3, _, _, rfl, rfl, s4 _ _ k2, qd, by show 10 + 4 <= sizeLine; decide, fun u4 hu4 => ?_⟩
   exact k4 _ _ ⟨u4, rfl, s4.trans (Same.upd_new hu4), qd⟩
  rintro σ H4 ⟨u4, rfl, s4, k4⟩
  replace k1 := s4 _ _ k1
  obtain ⟨j, ej, hj⟩ : ∃ j : Nat, n % 16 = (j : Int) /\ j < 16 := ⟨(n % 16).toNat, by omega, by omega⟩
  obtain ⟨v, hv⟩ : ∃ v, (O9 z u1 ++ Ql z t ++ T6 z)[j]? = some v := ⟨_, List.getElem?_eq_getElem (by show j < 16; omega)⟩
  refine ⟨_, rfl, _, rfl, z, rfl, by rw [t2]; omega, by show 2 <= sizeLine; decide, fun u5 hu5 => ?_⟩
  have s5 := Same.upd_new (o := .lst (T6 z)) hu5
  refine ⟨u4, u5, _, _, rfl, rfl, s5 _ _ k4, qd, by show 14 + 2 <= sizeLine; decide, fun u6 hu6 => ?_⟩
  have s6 := s5.trans (Same.upd_new (o := .lst (O9 z u1 ++ Ql z t ++ T6 z)) hu6)
  obtain ⟨g, ag, ng⟩ := qc9 (H := upd _ u6 (.lst (O9 z u1 ++ Ql z t ++ T6 z))) good tle (s6 _ _ k1) tl et v (List.mem_of_getElem? hv)
  refine ⟨_, rfl, _, _, rfl, rfl, (by show (0 : Int) < 16; decide), u6, O9 z u1 ++ Ql z t ++ T6 z, _, v, rfl, rfl, SqL.of qd, (by rw [ej]; exact Df hv), ?_⟩
  exact q v g _ ((s3.trans s4).trans s6) ag ng
end
end KL
namespace KL
open PySem L2 GT PyProof.Rows
theorem qj2 : ∀ {H : Hp} {cs : List Cell} {xs : List V}, (∀ x ∈ cs, WordsOk x.words) -> AtL H (cs.map Cell.D) xs -> AtGL H (cs.map Cell.G) xs
 | _, [], [], _, _ => .nil
 | _, x :: cs, v :: xs, ok, h => by
  cases h with
  | cons h r => exact .cons (Cell.atG h (ok x List.mem_cons_self).small) (qj2 (fun y hy => ok y (List.mem_cons_of_mem _ hy)) r)
theorem zd1 {H : Hp} {R C : Nat} {cs : List Cell} {v : V} (h : At H (Mr R C cs) v) (ok : ∀ x ∈ cs, WordsOk x.words) : AtG H (.tup [.int (R : Int), .int (C : Int), .lst (cs.map Cell.G)]) v := by
 obtain ⟨p, l, ys, rfl, hp, hl, ry⟩ := Lf h
 exact .tup hp (.cons (.int _) (.cons (.int _) (.cons (.lst hl (qj2 ok ry)) .nil)))
theorem Y7 {z : Str} (h : ¬ yh z) : ¬ GoodG (.str z) := fun ⟨z', e, g⟩ => by cases e; exact h g
noncomputable def qf8 (K : PySem.W.Frag) : Sp := fun vs H Q _ => ∃ (a : Addr) (ns : List Int), vs = [.ref a] /\ SqL K H a (ns.map V.int) /\ ns.length <= 63 /\ ∀ H', Q (.bl true) H'
section
variable {P : Program} {w : World} {K : PySem.W.Frag} {mg : Str -> Option Value} {base : Heap}
theorem sc_law : FnScope ["_law_script", "_law_table_here", "_law_text", "_law_way", "_law_bad", "_law_found"] ["_law_script"] (qj (top 49)) := ⟨rfl, rfl, rfl, by decide +kernel, rfl, by decide +kernel, by decide +kernel⟩
set_option maxHeartbeats 4000000 in
theorem qs8 {CX_BadTable : Addr} {CX_BadPlain : Addr} (T : Txt mg) (c__law_made : Cal P w K mg base 5 "_law_made" ["_law_script"] (Z6 K)) (c__law_cell : Cal P w K mg base 1 "_law_cell" ["_law_script", "_law_k"] (Gu K)) (c__law_copy : Cal P w K mg base 1 "_law_copy" ["_law_table_here"] Za) (c_checked : Cal1 P w K mg base 5 "checked" ["table"] (Ba CX_BadTable)) (c_plain : Cal P w K mg base 2 "plain" ["table"] J1) (c_read_plain : Cal1 P w K mg base 7 "read_plain" ["text"] (Dc CX_BadPlain)) (c__law_is_table : Cal P w K mg base 3 "_law_is_table" ["_law_table_here"] qq0) (c__law_refused : Cal P w K mg base 8 "_law_refused" ["_law_text"] X5) (c__law_by_base : Cal P w K mg base 8 "_law_by_base" ["_law_text"] Qp) (c__law_turned_rows : Cal P w K mg base 1 "_law_turned_rows" ["_law_text", "_law_place"] Ig) (c__law_none : Cal P w K mg base 1 "_law_none" ["_law_text", "_law_way"] Tc) (c__law_spoilt : Cal P w K mg base 1 "_law_spoilt" ["_law_text", "_law_way", "_law_place", "_law_sign"] G8) (f : Addr) (fd : FuncData) (F : Fun K "law" "law" (top 49) f fd) : FnOk P w K mg base CX0 9 f fd ["_law_script"] (qf8 K) := by
 refine F.ok sc_law (fun vs H Q E h => ?_) (fun cdv A outer s H vs Q E hr h => ?_)
 ·obtain ⟨a, ns, rfl, _⟩ := h; rfl
 ·obtain ⟨a, ns, rfl, hs, hlen, q⟩ := h
  have hr__law_made : Room 5 (A.deeper (envOfC "law" (qj (top 49)) s.heap.objs.size f cdv)) := hr.mono (by decide)
  have hr__law_cell : Room 1 (A.deeper (envOfC "law" (qj (top 49)) s.heap.objs.size f cdv)) := hr.mono (by decide)
  have hr__law_copy : Room 1 (A.deeper (envOfC "law" (qj (top 49)) s.heap.objs.size f cdv)) := hr.mono (by decide)
  have hr_checked : Room 5 (A.deeper (envOfC "law" (qj (top 49)) s.heap.objs.size f cdv)) := hr.mono (by decide)
  have hr_plain : Room 2 (A.deeper (envOfC "law" (qj (top 49)) s.heap.objs.size f cdv)) := hr.mono (by decide)
  have hr_read_plain : Room 7 (A.deeper (envOfC "law" (qj (top 49)) s.heap.objs.size f cdv)) := hr.mono (by decide)
  have hr__law_is_table : Room 3 (A.deeper (envOfC "law" (qj (top 49)) s.heap.objs.size f cdv)) := hr.mono (by decide)
  have hr__law_refused : Room 8 (A.deeper (envOfC "law" (qj (top 49)) s.heap.objs.size f cdv)) := hr.mono (by decide)
  have hr__law_by_base : Room 8 (A.deeper (envOfC "law" (qj (top 49)) s.heap.objs.size f cdv)) := hr.mono (by decide)
  have hr__law_turned_rows : Room 1 (A.deeper (envOfC "law" (qj (top 49)) s.heap.objs.size f cdv)) := hr.mono (by decide)
  have hr__law_none : Room 1 (A.deeper (envOfC "law" (qj (top 49)) s.heap.objs.size f cdv)) := hr.mono (by decide)
  have hr__law_spoilt : Room 1 (A.deeper (envOfC "law" (qj (top 49)) s.heap.objs.size f cdv)) := hr.mono (by decide)
  have hu5 : (A.deeper (envOfC "law" (qj (top 49)) s.heap.objs.size f cdv)).units + 4 + 1 < cLine := by have := hr.units; omega
  refine ⟨_, (ql (zf (i := 1) sc_law.nd rfl (by first | exact Or.inl rfl | exact Or.inr rfl) (qu c__law_made hr__law_made rfl (qb (pv 0) qi)))
   (ql (zf (i := 2) sc_law.nd rfl (by first | exact Or.inl rfl | exact Or.inr rfl) (qu c_plain hr_plain rfl (qb (qu c__law_copy hr__law_copy rfl (qb (pv 1) qi)) qi)))
   (ql (zf (i := 3) sc_law.nd rfl (by first | exact Or.inl rfl | exact Or.inr rfl) (qw yw (qu c__law_cell hr__law_cell rfl (qb (pv 0) (qb qg qi))) qg))
   (ql (jj (za Bv (pv 3) qg (zc _)) (ql (zf (i := 4) sc_law.nd rfl (by first | exact Or.inl rfl | exact Or.inr rfl) (qu c__law_turned_rows hr__law_turned_rows rfl (qb (pv 2) (qb (qu c__law_cell hr__law_cell rfl (qb (pv 0) (qb qg qi))) qi))))
   (qm (qx (ul (qu c__law_refused hr__law_refused rfl (qb (pv 4) qi)) (Br (qu c__law_by_base hr__law_by_base rfl (qb (pv 4) qi))))))) q8)
   (ql (jj (za Bv (pv 3) qg (zc _)) (ql (zf (i := 4) sc_law.nd rfl (by first | exact Or.inl rfl | exact Or.inr rfl) (qu c__law_none hr__law_none rfl (qb (pv 2) (qb (qu c__law_cell hr__law_cell rfl (qb (pv 0) (qb qg qi))) qi))))
   (qm (qx (ul (qu c__law_refused hr__law_refused rfl (qb (pv 4) qi)) (Br (qu c__law_by_base hr__law_by_base rfl (qb (pv 4) qi))))))) q8)
   (ql (zf (i := 4) sc_law.nd rfl (by first | exact Or.inl rfl | exact Or.inr rfl) (qu c__law_spoilt hr__law_spoilt rfl (qb (pv 2) (qb (pv 3) (qb (qu c__law_cell hr__law_cell rfl (qb (pv 0) (qb qg qi))) (qb (qu c__law_cell hr__law_cell rfl (qb (pv 0) (qb qg qi))) qi))))))
   (ql (jj (jq (qu c__law_refused hr__law_refused rfl (qb (pv 4) qi))) (qm (qx (qu c__law_by_base hr__law_by_base rfl (qb (pv 4) qi)))) q8)
   (ql (zf (i := 5) sc_law.nd rfl (by first | exact Or.inl rfl | exact Or.inr rfl) (Yr c_read_plain hr_read_plain rfl (qb (pv 4) qi)))
   (qm (qx (ul (qu c__law_is_table hr__law_is_table rfl (qb (pv 5) qi)) (ul (yr (Um (n := 4) hu5) (Yr c_checked hr_checked rfl (qb (qu c__law_copy hr__law_copy rfl (qb (pv 5) qi)) qi)) (pv 5) (zc _)) (Br (yr Bv (qu c_plain hr_plain rfl (qb (pv 5) qi)) (pv 4) (zc _))))))))))))))), ?_⟩
  refine ⟨_, rfl, a, ns, rfl, hs, hlen, fun v R C cs H1 s1 R1 R2 C1 C2 tl a1 => ?_⟩
  refine ⟨_, rfl, v, R, C, cs, rfl, a1, fun v2 H2 s2 a2 => ⟨v2, R, C, cs, rfl, a2, tl.toPart, R2, C2, fun H3 s3 => ?_⟩⟩
  have hs3 := ((s1.trans s2).trans s3).seq hs
  refine ⟨_, rfl, a, ns, 3, rfl, hs3, _, _, rfl, rfl, by show (0 : Int) < 7; decide, ?_⟩
  dsimp only [yf, qi0]
  generalize ns.getD 3 0 % 7 = way
  refine ⟨_, rfl, rfl, _, rfl, vd (fun _ => ?_) (fun _ => ?_)⟩
  ·refine ⟨_, rfl, _, rfl, a, ns, 4, rfl, hs3, R, C, cs, _, rfl, tl, R1, R2, C1, C2, fun z H4 s4 zl no => ?_⟩
   refine ⟨_, rfl, .str z, .str z, rfl, .str z (by omega), (fun g => absurd g (Y7 no)), fun _ H5 s5 => ⟨true, rfl, uh ?_⟩⟩
   exact ⟨_, rfl, .str z, .str z, rfl, .str z (by omega), Y7 no, fun H6 s6 => q _⟩
  have good : yh (plainT (Ag R C cs)) := ⟨R, C, cs, tl, R1, R2, C1, C2, rfl⟩
  have tle := Q5 tl.toPart R2 C2
  refine ⟨_, rfl, rfl, _, rfl, vd (fun _ => ?_) (fun _ => ?_)⟩
  ·refine ⟨_, rfl, _, rfl, a, ns, 4, rfl, hs3, _, _, rfl, good, tle, fun v g H4 s4 ag no => ?_⟩
   refine ⟨_, rfl, v, g, rfl, ag, (fun y => absurd y no), fun _ H5 s5 => ⟨true, rfl, uh ?_⟩⟩
   exact ⟨_, rfl, v, g, rfl, ag.mono s5, no, fun H6 s6 => q _⟩
  refine ⟨_, rfl, _, rfl, _, rfl, a, ns, 4, rfl, hs3, _, rfl, a, ns, 5, rfl, hs3, R, C, cs, _, _, _, rfl, tl, R1, R2, C1, C2, fun z H4 s4 zl => ?_⟩
  refine ⟨_, rfl, .str z, .str z, rfl, .str z (by omega), (fun g H5 s5 => ⟨false, rfl, uo ?_⟩), fun ng H5 s5 => ⟨true, rfl, uh ?_⟩⟩
  ·refine ⟨_, rfl, ?_⟩
   dsimp only [Tz]
   refine T4 (.str z (by omega)) (fun z' R' C' cs' v' H6 ez tl' R1' R2' C1' C2' ep s6 a6 => ?_) (fun no => absurd g no)
   injection ez with ez
   subst ez
   refine ⟨_, rfl, v', R', C', cs', rfl, a6, tl', R1', R2', C1', C2', fun H7 s7 => ⟨true, rfl, uh ?_⟩⟩
   have few := Ge tl'.toPart R2' C2'
   refine ⟨_, rfl, v', R', C', cs', rfl, a6.mono s7, fun v8 H8 s8 a8 => ?_⟩
   refine ⟨v8, _, rfl, zd1 a8 (fun x hx => (tl'.toPart.fit x hx).words), .inr ⟨R', C', cs', _, rfl, R1', R2', C1', C2', by rw [List.length_map]; omega, tl'.toPart, tl'.ord, .inr ⟨rfl, .inr ⟨tl'.all, fun p l zs H9 s9 hl hp hl3 az => ?_⟩⟩⟩⟩
   have a9 : At H9 (Mr R' C' cs') (.ref p) := Nq hp hl3 az
   have a69 := a6.mono ((s7.trans s8).trans s9)
   refine ⟨_, rfl, Mr R' C' cs', Mr R' C' cs', Zw R' C' cs' 1, trivial, a9, a69, fun _ => ⟨true, rfl, uh ?_⟩, fun z => absurd rfl z⟩
   refine ⟨_, rfl, v', R', C', cs', rfl, a69, tl'.toPart, R2', C2', fun H10 s10 => ⟨_, rfl, rfl, ?_⟩⟩
   rw [decide_eq_true (by rw [ep])]
   exact q _
  ·exact ⟨_, rfl, .str z, .str z, rfl, .str z (by omega), ng, fun H6 s6 => q _⟩
end
theorem Dr {α : Type} {P : List α -> Prop} (h : ∀ a, P [a]) : ∀ us : List α, us.length = 1 -> P us
 | [a], _ => h a
theorem qt8 {α : Type} {P : List α -> Prop} (h : ∀ a b, P [a, b]) : ∀ us : List α, us.length = 2 -> P us
 | [a, b], _ => h a b
theorem qw9 {α : Type} {P : List α -> Prop} (h : ∀ a b c, P [a, b, c]) : ∀ us : List α, us.length = 3 -> P us
 | [a, b, c], _ => h a b c
theorem zb2 {α : Type} {P : List α -> Prop} (h : ∀ a b c d, P [a, b, c, d]) : ∀ us : List α, us.length = 4 -> P us
 | [a, b, c, d], _ => h a b c d
set_option maxHeartbeats 4000000 in
theorem all_ok {l : PySem.W.OpenLaw} {w : World} {K : PySem.W.Frag} {h : Heap} {mg : Str -> Option Value} {fa : Addr} (X : K.In h) (G : h.Ns mainGlobals mg) (hfa : mg "law" = some (.ref fa))
  (a0 : At0 K "_law_cell" (top 30))
  (a1 : At0 K "_law_mix" (top 31))
  (a2 : At0 K "_law_large" (top 32))
  (a3 : At0 K "_law_word" (top 33))
  (a4 : At0 K "_law_words" (top 34))
  (a5 : At0 K "_law_block" (top 36))
  (a6 : At0 K "_law_free" (top 35))
  (a7 : At0 K "_law_table" (top 37))
  (a8 : At0 K "_law_size" (top 38))
  (a9 : At0 K "_law_made" (top 39))
  (a10 : At0 K "_law_copy" (top 40))
  (a11 : At0 K "is_number" (top 12))
  (a12 : At0 K "is_side" (top 11))
  (a13 : At0 K "has_frame" (top 10))
  (a14 : At0 K "is_word" (top 15))
  (a15 : At0 K "are_words" (top 14))
  (a16 : At0 K "is_cell" (top 13))
  (a17 : At0 K "sticks_out" (top 16))
  (a18 : At0 K "first_place" (top 17))
  (a19 : At0 K "places" (top 18))
  (a20 : At0 K "checked" (top 9))
  (a21 : At0 K "plain_row" (top 24))
  (a22 : At0 K "plain" (top 22))
  (a23 : At0 K "number_in" (top 28))
  (a24 : At0 K "numbers_in" (top 27))
  (a25 : At0 K "cell_in" (top 26))
  (a26 : At0 K "ended_rows" (top 25))
  (a27 : At0 K "read_plain" (top 23))
  (a28 : At0 K "_law_is_word" (top 41))
  (a29 : At0 K "_law_is_cell" (top 42))
  (a30 : At0 K "_law_is_table" (top 43))
  (a31 : At0 K "_law_refused" (top 44))
  (a32 : At0 K "_law_by_base" (top 45))
  (a33 : At0 K "_law_turned_rows" (top 47))
  (a34 : At0 K "_law_spoilt" (top 48))
  (a35 : At0 K "_law_none" (top 46))
  (a36 : At0 K "law" (top 49))
  (z0 : PySem.W.nsIn K mainGlobals "len" = some none)
  (z1 : PySem.W.nsIn K mainGlobals "range" = some none)
  (z2 : PySem.W.nsIn K mainGlobals "isinstance" = some none)
  (z3 : PySem.W.nsIn K mainGlobals "int" = some none)
  (z4 : PySem.W.nsIn K mainGlobals "bool" = some none)
  (z5 : PySem.W.nsIn K mainGlobals "tuple" = some none)
  (z6 : PySem.W.nsIn K mainGlobals "list" = some none)
  (z7 : PySem.W.nsIn K mainGlobals "sorted" = some none)
  (z8 : PySem.W.nsIn K mainGlobals "enumerate" = some none)
  (z9 : PySem.W.nsIn K mainGlobals "zip" = some none)
  (z10 : PySem.W.nsIn K mainGlobals "str" = some none)
  (z11 : PySem.W.nsIn K mainGlobals "all" = some none)
  (z12 : PySem.W.nsIn K mainGlobals "min" = some none)
  (z13 : PySem.W.nsIn K mainGlobals "max" = some none)
  (z14 : PySem.W.nsIn K mainGlobals "sum" = some none)
  (z15 : PySem.W.nsIn K mainGlobals "ValueError" = some none)
  (z16 : PySem.W.nsIn K mainGlobals "any" = some none)
  (z17 : PySem.W.nsIn K mainGlobals "reversed" = some none)
  {tk0 : Tok} (y0 : PySem.W.nsIn K mainGlobals "LONGEST_SIDE" = some (some (.int 16 tk0)))
  {tk1 : Tok} (y1 : PySem.W.nsIn K mainGlobals "LONGEST_WORD" = some (some (.int 12 tk1)))
  {tk2 : Tok} (y2 : PySem.W.nsIn K mainGlobals "SIGNS" = some (some (.str (Str.ofString "abcdefghijklmnopqrstuvwxyz0123456789") tk2)))
  {tk3 : Tok} (y3 : PySem.W.nsIn K mainGlobals "MOST_WORDS" = some (some (.int 12 tk3)))
  {tk4 : Tok} (y4 : PySem.W.nsIn K mainGlobals "FIGURES" = some (some (.str (Str.ofString "0123456789") tk4)))
  {tk5 : Tok} (y5 : PySem.W.nsIn K mainGlobals "MOST_FIGURES" = some (some (.int 2 tk5)))
  {CX_BadPlain : Addr} {bm0 : List Value} {ni0 B0 ii0 : String} (e0 : PySem.W.nsIn K mainGlobals "BadPlain" = some (some (.ref CX_BadPlain))) (FB0 : ExcBaseFacts B0 ni0 ii0 bm0) (q0 : PySem.W.excIn K CX_BadPlain bm0 ni0 = true)
  {CX_GridError : Addr} {bm1 : List Value} {ni1 B1 ii1 : String} (e1 : PySem.W.nsIn K mainGlobals "GridError" = some (some (.ref CX_GridError))) (FB1 : ExcBaseFacts B1 ni1 ii1 bm1) (q1 : PySem.W.excIn K CX_GridError bm1 ni1 = true)
  {CX_BadTable : Addr} (j0 : JX K "BadTable" "BadTable.__init__" u9 CX_BadTable)
  (f_exmBadPlain : PySem.W.exmOne K (.ref CX_BadPlain) (.ref CX_BadPlain) = some true)
  (f_exgBadPlain : PySem.W.exmOne K (.ref CX_BadPlain) (.ref CX_GridError) = some true)
  (f_kitBadPlain : PySem.W.kitOne K (.ref CX_BadPlain) (.type "ValueError") = some true)
  : ∃ fd : FuncData, (∀ (s : Shared) (v : Value), BindsTo s fd ⟨[v], []⟩ [("_law_script", v)]) /\ ∀ base : Heap, K.In base -> base.Ns mainGlobals mg -> FnOk l.prog w K mg base CX0 9 fa fd ["_law_script"] (qf8 K) := by
 have T : Txt mg := ⟨PySem.W.mg_none_of X G z0, PySem.W.mg_none_of X G z1, PySem.W.mg_none_of X G z2, PySem.W.mg_none_of X G z3, PySem.W.mg_none_of X G z4, PySem.W.mg_none_of X G z5, PySem.W.mg_none_of X G z6, PySem.W.mg_none_of X G z7, PySem.W.mg_none_of X G z8, PySem.W.mg_none_of X G z9, PySem.W.mg_none_of X G z10, PySem.W.mg_none_of X G z11, PySem.W.mg_none_of X G z12, PySem.W.mg_none_of X G z13, PySem.W.mg_none_of X G z14, PySem.W.mg_none_of X G z15, PySem.W.mg_none_of X G z16, PySem.W.mg_none_of X G z17⟩
 obtain ⟨f, fd, F, e⟩ := a36.ex
 have e0 := hfa.symm.trans (PySem.W.mg_of X G e)
 cases e0
 refine ⟨fd, ?_, fun base hKb hNb => ?_⟩
 ·obtain ⟨oc, od, kV, doc, pm, an, cdv, ct, osl, rfl, lk, hcd⟩ := F.ex
  exact fun s v => .of_eq rfl
 ·have k_LONGEST_SIDE : ∃ t, mg "LONGEST_SIDE" = some (.int 16 t) := ⟨_, PySem.W.mg_of X G y0⟩
  have k_LONGEST_WORD : ∃ t, mg "LONGEST_WORD" = some (.int 12 t) := ⟨_, PySem.W.mg_of X G y1⟩
  have k_SIGNS : ∃ t, mg "SIGNS" = some (.str (Str.ofString "abcdefghijklmnopqrstuvwxyz0123456789") t) := ⟨_, PySem.W.mg_of X G y2⟩
  have k_MOST_WORDS : ∃ t, mg "MOST_WORDS" = some (.int 12 t) := ⟨_, PySem.W.mg_of X G y3⟩
  have k_FIGURES : ∃ t, mg "FIGURES" = some (.str (Str.ofString "0123456789") t) := ⟨_, PySem.W.mg_of X G y4⟩
  have k_MOST_FIGURES : ∃ t, mg "MOST_FIGURES" = some (.int 2 t) := ⟨_, PySem.W.mg_of X G y5⟩
  have x_BadPlain : ExcC K mg base "BadPlain" CX_BadPlain := ⟨⟨_, _, _, _, FB0, qj0 hKb hNb e0 q0⟩, PySem.W.mg_of X G e0⟩
  have x_GridError : ExcC K mg base "GridError" CX_GridError := ⟨⟨_, _, _, _, FB1, qj0 hKb hNb e1 q1⟩, PySem.W.mg_of X G e1⟩
  have x_BadTable : ExcJ l.prog w K mg base "BadTable" CX_BadTable := Xb hKb hNb j0
  have c__law_cell : Cal l.prog w K mg base 1 "_law_cell" ["_law_script", "_law_k"] (Gu K) := a0.cal X G (fun _ _ _ _ _ _ => qt8 fun _ _ => rfl) (Om T)
  have c__law_mix : Cal l.prog w K mg base 1 "_law_mix" ["_law_cell_here", "_law_prime", "_law_many"] Wn := a1.cal X G (fun _ _ _ _ _ _ => qw9 fun _ _ _ => rfl) T9
  have c__law_large : Cal l.prog w K mg base 2 "_law_large" ["_law_script"] (Q9 K) := a2.cal X G (fun _ _ _ _ _ _ => Dr fun _ => rfl) (Ln T c__law_cell c__law_mix)
  have c__law_word : Cal l.prog w K mg base 2 "_law_word" ["_law_seed", "_law_size_here"] qb6 := a3.cal X G (fun _ _ _ _ _ _ => qt8 fun _ _ => rfl) (Ox T c__law_mix)
  have c__law_words : Cal l.prog w K mg base 3 "_law_words" ["_law_seed"] Tf := a4.cal X G (fun _ _ _ _ _ _ => Dr fun _ => rfl) (Lk T c__law_mix c__law_word)
  have c__law_block : Cal l.prog w K mg base 2 "_law_block" ["_law_cell_here", "_law_rows", "_law_columns"] Td := a5.cal X G (fun _ _ _ _ _ _ => qw9 fun _ _ _ => rfl) (Lp T c__law_mix)
  have c__law_free : Cal l.prog w K mg base 1 "_law_free" ["_law_block_here", "_law_rows", "_law_columns", "_law_taken"] Yy := a6.cal X G (fun _ _ _ _ _ _ => zb2 fun _ _ _ _ => rfl) (O7 T)
  have c__law_table : Cal l.prog w K mg base 4 "_law_table" ["_law_script", "_law_rows", "_law_columns"] (Qx K) := a7.cal X G (fun _ _ _ _ _ _ => qw9 fun _ _ _ => rfl) (Ma T c__law_cell c__law_words c__law_block c__law_free)
  have c__law_size : Cal l.prog w K mg base 3 "_law_size" ["_law_script", "_law_k"] (Z1 K) := a8.cal X G (fun _ _ _ _ _ _ => qt8 fun _ _ => rfl) (Nm T c__law_cell c__law_large)
  have c__law_made : Cal l.prog w K mg base 5 "_law_made" ["_law_script"] (Z6 K) := a9.cal X G (fun _ _ _ _ _ _ => Dr fun _ => rfl) (Oa T c__law_cell c__law_table c__law_size)
  have c__law_copy : Cal l.prog w K mg base 1 "_law_copy" ["_law_table_here"] Za := a10.cal X G (fun _ _ _ _ _ _ => Dr fun _ => rfl) (Nf T)
  have c_is_number : Cal l.prog w K mg base 1 "is_number" ["thing"] (spG Am) := a11.cal X G (fun _ _ _ _ _ _ => Dr fun _ => rfl) (My T)
  have c_is_side : Cal l.prog w K mg base 2 "is_side" ["thing"] (spG j8) := a12.cal X G (fun _ _ _ _ _ _ => Dr fun _ => rfl) (Wm k_LONGEST_SIDE c_is_number)
  have c_has_frame : Cal l.prog w K mg base 3 "has_frame" ["thing"] (spG jt) := a13.cal X G (fun _ _ _ _ _ _ => Dr fun _ => rfl) (Nu T c_is_side)
  have c_is_word : Cal l.prog w K mg base 1 "is_word" ["thing"] (spG yc) := a14.cal X G (fun _ _ _ _ _ _ => Dr fun _ => rfl) (W4 T k_LONGEST_WORD k_SIGNS)
  have c_are_words : Cal l.prog w K mg base 2 "are_words" ["thing"] (spG xq) := a15.cal X G (fun _ _ _ _ _ _ => Dr fun _ => rfl) (Nv T k_MOST_WORDS c_is_word)
  have c_is_cell : Cal l.prog w K mg base 3 "is_cell" ["thing"] (spG jw) := a16.cal X G (fun _ _ _ _ _ _ => Dr fun _ => rfl) (Xd T c_is_number c_are_words)
  have c_sticks_out : Cal l.prog w K mg base 1 "sticks_out" ["cell", "rows", "columns"] Jt := a17.cal X G (fun _ _ _ _ _ _ => qw9 fun _ _ _ => rfl) Lg
  have c_first_place : Cal l.prog w K mg base 1 "first_place" ["cell"] Tw := a18.cal X G (fun _ _ _ _ _ _ => Dr fun _ => rfl) Ip
  have c_places : Cal l.prog w K mg base 1 "places" ["cell"] Jp := a19.cal X G (fun _ _ _ _ _ _ => Dr fun _ => rfl) (Zg T)
  have c_checked : Cal1 l.prog w K mg base 5 "checked" ["table"] (Ba CX_BadTable) := a20.cal1 X G (fun _ _ _ _ _ _ => Dr fun _ => rfl) (Xc T x_BadTable c_has_frame c_is_cell c_sticks_out c_first_place c_places)
  have c_plain_row : Cal l.prog w K mg base 1 "plain_row" ["parts"] De := a21.cal X G (fun _ _ _ _ _ _ => Dr fun _ => rfl) (Od T)
  have c_plain : Cal l.prog w K mg base 2 "plain" ["table"] J1 := a22.cal X G (fun _ _ _ _ _ _ => Dr fun _ => rfl) (qd8 T c_plain_row)
  have c_number_in : Cal l.prog w K mg base 1 "number_in" ["part"] qb0 := a23.cal X G (fun _ _ _ _ _ _ => Dr fun _ => rfl) (O3 T k_FIGURES k_MOST_FIGURES)
  have c_numbers_in : Cal l.prog w K mg base 2 "numbers_in" ["parts"] Jq := a24.cal X G (fun _ _ _ _ _ _ => Dr fun _ => rfl) (Jv T c_number_in)
  have c_cell_in : Cal l.prog w K mg base 3 "cell_in" ["row"] Tj := a25.cal X G (fun _ _ _ _ _ _ => Dr fun _ => rfl) (Xg T c_numbers_in)
  have c_ended_rows : Cal l.prog w K mg base 1 "ended_rows" ["thing"] Yn := a26.cal X G (fun _ _ _ _ _ _ => Dr fun _ => rfl) (J9 T)
  have c_read_plain : Cal1 l.prog w K mg base 7 "read_plain" ["text"] (Dc CX_BadPlain) := a27.cal1 X G (fun _ _ _ _ _ _ => Dr fun _ => rfl) (J7 T x_BadTable x_BadPlain c_checked c_plain c_ended_rows c_cell_in c_numbers_in)
  have c__law_is_word : Cal l.prog w K mg base 1 "_law_is_word" ["_law_word_here"] qp4 := a28.cal X G (fun _ _ _ _ _ _ => Dr fun _ => rfl) (Gr T)
  have c__law_is_cell : Cal l.prog w K mg base 2 "_law_is_cell" ["_law_cell_here"] qn5 := a29.cal X G (fun _ _ _ _ _ _ => Dr fun _ => rfl) (Gw T c__law_is_word)
  have c__law_is_table : Cal l.prog w K mg base 3 "_law_is_table" ["_law_table_here"] qq0 := a30.cal X G (fun _ _ _ _ _ _ => Dr fun _ => rfl) (Dp T c__law_is_cell)
  have c__law_refused : Cal l.prog w K mg base 8 "_law_refused" ["_law_text"] X5 := a31.cal X G (fun _ _ _ _ _ _ => Dr fun _ => rfl) (G3 T x_BadPlain f_exmBadPlain c_read_plain)
  have c__law_by_base : Cal l.prog w K mg base 8 "_law_by_base" ["_law_text"] Qp := a32.cal X G (fun _ _ _ _ _ _ => Dr fun _ => rfl) (Gv T x_BadPlain x_GridError f_exgBadPlain f_kitBadPlain c_read_plain)
  have c__law_turned_rows : Cal l.prog w K mg base 1 "_law_turned_rows" ["_law_text", "_law_place"] Ig := a33.cal X G (fun _ _ _ _ _ _ => qt8 fun _ _ => rfl) (Aw T)
  have c__law_spoilt : Cal l.prog w K mg base 1 "_law_spoilt" ["_law_text", "_law_way", "_law_place", "_law_sign"] G8 := a34.cal X G (fun _ _ _ _ _ _ => zb2 fun _ _ _ _ => rfl) (Ja T)
  have c__law_none : Cal l.prog w K mg base 1 "_law_none" ["_law_text", "_law_way"] Tc := a35.cal X G (fun _ _ _ _ _ _ => qt8 fun _ _ => rfl) (Oe T)
  exact qs8 T c__law_made c__law_cell c__law_copy c_checked c_plain c_read_plain c__law_is_table c__law_refused c__law_by_base c__law_turned_rows c__law_none c__law_spoilt _ fd F
theorem walk {l : PySem.W.OpenLaw} {q : Program} {loose : List Str} {XP : (Str -> Option Value) -> Heap -> Prop} {YP : World -> Heap -> Prop} {d : DefRec} {K : Params -> PySem.W.Frag} (hn : l.most = some 63) (hdf : d.params.defaults = [])
  (hY : ∀ (w : World) (h : Heap), YP w h -> (K w.params).In h)
  (F : ∀ (w : World) (mg : Str -> Option Value) (fa : Addr) (h : Heap), (K w.params).In h -> h.Ns mainGlobals mg -> mg d.name = some (.ref fa) ->
   ∃ fd : FuncData, (∀ (s : Shared) (u : Value), BindsTo s fd ⟨[u], []⟩ [("_law_script", u)]) /\ ∀ base : Heap, (K w.params).In base -> base.Ns mainGlobals mg -> FnOk l.prog w (K w.params) mg base CX0 9 fa fd ["_law_script"] (qf8 (K w.params))) :
  PySem.W.WalkO q loose XP YP l.row.toRowW d [] (fun f vs => PySem.call f vs) :=
 L2.walk_of (n := 63) (k := 9) (x := "_law_script") (CX := fun _ => CX0) (sp := fun w => qf8 (K w.params)) hn (by decide) hdf ⟨rfl, by decide, by decide⟩ hY F (fun _ _ a ns hl _ hS => ⟨a, ns, rfl, hS, hl, fun _ => rfl⟩) fun _ _ _ _ _ z => z
end KL
noncomputable def PySem.W.Fast.tw15861046107422095487:PySem.Program:=PySem.Challenge.pw_gridframe_k27_spoilt_plain_texts
theorem PySem.W.Fast.te15861046107422095487:PySem.Challenge.pw_gridframe_k27_spoilt_plain_texts=PySem.W.Fast.tw15861046107422095487:=rfl
namespace PySem.W.Fast
theorem te15495727553857383538:True:=trivial
theorem te1691101072610030378:True:=trivial
theorem te5137022316754797634:True:=trivial
theorem te11069740532945541482:True:=trivial
theorem te19017337941827586:True:=trivial
theorem te2621740782892630223:True:=trivial
theorem te16721455717993462262:True:=trivial
theorem te4192274189599228608:True:=trivial
theorem te6057618216152351931:True:=trivial
theorem te11418800413177400050:True:=trivial
theorem te8104548546291456867:True:=trivial
theorem te12313331140061464572:True:=trivial
theorem te17820141851011759438:True:=trivial
theorem te15292091179019894825:True:=trivial
theorem te10699644981309268993:True:=trivial
theorem te14304743807107969845:True:=trivial
theorem te8741062032235308020:True:=trivial
theorem te6069908115126876108:True:=trivial
theorem te4084150216595332333:True:=trivial
theorem te11852041568986815900:True:=trivial
theorem te6755097643906924816:True:=trivial
theorem te5140535415658667409:True:=trivial
theorem te7752555774720745805:True:=trivial
theorem te11018007880648680897:True:=trivial
theorem te8658649745348939865:True:=trivial
theorem te2241056731322952839:True:=trivial
theorem te5346870156054402356:True:=trivial
theorem te6571377955037176253:True:=trivial
theorem te10477532816507594556:True:=trivial
theorem te13045145079561386018:True:=trivial
theorem te16430419173015229430:True:=trivial
theorem te10193225761403755778:True:=trivial
theorem te2375819430770655650:True:=trivial
theorem te6673650771615533556:True:=trivial
theorem te9602373556834984766:True:=trivial
theorem te13446473295983412351:True:=trivial
theorem te10200043648616710460:True:=trivial
theorem te286057294978090331:True:=trivial
theorem te18229006709341589875:True:=trivial
theorem te14792734692597712814:True:=trivial
theorem te11298827218206417925:True:=trivial
theorem te5573374271896330448:True:=trivial
theorem te5450726248518945874:True:=trivial
theorem te17182995469586430753:True:=trivial
theorem te1664483391964788349:True:=trivial
theorem te7363286815207617973:True:=trivial
theorem te9681177076143615177:True:=trivial
theorem te15482186935651019451:True:=trivial
theorem te194958933468298102:True:=trivial
theorem te16619633757311550532:True:=trivial
theorem te13031444736710975297:True:=trivial
theorem te3439445350175307428:True:=trivial
theorem te13578850379412111177:True:=trivial
theorem te10928407015256497058:True:=trivial
theorem te10728697499730977240:True:=trivial
theorem te4379436520256257544:True:=trivial
theorem te2145639369111199321:True:=trivial
theorem te12445527666255286166:True:=trivial
theorem te7754928499281658329:True:=trivial
theorem te131142213589846985:True:=trivial
theorem te5866010438487651547:True:=trivial
theorem te1884606171919489133:True:=trivial
theorem te52377284584485505:True:=trivial
theorem te7177113673497019868:True:=trivial
theorem te1337056658007365777:True:=trivial
theorem te16786156653362605863:True:=trivial
theorem te9535124766088407195:True:=trivial
theorem te7115389817741803551:True:=trivial
theorem te11512005742516831078:True:=trivial
theorem te12167248017054240643:True:=trivial
theorem te12832934859670870375:True:=trivial
theorem te6558861195843396831:True:=trivial
theorem te14330167021363199462:True:=trivial
theorem te4297697191739656256:True:=trivial
theorem te10084334012825429978:True:=trivial
theorem te6839765217953457841:True:=trivial
theorem te5043073976650159002:True:=trivial
theorem te17069697807819555495:True:=trivial
theorem te13553720681476208999:True:=trivial
theorem te18212486085358369753:True:=trivial
theorem te8843888403587178327:True:=trivial
theorem te15606550712530196479:True:=trivial
theorem te12654302569251433097:True:=trivial
theorem te6469261470189563018:True:=trivial
theorem te1053497587540510655:True:=trivial
theorem te18295547147709009822:True:=trivial
theorem te7164060034425615462:True:=trivial
theorem te15135121248629728980:True:=trivial
theorem te5904200415723472539:True:=trivial
theorem te370605757846641245:True:=trivial
theorem te5840459181689244175:True:=trivial
theorem te13711613762815943851:True:=trivial
theorem te3080775392698564430:True:=trivial
theorem te7598680746499091951:True:=trivial
theorem te4985722076734057092:True:=trivial
theorem te9936385697118196806:True:=trivial
theorem te15507697663686945405:True:=trivial
theorem te15602285768294095171:True:=trivial
theorem te11891999070773330113:True:=trivial
theorem te13101648083541052785:True:=trivial
theorem te12233816086489691911:True:=trivial
theorem te1129548806285915462:True:=trivial
theorem te9585108537252168852:True:=trivial
theorem te5139245745457901605:True:=trivial
theorem te15595273166484642866:True:=trivial
theorem te2701774210214494415:True:=trivial
theorem te6718828716010100078:True:=trivial
theorem te2885201510811108521:True:=trivial
theorem te16362334831121595858:True:=trivial
theorem te3855441934737712306:True:=trivial
theorem te6609360803232353655:True:=trivial
theorem te1816997347009771447:True:=trivial
theorem te12226079574772328602:True:=trivial
theorem te6971404820620112345:True:=trivial
theorem te3065385544606636255:True:=trivial
theorem te3786253157436118837:True:=trivial
theorem te8712547031944010668:True:=trivial
theorem te6049354127219879311:True:=trivial
theorem te628097720112718894:True:=trivial
theorem te1097095231138815155:True:=trivial
theorem te3599475026720054305:True:=trivial
theorem te6369009000415404901:True:=trivial
theorem te7268422943426112853:True:=trivial
theorem te15795775050442839524:True:=trivial
theorem te17229850518356099952:True:=trivial
theorem te14046035472190803217:True:=trivial
theorem te7003369704893076743:True:=trivial
theorem te14423645676487507139:True:=trivial
theorem te4104662841394319515:True:=trivial
theorem te1675764008256889113:True:=trivial
theorem te13868121882046353323:True:=trivial
theorem te13646365972121496872:True:=trivial
theorem te13055570116883813635:True:=trivial
theorem te8350710151730024044:True:=trivial
theorem te18105870542707787612:True:=trivial
theorem te6534900060229380574:True:=trivial
theorem te1234830708072785765:True:=trivial
theorem te6293969171711623937:True:=trivial
theorem te6349063028319552940:True:=trivial
theorem te9858672267047870600:True:=trivial
theorem te11609010745506253704:True:=trivial
theorem te15079127304375408775:True:=trivial
theorem te6926632665220125703:True:=trivial
theorem te9135431625227608910:True:=trivial
theorem te4047886070943593126:True:=trivial
theorem te656750491956614562:True:=trivial
theorem te18106163086897294901:True:=trivial
theorem te12902211751759917404:True:=trivial
theorem te16016629475910634190:True:=trivial
theorem te7988647826661998521:True:=trivial
theorem te17431012724563967808:True:=trivial
theorem te3739363922919515334:True:=trivial
theorem te5426138897486584130:True:=trivial
theorem te16990188922468529458:True:=trivial
theorem te15128929962597315550:True:=trivial
theorem te3049750833647361650:True:=trivial
theorem te7459357894328183156:True:=trivial
theorem te9369187337336596603:True:=trivial
theorem te7998067713193653552:True:=trivial
theorem te17520581331543612386:True:=trivial
theorem te11462763005918287411:True:=trivial
theorem te15690490407576932064:True:=trivial
theorem te6464605433343076975:True:=trivial
theorem te8675057531949552085:True:=trivial
theorem te13825266881420292479:True:=trivial
theorem te15879369088239851292:True:=trivial
theorem te3316751521534579649:True:=trivial
theorem te17326589741494627604:True:=trivial
theorem te17380825876225086382:True:=trivial
theorem te8037793649481694450:True:=trivial
theorem te6943282070312221784:True:=trivial
theorem te8069061033675704252:True:=trivial
theorem te7712105782927332935:True:=trivial
theorem te7750707192080489484:True:=trivial
theorem te16923634393919853922:True:=trivial
theorem te12991198015784114577:True:=trivial
theorem te6235117796207869760:True:=trivial
theorem te5493211546522239387:True:=trivial
theorem te2961887857812956496:True:=trivial
theorem te14637034652198536871:True:=trivial
theorem te9697022574236203038:True:=trivial
theorem te11528573178311144097:True:=trivial
theorem te12573228210004721674:True:=trivial
theorem te13996715874088153679:True:=trivial
theorem te12896443072608186689:True:=trivial
theorem te598718822654773980:True:=trivial
theorem te6566945357763645857:True:=trivial
theorem te8787999225092309829:True:=trivial
theorem te14669891142668095745:True:=trivial
theorem te12910563978509019051:True:=trivial
theorem te6419448502570922252:True:=trivial
theorem te11159060701280984814:True:=trivial
theorem te634300120496698598:True:=trivial
theorem te13704299866225995762:True:=trivial
theorem te1861664640665901527:True:=trivial
theorem te77301240997107769:True:=trivial
theorem te12343401103626125653:True:=trivial
theorem te2481748031901159142:True:=trivial
theorem te924639891217544132:True:=trivial
theorem te539409763111744950:True:=trivial
theorem te3198429338582234561:True:=trivial
theorem te13908517768779574734:True:=trivial
theorem te5981348673599506439:True:=trivial
theorem te6411518122327475534:True:=trivial
theorem te5452681701505276088:True:=trivial
theorem te18411722561997669049:True:=trivial
theorem te11197815771411502790:True:=trivial
theorem te10960097727899532673:True:=trivial
theorem te4713640049944835687:True:=trivial
theorem te3529757430583473733:True:=trivial
theorem te7412454518302247078:True:=trivial
theorem te954312050073018917:True:=trivial
theorem te10356157412516818472:True:=trivial
theorem te11301100497539000668:True:=trivial
theorem te17614251610147626936:True:=trivial
theorem te3283147083187094590:True:=trivial
theorem te17576656355954196647:True:=trivial
theorem te6225990831024677965:True:=trivial
theorem te2547345816743700886:True:=trivial
theorem te15390222889831542509:True:=trivial
theorem te14947101163201211544:True:=trivial
theorem te16698474211638779333:True:=trivial
theorem te12316590703788251912:True:=trivial
theorem te5829364081696283285:True:=trivial
theorem te18245463602614271126:True:=trivial
theorem te17470515221617033652:True:=trivial
theorem te18191065176241688239:True:=trivial
theorem te7881883486166666450:True:=trivial
theorem te16880587885840841437:True:=trivial
theorem te2661937812980085915:True:=trivial
theorem te3698701987212580107:True:=trivial
theorem te2372476706032657680:True:=trivial
theorem te9613234878358045176:True:=trivial
theorem te2346284495783907754:True:=trivial
theorem te3146091924030306319:True:=trivial
theorem te10575411079771918367:True:=trivial
theorem te7071520794587852250:True:=trivial
theorem te11844947673434736938:True:=trivial
theorem te77027474149395245:True:=trivial
theorem te11609109876573784999:True:=trivial
theorem te702762822658100181:True:=trivial
theorem te4629452902884708255:True:=trivial
theorem te6014150906845739439:True:=trivial
theorem te15430751659430154658:True:=trivial
theorem te7520771229631636860:True:=trivial
theorem te7231717171470361575:True:=trivial
theorem te3313099508717072976:True:=trivial
theorem te2429866349993270836:True:=trivial
end PySem.W.Fast
open PySem PySem.W PyProof.Rows
set_option maxRecDepth 100000 in
set_option maxHeartbeats 0 in
theorem PySem.Challenge.cw_gridframe_k27_spoilt_plain_texts_holds : PySem.Challenge.rw_gridframe_k27_spoilt_plain_texts.Holds := by
 w_on; o_law; k_head; (case hw => w_witness2)
 k_fill
 refine KL.walk (l := PySem.Challenge.rw_gridframe_k27_spoilt_plain_texts) rfl rfl (fun w h Y => PySem.W.kIn_of Y) ?F
 case F =>
  intro w mg fa h KX G hmg
  refine' KL.all_ok KX G hmg ?a0 ?a1 ?a2 ?a3 ?a4 ?a5 ?a6 ?a7 ?a8 ?a9 ?a10 ?a11 ?a12 ?a13 ?a14 ?a15 ?a16 ?a17 ?a18 ?a19 ?a20 ?a21 ?a22 ?a23 ?a24 ?a25 ?a26 ?a27 ?a28 ?a29 ?a30 ?a31 ?a32 ?a33 ?a34 ?a35 ?a36 ?z0 ?z1 ?z2 ?z3 ?z4 ?z5 ?z6 ?z7 ?z8 ?z9 ?z10 ?z11 ?z12 ?z13 ?z14 ?z15 ?z16 ?z17 ?y0 ?y1 ?y2 ?y3 ?y4 ?y5 ?e0 ?FB0 ?q0 ?e1 ?FB1 ?q1 ?j0 ?f0 ?f1 ?f2
  (case a0 => refine' L2.at0_mk ?na0 ?lk0 ?co0 ?kp0; (case na0 => k_is); (case lk0 => k_is); (case co0 => k_is); (case kp0 => k_is))
  (case a1 => refine' L2.at0_mk ?na1 ?lk1 ?co1 ?kp1; (case na1 => k_is); (case lk1 => k_is); (case co1 => k_is); (case kp1 => k_is))
  (case a2 => refine' L2.at0_mk ?na2 ?lk2 ?co2 ?kp2; (case na2 => k_is); (case lk2 => k_is); (case co2 => k_is); (case kp2 => k_is))
  (case a3 => refine' L2.at0_mk ?na3 ?lk3 ?co3 ?kp3; (case na3 => k_is); (case lk3 => k_is); (case co3 => k_is); (case kp3 => k_is))
  (case a4 => refine' L2.at0_mk ?na4 ?lk4 ?co4 ?kp4; (case na4 => k_is); (case lk4 => k_is); (case co4 => k_is); (case kp4 => k_is))
  (case a5 => refine' L2.at0_mk ?na5 ?lk5 ?co5 ?kp5; (case na5 => k_is); (case lk5 => k_is); (case co5 => k_is); (case kp5 => k_is))
  (case a6 => refine' L2.at0_mk ?na6 ?lk6 ?co6 ?kp6; (case na6 => k_is); (case lk6 => k_is); (case co6 => k_is); (case kp6 => k_is))
  (case a7 => refine' L2.at0_mk ?na7 ?lk7 ?co7 ?kp7; (case na7 => k_is); (case lk7 => k_is); (case co7 => k_is); (case kp7 => k_is))
  (case a8 => refine' L2.at0_mk ?na8 ?lk8 ?co8 ?kp8; (case na8 => k_is); (case lk8 => k_is); (case co8 => k_is); (case kp8 => k_is))
  (case a9 => refine' L2.at0_mk ?na9 ?lk9 ?co9 ?kp9; (case na9 => k_is); (case lk9 => k_is); (case co9 => k_is); (case kp9 => k_is))
  (case a10 => refine' L2.at0_mk ?na10 ?lk10 ?co10 ?kp10; (case na10 => k_is); (case lk10 => k_is); (case co10 => k_is); (case kp10 => k_is))
  (case a11 => refine' L2.at0_mk ?na11 ?lk11 ?co11 ?kp11; (case na11 => k_is); (case lk11 => k_is); (case co11 => k_is); (case kp11 => k_is))
  (case a12 => refine' L2.at0_mk ?na12 ?lk12 ?co12 ?kp12; (case na12 => k_is); (case lk12 => k_is); (case co12 => k_is); (case kp12 => k_is))
  (case a13 => refine' L2.at0_mk ?na13 ?lk13 ?co13 ?kp13; (case na13 => k_is); (case lk13 => k_is); (case co13 => k_is); (case kp13 => k_is))
  (case a14 => refine' L2.at0_mk ?na14 ?lk14 ?co14 ?kp14; (case na14 => k_is); (case lk14 => k_is); (case co14 => k_is); (case kp14 => k_is))
  (case a15 => refine' L2.at0_mk ?na15 ?lk15 ?co15 ?kp15; (case na15 => k_is); (case lk15 => k_is); (case co15 => k_is); (case kp15 => k_is))
  (case a16 => refine' L2.at0_mk ?na16 ?lk16 ?co16 ?kp16; (case na16 => k_is); (case lk16 => k_is); (case co16 => k_is); (case kp16 => k_is))
  (case a17 => refine' L2.at0_mk ?na17 ?lk17 ?co17 ?kp17; (case na17 => k_is); (case lk17 => k_is); (case co17 => k_is); (case kp17 => k_is))
  (case a18 => refine' L2.at0_mk ?na18 ?lk18 ?co18 ?kp18; (case na18 => k_is); (case lk18 => k_is); (case co18 => k_is); (case kp18 => k_is))
  (case a19 => refine' L2.at0_mk ?na19 ?lk19 ?co19 ?kp19; (case na19 => k_is); (case lk19 => k_is); (case co19 => k_is); (case kp19 => k_is))
  (case a20 => refine' L2.at0_mk ?na20 ?lk20 ?co20 ?kp20; (case na20 => k_is); (case lk20 => k_is); (case co20 => k_is); (case kp20 => k_is))
  (case a21 => refine' L2.at0_mk ?na21 ?lk21 ?co21 ?kp21; (case na21 => k_is); (case lk21 => k_is); (case co21 => k_is); (case kp21 => k_is))
  (case a22 => refine' L2.at0_mk ?na22 ?lk22 ?co22 ?kp22; (case na22 => k_is); (case lk22 => k_is); (case co22 => k_is); (case kp22 => k_is))
  (case a23 => refine' L2.at0_mk ?na23 ?lk23 ?co23 ?kp23; (case na23 => k_is); (case lk23 => k_is); (case co23 => k_is); (case kp23 => k_is))
  (case a24 => refine' L2.at0_mk ?na24 ?lk24 ?co24 ?kp24; (case na24 => k_is); (case lk24 => k_is); (case co24 => k_is); (case kp24 => k_is))
  (case a25 => refine' L2.at0_mk ?na25 ?lk25 ?co25 ?kp25; (case na25 => k_is); (case lk25 => k_is); (case co25 => k_is); (case kp25 => k_is))
  (case a26 => refine' L2.at0_mk ?na26 ?lk26 ?co26 ?kp26; (case na26 => k_is); (case lk26 => k_is); (case co26 => k_is); (case kp26 => k_is))
  (case a27 => refine' L2.at0_mk ?na27 ?lk27 ?co27 ?kp27; (case na27 => k_is); (case lk27 => k_is); (case co27 => k_is); (case kp27 => k_is))
  (case a28 => refine' L2.at0_mk ?na28 ?lk28 ?co28 ?kp28; (case na28 => k_is); (case lk28 => k_is); (case co28 => k_is); (case kp28 => k_is))
  (case a29 => refine' L2.at0_mk ?na29 ?lk29 ?co29 ?kp29; (case na29 => k_is); (case lk29 => k_is); (case co29 => k_is); (case kp29 => k_is))
  (case a30 => refine' L2.at0_mk ?na30 ?lk30 ?co30 ?kp30; (case na30 => k_is); (case lk30 => k_is); (case co30 => k_is); (case kp30 => k_is))
  (case a31 => refine' L2.at0_mk ?na31 ?lk31 ?co31 ?kp31; (case na31 => k_is); (case lk31 => k_is); (case co31 => k_is); (case kp31 => k_is))
  (case a32 => refine' L2.at0_mk ?na32 ?lk32 ?co32 ?kp32; (case na32 => k_is); (case lk32 => k_is); (case co32 => k_is); (case kp32 => k_is))
  (case a33 => refine' L2.at0_mk ?na33 ?lk33 ?co33 ?kp33; (case na33 => k_is); (case lk33 => k_is); (case co33 => k_is); (case kp33 => k_is))
  (case a34 => refine' L2.at0_mk ?na34 ?lk34 ?co34 ?kp34; (case na34 => k_is); (case lk34 => k_is); (case co34 => k_is); (case kp34 => k_is))
  (case a35 => refine' L2.at0_mk ?na35 ?lk35 ?co35 ?kp35; (case na35 => k_is); (case lk35 => k_is); (case co35 => k_is); (case kp35 => k_is))
  (case a36 => refine' L2.at0_mk ?na36 ?lk36 ?co36 ?kp36; (case na36 => k_is); (case lk36 => k_is); (case co36 => k_is); (case kp36 => k_is))
  (case z0 => k_is); (case z1 => k_is); (case z2 => k_is); (case z3 => k_is); (case z4 => k_is); (case z5 => k_is); (case z6 => k_is); (case z7 => k_is); (case z8 => k_is); (case z9 => k_is); (case z10 => k_is); (case z11 => k_is); (case z12 => k_is); (case z13 => k_is); (case z14 => k_is); (case z15 => k_is); (case z16 => k_is); (case z17 => k_is)
  (case y0 => k_is)
  (case y1 => k_is)
  (case y2 => k_is)
  (case y3 => k_is)
  (case y4 => k_is)
  (case y5 => k_is)
  (case e0 => k_is); (case FB0 => exact PySem.F.excBase_ValueError); (case q0 => k_exc)
  (case e1 => k_is); (case FB1 => exact PySem.F.excBase_ValueError); (case q1 => k_exc)
  (case j0 => refine' L2.jx_mk ?j0e ?j0c ?j0i ?j0q ?j0l ?j0co ?j0kp ?j0k1 ?j0k2 ?j0k3 ?j0k4 ?j0k5 ?j0n ?j0m ?j0g0 ?j0g1 ?j0g2 ?j0g3; (case j0e => k_is); (case j0c => k_is); (case j0i => k_is); (case j0q => kernel_rfl); (case j0l => k_is); (case j0co => k_is); (case j0kp => k_is); (case j0k1 => k_is); (case j0k2 => kernel_rfl); (case j0k3 => k_is); (case j0k4 => k_is); (case j0k5 => k_is); (case j0n => k_is); (case j0m => kts_exm); (case j0g0 => k_is); (case j0g1 => k_is); (case j0g2 => k_is); (case j0g3 => k_is))
  (case f0 => kts_exm)
  (case f1 => kts_exm)
  (case f2 => kit_is)
#print axioms PySem.Challenge.cw_gridframe_k27_spoilt_plain_texts_holds
