import PyProof.Rows.All
import Wide.All
import OpenK.AllK
import Wide.FinOn
import Lean
import PyProof.EqAt
import PyProof.EqKinds
import PyProof.TupleCall
import PyProof.NeKinds
import PyProof.Rows.SortShellK
import KE.KSortTup
import PyProof.EnumStmt
import PyProof.EnumMake
import PyProof.EnumFor
import PyProof.FactsAll.tuple
import PyProof.FactsAll.int
import PyProof.ListMulRoad
import PyProof.ZipIter
import PyProof.ListNew
import KE.LcSums
import KE.KRevIter
import PyProof.ListRange
import PyProof.Rows.SumAny
import KE.KMinKey
import PyProof.StrBlockG
import PyProof.FitsReplace
import PyProof.Draws
import PyProof.StrCalls
import KE.KIntText
import KE.KxText
import PyProof.CallStr
import KE.KSortKey
import PyProof.StationsW
import KE.KTryOn
import PyProof.ExcInit
import PyProof.FString5
import PyProof.InstStoreFacts
import PyProof.ExcAttrAll.ValueError
import PyProof.StrLawsWords2
import PyProof.StrCalls2
import PyProof.SliceStr2
import PyProof.StrBlockI
import PyProof.StrLawsIdx
import PyProof.StrLawsNeg
import PyProof.StrOps2
import PyProof.Rows.StrNews2
import PyProof.StrCalls6
import PyProof.ToksMono
import PyProof.StrLawsReplace
import PyProof.Rows.MatchSeqLen
import PyProof.NsDelKeeps
import PyProof.ListStr
import PySem.Challenge.RW_gridframe_k25_spoilt_drawings
set_option maxHeartbeats 0
set_option Elab.async false
set_option linter.all false
set_option maxRecDepth 100000
abbrev aA:=@List.length_map
abbrev bA:=@List.getElem?_eq_some_iff
abbrev cA:=@PySem.wpAny_bind
abbrev dA:=@Nat.le_refl
abbrev eA:=@decide_eq_true
abbrev fA:=@List.getElem?_map
abbrev gA:=@List.getElem?_eq_getElem
abbrev iA:=@PySem.Heap.get?_push_of_some
abbrev jA:=@List.mem_of_getElem?
abbrev kA:=@if_pos
abbrev lA:=@List.map_append
abbrev oA:=@if_neg
abbrev qA:=@List.size_toArray
abbrev uA:=@List.mem_cons_self
abbrev vA:=@List.mem_cons_of_mem
abbrev wA:=@List.length_append
abbrev xA:=@List.mem_map
abbrev zA:=@List.getD_eq_getElem?_getD
abbrev aB:=@PyProof.Rows.wpS_bind
abbrev bB:=@Bool.false_ne_true
abbrev cB:=@List.length_take
abbrev dB:=@decide_eq_false
abbrev eB:=@PySem.wpAny_pure
abbrev fB:=@List.length_cons
abbrev gB:=@List.mem_cons
abbrev iB:=@List.append_assoc
abbrev jB:=@PyProof.Rows.wpS_pure
abbrev kB:=@PySem.Heap.lt_size
abbrev lB:=@of_decide_eq_true
abbrev mB:=@Array.toList_append
abbrev nB:=@Option.some.inj
abbrev oB:=@PyProof.Rows.boot_isinstance
abbrev pB:=@Array.length_toList
abbrev qB:=@Option.map_eq_some_iff
abbrev rB:=@List.mem_append
abbrev uB:=@List.take_of_length_le
abbrev vB:=@PySem.boot_len
abbrev wB:=@Array.toList_push
abbrev yB:=@Nat.zero_le
abbrev zB:=@PySem.Heap.get?_push_size
abbrev aC:=@List.map_cons
abbrev bC:=@Bool.and_eq_true
abbrev cC:=@PySem.PassesOwn.never
abbrev dC:=@PySem.Heap.get?_update_other
abbrev fC:=@Bool.false_eq_true
abbrev iC:=@PySem.W.mg_none_of
abbrev jC:=@List.take_append_drop
abbrev kC:=@Array.getElem?_toList
abbrev mC:=@List.length_range
abbrev oC:=@PySem.wpAny_mono
abbrev pC:=@List.take_length
abbrev qC:=@Nat.lt_of_lt_of_le
abbrev rC:=@Nat.ne_of_lt
abbrev sC:=@List.getElem?_take_of_lt
abbrev uC:=@List.mem_append_right
abbrev vC:=@PySem.F.plainAttrs_str
abbrev wC:=@List.length_drop
abbrev xC:=@List.append_nil
abbrev yC:=@List.mem_of_mem_take
abbrev zC:=@List.foldl_cons
abbrev aD:=@Nat.le_trans
abbrev bD:=@PySem.Heap.get?_update_self
abbrev cD:=@Classical.byContradiction
abbrev dD:=@List.pairwise_iff_getElem
abbrev fD:=@List.getElem?_range
abbrev gD:=@List.map_map
abbrev iD:=@Array.toList_reverse
abbrev jD:=@List.flatten_cons
abbrev kD:=@List.getElem?_append_right
abbrev lD:=@PyProof.Rows.wpS_forRange
abbrev mD:=@List.mem_of_mem_drop
abbrev pD:=@List.take_succ_eq_append_getElem
abbrev qD:=@List.take_add_one
abbrev rD:=@PySem.F.plain_max_loop
abbrev sD:=@PySem.wpAny_holding
abbrev tD:=@List.Perm.append_left
abbrev uD:=@List.range_succ
abbrev vD:=@congrArg
abbrev wD:=@PySem.F.plainAttrs_list
abbrev xD:=@PyProof.Rows.boot_tuple
abbrev yD:=@List.mem_range
abbrev zD:=@PySem.wpAny_truthy_bool
abbrev aE:=@List.getElem?_append_left
abbrev bE:=@List.drop_eq_getElem_cons
abbrev cE:=@List.getElem?_drop
abbrev dE:=@List.dropLast_concat_getLast
abbrev eE:=@Ne.symm
abbrev fE:=@List.lookup_cons
abbrev gE:=@PySem.F.slot_list_append
abbrev iE:=@PySem.F.type_list_append
abbrev jE:=@List.length_singleton
abbrev kE:=@List.getElem?_eq_none
abbrev lE:=@PySem.wpAny_execs_nil
abbrev mE:=@PySem.W.kia_one
abbrev nE:=@List.length_nil
abbrev oE:=@List.drop_of_length_le
abbrev pE:=@PySem.F.slot_str_split
abbrev qE:=@PySem.sizeLine_eq
abbrev rE:=@PySem.F.slot_str_join
abbrev sE:=@PySem.F.type_str_join
abbrev tE:=@List.sum_cons
abbrev uE:=@Option.isSome_iff_exists
abbrev vE:=@List.mem_append_left
abbrev xE:=@PySem.wpAny_execs_cons
abbrev yE:=@if_false
abbrev zE:=@List.pairwise_append
abbrev aF:=@PyProof.Rows.callWith_type1
abbrev bF:=@PySem.StrLaws.glued_eq_join
abbrev cF:=@PySem.W.mg_of
abbrev dF:=@PySem.wpAny_loadPart_at
abbrev eF:=@PySem.mem_of_lookup
abbrev fF:=@PySem.wpAny_field
abbrev gF:=@Array.getElem?_eq_getElem
abbrev iF:=@List.perm_append_comm
abbrev jF:=@List.cons_append
abbrev kF:=@List.all_eq_true
abbrev lF:=@List.mem_singleton
abbrev mF:=@PySem.wpAny_standAt
abbrev nF:=@PyProof.Rows.wpS_mono
abbrev oF:=@Array.toList_extract
abbrev pF:=@List.eq_nil_of_length_eq_zero
abbrev rF:=@List.mem_iff_getElem
abbrev sF:=@decide_eq_true_eq
abbrev tF:=@Int.eq_ofNat_of_zero_le
abbrev uF:=@List.nil_append
abbrev vF:=@List.replicate_succ
abbrev xF:=@List.reverse_append
abbrev yF:=@if_true
abbrev zF:=@List.mem_nil_iff
abbrev aG:=@PySem.SeqAt.EqAt.int_int
abbrev bG:=@PyProof.Rows.wpS_modify
abbrev cG:=@List.drop_take
abbrev dG:=@Nat.mul_le_mul
abbrev fG:=@Array.getElem?_eq_some_iff
abbrev gG:=@List.extract_eq_take_drop
abbrev iG:=@PySem.wpAny_passesOwn
abbrev jG:=@List.sum_append
abbrev kG:=@PySem.wpAny_newObj_type
abbrev lG:=@PySem.Calls.evalArgs_plain
abbrev mG:=@Nat.succ_mul
abbrev nG:=@Nat.lt_irrefl
abbrev oG:=@PyProof.Rows.slot_tuple_getitem
abbrev pG:=@List.map_congr_left
abbrev qG:=@List.length_pos_iff
abbrev rG:=@List.getElem?_cons_zero
abbrev sG:=@List.drop_append_of_le_length
abbrev tG:=@Nat.le_of_lt
abbrev uG:=@PySem.Calls.Constant_str
abbrev vG:=@PySem.Calls.spliced_cons
abbrev wG:=@PySem.wpAny_Call_Name_kw
abbrev xG:=@List.zip_cons_cons
abbrev yG:=@PySem.F.entry_max_loop
abbrev zG:=@List.map_singleton
abbrev aH:=@PySem.Obj.data_mapFields
abbrev bH:=@PyProof.Rows.boot_list
abbrev cH:=@PySem.F.type_str_split
abbrev dH:=@List.find?_cons
abbrev fH:=@Nat.min_eq_left
abbrev iH:=@List.cons.injEq
abbrev jH:=@List.mem_filter
abbrev kH:=@List.nodup_cons
abbrev lH:=@PyProof.Rows.boot_all
abbrev mH:=@List.mem_iff_getElem?
abbrev nH:=@List.ext_getElem?
abbrev oH:=@List.Pairwise.map
abbrev pH:=@Bool.not_eq_true'
abbrev qH:=@Bool.false_and
abbrev rH:=@List.take_take
abbrev sH:=@List.drop_zero
abbrev tH:=@PySem.Around.under_plainId
abbrev uH:=@Nat.mul_le_mul_right
abbrev vH:=@List.getElem_mem
abbrev wH:=@Nat.mul_comm
abbrev xH:=@List.mem_flatten
abbrev yH:=@ne_true_of_eq_false
abbrev zH:=@List.flatMap_append
abbrev aI:=@PySem.F.args_str_split_2
abbrev bI:=@Bool.eq_iff_iff
abbrev cI:=@Option.map_some
abbrev dI:=@PySem.SeqAt.EqAt.int_str
abbrev gI:=@PySem.SeqAt.EqAt.str_int
abbrev iI:=@PySem.typeIs_str
abbrev jI:=@PySem.call_meets
abbrev kI:=@Nat.lt_or_eq_of_le
abbrev lI:=@PySem.Txt.slice_le
abbrev mI:=@List.mem_filterMap
abbrev nI:=@List.getElem?_cons_succ
abbrev pI:=@List.pairwise_singleton
abbrev qI:=@PySem.F.entry_str_split
abbrev sI:=@List.getElem?_set_self
namespace L2
open PySem PySem.Spec PyProof.Rows
noncomputable abbrev Key:=Sum Int Str
noncomputable def Zv:Key->Value->Bool
 | .inl k,v=>Value.isInt k v
 | .inr x,v=>Value.isStrOf x v
noncomputable def zw5 (w:World):Key->Int
 | .inl k=>hashInt k
 | .inr x=>hashStr w x
theorem j7:∀{k:Key} {v:Value},Zv k v=true->(∃i t,k=Sum.inl i/\v=Value.int i t)\/(∃x t,k=Sum.inr x/\v=Value.str x t)
 | .inl i,v,h=>by obtain⟨t,e⟩:=Value.isInt_shape (k:=i) (v:=v) h;exact .inl ⟨i,t,rfl,e⟩
 | .inr x,v,h=>by obtain⟨t,e⟩:=Value.isStrOf_shape (x:=x) (v:=v) h;exact .inr ⟨x,t,rfl,e⟩
theorem qe3 (i:Int) (t:Tok):Zv (.inl i) (.int i t)=true:=by simp [Zv,Value.isInt]
theorem qb6 (x:Str) (t:Tok):Zv (.inr x) (.str x t)=true:=by simp [Zv,Value.isStrOf]
theorem zp2 (a b:Int):decide ((Sum.inl a:Key)=Sum.inl b)=(a == b):=by
 by_cases e:a=b
 ·subst e;simp
 ·have h:¬(Sum.inl a:Key)=Sum.inl b:=fun q=>e (Sum.inl.inj q);rw [dB h];exact (beq_eq_false_iff_ne.mpr e).symm
theorem zj2 (a b:Str):decide ((Sum.inr a:Key)=Sum.inr b)=decide (a=b):=by
 by_cases e:a=b
 ·subst e;simp
 ·have h:¬(Sum.inr a:Key)=Sum.inr b:=fun q=>e (Sum.inr.inj q);rw [dB h,dB e]
theorem zm0 (a:Int) (b:Str):decide ((Sum.inl a:Key)=Sum.inr b)=false:=dB (fun q=>nomatch q)
theorem zk1 (a:Str) (b:Int):decide ((Sum.inr a:Key)=Sum.inl b)=false:=dB (fun q=>nomatch q)
noncomputable def xr (prog:Program) (w:World):PySem.KeyKind prog w Key where
  is:=Zv
  hash:=zw5 w
  inj:=fun v a b ha hb=>by
    rcases j7 ha with ⟨i,t,rfl,rfl⟩ |⟨x,t,rfl,rfl⟩
    · rcases j7 hb with ⟨j,u,rfl,e⟩ |⟨y,u,rfl,e⟩
      · injection e with e1 _;rw [e1]
      · exact nomatch e
    · rcases j7 hb with ⟨j,u,rfl,e⟩ |⟨y,u,rfl,e⟩
      · exact nomatch e
      · injection e with e1 _;rw [e1]
  byValue:=fun k v h=>by rcases j7 h with ⟨i,t,rfl,rfl⟩ |⟨x,t,rfl,rfl⟩<;>rfl
  pyHash:=fun D h=>by
    rcases j7 D with ⟨i,t,rfl,rfl⟩ |⟨x,t,rfl,rfl⟩
    · exact wpAny_pyHash_int h
    · exact wpAny_pyHash_str h
  eqBool:=fun F D h=>by
    rcases j7 F with ⟨i,t,rfl,rfl⟩ |⟨x,t,rfl,rfl⟩
    · rcases j7 D with ⟨j,u,rfl,rfl⟩ |⟨y,u,rfl,rfl⟩
      · rw [zp2] at h;exact wpAny_eqBool_int h
      · rw [zm0] at h;exact dI i t y u _ _ _ _ h
    · rcases j7 D with ⟨j,u,rfl,rfl⟩ |⟨y,u,rfl,rfl⟩
      · rw [zk1] at h;exact gI x t j u _ _ _ _ h
      · rw [zj2] at h;exact wpAny_eqBool_str h
  «strs»:=fun k x t v h=>by
    rcases j7 h with ⟨i,u,rfl,e⟩ |⟨y,u,rfl,e⟩
    · exact nomatch e
    · injection e with e1 _
      subst e1;cases v<;>rfl
theorem Wf (prog:Program) (w:World) (i:Int) (t:Tok):(xr prog w).is (.inl i) (.int i t)=true:=qe3 i t
theorem Ww (prog:Program) (w:World) (x:Str) (t:Tok):(xr prog w).is (.inr x) (.str x t)=true:=qb6 x t
inductive V where
  |non |bl (b:Bool) |int (i:Int) |str (x:Str) |byt (b:Array UInt8) |flt (b:UInt64) |ref (a:Addr) |ty (n:String)
  deriving DecidableEq
noncomputable def RelV:V->Value->Prop
 | .non,u=>u=Value.none
 | .bl b,u=>u=Value.bool b
 | .int i,u=>∃t,u=Value.int i t
 | .str x,u=>∃t,u=Value.str x t
 | .byt b,u=>∃t,u=Value.bytes b t
 | .flt b,u=>∃t,u=Value.float b t
 | .ref a,u=>u=Value.ref a
 | .ty n,u=>u=Value.type n
noncomputable abbrev Vals:List V->List Value->Prop:=Paired RelV
theorem Vals.length {xs:List V} {us:List Value} (r:Vals xs us):xs.length=us.length:=Paired.length r
theorem Vals.get:∀{xs:List V} {us:List Value} {i:Nat} {x:V},Vals xs us->xs[i]? = some x->∃u,us[i]? = some u/\RelV x u
 |_,_,_,_,.nil,e=>by simp at e
 |_,_,0,_,.cons r _,e=>by simp at e;subst e;exact⟨_,rfl,r⟩
 |_,_,i+1,x,.cons _ t,e=>by obtain⟨u,h1,h2⟩:=Vals.get (i:=i) (x:=x) t (by simpa using e);exact⟨u,by simpa using h1,h2⟩
theorem Vals.set {x:V} {u:Value} (r:RelV x u):∀{xs:List V} {us:List Value} (i:Nat),Vals xs us->Vals (xs.set i x) (us.set i u)
 |_,_,_,.nil=>.nil
 |_,_,0,.cons _ t=>.cons r t
 |_,_,i+1,.cons q t=>.cons q (Vals.set r i t)
theorem Vals.append:∀{xs ys:List V} {us ws:List Value},Vals xs us->Vals ys ws->Vals (xs++ys) (us++ws)
 |_,_,_,_,.nil,s=>s
 |_,_,_,_,.cons r t,s=>.cons r (Vals.append t s)
theorem Vals.take:∀{xs:List V} {us:List Value} (n:Nat),Vals xs us->Vals (xs.take n) (us.take n)
 |_,_,0,_=>.nil
 |_,_,_+1,.nil=>.nil
 |_,_,n+1,.cons r t=>.cons r (Vals.take n t)
theorem Vals.drop:∀{xs:List V} {us:List Value} (n:Nat),Vals xs us->Vals (xs.drop n) (us.drop n)
 |_,_,0,r=>r
 |_,_,_+1,.nil=>.nil
 |_,_,n+1,.cons _ t=>Vals.drop n t
noncomputable def RelO:Option V->Option Value->Prop
 |some v,some u=>RelV v u
 |none,none=>True
 |_,_=>False
noncomputable def KV {κ:Type}:List (κ×V)->List (κ×Value)->Prop:=Paired fun (p:κ×V) (q:κ×Value)=>p.1=q.1/\RelV p.2 q.2
noncomputable def kV:Key->V
 | .inl i=>.int i
 | .inr x=>.str x
inductive HO where
    |lst (xs:List V)
    |tup (xs:List V)
    |dK (kvs:List (Key×V)) |dT (kvs:List (List Key×V))
    |set (S:Int->Bool) (n:Nat)
    |ins (C dx:Addr) (fs:List (Str×V))
    |own (x:Addr)
    |xd (fs:List (Str×V))
    |met (f x:Addr)
    |rng (lo hi:Int)
    |frz (o:Obj) (u:HO)
    |tbl (ps:Array Value)
    |ext (φ:Heap->Prop)
noncomputable abbrev Hp:=Addr->Option HO
noncomputable def upd (H:Hp) (a:Addr) (o:HO):Hp:=fun b=>if b=a then some o else H b
theorem qd {H:Hp} {a:Addr} {o:HO}:upd H a o a=some o:=by unfold upd;rw [kA rfl]
theorem qu {H:Hp} {a b:Addr} {o:HO} (h:b≠a):upd H a o b=H b:=by unfold upd;rw [oA h]
theorem Nx {H:Hp} {a b:Addr} {o u:HO} (h:H a=some o) (h':H b=some u) (d:o≠u):a≠b:=by intro e;subst e;rw [h] at h';exact d (nB h')
theorem qw {H:Hp} {a b:Addr} {o:HO} (h:H a=some o) (h':H b=none):a≠b:=by intro e;subst e;rw [h] at h';cases h'
section
variable (P:Program) (w:World)
noncomputable def ObjOk (H:Hp) (h:Heap) (a:Addr):HO->Prop
 | .lst xs=>xs.length<=sizeLine/\∃(its:List Value) (n:Nat),Vals xs its/\h.get? a=some { cls:=.type "list",data:=.seq its.toArray n}
 | .tup xs=>xs.length<=sizeLine/\∃its:List Value,Vals xs its/\IsTup h a its.toArray
 | .dK kvs=>kvs.length<=sizeLine/\(a == sysModules)=false/\∃vs,KV kvs vs/\h.DictOf (xr P w) a vs
 | .dT kvs=>kvs.length<=sizeLine/\(a == sysModules)=false/\∃xs:List (List Key×Addr×Value),
   Paired (fun (p:List Key×V) (q:List Key×Addr×Value)=>p.1=q.1/\H q.2.1=some (.tup (p.1.map kV))/\RelV p.2 q.2.2) kvs xs /\
   ∃o es ep,h.get? a=some o/\o.ExactDict/\o.data=.dict es ep/\es.toList=xs.map (entryOfKey (tupleKind (xr P w)))/\(xs.map (·.1)).Nodup
 | .set S n=>h.SetOf (intKind P w) a S n
 | .ins C dx fs=>H dx=some (.own a)/\fs.length<=1000/\dx≠a/\h.get? a=some (PySem.W.instObj C dx) /\
   ∃mA,h.Ns1 dx mA/\(∀f,RelO (fs.lookup f) (mA f))/\PySem.Within mA (fs.map (·.1))
 | .own _=>∃o,h.get? a=some o
 | .xd fs=>∃mA,h.Ns1 a mA/\∀f,RelO (fs.lookup f) (mA f)
 | .rng lo hi=>∃t u v,h.get? a=some { cls:=.type "range",data:=.fields #[.int lo t,.int hi u,.int 1 v]}
 | .frz o u=>h.get? a=some o/\ObjOk H h a u
 | .tbl ps=>h.get? a=some { cls:=.none,data:=.fields ps}
 | .met f x=>h.get? a=some (PySem.W.methodObj (.ref f) (.ref x))
 | .ext φ=>φ h/\(∃o,h.get? a=some o)/\∀h1 h2:Heap,φ h1->(∀o,h1.get? a=some o->h2.get? a=some o)->φ h2
noncomputable def HOk (H:Hp) (h:Heap):Prop:=∀a o,H a=some o->ObjOk P w H h a o
end
section
variable {P:Program} {w:World} {H H':Hp} {h h':Heap} {a:Addr} {o:HO}
theorem ObjOk.lt (x:ObjOk P w H h a o):a < h.objs.size:=by
 cases o with
 |lst xs=>obtain⟨_,_,_,_,e⟩:=x;exact kB e
 |tup xs=>obtain⟨_,_,_,p⟩:=x;exact p.lt
 |dK kvs=>obtain⟨_,_,_,_,o,_,_,e,_⟩:=x;exact kB e
 |dT kvs=>obtain⟨_,_,_,_,o,_,_,e,_⟩:=x;exact kB e
 |set S n=>obtain⟨o,_,_,_,e,_⟩:=x;exact kB e
 |ins C dx fs=>obtain⟨_,_,_,e,_⟩:=x;exact kB e
 |own y=>obtain⟨_,e⟩:=x;exact kB e
 |xd fs=>obtain⟨_,⟨_,_,_,e,_⟩,_⟩:=x;exact kB e
 |rng lo hi=>obtain⟨_,_,_,e⟩:=x;exact kB e
 |frz ob u=>obtain⟨e,_⟩:=x;exact kB e
 |tbl ps=>exact kB (show h.get? a=some _ from x)
 |met f y=>exact kB (show h.get? a=some _ from x)
 |ext φ=>obtain⟨_,⟨_,e⟩,_⟩:=x;exact kB e
theorem Paired.mapP {α β:Type} {F G:α->β->Prop}:∀{j:List α} {D:List β},Paired F j D->(∀a b,F a b->G a b)->Paired G j D
 |_,_,.nil,_=>.nil
 |_,_,.cons r t,f=>.cons (f _ _ r) (Paired.mapP t f)
theorem ObjOk.stay (x:ObjOk P w H h a o) (k:∀b u,(b=a\/H b=some (.own a))->h.get? b=some u->h'.get? b=some u)
  (D:∀b,H b=some (.own a)->H' b=some (.own a)) (F:∀b xs,H b=some (.tup xs)->H' b=some (.tup xs)):ObjOk P w H' h' a o:=by
 induction o with
 |lst xs=>obtain⟨z,its,n,r,e⟩:=x;exact⟨z,its,n,r,k _ _ (.inl rfl) e⟩
 |tup xs=>obtain⟨z,its,r,j,e,c⟩:=x;exact⟨z,its,r,j,k _ _ (.inl rfl) e,c⟩
 |dK kvs=>obtain⟨z,y,vs,r,j,es,ep,e,c⟩:=x;exact⟨z,y,vs,r,j,es,ep,k _ _ (.inl rfl) e,c⟩
 |dT kvs=>obtain⟨z,y,xs,r,j,es,ep,e,c⟩:=x;exact⟨z,y,xs,Paired.mapP r fun p q z=>⟨z.1,F _ _ z.2.1,z.2.2⟩,j,es,ep,k _ _ (.inl rfl) e,c⟩
 |set S n=>obtain⟨j,es,ep,t,e,c⟩:=x;exact⟨j,es,ep,t,k _ _ (.inl rfl) e,c⟩
 |ins C dx fs=>obtain⟨d,z,ne,e,mA,⟨od,es,ep,e2,c⟩,r⟩:=x;exact⟨D _ d,z,ne,k _ _ (.inl rfl) e,mA,⟨od,es,ep,k _ _ (.inr d) e2,c⟩,r⟩
 |own y=>obtain⟨j,e⟩:=x;exact⟨j,k _ _ (.inl rfl) e⟩
 |xd fs=>obtain⟨mA,⟨od,es,ep,e,c⟩,r⟩:=x;exact⟨mA,⟨od,es,ep,k _ _ (.inl rfl) e,c⟩,r⟩
 |rng lo hi=>obtain⟨t,u,v,e⟩:=x;exact⟨t,u,v,k _ _ (.inl rfl) e⟩
 |frz j u ih=>obtain⟨e,q⟩:=x;exact⟨k _ _ (.inl rfl) e,ih q⟩
 |tbl ps=>have e:h.get? a=some { cls:=.none,data:=.fields ps}:=x;show h'.get? a=some { cls:=.none,data:=.fields ps};exact k a _ (.inl rfl) e
 |met f y=>have e:h.get? a=some (PySem.W.methodObj (.ref f) (.ref y)):=x;show h'.get? a=some (PySem.W.methodObj (.ref f) (.ref y));exact k a _ (.inl rfl) e
 |ext φ=>obtain⟨p,⟨o,e⟩,st⟩:=x;exact⟨st _ _ p fun o q=>k _ _ (.inl rfl) q,⟨o,k _ _ (.inl rfl) e⟩,st⟩
theorem HOk.lt (x:HOk P w H h) (e:H a=some o):a < h.objs.size:=(x a o e).lt
theorem HOk.fresh (x:HOk P w H h) (e:h.objs.size<=a):H a=none:=by
 cases q:H a with
 |none=>rfl
 |some u=>exact absurd (qC (x.lt q) e) (nG _)
theorem HOk.kept (x:HOk P w H h) (k:∀b u,h.get? b=some u->h'.get? b=some u):HOk P w H h':=fun a o e=>
 (x a o e).stay (fun b u _ q=>k b u q) (fun _ q=>q) fun _ _ q=>q
theorem HOk.laid (x:HOk P w H h) (k:∀b u,h.get? b=some u->h'.get? b=some u) (hp:h.objs.size<=a) (new:ObjOk P w (upd H a o) h' a o):HOk P w (upd H a o) h':=fun b u e=>by
 have hn:=x.fresh hp;by_cases hb:b=a
 ·subst hb;rw [qd] at e;cases e;exact new
 ·rw [qu hb] at e;exact (x b u e).stay (fun c v _ q=>k c v q) (fun c q=>by rw [qu (qw q hn)];exact q) fun c xs q=>by rw [qu (qw q hn)];exact q
end
noncomputable def Rd (H:Hp) (a:Addr) (u:HO):Prop:=H a=some u\/∃o,H a=some (.frz o u)
theorem Rd.ok {P:Program} {w:World} {H:Hp} {h:Heap} {a:Addr} {u:HO} (r:Rd H a u) (x:HOk P w H h):ObjOk P w H h a u:=by
 rcases r with r |⟨o,r⟩
 ·exact x a u r
 ·obtain⟨_,q⟩:=x a _ r;exact q
noncomputable def Mut:Option HO->Prop
 |some (.lst _)=>True
 |some (.dK _)=>True
 |some (.dT _)=>True
 |some (.set _ _)=>True
 |some (.ins _ _ _)=>True
 |some (.ext _)=>True
 |_=>False
section
variable {P:Program} {w:World} {H:Hp} {h h':Heap} {x e:Addr} {o':HO}
theorem HOk.write (ok:HOk P w H h) (G:Mut (H x)) (he:e=x\/H e=some (.own x)) (k:∀b u,b≠e->h.get? b=some u->h'.get? b=some u) (O:∃u,h'.get? e=some u)
  (new:ObjOk P w (upd H x o') h' x o'):HOk P w (upd H x o') h':=fun b u q=>by
 have D:∀c y,H c=some (.own y)->c≠x:=fun c y r z=>by subst z;rw [r] at G;exact G
 have F:∀c xs,H c=some (.tup xs)->c≠x:=fun c xs r z=>by subst z;rw [r] at G;exact G
 by_cases hb:b=x
 ·subst hb;rw [qd] at q;cases q;exact new
 ·rw [qu hb] at q;by_cases j:b=e
  ·have S:H b=some (.own x):=by
    rcases he with z |z
    ·exact absurd (j.trans z) hb
    ·rw [j];exact z
   rw [q] at S;cases S;obtain⟨v,U⟩:=O;exact⟨v,by rw [j];exact U⟩
  ·refine (ok b u q).stay (fun c v J r=>k c v ?_ r) (fun c r=>by rw [qu (D c b r)];exact r) fun c xs r=>by rw [qu (F c xs r)];exact r
   rcases J with rfl |J
   ·exact j
   ·rintro rfl;rcases he with z |z
    ·exact D c b J z
    ·rw [J] at z;cases z;exact hb rfl
end
structure Un (fs ex:List Addr) (H H':Hp) (h h':Heap):Prop where
  keep:∀b o,h.get? b=some o->H b=none->b∉fs->b∉ex->h'.get? b=some o
  slot:∀b o,h.get? b=some o->H b=none->b∈fs->b∉ex->∃sl,h'.get? b=some { o with slots:=sl}
  free:∀b o,h.get? b=some o->H b=none->b∉ex->H' b=none
  there:∀b o,h.get? b=some o->b∉ex->∃o',h'.get? b=some o'
  tups:∀b xs,H b=some (.tup xs)->H' b=some (.tup xs)
  frzs:∀b o u,H b=some (.frz o u)->H' b=some (.frz o u)
  tbls:∀b ps,H b=some (.tbl ps)->∃more,H' b=some (.tbl (ps++more))
section
variable {fs fs' ex ex':List Addr} {H H1 H2:Hp} {h h1 h2 h':Heap} {a x e:Addr} {o:HO}
theorem Un.any (u:Un fs ex H H1 h h1) {b:Addr} {j:Obj} (q:h.get? b=some j) (n:H b=none) (hx:b∉ex):∃sl,h1.get? b=some { j with slots:=sl}:=by
 by_cases hb:b∈fs
 ·exact u.slot b j q n hb hx
 ·exact⟨j.slots,u.keep b j q n hb hx⟩
theorem Un.kept (k:∀b u,h.get? b=some u->h'.get? b=some u):Un fs ex H H h h':=
 ⟨fun b j q _ _ _=>k b j q,fun b j q _ _ _=>⟨j.slots,k b j q⟩,fun _ _ _ n _=>n,fun b j q _=>⟨j,k b j q⟩,fun _ _ q=>q,fun _ _ _ q=>q,fun _ ps q=>⟨#[],by rw [q];simp⟩⟩
theorem Un.refl:Un fs ex H H h h:=Un.kept fun _ _ q=>q
theorem Un.laid (k:∀b u,h.get? b=some u->h'.get? b=some u) (hp:h.objs.size<=a) (hn:H a=none):Un fs ex H (upd H a o) h h' where
  keep:=fun b u q _ _ _=>k b u q
  slot:=fun b u q _ _ _=>⟨u.slots,k b u q⟩
  free:=fun b u q n _=>by rw [qu (rC (qC (kB q) hp))];exact n
  there:=fun b u q _=>⟨u,k b u q⟩
  tups:=fun b xs q=>by rw [qu (qw q hn)];exact q
  frzs:=fun b u xs q=>by rw [qu (qw q hn)];exact q
  tbls:=fun b ps q=>⟨#[],by rw [qu (qw q hn),q];simp⟩
theorem Un.write (D:Mut (H x)) (he:e=x\/H e=some (.own x)) (k:∀b u,b≠e->h.get? b=some u->h'.get? b=some u) (F:∃u,h'.get? e=some u):Un fs ex H (upd H x o) h h':=by
 have hx:∀b,H b=none->b≠x:=fun b n z=>by subst z;rw [n] at D;exact D
 have hb:∀b,H b=none->b≠e:=fun b n z=>by
  subst z;rcases he with r |r
  ·exact hx b n r
  ·rw [n] at r;cases r
 have hm:∀b u,H b=some u->¬Mut (some u)->b≠x:=fun b u q nm z=>by subst z;rw [q] at D;exact nm D
 refine⟨fun b u q n _ _=>k b u (hb b n) q,fun b u q n _ _=>⟨u.slots,k b u (hb b n) q⟩,fun b u q n _=>by rw [qu (hx b n)];exact n,fun b u q _=>?_,
  fun b xs q=>by rw [qu (hm b _ q fun z=>z)];exact q,fun b u xs q=>by rw [qu (hm b _ q fun z=>z)];exact q,fun b ps q=>⟨#[],by rw [qu (hm b _ q fun z=>z),q];simp⟩⟩
 by_cases j:b=e
 ·subst j;exact F
 ·exact⟨u,k b u j q⟩
end
noncomputable def trk (h:Heap) (H:Hp):List Addr:=(List.range h.objs.size).filter fun a=>(H a).isSome
noncomputable def qq9 (h:Heap) (H:Hp):Heap:=PySem.W.hideAll h (trk h H)
theorem qj0 (h:Heap) (H:Hp):(qq9 h H).objs.size=h.objs.size:=PySem.W.hideAll_size _ _
theorem qr8 {h:Heap} {H:Hp} {b:Addr} {o:Obj} (e:h.get? b=some o) (n:H b=none):(qq9 h H).get? b=some o:=
 PySem.W.hideAll_get _ e fun hm=>by have q:(H b).isSome=true:=(jH.mp hm).2;rw [n] at q;simp at q
theorem zb2 {h:Heap} {H:Hp} {b:Addr} {o:Obj} (e:(qq9 h H).get? b=some o):h.get? b=some o/\H b=none:=by
 have j:h.get? b=some o:=PySem.W.of_hideAll (trk h H) e;refine⟨j,?_⟩;cases q:H b with
 |none=>rfl
 |some x=>have hm:b∈trk h H:=jH.mpr ⟨yD.mpr (kB j),by simp [q]⟩;have z:(qq9 h H).get? b=none:=PySem.W.hideAll_none (trk h H) hm;rw [z] at e;cases e
structure Mod (K:PySem.W.Frag) (mg:Str->Option Value) (base:Heap):Prop where
  kin:K.In base
  glob:base.Ns mainGlobals mg
  blt:∃mb,base.Ns builtinsNs mb/\∀x:Str,x ≠ "__name__" -> mb x=bootBuiltins x
  nolimit:base.NoLimit
structure Cx where
  prog:Program
  w:World
  K:PySem.W.Frag
  mg:Str->Option Value
  base:Heap
  A:Around
  N:List Str
  s₀:Shared
  H₀:Hp
  env:Env
  outer:List Env
  stack:List Env
  ex:List Addr
  fn:Str->Bool
  calm:Bool
  pn:List (Addr×Obj)
  xe:Value->Shared->Prop
noncomputable def frs (l:List Env):List Addr:=l.filterMap (·.frame)
noncomputable abbrev Cx.fs (X:Cx):List Addr:=frs X.outer
noncomputable def Vis (sc:Scope) (x:Str):Prop:=sc.names.lookup x=some .local\/sc.names.lookup x=some .cell\/sc.names.lookup x=some .free
noncomputable def Loc (sc:Scope) (x:Str):Prop:=sc.names.lookup x=some .local\/sc.names.lookup x=some .cell
noncomputable def Look (env:Env) (h:Heap) (m:Str->Option Value) (x:Str) (u:Value):Prop:=
 (env.kindOf x=some .local/\m x=some u)\/((env.kindOf x=some .cell\/env.kindOf x=some .free)/\∃c,env.cells.lookup x=some c/\h.IsCell c (some u))
structure Cx.Ok (X:Cx):Prop where
  mod:Mod X.K X.mg X.base
  kind:X.env.scope.kind=.function
  glob:X.env.globals=mainGlobals
  blt:X.env.builtins=builtinsNs
  above:X.s₀.heap.objs.size<=X.env.locals
  inj:∀x y c,X.env.cells.lookup x=some c->X.env.cells.lookup y=some c->x=y
  has:∀x,(X.env.kindOf x=some .cell\/X.env.kindOf x=some .free)->∃c,X.env.cells.lookup x=some c
  cab:∀x c,X.fn x=true->X.env.cells.lookup x=some c->X.s₀.heap.objs.size<=c
  hd:X.calm=true->X.A.handled=none
  frames:X.A.frames=some X.stack
  stk:X.stack=X.outer\/(X.stack=X.env::X.outer/\X.env.frame=some X.env.locals)
  exf:∀b∈X.ex,b≠X.env.locals/\∀x c,X.env.cells.lookup x=some c->c≠b
  bs:∀b o,X.base.get? b=some o->X.s₀.heap.get? b=some o/\X.H₀ b=none
  bsz:X.base.objs.size<=X.s₀.heap.objs.size
  noex:∀b o,X.base.get? b=some o->b∉X.ex
  exfs:∀b∈X.ex,b∉X.fs
  funs:X.s₀.heap.FunFrames X.base X.outer
  frf:∀b∈X.fs,X.H₀ b=none
structure Inv (X:Cx) (pins:List (Addr×Obj)) (σ:List (Option V)) (H:Hp) (s:Shared):Prop where
  ok:X.Ok
  os:s.os=X.s₀.os
  bare:AllBare s.gens
  base:Un X.fs X.ex X.H₀ H X.s₀.heap s.heap
  loc:∃m,s.heap.Ns X.env.locals m/\∀(i:Nat) (x:Str) (v:V),X.N[i]? = some x->σ[i]? = some (some v)->Vis X.env.scope x->∃u,RelV v u/\Look X.env s.heap m x u
  cell:∀x c,X.env.cells.lookup x=some c->∃v,s.heap.IsCell c v
  free:H X.env.locals=none
  freeC:∀x c,X.env.cells.lookup x=some c->H c=none
  pin:∀p∈X.pn++pins,s.heap.get? p.1=some p.2/\H p.1=none/\p.1≠X.env.locals/\p.1∉X.fs/\∀v,p.2.data≠.cell v
  hok:HOk X.prog X.w H s.heap
  len:σ.length=X.N.length
section
variable {X:Cx} {pins:List (Addr×Obj)} {σ:List (Option V)} {H H':Hp} {s:Shared} {h':Heap}
theorem Cx.Ok.nofr (ok:X.Ok) {b:Addr} {o:Obj} (e:X.base.get? b=some o):b∉X.fs:=fun hb=>by have:=(ok.funs.mem hb).1;rw [e] at this;cases this
theorem Inv.bs (I:Inv X pins σ H s):∀b o,X.base.get? b=some o->s.heap.get? b=some o/\H b=none:=fun b o e=>
 ⟨I.base.keep b o (I.ok.bs b o e).1 (I.ok.bs b o e).2 (I.ok.nofr e) (I.ok.noex b o e),I.base.free b o (I.ok.bs b o e).1 (I.ok.bs b o e).2 (I.ok.noex b o e)⟩
theorem Inv.bk (I:Inv X pins σ H s):∀b o,X.base.get? b=some o->s.heap.get? b=some o:=fun b o e=>(I.bs b o e).1
theorem Inv.mod (I:Inv X pins σ H s):Mod X.K X.mg X.base:=I.ok.mod
theorem Inv.kIn (I:Inv X pins σ H s):X.K.In s.heap:=I.ok.mod.kin.keeps I.bk
theorem Inv.lt (I:Inv X pins σ H s):X.env.locals < s.heap.objs.size:=let ⟨_,hn,_⟩:=I.loc;hn.lt
theorem Inv.sz (I:Inv X pins σ H s):X.s₀.heap.objs.size<=s.heap.objs.size:=aD I.ok.above (tG I.lt)
theorem Inv.nofs (I:Inv X pins σ H s) {a:Addr} (h:s.heap.objs.size<=a):a∉X.fs:=fun hb=>by obtain⟨_,o,j,_⟩:=I.ok.funs.mem hb;exact absurd (qC (kB j) (aD I.sz h)) (nG _)
theorem Inv.cne (I:Inv X pins σ H s):∀x c,X.env.cells.lookup x=some c->c≠X.env.locals:=fun x c e z=>by obtain⟨v,o,F,hd⟩:=I.cell x c e;obtain⟨m,⟨o',es,ep,j,D,_⟩,_⟩:=I.loc;rw [z,j] at F;cases F;rw [D] at hd;cases hd
theorem Inv.funs (I:Inv X pins σ H s):s.heap.FunFrames X.base X.outer:=by
 have all:∀(l:List Env),(∀b∈frs l,b∈X.fs)->X.s₀.heap.FunFrames X.base l->s.heap.FunFrames X.base l:=by
  intro l;induction l with
  |nil=>intro _ _;trivial
  |cons env r ih=>intro hs hl;obtain⟨hk,⟨L,o,hf,hn,D,hd⟩,F⟩:=hl;have j:L∈X.fs:=hs L (by unfold frs;rw [List.filterMap_cons,hf];exact uA);obtain⟨sl,e⟩:=I.base.slot L o D (I.ok.frf L j) j fun z=>I.ok.exfs L z j;exact⟨hk,⟨L,_,hf,hn,e,hd⟩,ih (fun b hb=>hs b (by unfold frs;rw [List.filterMap_cons,hf];exact vA _ hb)) F⟩
 exact all X.outer (fun _ hb=>hb) I.ok.funs
theorem Inv.stack (I:Inv X pins σ H s):s.heap.FunFrames X.base X.stack:=by
 rcases I.ok.stk with e |⟨e,hf⟩
 ·rw [e];exact I.funs
 ·rw [e];obtain⟨m,hn,_⟩:=I.loc;refine .cons (by rw [I.ok.kind];decide) hf hn ?_ I.funs;exact Heap.get?_none_of_le (aD I.ok.bsz I.ok.above)
theorem Inv.stkSub (I:Inv X pins σ H s):∀b∈frs X.stack,b∈X.env.locals::X.fs:=fun b hb=>by
 rcases I.ok.stk with e |⟨e,hf⟩
 ·rw [e] at hb;exact vA _ hb
 ·rw [e] at hb;unfold frs at hb;rw [List.filterMap_cons,hf] at hb;exact hb
theorem Inv.stkFree (I:Inv X pins σ H s):∀b∈frs X.stack,H b=none:=fun b hb=>by
 rcases gB.mp (I.stkSub b hb) with e |hb
 ·rw [e];exact I.free
 ·obtain⟨_,o,j,_⟩:=I.ok.funs.mem hb;exact I.base.free b o j (I.ok.frf b hb) fun z=>I.ok.exfs b z hb
theorem Inv.step {g':Array GenState} {t':Nat} {d':Drawn} {ch:List Addr} (I:Inv X pins σ H s)
  (j:∀b∈ch,(b∈X.ex\/X.s₀.heap.objs.size<=b)/\b≠X.env.locals/\(∀x c,X.env.cells.lookup x=some c->c≠b)/\∀p∈X.pn++pins,p.1≠b)
  (keep:∀b o,b≠X.env.locals->b∉X.fs->b∉ch->s.heap.get? b=some o->H b=none->h'.get? b=some o)
  (slot:∀b o,b≠X.env.locals->b∈X.fs->b∉ch->s.heap.get? b=some o->H b=none->∃sl,h'.get? b=some { o with slots:=sl}) (free:∀b o,b∉ch->s.heap.get? b=some o->H b=none->H' b=none)
  (there:∀b o,b∉ch->s.heap.get? b=some o->∃o',h'.get? b=some o')
  (tups:∀b xs,H b=some (.tup xs)->H' b=some (.tup xs)) (frzs:∀b o u,H b=some (.frz o u)->H' b=some (.frz o u)) (tbls:∀b ps,H b=some (.tbl ps)->∃more,H' b=some (.tbl (ps++more)))
  (ns:∀m,s.heap.Ns X.env.locals m->h'.Ns X.env.locals m) (hok:HOk X.prog X.w H' h') (Y:AllBare g') :
  Inv X pins σ H' { s with heap:=h',gens:=g',drawn:=d',toks:=t'}:=by
 have J:∀b o,X.s₀.heap.get? b=some o->b≠X.env.locals:=fun b o e=>rC (qC (kB e) I.ok.above);have F:∀b o,X.s₀.heap.get? b=some o->b∉X.ex->b∉ch:=fun b o e hx hb=>by
  rcases (j b hb).1 with z |z
  ·exact hx z
  ·exact absurd (qC (kB e) z) (nG _)
 have cellK:∀x c,X.env.cells.lookup x=some c->∀v,s.heap.IsCell c v->h'.IsCell c v:=fun x c e v ⟨o,G,hd⟩=>by
  have D:c∉ch:=fun z=>(j c z).2.2.1 x c e rfl;by_cases S:c∈X.fs
  ·obtain⟨sl,q⟩:=slot c o (I.cne x c e) S D G (I.freeC x c e);exact⟨_,q,hd⟩
  ·exact⟨o,keep c o (I.cne x c e) S D G (I.freeC x c e),hd⟩
 refine⟨I.ok,I.os,Y,⟨fun b o e n hb hx=>?_,fun b o e n hb hx=>?_,fun b o e n hx=>?_,fun b o e hx=>?_,fun b xs e=>tups b xs (I.base.tups b xs e),fun b o xs e=>frzs b o xs (I.base.frzs b o xs e),fun b ps e=>?_⟩,?_,fun x c e=>?_,?_,fun x c e=>?_,fun p hp=>?_,hok,I.len⟩
 ·exact keep b o (J b o e) hb (F b o e hx) (I.base.keep b o e n hb hx) (I.base.free b o e n hx)
 ·obtain⟨sl,e1⟩:=I.base.slot b o e n hb hx;obtain⟨O,e2⟩:=slot b _ (J b o e) hb (F b o e hx) e1 (I.base.free b o e n hx);exact⟨O,e2⟩
 ·obtain⟨o',e1⟩:=I.base.there b o e hx;exact free b o' (F b o e hx) e1 (I.base.free b o e n hx)
 ·obtain⟨o',e1⟩:=I.base.there b o e hx;exact there b o' (F b o e hx) e1
 ·obtain⟨Z,e1⟩:=I.base.tbls b ps e;obtain⟨m2,e2⟩:=tbls b _ e1;exact⟨Z++m2,by rw [e2,Array.append_assoc]⟩
 ·obtain⟨m,hn,hl⟩:=I.loc;refine⟨m,ns m hn,fun i x v e1 e2 e3=>?_⟩;obtain⟨u,r,l⟩:=hl i x v e1 e2 e3;refine⟨u,r,?_⟩;rcases l with l |⟨k,c,e,z⟩
  ·exact .inl l
  ·exact .inr ⟨k,c,e,cellK x c e _ z⟩
 ·obtain⟨v,z⟩:=I.cell x c e;exact⟨v,cellK x c e v z⟩
 ·obtain⟨m,⟨o,_,_,G,_⟩,_⟩:=I.loc;exact free _ o (fun z=>(j _ z).2.1 rfl) G I.free
 ·obtain⟨v,o,G,hd⟩:=I.cell x c e;exact free c o (fun z=>(j c z).2.2.1 x c e rfl) G (I.freeC x c e)
 ·obtain⟨e,n,ne,U,d⟩:=I.pin p hp;have D:p.1∉ch:=fun z=>(j p.1 z).2.2.2 p hp rfl;exact⟨keep p.1 p.2 ne U D e n,free p.1 p.2 D e n,ne,U,d⟩
theorem Inv.un {t':Nat} (I:Inv X pins σ H s) (u:Un X.fs [] H H' s.heap h') (hok:HOk X.prog X.w H' h'):Inv X pins σ H' { s with heap:=h',toks:=t'}:=by
 obtain⟨m,⟨o,es,ep,G,r⟩,_⟩:=id I.loc;obtain⟨sl,J⟩:=u.any G I.free (by simp);exact I.step (g':=s.gens) (d':=s.drawn) (ch:=[]) (fun _ z=>nomatch z) (fun b o _ hb _ e n=>u.keep b o e n hb (by simp)) (fun b o _ hb _ e n=>u.slot b o e n hb (by simp)) (fun b o _ e n=>u.free b o e n (by simp)) (fun b o _ e=>u.there b o e (by simp)) u.tups u.frzs u.tbls (fun m' hm=>by obtain⟨o',D,F,j,r'⟩:=hm;rw [G] at j;cases j;exact⟨_,D,F,J,r'⟩) hok I.bare
theorem Inv.call {g':Array GenState} {t':Nat} {d':Drawn} {ch:List Addr} (I:Inv X pins σ H s) (u:Un (frs X.stack) ch H H' s.heap h') (hok:HOk X.prog X.w H' h') (U:AllBare g')
  (D:∀b∈ch,(b∈X.ex\/X.s₀.heap.objs.size<=b)/\b≠X.env.locals/\(∀x c,X.env.cells.lookup x=some c->c≠b)/\∀p∈X.pn++pins,p.1≠b) :
  Inv X pins σ H' { s with heap:=h',gens:=g',drawn:=d',toks:=t'}:=by
 obtain⟨m,⟨o,es,ep,S,r⟩,_⟩:=id I.loc;obtain⟨sl,G⟩:=u.any S I.free fun z=>(D _ z).2.1 rfl;exact I.step (ch:=ch) D (fun b o G hb j e n=>u.keep b o e n (fun z=>(gB.mp (I.stkSub b z)).elim G hb) j) (fun b o _ _ j e n=>u.any e n j) (fun b o j e n=>u.free b o e n j) (fun b o j e=>u.there b o e j) u.tups u.frzs u.tbls (fun m' hm=>by obtain⟨o',J,O,F,r'⟩:=hm;rw [S] at F;cases F;exact⟨_,J,O,G,r'⟩) hok U
theorem Inv.turned {t':Nat} {it:Addr} (I:Inv X pins σ H s) (k:∀b o,b≠it->s.heap.get? b=some o->h'.get? b=some o) (hn:H it=none) (F:it≠X.env.locals)
  (h1:it∈X.ex\/X.s₀.heap.objs.size<=it) (h2:∀x c,X.env.cells.lookup x=some c->c≠it) (G:∀p∈X.pn++pins,p.1≠it):Inv X pins σ H { s with heap:=h',toks:=t'}:=by
 have D:∀b u,H b=some u->b≠it:=fun b u e z=>by rw [z,hn] at e;cases e
 refine I.step (g':=s.gens) (d':=s.drawn) (ch:=[it]) (fun b hb=>?_) (fun b o _ _ j e _=>k b o (fun z=>j (by simp [z])) e) (fun b o _ _ j e _=>⟨o.slots,k b o (fun z=>j (by simp [z])) e⟩) (fun _ _ _ _ n=>n)
  (fun b o j e=>⟨o,k b o (fun z=>j (by simp [z])) e⟩) (fun _ _ e=>e) (fun _ _ _ e=>e) (fun b ps e=>⟨#[],by rw [e];simp⟩) (fun m hm=>?_) (fun b u e=>?_) I.bare
 ·have e:b=it:=by simpa using hb
  subst e;exact⟨h1,F,h2,G⟩
 ·obtain⟨o,es,ep,J,r⟩:=hm;exact⟨o,es,ep,k _ o (eE F) J,r⟩
 ·refine (I.hok b u e).stay (fun c v j q=>k c v ?_ q) (fun _ q=>q) fun _ _ q=>q;rcases j with z |z
  ·rw [z];exact D b u e
  ·exact D c _ z
theorem Inv.tok (I:Inv X pins σ H s) (t:Nat):Inv X pins σ H { s with toks:=t}:=I.un (h':=s.heap) (t':=t) Un.refl I.hok
theorem Inv.kept {t':Nat} (I:Inv X pins σ H s) (k:∀b u,s.heap.get? b=some u->h'.get? b=some u):Inv X pins σ H { s with heap:=h',toks:=t'}:=I.un (Un.kept k) (I.hok.kept k)
theorem Inv.laid {a:Addr} {o:HO} {t':Nat} (I:Inv X pins σ H s) (k:∀b u,s.heap.get? b=some u->h'.get? b=some u) (hp:s.heap.objs.size<=a) (new:ObjOk X.prog X.w (upd H a o) h' a o) :
  Inv X pins σ (upd H a o) { s with heap:=h',toks:=t'}:=I.un (Un.laid k hp (I.hok.fresh hp)) (I.hok.laid k hp new)
theorem Inv.write {x e:Addr} {o:HO} {t':Nat} (I:Inv X pins σ H s) (D:Mut (H x)) (he:e=x\/H e=some (.own x)) (k:∀b u,b≠e->s.heap.get? b=some u->h'.get? b=some u) (j:∃u,h'.get? e=some u)
  (new:ObjOk X.prog X.w (upd H x o) h' x o):Inv X pins σ (upd H x o) { s with heap:=h',toks:=t'}:=I.un (Un.write D he k j) (I.hok.write D he k j new)
theorem Inv.pins_of {j:List (Addr×Obj)} (I:Inv X pins σ H s) (h:∀p∈j,s.heap.get? p.1=some p.2/\H p.1=none/\p.1≠X.env.locals/\p.1∉X.fs/\∀v,p.2.data≠.cell v):Inv X j σ H s:=
 ⟨I.ok,I.os,I.bare,I.base,I.loc,I.cell,I.free,I.freeC,fun p hp=>(rB.mp hp).elim (fun z=>I.pin p (vE _ z)) (h p),I.hok,I.len⟩
theorem Xy {N:List Str} (D:N.Nodup) {i j:Nat} {x:Str} (a:N[i]? = some x) (b:N[j]? = some x):i=j:=by obtain⟨h1,e1⟩:=bA.mp a;obtain⟨h2,e2⟩:=bA.mp b;exact (List.getElem_inj D).mp (e1.trans e2.symm)
theorem Ur {M:Model} {A:Around} {E:Value->Shared->Prop} {i:Nat} {x:Str} {v:V} {u:Value} {Q:Unit->Shared->Prop} (I:Inv X pins σ H s) (hN:X.N.Nodup) (hi:X.N[i]? = some x) (hx:Loc X.env.scope x) (r:RelV v u)
  (h:∀s',Inv X pins (σ.set i (some v)) H s'->(∃a,Heap.SameBut a s.heap s'.heap/\(a=X.env.locals\/X.env.cells.lookup x=some a))->Q () s') (hf:X.fn x=true\/X.env.scope.names.lookup x=some .local:=by first |exact .inl rfl |exact .inr rfl |assumption):wpAny M A (storeName X.env x u) Q E s:=by
 obtain⟨m,hn,hl⟩:=id I.loc;have S:(X.env.scope.kind == .class ||(X.env.scope.kind == .module && X.env.locals != X.env.globals))=false:=by rw [I.ok.kind];rfl
 have G:i < σ.length:=by rw [I.len];exact (bA.mp hi).1
 have cne:=I.cne;have tracked:∀{a:Addr} {h':Heap},(∃o,s.heap.get? a=some o/\H a=none)->Heap.SameBut a s.heap h'->HOk X.prog X.w H h':=fun {a h'} ha hs b ob e=>by
  obtain⟨_,_,F⟩:=ha;refine (I.hok b ob e).stay (fun c w' D q=>(hs.2 c ?_).trans q) (fun _ q=>q) fun _ _ q=>q;rintro rfl;rcases D with rfl |D
  ·rw [F] at e;cases e
  ·rw [F] at D;cases D
 rcases hx with hk |hk
 ·refine wpAny_storeName_local hk hn (fun h' a4 hs=>?_) S;obtain⟨oL,_,_,a5,_⟩:=id hn;refine h _ ⟨I.ok,I.os,I.bare,⟨fun b o e n hb hx=>?_,fun b o e n hb hx=>?_,I.base.free,fun b o e hx=>?_,I.base.tups,I.base.frzs,I.base.tbls⟩,⟨_,a4,fun j y v' e1 e2 e3=>?_⟩,fun y c e=>?_,I.free,I.freeC,fun p hp=>?_,tracked ⟨oL,a5,I.free⟩ hs,by simpa using I.len⟩ ⟨_,hs,.inl rfl⟩
  ·exact (hs.2 b (rC (qC (kB e) I.ok.above))).trans (I.base.keep b o e n hb hx)
  ·obtain⟨sl,e1⟩:=I.base.slot b o e n hb hx;exact⟨sl,(hs.2 b (rC (qC (kB e) I.ok.above))).trans e1⟩
  ·obtain⟨o',e1⟩:=I.base.there b o e hx;exact⟨o',(hs.2 b (rC (qC (kB e) I.ok.above))).trans e1⟩
  ·by_cases J:j=i
   ·subst J;rw [hi] at e1;cases e1;rw [sI G] at e2;cases e2;exact⟨u,r,.inl ⟨hk,by simp⟩⟩
   ·rw [List.getElem?_set_ne (eE J)] at e2;obtain⟨u',r',q⟩:=hl j y v' e1 e2 e3;refine⟨u',r',?_⟩;rcases q with ⟨k,e⟩ |⟨k,c,e,z⟩
    ·refine .inl ⟨k,?_⟩
     have:y≠x:=fun e=>J (Xy hN e1 (e▸hi));simp [this,e]
    ·exact .inr ⟨k,c,e,z.sameBut hs (cne y c e)⟩
  ·obtain⟨w',z⟩:=I.cell y c e;exact⟨w',z.sameBut hs (cne y c e)⟩
  ·obtain⟨e,n,ne,nf,d⟩:=I.pin p hp;exact⟨(hs.2 p.1 ne).trans e,n,ne,nf,d⟩
 ·have O:X.fn x=true:=by
   rcases hf with z |z
   ·exact z
   ·rw [z] at hk;cases hk
  obtain⟨c,D⟩:=I.ok.has x (.inl hk);obtain⟨w',z⟩:=I.cell x c D;refine wpAny_storeName_cell I.ok.kind hk D z (fun h' U hs=>?_);obtain⟨oc,Y,Z⟩:=id z;refine h { s with heap:=h'} ⟨I.ok,I.os,I.bare,⟨fun b o e n hb hx=>?_,fun b o e n hb hx=>?_,I.base.free,fun b o e hx=>?_,I.base.tups,I.base.frzs,I.base.tbls⟩,⟨m,hn.sameBut hs (eE (cne x c D)),fun j y v' e1 e2 e3=>?_⟩,fun y c' e=>?_,I.free,I.freeC,fun p hp=>?_,tracked ⟨oc,Y,I.freeC x c D⟩ hs,by simpa using I.len⟩ ⟨c,hs,.inr D⟩
  ·exact (hs.2 b (rC (qC (kB e) (I.ok.cab x c O D)))).trans (I.base.keep b o e n hb hx)
  ·obtain⟨sl,e1⟩:=I.base.slot b o e n hb hx;exact⟨sl,(hs.2 b (rC (qC (kB e) (I.ok.cab x c O D)))).trans e1⟩
  ·obtain⟨o',e1⟩:=I.base.there b o e hx;exact⟨o',(hs.2 b (rC (qC (kB e) (I.ok.cab x c O D)))).trans e1⟩
  ·by_cases J:j=i
   ·subst J;rw [hi] at e1;cases e1;rw [sI G] at e2;cases e2;exact⟨u,r,.inr ⟨.inl hk,c,D,U⟩⟩
   ·rw [List.getElem?_set_ne (eE J)] at e2;obtain⟨u',r',q⟩:=hl j y v' e1 e2 e3;refine⟨u',r',?_⟩;rcases q with q |⟨k,c',e,z'⟩
    ·exact .inl q
    ·refine .inr ⟨k,c',e,z'.sameBut hs ?_⟩;rintro rfl;exact J (Xy hN e1 (I.ok.inj _ _ _ e D▸hi))
  ·by_cases a3:c'=c
   ·subst a3;exact⟨_,U⟩
   ·obtain⟨w2,z2⟩:=I.cell y c' e;exact⟨w2,z2.sameBut hs a3⟩
  ·obtain⟨e,n,ne,nf,d⟩:=I.pin p hp;refine⟨(hs.2 p.1 ?_).trans e,n,ne,nf,d⟩;intro q;rw [q,Y] at e;have q':oc=p.2:=nB e;exact d w' (by rw [←q'];exact Z)
theorem Bo {M:Model} {A:Around} {E:Value->Shared->Prop} {i:Nat} {x:Str} {v:V} {u:Value} {Q:Unit->Shared->Prop} (I:Inv X pins σ H s) (j:X.N.Nodup) (hi:X.N[i]? = some x) (hx:Loc X.env.scope x) (r:RelV v u)
  (h:∀s',Inv X pins (σ.set i (some v)) H s'->Q () s') (hf:X.fn x=true\/X.env.scope.names.lookup x=some .local:=by first |exact .inl rfl |exact .inr rfl |assumption):wpAny M A (storeName X.env x u) Q E s:=
 Ur I j hi hx r (fun s' D _=>h s' D) hf
theorem Inv.call' {s':Shared} {ch:List Addr} (I:Inv X pins σ H s) (D:s'.os=s.os) (u:Un (frs X.stack) ch H H' s.heap s'.heap) (hok:HOk X.prog X.w H' s'.heap) (F:AllBare s'.gens)
  (j:∀b∈ch,(b∈X.ex\/X.s₀.heap.objs.size<=b)/\b≠X.env.locals/\(∀x c,X.env.cells.lookup x=some c->c≠b)/\∀p∈X.pn++pins,p.1≠b):Inv X pins σ H' s':=by
 obtain⟨h',g',d',t',o'⟩:=s';have e:o'=s.os:=D;subst e;exact I.call (g':=g') (t':=t') (d':=d') u hok F j
end
noncomputable abbrev XK:=Value->Option Addr->Hp->Prop
noncomputable abbrev St:=List (Option V)
noncomputable abbrev VK:=V->Hp->Prop
noncomputable abbrev TE:=St->Hp->VK->Prop
noncomputable abbrev TT:=St->Hp->(Bool->Hp->Prop)->Prop
noncomputable abbrev TA:=St->Hp->(List V->Hp->Prop)->Prop
structure Ends where
  nx:St->Hp->Prop
  rt:VK
  bk:St->Hp->Prop:=fun _ _=>False
  ct:St->Hp->Prop:=fun _ _=>False
noncomputable abbrev TS:=Ends->St->Hp->Prop
inductive EP (X:Cx) (pins:List (Addr×Obj)) (σ:St) (Q:VK) (u:Value) (s':Shared):Prop
 |mk (v H':_) (_:Inv X pins σ H' s') (_:RelV v u) (_:Q v H')
inductive TP (X:Cx) (pins:List (Addr×Obj)) (σ:St) (Q:Bool->Hp->Prop) (b:Bool) (s':Shared):Prop
 |mk (H':_) (_:Inv X pins σ H' s') (_:Q b H')
inductive AP (X:Cx) (pins:List (Addr×Obj)) (σ:St) (Q:List V->Hp->Prop) (us:List Value) (s':Shared):Prop
 |mk (vs H':_) (_:Inv X pins σ H' s') (_:Vals vs us) (_:Q vs H')
noncomputable def SP (X:Cx) (pins:List (Addr×Obj)) (D:Ends) (f:Flow) (s':Shared):Prop:=
 match f with
 | .next=>∃j H',Inv X pins j H' s'/\D.nx j H'
 | .brk=>∃j H',Inv X pins j H' s'/\D.bk j H'
 | .cont=>∃j H',Inv X pins j H' s'/\D.ct j H'
 | .ret u=>∃v j H',Inv X pins j H' s'/\RelV v u/\D.rt v H'
noncomputable def PE (X:Cx) (e:Expr) (t:TE):Prop:=
 ∀(pins:List (Addr×Obj)) (s:Shared) (σ:St) (H:Hp) (Q:VK),Inv X pins σ H s->t σ H Q->wpAny (model X.prog X.w) X.A (eval e X.env) (EP X pins σ Q) X.xe s
noncomputable def PT (X:Cx) (e:Expr) (t:TT):Prop:=
 ∀(pins:List (Addr×Obj)) (s:Shared) (σ:St) (H:Hp) (Q:Bool->Hp->Prop),Inv X pins σ H s->t σ H Q->wpAny (model X.prog X.w) X.A (isTrue e X.env (eval e X.env)) (TP X pins σ Q) X.xe s
noncomputable def PW (X:Cx) (e:Expr) (t:TT):Prop:=
 ∀(whole:Sem Value) (pins:List (Addr×Obj)) (s:Shared) (σ:St) (H:Hp) (Q:Bool->Hp->Prop),Inv X pins σ H s->t σ H Q->wpAny (model X.prog X.w) X.A (isTrue e X.env whole) (TP X pins σ Q) X.xe s
theorem PW.pt {X:Cx} {e:Expr} {t:TT} (h:PW X e t):PT X e t:=h _
abbrev wI:=@PW.pt
noncomputable def PA (X:Cx) (es:List Expr) (t:TA):Prop:=
 ∀(pos:Pos) (pins:List (Addr×Obj)) (s:Shared) (σ:St) (H:Hp) (Q:List V->Hp->Prop),Inv X pins σ H s->t σ H Q->wpAny (model X.prog X.w) X.A (spliced (backTo pos (starEach es X.env))) (AP X pins σ Q) X.xe s
noncomputable def PS (X:Cx) (st:Stmt) (t:TS):Prop:=
 ∀(pins:List (Addr×Obj)) (s:Shared) (σ:St) (H:Hp) (D:Ends),Inv X pins σ H s->t D σ H->wpAny (model X.prog X.w) X.A (exec st X.env) (SP X pins D) X.xe s
noncomputable def PSs (X:Cx) (st:List Stmt) (t:TS):Prop:=
 ∀(pins:List (Addr×Obj)) (s:Shared) (σ:St) (H:Hp) (D:Ends),Inv X pins σ H s->t D σ H->wpAny (model X.prog X.w) X.A (execs st X.env) (SP X pins D) X.xe s
theorem thn {α:Type} {t:Sem α} {Q Q':α->Shared->Prop} {M:Model} {A:Around} {E:Value->Shared->Prop} {s:Shared} (h:wpAny M A t Q E s) (j:∀a s,Q a s->Q' a s):wpAny M A t Q' E s:=oC h j fun _ _ x=>x
section
variable {X:Cx}
noncomputable def zr9:Option (Option V)->Hp->VK->Prop
 |some (some v),H,Q=>Q v H
 |_,_,_=>False
noncomputable def zi3 (i:Nat):TE:=fun σ H Q=>zr9 σ[i]? H Q
theorem zc4 {i:Nat} {σ:St} {H:Hp} {Q:VK} {v:V} (e:σ[i]? = some (some v)) (q:Q v H):zi3 i σ H Q:=by unfold zi3;rw [e];exact q
theorem qr3 {i:Nat} {σ:St} {H:Hp} {Q:VK}:zi3 i σ H Q->∃v,σ[i]? = some (some v)/\Q v H:=by
 unfold zi3;generalize σ[i]? = o;intro h;cases o with
 |none=>cases h
 |some o=>cases o with
  |none=>cases h
  |some v=>exact⟨v,rfl,h⟩
noncomputable def tC (v:V):TE:=fun _ H Q=>Q v H
theorem qz5 {i:Nat} {x:Str} {pos:Pos} (G:X.N[i]? = some x) (J:Vis X.env.scope x) (hd:(x == ("__debug__" : Str))=false:=by decide) (D:(x == ("__classdict__" : Str))=false:=by decide):PE X (.Name x pos) (zi3 i):=by
 intro pins s σ H Q I h;obtain⟨v,e,h⟩:=qr3 h;obtain⟨m,hn,hl⟩:=I.loc;obtain⟨u,r,l⟩:=hl i x v G e J;have fin:EP X pins σ Q u s:=⟨v,H,I,r,h⟩
 rcases l with ⟨hk,hm⟩ |⟨hk,c,F,j⟩
 ·exact wpAny_Name (wpAny_loadName_local I.ok.kind hk hn hm fin) hd
 ·rcases hk with hk |hk
  ·exact wpAny_Name (wpAny_loadName_cell I.ok.kind hk F j fin) hd
  ·exact wpAny_Name (wpAny_loadName_free I.ok.kind hk F j fin D) hd
theorem qg {i j pos}:PE X (.Constant (.int i) j pos) (tC (.int i)):=fun _ _ _ H _ I h=>wpAny_Constant_int ⟨.int i,H,I.tok _,⟨_,rfl⟩,h⟩
theorem wz {b j pos}:PE X (.Constant (.bool b) j pos) (tC (.bl b)):=fun _ _ _ H _ I h=>Constant_bool ⟨.bl b,H,I,rfl,h⟩
theorem qi2 {j pos}:PE X (.Constant .none j pos) (tC .non):=fun _ _ _ H _ I h=>Constant_none ⟨.non,H,I,rfl,h⟩
theorem zz {x j pos}:PE X (.Constant (.str x) j pos) (tC (.str x)):=fun _ _ _ H _ I h=>uG ⟨.str x,H,I.tok _,⟨_,rfl⟩,h⟩
noncomputable def Gl (X:Cx) (x:Str):Prop:=X.env.kindOf x=some .globalImplicit
theorem um {E:Value->Shared->Prop} {pins:List (Addr×Obj)} {s:Shared} {σ:St} {H:Hp} {x:Str} {u:Value} {pos:Pos} {Q:Value->Shared->Prop} (I:Inv X pins σ H s) (j:Gl X x) (hm:X.mg x=some u) (h:Q u s)
  (hd:(x == ("__debug__" : Str))=false:=by decide):wpAny (model X.prog X.w) X.A (eval (.Name x pos) X.env) Q E s:=
 Calls.Name_function_global I.ok.kind j (Calls.loadGlobal_global (by rw [I.ok.glob];exact I.mod.glob.keeps I.bk) hm h) hd
theorem G8 {E:Value->Shared->Prop} {pins:List (Addr×Obj)} {s:Shared} {σ:St} {H:Hp} {x:Str} {u:Value} {pos:Pos} {Q:Value->Shared->Prop} (I:Inv X pins σ H s) (j:Gl X x) (hm:X.mg x=none) (D:bootBuiltins x=some u) (h:Q u s)
  (hn:x ≠ "__name__" := by decide) (hd:(x == ("__debug__" : Str))=false:=by decide):wpAny (model X.prog X.w) X.A (eval (.Name x pos) X.env) Q E s:=by
 obtain⟨mb,h1,h2⟩:=I.mod.blt;exact Calls.Name_function_global I.ok.kind j (Calls.loadGlobal_builtin (by rw [I.ok.glob];exact I.mod.glob.keeps I.bk) hm (by rw [I.ok.blt];exact h1.keeps I.bk) ((h2 x hn).trans D) h) hd
theorem Oc {x:Str} {v:V} {u:Value} {pos:Pos} (j:Gl X x) (hm:X.mg x=some u) (r:RelV v u) (hd:(x == ("__debug__" : Str))=false:=by decide):PE X (.Name x pos) (tC v):=
 fun _ _ _ H _ I h=>um I j hm ⟨v,H,I,r,h⟩ hd
theorem yh {x:Str} {v:V} {u:Value} {pos:Pos} (j:Gl X x) (hm:X.mg x=none) (D:bootBuiltins x=some u) (r:RelV v u) (hn:x ≠ "__name__" := by decide) (hd:(x == ("__debug__" : Str))=false:=by decide):PE X (.Name x pos) (tC v):=
 fun _ _ _ H _ I h=>G8 I j hm D ⟨v,H,I,r,h⟩ hn hd
variable {a b:Expr} {ta tb:TE} {pos:Pos}
noncomputable def PC (X:Cx) (op:CmpOp) (a b:Expr) (t:TE):Prop:=
 ∀(pins:List (Addr×Obj)) (s:Shared) (σ:St) (H:Hp) (Q:VK),Inv X pins σ H s->t σ H Q ->
  wpAny (model X.prog X.w) X.A (eval a X.env) (fun v j=>wpAny (model X.prog X.w) X.A (eval b X.env) (fun u D=>wpAny (model X.prog X.w) X.A (compareOp op v u) (EP X pins σ Q) X.xe D) X.xe j) X.xe s
inductive tBI (Q:Bool->Hp->Prop) (x:V) (H1:Hp):Prop
 |mk (c:_) (_:x=.bl c) (_:Q c H1)
noncomputable def tB (t:TE):TT:=fun σ H Q=>t σ H fun x H1=>tBI Q x H1
theorem Xn {op:CmpOp} {t:TE} (h:PC X op a b t) (h1:behindInMarks op b=false:=by first |exact nobehind _ (by decide) (by decide) |rfl):PT X (.Compare a [op] [b] pos) (tB t):=by intro pins s σ H Q I hw;refine wpAny_isTrue_Compare1 (thn (h pins s σ H _ I hw) fun v s1 h1=>thn h1 fun u s2 h2=>thn h2 fun c s3 ⟨x,H1,j,D,q1⟩=>?_) h1;obtain⟨d,rfl,q⟩:=q1;cases D;exact zD ⟨H1,j,q⟩
theorem jz {e:Expr} {t:TE} (h:PE X e t) (he:∀whole,isTrue e X.env whole=(do let v ←whole;standAt e.pos;holding [v] (truthy v)):=by intro _;rfl):PT X e (tB t):=by intro pins s σ H Q I hw;refine isTrue_plain (thn (h pins s σ H _ I hw) fun v s1 ⟨x,H1,j,D,q1⟩=>?_) (he _);obtain⟨d,rfl,q⟩:=q1;cases D;exact zD ⟨H1,j,q⟩
variable {tA tB':TT} {rest:List Expr}
noncomputable def zx2 (t u:TT):TT:=fun σ H Q=>t σ H fun c H1=>if c=true then u σ H1 Q else Q false H1
noncomputable def tOr (t u:TT):TT:=fun σ H Q=>t σ H fun c H1=>if c=true then Q true H1 else u σ H1 Q
noncomputable def zw8 (t:TT):TT:=fun σ H Q=>t σ H fun c H1=>Q (!c) H1
theorem Ov (ha:PT X a tA):PW X (.BoolOp .And [a] pos) tA:=by
 intro wh pins s σ H Q I h;refine isTrue_and (thn (ha pins s σ H Q I h) fun c s1 e=>?_);cases c with
 |true=>exact isTrue_and_nil e
 |false=>exact e
theorem v5 (ha:PT X a tA):PW X (.BoolOp .Or [a] pos) tA:=by
 intro wh pins s σ H Q I h;refine isTrue_or (thn (ha pins s σ H Q I h) fun c s1 e=>?_);cases c with
 |false=>exact isTrue_or_nil e
 |true=>exact e
theorem Xr (ha:PT X a tA) (hb:PW X (.BoolOp .And (b::rest) pos) tB'):PW X (.BoolOp .And (a::b::rest) pos) (zx2 tA tB'):=by
 intro D pins s σ H Q I h;refine isTrue_and (thn (ha pins s σ H _ I h) fun c s1 ⟨H1,j,q1⟩=>?_);cases c with
 |true=>exact hb D pins s1 σ H1 Q j q1
 |false=>exact⟨H1,j,q1⟩
theorem wu (ha:PT X a tA) (hb:PW X (.BoolOp .Or (b::rest) pos) tB'):PW X (.BoolOp .Or (a::b::rest) pos) (tOr tA tB'):=by
 intro D pins s σ H Q I h;refine isTrue_or (thn (ha pins s σ H _ I h) fun c s1 ⟨H1,j,q1⟩=>?_);cases c with
 |true=>exact⟨H1,j,q1⟩
 |false=>exact hb D pins s1 σ H1 Q j q1
theorem ye (ha:PT X a tA):PT X (.UnaryOp .Not a pos) (zw8 tA):=by intro pins s σ H Q I h;exact isTrue_not (thn (ha pins s σ H (fun c H1=>Q (!c) H1) I h) fun _ _ ⟨H1,i,q⟩=>⟨H1,i,q⟩)
inductive tAndVI (tb:TE) (σ:St) (Q:VK) (x:V) (H1:Hp):Prop
 |mk (c:_) (_:x=.bl c) (_:if c=true then tb σ H1 Q else Q (.bl false) H1)
noncomputable def zr6 (ta tb:TE):TE:=fun σ H Q=>ta σ H fun x H1=>tAndVI tb σ Q x H1
inductive tOrVI (tb:TE) (σ:St) (Q:VK) (x:V) (H1:Hp):Prop
 |mk (c:_) (_:x=.bl c) (_:if c=true then Q (.bl true) H1 else tb σ H1 Q)
noncomputable def zw3 (ta tb:TE):TE:=fun σ H Q=>ta σ H fun x H1=>tOrVI tb σ Q x H1
inductive tNotVI (Q:VK) (x:V) (H1:Hp):Prop
 |mk (c:_) (_:x=.bl c) (_:Q (.bl (!c)) H1)
noncomputable def zs6 (ta:TE):TE:=fun σ H Q=>ta σ H fun x H1=>tNotVI Q x H1
theorem G3 {op} {t:TE} (h:PE X a t):PE X (.BoolOp op [a] pos) t:=fun pins s σ H Q I hw=>BoolOp_one (h pins s σ H Q I hw)
theorem Bf (ha:PE X a ta) (hb:PE X (.BoolOp .And (b::rest) pos) tb):PE X (.BoolOp .And (a::b::rest) pos) (zr6 ta tb):=by
 intro pins s σ H Q I h;refine BoolOp_and (thn (ha pins s σ H _ I h) fun v s1 ⟨x,H1,j,D,q1⟩=>?_);obtain⟨c,rfl,q1⟩:=q1;cases D;refine zD ?_;cases c with
 |true=>exact hb pins s1 σ H1 Q j q1
 |false=>exact⟨.bl false,H1,j,rfl,q1⟩
theorem zs3 (ha:PE X a ta) (hb:PE X (.BoolOp .Or (b::rest) pos) tb):PE X (.BoolOp .Or (a::b::rest) pos) (zw3 ta tb):=by
 intro pins s σ H Q I h;refine BoolOp_or (thn (ha pins s σ H _ I h) fun v s1 ⟨x,H1,j,D,q1⟩=>?_);obtain⟨c,rfl,q1⟩:=q1;cases D;refine zD ?_;cases c with
 |false=>exact hb pins s1 σ H1 Q j q1
 |true=>exact⟨.bl true,H1,j,rfl,q1⟩
theorem zn7 (ha:PE X a ta):PE X (.UnaryOp .Not a pos) (zs6 ta):=by intro pins s σ H Q I h;refine UnaryOp_ (thn (ha pins s σ H _ I h) fun v s1 ⟨x,H1,j,D,q1⟩=>?_);obtain⟨c,rfl,q1⟩:=q1;cases D;exact not_of (zD ⟨.bl (!c),H1,j,rfl,q1⟩)
noncomputable def tIf (t:TT) (ta tb:TE):TE:=fun σ H Q=>t σ H fun c H1=>if c=true then ta σ H1 Q else tb σ H1 Q
theorem qu5 {c:Expr} (D:PT X c tA) (ha:PE X a ta) (hb:PE X b tb):PE X (.IfExp c a b pos) (tIf tA ta tb):=by
 intro pins s σ H Q I h;refine wpAny_IfExp (thn (D pins s σ H _ I h) fun d s1 ⟨H1,j,q1⟩=>?_);cases d with
 |true=>exact ha pins s1 σ H1 Q j q1
 |false=>exact hb pins s1 σ H1 Q j q1
end
noncomputable def SqL (K:PySem.W.Frag) (H:Hp) (a:Addr) (xs:List V):Prop:=
 Rd H a (.lst xs) \/
  ∃(o:Obj) (its:Array Value) (n:Nat),K.lookup a=some o/\o.cls=.type "list" /\ o.dict=none/\o.data=.seq its n/\its.size<=sizeLine/\Vals xs its.toList
noncomputable def SqT (K:PySem.W.Frag) (H:Hp) (a:Addr) (xs:List V):Prop:=
 Rd H a (.tup xs) \/
  ∃(o:Obj) (its:Array Value) (n:Nat),K.lookup a=some o/\o.cls=.type "tuple" /\ o.data=.seq its n/\its.size<=sizeLine/\Vals xs its.toList
noncomputable def zw0:Value->Option V
 | .none=>some .non
 | .bool b=>some (.bl b)
 | .int i _=>some (.int i)
 | .str x _=>some (.str x)
 | .bytes b _=>some (.byt b)
 | .float b _=>some (.flt b)
 | .ref a=>some (.ref a)
 | .type n=>some (.ty n)
 |_=>none
theorem RelV.abs {x:V} {u:Value} (r:RelV x u):zw0 u=some x:=by
 cases x with
 |non=>cases r;rfl
 |bl _=>cases r;rfl
 |int _=>obtain⟨t,rfl⟩:=r;rfl
 |str _=>obtain⟨t,rfl⟩:=r;rfl
 |byt _=>obtain⟨t,rfl⟩:=r;rfl
 |flt _=>obtain⟨t,rfl⟩:=r;rfl
 |ref _=>cases r;rfl
 |ty _=>cases r;rfl
theorem RelV.inj {x y:V} {u:Value} (r:RelV x u) (q:RelV y u):x=y:=nB (r.abs.symm.trans q.abs)
theorem Vals.inj:∀{xs ys:List V} {us:List Value},Vals xs us->Vals ys us->xs=ys
 |_,_,_,.nil,.nil=>rfl
 |_,_,_,.cons r t,.cons r' t'=>by rw [r.inj r',Vals.inj t t']
section
variable {X:Cx} {pins:List (Addr×Obj)} {σ:St} {H:Hp} {s:Shared} {a:Addr} {xs ys:List V}
theorem SqL.of {K:PySem.W.Frag} (h:H a=some (.lst xs)):SqL K H a xs:=.inl (.inl h)
abbrev uI:=@SqL.of
theorem SqT.of {K:PySem.W.Frag} (h:H a=some (.tup xs)):SqT K H a xs:=.inl (.inl h)
abbrev vI:=@SqT.of
theorem Inv.list (I:Inv X pins σ H s) (h:SqL X.K H a xs):∃its:List Value,Vals xs its/\PlainL s.heap a its.toArray/\xs.length<=sizeLine:=by
 rcases h with h |⟨o,its,n,hk,j,hd,hs,hz,r⟩
 ·obtain⟨z,its,n,r,e⟩:=h.ok I.hok;exact⟨its,r,⟨_,n,e,rfl,rfl,rfl⟩,z⟩
 ·refine⟨its.toList,r,⟨o,n,I.kIn a o hk,j,hd,by simpa using hs⟩,?_⟩;have e:=r.length;simp only [pB] at e;omega
theorem Inv.tuple (I:Inv X pins σ H s) (h:SqT X.K H a xs):∃its:List Value,Vals xs its/\IsTup s.heap a its.toArray/\xs.length<=sizeLine:=by
 rcases h with h |⟨o,its,n,hk,j,hs,hz,r⟩
 ·obtain⟨z,its,r,p⟩:=h.ok I.hok;exact⟨its,r,p,z⟩
 ·refine⟨its.toList,r,⟨o,I.kIn a o hk,j,n,by simpa using hs⟩,?_⟩;have e:=r.length;simp only [pB] at e;omega
theorem Inv.list_inj (I:Inv X pins σ H s) (h:SqL X.K H a xs) (h':SqL X.K H a ys):xs=ys:=by
 obtain⟨its,r,⟨o,n,e,_,_,d⟩,_⟩:=I.list h;obtain⟨its',r',⟨o',n',j,_,_,d'⟩,_⟩:=I.list h';rw [e] at j;cases j;rw [d] at d';injection d' with D _
 have:its=its':=by simpa using vD Array.toList D
 subst this;exact r.inj r'
theorem Inv.tuple_inj (I:Inv X pins σ H s) (h:SqT X.K H a xs) (h':SqT X.K H a ys):xs=ys:=by
 obtain⟨its,r,⟨o,e,_,n,d⟩,_⟩:=I.tuple h;obtain⟨its',r',⟨o',j,_,n',d'⟩,_⟩:=I.tuple h';rw [e] at j;cases j;rw [d] at d';injection d' with D _
 have:its=its':=by simpa using vD Array.toList D
 subst this;exact r.inj r'
end
noncomputable abbrev Cx.wish (X:Cx) (E:Value->Shared->Prop):Cx:={ X with xe:=E}
noncomputable abbrev Cx.nox (X:Cx):Cx:=X.wish fun _ _=>False
theorem Cx.Ok.wish {X:Cx} (ok:X.Ok) (E:Value->Shared->Prop):(X.wish E).Ok:=
 ⟨ok.mod,ok.kind,ok.glob,ok.blt,ok.above,ok.inj,ok.has,ok.cab,ok.hd,ok.frames,ok.stk,ok.exf,ok.bs,ok.bsz,ok.noex,ok.exfs,ok.funs,ok.frf⟩
theorem Cx.Ok.unwish {X:Cx} {E:Value->Shared->Prop} (ok:(X.wish E).Ok):X.Ok:=
 ⟨ok.mod,ok.kind,ok.glob,ok.blt,ok.above,ok.inj,ok.has,ok.cab,ok.hd,ok.frames,ok.stk,ok.exf,ok.bs,ok.bsz,ok.noex,ok.exfs,ok.funs,ok.frf⟩
section
variable {X:Cx} {pins:List (Addr×Obj)} {σ:St} {H:Hp} {s:Shared} {E:Value->Shared->Prop}
theorem Inv.wish (I:Inv X pins σ H s) (E:Value->Shared->Prop):Inv (X.wish E) pins σ H s:=⟨I.ok.wish E,I.os,I.bare,I.base,I.loc,I.cell,I.free,I.freeC,I.pin,I.hok,I.len⟩
theorem Inv.unwish (I:Inv (X.wish E) pins σ H s):Inv X pins σ H s:=⟨I.ok.unwish,I.os,I.bare,I.base,I.loc,I.cell,I.free,I.freeC,I.pin,I.hok,I.len⟩
theorem SP.unwish {D:Ends} {f:Flow} {s':Shared} (h:SP (X.wish E) pins D f s'):SP X pins D f s':=by
 cases f with
 |next=>obtain⟨j,H',I,q⟩:=h;exact⟨j,H',I.unwish,q⟩
 |brk=>obtain⟨j,H',I,q⟩:=h;exact⟨j,H',I.unwish,q⟩
 |cont=>obtain⟨j,H',I,q⟩:=h;exact⟨j,H',I.unwish,q⟩
 |ret u=>obtain⟨v,j,H',I,r,q⟩:=h;exact⟨v,j,H',I.unwish,r,q⟩
theorem PSs.nox {st:List Stmt} {t:TS} (h:PSs X.nox st t):PSs X st t:=fun pins s σ H D I hw=>
 oC (h pins s σ H D (I.wish _) hw) (fun _ _ q=>q.unwish) fun _ _ z=>False.elim z
end
section
variable {X:Cx} {st:Stmt} {rest:List Stmt} {t u:TS} {e:Expr} {te:TE} {pos:Pos}
noncomputable def zu0:TS:=fun D σ H=>D.nx σ H
noncomputable def zi1 (t u:TS):TS:=fun D σ H=>t { D with nx:=u D} σ H
theorem zq:PSs X [] zu0:=fun _ _ σ H _ I h=>lE ⟨σ,H,I,h⟩
theorem qj (h1:PS X st t) (h2:PSs X rest u):PSs X (st::rest) (zi1 t u):=by
 intro pins s σ H D I h;refine xE (thn (h1 pins s σ H { D with nx:=u D} I h) fun f s1 q=>?_);cases f with
 |next=>obtain⟨j,H',F,q⟩:=q;exact h2 pins s1 j H' D F q
 |ret v=>exact q
 |brk=>exact q
 |cont=>exact q
theorem qp (h1:PS X st t):PSs X [st] t:=by
 intro pins s σ H D I h;refine xE (thn (h1 pins s σ H D I h) fun f s1 q=>?_);cases f with
 |next=>exact lE q
 |ret v=>exact q
 |brk=>exact q
 |cont=>exact q
theorem Inv.quiet {pins:List (Addr×Obj)} {σ:St} {H:Hp} {s:Shared} (I:Inv X pins σ H s):interactive X.env=false:=by simp [interactive,I.ok.kind]
noncomputable def zt0 (te:TE):TS:=fun D σ H=>te σ H fun _ H1=>D.nx σ H1
theorem yr (he:PE X e te) (hs:swapsWith e none pos.line X.env=pure false:=by rfl):PS X (.Expr e pos) (zt0 te):=by intro pins s σ H D I h;exact wpAny_Expr_any (thn (he pins s σ H _ I h) fun v s1 ⟨x,H1,j,r1,q1⟩=>⟨σ,H1,j,q1⟩) I.quiet hs
noncomputable def zv6 (te:TE):TS:=fun D σ H=>te σ H D.rt
theorem zb (he:PE X e te):PS X (.Return (some e) pos) (zv6 te):=by intro pins s σ H D I h;exact wpAny_Return_some (thn (he pins s σ H _ I h) fun v s1 ⟨x,H1,j,F,q1⟩=>⟨x,σ,H1,j,F,q1⟩)
noncomputable def zw9 (c:TT) (t u:TS):TS:=fun D σ H=>c σ H fun b H1=>if b=true then t D σ H1 else u D σ H1
theorem j6 {c:Expr} {a b:List Stmt} {tc:TT} (F:PT X c tc) (ha:PSs X a t) (hb:PSs X b u):PS X (.If c a b pos) (zw9 tc t u):=by
 intro pins s σ H D I h;refine wpAny_If (thn (F pins s σ H _ I h) fun d s1 ⟨H1,j,q1⟩=>?_);cases d with
 |true=>exact ha pins s1 σ H1 D j q1
 |false=>exact hb pins s1 σ H1 D j q1
end
noncomputable abbrev TG:=V->St->Hp->(St->Hp->Prop)->Prop
noncomputable abbrev TGs:=List V->St->Hp->(St->Hp->Prop)->Prop
noncomputable def PG (X:Cx) (target:Expr) (t:TG):Prop:=
 ∀(pins:List (Addr×Obj)) (s:Shared) (σ:St) (H:Hp) (v:V) (u:Value) (Q:St->Hp->Prop),Inv X pins σ H s->RelV v u->t v σ H Q ->
  wpAny (model X.prog X.w) X.A (assign target X.env u) (fun _ s'=>∃j H',Inv X pins j H' s'/\Q j H') X.xe s
noncomputable def PGs (X:Cx) (ts:List Expr) (t:TGs):Prop:=
 ∀(pins:List (Addr×Obj)) (s:Shared) (σ:St) (H:Hp) (vs:List V) (us:List Value) (Q:St->Hp->Prop),Inv X pins σ H s->Vals vs us->t vs σ H Q ->
  wpAny (model X.prog X.w) X.A (assignInOrder ((assignEach ts X.env).map (·.2)) us) (fun _ s'=>∃j H',Inv X pins j H' s'/\Q j H') X.xe s
noncomputable abbrev zq9:=V->V->V->Hp->(Hp->Prop)->Prop
noncomputable def zu5 (X:Cx) (t:zq9):Prop:=
 ∀(pins:List (Addr×Obj)) (s:Shared) (σ:St) (H:Hp) (o i v:V) (j D u:Value) (Q:Hp->Prop),Inv X pins σ H s->RelV o j->RelV i D->RelV v u->t o i v H Q ->
  wpAny (model X.prog X.w) X.A (setItem j D u) (fun _ s'=>∃H',Inv X pins σ H' s'/\Q H') X.xe s
section
variable {X:Cx} {pos:Pos}
noncomputable def jt (i:Nat):TG:=fun v σ H Q=>Q (σ.set i (some v)) H
theorem qe6 {i:Nat} {x:Str} (j:X.N.Nodup) (hi:X.N[i]? = some x) (hx:Loc X.env.scope x) (hf:X.fn x=true\/X.env.scope.names.lookup x=some .local:=by first |exact .inl rfl |exact .inr rfl |assumption):PG X (.Name x pos) (jt i):=by intro pins s σ H v u Q I r h;exact wpAny_assign_Name (Bo I j hi hx r (fun s' D=>⟨_,H,D,h⟩) hf)
noncomputable def zv5:TGs:=fun vs σ H Q=>vs=[]/\Q σ H
noncomputable def zq8 (t:TG) (u:TGs):TGs:=fun vs σ H Q=>∃v r,vs=v::r/\t v σ H fun j H'=>u r j H' Q
theorem Gv:PGs X [] zv5:=by intro pins s σ H vs us Q I r h;obtain⟨e,h⟩:=h;subst e;cases r;exact assignInOrder_nil ⟨σ,H,I,h⟩
theorem yq {e:Expr} {es:List Expr} {t:TG} {u:TGs} (h1:PG X e t) (h2:PGs X es u)
  (hs:(assignEach (e::es) X.env).map (·.2)=assign e X.env::(assignEach es X.env).map (·.2):=by rfl):PGs X (e::es) (zq8 t u):=by
 intro pins s σ H vs us Q I r h;obtain⟨v,vr,e1,h⟩:=h;subst e1;cases r with
 |cons r j=>rw [hs];refine assignInOrder_cons (thn (h1 pins s σ H _ _ _ I r h) fun _ s1 ⟨σ1,H1,D,q1⟩=>?_);exact h2 pins s1 σ1 H1 _ _ Q D j q1
noncomputable def zu4 (K:PySem.W.Frag) (n:Nat) (t:TGs):TG:=fun v σ H Q=>∃a xs,v=.ref a/\SqT K H a xs/\xs.length=n/\t xs σ H Q
theorem zk2 {es:List Expr} {k:Nat} {t:TGs} {n:Nat} (F:X.calm=true) (h:PGs X es t)
  (hn:(assignEach es X.env).length=n:=by rfl) (j:(assignEach es X.env).findIdx? (·.1)=none:=by rfl):PG X (.Tuple es k pos) (zu4 X.K n t):=by
 intro pins s σ H v u Q I r hw;obtain⟨a,xs,e1,G,hl,hw⟩:=hw;subst e1;cases r;obtain⟨its,D,J,hz⟩:=I.tuple G;refine assign_Tuple_tuple (I.ok.hd F) J (by simp [hn,←hl,D.length]) j fun h' hx=>?_;have O:Inv X pins σ H { s with heap:=h'}:=I.kept (t':=s.toks) fun b o e=>hx b o (rC (kB e)) e;exact h pins _ σ H xs _ Q O (by simpa using D) hw
noncomputable def zw1 (to ti:TE) (t:zq9):TG:=fun v σ H Q=>to σ H fun o H1=>ti σ H1 fun i H2=>t o i v H2 fun H3=>Q σ H3
theorem qy8 {o i:Expr} {to ti:TE} {t:zq9} (F:PE X o to) (hi:PE X i ti) (hs:zu5 X t)
    (ha:∀v,assign (.Subscript o i pos) X.env v=(do
      let j ←holding [v] (eval o X.env)
      let D ←holding [v,j] (eval i X.env)
      standAt pos
      holding [v,j,D] (setItem j D v)
      release [v,j,D] []):=by intro _;rfl):PG X (.Subscript o i pos) (zw1 to ti t):=by
  intro pins s σ H v u Q I r h;rw [ha];refine cA (sD (thn (F pins s σ H _ I h) fun j s1 ⟨x,H1,G,J,q1⟩=>?_));refine cA (sD (thn (hi pins s1 σ H1 _ G q1) fun D s2 ⟨y,H2,O,S,q2⟩=>?_));refine cA (mF (cA (sD (thn (hs pins s2 σ H2 x y v j D u _ O J S r q2) fun _ s3 ⟨H3,U,q3⟩=>?_))));exact wpAny_release ⟨σ,H3,U,q3⟩
noncomputable def qp4 (te:TE) (g:TG):TS:=fun D σ H=>te σ H fun x H1=>g x σ H1 D.nx
theorem qy9 {tg e:Expr} {te:TE} {g:TG} (he:PE X e te) (j:PG X tg g) (hs:swapsWithSole [tg] e pos.line X.env=pure false:=by rfl) (hw:swappedStores [tg] e X.env=pure none:=by rfl)
  (h1:(assignEach [tg] X.env).map (·.2)=[assign tg X.env]:=by rfl):PS X (.Assign [tg] e pos) (qp4 te g):=by
 intro pins s σ H D I h;refine wpAny_Assign_stores (thn (he pins s σ H _ I h) fun v s1 ⟨x,H1,F,G,q1⟩=>?_) hs hw;rw [h1];exact thn (j pins s1 σ H1 x v _ F G q1) fun _ s2 q=>q
theorem zk4 {i:Nat} {x:Str} {e:Expr} {te:TE} {pos':Pos} (j:X.N.Nodup) (hi:X.N[i]? = some x) (hx:Loc X.env.scope x) (he:PE X e te) (hs:swapsWith e (some (.Name x pos')) pos.line X.env=pure false:=by rfl) (hf:X.fn x=true\/X.env.scope.names.lookup x=some .local:=by first |exact .inl rfl |exact .inr rfl |assumption) :
  PS X (.Assign [.Name x pos'] e pos) (qp4 te (jt i)):=by
 intro pins s σ H D I h;refine wpAny_Assign_Name (thn (he pins s σ H _ I h) fun v s1 ⟨y,H1,F,G,q1⟩=>?_) hs;exact Bo F j hi hx G (fun s2 J=>⟨_,H1,J,q1⟩) hf
noncomputable def zm9 (c:TT) (tb:TS):TS:=fun D σ H=>∃W:Nat->St->Hp->Prop,(∃m,W m σ H)/\∀m σ H,W m σ H ->
 c σ H fun b H1=>if b=true then ∃N:St->Hp->Prop,(∀j H',N j H'->∃F,F < m/\W F j H')/\tb { D with nx:=N,ct:=N,bk:=D.nx} σ H1 else D.nx σ H1
theorem qo4 {c:Expr} {body:List Stmt} {tc:TT} {tb:TS} (hp:PassesOwn (model X.prog X.w) X.A X.env X.xe) (Z:PT X c tc) (hb:PSs X body tb):PS X (.While c body [] pos) (zm9 tc tb):=by
 intro pins s σ H D I h;obtain⟨W,⟨m0,w0⟩,turn⟩:=h;refine wpAny_While (codeAny_whileLoop (fun n s'=>∃F H',Inv X pins F H' s'/\W n F H') ?_ m0 ⟨σ,H,I,w0⟩);rintro n s1 ⟨σ1,H1,I1,w1⟩;refine iG hp (thn (Z pins s1 σ1 H1 _ I1 (turn n σ1 H1 w1)) fun b s2 ⟨H2,U,q2⟩=>?_);cases b with
 |true=>
  obtain⟨N,Y,q2⟩:=q2;rw [kA rfl];refine iG hp (thn (hb pins s2 σ1 H2 _ U q2) fun f s3 q3=>?_);cases f with
  |next=>obtain⟨j,H3,G,J⟩:=q3;obtain⟨O,hm,S⟩:=Y j H3 J;exact⟨O,hm,j,H3,G,S⟩
  |cont=>obtain⟨j,H3,G,J⟩:=q3;obtain⟨O,hm,S⟩:=Y j H3 J;exact⟨O,hm,j,H3,G,S⟩
  |brk=>exact q3
  |ret v=>exact q3
 |false=>rw [oA bB];exact lE ⟨σ1,H2,U,q2⟩
end
structure It where
  go:Nat->Hp->Prop
  yld:Nat->Hp->V->Hp->Prop
  stop:Nat->Hp->Prop
noncomputable def Zf (X:Cx) (pins:List (Addr×Obj)) (H:Hp) (b:Addr):Prop:=
 H b=none/\b≠X.env.locals/\b∉X.fs/\(b∈X.ex\/X.s₀.heap.objs.size<=b)/\(∀x c,X.env.cells.lookup x=some c->c≠b)/\∀p∈X.pn++pins,p.1≠b
theorem Inv.fpOk {X:Cx} {pins:List (Addr×Obj)} {σ:St} {H H':Hp} {s:Shared} {b:Addr} (I:Inv X pins σ H s) (hb:s.heap.objs.size<=b) (hn:H' b=none):Zf X pins H' b:=by
 refine⟨hn,Nat.ne_of_gt (qC I.lt hb),I.nofs hb,.inr (aD I.sz hb),fun x c e z=>?_,fun p hp z=>?_⟩
 ·obtain⟨v,q⟩:=I.cell x c e;exact absurd (qC q.lt (by rw [z];exact hb)) (nG _)
 ·exact absurd (qC (kB (I.pin p hp).1) (by rw [z];exact hb)) (nG _)
structure Turn (P:Program) (w:World) (K:PySem.W.Frag) (tg:Expr) (J:It) (fp:List Addr) (it:Addr) (tn:Nat->Heap->Prop):Prop where
  mem:it∈fp
  obj:∀i h,tn i h->∀b∈fp,∃o,h.get? b=some o/\∀v,o.data≠.cell v
  keep:∀i h h',tn i h->(∀b∈fp,∀o,h.get? b=some o->h'.get? b=some o)->tn i h'
  item:∀(X:Cx),X.prog=P->X.w=w->X.K=K->X.calm=true->∀(i:Nat) (pins:List (Addr×Obj)) (s:Shared) (σ:St) (H:Hp) (E:Value->Shared->Prop),Inv X pins σ H s->(∀b∈fp,Zf X pins H b)->tn i s.heap->J.go i H ->
    wpAny (model P w) X.A (pyNext (.ref it)) (fun r s1=>∃u,r=some u /\
      wpAny (model P w) X.A (letOwnedTupleGo tg (.ref it) u) (fun _ s2=>∃x H',Inv X pins σ H' s2/\RelV x u/\J.yld i H x H'/\tn (i+1) s2.heap/\∀b∈fp,H' b=none) E s1) E s
  done:∀(X:Cx),X.prog=P->X.w=w->X.K=K->X.calm=true->∀(i:Nat) (pins:List (Addr×Obj)) (s:Shared) (σ:St) (H:Hp) (E:Value->Shared->Prop),Inv X pins σ H s->(∀b∈fp,Zf X pins H b)->tn i s.heap->J.stop i H ->
    wpAny (model P w) X.A (pyNext (.ref it)) (fun r s1=>r=none/\Inv X pins σ H s1) E s
  self:∀(A:Around) (i:Nat) (s:Shared) (Q:Value->Shared->Prop) (E:Value->Shared->Prop),tn i s.heap->Q (.ref it) s->wpAny (model P w) A (pyIter (.ref it)) Q E s
noncomputable abbrev TI:=St->Hp->(It->Hp->Prop)->Prop
inductive PIE (X:Cx) (pins:List (Addr×Obj)) (σ:St) (tg:Expr) (R:It->Hp->Prop) (itv:Value) (s2:Shared):Prop
 |mk (it:Addr) (fp:List Addr) (tn:Nat->Heap->Prop) (J:It) (H':Hp) (_:itv=.ref it) (_:Inv X pins σ H' s2) (_:Turn X.prog X.w X.K tg J fp it tn) (_:tn 0 s2.heap) (_:(∀b∈fp,Zf X pins H' b)) (_:R J H')
noncomputable def PI (X:Cx) (tg iter:Expr) (j:TI):Prop:=
 ∀(pins:List (Addr×Obj)) (s:Shared) (σ:St) (H:Hp) (R:It->Hp->Prop),Inv X pins σ H s->j σ H R ->
  wpAny (model X.prog X.w) X.A (eval iter X.env) (fun v s1=>wpAny (model X.prog X.w) X.A (pyIter v) (PIE X pins σ tg R) X.xe s1) X.xe s
theorem qw9 {M:Model} {A:Around} {E:Value->Shared->Prop} {s:Shared} {tg:Expr} {it:Addr} {u:Value} {o:Obj} {n:String} {vs:Array Value} {Q:Unit->Shared->Prop} (D:s.heap.get? it=some o) (F:o.cls=.type n) (hd:o.data=.fields vs)
  (hn:["enumerate", "zip", "dict_itemiterator", "dict_reverseitemiterator", "odict_iterator", "itertools.zip_longest", "itertools.pairwise"].contains n=false) (j:Q () s):wpAny M A (letOwnedTupleGo tg (.ref it) u) Q E s:=by
 unfold letOwnedTupleGo;cases tg<;>first
  |exact eB j
  |(cases u<;>first
    |exact eB j
    |(refine cA (wpAny_load D ?_);rw [F,hd];show wpAny M A (if (["enumerate", "zip", "dict_itemiterator", "dict_reverseitemiterator", "odict_iterator", "itertools.zip_longest", "itertools.pairwise"].contains n && vs[0]? == some (rawInt _))=true then _ else _) Q E s;rw [oA (by intro h;rw [hn,qH] at h;cases h)];exact eB j))
noncomputable def Itl (K:PySem.W.Frag) (a:Addr):It:=
 ⟨fun i H=>∃xs x,SqL K H a xs/\xs[i]? = some x,fun i H x H'=>H'=H/\∀xs,SqL K H a xs->xs[i]? = some x,fun i H=>∃xs,SqL K H a xs/\xs.length<=i⟩
noncomputable def Itt (K:PySem.W.Frag) (a:Addr):It:=
 ⟨fun i H=>∃xs x,SqT K H a xs/\xs[i]? = some x,fun i H x H'=>H'=H/\∀xs,SqT K H a xs->xs[i]? = some x,fun i H=>∃xs,SqT K H a xs/\xs.length<=i⟩
noncomputable def Itr (lo:Int) (n:Nat):It:=⟨fun i _=>i < n,fun i H x H'=>H'=H/\x=.int (lo+i),fun i _=>n<=i⟩
theorem qj6 {P:Program} {w:World} {K:PySem.W.Frag} {tg:Expr} (a it:Addr):Turn P w K tg (Itl K a) [it] it (fun i h=>h.IsListIter it a i) where
  mem:=by simp
  obj:=fun i h st b hb=>by
    have e:b=it:=by simpa using hb
    subst e;obtain⟨o,e,c,d⟩:=st;exact⟨o,e,fun v z=>by rw [d] at z;cases z⟩
  keep:=fun i h h' st k=>st.at fun o e=>k it (by simp) o e
  item:=by intro X D hw F S i pins s σ H E I hf st G;subst D hw F;obtain⟨xs,x,j,hx⟩:=G;obtain⟨its,J,p,U⟩:=I.list j;obtain⟨u,Y,Z⟩:=J.get hx;obtain⟨f0,f1,f2,f3,f4,O⟩:=hf it (by simp);refine wpAny_pyNext_list_item st p.isList (x:=u) (by simpa using Y) fun h' st' sb=>?_;have I1:Inv X pins σ H { s with heap:=h'}:=I.turned (t':=s.toks) (fun b o hb e=>(sb.2 b hb).trans e) f0 f1 f3 f4 O;obtain⟨o,e,c,d⟩:=id st';exact⟨u,rfl,qw9 (s:={ s with heap:=h'}) e c d (by decide) ⟨x,H,I1,Z,⟨rfl,fun ys hy=>by rw [I.list_inj hy j];exact hx⟩,st',fun b hb=>(hf b hb).1⟩⟩
  done:=by intro X D hw F S i pins s σ H E I hf st G;subst D hw F;obtain⟨xs,j,hx⟩:=G;obtain⟨its,J,p,U⟩:=I.list j;obtain⟨f0,f1,f2,f3,f4,O⟩:=hf it (by simp);have hl:=J.length;exact wpAny_pyNext_list_end (I.ok.hd S) st p.isList (by simp;omega) fun h' eb=>⟨rfl,I.turned (t':=s.toks) (fun b o hb e=>eb b o hb e) f0 f1 f3 f4 O⟩
  self:=fun _ _ _ _ _ st h=>wpAny_pyIter_listiter st h
theorem Z9 {P:Program} {w:World} {K:PySem.W.Frag} {tg:Expr} (a it:Addr):Turn P w K tg (Itt K a) [it] it (fun i h=>h.IsTupleIter it a i) where
  mem:=by simp
  obj:=fun i h st b hb=>by
    have e:b=it:=by simpa using hb
    subst e;obtain⟨o,e,c,d⟩:=st;exact⟨o,e,fun v z=>by rw [d] at z;cases z⟩
  keep:=fun i h h' st k=>st.at fun o e=>k it (by simp) o e
  item:=by intro X D hw F S i pins s σ H E I hf st G;subst D hw F;obtain⟨xs,x,j,hx⟩:=G;obtain⟨its,J,p,U⟩:=I.tuple j;obtain⟨u,Y,Z⟩:=J.get hx;obtain⟨f0,f1,f2,f3,f4,O⟩:=hf it (by simp);refine wpAny_pyNext_tuple_item st (show s.heap.IsTuple a its.toArray from p) (x:=u) (by simpa using Y) fun h' st' sb=>?_;have I1:Inv X pins σ H { s with heap:=h'}:=I.turned (t':=s.toks) (fun b o hb e=>(sb.2 b hb).trans e) f0 f1 f3 f4 O;obtain⟨o,e,c,d⟩:=id st';exact⟨u,rfl,qw9 (s:={ s with heap:=h'}) e c d (by decide) ⟨x,H,I1,Z,⟨rfl,fun ys hy=>by rw [I.tuple_inj hy j];exact hx⟩,st',fun b hb=>(hf b hb).1⟩⟩
  done:=by intro X D hw F S i pins s σ H E I hf st G;subst D hw F;obtain⟨xs,j,hx⟩:=G;obtain⟨its,J,p,U⟩:=I.tuple j;obtain⟨f0,f1,f2,f3,f4,O⟩:=hf it (by simp);have hl:=J.length;exact wpAny_pyNext_tuple_end (I.ok.hd S) st (show s.heap.IsTuple a its.toArray from p) (by simp;omega) fun h' eb=>⟨rfl,I.turned (t':=s.toks) (fun b o hb e=>eb b o hb e) f0 f1 f3 f4 O⟩
  self:=fun _ _ _ _ _ st h=>wpAny_pyIter_tupleiter st h
theorem Zn {P:Program} {w:World} {K:PySem.W.Frag} {tg:Expr} (it:Addr) (lo:Int) (n:Nat):Turn P w K tg (Itr lo n) [it] it (fun i h=>IsRangeIter h it (lo+(i:Nat) * 1) ((n:Int) - (i:Nat)) 1) where
  mem:=by simp
  obj:=fun i h st b hb=>by
    have e:b=it:=by simpa using hb
    subst e;exact⟨_,st,fun v z=>by have O:Data.fields _=Data.cell v:=z;cases O⟩
  keep:=fun i h h' st k=>k it (by simp) _ st
  item:=by intro X j hw D F i pins s σ H E I hf st G;subst j hw D;obtain⟨f0,f1,f2,f3,f4,J⟩:=hf it (by simp);have W:=Walks.range (prog:=X.prog) (w:=X.w) (I.ok.hd F) it lo 1 n;refine W.item i s _ _ G st fun v h' tk S st' U=>?_;obtain⟨t,rfl⟩:=S;have Y:Inv X pins σ H { s with heap:=h',toks:=tk}:=I.turned (fun b o hb e=>U b o (by simpa using hb) e) f0 f1 f3 f4 J;refine⟨_,rfl,qw9 (s:={ s with heap:=h',toks:=tk}) (n := "range_iterator") st' rfl rfl (by decide) ⟨.int (lo+i),H,Y,⟨t,?_⟩,⟨rfl,rfl⟩,st',fun b hb=>(hf b hb).1⟩⟩;rw [Int.mul_one]
  done:=by intro X j hw D F i pins s σ H E I hf st G;subst j hw D;obtain⟨f0,f1,f2,f3,f4,J⟩:=hf it (by simp);exact wpAny_pyNext_range_end (I.ok.hd F) st (by have:n<=i:=G;omega) fun h' Z=>⟨rfl,I.turned (t':=s.toks) (fun b o hb e=>Z b o hb e) f0 f1 f3 f4 J⟩
  self:=fun _ _ _ _ _ st h=>wpAny_pyIter_rangeiter st h
section
variable {X:Cx} {tg:Expr}
inductive iListI (K:PySem.W.Frag) (R:It->Hp->Prop) (x:V) (H1:Hp):Prop
 |mk (a:_) (_:x=.ref a) (_:(∃xs,SqL K H1 a xs)) (_:R (Itl K a) H1)
noncomputable def zj8 (K:PySem.W.Frag) (tl:TE):TI:=fun σ H R=>tl σ H fun x H1=>iListI K R x H1
inductive iTupI (K:PySem.W.Frag) (R:It->Hp->Prop) (x:V) (H1:Hp):Prop
 |mk (a:_) (_:x=.ref a) (_:(∃xs,SqT K H1 a xs)) (_:R (Itt K a) H1)
noncomputable def zv1 (K:PySem.W.Frag) (tl:TE):TI:=fun σ H R=>tl σ H fun x H1=>iTupI K R x H1
theorem zf5 {l:Expr} {tl:TE} (hl:PE X l tl):PI X tg l (zj8 X.K tl):=by
 intro pins s σ H R I h;refine thn (hl pins s σ H _ I h) fun v s1 ⟨x,H1,j,D,q1⟩=>?_;obtain⟨a,e,⟨xs,F⟩,q⟩:=q1;subst e;cases D;obtain⟨its,rv,p,hz⟩:=j.list F;refine wpAny_pyIter_list p.isList ?_;refine⟨s1.heap.objs.size,[s1.heap.objs.size],_,_,H1,rfl,j.kept (t':=s1.toks) fun b o e=>iA _ e,qj6 a _,⟨_,zB _ rfl,rfl,rfl⟩,fun b hb=>?_,q⟩;have e:b=s1.heap.objs.size:=by simpa using hb
 subst e;exact j.fpOk (dA _) (j.hok.fresh (dA _))
theorem zo5 {l:Expr} {tl:TE} (hl:PE X l tl):PI X tg l (zv1 X.K tl):=by
 intro pins s σ H R I h;refine thn (hl pins s σ H _ I h) fun v s1 ⟨x,H1,j,D,q1⟩=>?_;obtain⟨a,e,⟨xs,F⟩,q⟩:=q1;subst e;cases D;obtain⟨its,rv,p,hz⟩:=j.tuple F;refine wpAny_pyIter_tuple (show s1.heap.IsTuple a its.toArray from p) ?_;refine⟨s1.heap.objs.size,[s1.heap.objs.size],_,_,H1,rfl,j.kept (t':=s1.toks) fun b o e=>iA _ e,Z9 a _,⟨_,zB _ rfl,rfl,rfl⟩,fun b hb=>?_,q⟩;have e:b=s1.heap.objs.size:=by simpa using hb
 subst e;exact j.fpOk (dA _) (j.hok.fresh (dA _))
theorem X6 {pins:List (Addr×Obj)} {σ:St} {H:Hp} {s:Shared} {R:It->Hp->Prop} {E:Value->Shared->Prop} {lo hi:Int} {t u v:Tok} {tk:Nat} (I:Inv X pins σ H s) (h1:-(2 ^ 62)<=lo) (h2:lo < 2 ^ 62) (D:-(2 ^ 62)<=hi) (F:hi < 2 ^ 62)
  (q:R (Itr lo (hi - lo).toNat) H):wpAny (model X.prog X.w) X.A (pyIter (.ref s.heap.objs.size)) (PIE X pins σ tg R) E { s with heap:=s.heap.push { cls:=.type "range",data:=.fields #[.int lo t,.int hi u,.int 1 v]},toks:=tk}:=by
 refine wpAny_pyIter_range (IsRange.new ..) (small_one h1 h2 D F) ?_;have j:Inv X pins σ H { s with heap:=s.heap.push { cls:=.type "range",data:=.fields #[.int lo t,.int hi u,.int 1 v]},toks:=tk}:=I.kept fun b o e=>iA _ e;refine⟨(s.heap.push { cls:=.type "range",data:=.fields #[.int lo t,.int hi u,.int 1 v]}).objs.size,[(s.heap.push { cls:=.type "range",data:=.fields #[.int lo t,.int hi u,.int 1 v]}).objs.size],_,_,H,rfl,
  j.kept (t':=tk) fun b o e=>iA _ e,Zn _ lo (hi - lo).toNat,?_,fun b hb=>?_,q⟩
 ·have e1:lo+((0:Nat):Int) * 1=lo:=by simp
  have e2:(((hi - lo).toNat:Nat):Int) - ((0:Nat):Int)=Builtin.Range.rangeSize lo hi 1:=by rw [rangeSize_one];split<;>omega
  show IsRangeIter _ _ (lo+((0:Nat):Int) * 1) ((((hi - lo).toNat:Nat):Int) - ((0:Nat):Int)) 1;rw [e1,e2];exact zB _ rfl
 ·have e:b=(s.heap.push { cls:=.type "range",data:=.fields #[.int lo t,.int hi u,.int 1 v]}).objs.size:=by simpa using hb
  subst e;exact j.fpOk (dA _) (j.hok.fresh (dA _))
inductive iRng1I (R:It->Hp->Prop) (vs:List V) (H1:Hp):Prop
 |mk (j:Int) (_:vs=[.int j]) (_:-(2 ^ 62)<=j) (_:j < 2 ^ 62) (_:R (Itr 0 j.toNat) H1)
noncomputable def zt5 (ta:TA):TI:=fun σ H R=>ta σ H fun vs H1=>iRng1I R vs H1
inductive iRng2I (R:It->Hp->Prop) (vs:List V) (H1:Hp):Prop
 |mk (i j:Int) (_:vs=[.int i,.int j]) (_:(-(2 ^ 62)<=i/\i < 2 ^ 62/\-(2 ^ 62)<=j/\j < 2 ^ 62)) (_:R (Itr i (j - i).toNat) H1)
noncomputable def zr4 (ta:TA):TI:=fun σ H R=>ta σ H fun vs H1=>iRng2I R vs H1
theorem vh {a:Expr} {ta:TA} {p pos:Pos} (D:Gl X "range") (hm:X.mg "range" = none) (ha:PA X [a] ta) (hs:starEach [a] X.env=[(false,eval a X.env)]:=by rfl):PI X tg (.Call (.Name "range" p) [a] [] pos) (zt5 ta):=by
 intro pins s σ H R I h;refine Call_ (G8 I D hm boot_range (aF (thn (ha pos pins s σ H _ I h) fun us s1 ⟨vs,H1,F,G,q1⟩=>?_) hs rfl));obtain⟨j,e,q1,q2,q⟩:=q1;subst e;cases G with
 |cons r J=>cases J;obtain⟨t,rfl⟩:=r;exact call_range_1 (X6 F (by omega) (by omega) q1 q2 (by simpa using q))
theorem yz {a b:Expr} {ta:TA} {p pos:Pos} (G:Gl X "range") (hm:X.mg "range" = none) (ha:PA X [a,b] ta) (hs:starEach [a,b] X.env=[(false,eval a X.env),(false,eval b X.env)]:=by rfl) (D:starEach [b] X.env=[(false,eval b X.env)]:=by rfl) :
  PI X tg (.Call (.Name "range" p) [a,b] [] pos) (zr4 ta):=by
 intro pins s σ H R I h;refine Call_ (G8 I G hm boot_range (aF (thn (ha pos pins s σ H _ I h) fun us s1 ⟨vs,H1,J,O,q1⟩=>?_) (by rw [hs,D]) (by rw [D];rfl)));obtain⟨i,j,e,⟨q1,q2,q3,q4⟩,q⟩:=q1;subst e;cases O with
 |cons r F=>
  cases F with
  |cons r' F=>cases F;obtain⟨t,rfl⟩:=r;obtain⟨t',rfl⟩:=r';exact call_range_2 (X6 J q1 q2 q3 q4 q)
noncomputable def zw7 (O:TI) (g:TG) (tb:TS):TS:=fun D σ H=>O σ H fun J H1=>∃W:Nat->Nat->St->Hp->Prop,(∃m,W 0 m σ H1)/\∀i m σ H,W i m σ H ->
 (J.stop i H/\D.nx σ H)\/(J.go i H/\∃N:St->Hp->Prop,(∀j H',N j H'->∃G,G < m/\W (i+1) G j H')/\∀x H',J.yld i H x H'->g x σ H' fun F H2=>tb { D with nx:=N,ct:=N,bk:=D.nx} F H2)
noncomputable def T9 (fp:List Addr) (h:Heap):List (Addr×Obj):=fp.filterMap fun b=>(h.get? b).map fun o=>(b,o)
theorem Bp {fp:List Addr} {h:Heap} {b:Addr} {o:Obj} (hb:b∈fp) (e:h.get? b=some o):(b,o)∈T9 fp h:=mI.mpr ⟨b,hb,by rw [e];rfl⟩
theorem ql3 {fp:List Addr} {h:Heap} {p:Addr×Obj} (hp:p∈T9 fp h):p.1∈fp/\h.get? p.1=some p.2:=by
 obtain⟨b,hb,e⟩:=mI.mp hp;cases q:h.get? b with
 |none=>rw [q] at e;cases e
 |some o=>rw [q] at e;have j:(b,o)=p:=nB e;subst j;exact⟨hb,q⟩
theorem Inv.pinned {pins:List (Addr×Obj)} {σ:St} {H:Hp} {s:Shared} {fp:List Addr} (I:Inv X pins σ H s) (hf:∀b∈fp,Zf X pins H b) (D:∀b∈fp,∃o,s.heap.get? b=some o/\∀v,o.data≠.cell v):Inv X (pins++T9 fp s.heap) σ H s:=
 I.pins_of fun p hp=>(rB.mp hp).elim (fun z=>I.pin p (uC _ z)) fun z=>by obtain⟨hb,e⟩:=ql3 z;obtain⟨f0,f1,f2,_⟩:=hf p.1 hb;obtain⟨o,j,d⟩:=D p.1 hb;rw [e] at j;cases j;exact⟨e,f0,f1,f2,d⟩
theorem Inv.unpinned {pins pl:List (Addr×Obj)} {σ:St} {H:Hp} {s:Shared} (I:Inv X (pins++pl) σ H s):Inv X pins σ H s:=I.pins_of fun p hp=>I.pin p (uC _ (vE _ hp))
theorem j8 {iter:Expr} {body:List Stmt} {wi:TI} {g:TG} {tb:TS} {pos:Pos} (hp:PassesOwn (model X.prog X.w) X.A X.env X.xe) (hc:X.calm=true) (hi:PI X tg iter wi) (hg:PG X tg g) (hb:PSs X body tb)
  (hs:∀x,foldedSetIterable iter X.env x=pure x:=by intro _;rfl):PS X (.For tg iter body [] pos) (zw7 wi g tb):=by
 intro pins s σ H D I h;refine wpAny_For (thn (hi pins s σ H _ I h) fun v s1 h1=>thn h1 fun itv s2 h2=>?_) hs;obtain⟨it,fp,tn,J,H2,e,I2,T,a5,f2,W,⟨m0,w0⟩,turn⟩:=h2;subst e;have F:∀{H':Hp},(∀b∈fp,H' b=none)->∀b∈fp,Zf X pins H' b:=fun hn b hb=>⟨hn b hb,(f2 b hb).2⟩
 refine codeAny_forLoop_any (fun n s'=>∃i G H',Inv X pins G H' s'/\tn i s'.heap/\(∀b∈fp,H' b=none)/\W i n G H') ?_ m0 ⟨0,σ,H2,I2,a5,fun b hb=>(f2 b hb).1,w0⟩;rintro n s3 ⟨i,O,H3,I3,a3,a4,w3⟩;rcases turn i n O H3 w3 with ⟨stop,qn⟩ |⟨go,N,hN,step⟩
 ·refine iG hp (thn (T.done X rfl rfl rfl hc i pins s3 O H3 X.xe I3 (F a4) a3 stop) fun r s4 ⟨hr,I4⟩=>?_);subst hr;exact lE ⟨O,H3,I4,qn⟩
 ·refine iG hp (thn (T.item X rfl rfl rfl hc i pins s3 O H3 X.xe I3 (F a4) a3 go) fun r s4 ⟨u,hr,h4⟩=>?_);subst hr;refine iG hp (thn h4 fun _ s5 ⟨x,H5,I5,r5,y5,Z,a6⟩=>?_);have a7:=I5.pinned (F a6) (T.obj _ _ Z);refine iG hp (thn (hg _ s5 O H5 x u _ a7 r5 (step x H5 y5)) fun _ s6 ⟨a8,H6,I6,q6⟩=>?_);refine iG hp (thn (hb _ s6 a8 H6 _ I6 q6) fun f s7 Y=>?_);have again:∀{j:St} {S:Hp},Inv X (pins++T9 fp s5.heap) j S s7->N j S->∃m,m < n/\∃i G H',Inv X pins G H' s7/\tn i s7.heap/\(∀b∈fp,H' b=none)/\W i m G H':=fun {j S} U n7=>by
   obtain⟨m',hm,w7⟩:=hN j S n7;refine⟨m',hm,i+1,j,S,U.unpinned,T.keep _ _ _ Z fun b hb o e=>(U.pin (b,o) (uC _ (uC _ (Bp hb e)))).1,fun b hb=>?_,w7⟩;obtain⟨o,e,d⟩:=T.obj _ _ Z b hb;exact (U.pin (b,o) (uC _ (uC _ (Bp hb e)))).2.1
  cases f with
  |next=>obtain⟨j,S,U,n7⟩:=Y;exact again U n7
  |cont=>obtain⟨j,S,U,n7⟩:=Y;exact again U n7
  |brk=>obtain⟨j,S,U,Y⟩:=Y;exact⟨j,S,U.unpinned,Y⟩
  |ret v=>obtain⟨x7,j,S,U,r7,Y⟩:=Y;exact⟨x7,j,S,U.unpinned,r7,Y⟩
end
theorem Gi {K:PySem.W.Frag} {a:Addr} {xs:List V} {g:TG} {tb:TS} {D:Ends} {σ:St} {H:Hp} (Pv:Nat->St->Hp->Prop) (h0:Pv 0 σ H) (hl:∀i σ H,i<=xs.length->Pv i σ H->SqL K H a xs)
  (hs:∀i x σ H,xs[i]? = some x->Pv i σ H->g x σ H fun j H2=>tb { D with nx:=Pv (i+1),ct:=Pv (i+1),bk:=D.nx} j H2) (hd:∀σ H,Pv xs.length σ H->D.nx σ H) :
  ∃W:Nat->Nat->St->Hp->Prop,(∃m,W 0 m σ H)/\∀i m σ H,W i m σ H ->
   ((Itl K a).stop i H/\D.nx σ H)\/((Itl K a).go i H/\∃N:St->Hp->Prop,(∀F H',N F H'->∃J,J < m/\W (i+1) J F H')/\∀x H',(Itl K a).yld i H x H'->g x σ H' fun j H2=>tb { D with nx:=N,ct:=N,bk:=D.nx} j H2):=by
 refine⟨fun i m σ H=>m=xs.length - i/\i<=xs.length/\Pv i σ H,⟨xs.length,by simp,yB _,h0⟩,?_⟩;rintro i m σ H ⟨rfl,hi,p⟩;have q:=hl i σ H hi p;by_cases G:i < xs.length
 ·refine .inr ⟨⟨xs,xs[i],q,by simp [G]⟩,Pv (i+1),fun F H' O=>⟨xs.length - (i+1),by omega,rfl,G,O⟩,fun x H' y=>?_⟩;obtain⟨e,y⟩:=y;subst e;exact hs i x σ _ (y xs q) p
 ·have e:i=xs.length:=by omega
  subst e;exact .inl ⟨⟨xs,q,dA _⟩,hd σ H p⟩
theorem Wl {K:PySem.W.Frag} {a:Addr} {xs:List V} {g:TG} {tb:TS} {D:Ends} {σ:St} {H:Hp} (Pv:Nat->St->Hp->Prop) (h0:Pv 0 σ H) (hl:∀i σ H,i<=xs.length->Pv i σ H->SqT K H a xs)
  (hs:∀i x σ H,xs[i]? = some x->Pv i σ H->g x σ H fun j H2=>tb { D with nx:=Pv (i+1),ct:=Pv (i+1),bk:=D.nx} j H2) (hd:∀σ H,Pv xs.length σ H->D.nx σ H) :
  ∃W:Nat->Nat->St->Hp->Prop,(∃m,W 0 m σ H)/\∀i m σ H,W i m σ H ->
   ((Itt K a).stop i H/\D.nx σ H)\/((Itt K a).go i H/\∃N:St->Hp->Prop,(∀F H',N F H'->∃J,J < m/\W (i+1) J F H')/\∀x H',(Itt K a).yld i H x H'->g x σ H' fun j H2=>tb { D with nx:=N,ct:=N,bk:=D.nx} j H2):=by
 refine⟨fun i m σ H=>m=xs.length - i/\i<=xs.length/\Pv i σ H,⟨xs.length,by simp,yB _,h0⟩,?_⟩;rintro i m σ H ⟨rfl,hi,p⟩;have q:=hl i σ H hi p;by_cases G:i < xs.length
 ·refine .inr ⟨⟨xs,xs[i],q,by simp [G]⟩,Pv (i+1),fun F H' O=>⟨xs.length - (i+1),by omega,rfl,G,O⟩,fun x H' y=>?_⟩;obtain⟨e,y⟩:=y;subst e;exact hs i x σ _ (y xs q) p
 ·have e:i=xs.length:=by omega
  subst e;exact .inl ⟨⟨xs,q,dA _⟩,hd σ H p⟩
theorem j5 {lo:Int} {n:Nat} {g:TG} {tb:TS} {D:Ends} {σ:St} {H:Hp} (Pv:Nat->St->Hp->Prop) (h0:Pv 0 σ H)
  (hs:∀i σ H,i < n->Pv i σ H->g (.int (lo+i)) σ H fun j H2=>tb { D with nx:=Pv (i+1),ct:=Pv (i+1),bk:=D.nx} j H2) (hd:∀σ H,Pv n σ H->D.nx σ H) :
  ∃W:Nat->Nat->St->Hp->Prop,(∃m,W 0 m σ H)/\∀i m σ H,W i m σ H ->
   ((Itr lo n).stop i H/\D.nx σ H)\/((Itr lo n).go i H/\∃N:St->Hp->Prop,(∀F H',N F H'->∃J,J < m/\W (i+1) J F H')/\∀x H',(Itr lo n).yld i H x H'->g x σ H' fun j H2=>tb { D with nx:=N,ct:=N,bk:=D.nx} j H2):=by
 refine⟨fun i m σ H=>m=n - i/\i<=n/\Pv i σ H,⟨n,by simp,yB _,h0⟩,?_⟩;rintro i m σ H ⟨rfl,hi,p⟩;by_cases G:i < n
 ·refine .inr ⟨G,Pv (i+1),fun F H' O=>⟨n - (i+1),by omega,rfl,G,O⟩,fun x H' y=>?_⟩;obtain⟨e,y⟩:=y;subst e y;exact hs i σ _ G p
 ·have e:i=n:=by omega
  subst e;exact .inl ⟨dA _,hd σ H p⟩
noncomputable abbrev R2:=V->V->Hp->VK->Prop
noncomputable def OpR (X:Cx) (f:Value->Value->Sem Value) (r:R2):Prop:=
 ∀(pins:List (Addr×Obj)) (s:Shared) (σ:St) (H:Hp) (x y:V) (v u:Value) (Q:VK),Inv X pins σ H s->RelV x v->RelV y u->r x y H Q ->
  wpAny (model X.prog X.w) X.A (f v u) (EP X pins σ Q) X.xe s
noncomputable def UnR (X:Cx) (f:Value->Sem Value) (r:V->Hp->VK->Prop):Prop:=
 ∀(pins:List (Addr×Obj)) (s:Shared) (σ:St) (H:Hp) (x:V) (v:Value) (Q:VK),Inv X pins σ H s->RelV x v->r x H Q ->
  wpAny (model X.prog X.w) X.A (f v) (EP X pins σ Q) X.xe s
noncomputable def Ag (X:Cx) (f:Value) (r:List V->Hp->VK->Prop):Prop:=
 ∀(pins:List (Addr×Obj)) (s:Shared) (σ:St) (H:Hp) (xs:List V) (us:List Value) (Q:VK),Inv X pins σ H s->Vals xs us->r xs H Q ->
  wpAny (model X.prog X.w) X.A (call f us) (EP X pins σ Q) X.xe s
noncomputable def tOp (r:R2) (ta tb:TE):TE:=fun σ H Q=>ta σ H fun x H1=>tb σ H1 fun y H2=>r x y H2 Q
noncomputable def tUn (r:V->Hp->VK->Prop) (ta:TE):TE:=fun σ H Q=>ta σ H fun x H1=>r x H1 Q
inductive rI (C:Int->Int->Prop) (g:Int->Int->V) (x:V) (y:V) (H:Hp) (Q:VK):Prop
 |mk (i j:_) (_:x=.int i) (_:y=.int j) (_:C i j) (_:Q (g i j) H)
inductive rI0 (g:Int->Int->V) (x:V) (y:V) (H:Hp) (Q:VK):Prop
 |mk (i j:_) (_:x=.int i) (_:y=.int j) (_:Q (g i j) H)
inductive rU (g:Int->V) (x:V) (H:Hp) (Q:VK):Prop
 |mk (i:_) (_:x=.int i) (_:Q (g i) H)
section
variable {X:Cx} {a b c:Expr} {ta tb tc:TE} {pos:Pos}
theorem zs8 (ha:PE X a ta) (hb:PE X b tb) {pins:List (Addr×Obj)} {s:Shared} {σ:St} {H:Hp} {R:V->V->Hp->Prop} (I:Inv X pins σ H s)
  (h:ta σ H fun x H1=>tb σ H1 fun y H2=>R x y H2) {Q:Value->Shared->Prop} {f:Value->Value->Sem Value}
  (hf:∀v u s2 x y H2,Inv X pins σ H2 s2->RelV x v->RelV y u->R x y H2->wpAny (model X.prog X.w) X.A (f v u) Q X.xe s2) :
  wpAny (model X.prog X.w) X.A (eval a X.env) (fun v j=>wpAny (model X.prog X.w) X.A (eval b X.env) (fun u D=>wpAny (model X.prog X.w) X.A (f v u) Q X.xe D) X.xe j) X.xe s:=by
 refine thn (ha pins s σ H _ I h) fun v s1 ⟨x,H1,F,G,q1⟩=>?_;refine thn (hb pins s1 σ H1 _ F q1) fun u s2 ⟨y,H2,J,O,q2⟩=>?_;exact hf v u s2 x y H2 J G O q2
theorem qx {op:Operator} {r:R2} (j:OpR X (binaryOp op) r) (ha:PE X a ta) (hb:PE X b tb):PE X (.BinOp a op b pos) (tOp r ta tb):=by intro pins s σ H Q I h;exact wpAny_BinOp (zs8 ha hb I h fun v u s2 x y H2 D F G q=>j pins s2 σ H2 x y v u Q D F G q)
theorem uo {op:UnaryOp} {r:V->Hp->VK->Prop} (j:UnR X (unaryOp op) r) (ha:PE X a ta):PE X (.UnaryOp op a pos) (tUn r ta):=by intro pins s σ H Q I h;exact UnaryOp_ (thn (ha pins s σ H _ I h) fun v s1 ⟨x,H1,D,F,q1⟩=>j pins s1 σ H1 x v Q D F q1)
theorem opI {f:Value->Value->Sem Value} {C:Int->Int->Prop} {g:Int->Int->Int}
  (rule:∀(i j:Int) (t u:Tok) (s:Shared) (Q:Value->Shared->Prop) (E:Value->Shared->Prop),C i j->Q (.int (g i j) s.toks) { s with toks:=s.toks+1}->wpAny (model X.prog X.w) X.A (f (.int i t) (.int j u)) Q E s) :
  OpR X f (rI C fun i j=>.int (g i j)):=by
 intro pins s σ H x y v u Q I D F h;obtain⟨i,j,rfl,rfl,G,q⟩:=h;obtain⟨t,rfl⟩:=D;obtain⟨t',rfl⟩:=F;exact rule i j t t' s _ _ G ⟨.int (g i j),H,I.tok _,⟨_,rfl⟩,q⟩
theorem zu9 {f:Value->Value->Sem Value} {g:Int->Int->Int}
  (rule:∀(i j:Int) (t u:Tok) (s:Shared) (Q:Value->Shared->Prop) (E:Value->Shared->Prop),Q (.int (g i j) s.toks) { s with toks:=s.toks+1}->wpAny (model X.prog X.w) X.A (f (.int i t) (.int j u)) Q E s) :
  OpR X f (rI0 fun i j=>.int (g i j)):=by
 intro pins s σ H x y v u Q I D F h;obtain⟨i,j,rfl,rfl,q⟩:=h;obtain⟨t,rfl⟩:=D;obtain⟨t',rfl⟩:=F;exact rule i j t t' s _ _ ⟨.int (g i j),H,I.tok _,⟨_,rfl⟩,q⟩
theorem zq5 {f:Value->Value->Sem Value} {g:Int->Int->Bool}
  (rule:∀(i j:Int) (t u:Tok) (s:Shared) (Q:Value->Shared->Prop) (E:Value->Shared->Prop),Q (.bool (g i j)) s->wpAny (model X.prog X.w) X.A (f (.int i t) (.int j u)) Q E s) :
  OpR X f (rI0 fun i j=>.bl (g i j)):=by
 intro pins s σ H x y v u Q I D F h;obtain⟨i,j,rfl,rfl,q⟩:=h;obtain⟨t,rfl⟩:=D;obtain⟨t',rfl⟩:=F;exact rule i j t t' s _ _ ⟨.bl (g i j),H,I,rfl,q⟩
noncomputable def zv9 (i j:Int):Prop:=0 < j/\j < 1073741824
noncomputable def CMul (i j:Int):Prop:=(-(2 ^ 64) < i/\i < 2 ^ 64)\/(-(2 ^ 64) < j/\j < 2 ^ 64)
theorem CMul.ok {i j:Int} (h:CMul i j):IntMulOk i j:=by
 rcases h with ⟨h1,h2⟩ |⟨h1,h2⟩
 ·exact .of_left (intBits_le_64 h1 h2)
 ·exact .of_right (intBits_le_64 h1 h2)
theorem zg:OpR X (binaryOp .Add) (rI0 fun i j=>.int (i+j)):=zu9 fun _ _ _ _ _ _ _ q=>add_int q
theorem uc:OpR X (binaryOp .Sub) (rI0 fun i j=>.int (i - j)):=zu9 fun _ _ _ _ _ _ _ q=>sub_int q
theorem wj:OpR X (binaryOp .Mult) (rI CMul fun i j=>.int (i * j)):=opI fun _ _ _ _ _ _ _ D q=>mul_int q D.ok
theorem qc8:OpR X (binaryOp .FloorDiv) (rI zv9 fun i j=>.int (i / j)):=opI fun i j _ _ _ _ _ D q=>by have h1:(0:Int) < j:=D.1;have h2:j < 1073741824:=D.2;exact floordiv_int (by omega) (by rw [Int.fdiv_eq_ediv_of_nonneg i (by omega)];exact q) (.inl (PyProof.noPylong_small (by omega)))
theorem ud:OpR X (binaryOp .Mod) (rI (fun _ j=>0 < j) fun i j=>.int (i % j)):=opI fun i j _ _ _ _ _ D q=>by have h1:(0:Int) < j:=D;exact mod_int' (by omega) (by rw [Int.fmod_eq_emod_of_nonneg i (by omega)];exact q)
theorem unI {f:Value->Sem Value} {g:Int->Int}
  (rule:∀(i:Int) (t:Tok) (s:Shared) (Q:Value->Shared->Prop) (E:Value->Shared->Prop),Q (.int (g i) s.toks) { s with toks:=s.toks+1}->wpAny (model X.prog X.w) X.A (f (.int i t)) Q E s) :
  UnR X f (rU fun i=>.int (g i)):=by
 intro pins s σ H x v Q I j h;obtain⟨i,rfl,q⟩:=h;obtain⟨t,rfl⟩:=j;exact rule i t s _ _ ⟨.int (g i),H,I.tok _,⟨_,rfl⟩,q⟩
theorem ym:UnR X (unaryOp .USub) (rU fun i=>.int (-i)):=unI fun _ _ _ _ _ q=>neg_int q
end
noncomputable def zu7:V->V->Bool
 | .non,.non=>true | .non,.int _=>true | .int _,.non=>true | .non,.bl _=>true | .bl _,.non=>true | .non,.str _=>true | .str _,.non=>true
 | .int _,.int _=>true | .bl _,.bl _=>true | .str _,.str _=>true | .byt _,.byt _=>true
 | .int _,.str _=>true | .str _,.int _=>true | .bl _,.str _=>true | .str _,.bl _=>true
 |_,_=>false
noncomputable def rEq:R2:=fun x y H Q=>zu7 x y=true/\Q (.bl (decide (x=y))) H
noncomputable def rNe:R2:=fun x y H Q=>zu7 x y=true/\Q (.bl (!decide (x=y))) H
theorem qj7 {i j:Int}:decide (V.int i=V.int j)=(i == j):=by rw [bI];simp
theorem qy5 {i j:Bool}:decide (V.bl i=V.bl j)=(i == j):=by rw [bI];simp
theorem qe1 {i j:Str}:decide (V.str i=V.str j)=(i == j):=by rw [bI];simp
theorem qk4 {i j:Array UInt8}:decide (V.byt i=V.byt j)=(i.toList == j.toList):=by rw [bI];cases i;cases j;simp
section
variable {X:Cx} {a b c:Expr} {ta tb tc:TE} {pos:Pos}
theorem jj {pins:List (Addr×Obj)} {σ:St} {H:Hp} {s:Shared} {Q:VK} {k j:Bool} (I:Inv X pins σ H s) (q:Q (.bl k) H) (e:k=j):EP X pins σ Q (.bool j) s:=by subst e;exact⟨.bl k,H,I,rfl,q⟩
theorem Bb:OpR X (compareOp .Eq) rEq:=by
 intro pins s σ H x y v u Q I F D h;obtain⟨hs,q⟩:=h;cases x with
 |non=>
  cases F;cases y with
  |non=>cases D;exact PySem.EqNone.eq_none_none (jj I q (by simp))
  |bl j=>cases D;exact PySem.EqNone.eq_none_bool (jj I q (by simp))
  |int j=>obtain⟨t',rfl⟩:=D;exact PySem.EqNone.eq_none_int (jj I q (by simp))
  |str j=>obtain⟨t',rfl⟩:=D;exact PySem.EqNone.eq_none_str (jj I q (by simp))
  |_=>exact absurd (show false=true from hs) bB
 |bl i=>
  cases F;cases y with
  |non=>cases D;exact PySem.EqNone.eq_bool_none (jj I q (by simp))
  |bl j=>cases D;exact eq_bool (jj I q qy5)
  |str j=>obtain⟨t',rfl⟩:=D;exact PySem.EqMixed.eq_bool_str (jj I q (by simp))
  |_=>exact absurd (show false=true from hs) bB
 |int i=>
  obtain⟨t,rfl⟩:=F;cases y with
  |non=>cases D;exact PySem.EqNone.eq_int_none (jj I q (by simp))
  |int j=>obtain⟨t',rfl⟩:=D;exact eq_int (jj I q qj7)
  |str j=>obtain⟨t',rfl⟩:=D;exact PySem.EqMixed.eq_int_str (jj I q (by simp))
  |_=>exact absurd (show false=true from hs) bB
 |str i=>
  obtain⟨t,rfl⟩:=F;cases y with
  |non=>cases D;exact PySem.EqNone.eq_str_none (jj I q (by simp))
  |bl j=>cases D;exact PySem.EqMixed.eq_str_bool (jj I q (by simp))
  |int j=>obtain⟨t',rfl⟩:=D;exact PySem.EqMixed.eq_str_int (jj I q (by simp))
  |str j=>obtain⟨t',rfl⟩:=D;exact eq_str (jj I q qe1)
  |_=>exact absurd (show false=true from hs) bB
 |byt i=>
  obtain⟨t,rfl⟩:=F;cases y with
  |byt j=>obtain⟨t',rfl⟩:=D;exact PySem.W.eq_bytes (jj I q qk4)
  |_=>exact absurd (show false=true from hs) bB
 |_=>cases y<;>exact absurd (show false=true from hs) bB
theorem qc1:OpR X (compareOp .NotEq) rNe:=by
 intro pins s σ H x y v u Q I F D h;obtain⟨hs,q⟩:=h;cases x with
 |non=>
  cases F;cases y with
  |non=>cases D;exact PySem.EqNone.ne_none_none (jj I q (by simp))
  |bl j=>cases D;exact PySem.EqNone.ne_none_bool (jj I q (by simp))
  |int j=>obtain⟨t',rfl⟩:=D;exact PySem.EqNone.ne_none_int (jj I q (by simp))
  |str j=>obtain⟨t',rfl⟩:=D;exact PySem.EqNone.ne_none_str (jj I q (by simp))
  |_=>exact absurd (show false=true from hs) bB
 |bl i=>
  cases F;cases y with
  |non=>cases D;exact PySem.EqNone.ne_bool_none (jj I q (by simp))
  |bl j=>cases D;exact ne_bool (jj I q (vD not qy5))
  |str j=>obtain⟨t',rfl⟩:=D;exact PySem.EqMixed.ne_bool_str (jj I q (by simp))
  |_=>exact absurd (show false=true from hs) bB
 |int i=>
  obtain⟨t,rfl⟩:=F;cases y with
  |non=>cases D;exact PySem.EqNone.ne_int_none (jj I q (by simp))
  |int j=>obtain⟨t',rfl⟩:=D;exact ne_int (jj I q (vD not qj7))
  |str j=>obtain⟨t',rfl⟩:=D;exact PySem.EqMixed.ne_int_str (jj I q (by simp))
  |_=>exact absurd (show false=true from hs) bB
 |str i=>
  obtain⟨t,rfl⟩:=F;cases y with
  |non=>cases D;exact PySem.EqNone.ne_str_none (jj I q (by simp))
  |bl j=>cases D;exact PySem.EqMixed.ne_str_bool (jj I q (by simp))
  |int j=>obtain⟨t',rfl⟩:=D;exact PySem.EqMixed.ne_str_int (jj I q (by simp))
  |str j=>obtain⟨t',rfl⟩:=D;exact ne_str (jj I q (vD not qe1))
  |_=>exact absurd (show false=true from hs) bB
 |byt i=>
  obtain⟨t,rfl⟩:=F;cases y with
  |byt j=>obtain⟨t',rfl⟩:=D;exact PySem.W.ne_bytes (jj I q (vD not qk4))
  |_=>exact absurd (show false=true from hs) bB
 |_=>cases y<;>exact absurd (show false=true from hs) bB
theorem Qj:OpR X (compareOp .Lt) (rI0 fun i j=>.bl (decide (i < j))):=zq5 fun _ _ _ _ _ _ _ q=>lt_int q
theorem J6:OpR X (compareOp .LtE) (rI0 fun i j=>.bl (decide (i<=j))):=zq5 fun _ _ _ _ _ _ _ q=>le_int q
theorem J8:OpR X (compareOp .Gt) (rI0 fun i j=>.bl (decide (j < i))):=zq5 fun _ _ _ _ _ _ _ q=>gt_int q
theorem zo8:OpR X (compareOp .GtE) (rI0 fun i j=>.bl (decide (j<=i))):=zq5 fun _ _ _ _ _ _ _ q=>ge_int q
theorem qd1:OpR X (compareOp .In) (fun x y H Q=>∃i j,x=.str i/\y=.str j/\Q (.bl (!(Builtin.Str.occurrences j i 0 j.length 1).isEmpty)) H):=by intro pins s σ H x y v u Q I D F h;obtain⟨i,j,rfl,rfl,q⟩:=h;obtain⟨t,rfl⟩:=D;obtain⟨t',rfl⟩:=F;exact in_str (jj I q rfl)
theorem Tp:OpR X (compareOp .NotIn) (fun x y H Q=>∃i j,x=.str i/\y=.str j/\Q (.bl (!(!(Builtin.Str.occurrences j i 0 j.length 1).isEmpty))) H):=by intro pins s σ H x y v u Q I D F h;obtain⟨i,j,rfl,rfl,q⟩:=h;obtain⟨t,rfl⟩:=D;obtain⟨t',rfl⟩:=F;exact notIn_str (jj I q rfl)
theorem zr (b:Expr) {op:CmpOp} (h:op≠.In:=by decide) (h2:op≠.NotIn:=by decide):behindInMarks op b=false:=by
 have e1:(op == CmpOp.In)=false:=by cases op<;>first |rfl |exact absurd rfl h
 have e2:(op == CmpOp.NotIn)=false:=by cases op<;>first |rfl |exact absurd rfl h2
 cases b<;>simp [behindInMarks,e1,e2]
theorem xf {op:CmpOp} {r:R2} (j:OpR X (compareOp op) r) (ha:PE X a ta) (hb:PE X b tb) (hm:behindInMarks op b=false):PE X (.Compare a [op] [b] pos) (tOp r ta tb):=by intro pins s σ H Q I h;exact wpAny_Compare1 (zs8 ha hb I h fun v u s2 x y H2 D F G q=>j pins s2 σ H2 x y v u Q D F G q) hm
inductive tTestI (Q:Bool->Hp->Prop) (x:V) (H':Hp):Prop
 |mk (k:_) (_:x=.bl k) (_:Q k H')
noncomputable def zl9 (t:TE):TT:=fun σ H Q=>t σ H fun x H'=>tTestI Q x H'
theorem zp {op:CmpOp} {r:R2} (j:OpR X (compareOp op) r) (ha:PE X a ta) (hb:PE X b tb) (hm:behindInMarks op b=false):PT X (.Compare a [op] [b] pos) (zl9 (tOp r ta tb)):=by
 intro pins s σ H Q I h;refine wpAny_isTrue_Compare1 (thn (ha pins s σ H _ I h) fun v s1 ⟨x,H1,D,F,q1⟩=>thn (hb pins s1 σ H1 _ D q1) fun u s2 ⟨y,H2,G,J,q2⟩=>
  thn (j pins s2 σ H2 x y v u _ G F J q2) fun c s3 ⟨z,H3,O,S,k,e,q3⟩=>?_) hm
 subst e;cases S;exact zD ⟨H3,O,q3⟩
noncomputable def za3 (r r':R2) (ta tb tc:TE):TE:=fun σ H Q=>ta σ H fun x H1=>tb σ H1 fun y H2=>r x y H2 fun z H3=>∃k,z=.bl k /\
 (if k=true then tc σ H3 fun j H4=>r' y j H4 Q else Q (.bl false) H3)
theorem Qi {op j:CmpOp} {r r':R2} (J:OpR X (compareOp op) r) (D:OpR X (compareOp j) r') (ha:PE X a ta) (hb:PE X b tb) (O:PE X c tc)
  (hm:lastMarks [op,j] [b,c]=false:=by with_unfolding_all rfl):PE X (.Compare a [op,j] [b,c] pos) (za3 r r' ta tb tc):=by
 intro pins s σ H Q I h;refine Compare_chain (thn (ha pins s σ H _ I h) fun v s1 ⟨x,H1,S,U,q1⟩=>chain_link (thn (hb pins s1 σ H1 _ S q1) fun u s2 ⟨y,H2,Y,F,q2⟩=>
  thn (J pins s2 σ H2 x y v u _ Y U F q2) fun d s3 ⟨z,H3,G,Z,k,e,q3⟩=>?_)) hm
 subst e;cases Z;refine zD ?_;cases k with
 |false=>exact ite_ff ⟨.bl false,H3,G,rfl,q3⟩
 |true=>exact ite_tt (chain_last (thn (O pins s3 σ H3 _ G q3) fun w' s4 ⟨z',H4,I4,r4,q4⟩=>D pins s4 σ H4 y z' u w' Q I4 F r4 q4))
theorem Xz {op j:CmpOp} {r r':R2} (J:OpR X (compareOp op) r) (D:OpR X (compareOp j) r') (ha:PE X a ta) (hb:PE X b tb) (O:PE X c tc)
  (hm:lastMarks [op,j] [b,c]=false:=by with_unfolding_all rfl):PT X (.Compare a [op,j] [b,c] pos) (zl9 (za3 r r' ta tb tc)):=by
 intro pins s σ H Q I h;refine isTrue_chain (thn (ha pins s σ H _ I h) fun v s1 ⟨x,H1,S,U,q1⟩=>test_link (thn (hb pins s1 σ H1 _ S q1) fun u s2 ⟨y,H2,Y,F,q2⟩=>
  thn (J pins s2 σ H2 x y v u _ Y U F q2) fun d s3 ⟨z,H3,G,Z,k,e,q3⟩=>?_)) hm
 subst e;cases Z;refine zD ?_;cases k with
 |false=>obtain⟨k',e',q'⟩:=q3;cases e';exact ite_ff ⟨H3,G,q'⟩
 |true=>refine ite_tt (test_last (thn (O pins s3 σ H3 _ G q3) fun w' s4 ⟨z',H4,I4,r4,q4⟩=>thn (D pins s4 σ H4 y z' u w' _ I4 F r4 q4) fun d' s5 ⟨z2,H5,I5,r5,k2,e2,q5⟩=>?_));subst e2;cases r5;exact zD ⟨H5,I5,q5⟩
theorem M7:(sizeLine:Nat) < 2 ^ 63:=by rw [qE];decide
theorem zu:OpR X (binaryOp .Add) (fun x y H Q=>∃i j,x=.str i/\y=.str j/\i.length+j.length<=sizeLine/\Q (.str (i++j)) H):=by intro pins s σ H x y v u Q I D F h;obtain⟨i,j,rfl,rfl,G,q⟩:=h;obtain⟨t,rfl⟩:=D;obtain⟨t',rfl⟩:=F;exact add_str (fun t' tk=>⟨.str (i++j),H,I.tok _,⟨_,rfl⟩,q⟩) G
theorem vals1 {x:V} {us:List Value} (r:Vals [x] us):∃u,us=[u]/\RelV x u:=by
 cases r with
 |cons j D=>cases D;exact⟨_,rfl,j⟩
theorem vals2 {x y:V} {us:List Value} (r:Vals [x,y] us):∃u j,us=[u,j]/\RelV x u/\RelV y j:=by
 cases r with
 |cons D F=>
  cases F with
  |cons G J=>cases J;exact⟨_,_,rfl,D,G⟩
end
structure ObjM (h:Heap) (x dx C:Addr) (mA:Str->Option Value):Prop where
  obj:h.get? x=some (PySem.W.instObj C dx)
  ns:h.Ns1 dx mA
  ne:dx≠x
theorem qi3 {h:Heap} {dx:Addr} {mA:Str->Option Value} (n:h.Ns1 dx mA):∃od,h.get? dx=some od/\∀name,PySem.W.lookIn name od=some (mA name):=by
 obtain⟨o,es,ep,D,hd,hk,_,hm⟩:=n;refine⟨o,D,fun name=>?_⟩;have e:=hm name;unfold nsFind findBy at e;rw [←Array.find?_toList] at e;unfold PySem.W.lookIn;rw [hd];dsimp only;split
 ·rename_i y q;rw [q] at e;exact vD some e
 ·rename_i q;rw [q] at e;have a:es.toList.any (·.refKey)=false:=by
   rw [List.any_eq_false];intro y F;obtain⟨z,t,j⟩:=hk y (Array.mem_toList_iff.mp F);simp [DictEntry.refKey,j]
  have G:¬es.toList.any (·.refKey)=true:=by rw [a];exact bB
  rw [oA G];exact vD some e
theorem ObjM.look {h:Heap} {x dx C:Addr} {mA:Str->Option Value} (I:ObjM h x dx C mA):∃od,PySem.W.InstAt h x (PySem.W.instObj C dx) C (some od)/\∀name,PySem.W.lookIn name od=some (mA name):=
 let ⟨od,j,hl⟩:=qi3 I.ns
 ⟨od,⟨I.obj,rfl,rfl,j⟩,hl⟩
section
variable {prog:Program} {w:World} {A:Around} {E:Value->Shared->Prop} {s:Shared} {K:PySem.W.Frag} {x dx C f:Addr} {mA:Str->Option Value} {name:Str} {v:Value}
end
section
variable {P:Program} {w:World} {H H':Hp} {h h':Heap} {a C dx:Addr} {fs fs':List (Str×V)}
theorem zh7 (hok:HOk P w H h) (e:H a=some (.ins C dx fs)):∃mA,ObjM h a dx C mA/\(∀f,RelO (fs.lookup f) (mA f))/\PySem.Within mA (fs.map (·.1))/\fs.length<=1000/\H dx=some (.own a):=by
 obtain⟨d,z,ne,j,mA,n,r,q⟩:=(show ObjOk P w H h a (.ins C dx fs) from hok a _ e)
 exact⟨mA,⟨j,n,ne⟩,r,q,z,d⟩
end
structure Cls (K:PySem.W.Frag) (C:Addr):Prop where
  pg:PySem.W.plainGet K C Str.empty=true
  hd:PySem.W.hasDictIn K C=true
  po:PySem.W.plainOver K C=true
  sa:PySem.W.findIn K (.ref C) "__setattr__" = some (some (.builtin "object.__setattr__"))
theorem Cls.get {K:PySem.W.Frag} {C:Addr} (c:Cls K C) (f:Str):PySem.W.plainGet K C f=true:=c.pg
noncomputable def qk3 (K:PySem.W.Frag) (C:Addr) (f:Str):Prop:=PySem.W.findIn K (.ref C) f=some none
section
variable {X:Cx} {pins:List (Addr×Obj)} {σ:St} {H:Hp} {s:Shared} {a C dx:Addr} {fs:List (Str×V)} {f:Str} {v:V} {A:Around} {E:Value->Shared->Prop}
end
section
variable {X:Cx} {o e value:Expr} {f:Str} {pos pos' tpos:Pos} {ta tv:TE}
end
section
variable {X:Cx} {pins:List (Addr×Obj)} {σ:St} {H:Hp} {s:Shared} {A:Around} {E:Value->Shared->Prop} {Q:Value->Shared->Prop} {c:Value} {b:Bool}
inductive TyOf (K:PySem.W.Frag) (H:Hp):V->Value->Prop where
  |non:TyOf K H .non (.type "NoneType")
  |bl (x:Bool):TyOf K H (.bl x) (.type "bool")
  |int (i:Int):TyOf K H (.int i) (.type "int")
  |str (x:Str):TyOf K H (.str x) (.type "str")
  |flt (x:UInt64):TyOf K H (.flt x) (.type "float")
  |lst {a:Addr} {xs:List V} (e:H a=some (.lst xs)):TyOf K H (.ref a) (.type "list")
  |frz {a:Addr} {o:Obj} {xs:List V} (e:H a=some (.frz o (.lst xs))):TyOf K H (.ref a) (.type "list")
  |tup {a:Addr} {xs:List V} (e:H a=some (.tup xs)):TyOf K H (.ref a) (.type "tuple")
  |dK {a:Addr} {kvs:List (Key×V)} (e:H a=some (.dK kvs)):TyOf K H (.ref a) (.type "dict")
  |dT {a:Addr} {kvs:List (List Key×V)} (e:H a=some (.dT kvs)):TyOf K H (.ref a) (.type "dict")
  |ins {a C dx:Addr} {fs:List (Str×V)} (e:H a=some (.ins C dx fs)) (cl:Cls K C) (ha:PySem.W.findIn K (.ref C) "__class__" = some (some (.builtin "object.__class__")))
      (hn:PySem.W.specialIn K (.builtin "object.__class__") "__get__" = some (some (.builtin "getset_descriptor.__get__"))) (htk:PySem.W.takesIn K (.builtin "object.__class__")=some true)
      (hm:PySem.W.mroIn K C (.type "object")=some true):TyOf K H (.ref a) (.ref C)
theorem qb5 {x:V} {u t:Value} (I:Inv X pins σ H s) (j:RelV x u) (ty:TyOf X.K H x t) (e:PySem.W.kitOne X.K t c=some b) (h:∀tk,Q (.bool b) { s with toks:=tk}) :
  wpAny (model X.prog X.w) A (call (.builtin "isinstance") [u,c]) Q E s:=by
 cases ty with
 |non=>cases (show u=Value.none from j);exact mE PySem.W.kitx_none I.kIn True.intro e (fun z=>nomatch z) h
 |bl y=>cases (show u=Value.bool y from j);exact mE PySem.W.kitx_bool I.kIn True.intro e (fun z=>nomatch z) h
 |int i=>obtain⟨t,q⟩:=(show ∃t,u=Value.int i t from j);cases q;exact mE PySem.W.kitx_int I.kIn True.intro e (fun z=>nomatch z) h
 |str y=>obtain⟨t,q⟩:=(show ∃t,u=Value.str y t from j);cases q;exact mE PySem.W.kitx_str I.kIn True.intro e (fun z=>nomatch z) h
 |flt y=>obtain⟨t,q⟩:=(show ∃t,u=Value.float y t from j);cases q;exact mE PySem.W.kitx_float I.kIn True.intro e (fun z=>nomatch z) h
 | @lst a xs ea=>
  cases (show u=Value.ref a from j);obtain⟨_,_,n,_,h1⟩:=(show ObjOk X.prog X.w H s.heap a (.lst xs) from I.hok a _ ea)
  exact mE PySem.W.kitx_list I.kIn ⟨_,h1,rfl⟩ e (fun z=>nomatch z) h
 | @frz a D xs ea=>
  cases (show u=Value.ref a from j);obtain⟨_,_,_,n,_,h1⟩:=(show ObjOk X.prog X.w H s.heap a (.frz D (.lst xs)) from I.hok a _ ea)
  exact mE PySem.W.kitx_list I.kIn ⟨_,h1,rfl⟩ e (fun z=>nomatch z) h
 | @tup a xs ea=>
  cases (show u=Value.ref a from j);obtain⟨_,_,_,p⟩:=(show ObjOk X.prog X.w H s.heap a (.tup xs) from I.hok a _ ea)
  obtain⟨o,h1,h2,_⟩:=p;exact mE PySem.W.kitx_tuple I.kIn ⟨o,h1,h2⟩ e (fun z=>nomatch z) h
 | @dK a kvs ea=>
  cases (show u=Value.ref a from j);obtain⟨_,_,vs,_,p⟩:=(show ObjOk X.prog X.w H s.heap a (.dK kvs) from I.hok a _ ea)
  obtain⟨o,es,ep,h1,h2,_⟩:=p;exact mE PySem.W.kitx_dict I.kIn ⟨o,h1,h2.1⟩ e (fun z=>nomatch z) h
 | @dT a kvs ea=>
  cases (show u=Value.ref a from j);obtain⟨_,_,xs,_,o,es,ep,h1,h2,_⟩:=(show ObjOk X.prog X.w H s.heap a (.dT kvs) from I.hok a _ ea)
  exact mE PySem.W.kitx_dict I.kIn ⟨o,h1,h2.1⟩ e (fun z=>nomatch z) h
 | @ins a C dx fs ea cl ha hn htk hm=>cases (show u=Value.ref a from j);obtain⟨mA,O,_⟩:=zh7 I.hok ea;obtain⟨od,J,_⟩:=O.look;exact mE (PySem.W.kitx_own (cl.get _) cl.hd ha hn htk hm) I.kIn J e (fun z=>nomatch z) h
end
structure Room (k:Nat) (A:Around):Prop where
  hd:A.handled=none
  dp:A.depth+3 * k+5 < recursionLimit
  un:A.units+16 * k+200 < cLine
theorem Room.mono {j k:Nat} {A:Around} (r:Room k A) (h:j<=k):Room j A:=⟨r.hd,by have:=r.dp;omega,by have:=r.un;omega⟩
theorem Room.deeper {k:Nat} {A:Around} (r:Room (k+1) A) (env:Env):Room k (A.deeper env):=
 ⟨r.hd,by have:=r.dp;show A.depth+1+3 * k+5 < _;omega,by have:=r.un;show A.units+3+16 * k+200 < _;omega⟩
theorem Zm {A:Around} {C:Addr} {us:List Value} {kw:List (Str×Value)}:(A.under (.builtin "type.__call__" ⟨.ref C::us,kw⟩)).depth=A.depth+1:=by
 first |rfl |simp [Around.under,Code.weight,Code.isCreation,Code.isGuard,Code.isCaller,Code.frames,Code.isFrame,guardIds]
theorem qa6 {A:Around} {C:Addr} {us:List Value} {kw:List (Str×Value)}:(A.under (.builtin "type.__call__" ⟨.ref C::us,kw⟩)).units=A.units+1:=by
 first |rfl |simp [Around.under,Code.cUnits,Code.frames,Code.isFrame]
theorem Room.make {k:Nat} {A:Around} (r:Room (k+1) A) (C:Addr) (us:List Value) (kw:List (Str×Value)):Room k (A.under (.builtin "type.__call__" ⟨.ref C::us,kw⟩)):=
 ⟨r.hd,by have:=r.dp;rw [Zm];omega,by have:=r.un;rw [qa6];omega⟩
theorem Room.depth {k:Nat} {A:Around} (r:Room k A):A.depth < recursionLimit:=by have:=r.dp;omega
theorem Room.units {k:Nat} {A:Around} (r:Room k A):A.units+64 < cLine:=by have:=r.un;omega
noncomputable def qr0:TA:=fun _ H Q=>Q [] H
noncomputable def Zz (ta:TE) (tr:TA):TA:=fun σ H Q=>ta σ H fun x H1=>tr σ H1 fun xs H2=>Q (x::xs) H2
section
variable {X:Cx} {e:Expr} {es:List Expr} {te:TE} {t:TA} {pos:Pos}
theorem qi:PA X [] qr0:=fun _ _ _ _ H Q I h=>Calls.spliced_nil ⟨[],H,I,.nil,h⟩
theorem qb (ha:PE X e te) (j:PA X es t) (hs:starEach (e::es) X.env=(false,eval e X.env)::starEach es X.env:=by rfl):PA X (e::es) (Zz te t):=by intro pos pins s σ H Q I h;rw [hs];show wpAny _ _ (spliced ((false,eval e X.env)::backTo pos (starEach es X.env))) _ _ s;refine vG (thn (ha pins s σ H _ I h) fun u s1 ⟨x,H1,D,F,q1⟩=>?_);exact thn (j pos pins s1 σ H1 _ D q1) fun us s2 ⟨xs,H2,G,J,q2⟩=>⟨x::xs,H2,G,.cons F J,q2⟩
noncomputable def zv4 (t:TA):TE:=fun σ H Q=>t σ H fun xs H1=>xs.length<=sizeLine/\∀p,H1 p=none->Q (.ref p) (upd H1 p (.tup xs))
noncomputable def zs0 (t:TA):TE:=fun σ H Q=>t σ H fun xs H1=>xs.length<=sizeLine/\∀p,H1 p=none->Q (.ref p) (upd H1 p (.lst xs))
theorem yu {x1} (h:PA X es t):PE X (.Tuple es x1 pos) (zv4 t):=by intro pins s σ H Q I D;refine wpAny_Tuple_spliced (thn (h pos pins s σ H _ I D) fun us s1 ⟨xs,H1,j,r,z,q⟩=>⟨by rw [←r.length];exact z,?_⟩);have hf:H1 s1.heap.objs.size=none:=j.hok.fresh (dA _);refine⟨.ref s1.heap.objs.size,upd H1 s1.heap.objs.size (.tup xs),j.laid (t':=s1.toks) (fun b u e=>iA _ e) (dA _) ?_,rfl,q _ hf⟩;exact⟨z,us,r,⟨_,zB _ rfl,rfl,_,rfl⟩⟩
theorem vf (h:PA X es t):PE X (.List es pos) (zs0 t):=by intro pins s σ H Q I D;refine wpAny_List_spliced (thn (h pos pins s σ H _ I D) fun us s1 ⟨xs,H1,j,r,z,q⟩=>⟨by rw [←r.length];exact z,?_⟩);have hf:H1 s1.heap.objs.size=none:=j.hok.fresh (dA _);refine⟨.ref s1.heap.objs.size,upd H1 s1.heap.objs.size (.lst xs),j.laid (t':=s1.toks) (fun b u e=>iA _ e) (dA _) ?_,rfl,q _ hf⟩;exact⟨z,us,0,r,zB _ rfl⟩
end
noncomputable abbrev Sp:=List V->Hp->VK->XK->Prop
noncomputable abbrev CXT:=List Env->Hp->Shared->XK->Value->Shared->Prop
structure Env0 (P:Program) (w:World) (K:PySem.W.Frag) (mg:Str->Option Value) (base:Heap) (A:Around) (outer:List Env) (s:Shared) (H:Hp):Prop where
  frames:A.frames=some outer
  mod:Mod K mg base
  bs:∀b o,base.get? b=some o->s.heap.get? b=some o/\H b=none
  bsz:base.objs.size<=s.heap.objs.size
  funs:s.heap.FunFrames base outer
  frf:∀b∈frs outer,H b=none
  hok:HOk P w H s.heap
  bare:AllBare s.gens
inductive CE (outer:List Env) (P:Program) (w:World) (H:Hp) (s:Shared) (Q:VK) (u:Value) (s':Shared):Prop
 |mk (v H':_) (_:s'.os=s.os) (_:AllBare s'.gens) (_:Un (frs outer) [] H H' s.heap s'.heap) (_:HOk P w H' s'.heap) (_:RelV v u) (_:Q v H')
noncomputable def CR (CX:CXT) (outer:List Env) (P:Program) (w:World) (H:Hp) (s:Shared) (Q:VK) (E:XK) (r:Result) (s':Shared):Prop:=
 match r with
 | .ok (.ret u)=>CE outer P w H s Q u s'
 | .ok _=>False
 | .error e=>CX outer H s E e s'
structure FnOk (P:Program) (w:World) (K:PySem.W.Frag) (mg:Str->Option Value) (base:Heap) (CX:CXT) (k:Nat) (f:Addr) (fd:FuncData) (ps:List Str) (sp:Sp):Prop where
  len:∀vs H Q E,sp vs H Q E->vs.length=ps.length
  run:∀(A:Around) (outer:List Env) (s:Shared) (H:Hp) (args:Args) (us:List Value) (vs:List V) (Q:VK) (E:XK),Room k A->Env0 P w K mg base A outer s H->BindsTo s fd args (ps.zip us)->Vals vs us->sp vs H Q E ->
    codeAny (model P w) A (.call (.ref f) args) (CR CX outer P w H s Q E) s
theorem Env0.make {P:Program} {w:World} {K:PySem.W.Frag} {mg:Str->Option Value} {base:Heap} {A:Around} {outer:List Env} {s:Shared} {H:Hp} (e:Env0 P w K mg base A outer s H) (C:Addr) (us:List Value) (kw:List (Str×Value)) :
  Env0 P w K mg base (A.under (.builtin "type.__call__" ⟨.ref C::us,kw⟩)) outer s H:=⟨by first |exact e.frames |(simpa [Around.under,Code.envs,Code.isFrame,pushEnvs] using e.frames),e.mod,e.bs,e.bsz,e.funs,e.frf,e.hok,e.bare⟩
section
variable {X:Cx} {pins:List (Addr×Obj)} {σ:St} {H:Hp} {s s':Shared}
theorem Inv.env0 (I:Inv X pins σ H s):Env0 X.prog X.w X.K X.mg X.base X.A X.stack s H:=
 ⟨I.ok.frames,I.ok.mod,I.bs,aD I.ok.bsz I.sz,I.stack,I.stkFree,I.hok,I.bare⟩
theorem Inv.after {Q:VK} {u:Value} (I:Inv X pins σ H s) (h:CE X.stack X.prog X.w H s Q u s'):EP X pins σ Q u s':=by obtain⟨v,H',os,bare,un,hok,r,q⟩:=h;obtain⟨D,g,d,t,j⟩:=s';obtain rfl:j=s.os:=os;exact⟨v,H',I.call (h':=D) (g':=g) (d':=d) (t':=t) (ch:=[]) un hok bare (fun b z=>absurd z (by simp)),r,q⟩
end
noncomputable def zh1 (sp:Sp) (dvs:List V) (E:XK) (t:TA):TE:=fun σ H Q=>t σ H fun vs H1=>sp (vs++dvs) H1 Q E
noncomputable def Binds (K:PySem.W.Frag) (fd:FuncData) (ps:List Str) (ds:List Value):Prop:=
 ∀(s:Shared) (us:List Value),K.In s.heap->(us++ds).length=ps.length->BindsTo s fd ⟨us,[]⟩ (ps.zip (us++ds))
theorem Binds.all {K:PySem.W.Frag} {fd:FuncData} {ps:List Str} (h:∀us:List Value,us.length=ps.length->bindArgs fd ⟨us,[]⟩=pure (ps.zip us)):Binds K fd ps []:=fun s us _ hl=>by rw [xC] at hl ⊢;exact .of_eq (h us hl)
noncomputable def Ys (CX:CXT) (X:Cx) (E:XK):Prop:=∀(pins:List (Addr×Obj)) (σ:St) (H:Hp) (s:Shared) (e:Value) (s':Shared),Inv X pins σ H s->CX X.stack H s E e s'->X.xe e s'
section
variable {X:Cx} {CX:CXT} {k:Nat} {f C:Addr} {fd:FuncData} {ps:List Str} {sp:Sp} {dvs:List V} {ds:List Value} {E:XK} {x m:Str} {p pos apos:Pos} {e o:Expr} {es:List Expr} {ta:TE} {t:TA}
theorem zj6 {pins:List (Addr×Obj)} {σ:St} {H:Hp} {s:Shared} {Q:VK} {us:List Value} {vs:List V} (F:FnOk X.prog X.w X.K X.mg X.base CX k f fd ps sp) (G:Room k X.A) (hb:Binds X.K fd ps ds) (hd:Vals dvs ds) (hx:Ys CX X E)
  (I:Inv X pins σ H s) (r:Vals vs us) (h:sp (vs++dvs) H Q E):wpAny (model X.prog X.w) X.A (call (.ref f) us) (EP X pins σ Q) X.xe s:=by
 have D:Vals (vs++dvs) (us++ds):=r.append hd;have hl:(us++ds).length=ps.length:=by rw [←D.length];exact F.len _ _ _ _ h
 refine wpAny_call (codeAny_mono (F.run X.A X.stack s H ⟨us,[]⟩ (us++ds) (vs++dvs) Q E G I.env0 (hb s us I.kIn hl) D h) fun r s' j=>?_);cases r with
 |error e=>exact hx pins σ H s e s' I j
 |ok J=>
  cases J with
  |ret u=>exact I.after j
  |next=>exact False.elim j
  |brk=>exact False.elim j
  |cont=>exact False.elim j
theorem ql7 (F:FnOk X.prog X.w X.K X.mg X.base CX k f fd ps sp) (G:Room k X.A) (J:Gl X x) (hm:X.mg x=some (.ref f)) (hk:PySem.W.keepIn X.K (.ref f)=true) (hb:Binds X.K fd ps ds) (hd:Vals dvs ds) (hx:Ys CX X E)
  (ha:PA X (e::es) t) (j:(x == ("__debug__" : Str))=false:=by decide) (he:starEach (e::es) X.env=(false,eval e X.env)::starEach es X.env:=by rfl) (hpl:(backTo pos (starEach es X.env)).any (·.1)=false:=by rfl) :
  PE X (.Call (.Name x p) (e::es) [] pos) (zh1 sp dvs E t):=by
 intro pins s σ H Q I h;refine wG (um I J hm ?_ j);refine PySem.W.callWith_K (h₀:=X.base) I.ok.mod.kin hk (thn (ha pos pins s σ H _ I h) fun us s1 ⟨vs,H1,D,r,q⟩=>⟨D.kIn,?_⟩) he hpl;exact zj6 F G hb hd hx D r q
end
section
variable {X:Cx} {CX:CXT} {k:Nat} {f C:Addr} {fd:FuncData} {ps ks:List Str} {sp:Sp} {E:XK} {x m:Str} {p pos apos kpos:Pos} {e o:Expr} {es:List Expr} {kws:List Keyword} {te ta:TE} {t tk:TA} {nm:Option Str}
variable {g:List Value->List Value->List Value} {gV:List V->List V->List V}
end
structure FnScope (N P:List Str) (sc:Scope):Prop where
  kind:sc.kind=.function
  co:sc.isCoroutine=false
  gen:sc.isGenerator=false
  nd:N.Nodup
  pre:N.take P.length=P
  par:∀x∈P,sc.names.lookup x=some .local\/sc.names.lookup x=some .cell
  nofree:∀y∈sc.names,y.2≠.free
theorem T5 {kindOf:Str->Option NameKind} {x:Str}:∀{binds:List (Str×Value)} {m:Str->Option Value},(∀v,(x,v)∉binds)->bindL kindOf binds m x=m x
 | [],_,_=>rfl
 |(n,v)::r,m,h=>by
  unfold bindL;rw [T5 fun w hw=>h w (vA _ hw)];split
  ·have:x≠n:=by rintro rfl;exact h v uA
   simp [this]
  ·rfl
theorem Td {kindOf:Str->Option NameKind} {x:Str}:∀{binds:List (Str×Value)} {m:Str->Option Value},(∀v,(x,v)∉binds)->bindC kindOf binds m x=m x
 | [],_,_=>rfl
 |(n,v)::r,m,h=>by
  unfold bindC;rw [Td fun w hw=>h w (vA _ hw)];split
  ·rfl
  ·have:x≠n:=by rintro rfl;exact h v uA
   simp [this]
theorem Qn {kindOf:Str->Option NameKind} {x:Str} {v:Value}:∀{P:List Str} {vs:List Value} {i:Nat} {m:Str->Option Value},P.Nodup->P[i]? = some x->vs[i]? = some v->kindOf x=some .local ->
  bindL kindOf (P.zip vs) m x=some v
 | [],_,_,_,_,h,_,_=>by simp at h
 |_::_,[],_,_,_,_,h,_=>by simp at h
 |p::P,w::vs,0,m,nd,h1,h2,hk=>by simp at h1 h2;subst h1;subst h2;show bindL kindOf ((p,w)::P.zip vs) m p=_;unfold bindL;rw [T5 fun v j=>(kH.mp nd).1 (List.of_mem_zip j).1,kA hk];simp
 |p::P,w::vs,i+1,m,nd,h1,h2,hk=>by show bindL kindOf ((p,w)::P.zip vs) m x=_;unfold bindL;exact Qn (i:=i) (kH.mp nd).2 (by simpa using h1) (by simpa using h2) hk
theorem Qw {kindOf:Str->Option NameKind} {x:Str} {v:Value}:∀{P:List Str} {vs:List Value} {i:Nat} {m:Str->Option Value},P.Nodup->P[i]? = some x->vs[i]? = some v->kindOf x≠some .local ->
  bindC kindOf (P.zip vs) m x=some v
 | [],_,_,_,_,h,_,_=>by simp at h
 |_::_,[],_,_,_,_,h,_=>by simp at h
 |p::P,w::vs,0,m,nd,h1,h2,hk=>by simp at h1 h2;subst h1;subst h2;show bindC kindOf ((p,w)::P.zip vs) m p=_;unfold bindC;rw [Td fun v j=>(kH.mp nd).1 (List.of_mem_zip j).1,oA hk];simp
 |p::P,w::vs,i+1,m,nd,h1,h2,hk=>by show bindC kindOf ((p,w)::P.zip vs) m x=_;unfold bindC;exact Qw (i:=i) (kH.mp nd).2 (by simpa using h1) (by simpa using h2) hk
noncomputable def start (N:List Str) (vs:List V):St:=vs.map some++List.replicate (N.length - vs.length) none
noncomputable def vz (CX:CXT) (P:Program) (w:World) (K:PySem.W.Frag) (mg:Str->Option Value) (base:Heap) (N:List Str) (qual:Str) (scope:Scope) (f:Addr) (cd:Value) (A:Around) (outer:List Env) (s:Shared) (H:Hp) (E:XK):Cx where
  prog:=P
  w:=w
  K:=K
  mg:=mg
  base:=base
  A:=A.deeper (envOfC qual scope s.heap.objs.size f cd)
  N:=N
  s₀:=s
  H₀:=H
  env:=envOfC qual scope s.heap.objs.size f cd
  outer:=outer
  stack:=envOfC qual scope s.heap.objs.size f cd::outer
  ex:=[]
  calm:=true
  fn:=fun _=>true
  pn:=[]
  xe:=fun e s'=>wpAny (model P w) (A.deeper (envOfC qual scope s.heap.objs.size f cd)) (leaving (envOfC qual scope s.heap.objs.size f cd) e) (fun _ j=>CX outer H s E e j) (fun D j=>CX outer H s E D j) s'
theorem X7 {sc:Scope} {n:Nat} {x:Str} (h:sc.names.lookup x=some .cell):∃c,(cellsFrom n sc.names []).lookup x=some c:=by have q:=PySem.W.cellsFrom_some sc.names n [] (.inl h);exact uE.mp q
theorem qb2 {CX:CXT} {P:Program} {w:World} {K:PySem.W.Frag} {mg:Str->Option Value} {base:Heap} {N ps:List Str} {qual:Str} {scope:Scope} {f:Addr} {cd:Value} {A:Around} {outer:List Env} {s s1:Shared} {H:Hp} {E:XK} {us:List Value} {vs:List V}
  (S:FnScope N ps scope) (hd:A.handled=none) (e0:Env0 P w K mg base A outer s H) (hl:vs.length=ps.length) (r:Vals vs us)
  (x:InCallC s s.heap.objs.size (bindL (envOfC qual scope s.heap.objs.size f cd).kindOf (ps.zip us) fun _=>none) (cellsFrom (s.heap.objs.size+1) scope.names []) (bindC (envOfC qual scope s.heap.objs.size f cd).kindOf (ps.zip us) fun _=>none) s1) :
  Inv (vz CX P w K mg base N qual scope f cd A outer s H E) [] (start N vs) H s1:=by
 have hpl:ps.length<=N.length:=by have:=vD List.length S.pre;rw [cB] at this;omega
 obtain⟨h1,tk,rfl,hk⟩:=x.done;have j:∀b:Addr,b∉(vz CX P w K mg base N qual scope f cd A outer s H E).ex:=fun b z=>absurd (show b∈([]:List Addr) from z) (by simp);refine⟨⟨e0.mod,S.kind,rfl,rfl,dA _,fun y z c h1 h2=>?_,fun y D=>?_,fun y c _ h=>?_,fun _=>hd,Around.frames_deeper e0.frames,.inr ⟨rfl,rfl⟩,fun b z=>absurd z (j b),e0.bs,e0.bsz,fun b _ _=>j b,fun b z=>absurd z (j b),e0.funs,e0.frf⟩,
  rfl,e0.bare,Un.kept hk,⟨_,x.toInCall.ns,fun i y v h1 h2 h3=>?_⟩,fun y c h=>⟨_,x.cell y c h⟩,e0.hok.fresh (dA _),fun y c h=>?_,fun p hp=>absurd (show p∈([]:List (Addr×Obj)) from hp) (by simp),e0.hok.kept hk,?_⟩
 ·exact name_of_addr x.apart (eF h1) (eF h2)
 ·have D:scope.names.lookup y=some .cell\/scope.names.lookup y=some .free:=D;rcases D with D |D
  ·exact X7 D
  ·exact absurd rfl (S.nofree _ (eF D))
 ·exact tG (x.above y c (eF h))
 ·have hi:i < vs.length:=by
   unfold start at h2;by_cases hi:i < vs.length
   ·exact hi
   ·rw [kD (by simpa using hi)] at h2;rw [List.getElem?_replicate] at h2;split at h2<;>cases h2
  have ha:vs[i]? = some v:=by
   unfold start at h2;rw [aE (by simpa using hi),fA] at h2;cases e:vs[i]? with
   |none=>rw [e] at h2;cases h2
   |some a=>rw [e] at h2;cases h2;rfl
  obtain⟨u,G,J⟩:=r.get ha;have hp:ps[i]? = some y:=by rw [←S.pre,sC (by omega)];exact h1
  have F:ps.Nodup:=by rw [←S.pre];exact S.nd.sublist (List.take_sublist _ _)
  refine⟨u,J,?_⟩;rcases S.par y (jA hp) with k |k
  ·exact .inl ⟨k,Qn F hp G k⟩
  ·obtain⟨c,e⟩:=X7 (n:=s.heap.objs.size+1) k;refine .inr ⟨.inl k,c,e,?_⟩;have q:=x.cell y c e;rw [Qw F hp G (by show scope.names.lookup y≠_;rw [k];decide)] at q;exact q
 ·exact e0.hok.fresh (tG (x.above y c (eF h)))
 ·unfold start;show _=N.length;rw [wA,aA,List.length_replicate];omega
theorem zj4 {CX:CXT} {P:Program} {w:World} {K:PySem.W.Frag} {mg:Str->Option Value} {base:Heap} {k:Nat} {f:Addr} {name qual:Str} {params:Arguments} {body:List Stmt} {scope:Scope} {Z kV doc pm cdv ct oc:Value} {an od:Option Addr}
  {osl:Array (Option Value)} {N ps:List Str} {sp:Sp} (lk:K.lookup f=some ⟨oc,od,.func (PySem.W.fnOf name qual params body scope Z kV doc pm an cdv ct),osl⟩) (O:PySem.W.codeIn K cdv qual=true) (S:FnScope N ps scope)
  (len:∀vs H Q E,sp vs H Q E->vs.length=ps.length)
  (D:∀(A:Around) (outer:List Env) (s:Shared) (H:Hp) (vs:List V) (Q:VK) (E:XK),Room k (A.deeper (envOfC qual scope s.heap.objs.size f cdv))->sp vs H Q E ->
   ∃t,PSs (vz CX P w K mg base N qual scope f cdv A outer s H E) body t/\t { nx:=fun _ H'=>Q .non H',rt:=Q} (start N vs) H) :
  FnOk P w K mg base CX (k+1) f (PySem.W.fnOf name qual params body scope Z kV doc pm an cdv ct) ps sp:=by
 refine⟨len,fun A outer s H args us vs Q E U e0 hb r G=>?_⟩;have hl:=len _ _ _ _ G;have KX:K.In s.heap:=e0.mod.kin.keeps fun b o e=>(e0.bs b o e).1;have lim:s.heap.NoLimit:=e0.mod.nolimit.keeps fun b o e=>(e0.bs b o e).1;have F:∀y∈ps.zip us,scope.names.lookup y.1=some .local\/(scope.names.lookup y.1=some .cell/\((cellsFrom (s.heap.objs.size+1) scope.names []).lookup y.1).isSome=true):=fun⟨n,v⟩ hy=>by
  rcases S.par n (List.of_mem_zip hy).1 with q |q
  ·exact .inl q
  ·exact .inr ⟨q,PySem.W.cellsFrom_some _ _ _ (.inl q)⟩
 refine codeAny_call_function U.depth (KX _ _ lk) rfl S.co S.gen rfl (PySem.W.codeRec_of KX O) (hb _ _ _ _ ?_);refine wpAny_newFunctionEnv_cells S.kind F fun env he s1 x=>?_;subst he;refine⟨lim.keeps x.toInCall.keep,codeAny_func ?_⟩;obtain⟨t,ht,hq⟩:=D A outer s H vs Q E (U.deeper _) G;have I:Inv (vz CX P w K mg base N qual scope f cdv A outer s H E) [] (start N vs) H s1:=qb2 S U.hd e0 hl r x;refine oC (ht [] s1 (start N vs) H _ I hq) (fun fl s' hs=>?_) fun e s' hs=>hs;have fin:∀{j:St} {H':Hp} {v:V} {u:Value},Inv (vz CX P w K mg base N qual scope f cdv A outer s H E) [] j H' s'->RelV v u->Q v H'->CE outer P w H s Q u s':=
  fun {j H' v u} J Y q=>⟨v,H',J.os,J.bare,J.base,J.hok,Y,q⟩
 cases fl with
 |ret u=>obtain⟨v,j,H',J,Y,q⟩:=hs;exact fin J Y q
 |next=>obtain⟨j,H',J,q⟩:=hs;exact fin (v:=V.non) (u:=Value.none) J rfl q
 |brk=>obtain⟨_,_,_,q⟩:=hs;exact False.elim q
 |cont=>obtain⟨_,_,_,q⟩:=hs;exact False.elim q
section
variable {X:Cx} {x:Str} {p pos:Pos} {e:Expr} {es:List Expr} {t:TA} {id T:String} {r:List V->Hp->VK->Prop}
noncomputable def tCB (r:List V->Hp->VK->Prop) (t:TA):TE:=fun σ H Q=>t σ H fun vs H1=>r vs H1 Q
theorem q8 (D:Ag X (.builtin id) r) (F:Gl X x) (hm:X.mg x=none) (G:bootBuiltins x=some (.builtin id)) (ha:PA X (e::es) t) (hn:x ≠ "__name__" := by decide) (j:(x == ("__debug__" : Str))=false:=by decide)
  (he:starEach (e::es) X.env=(false,eval e X.env)::starEach es X.env:=by rfl) (hpl:(backTo pos (starEach es X.env)).any (·.1)=false:=by rfl):PE X (.Call (.Name x p) (e::es) [] pos) (tCB r t):=by
 intro pins s σ H Q I h;refine wG (G8 I F hm G ?_ hn j);exact PyProof.Rows.callWith_builtin1 (thn (ha pos pins s σ H _ I h) fun us s1 ⟨vs,H1,J,O,q1⟩=>D pins s1 σ H1 vs us Q J O q1) he hpl
theorem Gm (D:Ag X (.type T) r) (F:Gl X x) (hm:X.mg x=none) (G:bootBuiltins x=some (.type T)) (ha:PA X (e::es) t) (hn:x ≠ "__name__" := by decide) (j:(x == ("__debug__" : Str))=false:=by decide)
  (he:starEach (e::es) X.env=(false,eval e X.env)::starEach es X.env:=by rfl) (hpl:(backTo pos (starEach es X.env)).any (·.1)=false:=by rfl):PE X (.Call (.Name x p) (e::es) [] pos) (tCB r t):=by
 intro pins s σ H Q I h;refine wG (G8 I F hm G ?_ hn j);exact aF (thn (ha pos pins s σ H _ I h) fun us s1 ⟨vs,H1,J,O,q1⟩=>D pins s1 σ H1 vs us Q J O q1) he hpl
end
end L2
namespace HT
open PySem PyProof.Rows
theorem qx1 (A:Around) (s:Shared) (a:Int) (t:Tok) (c:Int) (u:Tok):∃e,SeqAt.EqAt A s (.int a t) (.int c u) e/\(e=true↔a=c):=
 ⟨(a == c),aG a t c u,by simp⟩
section
open PySem.SeqAt
open PySem.AutoSeq1 (wpAny_loadPart')
open PySem.MeetsSeq PySem.MeetsSeq2 PySem.MeetsSeq3
end
section
variable {prog:Program} {w:World} {A:Around} {E:Value->Shared->Prop} {s:Shared}
theorem cat_tup {t b:Addr} {vs ws:List Value} {Q:Value->Shared->Prop} (Z:IsTup s.heap t vs.toArray) (hb:IsTup s.heap b ws.toArray) (S:vs≠[])
  (h1:ws=[]->Q (.ref t) s) (h2:ws≠[]->Q (.ref s.heap.objs.size) { s with heap:=s.heap.push { cls:=.type "tuple",data:=.seq (vs++ws).toArray}})
  (hsz:vs.length+ws.length<=sizeLine):wpAny (model prog w) A (binaryOp .Add (.ref t) (.ref b)) Q E s:=by
 obtain⟨⟨cls,dd,data,sl⟩,O,U,n,hd⟩:=id Z;obtain⟨⟨cls2,D,data2,G⟩,j,J,Y,hd2⟩:=id hb;simp only at U hd J hd2;subst U hd J hd2;have e:vs.toArray++ws.toArray=(vs++ws).toArray:=by simp
 by_cases hw:ws=[]
 ·exact concat_meets ⟨_,O,rfl⟩ ⟨_,j,rfl⟩ noFill_tuple_add seq_tuple_add PySem.F.slot_tuple_add PySem.F.entry_tuple_add (PySem.F.args_tuple_add_2 _ _)
   (tuple_addW1 t b vs.toArray ws.toArray n Y dd D sl G (by simpa using S) (by simp [hw])) ⟨O,j,h1 hw⟩
 ·refine concat_meets ⟨_,O,rfl⟩ ⟨_,j,rfl⟩ noFill_tuple_add seq_tuple_add PySem.F.slot_tuple_add PySem.F.entry_tuple_add (PySem.F.args_tuple_add_2 _ _)
   (tuple_addW2 t b vs.toArray ws.toArray n Y dd D sl G (by simpa using S) (by simpa using hw) (by rw [qA,qA];exact hsz)) ⟨O,j,?_⟩
  rw [e];exact h2 hw
noncomputable def sIx (n d:Nat):Option Int->Nat
 |none=>d
 |some v=>if v < 0 then (v+(n:Int)).toNat else min v.toNat n
theorem sIx_nat (n d k:Nat):sIx n d (some (k:Int))=min k n:=by show (if (k:Int) < 0 then ((k:Int)+(n:Int)).toNat else min (k:Int).toNat n)=min k n;rw [oA (by omega),Int.toNat_natCast]
theorem zp4 (n d:Nat) (hd:d<=n) (o:Option Int):sIx n d o<=n:=by
 cases o with
 |none=>exact hd
 |some v=>
  show (if v < 0 then (v+(n:Int)).toNat else min v.toNat n)<=n;by_cases j:v < 0
  ·rw [kA j];omega
  ·rw [oA j];exact Nat.min_le_right _ _
theorem qm0 (v:Int) (n d:Nat):(if v < 0 then max (v+(n:Int)) 0 else min v (n:Int))=((sIx n d (some v):Nat):Int):=by
 show (if v < 0 then max (v+(n:Int)) 0 else min v (n:Int))=(((if v < 0 then (v+(n:Int)).toNat else min v.toNat n):Nat):Int)
 by_cases j:v < 0
 ·simp only [kA j];omega
 ·simp only [oA j];omega
theorem Y9 (lo hi:Option Int) (n:Nat):Builtin.Slice.sliceAdjust lo hi 1 (n:Int)=(((sIx n 0 lo:Nat):Int),((sIx n n hi:Nat):Int)):=by
 have h1:¬((1:Int) < 0):=by omega
 unfold Builtin.Slice.sliceAdjust;simp only [h1,yE];refine Prod.ext ?_ ?_
 ·cases lo with
  |none=>rfl
  |some v=>exact qm0 v n 0
 ·cases hi with
  |none=>rfl
  |some v=>exact qm0 v n n
theorem Z0 (i j:Nat):Builtin.Slice.slicePlaces (i:Int) (j:Int) 1=j - i:=by
 unfold Builtin.Slice.slicePlaces;have h1:(1:Int) > 0:=by omega
 simp only [h1,yF,Int.ediv_one]
 split<;>omega
theorem Ms {v:Value} {o:Option Int} {Q:Option Int->Shared->Prop} (p:IsPart v o) (h:Q o s):wpAny (model prog w) A (Builtin.Slice.slicePartIndex v) Q E s:=by
 cases p with
 |none=>exact slicePart_none h
 |int i t=>exact slicePart_int h
theorem Ib {sl:Addr} {F G:Value} {lo hi:Option Int} {n:Nat} {Q:Int×Int×Nat->Shared->Prop} (hs:s.heap.IsSliceOf sl F G .none) (pl:IsPart F lo) (pu:IsPart G hi)
  (h:Q (((sIx n 0 lo:Nat):Int),1,sIx n n hi - sIx n 0 lo) s):wpAny (model prog w) A (Builtin.Slice.sliceApplied (.ref sl) (pure (n:Int))) Q E s:=by
 obtain⟨os,j,hcs,D⟩:=id hs;unfold Builtin.Slice.sliceApplied Builtin.Slice.sliceFields;refine cA (cA (fF j D (x:=F) rfl (cA (fF j D (x:=G) rfl (cA (fF j D (x:=.none) rfl (eB ?_)))))));refine cA (slicePart_none ?_);show wpAny _ _ (if ((1:Int) == 0)=true then _ else _) _ _ s;rw [oA (by decide)];refine cA (Ms pl (cA (Ms pu (cA (eB ?_)))));show wpAny _ _ (match Builtin.Slice.sliceAdjust lo hi 1 (n:Int) with |(lo,hi)=>pure (lo,(1:Int),Builtin.Slice.slicePlaces lo hi 1)) _ _ s;rw [Y9 lo hi n];show wpAny _ _ (pure (((sIx n 0 lo:Nat):Int),(1:Int),Builtin.Slice.slicePlaces ((sIx n 0 lo:Nat):Int) ((sIx n n hi:Nat):Int) 1)) _ _ s;rw [Z0];exact eB h
theorem qw5 (xs:Array Value) (i k:Nat):((List.range k).filterMap fun (m:Nat)=>xs[((i:Int)+(m:Int) * 1).toNat]?).toArray=((xs.toList.drop i).take k).toArray:=by
 have e:(fun (m:Nat)=>xs[((i:Int)+(m:Int) * 1).toNat]?)=fun m=>xs[i+m]?:=by
  funext m
  have:((i:Int)+(m:Int) * 1).toNat=i+m:=by omega
  rw [this]
 rw [e]
 have:=pick_run xs i k;rw [List.filterMap_map] at this;have e2:((fun x=>xs[x]?) ∘ fun x=>i+x)=fun m=>xs[i+m]?:=rfl;rw [e2] at this;rw [this]
theorem getItem_tuple_cut {t sl:Addr} {items:Array Value} {S U:Value} {lo hi:Option Int} {Q:Value->Shared->Prop} (D:IsTup s.heap t items) (hs:s.heap.IsSliceOf sl S U .none) (pl:IsPart S lo) (pu:IsPart U hi)
  (hw:¬(sIx items.size 0 lo=0/\sIx items.size items.size hi=items.size))
  (h:Q (.ref s.heap.objs.size) { s with heap:=s.heap.push { cls:=.type "tuple",data:=.seq ((items.toList.drop (sIx items.size 0 lo)).take (sIx items.size items.size hi - sIx items.size 0 lo)).toArray}})
  (hsz:items.size<=sizeLine):wpAny (model prog w) A (getItem (.ref t) (.ref sl)) Q E s:=by
 have j:sizeOk (.seq ((items.toList.drop (sIx items.size 0 lo)).take (sIx items.size items.size hi - sIx items.size 0 lo)).toArray):=by show ((items.toList.drop (sIx items.size 0 lo)).take (sIx items.size items.size hi - sIx items.size 0 lo)).toArray.size<=sizeLine;rw [qA,cB,wC,pB];omega
 have hj:sIx items.size items.size hi<=items.size:=zp4 _ _ (dA _) hi;obtain⟨os,F,G,hds⟩:=id hs;have J:s.TypeIs (.ref sl) "slice" := ⟨os,F,G⟩
 unfold getItem
 try with_reducible refine sD ?_
 first |refine cA (eB ?_) |skip
 refine cA (wpAny_sequenceKey D.typeIs (by decide) ?_);refine cA (wpAny_callSpecial?_slot (name:=Str.ofString "__getitem__") D.typeIs oG
  (wpAny_call_entry oG D.typeIs entry_tuple_getitem ?_ (args_tuple_getitem _ _)))
 show wpAny _ _ (Builtin.Tuple.tupleItemsOf (.ref t) >>= _) _ _ s;refine cA (tupleItemsOf_ D ?_);refine cA (wpAny_typeOf J ?_);rw [kA (by decide)];refine cA (Ib hs pl pu ?_);have O:¬((((sIx items.size 0 lo:Nat):Int) == 0 && (1:Int) == 1 && (sIx items.size items.size hi - sIx items.size 0 lo) == items.size)=true):=by intro q;rw [bC,bC] at q;have q1:((sIx items.size 0 lo:Nat):Int)=0:=eq_of_beq q.1.1;have q2:sIx items.size items.size hi - sIx items.size 0 lo=items.size:=eq_of_beq q.2;exact hw ⟨by omega,by omega⟩
 show wpAny _ _ (if (((sIx items.size 0 lo:Nat):Int) == 0 && (1:Int) == 1 && (sIx items.size items.size hi - sIx items.size 0 lo) == items.size)=true then _ else _) _ _ s;rw [oA O,qw5]
 first
  |exact cA (m:=Builtin.Tuple.tupleExact _) (kG (eB ⟨_,rfl,eB h⟩) j)
  |exact cA (m:=Builtin.Tuple.tupleExact _) (kG (cA (eB (eB ⟨_,rfl,eB h⟩))) j)
  |exact cA (cA (m:=Builtin.Tuple.tupleExact _) (kG (eB (eB ⟨_,rfl,eB h⟩)) j))
  |exact cA (cA (m:=Builtin.Tuple.tupleExact _) (kG (eB ⟨_,rfl,eB h⟩) j))
end
end HT
namespace L2
open PySem PySem.Spec PyProof.Rows
noncomputable abbrev TO:=St->Hp->(Option Int->Hp->Prop)->Prop
noncomputable def PO (X:Cx) (e:Option Expr) (t:TO):Prop:=
 ∀(pins:List (Addr×Obj)) (s:Shared) (σ:St) (H:Hp) (Q:Option Int->Hp->Prop),Inv X pins σ H s->t σ H Q ->
  wpAny (model X.prog X.w) X.A (evalPart e X.env) (fun u s'=>∃o H',Inv X pins σ H' s'/\IsPart u o/\Q o H') X.xe s
noncomputable def zg4:TO:=fun _ H Q=>Q none H
inductive tPartI (Q:Option Int->Hp->Prop) (x:V) (H1:Hp):Prop
 |mk (i:_) (_:x=.int i) (_:Q (some i) H1)
noncomputable def zu3 (t:TE):TO:=fun σ H Q=>t σ H fun x H1=>tPartI Q x H1
theorem intsAre_of {ns:List Int}:∀{us:List Value},Vals (ns.map V.int) us->IntsAre us ns:=by
 induction ns with
 |nil=>intro us r;rw [List.map_nil] at r;cases r;exact .nil
 |cons n ns ih=>
  intro us r;rw [aC] at r;cases r with
  |cons j D=>obtain⟨t,e⟩:=j;subst e;exact .cons n t (ih D)
section
variable {X:Cx} {e:Expr} {te:TE} {lo hi:Option Expr} {tl th:TO} {pos p2:Pos}
theorem jk:PO X none zg4:=by intro pins s σ H Q I h;rw [evalPart_none];exact eB ⟨none,H,I,.none,h⟩
theorem zj (h:PE X e te):PO X (some e) (zu3 te):=by intro pins s σ H Q I hw;rw [evalPart_some];refine thn (h pins s σ H _ I hw) fun u s1 ⟨x,H1,j,D,q1⟩=>?_;obtain⟨i,rfl,q⟩:=q1;obtain⟨t,rfl⟩:=D;exact⟨some i,H1,j,.int i t,q⟩
noncomputable def SlR (X:Cx) (r:V->Option Int->Option Int->Hp->VK->Prop):Prop:=
 ∀(pins:List (Addr×Obj)) (s:Shared) (σ:St) (H:Hp) (x:V) (v j D:Value) (lo hi:Option Int) (sl:Addr) (Q:VK),Inv X pins σ H s->RelV x v->s.heap.IsSliceOf sl j D .none->IsPart j lo->IsPart D hi->r x lo hi H Q ->
  ∃T id,typeLookup (.type T) "__getitem__" = pure (some (.builtin id))/\s.TypeIs v T/\wpAny (model X.prog X.w) X.A (getItem v (.ref sl)) (EP X pins σ Q) X.xe s
noncomputable def tSl (r:V->Option Int->Option Int->Hp->VK->Prop) (te:TE) (tl th:TO):TE:=fun σ H Q=>te σ H fun x H1=>tl σ H1 fun l H2=>th σ H2 fun u H3=>r x l u H3 Q
theorem zm {r:V->Option Int->Option Int->Hp->VK->Prop} (F:SlR X r) (he:PE X e te) (hl:PO X lo tl) (G:PO X hi th):PE X (.Subscript e (.Slice lo hi none p2) pos) (tSl r te tl th):=by intro pins s σ H Q I h;refine Subscript_ (thn (he pins s σ H _ I h) fun v s1 ⟨x,H1,J,O,q1⟩=>?_);refine wpAny_Slice (thn (hl pins s1 σ H1 _ J q1) fun j s2 ⟨l,H2,S,pl,q2⟩=>thn (G pins s2 σ H2 _ S q2) fun D s3 ⟨u,H3,U,pu,q3⟩=>?_);rw [evalPart_none];refine eB ?_;have Y:Inv X pins σ H3 { s3 with heap:=s3.heap.push { cls:=.type "slice",data:=.fields #[j,D,.none]}}:=U.kept (t':=s3.toks) fun b ob q=>iA _ q;obtain⟨T,id,Z,ht,hg⟩:=F pins { s3 with heap:=s3.heap.push { cls:=.type "slice",data:=.fields #[j,D,.none]}} σ H3 x v j D l u s3.heap.objs.size Q Y O (Heap.IsSliceOf.new ..) pl pu q3;show wpAny (model X.prog X.w) X.A (subscriptTail e (.Slice lo hi none p2) v (.ref s3.heap.objs.size)) (EP X pins σ Q) X.xe { s3 with heap:=s3.heap.push { cls:=.type "slice",data:=.fields #[j,D,.none]}};exact tail_any (ops:=[.ref s3.heap.objs.size,v]) ht Z hg (by with_unfolding_all rfl)
noncomputable def Ax (xs:List V) (lo hi:Option Int):List V:=(xs.drop (HT.sIx xs.length 0 lo)).take (HT.sIx xs.length xs.length hi - HT.sIx xs.length 0 lo)
theorem Dg (xs:List V) (lo hi:Option Int):(Ax xs lo hi).length<=xs.length:=by unfold Ax;rw [cB,wC];omega
inductive rSlT (K:PySem.W.Frag) (x:V) (lo:Option Int) (hi:Option Int) (H:Hp) (Q:VK):Prop
 |mk (a xs:_) (_:x=.ref a) (_:SqT K H a xs) (_:¬(HT.sIx xs.length 0 lo=0/\HT.sIx xs.length xs.length hi=xs.length)) (_:∀p,H p=none->Q (.ref p) (upd H p (.tup (Ax xs lo hi))))
theorem zj9:SlR X (rSlT X.K):=by
 intro pins s σ H x v vl vu lo hi sl Q I F hs pl pu h;obtain⟨a,xs,rfl,hx,hw,q⟩:=h;cases F;obtain⟨its,r,j,D⟩:=I.tuple hx;have hlen:its.toArray.size=xs.length:=by rw [qA];exact r.length.symm
 refine⟨"tuple",_,oG.lookup,j.typeIs,?_⟩;refine HT.getItem_tuple_cut j hs pl pu (by rw [hlen];exact hw) ?_ (by rw [hlen];exact D);rw [hlen];refine⟨.ref s.heap.objs.size,_,I.laid (t':=s.toks) (o:=.tup (Ax xs lo hi)) (fun b ob q=>iA _ q) (dA _) ?_,rfl,q _ (I.hok.fresh (dA _))⟩;exact⟨aD (Dg xs lo hi) D,_,(r.drop (HT.sIx xs.length 0 lo)).take (HT.sIx xs.length xs.length hi - HT.sIx xs.length 0 lo),IsTup.new _ _⟩
inductive rCatT (K:PySem.W.Frag) (x:V) (y:V) (H:Hp) (Q:VK):Prop
 |mk (a b xs ys:_) (_:x=.ref a) (_:y=.ref b) (_:SqT K H a xs) (_:SqT K H b ys) (_:xs≠[]) (_:xs.length+ys.length<=sizeLine) (_:(ys=[]->Q (.ref a) H)) (_:(ys≠[]->∀p,H p=none->Q (.ref p) (upd H p (.tup (xs++ys)))))
theorem Vals.nil_iff {xs:List V} {us:List Value} (r:Vals xs us):us=[]↔xs=[]:=by
 cases r with
 |nil=>simp
 |cons _ _=>simp
theorem zd3:OpR X (binaryOp .Add) (rCatT X.K):=by intro pins s σ H x y v u Q I G J h;obtain⟨a,b,xs,ys,rfl,rfl,ha,hb,hx,F,q1,q2⟩:=h;cases G;cases J;obtain⟨its,D,p1,_⟩:=I.tuple ha;obtain⟨its2,j,p2,_⟩:=I.tuple hb;refine HT.cat_tup p1 p2 (fun z=>hx (D.nil_iff.mp z)) (fun z=>⟨.ref a,H,I,rfl,q1 (j.nil_iff.mp z)⟩) (fun z=>?_) (by rw [←D.length,←j.length];exact F);refine⟨.ref s.heap.objs.size,_,I.laid (t':=s.toks) (o:=.tup (xs++ys)) (fun b ob q=>iA _ q) (dA _) ?_,rfl,q2 (fun w=>z (j.nil_iff.mpr w)) _ (I.hok.fresh (dA _))⟩;exact⟨by rw [wA];exact F,_,D.append j,IsTup.new _ _⟩
end
noncomputable def ixN (n:Nat) (i:Int):Option Nat:=if 0<=i then (if i < n then some i.toNat else none) else if -(n:Int)<=i then some (i+n).toNat else none
noncomputable def atI {α:Type} (xs:List α) (i:Int):Option α:=(ixN xs.length i).bind fun j=>xs[j]?
theorem ql9 {n:Nat} {i:Int} {j:Nat} (h:ixN n i=some j):seqIndex? i n=some j/\j < n/\-(n:Int)<=i/\i < n:=by
 unfold ixN at h;by_cases h0:0<=i
 ·rw [kA h0] at h;by_cases h1:i < n
  ·rw [kA h1] at h;have e:i.toNat=j:=nB h;exact⟨by rw [seqIndex_of h0 h1,e],by omega,by omega,h1⟩
  ·rw [oA h1] at h;cases h
 ·rw [oA h0] at h;by_cases h1:-(n:Int)<=i
  ·rw [kA h1] at h;have e:(i+n).toNat=j:=nB h;exact⟨by rw [seqIndex_neg (by omega) h1,e],by omega,h1,by omega⟩
  ·rw [oA h1] at h;cases h
theorem Wu {α:Type} {xs:List α} {i:Int} {v:α} (h:atI xs i=some v):∃j,seqIndex? i xs.length=some j/\xs[j]? = some v/\j < xs.length/\-(xs.length:Int)<=i/\i < xs.length:=by
 unfold atI at h;cases e:ixN xs.length i with
 |none=>rw [e] at h;cases h
 |some j=>rw [e] at h;obtain⟨h1,h2,D,F⟩:=ql9 e;exact⟨j,h1,h,h2,D,F⟩
theorem jg {α:Type} {xs:List α} {j:Nat} {v:α} (h:xs[j]? = some v):atI xs (j:Int)=some v:=by
 have hj:j < xs.length:=(bA.mp h).1;have e:ixN xs.length (j:Int)=some j:=by unfold ixN;rw [kA (by omega),kA (by omega)];simp
 unfold atI;rw [e];exact h
theorem Gk {α:Type} (xs:List α) (v:α):atI (xs++[v]) (-1)=some v:=by
 have hl:(xs++[v]).length=xs.length+1:=by simp
 have e:ixN (xs++[v]).length (-1)=some xs.length:=by unfold ixN;rw [hl,oA (by decide),kA (by omega)];congr 1;omega
 unfold atI;rw [e];show (xs++[v])[xs.length]? = some v;simp
noncomputable def zf3 (b:Expr):Prop:=∀o i,subscripted b false o i=operate [o,i] (getItem o i)
noncomputable def IxR (X:Cx) (r:R2):Prop:=
 ∀(value slice:Expr) (pins:List (Addr×Obj)) (s:Shared) (σ:St) (H:Hp) (x y:V) (v u:Value) (Q:VK),Inv X pins σ H s->RelV x v->RelV y u->r x y H Q ->
  subscripted slice false v u=operate [v,u] (getItem v u)->wpAny (model X.prog X.w) X.A (subscriptTail value slice v u) (EP X pins σ Q) X.xe s
noncomputable def MtR (X:Cx) (id:String) (r:V->List V->Hp->VK->Prop):Prop:=
 ∀(pins:List (Addr×Obj)) (s:Shared) (σ:St) (H:Hp) (x:V) (xs:List V) (v:Value) (us:List Value) (Q:VK),Inv X pins σ H s->RelV x v->Vals xs us->r x xs H Q ->
  wpAny (model X.prog X.w) X.A (call (.builtin id) (v::us)) (EP X pins σ Q) X.xe s
section
variable {X:Cx} {a b:Expr} {ta tb:TE} {pos:Pos}
theorem qz {r:R2} (j:IxR X r) (ha:PE X a ta) (hb:PE X b tb) (hs:zf3 b):PE X (.Subscript a b pos) (tOp r ta tb):=by intro pins s σ H Q I h;exact Subscript_ (zs8 ha hb I h fun v u s2 x y H2 D F G q=>j a b pins s2 σ H2 x y v u Q D F G q (hs _ _))
inductive rIxL (K:PySem.W.Frag) (x:V) (y:V) (H:Hp) (Q:VK):Prop
 |mk (p xs i v:_) (_:x=.ref p) (_:y=.int i) (_:SqL K H p xs) (_:atI xs i=some v) (_:Q v H)
inductive rIxT (K:PySem.W.Frag) (x:V) (y:V) (H:Hp) (Q:VK):Prop
 |mk (p xs i v:_) (_:x=.ref p) (_:y=.int i) (_:SqT K H p xs) (_:atI xs i=some v) (_:Q v H)
inductive rIxS (x:V) (y:V) (H:Hp) (Q:VK):Prop
 |mk (z i c:_) (_:x=.str z) (_:y=.int i) (_:z.length<=sizeLine) (_:atI z.cps.toList i=some c) (_:Q (.str ⟨#[c]⟩) H)
theorem ze6:IxR X (rIxL X.K):=by
 intro value slice pins s σ H x y v u Q I J O h hs;obtain⟨p,xs,i,z,rfl,rfl,S,he,q⟩:=h;cases J;obtain⟨t,rfl⟩:=O;obtain⟨its,r,pl,hz⟩:=I.list S;obtain⟨j,h1,h2,h3,U,Y⟩:=Wu he;obtain⟨w,G,D⟩:=r.get h2;have hl:=r.length;have hn:=M7;have fin:EP X pins σ Q w s:=⟨z,H,I,D,q⟩
 by_cases h0:0<=i
 ·have F:i.toNat=j:=by
   rw [seqIndex_of h0 Y] at h1;exact nB h1
  exact item_listR pl.isList h0 (by omega) (by rw [F];simpa using G) fin hs
 ·have F:(i+(its.toArray.size:Int)).toNat=j:=by
   rw [seqIndex_neg (by omega) U] at h1;rw [qA,←hl];exact nB h1
  exact subscriptTail_builtinR (x:=w) pl.isList.typeIs slot_list_getitem.lookup
   (wpAny_getItem_list_neg (Q:=fun r s'=>r=w/\EP X pins σ Q r s') pl.isList (by omega) (by rw [qA]<;>omega) (by omega) (by rw [F];simpa using G) ⟨rfl,fin⟩) hs
theorem zm7:IxR X (rIxT X.K):=by
 intro value slice pins s σ H x y v u Q I F G h hs;obtain⟨p,xs,i,z,rfl,rfl,J,he,q⟩:=h;cases F;obtain⟨t,rfl⟩:=G;obtain⟨its,r,pl,hz⟩:=I.tuple J;obtain⟨j,h1,h2,h3,h4,h5⟩:=Wu he;obtain⟨w,O,D⟩:=r.get h2;have hl:=r.length;have hn:=M7;have fin:EP X pins σ Q w s:=⟨z,H,I,D,q⟩
 exact subscriptTail_builtinR (x:=w) pl.typeIs slot_tuple_getitem.lookup
  (getItem_tuple (j:=j) (Q:=fun r s'=>r=w/\EP X pins σ Q r s') pl (by omega) (by omega) (by rw [qA,←hl];exact h1) (by simpa using O) ⟨rfl,fin⟩) hs
theorem Ut:IxR X rIxS:=by
 intro value slice pins s σ H x y v u Q I D F h hs;obtain⟨z,i,c,rfl,rfl,hz,he,q⟩:=h;obtain⟨t,rfl⟩:=D;obtain⟨t',rfl⟩:=F;obtain⟨j,h1,h2,h3,G,J⟩:=Wu he;have hl:z.cps.toList.length=z.length:=by simp [Str.length]
 rw [hl] at h1 G J;have hn:=M7;exact tail_any (iI s z t) slot_str_getitem.lookup (getItem_str (c:=c) (by
  have e1:decide (i < -(2 ^ 63:Int))=false:=dB (by omega);have e2:decide (i >= 2 ^ 63)=false:=dB (by omega);rw [e1,e2,Bool.or_false]) (by rw [h1];simpa using h2) ⟨.str ⟨#[c]⟩,H,I.tok _,⟨_,rfl⟩,q⟩) hs
theorem Zi (its:List Value) (n j:Nat) (u:Value):Obj.mapSeq (·.setIfInBounds j u) { cls:=.type "list",data:=.seq its.toArray n}={ cls:=.type "list",data:=.seq (its.set j u).toArray n}:=by simp [Obj.mapSeq]
theorem Inv.lst {pins:List (Addr×Obj)} {σ:St} {H:Hp} {s:Shared} {p:Addr} {xs:List V} (I:Inv X pins σ H s) (h:H p=some (.lst xs)) :
  ∃(its:List Value) (n:Nat),Vals xs its/\s.heap.get? p=some { cls:=.type "list",data:=.seq its.toArray n}/\xs.length<=sizeLine:=by
 obtain⟨z,its,n,r,e⟩:=I.hok p _ h;exact⟨its,n,r,e,z⟩
theorem Inv.lstUpd {pins:List (Addr×Obj)} {σ:St} {H:Hp} {s:Shared} {p:Addr} {xs ys:List V} {its its':List Value} {n j:Nat} {f:Obj->Obj} (I:Inv X pins σ H s) (h:H p=some (.lst xs))
  (D:s.heap.get? p=some { cls:=.type "list",data:=.seq its.toArray n}) (hf:f { cls:=.type "list",data:=.seq its.toArray n}={ cls:=.type "list",data:=.seq its'.toArray j}) (r:Vals ys its') (F:ys.length<=sizeLine) (t:Nat) :
  Inv X pins σ (upd H p (.lst ys)) { s with heap:=s.heap.update p f,toks:=t}:=by
 have e:(s.heap.update p f).get? p=some { cls:=.type "list",data:=.seq its'.toArray j}:=by rw [bD f D (by rw [hf]<;>rfl),hf]
 refine I.write (x:=p) (e:=p) (by rw [h];trivial) (.inl rfl) (fun b u hb q=>(dC _ _ (eE hb)).trans q) ⟨_,e⟩ ?_;exact⟨F,its',j,r,e⟩
inductive rSetL (o:V) (i:V) (v:V) (H:Hp) (Q:Hp->Prop):Prop
 |mk (p xs k j:_) (_:o=.ref p) (_:i=.int k) (_:H p=some (.lst xs)) (_:ixN xs.length k=some j) (_:Q (upd H p (.lst (xs.set j v))))
theorem set_list:zu5 X rSetL:=by
 intro pins s σ H o i v ov iv u Q I O S U h;obtain⟨p,xs,k,j,rfl,rfl,hp,Y,q⟩:=h;cases O;obtain⟨t,rfl⟩:=S;obtain⟨its,n,r,D,Z⟩:=I.lst hp;obtain⟨h1,h2,F,G⟩:=ql9 Y;have hl:=r.length;have hn:=M7;have J:Inv X pins σ (upd H p (.lst (xs.set j v))) { s with heap:=s.heap.update p (Obj.mapSeq (·.setIfInBounds j u))}:=
  I.lstUpd hp D (Zi its n j u) (r.set U j) (by rw [List.length_set];exact Z) s.toks
 by_cases h0:0<=k
 ·have hk:k.toNat=j:=by
   rw [seqIndex_of h0 G] at h1;exact nB h1
  exact PySem.W.ki_setAt D h0 (by omega) (by rw [qA,←hl];exact G) (by rw [hk];exact⟨_,J,q⟩)
 ·have hk:(k+(its.toArray.size:Int)).toNat=j:=by
   rw [seqIndex_neg (by omega) F] at h1;rw [qA,←hl];exact nB h1
  exact PySem.W.ki_setBack D (by omega) (by rw [qA,←hl];exact F) (by omega) (by rw [hk];exact⟨_,J,q⟩)
theorem Q8 (lo hi:Option Int) (n:Nat):(sliceBounds lo hi none n).1=((HT.sIx n 0 lo:Nat):Int)/\(sliceBounds lo hi none n).2.1=((HT.sIx n n hi:Nat):Int)/\(sliceBounds lo hi none n).2.2=1:=by
 refine⟨?_,?_,rfl⟩
 ·cases lo with
  |none=>simp [sliceBounds,HT.sIx]
  |some i=>
   simp only [sliceBounds,HT.sIx,Option.getD_none,show (1:Int) > 0 by decide,yF];by_cases h:i < 0
   ·simp only [h,yF]<;>omega
   ·simp only [h,yE]<;>omega
 ·cases hi with
  |none=>simp [sliceBounds,HT.sIx]
  |some i=>
   simp only [sliceBounds,HT.sIx,Option.getD_none,show (1:Int) > 0 by decide,yF];by_cases h:i < 0
   ·simp only [h,yF]<;>omega
   ·simp only [h,yE]<;>omega
theorem Nz (its:List Value) (lo hi:Option Int):slicePick its.toArray lo hi none=((its.drop (HT.sIx its.length 0 lo)).take (HT.sIx its.length its.length hi - HT.sIx its.length 0 lo)).toArray:=by obtain⟨h1,h2,j⟩:=Q8 lo hi its.toArray.size;unfold slicePick;rw [h1,h2,j];simp only [sliceRange_one,pick_run,qA]<;>rfl
inductive rSlL (K:PySem.W.Frag) (x:V) (lo:Option Int) (hi:Option Int) (H:Hp) (Q:VK):Prop
 |mk (a xs:_) (_:x=.ref a) (_:SqL K H a xs) (_:∀p,H p=none->Q (.ref p) (upd H p (.lst (Ax xs lo hi))))
theorem zh8:SlR X (rSlL X.K):=by intro pins s σ H x v vl vu lo hi sl Q I D hs pl pu h;obtain⟨a,xs,rfl,hx,q⟩:=h;cases D;obtain⟨its,r,j,F⟩:=I.list hx;have hlen:=r.length;refine⟨"list",_,slot_list_getitem.lookup,j.isList.typeIs,?_⟩;refine wpAny_getItem_list_slice j.isList hs pl pu .none (by simp) ?_ (by rw [qA]<;>omega);rw [Nz,←hlen];refine⟨.ref s.heap.objs.size,_,I.laid (t':=s.toks) (o:=.lst (Ax xs lo hi)) (fun b ob q=>iA _ q) (dA _) ?_,rfl,q _ (I.hok.fresh (dA _))⟩;exact⟨aD (Dg xs lo hi) F,_,0,(r.drop (HT.sIx xs.length 0 lo)).take (HT.sIx xs.length xs.length hi - HT.sIx xs.length 0 lo),zB _ rfl⟩
noncomputable def N6:V->Bool
 | .non=>true
 | .bl _=>true
 | .int _=>true
 | .str _=>true
 |_=>false
noncomputable def eqV:V->V->Bool
 | .non,.non=>true
 | .bl a,.bl b=>a == b
 | .bl a,.int b=>(if a then 1 else 0) == b
 | .int a,.bl b=>a == (if b then 1 else 0)
 | .int a,.int b=>a == b
 | .str a,.str b=>a == b
 |_,_=>false
theorem zj5 {A:Around} {s:Shared} {y x:V} {u v:Value} (D:RelV y u) (j:RelV x v) (G:N6 y=true) (F:N6 x=true):SeqAt.EqAt A s u v (eqV y x):=by
 cases y with
 |non=>
  cases D;cases x with
  |non=>cases j;exact SeqAt.EqAt.same _
  |bl b=>cases j;exact SeqAt.EqAt.none_bool b
  |int b=>obtain⟨t,rfl⟩:=j;exact SeqAt.EqAt.none_int b t
  |str b=>obtain⟨t,rfl⟩:=j;exact SeqAt.EqAt.none_str b t
  |_=>exact absurd (show false=true from F) bB
 |bl a=>
  cases D;cases x with
  |non=>cases j;exact SeqAt.EqAt.bool_none a
  |bl b=>cases j;exact SeqAt.EqAt.bool_bool a b
  |int b=>obtain⟨t,rfl⟩:=j;exact SeqAt.EqAt.bool_int a b t
  |str b=>obtain⟨t,rfl⟩:=j;exact SeqAt.EqAt.bool_str a b t
  |_=>exact absurd (show false=true from F) bB
 |int a=>
  obtain⟨t',rfl⟩:=D;cases x with
  |non=>cases j;exact SeqAt.EqAt.int_none a t'
  |bl b=>cases j;exact SeqAt.EqAt.int_bool a t' b
  |int b=>obtain⟨t,rfl⟩:=j;exact aG a t' b t
  |str b=>obtain⟨t,rfl⟩:=j;exact dI a t' b t
  |_=>exact absurd (show false=true from F) bB
 |str a=>
  obtain⟨t',rfl⟩:=D;cases x with
  |non=>cases j;exact SeqAt.EqAt.str_none a t'
  |bl b=>cases j;exact SeqAt.EqAt.str_bool a t' b
  |int b=>obtain⟨t,rfl⟩:=j;exact gI a t' b t
  |str b=>obtain⟨t,rfl⟩:=j;exact SeqAt.EqAt.str_str a t' b t
  |_=>exact absurd (show false=true from F) bB
 |_=>exact absurd (show false=true from G) bB
noncomputable def eqU (x:V) (u:Value):Bool:=match u with
 | .none=>eqV .non x
 | .bool b=>eqV (.bl b) x
 | .int i _=>eqV (.int i) x
 | .str z _=>eqV (.str z) x
 |_=>false
theorem qz6 {x y:V} {u:Value} (r:RelV y u) (f:N6 y=true):eqU x u=eqV y x:=by
 cases y with
 |non=>cases r;rfl
 |bl b=>cases r;rfl
 |int i=>obtain⟨t,rfl⟩:=r;rfl
 |str z=>obtain⟨t,rfl⟩:=r;rfl
 |_=>exact absurd (show false=true from f) bB
theorem Wc {x:V}:∀{xs:List V} {us:List Value},Vals xs us->xs.all N6=true->us.any (eqU x)=xs.any fun y=>eqV y x
 |_,_,.nil,_=>rfl
 |y::xs,u::us,.cons r t,f=>by rw [List.all_cons,bC] at f;rw [List.any_cons,List.any_cons,qz6 r f.1,Wc t f.2]
theorem Oo {A:Around} {s:Shared} {x:V} {v:Value} (D:RelV x v) (F:N6 x=true):∀{xs:List V} {us:List Value},Vals xs us->xs.all N6=true->∀u∈us,SeqAt.EqAt A s u v (eqU x u)
 |_,_,.nil,_=>fun u j=>by cases j
 |y::xs,u::us,.cons r t,f=>fun G j=>by
  rw [List.all_cons,bC] at f;rcases gB.mp j with rfl |j
  ·rw [qz6 r f.1];exact zj5 r D f.1 F
  ·exact Oo D F t f.2 G j
noncomputable def inV (x:V) (xs:List V):Bool:=xs.any fun y=>eqV y x
inductive rIn (K:PySem.W.Frag) (neg:Bool) (x:V) (y:V) (H:Hp) (Q:VK):Prop
 |mk (p xs:_) (_:y=.ref p) (_:(SqL K H p xs\/SqT K H p xs)) (_:N6 x=true) (_:xs.all N6=true) (_:Q (.bl (if neg then !inV x xs else inV x xs)) H)
theorem qj8:OpR X (compareOp .In) (rIn X.K false):=by
 intro pins s σ H x y v u Q I D G h;obtain⟨p,xs,rfl,j,F,fs,q⟩:=h;cases G;rcases j with j |j
 ·obtain⟨its,r,pl,J⟩:=I.list j;refine SeqAt.in_listAt (eqU x) pl.isList (fun w hw=>Oo D F r fs w (by simpa using hw)) ⟨.bl _,H,I,rfl,?_⟩;rw [show its.toArray.any (eqU x)=its.any (eqU x) by simp,Wc r fs];exact q
 ·obtain⟨its,r,pl,J⟩:=I.tuple j;refine SeqAt.in_tupleAt (eqU x) pl (fun w hw=>Oo D F r fs w (by simpa using hw)) ⟨.bl _,H,I,rfl,?_⟩;rw [show its.toArray.any (eqU x)=its.any (eqU x) by simp,Wc r fs];exact q
theorem Qm:Ag X (.builtin "len") (fun xs H Q=>∃p ys,xs=[.ref p]/\(SqL X.K H p ys\/SqT X.K H p ys)/\Q (.int ys.length) H):=by
 intro pins s σ H xs us Q I r h;obtain⟨p,ys,rfl,j,q⟩:=h;obtain⟨u,rfl,D⟩:=vals1 r;cases D;have hn:=M7;rcases j with j |j
 ·obtain⟨its,r',pl,F⟩:=I.list j;have hlen:=r'.length;exact Calls.call_len_list pl.isList (by simp only [qA]<;>omega) ⟨.int ys.length,H,I.tok _,⟨s.toks+1,by rw [qA,hlen]⟩,q⟩
 ·obtain⟨its,r',pl,F⟩:=I.tuple j;have hlen:=r'.length;exact len_tuple pl (by simp only [qA]<;>omega) ⟨.int ys.length,H,I.tok _,⟨s.toks+1,by rw [qA,hlen]⟩,q⟩
theorem Tc:Ag X (.builtin "len") (fun xs H Q=>∃z,xs=[.str z]/\z.length<=sizeLine/\Q (.int z.length) H):=by intro pins s σ H xs us Q I r h;obtain⟨z,rfl,hz,q⟩:=h;obtain⟨u,rfl,t,rfl⟩:=vals1 r;have hn:=M7;exact len_str (by omega) ⟨.int z.length,H,I.tok _,⟨_,rfl⟩,q⟩
theorem Ti:Ag X (.type "list") (fun xs H Q=>∃p ys,xs=[.ref p]/\(SqL X.K H p ys\/SqT X.K H p ys)/\∀l,H l=none->Q (.ref l) (upd H l (.lst ys))):=by
 intro pins s σ H xs us Q I r h;obtain⟨p,ys,rfl,j,q⟩:=h;obtain⟨u,rfl,J⟩:=vals1 r;cases J;have fin:∀(its:List Value),Vals ys its->ys.length<=sizeLine->∀(h':Heap) (c':Nat),(∀b o',s.heap.get? b=some o'->h'.get? b=some o') ->
   h'.get? s.heap.objs.size=some { cls:=.type "list",dict:=none,data:=.seq its.toArray c',slots:=#[]}->EP X pins σ Q (.ref s.heap.objs.size) { s with heap:=h'}:=fun its r' D h' c' kp e=>
  ⟨.ref s.heap.objs.size,_,I.laid (t':=s.toks) kp (dA _) (show ObjOk X.prog X.w _ h' _ (.lst ys) from ⟨D,its,c',r',e⟩),rfl,q _ (I.hok.fresh (dA _))⟩
 rcases j with j |j
 ·obtain⟨its,r',pl,D⟩:=I.list j;have hlen:=r'.length;obtain⟨o,F,G,n,hd⟩:=pl.isList;exact call_list_seq p (.inl rfl) F G hd (fun h' c' kp e=>fin its r' D h' c' kp e) (by simp only [qA]<;>omega)
 ·obtain⟨its,r',pl,D⟩:=I.tuple j;have hlen:=r'.length;obtain⟨o,F,G,n,hd⟩:=pl;exact call_list_seq p (.inr rfl) F G hd (fun h' c' kp e=>fin its r' D h' c' kp e) (by simp only [qA]<;>omega)
theorem O5:Ag X (.type "tuple") (fun xs H Q=>∃p ys,xs=[.ref p]/\((SqL X.K H p ys/\∀l,H l=none->Q (.ref l) (upd H l (.tup ys)))\/(SqT X.K H p ys/\Q (.ref p) H))):=by
 intro pins s σ H xs us Q I r h;obtain⟨p,ys,rfl,h⟩:=h;obtain⟨u,rfl,G⟩:=vals1 r;cases G;rcases h with ⟨j,q⟩ |⟨j,q⟩
 ·obtain⟨its,r',pl,D⟩:=I.list j;have hlen:=r'.length;refine call_tuple_list pl.isList (fun h' kp=>?_) (by simp only [qA]<;>omega);have F:Inv X pins σ H { s with heap:=h'}:=I.kept (t':=s.toks) kp;have J:Inv X pins σ (upd H h'.objs.size (.tup ys)) { s with heap:=h'.push { cls:=.type "tuple",data:=.seq its.toArray}}:=
   F.laid (t':=s.toks) (fun b o e=>iA _ e) (dA _) (show ObjOk X.prog X.w _ _ _ (.tup ys) from ⟨D,its,r',IsTup.new _ _⟩)
  exact⟨.ref h'.objs.size,_,J,rfl,q _ (F.hok.fresh (dA _))⟩
 ·obtain⟨its,r',pl,D⟩:=I.tuple j;exact call_tuple_same pl ⟨.ref p,H,I,rfl,q⟩
noncomputable def tyV (K:PySem.W.Frag) (T:String) (x:V) (H:Hp):Prop:=match x with
 | .str _=>T = "str"
 | .int _=>T = "int"
 | .ref p=>(T = "list" /\ ∃xs,SqL K H p xs)\/(T = "tuple" /\ ∃o,K.lookup p=some o/\o.cls=.type "tuple" /\ o.dict=none) \/
   (T = "dict" /\ ((∃kvs,H p=some (.dK kvs))\/∃kvs,H p=some (.dT kvs)))\/(T = "set" /\ ∃S n,H p=some (.set S n))
 |_=>False
theorem qn3 {pins:List (Addr×Obj)} {σ:St} {H:Hp} {s:Shared} {T:String} {x:V} {v:Value} (I:Inv X pins σ H s) (r:RelV x v) (ty:tyV X.K T x H) :
  s.TypeIs v T/\∀a,v=.ref a->∃j,s.heap.get? a=some j/\j.dict=none:=by
 cases x with
 |str z=>obtain⟨t,rfl⟩:=r;cases (show T = "str" from ty);exact⟨iI s z t,fun _ e=>nomatch e⟩
 |int i=>obtain⟨t,rfl⟩:=r;cases (show T = "int" from ty);exact⟨typeIs_int s i t,fun _ e=>nomatch e⟩
 |ref p=>
  cases r;rcases ty with ⟨rfl,xs,D⟩ |⟨rfl,o,hk,F,hd⟩ |⟨rfl,hk⟩ |⟨rfl,S,n,hk⟩
  ·obtain⟨its,_,pl,_⟩:=I.list D;refine⟨pl.isList.typeIs,fun a e=>?_⟩;cases e;obtain⟨o,n,e,c,hd,_⟩:=pl;exact⟨o,e,hd⟩
  ·refine⟨⟨o,I.kIn p o hk,F⟩,fun a e=>?_⟩;cases e;exact⟨o,I.kIn _ o hk,hd⟩
  ·have z:∃o,s.heap.get? p=some o/\o.ExactDict:=by
    rcases hk with ⟨kvs,hk⟩ |⟨kvs,hk⟩
    ·obtain⟨_,_,_,_,o,_,_,e,ex,_⟩:=I.hok p _ hk;exact⟨o,e,ex⟩
    ·obtain⟨_,_,_,_,o,_,_,e,ex,_⟩:=I.hok p _ hk;exact⟨o,e,ex⟩
   obtain⟨o,e,ex⟩:=z;refine⟨⟨o,e,ex.1⟩,fun a e2=>?_⟩;cases e2;exact⟨o,e,ex.2.1⟩
  ·obtain⟨o,_,_,_,e,ex,_⟩:=I.hok p _ hk;refine⟨⟨o,e,ex.1⟩,fun a e2=>?_⟩;cases e2;exact⟨o,e,ex.2.1⟩
 |_=>exact False.elim ty
noncomputable def zu6 (K:PySem.W.Frag) (T:String) (r:V->List V->Hp->VK->Prop) (to:TE):TE:=fun σ H Q=>to σ H fun x H1=>tyV K T x H1/\r x [] H1 Q
noncomputable def tBM (K:PySem.W.Frag) (T:String) (r:V->List V->Hp->VK->Prop) (to:TE) (t:TA):TE:=fun σ H Q=>to σ H fun x H1=>tyV K T x H1/\t σ H1 fun xs H2=>r x xs H2 Q
variable {o e:Expr} {es:List Expr} {to:TE} {t:TA} {name:Str} {apos cpos:Pos} {T id:String} {r:V->List V->Hp->VK->Prop}
theorem zn3 (O:PlainAttrs T) (slot:Slot T name id) (F:typeOf (.builtin id)=pure (.type "method_descriptor")) (hm:MtR X id r) (S:PE X o to)
  (j:attributeBase o name X.env (eval o X.env)=eval o X.env:=by rfl) (D:(apos.endLine == cpos.line)=true:=by rfl):PE X (.Call (.Attribute o name apos) [] [] cpos) (zu6 X.K T r to):=by
 intro pins s σ H Q I h;refine wpAny_Call_method0_late j D (thn (S pins s σ H _ I h) fun v s1 ⟨x,H1,G,J,ty,q1⟩=>?_);obtain⟨h1,h2⟩:=qn3 G J ty;exact⟨T,id,O,slot,F,h1,h2,Calls.callWith_builtin rfl (PySem.evalArgs_none (hm pins s1 σ H1 x [] v [] Q G J .nil q1))⟩
theorem zt3 (Y:PlainAttrs T) (slot:Slot T name id) (J:typeOf (.builtin id)=pure (.type "method_descriptor")) (hm:MtR X id r) (Z:PE X o to) (ha:PA X (e::es) t)
  (D:attributeBase o name X.env (eval o X.env)=eval o X.env:=by rfl)
  (G:((backTo cpos (starEach (e::es) X.env)).all (fun x=>!x.1) && (backToKw cpos (keywordEach [] X.env)).all (fun x=>x.1.isSome)
   && decide ((e::es).length+([]:List Keyword).length+(if ([]:List Keyword).isEmpty then 0 else 1) < 30))=true:=by rfl)
  (F:(apos.endLine == cpos.line)=true:=by rfl) (hs:starEach (e::es) X.env=(false,eval e X.env)::starEach es X.env:=by rfl) (j:(backTo cpos (starEach es X.env)).any (·.1)=false:=by rfl) :
  PE X (.Call (.Attribute o name apos) (e::es) [] cpos) (tBM X.K T r to t):=by
 intro pins s σ H Q I h;refine wpAny_Call_method_late D G F rfl (thn (Z pins s σ H _ I h) fun v s1 ⟨x,H1,O,S,ty,q1⟩=>?_);obtain⟨h1,h2⟩:=qn3 O S ty;refine⟨T,id,Y,slot,J,h1,h2,?_⟩;have U:=ha cpos pins s1 σ H1 _ O q1;rw [hs] at U ⊢;refine Calls.callWith_builtin (by show (false ||(backTo cpos (starEach es X.env)).any (·.1))=false;rw [j]<;>rfl) (lG ?_);exact thn U fun us s2 ⟨vs,H2,I2,r2,q2⟩=>hm pins s2 σ H2 x vs v us Q I2 S r2 q2
end
noncomputable def MtM (X:Cx) (id:String) (r:V->List V->Hp->VK->Prop):Prop:=
 ∀(pins:List (Addr×Obj)) (s:Shared) (σ:St) (H:Hp) (x:V) (xs:List V) (v:Value) (us:List Value) (Q:VK),Inv X pins σ H s->RelV x v->Vals xs us->r x xs H Q ->
  wpAny (model X.prog X.w) X.A (call (.builtin id) (v::us)) (EP X pins σ Q) X.xe s
theorem Vals.one:∀{x:V} {us:List Value},Vals [x] us->∃u,us=[u]/\RelV x u
 |_,_,.cons r .nil=>⟨_,rfl,r⟩
theorem Vals.rep {xs:List V} {us:List Value} (h:Vals xs us):∀k:Nat,Vals (List.replicate k xs).flatten (List.replicate k us).flatten
 |0=>.nil
 |k+1=>by rw [vF,vF,jD,jD];exact Vals.append h (Vals.rep h k)
theorem foldl_rep (its:List Value):∀(k:Nat) (acc:List Value),
  List.foldl (fun x1 x2=>x1++x2) acc.toArray (List.replicate k its.toArray)=(acc++(List.replicate k its).flatten).toArray
 |0,acc=>by simp
 |k+1,acc=>by
  have e:acc.toArray++its.toArray=(acc++its).toArray:=by simp
  have e2:(acc++its)++(List.replicate k its).flatten=acc++(List.replicate (k+1) its).flatten:=by rw [vF,jD,iB]
  rw [←e2,←foldl_rep its k (acc++its),←e,vF,zC]
section
variable {X:Cx} {pins:List (Addr×Obj)} {σ:St} {H:Hp} {s:Shared} {l b:Addr} {xs ys zs:List V}
theorem Inv.lset {its its':List Value} {n:Nat} {f:Array Value->Array Value} {t':Nat} (I:Inv X pins σ H s) (j:H l=some (.lst xs))
  (e:s.heap.get? l=some { cls:=.type "list",data:=.seq its.toArray n}) (hf:f its.toArray=its'.toArray) (D:Vals ys its') (F:ys.length<=sizeLine) :
  Inv X pins σ (upd H l (.lst ys)) { s with heap:=s.heap.update l (Obj.mapSeq f),toks:=t'}:=by
 have q:=PySem.IsL.update e f;rw [hf] at q;refine I.write (x:=l) (e:=l) (by rw [j];exact trivial) (.inl rfl) (fun b' u hb G=>(dC s.heap (Obj.mapSeq f) (eE hb)).trans G) ⟨_,q⟩ ?_;exact⟨F,its',_,D,q⟩
theorem Inv.lnew {its:List Value} {t':Nat} (I:Inv X pins σ H s) (j:Vals ys its) (D:ys.length<=sizeLine) :
  Inv X pins σ (upd H s.heap.objs.size (.lst ys)) { s with heap:=s.heap.push { cls:=.type "list",data:=.seq its.toArray},toks:=t'}:=
 I.laid (fun _ _ q=>iA _ q) (dA _) ⟨D,its,0,j,zB _ rfl⟩
theorem Inv.fresh (I:Inv X pins σ H s):H s.heap.objs.size=none:=I.hok.fresh (dA _)
theorem Inv.lstM (I:Inv X pins σ H s) (j:H l=some (.lst xs)):xs.length<=sizeLine/\∃(its:List Value) (n:Nat),Vals xs its/\xs.length=its.length/\s.heap.get? l=some { cls:=.type "list",data:=.seq its.toArray n}:=by obtain⟨z,its,n,r,e⟩:=I.hok l _ j;exact⟨z,its,n,r,r.length,e⟩
theorem qw0 {n:Nat} (h:n<=sizeLine):Builtin.List.listTooLong n=false:=by unfold Builtin.List.listTooLong;exact dB (by omega)
end
section
variable {X:Cx}
inductive rAppend (x:V) (vs:List V) (H:Hp) (Q:VK):Prop
 |mk (l xs y:_) (_:x=.ref l) (_:vs=[y]) (_:H l=some (.lst xs)) (_:xs.length < sizeLine) (_:Q .non (upd H l (.lst (xs++[y]))))
theorem vg:MtM X "list.append" rAppend:=by intro pins s σ H x vs v us Q I D G h;obtain⟨l,xs,y,rfl,rfl,j,hz,q⟩:=h;cases D;obtain⟨u,rfl,J⟩:=G.one;obtain⟨z,its,n,r,hl,e⟩:=I.lstM j;refine jI F.slot_list_append ⟨_,e,rfl⟩ F.entry_list_append (F.args_list_append_2 _ _) (PySem.list_append l its.toArray n u (by rw [qA];omega)) ⟨e,?_⟩;refine⟨.non,_,I.lset (its':=its++[u]) j e (by simp) (r.append (.cons J .nil)) ?_,rfl,q⟩;rw [wA,jE];omega
inductive rExtend (x:V) (vs:List V) (H:Hp) (Q:VK):Prop
 |mk (l b xs zs:_) (_:x=.ref l) (_:vs=[.ref b]) (_:H l=some (.lst xs)) (_:H b=some (.lst zs)) (_:xs.length+zs.length<=sizeLine) (_:Q .non (upd H l (.lst (xs++zs))))
theorem qg9:MtM X "list.extend" rExtend:=by
 intro pins s σ H x vs v us Q I J O h;obtain⟨l,b,xs,zs,rfl,rfl,G,S,hz,q⟩:=h;cases J;obtain⟨u,rfl,U⟩:=O.one;cases U;obtain⟨z,its,n,r,hl,e⟩:=I.lstM G;obtain⟨z2,j,Y,Z,hl2,e2⟩:=I.lstM S;have hsz:its.toArray.size+j.toArray.size<=sizeLine:=by rw [qA,qA];omega
 have D:¬(!its.toArray.isEmpty && Builtin.List.listTooLong (its.toArray.size+j.toArray.size))=true:=by rw [qw0 hsz,Bool.and_false];exact bB
 refine jI F.slot_list_extend ⟨_,e,rfl⟩ F.entry_list_extend (F.args_list_extend_2 _ _)
  (AutoSeq1.list_extend_list_list_0 l its.toArray n b j.toArray Y D (by rw [qA];omega) (by omega)) ⟨e,e2,?_⟩
 refine⟨.non,_,I.lset (its':=its++j) G e (by simp) (r.append Z) ?_,rfl,q⟩;rw [wA];omega
inductive rCat (x:V) (y:V) (H:Hp) (Q:VK):Prop
 |mk (l b xs zs:_) (_:x=.ref l) (_:y=.ref b) (_:H l=some (.lst xs)) (_:H b=some (.lst zs)) (_:xs.length+zs.length<=sizeLine) (_:∀p,H p=none->Q (.ref p) (upd H p (.lst (xs++zs))))
theorem Tw:OpR X (binaryOp .Add) rCat:=by
 intro pins s σ H x y v u Q I D F h;obtain⟨l,b,xs,zs,rfl,rfl,G,J,hz,q⟩:=h;cases D;cases F;obtain⟨z,its,n,r,hl,e⟩:=I.lstM G;obtain⟨z2,j,n2,O,hl2,e2⟩:=I.lstM J;refine PySem.P.add_list e e2 ?_ (by rw [qA,qA];omega);have ea:its.toArray++j.toArray=(its++j).toArray:=by simp
 rw [ea];exact⟨.ref _,_,I.lnew (t':=s.toks) (r.append O) (by rw [wA];omega),rfl,q _ I.fresh⟩
theorem len_rep {α:Type} (xs:List α) (k:Nat):(List.replicate k xs).flatten.length=k * xs.length:=by
 induction k with
 |zero=>simp
 |succ k ih=>rw [vF,jD,wA,ih,mG,Nat.add_comm]
end
section
variable {prog:Program} {w:World} {A:Around} {E:Value->Shared->Prop} {s:Shared}
end
section
variable {X:Cx}
end
section
variable {κ:Type} [DecidableEq κ]
noncomputable def Ah (kvs:List (κ×V)) (k:κ):Option V:=(kvs.find? fun kv=>decide (kv.1=k)).map (·.2)
noncomputable def putK (kvs:List (κ×V)) (k:κ) (v:V):List (κ×V):=
 if (kvs.any fun kv=>decide (kv.1=k))=true then kvs.map (fun kv=>if kv.1=k then (kv.1,v) else kv) else kvs++[(k,v)]
theorem yx {p:κ×V} {r:List (κ×V)} {k:κ} (e:p.1=k):Ah (p::r) k=some p.2:=by simp [Ah,dH,e]
theorem yw {p:κ×V} {r:List (κ×V)} {k:κ} (e:¬p.1=k):Ah (p::r) k=Ah r k:=by simp [Ah,dH,e]
theorem Ds (k:κ):∀kvs:List (κ×V),(kvs.any fun kv=>decide (kv.1=k))=(Ah kvs k).isSome
 | []=>rfl
 |p::r=>by
  rw [List.any_cons];by_cases e:p.1=k
  ·simp only [yx e,eA e,Bool.true_or,Option.isSome_some]
  ·rw [yw e,dB e,Bool.false_or];exact Ds k r
theorem Y7 (k j:κ) (y:V):∀kvs:List (κ×V),Ah (kvs.map fun kv=>if kv.1=k then (kv.1,y) else kv) j=(Ah kvs j).map fun x=>if j=k then y else x
 | []=>rfl
 |p::r=>by
  have ih:=Y7 k j y r;rw [aC];by_cases h:p.1=k
  ·rw [kA h];by_cases e:p.1=j
   ·rw [yx (p:=(p.1,y)) e,yx e,cI,kA (e.symm.trans h)]
   ·rw [yw (p:=(p.1,y)) e,yw e,ih]
  ·rw [oA h];by_cases e:p.1=j
   ·rw [yx (p:=p) e,yx e,cI,oA (fun z=>h (e.trans z))]
   ·rw [yw (p:=p) e,yw e,ih]
theorem Qv (k j:κ) (y:V):∀kvs:List (κ×V),Ah kvs k=none->Ah (kvs++[(k,y)]) j=if j=k then some y else Ah kvs j
 | [],_=>by
  by_cases e:k=j
  ·rw [kA e.symm];exact yx (p:=(k,y)) e
  ·rw [oA (fun z=>e z.symm)];exact yw (p:=(k,y)) e
 |p::r,hn=>by
  rw [jF];have hk:¬p.1=k:=fun z=>by rw [yx z] at hn;cases hn
  rw [yw hk] at hn;have ih:=Qv k j y r hn;by_cases e:p.1=j
  ·rw [yx e,yx e,oA (fun z=>hk (e.trans z))]
  ·rw [yw e,yw e,ih]
theorem Yv (kvs:List (κ×V)) (k j:κ) (y:V):Ah (putK kvs k y) j=if j=k then some y else Ah kvs j:=by
 unfold putK;by_cases a:(kvs.any fun kv=>decide (kv.1=k))=true
 ·rw [kA a,Y7];rw [Ds] at a;by_cases e:j=k
  ·obtain⟨x,hx⟩:=uE.mp a;rw [kA e,e,hx,cI,kA rfl]
  ·rw [oA e];cases Ah kvs j with
   |none=>rfl
   |some x=>rw [cI,oA e]
 ·rw [oA a];refine Qv k j y kvs ?_;rw [Ds] at a;cases q:Ah kvs k with
  |none=>rfl
  |some x=>rw [q] at a;exact (a rfl).elim
theorem Dj (kvs:List (κ×V)) (k:κ) (v:V):(putK kvs k v).length<=kvs.length+1:=by
 unfold putK;split
 ·rw [aA];omega
 ·rw [wA,fB,nE];omega
theorem qq4 {kvs:List (κ×V)} {k:κ} (v:V) (h:Ah kvs k=none):putK kvs k v=kvs++[(k,v)]:=by unfold putK;rw [Ds,h];exact oA (by decide)
theorem RelO.isSome_eq {o:Option V} {u:Option Value} (r:RelO o u):o.isSome=u.isSome:=by
 cases o with
 |none=>cases u with
  |none=>rfl
  |some _=>exact (show False from r).elim
 |some _=>cases u with
  |none=>exact (show False from r).elim
  |some _=>rfl
theorem KV.val {kvs:List (κ×V)} {vs:List (κ×Value)} (r:KV kvs vs) (k:κ):RelO (Ah kvs k) (valueAt vs k):=by
 unfold KV at r;induction r with
 |nil=>exact True.intro
 | @cons p q ps j h t ih=>
  obtain⟨h1,h2⟩:=h;by_cases e:p.1=k
  ·have D:q.1=k:=h1.symm.trans e;have b:valueAt (q::j) k=some q.2:=by simp [valueAt,dH,D]
   rw [yx e,b];exact h2
  ·have D:¬q.1=k:=fun z=>e (h1.trans z);have b:valueAt (q::j) k=valueAt j k:=by simp [valueAt,dH,D]
   rw [yw e,b];exact ih
theorem KV.any {kvs:List (κ×V)} {vs:List (κ×Value)} (r:KV kvs vs) (k:κ):(kvs.any fun kv=>decide (kv.1=k))=vs.any fun kv=>decide (kv.1=k):=by
 unfold KV at r;induction r with
 |nil=>rfl
 |cons h t ih=>rw [List.any_cons,List.any_cons,ih,h.1]
theorem KV.repl {kvs:List (κ×V)} {vs:List (κ×Value)} (r:KV kvs vs) (k:κ) {y:V} {u:Value} (j:RelV y u) :
  KV (kvs.map fun kv=>if kv.1=k then (kv.1,y) else kv) (vs.map fun kv=>if kv.1=k then (kv.1,u) else kv):=by
 unfold KV at r ⊢;induction r with
 |nil=>exact .nil
 | @cons p q ps qs h t ih=>
  rw [aC,aC];refine .cons ?_ ih;obtain⟨h1,h2⟩:=h;by_cases e:p.1=k
  ·rw [kA e,kA (h1.symm.trans e)];exact⟨h1,j⟩
  ·rw [oA e,oA (fun z=>e (h1.trans z))];exact⟨h1,h2⟩
theorem KV.put {kvs:List (κ×V)} {vs:List (κ×Value)} (r:KV kvs vs) (k:κ) {y:V} {u:Value} (j:RelV y u):KV (putK kvs k y) (stored vs k u):=by
 unfold putK stored;rw [r.any k];by_cases e:(vs.any fun kv=>decide (kv.1=k))=true
 ·rw [kA e,kA e];exact r.repl k j
 ·rw [oA e,oA e];exact Paired.snoc r ⟨rfl,j⟩
theorem KV.length {kvs:List (κ×V)} {vs:List (κ×Value)} (r:KV kvs vs):kvs.length=vs.length:=Paired.length r
end
theorem qv0 {P:Program} {w:World} {k:Key} {u:Value} (r:RelV (kV k) u):(xr P w).is k u=true:=by
 cases k with
 |inl i=>obtain⟨t,e⟩:=(show ∃t,u=Value.int i t from r);subst e;exact Wf P w i t
 |inr x=>obtain⟨t,e⟩:=(show ∃t,u=Value.str x t from r);subst e;exact Ww P w x t
theorem Uz {P:Program} {w:World}:∀{ks:List Key} {us:List Value},Vals (ks.map kV) us->ItemsAre (xr P w) ks us
 | [],_,r=>by rw [List.map_nil] at r;cases r;exact .nil
 |k::ks,_,r=>by
  rw [aC] at r;cases r with
  |cons h t=>exact .cons (qv0 h) (Uz t)
noncomputable abbrev KT (H:Hp):List (List Key×V)->List (List Key×Addr×Value)->Prop:=Paired fun p q=>p.1=q.1/\H q.2.1=some (.tup (p.1.map kV))/\RelV p.2 q.2.2
theorem KT.val {H:Hp} {kvs:List (List Key×V)} {xs:List (List Key×Addr×Value)} (r:KT H kvs xs) (k:List Key):RelO (Ah kvs k) ((atKey xs k).map (·.2)):=by
 induction r with
 |nil=>exact True.intro
 | @cons p q ps j h t ih=>
  obtain⟨h1,_,h2⟩:=h;by_cases e:p.1=k
  ·have D:q.1=k:=h1.symm.trans e;have b:atKey (q::j) k=some q.2:=by simp [atKey,dH,D]
   rw [yx e,b];exact h2
  ·have D:¬q.1=k:=fun z=>e (h1.trans z);have b:atKey (q::j) k=atKey j k:=by simp [atKey,dH,D]
   rw [yw e,b];exact ih
theorem KT.repl {H:Hp} {kvs:List (List Key×V)} {xs:List (List Key×Addr×Value)} (r:KT H kvs xs) (k:List Key) {y:V} {u:Value} (j:RelV y u) :
  KT H (kvs.map fun kv=>if kv.1=k then (kv.1,y) else kv) (xs.map (putAt k u)):=by
 induction r with
 |nil=>exact .nil
 | @cons p q ps qs h t ih=>
  rw [aC,aC];refine .cons ?_ ih;obtain⟨h1,h2,D⟩:=h;unfold putAt;by_cases e:p.1=k
  ·rw [kA e,kA (h1.symm.trans e)];exact⟨h1,h2,j⟩
  ·rw [oA e,oA (fun z=>e (h1.trans z))];exact⟨h1,h2,D⟩
theorem KT.put {H:Hp} {kvs:List (List Key×V)} {xs:List (List Key×Addr×Value)} (r:KT H kvs xs) (k:List Key) {b:Addr} {y:V} {u:Value} (hb:H b=some (.tup (k.map kV))) (j:RelV y u) :
  KT H (putK kvs k y) (storedH xs k b u):=by
 have e:(kvs.any fun kv=>decide (kv.1=k))=(atKey xs k).isSome:=by rw [Ds,(r.val k).isSome_eq,Option.isSome_map]
 unfold putK storedH;rw [e];by_cases q:(atKey xs k).isSome=true
 ·rw [kA q,kA q];exact r.repl k j
 ·rw [oA q,oA q];exact Paired.snoc r ⟨rfl,hb,j⟩
theorem KT.keeps {H H':Hp} {kvs:List (List Key×V)} {xs:List (List Key×Addr×Value)} (r:KT H kvs xs) (j:∀b ys,H b=some (.tup ys)->H' b=some (.tup ys)):KT H' kvs xs:=
 Paired.mapP r fun _ _ z=>⟨z.1,j _ _ z.2.1,z.2.2⟩
section
variable {P:Program} {w:World} {H:Hp} {h:Heap} {a:Addr}
theorem zj7 {u:HO} (ok:HOk P w H h) (e:Rd H a u):ObjOk P w H h a u:=e.ok ok
theorem zd2 {kvs:List (Key×V)} (ok:HOk P w H h) (e:Rd H a (.dK kvs)):kvs.length<=sizeLine/\(a == sysModules)=false/\∃vs,KV kvs vs/\h.DictOf (xr P w) a vs:=
 show ObjOk P w H h a (.dK kvs) from zj7 ok e
theorem zr0 {kvs:List (Key×V)} (ok:HOk P w H h) (e:H a=some (.dK kvs)):kvs.length<=sizeLine/\(a == sysModules)=false/\∃vs,KV kvs vs/\h.DictOf (xr P w) a vs:=zd2 ok (.inl e)
theorem Yd {ks:List Key} (ok:HOk P w H h) (e:H a=some (.tup (ks.map kV))):(tupleKind (xr P w)).is h ks a:=by
 obtain⟨_,its,r,o,h1,h2,n,j⟩:=(show ObjOk P w H h a (.tup (ks.map kV)) from ok a _ e)
 exact⟨o,its.toArray,n,h1,h2,j,by simpa using Uz r⟩
theorem zf4 {kvs:List (List Key×V)} (ok:HOk P w H h) (e:Rd H a (.dT kvs)):kvs.length<=sizeLine/\(a == sysModules)=false /\
  ∃xs,KT H kvs xs/\h.DictOfH (tupleKind (xr P w)) a xs:=by
 obtain⟨z,y,xs,r,o,es,ep,h1,h2,D,F,G⟩:=(show ObjOk P w H h a (.dT kvs) from zj7 ok e)
 refine⟨z,y,xs,r,o,es,ep,h1,h2,D,F,fun x hx=>?_,G⟩;have all:∀{l:List (List Key×V)} {m:List (List Key×Addr×Value)},KT H l m->∀x∈m,(tupleKind (xr P w)).is h x.1 x.2.1:=by
  intro l m q;induction q with
  |nil=>intro x hx;exact nomatch hx
  | @cons p q ps qs j t ih=>
   intro x hx;rcases gB.mp hx with e |hx
   ·subst e;exact Yd ok (by rw [←j.1];exact j.2.1)
   ·exact ih x hx
 exact all r x hx
theorem zr1 {kvs:List (List Key×V)} (ok:HOk P w H h) (e:H a=some (.dT kvs)):kvs.length<=sizeLine/\(a == sysModules)=false /\
  ∃xs,KT H kvs xs/\h.DictOfH (tupleKind (xr P w)) a xs:=zf4 ok (.inl e)
end
noncomputable def DGet (H:Hp) (a:Addr) (y:V) (r:Option V):Prop:=
 (∃kvs k,Rd H a (.dK kvs)/\y=kV k/\r=Ah kvs k)\/∃kvs k b,Rd H a (.dT kvs)/\y=.ref b/\H b=some (.tup (k.map kV))/\r=Ah kvs k
noncomputable def DPut (H:Hp) (a:Addr) (y v:V) (H':Hp):Prop:=
 (∃kvs k,H a=some (.dK kvs)/\y=kV k/\kvs.length < sizeLine/\H'=upd H a (.dK (putK kvs k v))) \/
 ∃kvs k b,H a=some (.dT kvs)/\y=.ref b/\H b=some (.tup (k.map kV))/\kvs.length < sizeLine/\H'=upd H a (.dT (putK kvs k v))
theorem DGet.t {H:Hp} {a b:Addr} {kvs:List (List Key×V)} {k:List Key} (e:H a=some (.dT kvs)) (j:H b=some (.tup (k.map kV))):DGet H a (.ref b) (Ah kvs k):=.inr ⟨kvs,k,b,.inl e,rfl,j,rfl⟩
theorem DPut.t {H:Hp} {a b:Addr} {kvs:List (List Key×V)} {k:List Key} {v:V} (e:H a=some (.dT kvs)) (j:H b=some (.tup (k.map kV))) (hl:kvs.length < sizeLine) :
  DPut H a (.ref b) v (upd H a (.dT (putK kvs k v))):=.inr ⟨kvs,k,b,e,rfl,j,hl,rfl⟩
section
variable {X:Cx} {pins:List (Addr×Obj)} {σ:St} {H:Hp} {s:Shared} {a:Addr} {y v:V} {u r:Value} {o:Option V} {A:Around} {E:Value->Shared->Prop}
theorem Inv.big (I:Inv X pins σ H s):sysModules < s.heap.objs.size:=by have h:mainGlobals < s.heap.objs.size:=(I.mod.glob.keeps I.bk).lt;exact Nat.lt_trans (by decide) h
theorem zw4 {Q:Value->Shared->Prop} (F:A.units+1 < cLine) (I:Inv X pins σ H s) (g:DGet H a y o) (D:RelV y u) (h:∀s',Inv X pins σ H s'->Q (.bool o.isSome) s') :
  wpAny (model X.prog X.w) A (compareOp .In u (.ref a)) Q E s:=by
 rcases g with ⟨kvs,k,e,j,l⟩ |⟨kvs,k,b,e,j,G,l⟩
 ·subst j;obtain⟨z,hd,vs,rel,dd⟩:=zd2 I.hok e;refine wpAny_in_of (qv0 D) hd dd.mapOf ?_;rw [←(rel.val k).isSome_eq,←l];exact h _ (I.tok _)
 ·subst j;cases (show u=Value.ref b from D);obtain⟨z,hd,xs,rel,dd⟩:=zf4 I.hok e;refine wpAny_in_heap (tupleKind_room_in1 F) (Yd I.hok G) hd dd ?_;have q:=(rel.val k).isSome_eq;rw [Option.isSome_map] at q;rw [←q,←l];exact h _ (I.tok _)
theorem zg5 {Q:Value->Shared->Prop} (F:A.units+1 < cLine) (I:Inv X pins σ H s) (g:DGet H a y o) (D:RelV y u) (h:∀s',Inv X pins σ H s'->Q (.bool (!o.isSome)) s') :
  wpAny (model X.prog X.w) A (compareOp .NotIn u (.ref a)) Q E s:=by
 rcases g with ⟨kvs,k,e,j,l⟩ |⟨kvs,k,b,e,j,G,l⟩
 ·subst j;obtain⟨z,hd,vs,rel,dd⟩:=zd2 I.hok e;refine wpAny_notIn_of (qv0 D) hd dd.mapOf ?_;rw [←(rel.val k).isSome_eq,←l];exact h _ (I.tok _)
 ·subst j;cases (show u=Value.ref b from D);obtain⟨z,hd,xs,rel,dd⟩:=zf4 I.hok e;refine wpAny_notIn_heap (tupleKind_room_in1 F) (Yd I.hok G) hd dd ?_;have q:=(rel.val k).isSome_eq;rw [Option.isSome_map] at q;rw [←q,←l];exact h _ (I.tok _)
theorem qf8 {h':Heap} {t':Nat} {j:HO} (I:Inv X pins σ H s) (D:Mut (H a)) (hs:Heap.SameBut a s.heap h') (he:∃q,h'.get? a=some q) (new:ObjOk X.prog X.w (upd H a j) h' a j) :
  Inv X pins σ (upd H a j) { s with heap:=h',toks:=t'}:=
 I.write (x:=a) (e:=a) D (.inl rfl) (fun b q hb z=>(hs.2 b hb).trans z) he new
theorem zp8 {P:Program} {w:World} {H':Hp} {h':Heap} {kvs:List (Key×V)} {vs:List (Key×Value)} (z:kvs.length<=sizeLine) (hd:(a == sysModules)=false) (rel:KV kvs vs) (dd:h'.DictOf (xr P w) a vs) :
  ObjOk P w H' h' a (.dK kvs):=⟨z,hd,vs,rel,dd⟩
theorem qg1 {H':Hp} {Q:Unit->Shared->Prop} (Z:A.units+1 < cLine) (I:Inv X pins σ H s) (g:DPut H a y v H') (O:RelV y u) (S:RelV v r) (h:∀s',Inv X pins σ H' s'->Q () s') :
  wpAny (model X.prog X.w) A (setItem (.ref a) u r) Q E s:=by
 rcases g with ⟨kvs,k,e,F,l,G⟩ |⟨kvs,k,b,e,F,U,l,G⟩
 ·subst F G;obtain⟨z,hd,vs,rel,dd⟩:=zr0 I.hok e;have J:vs.length<=sizeLine:=by rw [←rel.length];exact z
  have hl:(putK kvs k v).length<=sizeLine:=by have:=Dj kvs k v;omega
  refine wpAny_setItem_pairs (hsz:=J) (qv0 O) dd fun h' j hs=>h _ ?_;have he:∃q,h'.get? a=some q:=let ⟨q,_,_,D,_⟩:=j;⟨q,D⟩;exact qf8 I (by rw [e];exact True.intro) hs he (zp8 hl hd (rel.put k S) j)
 ·subst F G;cases (show u=Value.ref b from O);obtain⟨z,hd,xs,rel,dd⟩:=zr1 I.hok e;have J:xs.length<=sizeLine:=by rw [←Paired.length rel];exact z
  have hl:(putK kvs k v).length<=sizeLine:=by have:=Dj kvs k v;omega
  refine wpAny_setItem_heap (hsz:=J) (tupleKind_room_in1 Z) (Yd I.hok U) dd fun h' j hs=>h _ ?_;obtain⟨q,es,ep,D,h2,h3,h4,_,h5⟩:=j;refine qf8 I (by rw [e];exact True.intro) hs ⟨q,D⟩ ⟨hl,hd,_,(rel.put k U S).keeps fun c ys Y=>?_,q,es,ep,D,h2,h3,h4,h5⟩;rw [qu (Nx Y e (fun z=>nomatch z))];exact Y
end
section
variable {X:Cx} {pins:List (Addr×Obj)} {σ:St} {H:Hp} {s:Shared} {a:Addr} {kvs:List (Key×V)} {k:Key} {u:Value} {A:Around} {E:Value->Shared->Prop}
end
inductive tDInI (Q:VK) (y:V) (x:V) (H2:Hp):Prop
 |mk (a o:_) (_:x=.ref a) (_:DGet H2 a y o) (_:Q (.bl o.isSome) H2)
noncomputable def zx0 (ty td:TE):TE:=fun σ H Q=>ty σ H fun y H1=>td σ H1 fun x H2=>tDInI Q y x H2
inductive tDNotInI (Q:VK) (y:V) (x:V) (H2:Hp):Prop
 |mk (a o:_) (_:x=.ref a) (_:DGet H2 a y o) (_:Q (.bl (!o.isSome)) H2)
noncomputable def zd1 (ty td:TE):TE:=fun σ H Q=>ty σ H fun y H1=>td σ H1 fun x H2=>tDNotInI Q y x H2
inductive sDPutI (D:Ends) (σ:St) (v:V) (x:V) (y:V) (H3:Hp):Prop
 |mk (a H4:_) (_:x=.ref a) (_:DPut H3 a y v H4) (_:D.nx σ H4)
noncomputable def zt8 (td ty tv:TE):TS:=fun D σ H=>tv σ H fun v H1=>td σ H1 fun x H2=>ty σ H2 fun y H3=>sDPutI D σ v x y H3
section
variable {X:Cx} {o i e value:Expr} {pos pos' tpos:Pos} {td ty tv:TE}
theorem qj2 (j:X.A.units+1 < cLine) (hi:PE X i ty) (D:PE X o td):PC X .In i o (zx0 ty td):=by intro pins s σ H Q I h;refine thn (hi pins s σ H _ I h) fun iv s1 ⟨y,H1,F,G,q1⟩=>thn (D pins s1 σ H1 _ F q1) fun u s2 ⟨x,H2,J,O,a,S,ex,g,q2⟩=>?_;subst ex;obtain rfl:u=Value.ref a:=O;exact zw4 j J g G fun s3 U=>⟨.bl S.isSome,H2,U,rfl,q2⟩
theorem qn9 (j:X.A.units+1 < cLine) (hi:PE X i ty) (D:PE X o td):PC X .NotIn i o (zd1 ty td):=by intro pins s σ H Q I h;refine thn (hi pins s σ H _ I h) fun iv s1 ⟨y,H1,F,G,q1⟩=>thn (D pins s1 σ H1 _ F q1) fun u s2 ⟨x,H2,J,O,a,S,ex,g,q2⟩=>?_;subst ex;obtain rfl:u=Value.ref a:=O;exact zg5 j J g G fun s3 U=>⟨.bl (!S.isSome),H2,U,rfl,q2⟩
theorem Xk (j:X.A.units+1 < cLine) (F:PE X o td) (hi:PE X i ty) (G:PE X value tv) (hs:swapsWith value (some (.Subscript o i pos')) pos.line X.env=pure false) :
  PS X (.Assign [.Subscript o i pos'] value pos) (zt8 td ty tv):=by
 intro pins s σ H D I h;refine wpAny_Assign_Subscript (thn (G pins s σ H _ I h) fun r s1 ⟨v,H1,J,O,q1⟩=>thn (F pins s1 σ H1 _ J q1) fun u s2 ⟨x,H2,S,U,q2⟩=>thn (hi pins s2 σ H2 _ S q2) fun iv s3 ⟨y,H3,Y,Z,a,H4,ex,g,q3⟩=>?_) hs;subst ex;obtain rfl:u=Value.ref a:=U;exact qg1 j Y g Z O fun s4 I4=>⟨σ,H4,I4,q3⟩
end
theorem qp0 {P:Program} {w:World} {H:Hp} (h:Heap) (hb:sysModules < h.objs.size):ObjOk P w H (h.push { cls:=.type "dict",data:=.dict #[]}) h.objs.size (.dT []):=
 ⟨yB _,beq_eq_false_iff_ne.mpr (eE (rC hb)),[],.nil,_,#[],0,zB _ rfl,⟨rfl,rfl,rfl⟩,rfl,rfl,List.nodup_nil⟩
noncomputable def zp3:TE:=fun _ H Q=>∀p,H p=none->Q (.ref p) (upd H p (.dT []))
section
variable {X:Cx} {pos:Pos}
theorem Ni:PE X (.Dict [] [] pos) zp3:=fun pins s σ H Q I h=>
 wpAny_Dict_empty ⟨.ref s.heap.objs.size,_,I.laid (a:=s.heap.objs.size) (o:=.dT []) (t':=s.toks) (fun _ _ q=>iA _ q) (dA _) (qp0 s.heap I.big),rfl,h _ (I.hok.fresh (dA _))⟩
end
section
variable {X:Cx} {pins:List (Addr×Obj)} {σ:St} {H:Hp} {s:Shared} {a:Addr} {y d:V} {u r:Value} {o:Option V} {A:Around} {E:Value->Shared->Prop}
end
section
variable {X:Cx} {o e f:Expr} {apos cpos:Pos} {td ty tx:TE}
end
section
variable {X:Cx} {pins:List (Addr×Obj)} {σ:St} {H:Hp} {s:Shared} {a:Addr} {kvs:List (Key×V)} {A:Around} {E:Value->Shared->Prop}
end
section
variable {X:Cx} {pins:List (Addr×Obj)} {σ:St} {H:Hp} {s:Shared} {a:Addr} {y:V} {u:Value} {A:Around} {E:Value->Shared->Prop}
end
end L2
namespace Att
open PySem PySem.W PySem.Calls PyProof.Rows
theorem Jp {P:Params} {h:Heap}:∀(ns:List Int) (vs:List Value),WellAll P h vs (ns.map WData.int)->IntsAre vs ns:=by
 intro ns;induction ns with
 |nil=>intro vs w;rw [List.map_nil] at w;cases w;exact .nil
 |cons n ns ih=>
  intro vs w;rw [aC] at w;cases w with
  |cons a b=>cases a;exact .cons _ _ (ih _ b)
theorem qi7 {l:OpenLaw} {n:Nat} (hn:l.most=some n) {P:Params} {h:Heap} {args:List WData} {vals:List Value}
  (j:l.row.toRowW.claim.pre args=true) (J:WellAll P h vals args) :
  ∃a vs ns,vals=[Value.ref a]/\args=[WData.list (ns.map WData.int)]/\h.get? a=some { cls:=.type "list",data:=.seq vs.toArray}/\IntsAre vs ns/\ns.length<=n:=by
 have O:WShape.hasAll [] args [.list .int]=true:=(pre_splitW j).1;have S:l.pre.holds [] { args:=args}=true:=(pre_splitW j).2;obtain⟨d,r,rfl,h1,h2⟩:=hasAllW_cons O;obtain rfl:=hasAllW_nil h2;obtain⟨xs,rfl,U⟩:=hasW_list h1;obtain⟨ns,rfl⟩:=items_int U;have hlen:ns.length<=n:=by
  unfold OpenLaw.pre at S;have F:(WTm.not (.lt (.lit (.int (n:Int))) (.len (.arg 0)))).holds [] { args:=[.list (ns.map .int)]}=true:=by have F:=(holds_andW S).1;rw [hn] at F;exact F
  have G:=condW_of F (w_not (w_lt w_lit (w_len_list (w_arg rfl))));rw [aA] at G;refine Nat.le_of_not_lt fun q=>?_;have Y:(n:Int) < ((ns.length:Nat):Int):=by omega
  first
   |(rw [eA Y] at G;exact absurd G (by decide))
   |(simp at G;omega)
 cases J with
 |cons w1 Z=>
  cases Z;cases w1 with
  |list ho D=>exact⟨_,_,ns,rfl,rfl,ho,Jp ns _ D,hlen⟩
theorem qd8 (l:OpenLaw) (args:List WData):l.row.toRowW.claim.post args (.bool true) args=true:=
 postW_of (r:=l.row.toRowW) (X:=(true == true))
  (show WShape.has [] (.bool true) .bool=true by first |rfl |decide |simp [WShape.has,WShape.arms,WShape.armsAll])
  (show (WTm.eq .res (.lit (.bool true))).value [] { args:=args,res:=some (.bool true),after:=args}=some (.bool (true == true)) from w_eq_bool (w_res rfl) w_lit) rfl
theorem attach_call {l:OpenLaw} {n:Nat} {q:Program} {loose:List Str} {XP:(Str->Option Value)->Heap->Prop} {YP:World->Heap->Prop} {d:DefRec}
  (hn:l.most=some n) (O:d.params.defaults=[])
  (call:∀(w:World) (s₀ j:Shared) (mg mb:Str->Option Value) (D:Addr) (o:Obj) (pm cd doc:Value) (a:Addr) (vs:List Value) (ns:List Int),
   Ground q loose [] XP w s₀ mg mb j.heap->YP w j.heap ->
   j.heap.get? D=some o->o.data=.func (docDef d.name d.params d.body d.scope pm cd doc)->j.heap.CodeRec cd d.name->mg d.name=some (.ref D) ->
   j.heap.get? a=some { cls:=.type "list",data:=.seq vs.toArray}->IntsAre vs ns->ns.length<=n->j.gens=#[] ->
   codeAny (model l.prog w) callerA (.call (.ref D) ⟨[.ref a],[]⟩) (fun r s'=>r=.ok (.ret (.bool true))/\OldK j.heap s'.heap/\s'.os=j.os/\AllBare s'.gens) j) :
  WalkO q loose XP YP l.row.toRowW d [] (fun f vs=>PySem.call f vs):=by
 intro w s₀ j mg mb G Y D o pm cd doc dV kV ho hd S hD U hg args vals as F hlay hrd Z hlo;obtain rfl:dV=.none:=Dflts.none hD O;obtain rfl:kV=.none:=Dflts.noKw hD;obtain⟨a,vs,ns,rfl,rfl,J,hints,hlen⟩:=qi7 hn F Z;refine enter_call (codeAny_mono (call w s₀ j mg mb D o pm cd doc a vs ns G Y ho (fd_plain hd) S U J hints hlen hg) fun r s' hq=>?_);obtain⟨rfl,h2,h3,h4⟩:=hq;exact⟨.inl ⟨.bool true,.bool true,[],rfl,fun _=>rfl,.bool true,qd8 l _,fun _=>⟨List.Pairwise.nil,fun _ hm=>(nomatch hm)⟩⟩,h2,h3,h4⟩
section
variable {prog:Program} {w:World} {A:Around} {E:Value->Shared->Prop} {s:Shared} {K:Frag}
end
end Att
namespace L2
open PySem PySem.Spec PyProof.Rows
theorem Q4:∀{vs:List Value} {ns:List Int},IntsAre vs ns->Vals (ns.map V.int) vs
 |_,_,.nil=>.nil
 |_,_,.cons n t h=>.cons ⟨t,rfl⟩ (Q4 h)
noncomputable def Only (H:Hp):Prop:=∀b,H b=none\/∃o xs,H b=some (.frz o (.lst xs))
theorem qo7 {P:Program} {w:World} {K:PySem.W.Frag} {mg mb:Str->Option Value} {CX:CXT} {k:Nat} {fa a:Addr} {fd:FuncData} {x:Str} {sp:Sp} {j:Shared} {vs:List Value} {ns:List Int}
  (KX:K.In j.heap) (O:j.heap.Ns mainGlobals mg) (hb:j.heap.Ns builtinsNs mb) (a3:∀x:Str,x ≠ "__name__" -> mb x=bootBuiltins x) (S:j.heap.NoLimit) (hg:j.gens=#[])
  (ha:j.heap.get? a=some { cls:=.type "list",data:=.seq vs.toArray}) (hi:IntsAre vs ns) (hl:ns.length<=sizeLine) (hr:Room k callerA)
  (F:∀base:Heap,K.In base->base.Ns mainGlobals mg->FnOk P w K mg base CX k fa fd [x] sp) (J:∀(s:Shared) (u:Value),BindsTo s fd ⟨[u],[]⟩ [(x,u)])
  (a4:∀H:Hp,Only H->SqL K H a (ns.map V.int)->sp [.ref a] H (fun v _=>v=.bl true) fun _ _ _=>False)
  (a5:∀H e s',CX [] H j (fun _ _ _=>False) e s'->False) :
  codeAny (model P w) callerA (.call (.ref fa) ⟨[.ref a],[]⟩) (fun r s'=>r=.ok (.ret (.bool true))/\OldK j.heap s'.heap/\s'.os=j.os/\AllBare s'.gens) j:=by
 have rv:=Q4 hi;have U:=hi.length;have core:∀H:Hp,Only H->SqL K H a (ns.map V.int)->HOk P w H j.heap->(∀b,H b≠none->b=a)->(H a≠none->K.lookup a=none) ->
   codeAny (model P w) callerA (.call (.ref fa) ⟨[.ref a],[]⟩) (fun r s'=>r=.ok (.ret (.bool true))/\OldK j.heap s'.heap/\s'.os=j.os/\AllBare s'.gens) j:=by
  intro H hO hS hok hA hK;have D:∀{b:Addr} {o:Obj},j.heap.get? b=some o->H b=none->(qq9 j.heap H).get? b=some o:=fun e n=>qr8 e n;have a6:∀{b:Addr} {o:Obj} {es:Array DictEntry} {ep:Nat},j.heap.get? b=some o->o.data=.dict es ep->H b=none:=fun {b o es ep} e d=>by
   cases q:H b with
   |none=>rfl
   |some u=>have e':b=a:=hA b (by rw [q];simp);subst e';rw [ha] at e;cases e;have d':Data.seq vs.toArray _=Data.dict es ep:=d;cases d'
  have G:∀{b:Addr} {m:Str->Option Value},j.heap.Ns b m->(qq9 j.heap H).Ns b m:=fun {b m} ⟨o,es,ep,e,d,r⟩=>⟨o,es,ep,D e (a6 e d),d,r⟩
  have Y:K.In (qq9 j.heap H):=fun b o e=>D (KX b o e) (by
   cases q:H b with
   |none=>rfl
   |some u=>have e':b=a:=hA b (by rw [q];simp);subst e';rw [hK (by rw [q];simp)] at e;cases e)
  have hM:Mod K mg (qq9 j.heap H):=⟨Y,G O,⟨mb,G hb,a3⟩,let ⟨mc,h1,h2⟩:=S;⟨mc,G h1,h2⟩⟩
  have e0:Env0 P w K mg (qq9 j.heap H) callerA [] j H:=⟨rfl,hM,fun b o e=>zb2 e,Nat.le_of_eq (qj0 _ _),trivial,fun b hb=>absurd (show b∈([]:List Addr) from hb) (by simp),hok,.of_eq hg⟩
  refine codeAny_mono ((F _ Y (G O)).run callerA [] j H ⟨[.ref a],[]⟩ [.ref a] [.ref a] _ _ hr e0 (J j (.ref a)) (.cons rfl .nil) (a4 H hO hS)) fun r s' h=>?_;cases r with
  |error e=>exact (a5 H e s' h).elim
  |ok fl=>
   cases fl with
   |next=>exact False.elim h
   |brk=>exact False.elim h
   |cont=>exact False.elim h
   |ret u=>
    obtain⟨v,H',os,bare,un,Z,r',q⟩:=h;have q':v=.bl true:=q;subst q';obtain rfl:u=Value.bool true:=r';refine⟨rfl,OldK.of_keep fun b o e=>?_,os,bare⟩;cases q:H b with
    |none=>exact un.keep b o e q (by intro z;exact absurd (show b∈([]:List Addr) from z) (by simp)) (by simp)
    |some u=>
     rcases hO b with z |⟨ob,xs,z⟩
     ·rw [q] at z;cases z
     ·have z2:=un.frzs b ob _ z;obtain⟨e1,_⟩:=hok b _ z;obtain⟨e2,_⟩:=Z b _ z2;rw [e] at e1;cases e1;exact e2
 cases hk:K.lookup a with
 |some o=>have e:=KX a o hk;rw [ha] at e;cases e;refine core (fun _=>none) (fun _=>.inl rfl) (.inr ⟨_,vs.toArray,_,hk,rfl,rfl,rfl,by rw [qA,U];exact hl,by simpa using rv⟩) (fun b u z=>by have z':(none:Option HO)=some u:=z;cases z') (fun b z=>absurd rfl z) fun z=>absurd rfl z
 |none=>
  refine core (fun b=>if b=a then some (.frz { cls:=.type "list",data:=.seq vs.toArray} (.lst (ns.map V.int))) else none) (fun b=>?_) (.inl (.inr ⟨{ cls:=.type "list",data:=.seq vs.toArray},kA rfl⟩)) (fun b u z=>?_) (fun b z=>?_) fun _=>hk
  ·by_cases hb:b=a
   ·exact .inr ⟨_,_,kA hb⟩
   ·exact .inl (oA hb)
  ·by_cases hb:b=a
   ·have z':=(kA hb).symm.trans z;cases z';subst hb;exact⟨ha,by rw [aA];exact hl,vs,_,rv,ha⟩
   ·have z':=(oA hb).symm.trans z;cases z'
  ·by_cases hb:b=a
   ·exact hb
   ·exact absurd (oA hb) z
theorem walk_of {l:PySem.W.OpenLaw} {n k:Nat} {q:Program} {loose:List Str} {XP:(Str->Option Value)->Heap->Prop} {YP:World->Heap->Prop} {d:DefRec} {K:Params->PySem.W.Frag} {CX:World->CXT} {sp:World->Sp} {x:Str}
  (hn:l.most=some n) (O:n<=sizeLine) (S:d.params.defaults=[]) (hr:Room k callerA)
  (hY:∀(w:World) (h:Heap),YP w h->(K w.params).In h)
  (F:∀(w:World) (mg:Str->Option Value) (J:Addr) (h:Heap),(K w.params).In h->h.Ns mainGlobals mg->mg d.name=some (.ref J) ->
   ∃fd:FuncData,(∀(s:Shared) (u:Value),BindsTo s fd ⟨[u],[]⟩ [(x,u)]) /\
    ∀base:Heap,(K w.params).In base->base.Ns mainGlobals mg->FnOk l.prog w (K w.params) mg base (CX w) k J fd [x] (sp w))
  (U:∀(w:World) (H:Hp) (a:Addr) (ns:List Int),ns.length<=n->Only H->SqL (K w.params) H a (ns.map V.int)->sp w [.ref a] H (fun v _=>v=.bl true) fun _ _ _=>False)
  (Z:∀(w:World) (H:Hp) (s:Shared) (e:Value) (s':Shared),CX w [] H s (fun _ _ _=>False) e s'->False) :
  PySem.W.WalkO q loose XP YP l.row.toRowW d [] (fun f vs=>PySem.call f vs):=by
 refine Att.attach_call hn S fun w s₀ j mg mb J o pm cd doc a vs ns G Y ho hd hcd a3 D hints hlen hg=>?_;have KX:=hY w _ Y;obtain⟨fd,hb,hF⟩:=F w mg J _ KX G.T.g a3;exact qo7 KX G.T.g G.T.b G.T.builtins G.T.nolimit hg D hints (aD hlen O) hr hF hb (fun H hO hS=>U w H a ns hlen hO hS) fun H e s'=>Z w H j e s'
noncomputable def Az (s:Stmt):Arguments:=match s with
 | .FunctionDef _ a _ _ _ _ _ _ _ _=>a
 |_=>{ posonlyargs:=[],args:=[],vararg:=none,kwonlyargs:=[],kw_defaults:=[],kwarg:=none,defaults:=[]}
noncomputable def zy (s:Stmt):List Stmt:=match s with
 | .FunctionDef _ _ b _ _ _ _ _ _ _=>b
 |_=>[]
noncomputable def qm (s:Stmt):Scope:=match s with
 | .FunctionDef _ _ _ _ _ _ sc _ _ _=>sc
 |_=>{ kind:=.function,names:=[],isGenerator:=false,isCoroutine:=false}
noncomputable abbrev CX0:CXT:=fun _ _ _ _ _ _=>False
noncomputable abbrev E0:XK:=fun _ _ _=>False
theorem zt7 {X:Cx}:Ys CX0 X E0:=fun _ _ _ _ _ _ _ h=>h.elim
structure Fun (K:PySem.W.Frag) (x qual:Str) (st:Stmt) (f:Addr) (fd:FuncData):Prop where
  ex:∃(oc:Value) (od:Option Addr) (kV doc pm:Value) (an:Option Addr) (cdv ct:Value) (osl:Array (Option Value)),
    fd=PySem.W.fnOf x qual (Az st) (zy st) (qm st) .none kV doc pm an cdv ct/\K.lookup f=some ⟨oc,od,.func fd,osl⟩/\PySem.W.codeIn K cdv qual=true
  kp:PySem.W.keepIn K (.ref f)=true
section
variable {P:Program} {w:World} {K:PySem.W.Frag} {mg:Str->Option Value} {base:Heap}
theorem Fun.ok {x qual:Str} {st:Stmt} {f:Addr} {fd:FuncData} {N ps:List Str} {k:Nat} {sp:Sp} (F:Fun K x qual st f fd) (S:FnScope N ps (qm st)) (len:∀vs H Q E,sp vs H Q E->vs.length=ps.length)
  (j:∀(cdv:Value) (A:Around) (outer:List Env) (s:Shared) (H:Hp) (vs:List V) (Q:VK) (E:XK),Room k (A.deeper (envOfC qual (qm st) s.heap.objs.size f cdv))->sp vs H Q E ->
   ∃t,PSs (vz CX0 P w K mg base N qual (qm st) f cdv A outer s H E).nox (zy st) t/\t { nx:=fun _ H'=>Q .non H',rt:=Q} (start N vs) H):FnOk P w K mg base CX0 (k+1) f fd ps sp:=by
 obtain⟨oc,od,kV,doc,pm,an,cdv,ct,osl,rfl,J,D⟩:=F.ex;refine zj4 J D S len fun A outer s H vs Q E O G=>?_;obtain⟨t,h,q⟩:=j cdv A outer s H vs Q E O G;exact⟨t,h.nox,q⟩
theorem Fun.binds {x qual:Str} {st:Stmt} {f:Addr} {fd:FuncData} {ps:List Str} (F:Fun K x qual st f fd)
  (h:∀(kV doc pm:Value) (an:Option Addr) (cdv ct:Value) (us:List Value),us.length=ps.length->bindArgs (PySem.W.fnOf x qual (Az st) (zy st) (qm st) .none kV doc pm an cdv ct) ⟨us,[]⟩=pure (ps.zip us)):Binds K fd ps []:=by
 obtain⟨oc,od,kV,doc,pm,an,cdv,ct,osl,rfl,lk,hcd⟩:=F.ex;exact .all (h kV doc pm an cdv ct)
theorem za2 {x qual:Str} {st:Stmt} {f:Addr} {oc:Value} {od an:Option Addr} {osl:Array (Option Value)} {kV doc pm cdv ct:Value} (l:K.lookup f=some ⟨oc,od,.func (PySem.W.fnOf x qual (Az st) (zy st) (qm st) .none kV doc pm an cdv ct),osl⟩)
  (c:PySem.W.codeIn K cdv qual=true) (k:PySem.W.keepIn K (.ref f)=true):Fun K x qual st f (PySem.W.fnOf x qual (Az st) (zy st) (qm st) .none kV doc pm an cdv ct):=⟨⟨oc,od,kV,doc,pm,an,cdv,ct,osl,rfl,l,c⟩,k⟩
end
theorem zl5 {A:Around} {k:Nat} (j:Room k A):A.units+1 < cLine:=Nat.lt_of_le_of_lt (Nat.add_le_add_left (by decide:1<=64) _) j.units
theorem zf {n:Nat} (h:n<=1000):n < sizeLine:=Nat.lt_of_le_of_lt h (by decide)
section
variable {X:Cx}
theorem pv (i:Nat) {x:Str} {pos:Pos} (D:X.N[i]? = some x:=by rfl) (F:Vis X.env.scope x:=by first |exact Or.inl rfl |exact Or.inr (Or.inl rfl) |exact Or.inr (Or.inr rfl)) (hd:(x == ("__debug__" : Str))=false:=by decide)
  (j:(x == ("__classdict__" : Str))=false:=by decide):PE X (.Name x pos) (zi3 i):=qz5 D F hd j
end
theorem ul {A B:Prop} (h:B):if false=true then A else B:=by rw [oA bB];exact h
theorem Ab {A B:Prop} (h:A):if true=true then A else B:=by rw [kA rfl];exact h
theorem kh {c A B:Prop} [Decidable c] (h1:c->A) (h2:¬c->B):if c then A else B:=by
 by_cases h:c
 ·rw [kA h];exact h1 h
 ·rw [oA h];exact h2 h
theorem zi8 {c A B:Prop} [Decidable c] (j:c) (h:B):if (!decide c)=true then A else B:=by rw [eA j];exact ul h
noncomputable def Same (H H':Hp):Prop:=∀b o,H b=some o->H' b=some o
theorem Same.trans {H H1 H2:Hp} (a:Same H H1) (b:Same H1 H2):Same H H2:=fun c o h=>b c o (a c o h)
theorem Same.free {H H':Hp} (e:Same H H') {l:Addr} (h:H' l=Option.none):H l=Option.none:=by
 cases q:H l with
 |none=>rfl
 |some o=>rw [e l o q] at h;cases h
theorem Same.seq {K:PySem.W.Frag} {H H':Hp} {a:Addr} {xs:List V} (e:Same H H') (h:SqL K H a xs):SqL K H' a xs:=by
 rcases h with (h |⟨o,h⟩) |h
 ·exact .inl (.inl (e _ _ h))
 ·exact .inl (.inr ⟨o,e _ _ h⟩)
 ·exact .inr h
section
variable {κ:Type} [DecidableEq κ]
end
section
variable {prog:Program} {w:World} {A:Around} {R:Result->Shared->Prop} {s:Shared}
theorem Wn {elt target iter:Expr} {ifs:List Expr} {scope:Scope} {pos:Pos} {it acc:Value} {env:Env} (I:Nat->Shared->Prop)
    (turn:∀n s,I n s->wpAny (model prog w) A (pyNext it) (fun r s1=>match r with
      |none=>R (.ok .next) s1
      |some v=>wpAny (model prog w) A (letOwnedTupleGo target it v) (fun _ s2=>wpAny (model prog w) A (assign target env v) (fun _ s3=>
          wpAny (model prog w) A (forIn ifs true fun c r=>if r=true then do let ok ←isTrue c env (eval c env);pure (ForInStep.yield ok) else pure (ForInStep.yield r)) (fun ok s4=>
            if ok=true then wpAny (model prog w) A (eval elt env) (fun x s5=>
              wpAny (model prog w) A (call (.builtin "list.append") [acc,x]) (fun _ j=>∃m,m < n/\I m j) (fun _ _=>False) s5) (fun _ _=>False) s4
            else ∃m,m < n/\I m s4) (fun _ _=>False) s3) (fun _ _=>False) s2) (fun _ _=>False) s1) (fun _ _=>False) s)
    (n:Nat) (h:I n s) :
    codeAny (model prog w) A (.compLoop (.ListComp elt [⟨target,iter,ifs,0⟩] scope pos) 0 it acc env) R s:=by
  refine codeAny_loop rfl I (fun n s F=>?_) n h;show wpAny _ A ((compTurn (.ListComp elt [⟨target,iter,ifs,0⟩] scope pos) 0 it acc env).onRaise (fun x=>do noteFrame x env;theTreesLotGoes x)) _ _ s;refine wpAny_noted ?_;rw [compTurn_list];refine cA (mF (cA (oC (turn n s F) (fun r s1 h1=>?_) fun _ _ h'=>h'.elim)));cases r with
  |none=>exact eB h1
  |some v=>
    refine cA (oC h1 (fun _ s2 h2=>cA (oC h2 (fun _ s3 G=>cA (oC G (fun ok s4 D=>?_) fun _ _ h'=>h'.elim)) fun _ _ h'=>h'.elim)) fun _ _ h'=>h'.elim);cases ok with
    |false=>exact eB ⟨rfl,D⟩
    |true=>exact cA (cA (oC D (fun x s5 J=>cA (oC J (fun _ j O=>eB (eB ⟨rfl,O⟩)) fun _ _ h'=>h'.elim)) fun _ _ h'=>h'.elim))
end
noncomputable def vd (X:Cx) (N1:List Str) (scope:Scope) (cl:List (Str×Addr)) (C:Addr) (s0:Shared) (j:Hp) (fp:List Addr):Cx where
  prog:=X.prog
  w:=X.w
  K:=X.K
  mg:=X.mg
  base:=X.base
  A:=X.A
  N:=N1
  s₀:=s0
  H₀:=j
  env:=compEnvC scope cl C X.env
  outer:=X.stack
  stack:=X.stack
  ex:=fp
  fn:=fun _=>false
  calm:=X.calm
  pn:=[]
  xe:=fun _ _=>False
structure CompOk (X:Cx) (scope:Scope) (cl:List (Str×Addr)) (N1:List Str) (cap:List (Option Nat)):Prop where
  clos:closureFor scope X.env=pure cl
  sub:∀x c,cl.lookup x=some c->X.env.cells.lookup x=some c
  kind:scope.kind=.function
  nocell:∀y∈scope.names,y.2≠.cell
  names:∀y∈scope.names,y.2=.local->scope.names.lookup y.1=some .local
  has:∀x,((relabel scope X.env).names.lookup x=some .cell\/(relabel scope X.env).names.lookup x=some .free)->∃c,cl.lookup x=some c
  len:cap.length=N1.length
  caps:∀(i:Nat) (x:Str) (j:Nat),N1[i]? = some x->cap[i]? = some (some j)->X.N[j]? = some x/\Vis X.env.scope x/\X.env.kindOf x≠some .local/\((relabel scope X.env).names.lookup x=some .cell\/(relabel scope X.env).names.lookup x=some .free)
noncomputable def qb1 (cap:List (Option Nat)) (σ:St):St:=cap.map fun o=>match o with
 |some j=>(σ[j]?).getD none
 |none=>none
noncomputable def PIf (X:Cx) (ifs:List Expr) (t:TT):Prop:=
  ∀(pins:List (Addr×Obj)) (s:Shared) (σ:St) (H:Hp) (Q:Bool->Hp->Prop),Inv X pins σ H s->t σ H Q ->
    wpAny (model X.prog X.w) X.A (forIn ifs true fun c r=>if r=true then do let ok ←isTrue c X.env (eval c X.env);pure (ForInStep.yield ok) else pure (ForInStep.yield r)) (TP X pins σ Q) X.xe s
theorem jy {X:Cx}:PIf X [] (fun _ H Q=>Q true H):=fun _ _ σ H Q I h=>wpAny_tests_nil ⟨H,I,h⟩
theorem Og {X:Cx} {c:Expr} {t:TT} (h:PT X c t):PIf X [c] t:=fun pins s σ H Q I q=>wpAny_tests_one (h pins s σ H Q I q)
noncomputable def Tq (J:It) (g:TG) (tt:TT) (te:TE) (acc:Addr) (F:St) (H1:Hp) (Q:VK):Prop:=
 ∃W:Nat->Nat->St->Hp->Prop,(∃m,W 0 m F (upd H1 acc (.lst [])))/\∀i m σ1 H2,W i m σ1 H2 ->
  (J.stop i H2/\Q (.ref acc) H2)\/(J.go i H2/\∃N:St->Hp->Prop,(∀D H',N D H'->∃G,G < m/\W (i+1) G D H')/\∀x H3,J.yld i H2 x H3->g x σ1 H3 fun j H4=>tt j H4 fun b O=>
   if b=true then te j O fun y H6=>∃xs,H6 acc=some (.lst xs)/\xs.length < sizeLine/\N j (upd H6 acc (.lst (xs++[y])))
   else N j O)
noncomputable def zm1 (j:TI) (g:TG) (tt:TT) (te:TE) (cap:List (Option Nat)):TE:=fun σ H Q=>j σ H fun J H1=>∀acc,H1 acc=none->Tq J g tt te acc (qb1 cap σ) H1 Q
section
variable {X:Cx} {tg elt iter:Expr} {ifs:List Expr} {scope:Scope} {cl:List (Str×Addr)} {N1:List Str} {cap:List (Option Nat)} {g:TG} {tt:TT} {te:TE} {pos:Pos}
 {pins:List (Addr×Obj)} {σ:St} {H1:Hp} {s2:Shared}
theorem zg0 (K:CompOk X scope cl N1 cap) {fp:List Addr} {s:Shared} {H:Hp} (I:Inv X pins σ H s) (hf:∀b∈fp,Zf X pins H b) (j:∀b∈fp,b < s.heap.objs.size) :
    (vd X N1 scope cl s.heap.objs.size s H fp).Ok where
  mod:=I.ok.mod
  kind:=K.kind
  glob:=I.ok.glob
  blt:=I.ok.blt
  above:=dA _
  inj:=fun x y c h1 h2=>I.ok.inj x y c (K.sub x c h1) (K.sub y c h2)
  has:=fun x h=>K.has x h
  cab:=fun x c h=>by cases (show false=true from h)
  hd:=I.ok.hd
  frames:=I.ok.frames
  stk:=.inl rfl
  exf:=fun b hb=>⟨rC (j b hb),fun x c h=>(hf b hb).2.2.2.2.1 x c (K.sub x c h)⟩
  bs:=I.bs
  bsz:=aD I.ok.bsz I.sz
  noex:=fun b o e hb=>by
    rcases (hf b hb).2.2.2.1 with z |z
    · exact I.ok.noex b o e z
    · exact absurd (qC (kB (I.ok.bs b o e).1) z) (nG _)
  exfs:=fun b hb z=>by
    rcases gB.mp (I.stkSub b z) with q |q
    · exact (hf b hb).2.1 q
    · exact (hf b hb).2.2.1 q
  funs:=I.stack
  frf:=I.stkFree
theorem Xq {J:It} {fp:List Addr} {it:Addr} {tn:Nat->Heap->Prop} {Q:VK} {RR:Value->Addr->Result->Shared->Prop} {E:Value->Shared->Prop}
  (K:CompOk X scope cl N1 cap) (hc:X.calm=true) (I:Inv X pins σ H1 s2) (T:Turn X.prog X.w X.K tg J fp it tn) (aa:tn 0 s2.heap) (f2:∀b∈fp,Zf X pins H1 b)
  (hg:∀C s0 H0 fp,PG (vd X N1 scope cl C s0 H0 fp) tg g) (ht:∀C s0 H0 fp,PIf (vd X N1 scope cl C s0 H0 fp) ifs tt) (he:∀C s0 H0 fp,PE (vd X N1 scope cl C s0 H0 fp) elt te)
  (h:∀acc,H1 acc=none->Tq J g tt te acc (qb1 cap σ) H1 Q)
  (ao:∀D C H' s',Inv X pins σ H' s'->(∃m,s'.heap.Ns C m)->Zf X pins H' C->Q (.ref D) H'->RR (.ref D) C (.ok .next) s') :
  wpAny (model X.prog X.w) X.A (newList []) (fun acc s3=>wpAny (model X.prog X.w) X.A (newFunctionEnv scope X.env.globals cl [] X.env.qual none .none (some X.env)) (fun a4 s4=>
   codeAny (model X.prog X.w) X.A (.compStart (.ListComp elt [⟨tg,iter,ifs,0⟩] scope pos) 0 (.ref it) acc { a4 with scope:=relabel scope X.env}) (RR acc a4.locals) s4) E s3) E s2:=by
 have fr:=I.hok.fresh (dA s2.heap.objs.size);obtain⟨W,⟨m0,w0⟩,turn⟩:=h _ fr;have objs:=T.obj 0 _ aa;have ae:∀b∈fp,b < s2.heap.objs.size:=fun b hb=>let ⟨o,e,_⟩:=objs b hb;kB e;refine kG ?_;have Y:Inv X pins σ (upd H1 s2.heap.objs.size (.lst [])) { s2 with heap:=s2.heap.push { cls:=.type "list",data:=.seq ([]:List Value).toArray},toks:=s2.toks}:=
  I.lnew (its:=[]) (t':=s2.toks) .nil (yB _)
 have af:∀b o,s2.heap.get? b=some o->(s2.heap.push { cls:=.type "list",data:=.seq ([]:List Value).toArray}).get? b=some o:=fun b o e=>iA _ e;have f3:∀b∈fp,Zf X pins (upd H1 s2.heap.objs.size (.lst [])) b:=fun b hb=>by obtain⟨z,r⟩:=f2 b hb;exact⟨by rw [qu (rC (ae b hb))];exact z,r⟩
 have a5:tn 0 (s2.heap.push { cls:=.type "list",data:=.seq ([]:List Value).toArray}):=T.keep _ _ _ aa fun b _ o e=>af b o e;show wpAny _ _ _ _ _ { s2 with heap:=s2.heap.push { cls:=.type "list",data:=.seq ([]:List Value).toArray},toks:=s2.toks};generalize aq:({ s2 with heap:=s2.heap.push { cls:=.type "list",data:=.seq ([]:List Value).toArray},toks:=s2.toks}:Shared)=s3 at *;have ag:s3.heap=s2.heap.push { cls:=.type "list",data:=.seq ([]:List Value).toArray}:=by rw [←aq]
 rw [←ag] at a5;have ar:∀b∈fp,b < s3.heap.objs.size:=fun b hb=>by rw [ag,Heap.size_push];exact Nat.lt_succ_of_lt (ae b hb)
 generalize hD:s2.heap.objs.size=D at *;generalize hH3:upd H1 D (HO.lst [])=H3 at *;refine wpAny_newFunctionEnv K.nocell (by intro y hy;simp at hy) (fun h1 au sb=>?_) K.kind;have F:∀b o,s3.heap.get? b=some o->h1.get? b=some o:=fun b o e=>sb.extBut b o (rC (kB e)) (iA _ e);have ok:=zg0 K Y f3 ar;have I4:Inv (vd X N1 scope cl s3.heap.objs.size s3 H3 fp) [] (qb1 cap σ) H3 { s3 with heap:=h1,toks:=s3.toks+([]:List (Str×Value)).length}:=by
  refine⟨ok,rfl,Y.bare,Un.kept F,⟨_,au,fun i x v e1 e2 e3=>?_⟩,fun x c e=>?_,Y.hok.fresh (dA _),fun x c e=>Y.freeC x c (K.sub x c e),fun p hp=>absurd (show p∈([]:List (Addr×Obj)) from hp) (by simp),Y.hok.kept F,?_⟩
  ·obtain⟨j,ej,ev⟩:∃j,cap[i]? = some (some j)/\(σ[j]?).getD none=some v:=by
    unfold qb1 at e2;rw [fA] at e2;cases q:cap[i]? with
    |none=>rw [q] at e2;cases e2
    |some o=>
     rw [q] at e2;cases o with
     |none=>cases e2
     |some j=>exact⟨j,rfl,nB e2⟩
   obtain⟨k1,k2,k3,k4⟩:=K.caps i x j e1 ej;have av:σ[j]? = some (some v):=by
    cases q:σ[j]? with
    |none=>rw [q] at ev;cases ev
    |some o=>rw [q] at ev;exact vD some ev
   obtain⟨m,hn,hl⟩:=Y.loc;obtain⟨u,ru,lk⟩:=hl j x v k1 av k2;refine⟨u,ru,.inr ⟨k4,?_⟩⟩;rcases lk with ⟨z,_⟩ |⟨_,c,e,a6⟩
   ·exact absurd z k3
   ·obtain⟨c',e'⟩:=K.has x k4;have ec:=K.sub x c' e';rw [e] at ec;cases ec;obtain⟨o,ho,hd⟩:=a6;exact⟨c,e',o,F _ _ ho,hd⟩
  ·obtain⟨v,o,ho,hd⟩:=Y.cell x c (K.sub x c e);exact⟨v,o,F _ _ ho,hd⟩
  ·unfold qb1;rw [aA];exact K.len
 have loop:∀s5:Shared,s5={ s3 with heap:=h1,toks:=s3.toks+([]:List (Str×Value)).length} ->
   codeAny (model X.prog X.w) X.A (.compLoop (.ListComp elt [⟨tg,iter,ifs,0⟩] scope pos) 0 (.ref it) (.ref D) (compEnvC scope cl s3.heap.objs.size X.env)) (RR (.ref D) s3.heap.objs.size) s5:=by
  rintro s5 rfl;have a7:tn 0 h1:=T.keep _ _ _ a5 fun b _ o e=>F b o e;have G:∀{H':Hp},(∀b∈fp,H' b=none)->∀b∈fp,Zf (vd X N1 scope cl s3.heap.objs.size s3 H3 fp) [] H' b:=fun {H'} hn b hb=>
   ⟨hn b hb,(ok.exf b hb).1,ok.exfs b hb,.inl hb,(ok.exf b hb).2,fun p hp=>absurd (show p∈([]:List (Addr×Obj)) from hp) (by simp)⟩
  refine Wn (fun n s'=>∃i O H',Inv (vd X N1 scope cl s3.heap.objs.size s3 H3 fp) [] O H' s'/\tn i s'.heap/\(∀b∈fp,H' b=none)/\W i n O H') ?_ m0
   ⟨0,_,H3,I4,a7,fun b hb=>(f3 b hb).1,w0⟩
  rintro n s6 ⟨i,Z,H6,I6,ah,ai,w6⟩;rcases turn i n Z H6 w6 with ⟨stop,q⟩ |⟨go,N,hN,step⟩
  ·refine thn (T.done (vd X N1 scope cl s3.heap.objs.size s3 H3 fp) rfl rfl rfl hc i [] s6 Z H6 _ I6 (G ai) ah stop) fun r s7 ⟨hr,I7⟩=>?_;subst hr;have I8:Inv X pins σ H6 s7:=Y.call' (ch:=fp) I7.os I7.base I7.hok I7.bare fun b hb=>⟨(f3 b hb).2.2.2.1,(f3 b hb).2.1,(f3 b hb).2.2.2.2.1,(f3 b hb).2.2.2.2.2⟩
   have hC:Zf X pins H6 s3.heap.objs.size:=Y.fpOk (dA _) I7.free;obtain⟨m,hn,_⟩:=I7.loc;exact ao D _ H6 s7 I8 ⟨m,hn⟩ hC q
  ·refine thn (T.item (vd X N1 scope cl s3.heap.objs.size s3 H3 fp) rfl rfl rfl hc i [] s6 Z H6 _ I6 (G ai) ah go) fun r s7 ⟨u,hr,h7⟩=>?_;subst hr;refine thn h7 fun _ s8 ⟨x,H8,I8,r8,y8,a8,aw⟩=>?_;have ax:=I8.pinned (G aw) (T.obj _ _ a8);have S:∀{O:St} {H':Hp} {s':Shared},Inv (vd X N1 scope cl s3.heap.objs.size s3 H3 fp) ([]++T9 fp s8.heap) O H' s'->tn (i+1) s'.heap/\∀b∈fp,H' b=none:=fun {O H' s'} I'=>
    ⟨T.keep _ _ _ a8 fun b hb o e=>(I'.pin (b,o) (uC _ (uC _ (Bp hb e)))).1,fun b hb=>by obtain⟨o,e,d⟩:=T.obj _ _ a8 b hb;exact (I'.pin (b,o) (uC _ (uC _ (Bp hb e)))).2.1⟩
   refine thn (hg _ s3 H3 fp _ s8 Z H8 x u _ ax r8 (step x H8 y8)) fun _ s9 ⟨U,H9,I9,q9⟩=>?_;refine thn (ht _ s3 H3 fp _ s9 U H9 _ I9 q9) fun b ay ⟨H10,a9,a3⟩=>?_;cases b with
   |false=>rw [oA bB] at a3 ⊢;obtain⟨m',hm,w'⟩:=hN _ _ a3;obtain⟨k1,k2⟩:=S a9;exact⟨m',hm,i+1,U,H10,a9.unpinned,k1,k2,w'⟩
   |true=>rw [kA rfl] at a3 ⊢;refine thn (he _ s3 H3 fp _ ay U H10 _ a9 a3) fun v az ⟨y,aj,b2,b3,xs,hx,hz,b4⟩=>?_;obtain⟨m',hm,w'⟩:=hN _ _ b4;refine thn (vg (X:=vd X N1 scope cl s3.heap.objs.size s3 H3 fp) _ az U aj (.ref D) [y] (.ref D) [v] (fun _ H'=>H'=upd aj D (.lst (xs++[y]))) b2 rfl (.cons b3 .nil) ⟨D,xs,y,rfl,rfl,hx,hz,rfl⟩) fun v' s12 ⟨y',H12,ak,r12,b5⟩=>?_;subst b5;obtain⟨k1,k2⟩:=S ak;exact⟨m',hm,i+1,U,_,ak.unpinned,k1,k2,w'⟩
 have a7:tn 0 h1:=T.keep _ _ _ a5 fun b _ o e=>F b o e;exact codeAny_compStart_list (loop _ rfl) (T.self X.A 0 _ _ _ a7 (loop _ rfl))
theorem Inv.letgo {H:Hp} {s':Shared} {C:Addr} (I:Inv X pins σ H s') (f:Zf X pins H C) {h':Heap} (j:Heap.SameBut C s'.heap h'):Inv X pins σ H { s' with heap:=h'}:=
 I.turned (t':=s'.toks) (fun b o hb e=>(j.2 b hb).trans e) f.1 f.2.1 f.2.2.2.1 f.2.2.2.2.1 f.2.2.2.2.2
theorem jx {G:TI} (K:CompOk X scope cl N1 cap) (O:X.calm=true) (hi:PI X tg iter G) (S:∀C s0 j fp,PG (vd X N1 scope cl C s0 j fp) tg g) (U:∀C s0 j fp,PIf (vd X N1 scope cl C s0 j fp) ifs tt)
  (he:∀C s0 j fp,PE (vd X N1 scope cl C s0 j fp) elt te) (hs:∀x,foldedSetIterable iter X.env x=pure x:=by intro _;rfl) :
  PE X (.ListComp elt [⟨tg,iter,ifs,0⟩] scope pos) (zm1 G g tt te cap):=by
 intro pins s σ H Q I h;rw [eval_ListComp];refine wpAny_comprehension_free (use:=none) rfl hs K.clos K.kind K.names (thn (hi pins s σ H _ I h) fun v s1 h1=>thn h1 fun itv s2 h2=>?_);obtain⟨it,fp,tn,J,H2,e,Y,T,F,f2,Z⟩:=h2;subst e;refine Xq (RR:=fun acc C=>compPost (model X.prog X.w) X.A X.xe none (EP X pins σ Q) acc C) K O Y T F f2 S U he Z ?_;rintro D C H' s' I' ⟨m,hn⟩ f q;exact⟨m,hn,fun h' sb=>⟨.ref D,H',I'.letgo f sb,rfl,q⟩⟩
theorem Om {wi:TI} {i:Nat} {y:Str} {py j:Pos} (K:CompOk X scope cl N1 cap) (hc:X.calm=true) (hi:PI X tg iter wi) (hg:∀C s0 F fp,PG (vd X N1 scope cl C s0 F fp) tg g)
    (ht:∀C s0 F fp,PIf (vd X N1 scope cl C s0 F fp) ifs tt) (he:∀C s0 F fp,PE (vd X N1 scope cl C s0 F fp) elt te)
    (hN:X.N.Nodup) (hy:X.N[i]? = some y) (hl:X.env.scope.names.lookup y=some .local)
    (G:swapsWith (.ListComp elt [⟨tg,iter,ifs,0⟩] scope pos) (some (.Name y py)) j.line X.env=pure true) (hs:∀x,foldedSetIterable iter X.env x=pure x:=by intro _;rfl) :
    PS X (.Assign [.Name y py] (.ListComp elt [⟨tg,iter,ifs,0⟩] scope pos) j) (qp4 (zm1 wi g tt te cap) (jt i)):=by
  intro pins s σ H D I h;rw [exec_Assign_Name_used _ _ _ _ G];refine cA (mF (cA ?_));show wpAny _ X.A (do let _ ←comprehension (.ListComp elt [⟨tg,iter,ifs,0⟩] scope pos) scope X.env _ (newList []) false (eval iter X.env) (some (assign (.Name y py) X.env))) _ _ s;refine cA (thn (wpAny_comprehension_free (use:=some (assign (.Name y py) X.env)) (Q:=fun _ s'=>SP X pins D .next s') rfl hs K.clos K.kind K.names
    (thn (hi pins s σ H _ I h) fun v s1 h1=>thn h1 fun itv s2 h2=>?_)) fun _ s' O=>eB (eB O))
  obtain⟨it,fp,tn,J,H2,e,I2,T,S,f2,O⟩:=h2;subst e;refine Xq (RR:=fun acc C=>compPost (model X.prog X.w) X.A X.xe (some (assign (.Name y py) X.env)) (fun _ s'=>SP X pins D .next s') acc C) (Q:=fun x H1=>D.nx (σ.set i (some x)) H1) K hc I2 T S f2 hg ht he O ?_;rintro L C H' s' I' ⟨m,hn⟩ f q;show wpAny _ X.A (assign (.Name y py) X.env (.ref L)) _ _ _;refine wpAny_assign_Name (Ur I' hN hy (.inl hl) (show RelV (.ref L) (.ref L) from rfl) (fun s3 I3 U=>?_) (.inr hl));obtain⟨a,sb,ha⟩:=U;have Y:C≠a:=by
    rcases ha with rfl |ha
    · exact f.2.1
    · exact eE (f.2.2.2.2.1 y a ha)
  refine⟨m,hn.sameBut sb Y,fun h' Z=>⟨_,H',I3.letgo f Z,q⟩⟩
end
theorem Bl {lo:Int} {n:Nat} {g:TG} {tt:TT} {te:TE} {F:St} {H1:Hp} {acc:Addr} {Q:VK} (Pv:Nat->St->Hp->Prop) (h0:Pv 0 F (upd H1 acc (.lst [])))
  (hs:∀i σ H,i < n->Pv i σ H->g (.int (lo+i)) σ H fun j H4=>tt j H4 fun b G=>
   if b=true then te j G fun y H6=>∃xs,H6 acc=some (.lst xs)/\xs.length < sizeLine/\Pv (i+1) j (upd H6 acc (.lst (xs++[y]))) else Pv (i+1) j G)
  (hd:∀σ H,Pv n σ H->Q (.ref acc) H):Tq (Itr lo n) g tt te acc F H1 Q:=by
 refine⟨fun i m σ H=>m=n - i/\i<=n/\Pv i σ H,⟨n,by simp,yB _,h0⟩,?_⟩;rintro i m σ H ⟨rfl,hi,p⟩;by_cases D:i < n
 ·refine .inr ⟨D,Pv (i+1),fun σ' H' J=>⟨n - (i+1),by omega,rfl,D,J⟩,fun x H' y=>?_⟩;obtain⟨e,y⟩:=y;subst e y;exact hs i σ _ D p
 ·have e:i=n:=by omega
  subst e;exact .inl ⟨dA _,hd σ H p⟩
theorem j4 {K:PySem.W.Frag} {a:Addr} {xs:List V} {g:TG} {tt:TT} {te:TE} {D:St} {H1:Hp} {acc:Addr} {Q:VK} (Pv:Nat->St->Hp->Prop) (h0:Pv 0 D (upd H1 acc (.lst [])))
  (hl:∀i σ H,i<=xs.length->Pv i σ H->SqL K H a xs)
  (hs:∀i x σ H,xs[i]? = some x->Pv i σ H->g x σ H fun j H4=>tt j H4 fun b G=>
   if b=true then te j G fun y H6=>∃ys,H6 acc=some (.lst ys)/\ys.length < sizeLine/\Pv (i+1) j (upd H6 acc (.lst (ys++[y]))) else Pv (i+1) j G)
  (hd:∀σ H,Pv xs.length σ H->Q (.ref acc) H):Tq (Itl K a) g tt te acc D H1 Q:=by
 refine⟨fun i m σ H=>m=xs.length - i/\i<=xs.length/\Pv i σ H,⟨xs.length,by simp,yB _,h0⟩,?_⟩;rintro i m σ H ⟨rfl,hi,p⟩;have q:=hl i σ H hi p;by_cases F:i < xs.length
 ·refine .inr ⟨⟨xs,xs[i],q,by simp [F]⟩,Pv (i+1),fun σ' H' J=>⟨xs.length - (i+1),by omega,rfl,F,J⟩,fun x H' y=>?_⟩;obtain⟨e,y⟩:=y;subst e;exact hs i x σ _ (y xs q) p
 ·have e:i=xs.length:=by omega
  subst e;exact .inl ⟨⟨xs,q,dA _⟩,hd σ H p⟩
noncomputable def Ih (cells:List (Str×Addr)):List (Str×NameKind)->List (Str×Addr)->List (Str×Addr)
 | [],acc=>acc
 |(n,k)::r,acc=>Ih cells r (if k == .free then (n,(cells.lookup n).getD 0)::acc else acc)
theorem Jo {env:Env}:∀(names:List (Str×NameKind)) (acc:List (Str×Addr)),(∀y∈names,y.2=.free->(env.cells.lookup y.1).isSome=true) ->
    (forIn names acc fun x (cs:List (Str×Addr))=>if (x.2 == NameKind.free)=true then do let c ←cellOf env x.1;pure (ForInStep.yield ((x.1,c)::cs)) else (pure (ForInStep.yield cs):Sem (ForInStep (List (Str×Addr)))))=pure (Ih env.cells names acc)
  | [],acc,_=>by rw [List.forIn_nil];rfl
  |(n,k)::r,acc,h=>by
    rw [List.forIn_cons];by_cases hk:(k == NameKind.free)=true
    · obtain⟨c,j⟩:=uE.mp (h (n,k) uA (by simpa using hk))
      have j:env.cells.lookup n=some c:=j;have e:cellOf env n=pure c:=by unfold cellOf;rw [j]
      simp only [hk,yF,e,pure_bind];unfold Ih;rw [kA hk,j];exact Jo r _ fun y D=>h y (vA _ D)
    · simp only [hk,yE,pure_bind,fC]
      unfold Ih;rw [oA hk];exact Jo r _ fun y D=>h y (vA _ D)
theorem qe4 {env:Env} {scope:Scope} (h:∀y∈scope.names,y.2=.free->(env.cells.lookup y.1).isSome=true):closureFor scope env=pure (Ih env.cells scope.names []):=by unfold closureFor;rw [←Jo scope.names [] h];simp only [bind_pure]
theorem Oh {cells:List (Str×Addr)}:∀(names:List (Str×NameKind)) (acc:List (Str×Addr)),(∀y∈names,y.2=.free->(cells.lookup y.1).isSome=true)->(∀p∈acc,cells.lookup p.1=some p.2) ->
  ∀p∈Ih cells names acc,cells.lookup p.1=some p.2
 | [],acc,_,ha,p,hp=>ha p hp
 |(n,k)::r,acc,h,ha,p,hp=>by
  unfold Ih at hp;refine Oh r _ (fun y F=>h y (vA _ F)) ?_ p hp;by_cases hk:(k == NameKind.free)=true
  ·rw [kA hk];intro q j;rcases gB.mp j with rfl |j
   ·obtain⟨c,D⟩:=uE.mp (h (n,k) uA (by simpa using hk));have D:cells.lookup n=some c:=D;rw [D];rfl
   ·exact ha q j
  ·rw [oA hk];exact ha
theorem Qe {cells:List (Str×Addr)} (x:Str):∀(names:List (Str×NameKind)) (acc:List (Str×Addr)),((∃y∈names,y.1=x/\y.2=.free)\/(acc.lookup x).isSome=true)->((Ih cells names acc).lookup x).isSome=true
 | [],acc,h=>by
  rcases h with ⟨y,j,_⟩ |h
  ·simp at j
  ·exact h
 |(n,k)::r,acc,h=>by
  unfold Ih;refine Qe x r _ ?_;rcases h with ⟨y,j,e1,e2⟩ |h
  ·rcases gB.mp j with rfl |j
   ·refine .inr ?_;have hk:(k == NameKind.free)=true:=by simpa using e2
    rw [kA hk];have e1:n=x:=e1;subst e1;simp [fE]
   ·exact .inl ⟨y,j,e1,e2⟩
  ·refine .inr ?_;split
   ·rw [fE];split
    ·rfl
    ·exact h
   ·exact h
theorem yo {env:Env} {k:NameKind}:∀{names:List (Str×NameKind)} {x:Str},(∀y∈names,y.2≠.cell)->k=.cell\/k=.free ->
  (names.map fun (n,k)=>if (k == NameKind.free && env.scope.kind == .function && env.kindOf n == some .cell) then (n,NameKind.cell) else (n,k)).lookup x=some k->∃y∈names,y.1=x/\y.2=.free
 | [],x,_,_,h=>by simp at h
 |(n,j)::r,x,hn,hk,h=>by
  have ih:=@yo env k r x (fun y D=>hn y (vA _ D)) hk;rw [aC,fE] at h;have e1:∀(c:Bool),((if c=true then (n,NameKind.cell) else (n,j)):Str×NameKind).1=n:=by intro c;cases c<;>rfl
  by_cases hx:(x == n)=true
  ·have F:n=x:=(by simpa using hx:x=n).symm;refine⟨(n,j),uA,F,?_⟩;by_cases G:(j == NameKind.free && env.scope.kind == .function && env.kindOf n == some .cell)=true
   ·simp only [bC] at G;simpa using G.1.1
   ·simp only [e1,hx] at h;simp only [G] at h;have h:j=k:=by simpa using h
    rcases hk with rfl |rfl
    ·exact absurd h (hn _ uA)
    ·exact h
  ·have J:(x == n)=false:=by simpa using hx
   simp only [e1,J] at h;obtain⟨y,D,r⟩:=ih h;exact⟨y,vA _ D,r⟩
theorem Am {env:Env}:∀{names:List (Str×NameKind)} {x:Str},names.lookup x=some .free ->
  (names.map fun (n,k)=>if (k == NameKind.free && env.scope.kind == .function && env.kindOf n == some .cell) then (n,NameKind.cell) else (n,k)).lookup x=some .cell \/
  (names.map fun (n,k)=>if (k == NameKind.free && env.scope.kind == .function && env.kindOf n == some .cell) then (n,NameKind.cell) else (n,k)).lookup x=some .free
 | [],_,h=>by simp at h
 |(n,k)::r,x,h=>by
  have ih:=@Am env r x;show List.lookup x ((if (k == NameKind.free && env.scope.kind == .function && env.kindOf n == some .cell)=true then (n,NameKind.cell) else (n,k))::_)=_ \/
   List.lookup x ((if (k == NameKind.free && env.scope.kind == .function && env.kindOf n == some .cell)=true then (n,NameKind.cell) else (n,k))::_)=_
  cases hx:x == n with
  |true=>
   simp only [fE,hx] at h;cases h;by_cases j:(NameKind.free == NameKind.free && env.scope.kind == .function && env.kindOf n == some .cell)=true
   ·rw [kA j];exact .inl (by simp only [fE,hx])
   ·rw [oA j];exact .inr (by simp only [fE,hx])
  |false=>
   simp only [fE,hx] at h;by_cases j:(k == NameKind.free && env.scope.kind == .function && env.kindOf n == some .cell)=true
   ·rw [kA j];simp only [fE,hx];exact ih h
   ·rw [oA j];simp only [fE,hx];exact ih h
theorem T3 {scope:Scope} {env:Env} {x:Str} (h:scope.names.lookup x=some .free):(relabel scope env).names.lookup x=some .cell\/(relabel scope env).names.lookup x=some .free:=Am h
theorem Zx {X:Cx} {scope sc:Scope} {N1:List Str} {cap:List (Option Nat)} (n:Nat) (F:X.env.scope=sc) (D:X.env.cells=cellsFrom n sc.names []) (kind:scope.kind=.function)
  (nocell:∀y∈scope.names,y.2≠.cell) (names:∀y∈scope.names,y.2=.local->scope.names.lookup y.1=some .local) (free:∀y∈scope.names,y.2=.free->sc.names.lookup y.1=some .cell)
  (len:cap.length=N1.length)
  (caps:∀i,i < N1.length->∀x j,N1[i]? = some x->cap[i]? = some (some j)->X.N[j]? = some x/\sc.names.lookup x=some .cell/\scope.names.lookup x=some .free) :
  CompOk X scope (Ih X.env.cells scope.names []) N1 cap:=by
 have fr:∀y∈scope.names,y.2=.free->(X.env.cells.lookup y.1).isSome=true:=fun y G e=>by rw [D];exact PySem.W.cellsFrom_some _ _ _ (.inl (free y G e))
 have mem:∀p∈Ih X.env.cells scope.names [],X.env.cells.lookup p.1=some p.2:=Oh scope.names [] fr fun p hp=>absurd hp (by simp);have has:∀x,((relabel scope X.env).names.lookup x=some .cell\/(relabel scope X.env).names.lookup x=some .free)->∃c,(Ih X.env.cells scope.names []).lookup x=some c:=fun x h=>by
  have q:∃y∈scope.names,y.1=x/\y.2=.free:=by
   rcases h with h |h
   ·exact yo nocell (.inl rfl) h
   ·exact yo nocell (.inr rfl) h
  exact uE.mp (Qe x scope.names [] (.inl q))
 refine⟨qe4 fr,fun x c h=>mem (x,c) (eF h),kind,nocell,names,has,len,fun i x j e1 e2=>?_⟩;have hi:i < N1.length:=(bA.mp e1).1;obtain⟨k1,k2,k3⟩:=caps i hi x j e1 e2;refine⟨k1,.inr (.inl (by rw [F];exact k2)),?_,?_⟩
 ·show X.env.scope.names.lookup x≠_;rw [F,k2];intro z;cases z
 ·exact T3 k3
inductive Dd where
  |int (i:Int) |str (x:Str) |tup (ds:List Dd) |lst (ds:List Dd)
inductive At (H:Hp):Dd->V->Prop where
  |int (i:Int):At H (.int i) (.int i)
  |str (x:Str):At H (.str x) (.str x)
  |tup {a:Addr} {xs:List V} {ds:List Dd} (h:H a=some (.tup xs)) (r:Paired (At H) ds xs):At H (.tup ds) (.ref a)
  |lst {a:Addr} {xs:List V} {ds:List Dd} (h:H a=some (.lst xs)) (r:Paired (At H) ds xs):At H (.lst ds) (.ref a)
noncomputable abbrev AtL (H:Hp):List Dd->List V->Prop:=Paired (At H)
theorem At.int_inv {H:Hp} {i:Int} {v:V} (h:At H (.int i) v):v=.int i:=by cases h;rfl
theorem At.tup_inv {H:Hp} {ds:List Dd} {v:V} (h:At H (.tup ds) v):∃a xs,v=.ref a/\H a=some (.tup xs)/\AtL H ds xs:=by
 cases h with
 |tup h r=>exact⟨_,_,rfl,h,r⟩
theorem At.lst_inv {H:Hp} {ds:List Dd} {v:V} (h:At H (.lst ds) v):∃a xs,v=.ref a/\H a=some (.lst xs)/\AtL H ds xs:=by
 cases h with
 |lst h r=>exact⟨_,_,rfl,h,r⟩
theorem Paired.get {α β:Type} {F:α->β->Prop}:∀{l:List α} {m:List β} {i:Nat} {a:α} {b:β},Paired F l m->l[i]? = some a->m[i]? = some b->F a b
 |_,_,_,_,_,.nil,e,_=>by simp at e
 |_,_,0,_,_,.cons r _,e1,e2=>by simp at e1 e2;subst e1 e2;exact r
 |_,_,i+1,a,b,.cons _ t,e1,e2=>Paired.get (i:=i) t (by simpa using e1) (by simpa using e2)
theorem Paired.get1 {α β:Type} {F:α->β->Prop} {l:List α} {m:List β} {i:Nat} {a:α} (p:Paired F l m) (e:l[i]? = some a):∃b,m[i]? = some b/\F a b:=by
 have hl:=p.length;obtain⟨hi,_⟩:=bA.mp e
 have:m[i]? = some m[i]:=by simp [show i < m.length by omega]
 exact⟨_,this,Paired.get p e this⟩
abbrev xI:=@Paired.get1
theorem Paired.get2 {α β:Type} {F:α->β->Prop} {l:List α} {m:List β} {i:Nat} {b:β} (p:Paired F l m) (e:m[i]? = some b):∃a,l[i]? = some a/\F a b:=by
 have hl:=p.length;obtain⟨hi,_⟩:=bA.mp e
 have:l[i]? = some l[i]:=by simp [show i < l.length by omega]
 exact⟨_,this,Paired.get p this e⟩
abbrev yI:=@Paired.get2
theorem Paired.app {α β:Type} {F:α->β->Prop}:∀{l l':List α} {m j:List β},Paired F l m->Paired F l' j->Paired F (l++l') (m++j)
 |_,_,_,_,.nil,q=>q
 |_,_,_,_,.cons r t,q=>.cons r (Paired.app t q)
theorem Paired.impM {α β:Type} {F G:α->β->Prop}:∀{l:List α} {m:List β},Paired F l m->(∀a b,a∈l->F a b->G a b)->Paired G l m
 |_,_,.nil,_=>.nil
 |_,_,.cons r t,f=>.cons (f _ _ uA r) (Paired.impM t fun a b h=>f a b (vA _ h))
abbrev aJ:=@Paired.impM
theorem Same.seqT {K:PySem.W.Frag} {H H':Hp} {a:Addr} {xs:List V} (e:Same H H') (h:SqT K H a xs):SqT K H' a xs:=by
 rcases h with (h |⟨o,h⟩) |h
 ·exact .inl (.inl (e _ _ h))
 ·exact .inl (.inr ⟨o,e _ _ h⟩)
 ·exact .inr h
theorem Same.upd_new {H:Hp} {a:Addr} {o:HO} (n:H a=none):Same H (upd H a o):=fun b u e=>by rw [qu (qw e n)];exact e
abbrev tI:=@Same.upd_new
theorem At.same {H H':Hp} (e:Same H H'):∀(n:Nat) {d:Dd} {v:V},sizeOf d<=n->At H d v->At H' d v
 |0,d,v,hn,_=>by cases d<;>simp at hn
 |n+1,d,v,hn,h=>by
  have lt:∀{ds:List Dd} {d':Dd},d'∈ds->sizeOf ds < n+1->sizeOf d'<=n:=fun hm hs=>by have:=List.sizeOf_lt_of_mem hm;omega
  cases h with
  |int i=>exact .int i
  |str x=>exact .str x
  |tup h r=>exact .tup (e _ _ h) (aJ r fun a b hm q=>At.same e n (lt hm (by simp at hn;omega)) q)
  |lst h r=>exact .lst (e _ _ h) (aJ r fun a b hm q=>At.same e n (lt hm (by simp at hn;omega)) q)
theorem At.mono {H H':Hp} {d:Dd} {v:V} (h:At H d v) (e:Same H H'):At H' d v:=At.same e _ (dA _) h
theorem AtL.mono {H H':Hp} {d:List Dd} {v:List V} (h:AtL H d v) (e:Same H H'):AtL H' d v:=aJ h fun _ _ _ q=>q.mono e
inductive NoL:Dd->Prop where
  |int (i:Int):NoL (.int i)
  |str (x:Str):NoL (.str x)
  |tup {ds:List Dd} (h:∀d∈ds,NoL d):NoL (.tup ds)
noncomputable def SameT (H H':Hp):Prop:=∀a xs,H a=some (.tup xs)->H' a=some (.tup xs)
theorem Same.t {H H':Hp} (h:Same H H'):SameT H H':=fun a xs e=>h a _ e
theorem SameT.trans {H H1 H2:Hp} (a:SameT H H1) (b:SameT H1 H2):SameT H H2:=fun c xs e=>b c xs (a c xs e)
theorem SameT.put {H:Hp} {l:Addr} {xs:List V} {o:HO} (h:H l=some (.lst xs)):SameT H (upd H l o):=fun a ys e=>by rw [qu (Nx e h (fun z=>by cases z))];exact e
abbrev cJ:=@SameT.put
theorem At.sameT {H H':Hp} (e:SameT H H'):∀(n:Nat) {d:Dd} {v:V},sizeOf d<=n->NoL d->At H d v->At H' d v
 |0,d,v,hn,_,_=>by cases d<;>simp at hn
 |n+1,d,v,hn,hl,h=>by
  cases h with
  |int i=>exact .int i
  |str x=>exact .str x
  | @tup a xs ds h r=>
   cases hl with
   |tup hl=>
    refine .tup (e _ _ h) (aJ r fun d' b hm q=>At.sameT e n ?_ (hl d' hm) q)
    have:=List.sizeOf_lt_of_mem hm;simp at hn;omega
  |lst h r=>cases hl
theorem At.monoT {H H':Hp} {d:Dd} {v:V} (h:At H d v) (l:NoL d) (e:SameT H H'):At H' d v:=At.sameT e _ (dA _) l h
theorem AtL.monoT {H H':Hp} {d:List Dd} {v:List V} (h:AtL H d v) (l:∀x∈d,NoL x) (e:SameT H H'):AtL H' d v:=aJ h fun _ _ m q=>q.monoT (l _ m) e
theorem Paired.snoc' {α β:Type} {F:α->β->Prop} {l:List α} {m:List β} {a:α} {b:β} (h:Paired F l m) (q:F a b):Paired F (l++[a]) (m++[b]):=Paired.app h (.cons q .nil)
abbrev zI:=@Paired.snoc'
noncomputable def fits:Nat->Dd->Prop
 |_,.int _=>True
 |_,.str _=>True
 |0,_=>False
 |n+1,.tup ds=>∀d∈ds,fits n d
 |n+1,.lst ds=>∀d∈ds,fits n d
section
variable {X:Cx} {pins:List (Addr×Obj)} {σ:St} {H:Hp} {s:Shared}
theorem At.inj {H:Hp}:∀(n:Nat) {d d':Dd} {v:V},sizeOf d<=n->At H d v->At H d' v->d=d'
 |0,d,_,_,hn,_,_=>by cases d<;>simp at hn
 |n+1,d,d',v,hn,h,h'=>by
  have j:∀{ds es:List Dd} {xs:List V},sizeOf ds<=n->AtL H ds xs->AtL H es xs->ds=es:=by
   intro ds es xs hs r;induction r generalizing es with
   |nil=>intro q;cases q;rfl
   | @cons a b l1 l2 q t ih=>
    intro F;cases F with
    | @cons G _ l1' _ q1 t'=>have e1:a=G:=At.inj n (by simp at hs;omega) q q1;have e2:=ih (by simp at hs;omega) t';rw [e1,e2]
  cases h with
  |int i=>cases h';rfl
  |str x=>cases h';rfl
  | @tup a xs ds h r=>
   cases h' with
   | @tup _ ys es h1 D=>rw [h] at h1;cases h1;rw [j (by simp at hn;omega) r D]
   | @lst _ ys es h1 D=>rw [h] at h1;cases h1
  | @lst a xs ds h r=>
   cases h' with
   | @lst _ ys es h1 D=>rw [h] at h1;cases h1;rw [j (by simp at hn;omega) r D]
   | @tup _ ys es h1 D=>rw [h] at h1;cases h1
theorem all_range {n:Nat} {e:Nat->Bool}:((List.range n).all e)=true↔∀j,j < n->e j=true:=by rw [kF];exact⟨fun h j D=>h j (yD.mpr D),fun h j D=>h j (yD.mp D)⟩
theorem Y4 {F:Dd->Dd->Nat->Bool->Prop} {ds es:List Dd} (h:∀j d e,ds[j]? = some d->es[j]? = some e->∃b,F d e j b/\(b=true↔d=e)) :
  ∃f:Nat->Bool,(∀j d e,ds[j]? = some d->es[j]? = some e->F d e j (f j)/\(f j=true↔d=e)):=by
 have h':∀j,∃b:Bool,∀d e,ds[j]? = some d->es[j]? = some e->F d e j b/\(b=true↔d=e):=fun j=>by
  cases hd:ds[j]? with
  |none=>exact⟨true,fun d e q=>by cases q⟩
  |some d=>
   cases he:es[j]? with
   |none=>exact⟨true,fun d e _ q=>by cases q⟩
   |some e=>obtain⟨b,q⟩:=h j d e hd he;exact⟨b,fun d' e' q1 q2=>by cases q1;cases q2;exact q⟩
 exact Classical.skolem.mp h'
theorem My {l:List Value} {j:Nat} {q:Value} (h:j < l.toArray.size) (g:l[j]? = some q):l.toArray[j]=q:=by
 have h':j < l.length:=by simpa using h
 rw [gA h'] at g;simpa using nB g
theorem ug {ds es:List Dd} (hl:ds.length=es.length) {f:Nat->Bool} (h:∀j d e,ds[j]? = some d->es[j]? = some e->(f j=true↔d=e)):(∀j,j < ds.length->f j=true)↔ds=es:=by
 constructor
 ·intro q;refine List.ext_getElem hl fun j h1 h2=>?_;exact (h j ds[j] es[j] (by simp [h1]) (by simp [h2])).mp (q j h1)
 ·rintro rfl j D;exact (h j ds[j] ds[j] (by simp [D]) (by simp [D])).mpr rfl
theorem Inv.eqAt (I:Inv X pins σ H s):∀(n:Nat) {A:Around} {d e:Dd} {v x:V} {u y:Value},fits n d->At H d v->At H e x->RelV v u->RelV x y->A.units+n < cLine ->
  ∃b,SeqAt.EqAt A s u y b/\(b=true↔d=e):=by
 intro n;induction n with
 |zero=>
  intro A d e v x u y hf h1 h2 U D hu;cases h1 with
  |int i=>
   obtain⟨t,rfl⟩:=U;cases h2 with
   |int j=>obtain⟨t',rfl⟩:=D;exact⟨_,aG i t j t',by simp⟩
   |str j=>obtain⟨t',rfl⟩:=D;exact⟨_,dI i t j t',by simp⟩
   |tup h r=>cases D;obtain⟨its,_,p,_⟩:=I.tuple (vI (K:=X.K) h);exact⟨_,SeqAt.EqAt.int_tuple i t p (by omega),by simp⟩
   |lst h r=>cases D;obtain⟨its,_,p,_⟩:=I.list (uI (K:=X.K) h);exact⟨_,SeqAt.EqAt.int_list i t p.isList (by omega),by simp⟩
  |str i=>
   obtain⟨t,rfl⟩:=U;cases h2 with
   |int j=>obtain⟨t',rfl⟩:=D;exact⟨_,gI i t j t',by simp⟩
   |str j=>obtain⟨t',rfl⟩:=D;exact⟨_,SeqAt.EqAt.str_str i t j t',by simp⟩
   |tup h r=>cases D;obtain⟨its,_,p,_⟩:=I.tuple (vI (K:=X.K) h);exact⟨_,SeqAt.EqAt.str_tuple i t p (by omega),by simp⟩
   |lst h r=>cases D;obtain⟨its,_,p,_⟩:=I.list (uI (K:=X.K) h);exact⟨_,SeqAt.EqAt.str_list i t p.isList (by omega),by simp⟩
  |tup h r=>exact hf.elim
  |lst h r=>exact hf.elim
 |succ n ih=>
  intro A d e v x u y hf h1 h2 U D hu;have sub:∀{ds es:List Dd} {xs ys:List V} {us ws:List Value},(∀d∈ds,fits n d)->AtL H ds xs->AtL H es ys->Vals xs us->Vals ys ws ->
    ∃f:Nat->Bool,∀j d e,ds[j]? = some d->es[j]? = some e->(∃p q,us[j]? = some p/\ws[j]? = some q/\SeqAt.EqAt A.in1 s p q (f j))/\(f j=true↔d=e):=by
   intro ds es xs ys us ws Z a1 a2 v1 v2;refine Y4 (F:=fun d e j b=>∃p q,us[j]? = some p/\ws[j]? = some q/\SeqAt.EqAt A.in1 s p q b) fun j d e e1 e2=>?_;obtain⟨x1,g1,t1⟩:=xI a1 e1;obtain⟨x2,g2,t2⟩:=xI a2 e2;obtain⟨p,p1,p2⟩:=v1.get g1;obtain⟨q,q1,q2⟩:=v2.get g2;obtain⟨b,hb,a3⟩:=ih (A:=A.in1) (Z d (jA e1)) t1 t2 p2 q2 (by show A.units+1+n < cLine;omega);exact⟨b,⟨p,q,p1,q1,hb⟩,a3⟩
  cases h1 with
  |int i=>
   obtain⟨t,rfl⟩:=U;cases h2 with
   |int j=>obtain⟨t',rfl⟩:=D;exact⟨_,aG i t j t',by simp⟩
   |str j=>obtain⟨t',rfl⟩:=D;exact⟨_,dI i t j t',by simp⟩
   |tup h r=>cases D;obtain⟨its,_,p,_⟩:=I.tuple (vI (K:=X.K) h);exact⟨_,SeqAt.EqAt.int_tuple i t p (by omega),by simp⟩
   |lst h r=>cases D;obtain⟨its,_,p,_⟩:=I.list (uI (K:=X.K) h);exact⟨_,SeqAt.EqAt.int_list i t p.isList (by omega),by simp⟩
  |str i=>
   obtain⟨t,rfl⟩:=U;cases h2 with
   |int j=>obtain⟨t',rfl⟩:=D;exact⟨_,gI i t j t',by simp⟩
   |str j=>obtain⟨t',rfl⟩:=D;exact⟨_,SeqAt.EqAt.str_str i t j t',by simp⟩
   |tup h r=>cases D;obtain⟨its,_,p,_⟩:=I.tuple (vI (K:=X.K) h);exact⟨_,SeqAt.EqAt.str_tuple i t p (by omega),by simp⟩
   |lst h r=>cases D;obtain⟨its,_,p,_⟩:=I.list (uI (K:=X.K) h);exact⟨_,SeqAt.EqAt.str_list i t p.isList (by omega),by simp⟩
  | @tup a xs ds h r=>
   cases U;obtain⟨its,Y,p,_⟩:=I.tuple (vI (K:=X.K) h);cases h2 with
   |int j=>obtain⟨t',rfl⟩:=D;exact⟨_,SeqAt.EqAt.tuple_int j t' p (by omega),by simp⟩
   |str j=>obtain⟨t',rfl⟩:=D;exact⟨_,SeqAt.EqAt.tuple_str j t' p (by omega),by simp⟩
   | @lst b ys es h' r'=>cases D;obtain⟨its',G,S,_⟩:=I.list (uI (K:=X.K) h');exact⟨_,SeqAt.EqAt.tuple_list p S.isList (by omega),by simp⟩
   | @tup b ys es h' r'=>
    cases D;obtain⟨its',G,S,_⟩:=I.tuple (vI (K:=X.K) h');by_cases O:a=b
    ·subst O;have e:=At.inj _ (dA _) (At.tup h r) (At.tup h' r');exact⟨true,SeqAt.EqAt.same _,by simp [e]⟩
    ·obtain⟨f,J⟩:=sub hf r r' Y G;have l1:=r.length;have l2:=r'.length;have l3:=Y.length;have l4:=G.length;refine⟨_,SeqAt.EqAt.of_refs O (SeqAt.RcAt.tuples (e:=f) p S (by omega) fun j h1 h2=>?_),?_⟩
     ·simp only [qA] at h1 h2;obtain⟨⟨q1,q2,g1,g2,z⟩,_⟩:=J j ds[j] es[j] (by simp [show j < ds.length by omega]) (by simp [show j < es.length by omega]);rw [My _ g1,My _ g2];exact z
     ·rw [bC,all_range,qA,qA,beq_iff_eq];constructor
      ·rintro⟨q,el⟩;have hl:ds.length=es.length:=by omega
       rw [(ug hl fun j d e e1 e2=>(J j d e e1 e2).2).mp fun j hj=>q j (by omega)]
      ·intro e;injection e with e;subst e;refine⟨fun j hj=>?_,by omega⟩;exact (J j ds[j] ds[j] (by simp [show j < ds.length by omega]) (by simp [show j < ds.length by omega])).2.mpr rfl
  | @lst a xs ds h r=>
   cases U;obtain⟨its,Y,p,_⟩:=I.list (uI (K:=X.K) h);cases h2 with
   |int j=>obtain⟨t',rfl⟩:=D;exact⟨_,SeqAt.EqAt.list_int j t' p.isList (by omega),by simp⟩
   |str j=>obtain⟨t',rfl⟩:=D;exact⟨_,SeqAt.EqAt.list_str j t' p.isList (by omega),by simp⟩
   | @tup b ys es h' r'=>cases D;obtain⟨its',G,S,_⟩:=I.tuple (vI (K:=X.K) h');exact⟨_,SeqAt.EqAt.list_tuple p.isList S (by omega),by simp⟩
   | @lst b ys es h' r'=>
    cases D;obtain⟨its',G,S,_⟩:=I.list (uI (K:=X.K) h');by_cases O:a=b
    ·subst O;have e:=At.inj _ (dA _) (At.lst h r) (At.lst h' r');exact⟨true,SeqAt.EqAt.same _,by simp [e]⟩
    ·obtain⟨f,J⟩:=sub hf r r' Y G;have l1:=r.length;have l2:=r'.length;have l3:=Y.length;have l4:=G.length;by_cases hl:ds.length=es.length
     ·refine⟨_,SeqAt.EqAt.of_refs O (SeqAt.RcAt.lists (e:=f) p.isList S.isList (by simp only [qA];omega) (by omega) fun j h1 h2=>?_),?_⟩
      ·simp only [qA] at h1 h2;obtain⟨⟨q1,q2,g1,g2,z⟩,_⟩:=J j ds[j] es[j] (by simp [show j < ds.length by omega]) (by simp [show j < es.length by omega]);rw [My _ g1,My _ g2];exact z
      ·rw [all_range,qA];constructor
       ·intro q;rw [(ug hl fun j d e e1 e2=>(J j d e e1 e2).2).mp fun j hj=>q j (by omega)]
       ·intro e;injection e with e;subst e;intro j hj;exact (J j ds[j] ds[j] (by simp [show j < ds.length by omega]) (by simp [show j < ds.length by omega])).2.mpr rfl
     ·refine⟨_,SeqAt.EqAt.of_refs O (SeqAt.RcAt.lists_lengths p.isList S.isList (by simp only [qA,bne_iff_ne];omega) (by omega)),?_⟩;constructor
      ·intro z;cases z
      ·intro e;injection e with e;exact absurd (vD List.length e) hl
theorem Inv.subs (I:Inv X pins σ H s) {n:Nat} {A:Around} {ds es:List Dd} {xs ys:List V} {us ws:List Value} (D:∀d∈ds,fits n d) (a1:AtL H ds xs) (a2:AtL H es ys) (v1:Vals xs us) (v2:Vals ys ws) (hu:A.units+n+1 < cLine) :
  ∃f:Nat->Bool,(∀j (h1:j < us.toArray.size) (h2:j < ws.toArray.size),SeqAt.EqAt A.in1 s us.toArray[j] ws.toArray[j] (f j))/\∀j d e,ds[j]? = some d->es[j]? = some e->(f j=true↔d=e):=by
 obtain⟨f,hf⟩:=Y4 (F:=fun d e j b=>∃p q,us[j]? = some p/\ws[j]? = some q/\SeqAt.EqAt A.in1 s p q b) fun j d e e1 e2=>by obtain⟨x1,g1,t1⟩:=xI a1 e1;obtain⟨x2,g2,t2⟩:=xI a2 e2;obtain⟨p,p1,p2⟩:=v1.get g1;obtain⟨q,q1,q2⟩:=v2.get g2;obtain⟨b,hb,G⟩:=I.eqAt n (A:=A.in1) (D d (jA e1)) t1 t2 p2 q2 (by show A.units+1+n < cLine;omega);exact⟨b,⟨p,q,p1,q1,hb⟩,G⟩
 have l1:=a1.length;have l2:=a2.length;have l3:=v1.length;have l4:=v2.length;refine⟨f,fun j h1 h2=>?_,fun j d e e1 e2=>(hf j d e e1 e2).2⟩;simp only [qA] at h1 h2;obtain⟨⟨q1,q2,g1,g2,z⟩,_⟩:=hf j ds[j] es[j] (by simp [show j < ds.length by omega]) (by simp [show j < es.length by omega]);rw [My _ g1,My _ g2];exact z
noncomputable def qz7:Dd->Dd->Prop
 | .tup _,.tup _=>True
 | .lst _,.lst _=>True
 |_,_=>False
theorem Inv.rcAt (I:Inv X pins σ H s) {n:Nat} {A:Around} {d e:Dd} {v x:V} {u y:Value} (hf:fits (n+1) d) (hk:qz7 d e) (h1:At H d v) (h2:At H e x) (U:RelV v u) (Y:RelV x y) (Z:A.units+n+1 < cLine) :
  ∃b,SeqAt.RcAt A s u y b/\SeqAt.RcNeAt A s u y (!b)/\(b=true↔d=e):=by
 cases h1 with
 |int i=>exact hk.elim
 |str i=>exact hk.elim
 | @tup a xs ds h r=>
  cases U;cases h2 with
  |int j=>exact hk.elim
  |str j=>exact hk.elim
  |lst h' r'=>exact hk.elim
  | @tup b ys es h' r'=>
   cases Y;obtain⟨its,O,p,_⟩:=I.tuple (vI (K:=X.K) h);obtain⟨its',D,J,_⟩:=I.tuple (vI (K:=X.K) h');obtain⟨f,F,G⟩:=I.subs hf r r' O D Z;have l1:=r.length;have l2:=r'.length;have l3:=O.length;have l4:=D.length;refine⟨_,SeqAt.RcAt.tuples (e:=f) p J (by omega) F,SeqAt.RcNeAt.tuples (e:=f) p J (by omega) F,?_⟩;rw [bC,all_range,qA,qA,beq_iff_eq];constructor
   ·rintro⟨q,el⟩;have hl:ds.length=es.length:=by omega
    rw [(ug hl G).mp fun j S=>q j (by omega)]
   ·intro e;injection e with e;subst e;refine⟨fun j S=>?_,by omega⟩;exact (G j ds[j] ds[j] (by simp [show j < ds.length by omega]) (by simp [show j < ds.length by omega])).mpr rfl
 | @lst a xs ds h r=>
  cases U;cases h2 with
  |int j=>exact hk.elim
  |str j=>exact hk.elim
  |tup h' r'=>exact hk.elim
  | @lst b ys es h' r'=>
   cases Y;obtain⟨its,O,p,_⟩:=I.list (uI (K:=X.K) h);obtain⟨its',D,J,_⟩:=I.list (uI (K:=X.K) h');obtain⟨f,F,G⟩:=I.subs hf r r' O D Z;have l1:=r.length;have l2:=r'.length;have l3:=O.length;have l4:=D.length;by_cases hl:ds.length=es.length
   ·refine⟨_,SeqAt.RcAt.lists (e:=f) p.isList J.isList (by simp only [qA];omega) (by omega) F,SeqAt.RcNeAt.lists (e:=f) p.isList J.isList (by simp only [qA];omega) (by omega) F,?_⟩;rw [all_range,qA];constructor
    ·intro q;rw [(ug hl G).mp fun j S=>q j (by omega)]
    ·intro e;injection e with e;subst e;intro j S;exact (G j ds[j] ds[j] (by simp [show j < ds.length by omega]) (by simp [show j < ds.length by omega])).mpr rfl
   ·refine⟨false,SeqAt.RcAt.lists_lengths p.isList J.isList (by simp only [qA,bne_iff_ne];omega) (by omega),SeqAt.RcNeAt.lists_lengths p.isList J.isList (by simp only [qA,bne_iff_ne];omega) (by omega),?_⟩;constructor
    ·intro z;cases z
    ·intro e;injection e with e;exact absurd (vD List.length e) hl
end
inductive rEqD (n:Nat) (x:V) (y:V) (H:Hp) (Q:VK):Prop
 |mk (d e:_) (_:fits (n+1) d) (_:qz7 d e) (_:At H d x) (_:At H e y) (_:(d=e->Q (.bl true) H)) (_:(d≠e->Q (.bl false) H))
theorem Xm {X:Cx} {n:Nat} (j:X.A.units+n+1 < cLine):OpR X (compareOp .Eq) (rEqD n):=by
 intro pins s σ H x y v u Q I D F h;obtain⟨d,e,hf,hk,h1,h2,q1,q2⟩:=h;obtain⟨b,z,_,hb⟩:=I.rcAt hf hk h1 h2 D F j;refine z X.prog X.w _ _ ?_;cases b with
 |true=>exact⟨.bl true,H,I,rfl,q1 (hb.mp rfl)⟩
 |false=>exact⟨.bl false,H,I,rfl,q2 fun e=>by cases hb.mpr e⟩
theorem jd {X:Cx} {K:PySem.W.Frag} (j:X.K=K):Ag X (.builtin "isinstance") (fun xs H Q=>∃x T t b,xs=[x,.ty T]/\TyOf K H x t/\PySem.W.kitOne K t (.type T)=some b/\Q (.bl b) H):=by subst j;intro pins s σ H xs us Q I r h;obtain⟨x,T,t,b,rfl,ty,e,q⟩:=h;obtain⟨u,D,rfl,F,G⟩:=vals2 r;cases (show D=Value.type T from G);exact qb5 I F ty e fun tk=>⟨.bl b,H,I.tok tk,rfl,q⟩
section
variable {X:Cx} {K:PySem.W.Frag}
theorem qt (h:X.K=K):IxR X (rIxT K):=by subst h;exact zm7
theorem zc (h:X.K=K):IxR X (rIxL K):=by subst h;exact ze6
theorem Nr (h:X.K=K):SlR X (rSlT K):=by subst h;exact zj9
theorem jo (h:X.K=K):SlR X (rSlL K):=by subst h;exact zh8
theorem je (h:X.K=K):Ag X (.builtin "len") (fun xs H Q=>∃p ys,xs=[.ref p]/\(SqL K H p ys\/SqT K H p ys)/\Q (.int ys.length) H):=by subst h;exact Qm
theorem Mw (h:X.K=K):Ag X (.type "list") (fun xs H Q=>∃p ys,xs=[.ref p]/\(SqL K H p ys\/SqT K H p ys)/\∀l,H l=none->Q (.ref l) (upd H l (.lst ys))):=by subst h;exact Ti
theorem Jw (h:X.K=K):Ag X (.type "tuple") (fun xs H Q=>∃p ys,xs=[.ref p]/\((SqL K H p ys/\∀l,H l=none->Q (.ref l) (upd H l (.tup ys)))\/(SqT K H p ys/\Q (.ref p) H))):=by subst h;exact O5
theorem qq8 (h:X.K=K):OpR X (binaryOp .Add) (rCatT K):=by subst h;exact zd3
theorem jq {tg l:Expr} {tl:TE} (h:X.K=K) (hl:PE X l tl):PI X tg l (zj8 K tl):=by subst h;exact zf5 hl
theorem By {tg l:Expr} {tl:TE} (h:X.K=K) (hl:PE X l tl):PI X tg l (zv1 K tl):=by subst h;exact zo5 hl
theorem Gx {es:List Expr} {k:Nat} {t:TGs} {n:Nat} {pos:Pos} (h:X.K=K) (D:X.calm=true) (F:PGs X es t)
  (hn:(assignEach es X.env).length=n:=by rfl) (j:(assignEach es X.env).findIdx? (·.1)=none:=by rfl):PG X (.Tuple es k pos) (zu4 K n t):=by subst h;exact zk2 D F hn j
theorem xn {T:String} {id:String} {name:Str} {r:V->List V->Hp->VK->Prop} {o e:Expr} {es:List Expr} {to:TE} {t:TA} {apos cpos:Pos} (h:X.K=K) (O:PlainAttrs T) (slot:Slot T name id) (J:typeOf (.builtin id)=pure (.type "method_descriptor")) (hm:MtM X id r) (S:PE X o to) (ha:PA X (e::es) t)
  (D:attributeBase o name X.env (eval o X.env)=eval o X.env:=by rfl)
  (G:((backTo cpos (starEach (e::es) X.env)).all (fun x=>!x.1) && (backToKw cpos (keywordEach [] X.env)).all (fun x=>x.1.isSome)
   && decide ((e::es).length+([]:List Keyword).length+(if ([]:List Keyword).isEmpty then 0 else 1) < 30))=true:=by rfl)
  (F:(apos.endLine == cpos.line)=true:=by rfl) (hs:starEach (e::es) X.env=(false,eval e X.env)::starEach es X.env:=by rfl) (j:(backTo cpos (starEach es X.env)).any (·.1)=false:=by rfl) :
  PE X (.Call (.Attribute o name apos) (e::es) [] cpos) (tBM K T r to t):=by subst h;exact zt3 O slot J hm S ha D G F hs j
end
structure Cal (P:Program) (w:World) (K:PySem.W.Frag) (mg:Str->Option Value) (base:Heap) (k:Nat) (x:Str) (ps:List Str) (sp:Sp):Prop where
  ex:∃(f:Addr) (fd:FuncData),FnOk P w K mg base CX0 k f fd ps sp/\mg x=some (.ref f)/\PySem.W.keepIn K (.ref f)=true/\Binds K fd ps []
theorem qy {X:Cx} {k:Nat} {x:Str} {ps:List Str} {sp:Sp} {e:Expr} {es:List Expr} {t:TA} {p pos:Pos} (c:Cal X.prog X.w X.K X.mg X.base k x ps sp) (D:Room k X.A) (G:Gl X x) (ha:PA X (e::es) t)
  (j:(x == ("__debug__" : Str))=false:=by decide) (he:starEach (e::es) X.env=(false,eval e X.env)::starEach es X.env:=by rfl) (hpl:(backTo pos (starEach es X.env)).any (·.1)=false:=by rfl) :
  PE X (.Call (.Name x p) (e::es) [] pos) (zh1 sp [] E0 t):=by
 obtain⟨f,fd,F,hm,hk,hb⟩:=c.ex;exact ql7 F D G hm hk hb .nil zt7 ha j he hpl
structure At0 (K:PySem.W.Frag) (x:Str) (st:Stmt):Prop where
  ex:∃(f:Addr) (fd:FuncData),Fun K x x st f fd/\PySem.W.nsIn K mainGlobals x=some (some (.ref f))
theorem at0_mk {K:PySem.W.Frag} {x:Str} {st:Stmt} {f:Addr} {oc:Value} {od an:Option Addr} {osl:Array (Option Value)} {kV doc pm cdv ct:Value} (a:PySem.W.nsIn K mainGlobals x=some (some (.ref f)))
  (l:K.lookup f=some ⟨oc,od,.func (PySem.W.fnOf x x (Az st) (zy st) (qm st) .none kV doc pm an cdv ct),osl⟩) (c:PySem.W.codeIn K cdv x=true) (k:PySem.W.keepIn K (.ref f)=true):At0 K x st:=
 ⟨f,_,za2 l c k,a⟩
theorem At0.cal {P:Program} {w:World} {K:PySem.W.Frag} {mg:Str->Option Value} {base h:Heap} {k:Nat} {x:Str} {st:Stmt} {ps:List Str} {sp:Sp} (a:At0 K x st) (X:K.In h) (G:h.Ns mainGlobals mg)
  (hb:∀(kV doc pm:Value) (an:Option Addr) (cdv ct:Value) (us:List Value),us.length=ps.length->bindArgs (PySem.W.fnOf x x (Az st) (zy st) (qm st) .none kV doc pm an cdv ct) ⟨us,[]⟩=pure (ps.zip us))
  (ok:∀(f:Addr) (fd:FuncData),Fun K x x st f fd->FnOk P w K mg base CX0 k f fd ps sp):Cal P w K mg base k x ps sp:=by
 obtain⟨f,fd,F,e⟩:=a.ex;exact⟨f,fd,ok f fd F,cF X G e,F.kp,F.binds hb⟩
end L2
set_option autoImplicit false
namespace GS
open PySem PyProof.Rows
noncomputable def We:Bool->Keyed->Array Keyed->Nat->Nat->Nat->StateT SortSt Sem (Option Nat):=sortPriv% PySem.Builtin.gallop
structure Cmp (prog:Program) (w:World) (A:Around) (s:Shared) (kind:SortKind) (a0:List Keyed) (rk:Keyed->Int):Prop where
  lt:∀x y,x∈a0->y∈a0->∀(E:Value->Shared->Prop) (Q:Bool->Shared->Prop),Q (decide (rk x < rk y)) s->wpAny (model prog w) A (keyLt' kind x.1 y.1) Q E s
  inj:(a0.map rk).Nodup
section
variable {prog:Program} {w:World} {A:Around} {E:Value->Shared->Prop} {s:Shared} {kind:SortKind} {a0:List Keyed} {rk:Keyed->Int}
theorem U7 (C:Cmp prog w A s kind a0 rk) {x y:Keyed} {st:SortSt} {Q:Option Bool->SortSt->Prop} (hk:kindOf st=kind) (hx:x∈a0) (j:y∈a0) (h:Q (some (decide (rk x < rk y))) st) :
  wpS (model prog w) A E s (lt' x y) Q st:=by
 rw [lt'_eq];refine aB (wpS_get ?_);rw [hk];refine aB (wpS_lift (wpAny_attempt (C.lt x y hx j _ _ ⟨rfl,?_⟩)));exact jB h
theorem jf {arr:Array Keyed} {i:Nat} {p:Keyed} {st:SortSt} {Q:Keyed->SortSt->Prop} (h:arr[i]? = some p) (q:Q p st):wpS (model prog w) A E s (elem' arr i) Q st:=by rw [elem'_eq,h];exact jB q
noncomputable def bey (rk:Keyed->Int) (left:Bool) (key x:Keyed):Bool:=if left=true then decide (rk x < rk key) else !decide (rk key < rk x)
theorem J9 (C:Cmp prog w A s kind a0 rk) {left:Bool} {key x:Keyed} {arr:Array Keyed} {i:Nat} {st:SortSt} {Q:Option Bool->SortSt->Prop} (hk:kindOf st=kind) (hx:arr[i]? = some x) (j:x∈a0) (D:key∈a0) (h:Q (some (bey rk left key x)) st) :
    wpS (model prog w) A E s (do let x ←elem' arr i;if left=true then lt' x key else (do let r ←lt' key x;pure (Option.map (fun b=>!b) r))) Q st:=by
  refine aB (jf hx ?_);cases left with
  |true=>rw [kA rfl];exact U7 C hk j D h
  |false=>rw [oA bB];exact aB (U7 C hk D j (jB h))
theorem Mu (C:Cmp prog w A s kind a0 rk) {left:Bool} {key:Keyed} {arr:Array Keyed} {base n hint:Nat} {st:SortSt} {Q:Option Nat->SortSt->Prop} (hk:kindOf st=kind)
  (my:key∈a0) (xs:Nat->Keyed) (hx:∀i,i < n->arr[base+i]? = some (xs i)) (mx:∀i,i < n->xs i∈a0) (hh:hint < n)
  (mono:∀i j,i<=j->j < n->bey rk left key (xs j)=true->bey rk left key (xs i)=true)
  (h:∀k,k<=n->(∀i,i < k->bey rk left key (xs i)=true)->(∀i,k<=i->i < n->bey rk left key (xs i)=false)->Q (some k) st) :
  wpS (model prog w) A E s (We left key arr base n hint) Q st:=by
 refine aB (J9 C hk (hx hint hh) (mx hint hh) my ?_);have J:∀i j,i<=j->j < n->bey rk left key (xs i)=false->bey rk left key (xs j)=false:=fun i j a7 S hf=>by
  cases e:bey rk left key (xs j) with
  |false=>rfl
  |true=>rw [mono i j a7 S e] at hf;cases hf
 cases hr:bey rk left key (xs hint) with
 |true=>
  dsimp only;rw [kA rfl];refine aB (nF (lD (I:=fun i c st'=>st'=st/\∃last D,c=(none,last,D)/\last < D/\hint+last < n/\bey rk left key (xs (hint+last))=true/\i+1<=D)
   (Q:=fun c st'=>st'=st/\∃last D,c=(none,last,D)/\last < D/\hint+last < n/\bey rk left key (xs (hint+last))=true/\(n - hint<=D\/(hint+D < n/\bey rk left key (xs (hint+D))=false))) ?step ?fin ⟨rfl,0,1,rfl,by omega,by omega,hr,by omega⟩) ?post)
  case fin=>
   rintro c st' ⟨rfl,last,D,rfl,a1,a2,a3,a4⟩;exact⟨rfl,last,D,rfl,a1,a2,a3,.inl (by omega)⟩
  case step=>
   rintro i c st' _ a6 ⟨rfl,last,D,rfl,a1,a2,a3,a4⟩;dsimp only;by_cases G:D >= n - hint
   ·rw [kA G];exact jB ⟨rfl,last,D,rfl,a1,a2,a3,.inl G⟩
   ·rw [oA G];have hm:hint+D < n:=by omega
    refine aB (J9 C hk (hx _ hm) (mx _ hm) my ?_);cases e:bey rk left key (xs (hint+D)) with
    |true=>simp only [Bool.not_true,fC,yE];exact jB ⟨rfl,_,_,rfl,by omega,hm,e,by omega⟩
    |false=>simp only [Bool.not_false,yF];exact jB ⟨rfl,_,_,rfl,a1,a2,a3,.inr ⟨hm,e⟩⟩
  case post=>
   rintro c st' ⟨rfl,last,D,rfl,a1,a2,a3,a4⟩;have F1:∀j,j < hint+last+1->bey rk left key (xs j)=true:=fun j S=>mono j (hint+last) (by omega) a2 a3;have F2:∀j,hint+min D (n - hint)<=j->j < n->bey rk left key (xs j)=false:=fun j S O=>by
    rcases a4 with a4 |⟨a4,a5⟩
    ·omega
    ·exact J (hint+D) j (by omega) O a5
   dsimp only;refine aB (nF (lD (I:=fun i c F=>F=st'/\∃lo hi,c=(none,lo,hi)/\lo<=hi/\hi<=n/\(∀i,i < lo->bey rk left key (xs i)=true)/\(∀i,hi<=i->i < n->bey rk left key (xs i)=false)/\hi - lo<=n - i)
    (Q:=fun c F=>F=st'/\∃k,c=(none,k,k)/\k<=n/\(∀i,i < k->bey rk left key (xs i)=true)/\(∀i,k<=i->i < n->bey rk left key (xs i)=false)) ?step2 ?fin2 ⟨rfl,hint+last+1,hint+min D (n - hint),rfl,by omega,by omega,F1,F2,by omega⟩) ?post2)
   case post2=>
    rintro c F ⟨rfl,k,rfl,k1,k2,k3⟩;exact jB (h k k1 k2 k3)
   case fin2=>
    rintro c F ⟨rfl,l,r,rfl,b1,U,Y,Z,b5⟩
    have:l=r:=by omega
    subst this;exact⟨rfl,l,rfl,U,Y,Z⟩
   case step2=>
    rintro i c F _ a6 ⟨rfl,l,r,rfl,b1,U,Y,Z,b5⟩;dsimp only;by_cases G:l >= r
    ·rw [kA G]
     have:l=r:=by omega
     subst this;exact jB ⟨rfl,l,rfl,U,Y,Z⟩
    ·rw [oA G];have hm:l+(r - l) / 2 < n:=by omega
     refine aB (J9 C hk (hx _ hm) (mx _ hm) my ?_);cases e:bey rk left key (xs (l+(r - l) / 2)) with
     |true=>simp only [yF];refine jB ⟨rfl,_,_,rfl,by omega,U,fun j S=>?_,Z,by omega⟩;exact mono j (l+(r - l) / 2) (by omega) hm e
     |false=>simp only [fC,yE];refine jB ⟨rfl,_,_,rfl,by omega,by omega,Y,fun j S O=>?_,by omega⟩;exact J _ j S O e
 |false=>
  dsimp only;rw [oA bB];refine aB (nF (lD (I:=fun i c st'=>st'=st/\∃last D,c=(none,last,D)/\last < D/\last<=hint/\bey rk left key (xs (hint - last))=false/\i+1<=D)
   (Q:=fun c st'=>st'=st/\∃last D,c=(none,last,D)/\last < D/\last<=hint/\bey rk left key (xs (hint - last))=false/\(hint+1<=D\/(D<=hint/\bey rk left key (xs (hint - D))=true))) ?step ?fin ⟨rfl,0,1,rfl,by omega,by omega,hr,by omega⟩) ?post)
  case fin=>
   rintro c st' ⟨rfl,last,D,rfl,a1,a2,a3,a4⟩;exact⟨rfl,last,D,rfl,a1,a2,a3,.inl (by omega)⟩
  case step=>
   rintro i c st' _ a6 ⟨rfl,last,D,rfl,a1,a2,a3,a4⟩;dsimp only;by_cases G:D >= hint+1
   ·rw [kA G];exact jB ⟨rfl,last,D,rfl,a1,a2,a3,.inl G⟩
   ·rw [oA G];have hm:hint - D < n:=by omega
    refine aB (J9 C hk (hx _ hm) (mx _ hm) my ?_);cases e:bey rk left key (xs (hint - D)) with
    |true=>simp only [yF];exact jB ⟨rfl,_,_,rfl,a1,a2,a3,.inr ⟨by omega,e⟩⟩
    |false=>simp only [fC,yE];exact jB ⟨rfl,_,_,rfl,by omega,by omega,e,by omega⟩
  case post=>
   rintro c st' ⟨rfl,last,D,rfl,a1,a2,a3,a4⟩;have F1:∀j,j < hint+1 - min D (hint+1)->bey rk left key (xs j)=true:=fun j S=>by
    rcases a4 with a4 |⟨a4,a5⟩
    ·omega
    ·exact mono j (hint - D) (by omega) (by omega) a5
   have F2:∀j,hint - last<=j->j < n->bey rk left key (xs j)=false:=fun j S O=>J (hint - last) j S O a3;dsimp only;refine aB (nF (lD (I:=fun i c F=>F=st'/\∃lo hi,c=(none,lo,hi)/\lo<=hi/\hi<=n/\(∀i,i < lo->bey rk left key (xs i)=true)/\(∀i,hi<=i->i < n->bey rk left key (xs i)=false)/\hi - lo<=n - i)
    (Q:=fun c F=>F=st'/\∃k,c=(none,k,k)/\k<=n/\(∀i,i < k->bey rk left key (xs i)=true)/\(∀i,k<=i->i < n->bey rk left key (xs i)=false)) ?step2 ?fin2 ⟨rfl,hint+1 - min D (hint+1),hint - last,rfl,by omega,by omega,F1,F2,by omega⟩) ?post2)
   case post2=>
    rintro c F ⟨rfl,k,rfl,k1,k2,k3⟩;exact jB (h k k1 k2 k3)
   case fin2=>
    rintro c F ⟨rfl,l,r,rfl,b1,U,Y,Z,b5⟩
    have:l=r:=by omega
    subst this;exact⟨rfl,l,rfl,U,Y,Z⟩
   case step2=>
    rintro i c F _ a6 ⟨rfl,l,r,rfl,b1,U,Y,Z,b5⟩;dsimp only;by_cases G:l >= r
    ·rw [kA G]
     have:l=r:=by omega
     subst this;exact jB ⟨rfl,l,rfl,U,Y,Z⟩
    ·rw [oA G];have hm:l+(r - l) / 2 < n:=by omega
     refine aB (J9 C hk (hx _ hm) (mx _ hm) my ?_);cases e:bey rk left key (xs (l+(r - l) / 2)) with
     |true=>simp only [yF];refine jB ⟨rfl,_,_,rfl,by omega,U,fun j S=>?_,Z,by omega⟩;exact mono j (l+(r - l) / 2) (by omega) hm e
     |false=>simp only [fC,yE];refine jB ⟨rfl,_,_,rfl,by omega,by omega,Y,fun j S O=>?_,by omega⟩;exact J _ j S O e
end
noncomputable def qx5:Array Keyed->Array Keyed->StateT SortSt Sem (Array Keyed):=sortPriv% PySem.Builtin.mergeLo
noncomputable def qq6:Array Keyed->Array Keyed->StateT SortSt Sem (Array Keyed):=sortPriv% PySem.Builtin.mergeHi
section
variable {rk:Keyed->Int} {la lb out:List Keyed} {ia ib k:Nat}
noncomputable def Up (rk:Keyed->Int) (l:List Keyed):Prop:=l.Pairwise fun x y=>rk x < rk y
noncomputable def Below (rk:Keyed->Int) (l m:List Keyed):Prop:=∀x∈l,∀y∈m,rk x < rk y
structure Mg (rk:Keyed->Int) (la lb out:List Keyed) (ia ib:Nat):Prop where
  perm:out.Perm (la.take ia++lb.take ib)
  up:Up rk out
  loA:Below rk out (la.drop ia)
  loB:Below rk out (lb.drop ib)
structure Good (rk:Keyed->Int) (la lb out:List Keyed):Prop where
  perm:out.Perm (la++lb)
  up:Up rk out
theorem Up.app {l m:List Keyed} (h1:Up rk l) (h2:Up rk m) (h:Below rk l m):Up rk (l++m):=zE.mpr ⟨h1,h2,h⟩
theorem Up.drop {l:List Keyed} (h:Up rk l) (i:Nat):Up rk (l.drop i):=h.sublist (List.drop_sublist i l)
theorem Up.take {l:List Keyed} (h:Up rk l) (i:Nat):Up rk (l.take i):=h.sublist (List.take_sublist i l)
theorem Up.split {l:List Keyed} (h:Up rk l) (i:Nat):Below rk (l.take i) (l.drop i):=by
 have q:Up rk (l.take i++l.drop i):=by rw [jC];exact h
 exact (zE.mp q).2.2
theorem Below.left {l l' m:List Keyed} (h:Below rk l m) (s:∀x∈l',x∈l):Below rk l' m:=fun x hx=>h x (s x hx)
theorem Below.right {l m j:List Keyed} (h:Below rk l m) (s:∀x∈j,x∈m):Below rk l j:=fun x hx y D=>h x hx y (s y D)
theorem Below.app {l l' m:List Keyed} (h:Below rk l m) (h':Below rk l' m):Below rk (l++l') m:=fun x hx=>(rB.mp hx).elim (h x) (h' x)
theorem Below.nil {l:List Keyed}:Below rk l []:=fun _ _ _ j=>by simp at j
abbrev bJ:=@Below.nil
theorem X5 {l:List Keyed} {i j:Nat} (h:i<=j):∀x∈l.drop j,x∈l.drop i:=fun x hx=>by
 have e:l.drop j=(l.drop i).drop (j - i):=by rw [List.drop_drop];congr 1;omega
 rw [e] at hx;exact mD hx
theorem Mg.bulkA (h:Mg rk la lb out ia ib) (ua:Up rk la) (hb:Below rk ((la.drop ia).take k) (lb.drop ib)):Mg rk la lb (out++(la.drop ia).take k) (ia+k) ib where
  perm:=by rw [List.take_add];refine (h.perm.append_right _).trans ?_;rw [iB,iB];exact tD _ iF
  up:=h.up.app ((ua.drop ia).take k) (h.loA.right fun x hx=>yC hx)
  loA:=Below.app (h.loA.right (X5 (by omega))) (by
    have:=(ua.drop ia).split k
    rwa [List.drop_drop] at this)
  loB:=h.loB.app hb
theorem Mg.bulkB (h:Mg rk la lb out ia ib) (ub:Up rk lb) (hb:Below rk ((lb.drop ib).take k) (la.drop ia)):Mg rk la lb (out++(lb.drop ib).take k) ia (ib+k) where
  perm:=by rw [List.take_add,←iB];exact h.perm.append_right _
  up:=h.up.app ((ub.drop ib).take k) (h.loB.right fun x hx=>yC hx)
  loA:=h.loA.app hb
  loB:=Below.app (h.loB.right (X5 (by omega))) (by
    have:=(ub.drop ib).split k
    rwa [List.drop_drop] at this)
theorem Bj {l:List Keyed} {i:Nat} {x:Keyed} (h:l[i]? = some x):(l.drop i).take 1=[x]:=by obtain⟨hi,e⟩:=bA.mp h;rw [bE hi,e];rfl
theorem Mg.pushA (h:Mg rk la lb out ia ib) (ua:Up rk la) {x:Keyed} (hx:la[ia]? = some x) (hb:Below rk [x] (lb.drop ib)):Mg rk la lb (out++[x]) (ia+1) ib:=by
 have:=h.bulkA (k:=1) ua (by rw [Bj hx];exact hb)
 rwa [Bj hx] at this
theorem Mg.pushB (h:Mg rk la lb out ia ib) (ub:Up rk lb) {x:Keyed} (hx:lb[ib]? = some x) (hb:Below rk [x] (la.drop ia)):Mg rk la lb (out++[x]) ia (ib+1):=by
 have:=h.bulkB (k:=1) ub (by rw [Bj hx];exact hb)
 rwa [Bj hx] at this
theorem Mg.goodAB (h:Mg rk la lb out ia ib) (ua:Up rk la) (ub:Up rk lb) (hb:Below rk (la.drop ia) (lb.drop ib)):Good rk la lb (out++la.drop ia++lb.drop ib) where
  perm:=by
    refine ((h.perm.append_right _).append_right _).trans ?_;rw [iB,iB];have e1:(la.take ia++(lb.take ib++(la.drop ia++lb.drop ib))).Perm (la.take ia++(la.drop ia++(lb.take ib++lb.drop ib))):=by refine tD _ ?_;rw [←iB,←iB];exact iF.append_right _
    refine e1.trans ?_;rw [←iB,jC,jC]
  up:=(h.up.app (ua.drop ia) h.loA).app (ub.drop ib) (h.loB.app hb)
theorem Mg.goodBA (h:Mg rk la lb out ia ib) (ua:Up rk la) (ub:Up rk lb) (hb:Below rk (lb.drop ib) (la.drop ia)):Good rk la lb (out++lb.drop ib++la.drop ia) where
  perm:=by
    refine ((h.perm.append_right _).append_right _).trans ?_;rw [iB,iB];have e1:(la.take ia++(lb.take ib++(lb.drop ib++la.drop ia))).Perm (la.take ia++(la.drop ia++(lb.take ib++lb.drop ib))):=by refine tD _ ?_;rw [←iB];exact iF
    refine e1.trans ?_;rw [←iB,jC,jC]
  up:=(h.up.app (ub.drop ib) h.loB).app (ua.drop ia) (h.loA.app hb)
theorem ut {l:List Keyed} {i:Nat} {x:Keyed} (u:Up rk l) (h:l[i]? = some x) {y:Keyed} (F:rk y < rk x):Below rk [y] (l.drop i):=by
 obtain⟨hi,e⟩:=bA.mp h;intro z D t j;have D:z=y:=by simpa using D
 subst D;rw [bE hi,e] at j;rcases gB.mp j with rfl |j
 ·exact F
 ·have q:=u.drop i;rw [bE hi,e] at q;exact Int.lt_trans F ((List.pairwise_cons.mp q).1 t j)
theorem zs5 {l:List Keyed} (u:Up rk l) {i j:Nat} {x y:Keyed} (h:i < j) (hx:l[i]? = some x) (D:l[j]? = some y):rk x < rk y:=by
 obtain⟨hi,ex⟩:=bA.mp hx;obtain⟨F,G⟩:=bA.mp D
 have:=dD.mp u i j hi F h;rw [ex,G] at this;exact this
end
structure Sim (st st':SortSt):Prop where
  arr:arrOf st'=arrOf st
  pend:pendingOf st'=pendingOf st
  kind:kindOf st'=kindOf st
  failed:failedOf st'=failedOf st
theorem Sim.refl (st:SortSt):Sim st st:=⟨rfl,rfl,rfl,rfl⟩
theorem Sim.trans {a b c:SortSt} (h:Sim a b) (k:Sim b c):Sim a c:=⟨k.arr.trans h.arr,k.pend.trans h.pend,k.kind.trans h.kind,k.failed.trans h.failed⟩
structure Two (a0:List Keyed) (rk:Keyed->Int) (a b:Array Keyed):Prop where
  ma:∀x∈a.toList,x∈a0
  mb:∀x∈b.toList,x∈a0
  ua:Up rk a.toList
  ub:Up rk b.toList
  dis:∀x∈a.toList,∀y∈b.toList,rk x≠rk y
  na:0 < a.size
  nb:0 < b.size
section
variable {prog:Program} {w:World} {A:Around} {E:Value->Shared->Prop} {s:Shared} {kind:SortKind} {a0:List Keyed} {rk:Keyed->Int}
theorem yt {a:Array Keyed} {i:Nat} (h:i < a.size):∃x,a[i]? = some x/\a.toList[i]? = some x/\x∈a.toList:=by refine⟨a[i],by simp [h],by simp [h],by simp⟩
theorem Ae (a:Array Keyed) (i:Nat):(a.extract i).toList=a.toList.drop i:=by rw [oF,gG,uB (by simp)]
theorem Yj (a:Array Keyed) (i k:Nat):(a.extract i (i+k)).toList=(a.toList.drop i).take k:=by rw [oF,gG,show i+k - i=k by omega]
theorem qr2 {left:Bool} {key x y:Keyed} (h:rk x < rk y) (q:bey rk left key y=true):bey rk left key x=true:=by
 unfold bey at q ⊢;cases left with
 |true=>simp at q ⊢;omega
 |false=>simp at q ⊢;omega
theorem Ng (C:Cmp prog w A s kind a0 rk) {left:Bool} {key:Keyed} {a:Array Keyed} {i n hint:Nat} {st:SortSt} {Q:Option Nat->SortSt->Prop} (hk:kindOf st=kind)
  (Y:key∈a0) (ma:∀x∈a.toList,x∈a0) (ua:Up rk a.toList) (hn:i+n<=a.size) (U:hint < n) (dis:∀x∈a.toList,rk x≠rk key)
  (h:∀k,k<=n->(∀x∈(a.toList.drop i).take k,rk x < rk key)->(∀x∈(a.toList.drop (i+k)).take (n - k),rk key < rk x)->Q (some k) st) :
  wpS (model prog w) A E s (We left key a i n hint) Q st:=by
 have at':∀j,j < n->∃x,a[i+j]? = some x/\a.toList[i+j]? = some x/\x∈a.toList:=fun j D=>yt (by omega);obtain⟨d,hd⟩:∃d:Keyed,d∈a.toList:=by obtain⟨x,_,_,m⟩:=at' hint U;exact⟨x,m⟩
 have xs:∀j,j < n->a[i+j]? = some ((a[i+j]?).getD d)/\(a[i+j]?).getD d∈a.toList:=fun j D=>by obtain⟨x,e,_,m⟩:=at' j D;rw [e];exact⟨rfl,m⟩
 have lst:∀j,j < n->a.toList[i+j]? = some ((a[i+j]?).getD d):=fun j D=>by obtain⟨x,e,e2,m⟩:=at' j D;rw [e,e2];rfl
 have val:∀x∈a.toList,bey rk left key x=decide (rk x < rk key):=fun x hx=>by
  have:=dis x hx;unfold bey;cases left with
  |true=>rfl
  |false=>
   rw [oA bB];by_cases q:rk x < rk key
   ·rw [eA q,dB (by omega)];rfl
   ·rw [dB q,eA (by omega)];rfl
 refine Mu C hk Y (fun j=>(a[i+j]?).getD d) (fun j D=>(xs j D).1) (fun j D=>ma _ (xs j D).2) U (fun p q G Z hb=>?_) fun k J O S=>h k J (fun x hx=>?_) (fun x hx=>?_)
 ·rcases kI G with z |z
  ·exact qr2 (zs5 ua (by omega) (lst p (by omega)) (lst q Z)) hb
  ·subst z;exact hb
 ·obtain⟨j,D,e⟩:=rF.mp hx;rw [cB,wC] at D;rw [List.getElem_take,List.getElem_drop] at e;have q:=O j (by omega);have e2:=lst j (by omega);rw [gA (by omega),e] at e2;have e2:=nB e2;rw [val _ (xs j (by omega)).2,←e2] at q;exact lB q
 ·obtain⟨j,D,e⟩:=rF.mp hx;rw [cB,wC] at D;rw [List.getElem_take,List.getElem_drop] at e;have q:=S (k+j) (by omega) (by omega);have e2:=lst (k+j) (by omega);have F:i+(k+j)=i+k+j:=by omega
  simp only [F] at e2 q;rw [gA (by simp at D ⊢;omega),e] at e2;have e2:=nB e2;have mem:x∈a.toList:=mD (yC hx);rw [←e2,val _ mem] at q;have q:=of_decide_eq_false q
  have:=dis x mem;omega
structure Opn (rk:Keyed->Int) (a b out:Array Keyed) (ia ib:Nat):Prop where
  mg:Mg rk a.toList b.toList out.toList ia ib
  ha:ia+1 < a.size
  hb:ib < b.size
theorem qf6 {G:Prop} (P:Nat->Prop) (h:(∀m,P m)->G) (k:∀m,P m):G:=h k
theorem jc {α:Type} {c:Prop} [Decidable c] {p q:StateT SortSt Sem α} {Q:α->SortSt->Prop} {st:SortSt} (hp:c->wpS (model prog w) A E s p Q st) (hn:¬c->wpS (model prog w) A E s q Q st):wpS (model prog w) A E s (if c then p else q) Q st:=by
 by_cases h:c
 ·rw [kA h];exact hp h
 ·rw [oA h];exact hn h
theorem ex1 {α:Type} {A B C:α->Prop} {G:Prop} (h:∃x,A x/\B x/\C x) (k:∀x,A x->B x->C x->G):G:=by obtain⟨x,a,b,c⟩:=h;exact k x a b c
theorem exs {α β:Type} {A B C D:α->β->Prop} {G:Prop} (h:∃x y,A x y/\B x y/\C x y/\D x y) (k:∀x y,A x y->B x y->C x y->D x y->G):G:=by obtain⟨x,y,a,b,c,d⟩:=h;exact k x y a b c d
theorem ex4 {S:Prop} {α β γ δ:Type} {P Q R:α->β->γ->δ->Prop} {G:Prop} (h:S/\∃a b c d,P a b c d/\Q a b c d/\R a b c d) (k:S->∀a b c d,P a b c d->Q a b c d->R a b c d->G):G:=by obtain⟨s,a,b,c,d,p,q,r⟩:=h;exact k s a b c d p q r
theorem ex5 {S:Prop} {α β γ δ ε:Type} {P Q R:α->β->γ->δ->ε->Prop} {G:Prop} (h:S/\∃a b c d e,P a b c d e/\Q a b c d e/\R a b c d e) (k:S->∀a b c d e,P a b c d e->Q a b c d e->R a b c d e->G):G:=by obtain⟨s,a,b,c,d,e,p,q,r⟩:=h;exact k s a b c d e p q r
theorem ex6 {S:Prop} {α β γ δ ε ζ:Type} {P Q R:α->β->γ->δ->ε->ζ->Prop} {G:Prop} (h:S/\∃a b c d e f,P a b c d e f/\Q a b c d e f/\R a b c d e f) (k:S->∀a b c d e f,P a b c d e f->Q a b c d e f->R a b c d e f->G):G:=by obtain⟨s,a,b,c,d,e,f,p,q,r⟩:=h;exact k s a b c d e f p q r
theorem Xd (C:Cmp prog w A s kind a0 rk) {a b:Array Keyed} {st:SortSt} {Q:Array Keyed->SortSt->Prop} (hk:kindOf st=kind) (T:Two a0 rk a b)
  (first:∀x y,a.toList[0]? = some x->b.toList[0]? = some y->rk y < rk x) (last:∀x,a.toList[a.size - 1]? = some x->∀y∈b.toList,rk y < rk x)
  (h:∀m st',Sim st st'->Good rk a.toList b.toList m.toList->Q m st'):wpS (model prog w) A E s (qx5 a b) Q st:=by
 have ua:=T.ua;have ub:=T.ub;refine ex1 (yt T.nb) fun b0 eb af mb0=>?_;refine ex1 (yt T.na) fun x0 ea ag mx0=>?_;have bl:Below rk [b0] (a.toList.drop 0):=ut ua ag (first _ _ ag af);have M0:Mg rk a.toList b.toList (#[b0]:Array Keyed).toList 0 1:=by
  have z:Mg rk a.toList b.toList [] 0 0:=⟨by simp,List.Pairwise.nil,fun _ hx=>by simp at hx,fun _ hx=>by simp at hx⟩
  exact z.pushB ub af bl
 have Z:∀ia ib,ia+1=a.size->Below rk (b.toList.drop ib) (a.toList.drop ia):=fun ia ib hi y hy x hx=>by
  refine ex1 (yt (a:=a) (i:=ia) (by omega)) fun z ez ah mz=>?_;have e:a.toList.drop ia=[z]:=by obtain⟨hl,e⟩:=bA.mp ah;rw [bE hl,e,oE (by simp;omega)]
  rw [e] at hx;have hx:x=z:=by simpa using hx
  subst hx;exact last _ (by rw [show a.size - 1=ia by omega];exact ah) y (mD hy)
 have Ly:∀ib,ib=b.size->b.toList.drop ib=[]:=fun ib e=>oE (by simp;omega);have ai:∀ia,ia=a.size->a.toList.drop ia=[]:=fun ib e=>oE (by simp;omega);refine aB (wpS_lift (wpAny_rule ⟨rfl,?_⟩));refine aB (jf eb ?_);dsimp only;apply jc
 ·intro h1;have h1:1=b.size:=by simpa using h1
  refine jB (h _ _ (Sim.refl _) ?_);have q:=M0.goodAB ua ub (by rw [Ly 1 h1];exact bJ);simp only [mB,Ae,wB];exact q
 ·intro h1;have h1:¬1=b.size:=by simpa using h1
  have hnb:=T.nb;have hna:=T.na;apply jc
  ·intro h2;have h2:0+1=a.size:=by simpa using h2
   refine jB (h _ _ (Sim.refl _) ?_);have q:=M0.goodBA ua ub (Z 0 1 h2);simp only [mB,Ae,wB];exact q
  ·intro h2;have h2:¬0+1=a.size:=by simpa using h2
   refine aB (wpS_get ?_);refine aB (nF (lD
    (I:=fun i c st'=>Sim st st'/\∃out ia ib mg,c=(none,out,ia,ib,mg)/\Opn rk a b out ia ib/\i+1<=ia+ib)
    (Q:=fun c st'=>Sim st st'/\∃m,c.1=some m/\Good rk a.toList b.toList m.toList) ?step ?fin ⟨Sim.refl _,_,_,_,_,rfl,⟨M0,by omega,by omega⟩,by omega⟩) ?post)
   case post=>
    rintro⟨c1,c2⟩ st' ⟨sm,m,e,g⟩;dsimp only at e ⊢;subst e;exact jB (h m st' sm g)
   case fin=>
    rintro c st' ⟨sm,out,ia,ib,mg,rfl,O,hp⟩
    have:=O.ha
    have:=O.hb;omega
   case step=>
    intro i c st1 _ hi hI;refine ex4 hI fun aw out1 a4 a5 mg1 ec O1 hp1=>?_;clear hI;subst ec;dsimp only;refine aB (nF (lD
     (I:=fun j c st'=>Sim st st'/\∃out ia ib ac bc,c=(none,out,ia,ib,ac,bc)/\Opn rk a b out ia ib/\a4+a5+j<=ia+ib)
     (Q:=fun c st'=>Sim st st'/\((∃m,c.1=some m/\Good rk a.toList b.toList m.toList)\/∃out ia ib ac bc,c=(none,out,ia,ib,ac,bc)/\Opn rk a b out ia ib/\a4+a5+1<=ia+ib)) ?s2 ?f2 ⟨aw,_,_,_,_,_,rfl,O1,by omega⟩) ?p2)
    case f2=>
     rintro c st' ⟨sm,out,ia,ib,ac,bc,rfl,O,hp⟩;exact⟨sm,.inr ⟨out,ia,ib,ac,bc,rfl,O,by omega⟩⟩
    case s2=>
     intro j c ax _ hj hI;refine ex5 hI fun U out ia ib ac bc ec O hp=>?_;clear hI;subst ec;dsimp only;have M:=O.mg;have aj:=O.ha;have ak:=O.hb;refine ex1 (yt (a:=a) (i:=ia) (by omega)) fun x e1 e2 mx=>?_;refine ex1 (yt O.hb) fun y e3 e4 my=>?_;refine aB (jf e3 (aB (jf e1 (aB (U7 C (U.kind.trans hk) (T.mb _ my) (T.ma _ mx) ?_)))));have dxy:=T.dis x mx y my;apply jc
     ·intro hw;have hw:rk y < rk x:=lB hw;refine aB (jf e3 ?_);have M':=M.pushB ub e4 (ut ua e2 hw);apply jc
      ·intro Y;have Y:ib+1=b.size:=by simpa using Y
       refine jB ⟨U,.inl ⟨_,rfl,?_⟩⟩;have q:=M'.goodAB ua ub (by rw [Ly _ Y];exact bJ);simp only [mB,Ae,wB];exact q
      ·intro Y;have Y:¬ib+1=b.size:=by simpa using Y
       have O':Opn rk a b (out.push y) ia (ib+1):=⟨by simpa using M',aj,by omega⟩
       apply jc
       ·intro h4;exact jB ⟨U,.inr ⟨_,_,_,_,_,rfl,O',by omega⟩⟩
       ·intro h4;exact jB ⟨U,_,_,_,_,_,rfl,O',by omega⟩
     ·intro hw;have hw:¬rk y < rk x:=fun z=>hw (eA z);refine aB (jf e1 ?_);have M':=M.pushA ua e2 (ut ub e4 (by omega));apply jc
      ·intro Y;have Y:ia+1+1=a.size:=by simpa using Y
       refine jB ⟨U,.inl ⟨_,rfl,?_⟩⟩;have q:=M'.goodBA ua ub (Z _ _ Y);simp only [mB,Ae,wB];exact q
      ·intro Y;have Y:¬ia+1+1=a.size:=by simpa using Y
       have O':Opn rk a b (out.push x) (ia+1) ib:=⟨by simpa using M',by omega,ak⟩
       apply jc
       ·intro h4;exact jB ⟨U,.inr ⟨_,_,_,_,_,rfl,O',by omega⟩⟩
       ·intro h4;exact jB ⟨U,_,_,_,_,_,rfl,O',by omega⟩
    case p2=>
     rintro c ax ⟨U,(⟨m,e,g⟩ |⟨out2,ia2,ib2,ac2,bc2,rfl,O2,ay⟩)⟩
     ·obtain⟨c1,c2⟩:=c;dsimp only at e ⊢;subst e;exact jB ⟨U,m,rfl,g⟩
     ·dsimp only;refine aB (wpS_lift (wpAny_rule ⟨rfl,?_⟩));refine aB (nF (lD
       (I:=fun j c st'=>Sim st st'/\∃out ia ib mg ac bc,c=(none,out,ia,ib,mg,ac,bc)/\Opn rk a b out ia ib/\a4+a5+1<=ia+ib)
       (Q:=fun c st'=>Sim st st'/\((∃m,c.1=some m/\Good rk a.toList b.toList m.toList)\/∃out ia ib mg ac bc,c=(none,out,ia,ib,mg,ac,bc)/\Opn rk a b out ia ib/\a4+a5+1<=ia+ib)) ?s3 ?f3 ⟨U,_,_,_,_,_,_,rfl,O2,ay⟩) ?p3)
      case f3=>
       rintro c st' ⟨sm,out,ia,ib,mg,ac,bc,rfl,O,hp⟩;exact⟨sm,.inr ⟨out,ia,ib,mg,ac,bc,rfl,O,hp⟩⟩
      case p3=>
       rintro c az ⟨S,(⟨m,e,g⟩ |⟨out,ia,ib,mg,ac,bc,rfl,O,hp⟩)⟩
       ·obtain⟨c1,c2⟩:=c;dsimp only at e ⊢;subst e;exact jB ⟨S,m,rfl,g⟩
       ·dsimp only;refine aB (bG ?_);exact jB ⟨S.trans ⟨rfl,rfl,rfl,rfl⟩,_,_,_,_,rfl,O,by omega⟩
      case s3=>
       intro j c az _ hj hI;refine ex6 hI fun S out ia ib mg ac bc ec O hp=>?_;clear hI;subst ec;dsimp only;have M:=O.mg;have aj:=O.ha;have ak:=O.hb;refine ex1 (yt O.hb) fun y e3 e4 my=>?_;refine qf6 ?P ?hgA ?hgB
       case hgA=>
        intro key;apply jc
        ·intro hg;generalize mg - 1=m1;exact key m1
        ·intro hg;exact key mg
       intro mg
       all_goals
        refine aB (bG ?_);refine aB (jf e3 ?_);refine aB (Ng C (by exact S.kind.trans hk) (T.mb _ my) T.ma ua (by omega) (by omega) (fun x hx=>T.dis x hx y my) fun k hk1 b2 b3=>?_);dsimp only;have Mk:=M.bulkA (k:=k) ua (fun x hx=>ut ub e4 (b2 x hx) x (by simp));have yA:Below rk [y] (a.toList.drop (ia+k)):=fun z hz t ht=>by
         have hz:z=y:=by simpa using hz
         subst hz;refine b3 t ?_;rw [uB (by simp;omega)];exact ht
        have a7:(∃F D,F=out++a.extract ia (ia+k)/\D=ia+k/\Mg rk a.toList b.toList F.toList D ib/\Below rk [y] (a.toList.drop D)):=
         ⟨_,_,rfl,rfl,by simpa [Yj] using Mk,yA⟩
        apply jc;case' hp=>
         intro b4;refine exs a7 fun F D eo ei M' ao=>?_;rw [←eo,←ei];have a3:D<=a.size:=by omega
        case' hn=>
         intro b4;have k0:k=0:=by omega
         subst k0;refine exs (show ∃F D,F=out/\D=ia/\Mg rk a.toList b.toList F.toList D ib/\Below rk [y] (a.toList.drop D) from ⟨_,_,rfl,rfl,M,yA⟩) fun F D eo ei M' ao=>?_;rw [←eo,←ei];have a3:D+1 < a.size:=by omega
        case' hp=>
         apply jc;case' hp=>
          intro Y;have Y:D+1=a.size:=by simpa using Y
          refine jB ⟨S.trans ⟨rfl,rfl,rfl,rfl⟩,.inl ⟨_,rfl,?_⟩⟩;have q:=M'.goodBA ua ub (Z _ _ Y);simp only [mB,Ae,wB];exact q
         intro Y;have Y:¬D+1=a.size:=by simpa using Y
         apply jc;case' hp=>
          intro h4;have h4:D=a.size:=by simpa using h4
          refine jB ⟨S.trans ⟨rfl,rfl,rfl,rfl⟩,.inl ⟨_,rfl,?_⟩⟩;have q:=M'.goodAB ua ub (by rw [ai _ h4];exact fun _ hx=>by simp at hx);simp only [mB,Ae,wB];exact q
         intro h4;have h4:¬D=a.size:=by simpa using h4
         have a8:D+1 < a.size:=by omega
         clear a3;have a3:=a8
       all_goals
        refine aB (jf e3 ?_);have M2:=M'.pushB ub e4 ao;apply jc;case' hp=>
         intro h5;have h5:ib+1=b.size:=by simpa using h5
         refine jB ⟨S.trans ⟨rfl,rfl,rfl,rfl⟩,.inl ⟨_,rfl,?_⟩⟩;have q:=M2.goodAB ua ub (by rw [Ly _ h5];exact bJ);simp only [mB,Ae,wB];exact q
        intro h5;have h5:¬ib+1=b.size:=by simpa using h5
        refine ex1 (yt (a:=a) (i:=D) (by omega)) fun x e1 e2 mx=>?_;refine aB (jf e1 ?_);refine aB (Ng C (by exact S.kind.trans hk) (T.ma _ mx) T.mb ub (by omega) (by omega) (fun z hz=>(T.dis x mx z hz).symm) fun k' hk1' aq ar=>?_);dsimp only;have b5:=M2.bulkB (k:=k') ub (fun z hz=>ut ua e2 (aq z hz) z (by simp));have xB:Below rk [x] (b.toList.drop (ib+1+k')):=fun z hz t ht=>by
         have hz:z=x:=by simpa using hz
         subst hz;refine ar t ?_;rw [uB (by simp;omega)];exact ht
        have e5:(F.push y).toList=F.toList++[y]:=wB;have a9:(∃J G,J=F.push y++b.extract (ib+1) (ib+1+k')/\G=ib+1+k'/\Mg rk a.toList b.toList J.toList D G/\Below rk [x] (b.toList.drop G)):=
         ⟨_,_,rfl,rfl,by rw [mB,Yj,e5];exact b5,xB⟩
        apply jc;case' hp=>
         intro au;refine exs a9 fun J G aa ae M3 av=>?_;rw [←aa,←ae];apply jc;case' hp=>
          intro h6;have h6:G=b.size:=by simpa using h6
          refine jB ⟨S.trans ⟨rfl,rfl,rfl,rfl⟩,.inl ⟨_,rfl,?_⟩⟩;have q:=M3.goodAB ua ub (by rw [Ly _ h6];exact bJ);simp only [mB,Ae,wB];exact q
         intro h6;have h6:¬G=b.size:=by simpa using h6
         have a6:G < b.size:=by omega
        case' hn=>
         intro au;have k0:k'=0:=by omega
         subst k0;refine exs (show ∃J G,J=F.push y/\G=ib+1/\Mg rk a.toList b.toList J.toList D G/\Below rk [x] (b.toList.drop G) from ⟨_,_,rfl,rfl,by rw [e5];exact M2,xB⟩) fun J G aa ae M3 av=>?_;rw [←aa,←ae];have a6:G < b.size:=by omega
       all_goals
        refine aB (jf e1 ?_);have M4:=M3.pushA ua e2 av;apply jc;case' hp=>
         intro h7;have h7:D+1+1=a.size:=by simpa using h7
         refine jB ⟨S.trans ⟨rfl,rfl,rfl,rfl⟩,.inl ⟨_,rfl,?_⟩⟩;have q:=M4.goodBA ua ub (Z _ _ h7);simp only [mB,Ae,wB];exact q
        intro h7;have h7:¬D+1+1=a.size:=by simpa using h7
        have O4:Opn rk a b (J.push x) (D+1) G:=⟨by rw [wB];exact M4,by omega,a6⟩
        apply jc<;>intro _
        ·exact jB ⟨S.trans ⟨rfl,rfl,rfl,rfl⟩,.inr ⟨_,_,_,_,_,_,rfl,O4,by omega⟩⟩
        ·exact jB ⟨S.trans ⟨rfl,rfl,rfl,rfl⟩,_,_,_,_,_,_,rfl,O4,by omega⟩
end
section
variable {rk:Keyed->Int} {la lb R:List Keyed} {na nb k:Nat}
structure Mh (rk:Keyed->Int) (la lb R:List Keyed) (na nb:Nat):Prop where
  perm:R.Perm (la.drop na++lb.drop nb)
  up:Up rk R
  hiA:Below rk (la.take na) R
  hiB:Below rk (lb.take nb) R
theorem Below.appR {l m j:List Keyed} (h:Below rk l m) (h':Below rk l j):Below rk l (m++j):=fun x hx y D=>(rB.mp D).elim (h x hx y) (h' x hx y)
theorem Yc {l:List Keyed} {i j:Nat} (h:i<=j):∀x∈l.take i,x∈l.take j:=fun x hx=>by
 have e:l.take i=(l.take j).take i:=by rw [rH];congr 1;omega
 rw [e] at hx;exact yC hx
theorem Nh {l:List Keyed} {i j:Nat} (h:i<=j):l.drop i=(l.take j).drop i++l.drop j:=by
 have e:l=l.take j++l.drop j:=(jC j l).symm;by_cases hj:j<=l.length
 ·conv=>lhs;rw [e]
  rw [sG (by rw [cB];omega)]
 ·rw [uB (by omega),oE (i:=j) (by omega),xC]
theorem Mh.bulkA (h:Mh rk la lb R na nb) (ua:Up rk la) (hk:k<=na) (hb:Below rk (lb.take nb) ((la.take na).drop k)):Mh rk la lb ((la.take na).drop k++R) k nb where
  perm:=by rw [Nh (l:=la) hk,iB];exact tD _ h.perm
  up:=((ua.take na).drop k).app h.up (h.hiA.left fun x hx=>mD hx)
  hiA:=Below.appR (by
    have:=(ua.take na).split k;rw [rH,show min k na=k by omega] at this;exact this) (h.hiA.left (Yc hk))
  hiB:=hb.appR h.hiB
theorem Mh.bulkB (h:Mh rk la lb R na nb) (ub:Up rk lb) (hk:k<=nb) (hb:Below rk (la.take na) ((lb.take nb).drop k)):Mh rk la lb ((lb.take nb).drop k++R) na k where
  perm:=by rw [Nh (l:=lb) hk,←iB];refine (tD _ h.perm).trans ?_;rw [←iB];exact iF.append_right _
  up:=((ub.take nb).drop k).app h.up (h.hiB.left fun x hx=>mD hx)
  hiA:=hb.appR h.hiA
  hiB:=Below.appR (by
    have:=(ub.take nb).split k;rw [rH,show min k nb=k by omega] at this;exact this) (h.hiB.left (Yc hk))
theorem Iu {l:List Keyed} {i:Nat} {x:Keyed} (h:l[i]? = some x):(l.take (i+1)).drop i=[x]:=by rw [cG,show i+1 - i=1 by omega];exact Bj h
theorem Mh.pushA (h:Mh rk la lb R (na+1) nb) (ua:Up rk la) {x:Keyed} (hx:la[na]? = some x) (hb:Below rk (lb.take nb) [x]):Mh rk la lb (x::R) na nb:=by
 have:=h.bulkA (k:=na) ua (by omega) (by rw [Iu hx];exact hb)
 rwa [Iu hx] at this
theorem Mh.pushB (h:Mh rk la lb R na (nb+1)) (ub:Up rk lb) {x:Keyed} (hx:lb[nb]? = some x) (hb:Below rk (la.take na) [x]):Mh rk la lb (x::R) na nb:=by
 have:=h.bulkB (k:=nb) ub (by omega) (by rw [Iu hx];exact hb)
 rwa [Iu hx] at this
theorem Mh.goodAB (h:Mh rk la lb R na nb) (ua:Up rk la) (ub:Up rk lb) (hb:Below rk (la.take na) (lb.take nb)):Good rk la lb (la.take na++lb.take nb++R) where
  perm:=by
    refine (tD _ h.perm).trans ?_;have e1:(la.take na++lb.take nb++(la.drop na++lb.drop nb)).Perm (la.take na++la.drop na++(lb.take nb++lb.drop nb)):=by rw [iB,iB];refine tD _ ?_;rw [←iB,←iB];exact iF.append_right _
    rw [jC,jC] at e1;exact e1
  up:=((ua.take na).app (ub.take nb) hb).app h.up (h.hiA.app h.hiB)
theorem Mh.goodBA (h:Mh rk la lb R na nb) (ua:Up rk la) (ub:Up rk lb) (hb:Below rk (lb.take nb) (la.take na)):Good rk la lb (lb.take nb++la.take na++R) where
  perm:=by
    refine (tD _ h.perm).trans ?_;have e1:(lb.take nb++la.take na++(la.drop na++lb.drop nb)).Perm (la.take na++la.drop na++(lb.take nb++lb.drop nb)):=by rw [iB,←iB (la.take na)];rw [←iB,←iB (la.take na++la.drop na)];exact iF.append_right _
    rw [jC,jC] at e1;exact e1
  up:=((ub.take nb).app (ua.take na) hb).app h.up (h.hiB.app h.hiA)
theorem Bk {l:List Keyed} {i:Nat} {x:Keyed} (u:Up rk l) (h:l[i]? = some x) {y:Keyed} (F:rk x < rk y):Below rk (l.take (i+1)) [y]:=by
 obtain⟨hi,e⟩:=bA.mp h;intro z j t D;have D:t=y:=by simpa using D
 subst D;rw [pD hi,e] at j;rcases rB.mp j with j |j
 ·have q:=u.split i
  have:x∈l.drop i:=by rw [bE hi,e];exact uA
  exact Int.lt_trans (q z j x this) F
 ·have j:z=x:=by simpa using j
  subst j;exact F
end
theorem Aj (a:Array Keyed) (n:Nat):(a.extract 0 n).toList=a.toList.take n:=by rw [oF,gG,sH,Nat.sub_zero]
theorem vp (a:Array Keyed) (i j:Nat):(a.extract i j).toList=(a.toList.take j).drop i:=by rw [oF,gG,cG]
section
variable {prog:Program} {w:World} {A:Around} {E:Value->Shared->Prop} {s:Shared} {kind:SortKind} {a0:List Keyed} {rk:Keyed->Int}
structure Oph (rk:Keyed->Int) (a b out:Array Keyed) (na nb:Nat):Prop where
  mh:Mh rk a.toList b.toList out.toList.reverse na nb
  ha:0 < na
  la:na < a.size
  hb:1 < nb
  lb:nb<=b.size
theorem Wx (C:Cmp prog w A s kind a0 rk) {a b:Array Keyed} {st:SortSt} {Q:Array Keyed->SortSt->Prop} (hk:kindOf st=kind) (T:Two a0 rk a b)
  (first:∀x,b.toList[0]? = some x->∀y∈a.toList,rk x < rk y) (last:∀x,a.toList[a.size - 1]? = some x->∀y∈b.toList,rk y < rk x)
  (h:∀m st',Sim st st'->Good rk a.toList b.toList m.toList->Q m st'):wpS (model prog w) A E s (qq6 a b) Q st:=by
 have ua:=T.ua;have ub:=T.ub;have hna:=T.na;have hnb:=T.nb;refine ex1 (yt (a:=a) (i:=a.size - 1) (by omega)) fun x0 ea aa mx0=>?_;have M0:Mh rk a.toList b.toList (#[x0]:Array Keyed).toList.reverse (a.size - 1) b.size:=by
  have z:Mh rk a.toList b.toList [] (a.size - 1+1) b.size:=⟨by rw [oE (by simp;omega),oE (by simp)];simp,List.Pairwise.nil,bJ,bJ⟩
  refine z.pushA ua aa fun y hy t ht=>?_;have ht:t=x0:=by simpa using ht
  subst ht;exact last _ aa y (yC hy)
 have U:∀na nb,nb=1->Below rk (b.toList.take nb) (a.toList.take na):=fun na nb hi y hy x hx=>by
  subst hi;refine ex1 (yt T.nb) fun z ez ae mz=>?_;have e:b.toList.take 1=[z]:=by
   have:=Bj ae
   rwa [sH] at this
  rw [e] at hy;have hy:y=z:=by simpa using hy
  subst hy;exact first _ ae x (yC hx)
 refine aB (wpS_lift (wpAny_rule ⟨rfl,?_⟩));refine aB (jf ea ?_);dsimp only;apply jc
 ·intro h1;have h1:a.size - 1=0:=by simpa using h1
  refine jB (h _ _ (Sim.refl _) ?_);have q:=M0.goodAB ua ub (by rw [h1];intro x hx;simp at hx);simp only [mB,Aj,wB,iD];exact q
 ·intro h1;have h1:¬a.size - 1=0:=by simpa using h1
  apply jc
  ·intro h2;have h2:b.size=1:=by simpa using h2
   refine jB (h _ _ (Sim.refl _) ?_);have q:=M0.goodBA ua ub (U _ _ h2);simp only [mB,Aj,wB,iD];exact q
  ·intro h2;have h2:¬b.size=1:=by simpa using h2
   refine aB (wpS_get ?_);refine aB (nF (lD
    (I:=fun i c st'=>Sim st st'/\∃na nb out mg,c=(none,na,nb,out,mg)/\Oph rk a b out na nb/\na+nb+i+1<=a.size+b.size)
    (Q:=fun c st'=>Sim st st'/\∃m,c.1=some m/\Good rk a.toList b.toList m.toList) ?step ?fin ⟨Sim.refl _,_,_,_,_,rfl,⟨M0,by omega,by omega,by omega,by omega⟩,by omega⟩) ?post)
   case post=>
    rintro⟨c1,c2⟩ st' ⟨sm,m,e,g⟩;dsimp only at e ⊢;subst e;exact jB (h m st' sm g)
   case fin=>
    rintro c st' ⟨sm,na,nb,out,mg,rfl,O,hp⟩
    have:=O.ha
    have:=O.hb;omega
   case step=>
    intro i c st1 _ hi hI;refine ex4 hI fun aw na1 a3 out1 mg1 ec O1 hp1=>?_;clear hI;subst ec;dsimp only;refine aB (nF (lD
     (I:=fun j c st'=>Sim st st'/\∃na nb out ac bc,c=(none,na,nb,out,ac,bc)/\Oph rk a b out na nb/\na+nb+j<=na1+a3)
     (Q:=fun c st'=>Sim st st'/\((∃m,c.1=some m/\Good rk a.toList b.toList m.toList)\/∃na nb out ac bc,c=(none,na,nb,out,ac,bc)/\Oph rk a b out na nb/\na+nb+1<=na1+a3)) ?s2 ?f2 ⟨aw,_,_,_,_,_,rfl,O1,by omega⟩) ?p2)
    case f2=>
     rintro c st' ⟨sm,na,nb,out,ac,bc,rfl,O,hp⟩;exact⟨sm,.inr ⟨na,nb,out,ac,bc,rfl,O,by omega⟩⟩
    case s2=>
     intro j c ax _ hj hI;refine ex5 hI fun Y na nb out ac bc ec O hp=>?_;clear hI;subst ec;refine Exists.elim (show ∃p,na=p+1 from ⟨na - 1,by have:=O.ha;omega⟩) fun p ep=>?_;subst ep;refine Exists.elim (show ∃q,nb=q+1 from ⟨nb - 1,by have:=O.hb;omega⟩) fun q ep=>?_;subst ep;dsimp only [Nat.add_one_sub_one];have M:=O.mh;have af:=O.la;have ag:=O.lb;have ah:=O.hb;refine ex1 (yt (a:=a) (i:=p) (by omega)) fun x e1 e2 mx=>?_;refine ex1 (yt (a:=b) (i:=q) (by omega)) fun y e3 e4 my=>?_;refine aB (jf e3 (aB (jf e1 (aB (U7 C (Y.kind.trans hk) (T.mb _ my) (T.ma _ mx) ?_)))));have dxy:=T.dis x mx y my;apply jc
     ·intro hw;have hw:rk y < rk x:=lB hw;refine aB (jf e1 ?_);have M':=M.pushA ua e2 (Bk ub e4 hw);apply jc
      ·intro Z;have Z:p=0:=by simpa using Z
       refine jB ⟨Y,.inl ⟨_,rfl,?_⟩⟩;have q:=M'.goodAB ua ub (by rw [Z];intro x hx;simp at hx);simp only [mB,Aj,wB,iD,xF,List.reverse_cons,List.reverse_nil,uF,jF];exact q
      ·intro Z;have Z:¬p=0:=by simpa using Z
       have O':Oph rk a b (out.push x) p (q+1):=⟨by simpa using M',by omega,by omega,ah,ag⟩
       apply jc
       ·intro h4;exact jB ⟨Y,.inr ⟨_,_,_,_,_,rfl,O',by omega⟩⟩
       ·intro h4;exact jB ⟨Y,_,_,_,_,_,rfl,O',by omega⟩
     ·intro hw;have hw:¬rk y < rk x:=fun z=>hw (eA z);refine aB (jf e3 ?_);have M':=M.pushB ub e4 (Bk ua e2 (by omega));apply jc
      ·intro Z;have Z:q=1:=by simpa using Z
       refine jB ⟨Y,.inl ⟨_,rfl,?_⟩⟩;have q:=M'.goodBA ua ub (U _ _ Z);simp only [mB,Aj,wB,iD,xF,List.reverse_cons,List.reverse_nil,uF,jF];exact q
      ·intro Z;have Z:¬q=1:=by simpa using Z
       have O':Oph rk a b (out.push y) (p+1) q:=⟨by simpa using M',by omega,af,by omega,by omega⟩
       apply jc
       ·intro h4;exact jB ⟨Y,.inr ⟨_,_,_,_,_,rfl,O',by omega⟩⟩
       ·intro h4;exact jB ⟨Y,_,_,_,_,_,rfl,O',by omega⟩
    case p2=>
     rintro c ax ⟨Y,(⟨m,e,g⟩ |⟨na2,nb2,out2,ac2,bc2,rfl,O2,ay⟩)⟩
     ·obtain⟨c1,c2⟩:=c;dsimp only at e ⊢;subst e;exact jB ⟨Y,m,rfl,g⟩
     ·dsimp only;refine aB (wpS_lift (wpAny_rule ⟨rfl,?_⟩));refine aB (nF (lD
       (I:=fun j c st'=>Sim st st'/\∃na nb out mg ac bc,c=(none,na,nb,out,mg,ac,bc)/\Oph rk a b out na nb/\na+nb+1<=na1+a3)
       (Q:=fun c st'=>Sim st st'/\((∃m,c.1=some m/\Good rk a.toList b.toList m.toList)\/∃na nb out mg ac bc,c=(none,na,nb,out,mg,ac,bc)/\Oph rk a b out na nb/\na+nb+1<=na1+a3)) ?s3 ?f3 ⟨Y,_,_,_,_,_,_,rfl,O2,ay⟩) ?p3)
      case f3=>
       rintro c st' ⟨sm,na,nb,out,mg,ac,bc,rfl,O,hp⟩;exact⟨sm,.inr ⟨na,nb,out,mg,ac,bc,rfl,O,hp⟩⟩
      case p3=>
       rintro c az ⟨S,(⟨m,e,g⟩ |⟨na,nb,out,mg,ac,bc,rfl,O,hp⟩)⟩
       ·obtain⟨c1,c2⟩:=c;dsimp only at e ⊢;subst e;exact jB ⟨S,m,rfl,g⟩
       ·dsimp only;refine aB (bG ?_);exact jB ⟨S.trans ⟨rfl,rfl,rfl,rfl⟩,_,_,_,_,rfl,O,by omega⟩
      case s3=>
       intro j c az _ hj hI;refine ex6 hI fun S na nb out mg ac bc ec O hp=>?_;clear hI;subst ec;refine Exists.elim (show ∃q,nb=q+1 from ⟨nb - 1,by have:=O.hb;omega⟩) fun q ep=>?_;subst ep;dsimp only [Nat.add_one_sub_one];have M:=O.mh;have hha:=O.ha;have af:=O.la;have ag:=O.lb;have ah:=O.hb;refine ex1 (yt (a:=b) (i:=q) (by omega)) fun y e3 e4 my=>?_;refine qf6 ?P ?hgA ?hgB
       case hgA=>
        intro key;apply jc
        ·intro hg;generalize mg - 1=m1;exact key m1
        ·intro hg;exact key mg
       intro mg
       all_goals
        refine aB (bG ?_);refine aB (jf e3 ?_);refine aB (Ng C (by exact S.kind.trans hk) (T.mb _ my) T.ma ua (by omega) (by omega) (fun x hx=>T.dis x hx y my) fun k b2 ai aj=>?_);dsimp only;rw [sH] at ai;rw [Nat.zero_add,←cG] at aj;have Mk:=M.bulkA (k:=k) ua b2 (fun x hx t ht=>Bk ub e4 (aj t ht) x hx t (by simp));have yA:Below rk (a.toList.take k) [y]:=fun z hz t ht=>by
         have ht:t=y:=by simpa using ht
         subst ht;exact ai z hz
        have a6:(∃G F,G=out++(a.extract k na).reverse/\F=k/\Mh rk a.toList b.toList G.toList.reverse F (q+1)/\Below rk (a.toList.take F) [y]):=
         ⟨_,_,rfl,rfl,by rw [mB,iD,xF,List.reverse_reverse,vp];exact Mk,yA⟩
        apply jc;case' hp=>
         intro b3;refine exs a6 fun G F eo ei M' ak=>?_;subst ei;rw [←eo];apply jc;case' hp=>
          intro Z;have Z:F=0:=by simpa using Z
          refine jB ⟨S.trans ⟨rfl,rfl,rfl,rfl⟩,.inl ⟨_,rfl,?_⟩⟩;have g:=M'.goodAB ua ub (by rw [Z];intro x hx;simp at hx);simp only [mB,Aj,wB,iD];exact g
         intro Z;have Z:¬F=0:=by simpa using Z
         have ao:0 < F/\F<=na:=by omega
        case' hn=>
         intro b3;have k0:k=na:=by omega
         subst k0;refine exs (show ∃G F,G=out/\F=k/\Mh rk a.toList b.toList G.toList.reverse F (q+1)/\Below rk (a.toList.take F) [y] from ⟨_,_,rfl,rfl,M,yA⟩) fun G F eo ei M' ak=>?_;subst ei;rw [←eo];have ao:0 < F/\F<=F:=by omega
       all_goals
        refine Exists.elim (show ∃p,F=p+1 from ⟨F - 1,by omega⟩) fun p ep=>?_;subst ep;dsimp only [Nat.add_one_sub_one];refine aB (jf e3 ?_);have M2:=M'.pushB ub e4 ak;apply jc;case' hp=>
         intro h5;have h5:q=1:=by simpa using h5
         refine jB ⟨S.trans ⟨rfl,rfl,rfl,rfl⟩,.inl ⟨_,rfl,?_⟩⟩;have g:=M2.goodBA ua ub (U _ _ h5);simp only [mB,Aj,wB,iD,xF,List.reverse_cons,List.reverse_nil,uF,jF];exact g
        intro h5;have h5:¬q=1:=by simpa using h5
        refine ex1 (yt (a:=a) (i:=p) (by omega)) fun x e1 e2 mx=>?_;refine aB (jf e1 ?_);refine aB (Ng C (by exact S.kind.trans hk) (T.ma _ mx) T.mb ub (by omega) (by omega) (fun z hz=>(T.dis x mx z hz).symm) fun k' aq a4 a5=>?_);dsimp only;rw [sH] at a4;rw [Nat.zero_add,←cG] at a5;have b4:=M2.bulkB (k:=k') ub aq (fun z hz t ht=>Bk ua e2 (a5 t ht) z hz t (by simp));have xB:Below rk (b.toList.take k') [x]:=fun z hz t ht=>by
         have ht:t=x:=by simpa using ht
         subst ht;exact a4 z hz
        have e5:(G.push y).toList.reverse=y::G.toList.reverse:=by simp
        have a7:(∃J D,J=G.push y++(b.extract k' q).reverse/\D=k'/\Mh rk a.toList b.toList J.toList.reverse (p+1) D/\Below rk (b.toList.take D) [x]):=
         ⟨_,_,rfl,rfl,by rw [mB,iD,xF,List.reverse_reverse,vp,e5];exact b4,xB⟩
        apply jc;case' hp=>
         intro ar;refine exs a7 fun J D a8 a9 M3 au=>?_;subst a9;rw [←a8];apply jc;case' hp=>
          intro h6;have h6:D=1:=by simpa using h6
          refine jB ⟨S.trans ⟨rfl,rfl,rfl,rfl⟩,.inl ⟨_,rfl,?_⟩⟩;have g:=M3.goodBA ua ub (U _ _ h6);simp only [mB,Aj,wB,iD];exact g
         intro h6;have h6:¬D=1:=by simpa using h6
         apply jc;case' hp=>
          intro h8;have h8:D=0:=by simpa using h8
          refine jB ⟨S.trans ⟨rfl,rfl,rfl,rfl⟩,.inl ⟨_,rfl,?_⟩⟩;have g:=M3.goodAB ua ub (by rw [h8];exact fun _ _ _ hy=>by simp at hy);simp only [mB,Aj,wB,iD];exact g
         intro h8;have h8:¬D=0:=by simpa using h8
         have av:1 < D/\D<=q:=by omega
        case' hn=>
         intro ar;have k0:k'=q:=by omega
         subst k0;refine exs (show ∃J D,J=G.push y/\D=k'/\Mh rk a.toList b.toList J.toList.reverse (p+1) D/\Below rk (b.toList.take D) [x] from ⟨_,_,rfl,rfl,by rw [e5];exact M2,xB⟩) fun J D a8 a9 M3 au=>?_;subst a9;rw [←a8];have av:1 < D/\D<=D:=by omega
       all_goals
        refine aB (jf e1 ?_);have M4:=M3.pushA ua e2 au;apply jc;case' hp=>
         intro h7;have h7:p=0:=by simpa using h7
         refine jB ⟨S.trans ⟨rfl,rfl,rfl,rfl⟩,.inl ⟨_,rfl,?_⟩⟩;have g:=M4.goodAB ua ub (by rw [h7];intro x hx;simp at hx);simp only [mB,Aj,wB,iD,xF,List.reverse_cons,List.reverse_nil,uF,jF];exact g
        intro h7;have h7:¬p=0:=by simpa using h7
        have O4:Oph rk a b (J.push x) p D:=⟨by simpa using M4,by omega,by omega,by omega,by omega⟩
        apply jc<;>intro _
        ·exact jB ⟨S.trans ⟨rfl,rfl,rfl,rfl⟩,.inr ⟨_,_,_,_,_,_,rfl,O4,by omega⟩⟩
        ·exact jB ⟨S.trans ⟨rfl,rfl,rfl,rfl⟩,_,_,_,_,_,_,rfl,O4,by omega⟩
end
noncomputable def qg4:Nat->Nat->StateT SortSt Sem (Option Nat):=sortPriv% PySem.Builtin.countRun
noncomputable def Wy:Nat->Nat->Nat->StateT SortSt Sem Bool:=sortPriv% PySem.Builtin.binarySort
noncomputable def rA (rk:Keyed->Int) (xs:Array Keyed) (i:Nat):Int:=match xs[i]? with |some p=>rk p |none=>0
noncomputable def UpTo (rk:Keyed->Int) (xs:Array Keyed) (lo hi:Nat):Prop:=∀i j,lo<=i->i < j->j < hi->rA rk xs i < rA rk xs j
noncomputable def qb4 (rk:Keyed->Int) (xs:Array Keyed) (lo hi:Nat):Prop:=∀i j,lo<=i->i < j->j < hi->rA rk xs j < rA rk xs i
structure Arr (kind:SortKind) (a0:List Keyed) (st:SortSt):Prop where
  kind:kindOf st=kind
  failed:failedOf st=none
  perm:(arrOf st).toList.Perm a0
section
variable {kind:SortKind} {a0:List Keyed} {rk:Keyed->Int} {st:SortSt}
theorem Br {xs:Array Keyed} {i:Nat} {p:Keyed} (h:xs[i]? = some p):rA rk xs i=rk p:=by unfold rA;rw [h]
theorem jr {xs ys:Array Keyed} {i j:Nat} (h:xs[i]? = ys[j]?):rA rk xs i=rA rk ys j:=by unfold rA;rw [h]
theorem Arr.size (h:Arr kind a0 st):(arrOf st).size=a0.length:=by simpa using h.perm.length_eq
theorem Arr.get (h:Arr kind a0 st) {i:Nat} (hi:i < a0.length):∃p,(arrOf st)[i]? = some p/\p∈a0/\rA rk (arrOf st) i=rk p:=by have hs:=h.size;obtain⟨x,e1,e2,m⟩:=yt (a:=arrOf st) (i:=i) (by omega);exact⟨x,e1,h.perm.mem_iff.mp m,Br e1⟩
theorem Arr.ne (h:Arr kind a0 st) (inj:(a0.map rk).Nodup) {i j:Nat} (hi:i < a0.length) (D:j < a0.length) (n:i≠j):rA rk (arrOf st) i≠rA rk (arrOf st) j:=by
 have hs:=h.size;have nd:((arrOf st).toList.map rk).Nodup:=(h.perm.map rk).nodup_iff.mpr inj;obtain⟨p,e1,_,F⟩:=h.get (rk:=rk) hi;obtain⟨q,e2,_,G⟩:=h.get (rk:=rk) D;rw [F,G];intro e;have J:((arrOf st).toList.map rk)[i]? = some (rk p):=by rw [fA,kC,e1];rfl
 have O:((arrOf st).toList.map rk)[j]? = some (rk p):=by rw [fA,kC,e2,e];rfl
 obtain⟨h1,g1⟩:=bA.mp J;obtain⟨h2,g2⟩:=bA.mp O;exact n ((List.getElem_inj nd).mp (g1.trans g2.symm))
theorem Arr.setArr (h:Arr kind a0 st) {xs:Array Keyed} (p:xs.Perm (arrOf st)):Arr kind a0 (PyProof.Rows.setArr st xs):=⟨h.kind,h.failed,(Array.perm_iff_toList_perm.mp p).trans h.perm⟩
structure Only (st st':SortSt) (lo hi:Nat):Prop where
  pend:pendingOf st'=pendingOf st
  out:∀k,k < lo\/hi<=k->(arrOf st')[k]? = (arrOf st)[k]?
theorem Only.refl (st:SortSt) (lo hi:Nat):Only st st lo hi:=⟨rfl,fun _ _=>rfl⟩
theorem Only.trans {a b c:SortSt} {lo hi:Nat} (h:Only a b lo hi) (k:Only b c lo hi):Only a c lo hi:=⟨k.pend.trans h.pend,fun i hi=>(k.out i hi).trans (h.out i hi)⟩
theorem Only.wide {a b:SortSt} {lo hi j D:Nat} (h:Only a b lo hi) (h1:j<=lo) (h2:hi<=D):Only a b j D:=⟨h.pend,fun i hi=>h.out i (by omega)⟩
end
section
variable {prog:Program} {w:World} {A:Around} {E:Value->Shared->Prop} {s:Shared} {kind:SortKind} {a0:List Keyed} {rk:Keyed->Int}
theorem u0 (C:Cmp prog w A s kind a0 rk) {st:SortSt} {i j:Nat} {Q:Option Bool->SortSt->Prop} (h:Arr kind a0 st) (hi:i < a0.length) (D:j < a0.length) (q:Q (some (decide (rA rk (arrOf st) i < rA rk (arrOf st) j))) st) :
  wpS (model prog w) A E s (ltAt' i j) Q st:=by
 obtain⟨x,e1,F,G⟩:=h.get (rk:=rk) hi;obtain⟨y,e2,J,O⟩:=h.get (rk:=rk) D;rw [G,O] at q;rw [ltAt'_eq];refine aB (wpS_get ?_);exact aB (jf e1 (aB (jf e2 (U7 C h.kind F J q))))
theorem Oe (C:Cmp prog w A s kind a0 rk) {st:SortSt} {lo F:Nat} {Q:Option Nat->SortSt->Prop} (h:Arr kind a0 st) (hl:lo+F=a0.length) (h1:1<=F)
  (q:∀m st',Arr kind a0 st'->1<=m->m<=F->UpTo rk (arrOf st') lo (lo+m)->Only st st' lo (lo+m)->Q (some m) st'):wpS (model prog w) A E s (qg4 lo F) Q st:=by
 have up1:UpTo rk (arrOf st) lo (lo+1):=fun i j a b c=>by omega
 refine aB (nF (lD (I:=fun x c st'=>st'=st/\c=(none,x)/\1<=x/\UpTo rk (arrOf st) lo (lo+x))
  (Q:=fun c st'=>st'=st/\∃n,c=(none,n)/\1<=n/\n<=F/\UpTo rk (arrOf st) lo (lo+n)/\(n=F\/rA rk (arrOf st) (lo+n) < rA rk (arrOf st) (lo+n - 1))) ?step ?fin ⟨rfl,rfl,by omega,up1⟩) ?post)
 case fin=>
  rintro c st' ⟨rfl,rfl,a1,a2⟩;rw [show max 1 F=F by omega] at a2 ⊢;exact⟨rfl,F,rfl,by omega,dA _,a2,.inl rfl⟩
 case step=>
  rintro x c st' _ hx ⟨rfl,rfl,a1,a2⟩;dsimp only;refine aB (u0 C h (by omega) (by omega) ?_);by_cases hw:rA rk (arrOf st') (lo+x) < rA rk (arrOf st') (lo+x - 1)
  ·simp only [eA hw,yF];exact jB ⟨rfl,x,rfl,a1,by omega,a2,.inr hw⟩
  ·simp only [dB hw,fC,yE];refine jB ⟨rfl,rfl,by omega,fun i j b1 O Y=>?_⟩;have d:=h.ne C.inj (i:=lo+x) (j:=lo+x - 1) (by omega) (by omega) (by omega);by_cases S:j < lo+x
   ·exact a2 i j b1 O S
   ·have e:j=lo+x:=by omega
    subst e;by_cases hi:i=lo+x - 1
    ·subst hi;omega
    ·have:=a2 i (lo+x - 1) b1 (by omega) (by omega);omega
 case post=>
  rintro c st' ⟨rfl,n,rfl,n1,n2,Z,n4⟩;dsimp only;by_cases e1:(n == F)=true
  ·rw [kA e1];exact jB (q n st' h n1 n2 Z (Only.refl _ _ _))
  ·rw [oA e1];have e1:¬n=F:=by simpa using e1
   have n4:=n4.resolve_left e1;by_cases hn:n > 1
   ·rw [kA hn];refine aB (u0 C h (by omega) (by omega) ?_);have hw:rA rk (arrOf st') lo < rA rk (arrOf st') (lo+n - 1):=Z lo (lo+n - 1) (by omega) (by omega) (by omega);simp only [eA hw,yF];exact jB (q n st' h n1 n2 Z (Only.refl _ _ _))
   ·rw [oA hn];have en:n=1:=by omega
    subst en;refine aB (wpS_lift (wpAny_rule ⟨rfl,?_⟩));have dn:qb4 rk (arrOf st') lo (lo+2):=fun i j b1 O Y=>by
     have ei:i=lo:=by omega
     have ej:j=lo+1:=by omega
     subst ei ej;exact n4
    refine aB (nF (lD (I:=fun x c D=>D=st'/\c=(none,x,0)/\2<=x/\qb4 rk (arrOf st') lo (lo+x))
     (Q:=fun c D=>D=st'/\∃n,c=(none,n,0)/\2<=n/\n<=F/\qb4 rk (arrOf st') lo (lo+n)) ?step2 ?fin2 ⟨rfl,rfl,by omega,dn⟩) ?post2)
    case fin2=>
     rintro c D ⟨rfl,rfl,a1,a2⟩;rw [show max (1+1) F=F by omega] at a2 ⊢;exact⟨rfl,F,rfl,by omega,dA _,a2⟩
    case step2=>
     rintro x c D _ hx ⟨rfl,rfl,a1,a2⟩;dsimp only;refine aB (u0 C h (by omega) (by omega) ?_);have d:=h.ne C.inj (i:=lo+x) (j:=lo+x - 1) (by omega) (by omega) (by omega);by_cases hw:rA rk (arrOf D) (lo+x) < rA rk (arrOf D) (lo+x - 1)
     ·simp only [eA hw,yF];rw [oA (by omega)];refine jB ⟨rfl,rfl,by omega,fun i j b1 O Y=>?_⟩;by_cases S:j < lo+x
      ·exact a2 i j b1 O S
      ·have e:j=lo+x:=by omega
       subst e;by_cases hi:i=lo+x - 1
       ·subst hi;omega
       ·have:=a2 i (lo+x - 1) b1 (by omega) (by omega);omega
     ·simp only [dB hw,fC,yE];refine aB (u0 C h (by omega) (by omega) ?_);have a3:rA rk (arrOf D) (lo+x - 1) < rA rk (arrOf D) (lo+x):=by omega
      simp only [eA a3,yF];exact jB ⟨rfl,x,rfl,a1,by omega,a2⟩
    case post2=>
     rintro c D ⟨rfl,n,rfl,m1,m2,m3⟩;dsimp only;rw [oA (by omega)];refine aB (bG ?_);have hsz:=h.size;have hA:Arr kind a0 (PyProof.Rows.setArr D (mirror (arrOf D) lo (lo+n) ((lo+n - lo) / 2))):=h.setArr (mirror_perm _ _ _ _);have gt:∀k,(mirror (arrOf D) lo (lo+n) ((lo+n - lo) / 2))[k]? = if lo<=k/\k < lo+n then (arrOf D)[lo+(lo+n) - 1 - k]? else (arrOf D)[k]?:=fun k=>getElem?_mirror_all (by omega) k;have a4:UpTo rk (mirror (arrOf D) lo (lo+n) ((lo+n - lo) / 2)) lo (lo+n):=fun i j b1 O Y=>by have g1:=gt i;have g2:=gt j;rw [kA (by omega)] at g1 g2;rw [jr g1,jr g2];exact m3 _ _ (by omega) (by omega) (by omega)
     have a5:Only D (PyProof.Rows.setArr D (mirror (arrOf D) lo (lo+n) ((lo+n - lo) / 2))) lo (lo+n):=⟨rfl,fun k hk=>by have g:=gt k;rw [oA (by omega)] at g;exact g⟩
     show wpS (model prog w) A E s _ _ (PyProof.Rows.setArr D (mirror (arrOf D) lo (lo+n) ((lo+n - lo) / 2)));generalize U:PyProof.Rows.setArr D (mirror (arrOf D) lo (lo+n) ((lo+n - lo) / 2))=J at *;have a6:UpTo rk (arrOf J) lo (lo+n):=by rw [←U];exact a4
     refine aB (nF (lD (I:=fun x c G=>G=J/\c=(none,x)/\n<=x/\UpTo rk (arrOf J) lo (lo+x))
      (Q:=fun c G=>G=J/\∃m,c=(none,m)/\n<=m/\m<=F/\UpTo rk (arrOf J) lo (lo+m)) ?step3 ?fin3 ⟨rfl,rfl,by omega,a6⟩) ?post3)
     case fin3=>
      rintro c G ⟨rfl,rfl,a1,a2⟩;rw [show max n F=F by omega] at a2 ⊢;exact⟨rfl,F,rfl,by omega,dA _,a2⟩
     case step3=>
      rintro x c G _ hx ⟨rfl,rfl,a1,a2⟩;dsimp only;refine aB (u0 C hA (by omega) (by omega) ?_);have d:=hA.ne C.inj (i:=lo+x) (j:=lo+x - 1) (by omega) (by omega) (by omega);by_cases hw:rA rk (arrOf G) (lo+x) < rA rk (arrOf G) (lo+x - 1)
      ·simp only [eA hw,yF];exact jB ⟨rfl,x,rfl,a1,by omega,a2⟩
      ·simp only [dB hw,fC,yE];refine jB ⟨rfl,rfl,by omega,fun i j b1 O Y=>?_⟩;by_cases S:j < lo+x
       ·exact a2 i j b1 O S
       ·have e:j=lo+x:=by omega
        subst e;by_cases hi:i=lo+x - 1
        ·subst hi;omega
        ·have:=a2 i (lo+x - 1) b1 (by omega) (by omega);omega
     case post3=>
      rintro c G ⟨rfl,m,rfl,k1,k2,k3⟩;exact jB (q m G hA (by omega) k2 k3 (a5.wide (dA _) (by omega)))
theorem Le (C:Cmp prog w A s kind a0 rk) {st:SortSt} {lo n ok:Nat} {Q:Bool->SortSt->Prop} (h:Arr kind a0 st) (hl:lo+n<=a0.length) (hok:ok<=n) (hu:UpTo rk (arrOf st) lo (lo+ok))
  (q:∀st',Arr kind a0 st'->UpTo rk (arrOf st') lo (lo+n)->Only st st' lo (lo+n)->Q true st'):wpS (model prog w) A E s (Wy lo n ok) Q st:=by
 refine aB (nF (lD (I:=fun k c st'=>c=(none,())/\Arr kind a0 st'/\UpTo rk (arrOf st') lo (lo+min k n)/\Only st st' lo (lo+n))
  (Q:=fun c st'=>c=(none,())/\Arr kind a0 st'/\UpTo rk (arrOf st') lo (lo+n)/\Only st st' lo (lo+n)) ?step ?fin ?init) ?post)
 case post=>
  rintro c st' ⟨rfl,a1,a2,a3⟩;exact jB (q st' a1 a2 a3)
 case init=>
  refine⟨rfl,h,fun i j b1 U Z=>?_,Only.refl _ _ _⟩;by_cases z:ok=0
  ·omega
  ·exact hu i j b1 U (by omega)
 case fin=>
  rintro c st' ⟨hc,a1,a2,a3⟩;rw [show min (max (max ok 1) n) n=n by omega] at a2;exact⟨hc,a1,a2,a3⟩
 case step=>
  rintro k c st' hak hkn ⟨rfl,a1,a2,a3⟩;rw [show min k n=k by omega] at a2;refine aB (nF (lD (I:=fun x c D=>D=st'/\∃l r,c=(none,l,r)/\l<=r/\r<=k/\r - l<=k - x /\
    (∀i,i < l->rA rk (arrOf st') (lo+i) < rA rk (arrOf st') (lo+k))/\(∀i,r<=i->i < k->rA rk (arrOf st') (lo+k) < rA rk (arrOf st') (lo+i)))
   (Q:=fun c D=>D=st'/\∃l r,c=(none,l,r)/\l<=k /\
    (∀i,i < l->rA rk (arrOf st') (lo+i) < rA rk (arrOf st') (lo+k))/\(∀i,l<=i->i < k->rA rk (arrOf st') (lo+k) < rA rk (arrOf st') (lo+i))) ?istep ?ifin ?iinit) ?ipost)
  case iinit=>exact⟨rfl,0,k,rfl,by omega,by omega,by omega,fun i hi=>by omega,fun i h1 h2=>by omega⟩
  case ifin=>
   rintro c D ⟨rfl,l,r,rfl,Y,O,hm,G,J⟩
   have:l=r:=by omega
   subst this;exact⟨rfl,l,l,rfl,O,G,J⟩
  case istep=>
   rintro x c D _ hxk ⟨rfl,l,r,rfl,Y,O,hm,G,J⟩;dsimp only;by_cases S:l >= r
   ·rw [kA S]
    have:l=r:=by omega
    subst this;exact jB ⟨rfl,l,l,rfl,O,G,J⟩
   ·rw [oA S];refine aB (u0 C a1 (by omega) (by omega) ?_);have d:=a1.ne C.inj (i:=lo+k) (j:=lo+(l+r) / 2) (by omega) (by omega) (by omega);by_cases F:rA rk (arrOf D) (lo+k) < rA rk (arrOf D) (lo+(l+r) / 2)
    ·simp only [eA F,yF];refine jB ⟨rfl,l,(l+r) / 2,rfl,by omega,by omega,by omega,G,fun i h1 h2=>?_⟩;by_cases e:i=(l+r) / 2
     ·subst e;exact F
     ·have:=a2 (lo+(l+r) / 2) (lo+i) (by omega) (by omega) (by omega);omega
    ·simp only [dB F,fC,yE];refine jB ⟨rfl,(l+r) / 2+1,r,rfl,by omega,by omega,by omega,fun i h1=>?_,J⟩;by_cases e:i=(l+r) / 2
     ·subst e;omega
     ·have:=a2 (lo+i) (lo+(l+r) / 2) (by omega) (by omega) (by omega);omega
  case ipost=>
   rintro c D ⟨rfl,l,r,rfl,hlk,G,J⟩;dsimp only;refine aB (bG (jB ⟨rfl,?_⟩));have hsz:=a1.size;show Arr kind a0 (PyProof.Rows.setArr D (bubble (arrOf D) (lo+k) (lo+k - (lo+l))))/\UpTo rk (bubble (arrOf D) (lo+k) (lo+k - (lo+l))) lo (lo+min (k+1) n)/\Only st (PyProof.Rows.setArr D (bubble (arrOf D) (lo+k) (lo+k - (lo+l)))) lo (lo+n);have gt:∀i,(bubble (arrOf D) (lo+k) (lo+k - (lo+l)))[i]? = if i=lo+l then (arrOf D)[lo+k]? else if lo+l < i/\i<=lo+k then (arrOf D)[i - 1]? else (arrOf D)[i]?:=fun i=>by have:=getElem?_bubble (xs:=arrOf D) (src:=lo+k) (by omega) (lo+k - (lo+l)) (by omega) i;rw [show lo+k - (lo+k - (lo+l))=lo+l by omega] at this;exact this
   refine⟨a1.setArr (bubble_perm _ _ _),fun i j b1 U Z=>?_,a3.trans ⟨rfl,fun i hi=>?_⟩⟩
   ·rw [show min (k+1) n=k+1 by omega] at Z;have g1:=gt i;have g2:=gt j;by_cases c1:i=lo+l
    ·rw [kA c1] at g1;rw [oA (by omega),kA (by omega)] at g2;rw [jr g1,jr g2]
     have:=J (j - 1 - lo) (by omega) (by omega)
     rwa [show lo+(j - 1 - lo)=j - 1 by omega] at this
    ·rw [oA c1] at g1;by_cases c2:lo+l < i/\i<=lo+k
     ·rw [kA c2] at g1;rw [oA (by omega),kA (by omega)] at g2;rw [jr g1,jr g2];exact a2 _ _ (by omega) (by omega) (by omega)
     ·rw [oA c2] at g1;rw [jr g1];by_cases c3:j=lo+l
      ·rw [kA c3] at g2;rw [jr g2]
       have:=G (i - lo) (by omega)
       rwa [show lo+(i - lo)=i by omega] at this
      ·rw [oA c3] at g2;by_cases c4:lo+l < j/\j<=lo+k
       ·rw [kA c4] at g2;rw [jr g2];exact a2 _ _ b1 (by omega) (by omega)
       ·rw [oA c4] at g2;rw [jr g2];exact a2 _ _ b1 U (by omega)
   ·have g:=gt i;rw [oA (by omega),oA (by omega)] at g;exact g
end
noncomputable def Yu:Nat->StateT SortSt Sem Bool:=sortPriv% PySem.Builtin.mergeAt
theorem Nm (b:Nat):∀(m:List Keyed) (o:Nat) (xs:Array Keyed),b+o+m.length<=xs.size->∀k,((m.zipIdx o).foldl (fun a x=>a.setIfInBounds (b+x.2) x.1) xs)[k]? = if b+o<=k/\k < b+o+m.length then m[k - (b+o)]? else xs[k]?
 | [],o,xs,h,k=>by rw [List.zipIdx_nil,List.foldl_nil,oA (by simp<;>omega)]
 |x::m,o,xs,h,k=>by
  simp only [fB] at h;rw [List.zipIdx_cons,zC,Nm b m (o+1) _ (by rw [Array.size_setIfInBounds];omega) k];simp only [fB];by_cases c1:k=b+o
  ·subst c1;rw [oA (by omega),kA (by omega),Array.getElem?_setIfInBounds,kA rfl,kA (by omega)];simp
  ·by_cases j:b+(o+1)<=k/\k < b+(o+1)+m.length
   ·rw [kA j,kA (by omega),show k - (b+o)=(k - (b+(o+1)))+1 by omega,nI]
   ·rw [oA j,oA (by omega),Array.getElem?_setIfInBounds,oA (by omega)]
theorem qt9 (l:List Keyed) (i n:Nat):l=l.take i++(l.drop i).take n++l.drop (i+n):=by rw [iB,←List.drop_drop,jC,jC]
theorem fold_list {m:List Keyed} {b:Nat} {xs:Array Keyed} (h:b+m.length<=xs.size):(m.zipIdx.foldl (fun a x=>a.setIfInBounds (b+x.2) x.1) xs).toList=xs.toList.take b++m++xs.toList.drop (b+m.length):=by
 have hl:xs.toList.length=xs.size:=pB;refine nH fun k=>?_;rw [kC,Nm b m 0 xs (by omega) k,Nat.add_zero];by_cases c1:k < b
 ·rw [oA (by omega),iB,aE (by rw [cB];omega),sC c1,kC]
 ·by_cases c2:k < b+m.length
  ·rw [kA (by omega),iB,kD (by rw [cB];omega),cB,fH (by omega),aE (by omega)]
  ·rw [oA (by omega),kD (by rw [wA,cB];omega),wA,cB,fH (by omega),cE,←kC];congr 1;omega
section
variable {prog:Program} {w:World} {A:Around} {E:Value->Shared->Prop} {s:Shared} {kind:SortKind} {a0:List Keyed} {rk:Keyed->Int}
theorem Xv (C:Cmp prog w A s kind a0 rk) {left:Bool} {key:Keyed} {st:SortSt} {D:SortSt} {base n hint:Nat} {Q:Option Nat->SortSt->Prop} (h:Arr kind a0 D) (hk:kindOf st=kind)
  (Y:key∈a0) (hn:base+n<=a0.length) (Z:UpTo rk (arrOf D) base (base+n)) (hh:hint < n) (dis:∀i,base<=i->i < base+n->rA rk (arrOf D) i≠rk key)
  (q:∀k,k<=n->(∀i,base<=i->i < base+k->rA rk (arrOf D) i < rk key)->(∀i,base+k<=i->i < base+n->rk key < rA rk (arrOf D) i)->Q (some k) st) :
  wpS (model prog w) A E s (We left key (arrOf D) base n hint) Q st:=by
 have hs:=h.size;have at':∀j,j < n->∃x,(arrOf D)[base+j]? = some x/\x∈a0/\rA rk (arrOf D) (base+j)=rk x:=fun j F=>h.get (by omega);have xs:∀j,j < n->(arrOf D)[base+j]? = some (((arrOf D)[base+j]?).getD key)/\((arrOf D)[base+j]?).getD key∈a0/\rA rk (arrOf D) (base+j)=rk (((arrOf D)[base+j]?).getD key):=fun j F=>by obtain⟨x,e,m,r⟩:=at' j F;rw [e];exact⟨rfl,m,r⟩
 have val:∀j,j < n->bey rk left key (((arrOf D)[base+j]?).getD key)=decide (rA rk (arrOf D) (base+j) < rk key):=fun j F=>by
  have d:=dis (base+j) (by omega) (by omega);rw [(xs j F).2.2] at d ⊢;unfold bey;cases left with
  |true=>rfl
  |false=>
   rw [oA bB];by_cases z:rk (((arrOf D)[base+j]?).getD key) < rk key
   ·rw [eA z,dB (by omega)];rfl
   ·rw [dB z,eA (by omega)];rfl
 refine Mu C hk Y (fun j=>((arrOf D)[base+j]?).getD key) (fun j F=>(xs j F).1) (fun j F=>(xs j F).2.1) hh (fun i j G F hb=>?_) fun k J O S=>q k J (fun i b1 U=>?_) (fun i b1 U=>?_)
 ·rw [val j F] at hb;rw [val i (by omega)];have hb:=lB hb;refine eA ?_;rcases kI G with z |z
  ·have:=Z (base+i) (base+j) (by omega) (by omega) (by omega);omega
  ·subst z;exact hb
 ·have z:=O (i - base) (by omega);rw [val (i - base) (by omega)] at z;have z:=lB z
  rwa [show base+(i - base)=i by omega] at z
 ·have z:=S (i - base) (by omega) (by omega);rw [val (i - base) (by omega)] at z;have z:=of_decide_eq_false z;rw [show base+(i - base)=i by omega] at z
  have:=dis i (by omega) U;omega
theorem qz1 {xs:Array Keyed} {i j:Nat} (hj:j<=xs.size) (G:UpTo rk xs i j):Up rk (xs.extract i j).toList:=by
 refine dD.mpr fun p q hp D hpq=>?_;rw [vp] at hp D;simp only [wC,cB,pB] at hp D;have F:∀p (hp:p < (xs.extract i j).toList.length),xs[i+p]? = some (xs.extract i j).toList[p]:=fun p hp=>by
  have e:(xs.extract i j).toList[p]? = some (xs.extract i j).toList[p]:=gA hp;have e2:(xs.extract i j).toList[p]? = xs[i+p]?:=by rw [vp] at hp;simp only [wC,cB,pB] at hp;rw [vp,cE,sC (by omega),kC]
  exact e2.symm.trans e
 have J:=Br (rk:=rk) (F p (by rw [vp];simp;omega));have O:=Br (rk:=rk) (F q (by rw [vp];simp;omega));rw [←J,←O];exact G _ _ (by omega) (by omega) (by omega)
theorem Aw {xs:Array Keyed} {i j:Nat} {x:Keyed} (hj:j<=xs.size) (h:x∈(xs.extract i j).toList):∃p,i<=p/\p < j/\xs[p]? = some x:=by
 obtain⟨p,hp,e⟩:=rF.mp h;have D:(xs.extract i j).toList[p]? = some x:=by rw [gA hp,e]
 rw [vp] at hp D;simp only [wC,cB,pB] at hp;rw [cE,sC (by omega),kC] at D;exact⟨i+p,by omega,by omega,D⟩
theorem Qp (C:Cmp prog w A s kind a0 rk) {st:SortSt} {i sa na pw D nb aj:Nat} {Q:Bool->SortSt->Prop} (h:Arr kind a0 st) (p1:(pendingOf st)[i]? = some (sa,na,pw)) (p2:(pendingOf st)[i+1]? = some (D,nb,aj))
  (hs:D=sa+na) (hna:1<=na) (hnb:1<=nb) (hl:D+nb<=a0.length) (u1:UpTo rk (arrOf st) sa D) (u2:UpTo rk (arrOf st) D (D+nb))
  (q:∀st',Arr kind a0 st'->pendingOf st'=((pendingOf st).setIfInBounds i (sa,na+nb,pw)).eraseIdxIfInBounds (i+1)->UpTo rk (arrOf st') sa (D+nb)->(∀k,k < sa\/D+nb<=k->(arrOf st')[k]? = (arrOf st)[k]?)->Q true st') :
  wpS (model prog w) A E s (Yu i) Q st:=by
 refine aB (wpS_get ?_);dsimp only;rw [p1,p2];dsimp only;have hsz:=h.size;refine aB ?_;show wpS (model prog w) A E s (modify fun _=>SortSt.mk' (kindOf st) (arrOf st) (((pendingOf st).setIfInBounds i (sa,na+nb,pw)).eraseIdxIfInBounds (i+1)) (gallopOf st) (failedOf st)) _ st;refine bG ?_;generalize U:SortSt.mk' (kindOf st) (arrOf st) (((pendingOf st).setIfInBounds i (sa,na+nb,pw)).eraseIdxIfInBounds (i+1)) (gallopOf st) (failedOf st)=S;have k1:kindOf S=kind:=by rw [←U];exact h.kind
 have f1:failedOf S=none:=by rw [←U];exact h.failed
 have a3:arrOf S=arrOf st:=by rw [←U]
 have a7:pendingOf S=((pendingOf st).setIfInBounds i (sa,na+nb,pw)).eraseIdxIfInBounds (i+1):=by rw [←U]
 have A1:Arr kind a0 S:=⟨k1,f1,by rw [a3];exact h.perm⟩
 obtain⟨y,e3,my,ry⟩:=h.get (rk:=rk) (i:=D) (by omega);have dn:∀p J,p < a0.length->J < a0.length->p≠J->rA rk (arrOf st) p≠rA rk (arrOf st) J:=fun p J a b c=>h.ne C.inj a b c;refine aB (jf e3 ?_);refine aB (Xv C h k1 my (by omega) (by rw [←hs];exact u1) (by omega) (fun p b1 O=>by rw [←ry];exact dn p D (by omega) (by omega) (by omega)) fun k hk1 a5 aa=>?_);dsimp only;rw [←ry] at a5 aa;have whole:(∀p J,sa<=p->p < D->D<=J->J < D+nb->rA rk (arrOf st) p < rA rk (arrOf st) J)->UpTo rk (arrOf st) sa (D+nb):=fun z p J b1 O Y=>by
  by_cases c1:J < D
  ·exact u1 p J b1 O c1
  ·by_cases c2:p < D
   ·exact z p J b1 c2 (by omega) Y
   ·exact u2 p J (by omega) O Y
 have a8:∀J,D<=J->J < D+nb->rA rk (arrOf st) D<=rA rk (arrOf st) J:=fun J b1 O=>by
  by_cases c:J=D
  ·subst c;exact Int.le_refl _
  ·exact Int.le_of_lt (u2 D J (dA _) (by omega) O)
 have ae:∀p,sa<=p->p < D->rA rk (arrOf st) p<=rA rk (arrOf st) (D - 1):=fun p b1 O=>by
  by_cases c:p=D - 1
  ·subst c;exact Int.le_refl _
  ·exact Int.le_of_lt (u1 p (D - 1) b1 (by omega) (by omega))
 by_cases h0:(na - k == 0)=true
 ·rw [kA h0];have h0:na - k=0:=by simpa using h0
  refine jB (q S A1 a7 ?_ fun j _=>by rw [a3]);rw [a3];refine whole fun p J b1 O Y b4=>?_
  have:=a5 p b1 (by omega)
  have:=a8 J Y b4;omega
 ·rw [oA h0];have h0:¬na - k=0:=by simpa using h0
  have ak:sa+k+(na - k) - 1=D - 1:=by omega
  rw [ak];obtain⟨x,e1,mx,rx⟩:=h.get (rk:=rk) (i:=D - 1) (by omega);refine aB (jf e1 ?_);refine aB (Xv C h k1 mx (by omega) u2 (by omega) (fun p b1 O=>by rw [←rx];exact dn p (D - 1) (by omega) (by omega) (by omega)) fun F hk1' a6 a4=>?_);dsimp only;rw [←rx] at a6 a4;by_cases h9:(F == 0)=true
  ·rw [kA h9];have h9:F=0:=by simpa using h9
   refine jB (q S A1 a7 ?_ fun j _=>by rw [a3]);rw [a3];refine whole fun p J b1 O Y b4=>?_
   have:=a4 J (by omega) b4
   have:=ae p b1 O;omega
  ·rw [oA h9];have h9:¬F=0:=by simpa using h9
   have ux:UpTo rk (arrOf st) (sa+k) D:=fun p J b1 O Y=>u1 p J (by omega) O Y;have uy:UpTo rk (arrOf st) D (D+F):=fun p J b1 O Y=>u2 p J b1 O (by omega);have sx:((arrOf st).extract (sa+k) D).size=na - k:=by rw [Array.size_extract];omega
   have sy:((arrOf st).extract D (D+F)).size=F:=by rw [Array.size_extract];omega
   have T:Two a0 rk ((arrOf st).extract (sa+k) D) ((arrOf st).extract D (D+F)):=by
    refine⟨fun z Z=>?_,fun z Z=>?_,qz1 (by omega) ux,qz1 (by omega) uy,fun z Z t ht=>?_,by omega,by omega⟩
    ·obtain⟨p,b1,O,e⟩:=Aw (by omega) Z;obtain⟨z',e',m',_⟩:=h.get (rk:=rk) (i:=p) (by omega);rw [e] at e';cases e';exact m'
    ·obtain⟨p,b1,O,e⟩:=Aw (by omega) Z;obtain⟨z',e',m',_⟩:=h.get (rk:=rk) (i:=p) (by omega);rw [e] at e';cases e';exact m'
    ·obtain⟨p,b1,O,e⟩:=Aw (by omega) Z;obtain⟨J,b1',b2',e'⟩:=Aw (by omega) ht;rw [←Br (rk:=rk) e,←Br (rk:=rk) e'];exact dn p J (by omega) (by omega) (by omega)
   have af:∀z t,z∈((arrOf st).extract (sa+k) D).toList->((arrOf st).extract D (D+F)).toList[0]? = some t->rk t < rk z:=fun z t Z ht=>by obtain⟨p,b1,O,e⟩:=Aw (by omega) Z;rw [vp,cE,Nat.add_zero,sC (by omega),kC] at ht;rw [←Br (rk:=rk) e,←Br (rk:=rk) ht];exact aa p b1 (by omega)
   have last:∀z,((arrOf st).extract (sa+k) D).toList[((arrOf st).extract (sa+k) D).size - 1]? = some z->∀t∈((arrOf st).extract D (D+F)).toList,rk t < rk z:=fun z Z t ht=>by obtain⟨p,b1,O,e⟩:=Aw (by omega) ht;rw [sx,vp,cE,show sa+k+(na - k - 1)=D - 1 by omega,sC (by omega),kC] at Z;rw [←Br (rk:=rk) e,←Br (rk:=rk) Z];exact a6 p b1 O
   have fin:∀(m:Array Keyed) (G:SortSt),Sim S G->Good rk ((arrOf st).extract (sa+k) D).toList ((arrOf st).extract D (D+F)).toList m.toList ->
     Q true (SortSt.mk' (kindOf G) (m.toList.zipIdx.foldl (fun a x=>a.setIfInBounds (sa+k+x.2) x.1) (arrOf G)) (pendingOf G) (gallopOf G) (failedOf G)):=fun m G sm g=>by
    have lm:m.toList.length=(na - k)+F:=by have:=g.perm.length_eq;rw [wA,pB,pB,pB,sx,sy] at this;simpa using this
    have ea:arrOf G=arrOf st:=sm.arr.trans a3;have ag:sa+k+m.toList.length<=(arrOf st).size:=by omega
    have gt:∀j,(m.toList.zipIdx.foldl (fun a x=>a.setIfInBounds (sa+k+x.2) x.1) (arrOf st))[j]? = if sa+k<=j/\j < sa+k+m.toList.length then m.toList[j - (sa+k)]? else (arrOf st)[j]?:=fun j=>by have:=Nm (sa+k) m.toList 0 (arrOf st) (by omega) j;simpa using this
    have ah:∀j,sa+k<=j->j < sa+k+m.toList.length->∃p,sa+k<=p/\p < D+F/\rA rk (m.toList.zipIdx.foldl (fun a x=>a.setIfInBounds (sa+k+x.2) x.1) (arrOf st)) j=rA rk (arrOf st) p:=fun j b1 O=>by
     have e:=gt j;rw [kA ⟨b1,O⟩,gA (by omega)] at e;have mem:m.toList[j - (sa+k)]'(by omega)∈((arrOf st).extract (sa+k) D).toList++((arrOf st).extract D (D+F)).toList:=g.perm.mem_iff.mp (vH _);rw [Br e];rcases rB.mp mem with z |z
     ·obtain⟨p,c1,c2,ep⟩:=Aw (by omega) z;exact⟨p,c1,by omega,(Br ep).symm⟩
     ·obtain⟨p,c1,c2,ep⟩:=Aw (by omega) z;exact⟨p,by omega,c2,(Br ep).symm⟩
    have ai:∀j p,sa<=j->j < sa+k->sa+k<=p->p < D+F->rA rk (arrOf st) j < rA rk (arrOf st) p:=fun j p b1 O Y b4=>by
     by_cases c:p < D
     ·exact u1 j p b1 (by omega) c
     ·have:=a5 j b1 O
      have:=a8 p (by omega) (by omega);omega
    have a9:∀j p,D+F<=j->j < D+nb->sa+k<=p->p < D+F->rA rk (arrOf st) p < rA rk (arrOf st) j:=fun j p b1 O Y b4=>by
     by_cases c:p < D
     ·have:=a4 j b1 O
      have:=ae p (by omega) c;omega
     ·exact u2 p j (by omega) (by omega) O
    refine q _ ⟨sm.kind.trans k1,sm.failed.trans f1,?_⟩ (sm.pend.trans a7) ?_ ?_
    ·show (m.toList.zipIdx.foldl (fun a x=>a.setIfInBounds (sa+k+x.2) x.1) (arrOf G)).toList.Perm a0;rw [ea,fold_list ag];refine List.Perm.trans ?_ h.perm;have e0:=qt9 (arrOf st).toList (sa+k) m.toList.length;have ao:((arrOf st).toList.drop (sa+k)).take m.toList.length=((arrOf st).extract (sa+k) D).toList++((arrOf st).extract D (D+F)).toList:=by
      have c1:na - k+F=D+F - (sa+k):=by omega
      rw [lm,vp,vp,c1,←cG]
      have:=Nh (l:=(arrOf st).toList.take (D+F)) (i:=sa+k) (j:=D) (by omega);rw [rH,show min D (D+F)=D by omega] at this;exact this
     conv=>rhs;rw [e0,ao]
     exact (tD _ g.perm).append_right _
    ·show UpTo rk (m.toList.zipIdx.foldl (fun a x=>a.setIfInBounds (sa+k+x.2) x.1) (arrOf G)) sa (D+nb);rw [ea];have hm:sa+k+m.toList.length=D+F:=by omega
     intro p J b1 O Y;by_cases c1:p < sa+k
     ·have g1:=gt p;rw [oA (by omega)] at g1;rw [jr g1];by_cases c2:J < sa+k
      ·have g2:=gt J;rw [oA (by omega)] at g2;rw [jr g2];exact u1 p J b1 O (by omega)
      ·by_cases c3:J < D+F
       ·obtain⟨r,d1,d2,er⟩:=ah J (by omega) (by omega);rw [er];exact ai p r b1 c1 d1 d2
       ·have g2:=gt J;rw [oA (by omega)] at g2;rw [jr g2]
        have:=a5 p b1 c1
        have:=a8 J (by omega) Y;omega
     ·by_cases c2:J < D+F
      ·have g1:=gt p;have g2:=gt J;rw [kA (by omega),gA (by omega)] at g1 g2;rw [Br g1,Br g2];exact dD.mp g.up _ _ _ _ (by omega)
      ·have g2:=gt J;rw [oA (by omega)] at g2;rw [jr g2];by_cases c3:p < D+F
       ·obtain⟨r,d1,d2,er⟩:=ah p (by omega) (by omega);rw [er];exact a9 J r (by omega) Y d1 d2
       ·have g1:=gt p;rw [oA (by omega)] at g1;rw [jr g1];exact u2 p J (by omega) O Y
    ·intro j hj;show (m.toList.zipIdx.foldl (fun a x=>a.setIfInBounds (sa+k+x.2) x.1) (arrOf G))[j]? = (arrOf st)[j]?;rw [ea,gt j,oA (by omega)]
   have f2:∀G,Sim S G->failedOf G=none:=fun G sm=>sm.failed.trans f1;split
   ·refine aB (Xd C k1 T (fun z t Z ht=>af z t (jA Z) ht) last fun m G sm g=>?_);refine aB (bG (aB (wpS_get (jB ?_))));have e:(failedOf G).isNone=true:=by rw [f2 G sm];rfl
    show Q ((failedOf G).isNone) _;rw [e];exact fin m G sm g
   ·refine aB (Wx C k1 T (fun t ht z Z=>af z t Z ht) last fun m G sm g=>?_);refine aB (bG (aB (wpS_get (jB ?_))));have e:(failedOf G).isNone=true:=by rw [f2 G sm];rfl
    show Q ((failedOf G).isNone) _;rw [e];exact fin m G sm g
end
noncomputable def ql4:StateT SortSt Sem Unit:=sortPriv% PySem.Builtin.sortRuns
noncomputable def Runs (rk:Keyed->Int) (xs:Array Keyed):List (Nat×Nat×Nat)->Nat->Nat->Prop
 | [],lo,hi=>lo=hi
 |(s,n,_)::r,lo,hi=>s=lo/\1<=n/\UpTo rk xs lo (lo+n)/\Runs rk xs r (lo+n) hi
section
variable {rk:Keyed->Int} {xs ys:Array Keyed}
theorem UpTo.congr {lo hi:Nat} (h:UpTo rk xs lo hi) (e:∀k,lo<=k->k < hi->ys[k]? = xs[k]?):UpTo rk ys lo hi:=fun i j a b c=>by rw [jr (e i a (by omega)),jr (e j (by omega) c)];exact h i j a b c
theorem Runs.le:∀{ps:List (Nat×Nat×Nat)} {lo hi:Nat},Runs rk xs ps lo hi->lo+ps.length<=hi
 | [],lo,hi,h=>by have:lo=hi:=h;simp;omega
 |(s,n,p)::r,lo,hi,h=>by
  obtain⟨_,h1,_,h2⟩:=h
  have:=Runs.le h2;simp only [fB];omega
theorem Runs.congr:∀{ps:List (Nat×Nat×Nat)} {lo hi:Nat},Runs rk xs ps lo hi->(∀k,lo<=k->k < hi->ys[k]? = xs[k]?)->Runs rk ys ps lo hi
 | [],lo,hi,h,_=>h
 |(s,n,p)::r,lo,hi,h,e=>by
  obtain⟨h0,h1,h2,j⟩:=h
  have:=Runs.le j;exact⟨h0,h1,h2.congr fun k a b=>e k a (by omega),Runs.congr j fun k a b=>e k (by omega) b⟩
theorem Runs.snoc:∀{ps:List (Nat×Nat×Nat)} {lo mid n p:Nat},Runs rk xs ps lo mid->1<=n->UpTo rk xs mid (mid+n)->Runs rk xs (ps++[(mid,n,p)]) lo (mid+n)
 | [],lo,mid,n,p,h,h1,h2=>by have e:lo=mid:=h;subst e;exact⟨rfl,h1,h2,rfl⟩
 |(s,m,q)::r,lo,mid,n,p,h,h1,h2=>by obtain⟨a,b,c,d⟩:=h;exact⟨a,b,c,Runs.snoc d h1 h2⟩
theorem Runs.power:∀{ps j:List (Nat×Nat×Nat)} {lo hi:Nat},Runs rk xs ps lo hi->ps.map (fun x=>(x.1,x.2.1))=j.map (fun x=>(x.1,x.2.1))->Runs rk xs j lo hi
 | [],[],_,_,h,_=>h
 | [],_::_,_,_,_,e=>by simp at e
 |_::_,[],_,_,_,e=>by simp at e
 |(s,n,p)::r,(s',n',p')::r',lo,hi,h,e=>by simp only [aC,iH,Prod.mk.injEq] at e;obtain⟨⟨e1,e2⟩,e3⟩:=e;subst e1 e2;obtain⟨a,b,c,d⟩:=h;exact⟨a,b,c,Runs.power d e3⟩
theorem Runs.two:∀{ps:List (Nat×Nat×Nat)} {lo hi i sa na F j nb D:Nat},Runs rk xs ps lo hi->ps[i]? = some (sa,na,F)->ps[i+1]? = some (j,nb,D) ->
  lo<=sa/\j=sa+na/\1<=na/\1<=nb/\j+nb<=hi/\UpTo rk xs sa j/\UpTo rk xs j (j+nb)
 | [],_,_,_,_,_,_,_,_,_,_,e,_=>by simp at e
 |(s,n,p)::r,lo,hi,0,sa,na,F,j,nb,D,h,e1,e2=>by
  simp only [rG,Option.some.injEq,Prod.mk.injEq] at e1;obtain⟨rfl,rfl,rfl⟩:=e1;obtain⟨rfl,h1,h2,G⟩:=h;cases r with
  |nil=>simp at e2
  |cons x r'=>
   obtain⟨s',n',p'⟩:=x;simp only [Nat.zero_add,nI,rG,Option.some.injEq,Prod.mk.injEq] at e2;obtain⟨rfl,rfl,rfl⟩:=e2;obtain⟨rfl,g1,g2,g3⟩:=G
   have:=Runs.le g3;exact⟨dA _,rfl,h1,g1,by omega,h2,g2⟩
 |(s,n,p)::r,lo,hi,i+1,sa,na,F,j,nb,D,h,e1,e2=>by obtain⟨_,h1,h2,G⟩:=h;have z:=Runs.two (i:=i) G (by simpa using e1) (by simpa using e2);exact⟨by omega,z.2⟩
theorem Runs.merge:∀{ps:List (Nat×Nat×Nat)} {lo hi i sa na F D nb j:Nat},Runs rk xs ps lo hi->ps[i]? = some (sa,na,F)->ps[i+1]? = some (D,nb,j) ->
  UpTo rk ys sa (D+nb)->(∀k,k < sa\/D+nb<=k->ys[k]? = xs[k]?)->Runs rk ys ((ps.set i (sa,na+nb,F)).eraseIdx (i+1)) lo hi
 | [],_,_,_,_,_,_,_,_,_,_,e,_,_,_=>by simp at e
 |(s,n,p)::r,lo,hi,0,sa,na,F,D,nb,j,h,e1,e2,u,o=>by
  simp only [rG,Option.some.injEq,Prod.mk.injEq] at e1;obtain⟨rfl,rfl,rfl⟩:=e1;obtain⟨rfl,h1,h2,O⟩:=h;cases r with
  |nil=>simp at e2
  |cons x r'=>obtain⟨s',n',p'⟩:=x;simp only [Nat.zero_add,nI,rG,Option.some.injEq,Prod.mk.injEq] at e2;obtain⟨rfl,rfl,rfl⟩:=e2;obtain⟨rfl,g1,g2,g3⟩:=O;rw [List.set_cons_zero,Nat.zero_add,List.eraseIdx_cons_succ,List.eraseIdx_cons_zero];refine⟨rfl,by omega,by rw [←Nat.add_assoc];exact u,?_⟩;rw [←Nat.add_assoc];exact g3.congr fun k a b=>o k (by omega)
 |(s,n,p)::r,lo,hi,i+1,sa,na,F,D,nb,j,h,e1,e2,u,o=>by
  obtain⟨h0,h1,h2,O⟩:=h;have G:r[i]? = some (sa,na,F):=by simpa using e1
  have J:r[i+1]? = some (D,nb,j):=by simpa using e2
  have z:=Runs.two O G J;rw [List.set_cons_succ,List.eraseIdx_cons_succ];exact⟨h0,h1,h2.congr fun k a b=>o k (by omega),Runs.merge O G J u o⟩
end
section
variable {prog:Program} {w:World} {A:Around} {E:Value->Shared->Prop} {s:Shared} {kind:SortKind} {a0:List Keyed} {rk:Keyed->Int}
theorem Dq (C:Cmp prog w A s kind a0 rk) {st:SortSt} {i hi:Nat} {Q:Bool->SortSt->Prop} (h:Arr kind a0 st) (F:Runs rk (arrOf st) (pendingOf st).toList 0 hi) (hh:hi<=a0.length) (j:i+1 < (pendingOf st).size)
  (q:∀st',Arr kind a0 st'->Runs rk (arrOf st') (pendingOf st').toList 0 hi->(pendingOf st').size+1=(pendingOf st).size->(∀k,hi<=k->(arrOf st')[k]? = (arrOf st)[k]?)->Q true st') :
  wpS (model prog w) A E s (Yu i) Q st:=by
 obtain⟨⟨sa,na,G⟩,e1⟩:∃x,(pendingOf st)[i]? = some x:=⟨_,by rw [gF (by omega)]⟩
 obtain⟨⟨S,nb,D⟩,e2⟩:∃x,(pendingOf st)[i+1]? = some x:=⟨_,by rw [gF j]⟩
 have J:(pendingOf st).toList[i]? = some (sa,na,G):=by rw [kC];exact e1
 have O:(pendingOf st).toList[i+1]? = some (S,nb,D):=by rw [kC];exact e2
 obtain⟨z0,z1,z2,z3,z4,z5,z6⟩:=F.two J O;refine Qp C h e1 e2 z1 z2 z3 (by omega) z5 z6 fun st' h' U u o=>?_;have pl:(pendingOf st').toList=((pendingOf st).toList.set i (sa,na+nb,G)).eraseIdx (i+1):=by rw [U];simp [Array.eraseIdxIfInBounds,j]
 refine q st' h' ?_ ?_ fun k hk=>o k (by omega)
 ·rw [pl];exact F.merge J O u o
 ·have:=vD List.length pl;rw [List.length_eraseIdx,List.length_set] at this;simp only [pB] at this;rw [kA (by omega)] at this;omega
theorem zo4 {c:Prop} [Decidable c] {x y:Nat}:(if c then x else y)=y\/(if c then x else y)=x:=by
 by_cases h:c
 ·rw [kA h];exact .inr rfl
 ·rw [oA h];exact .inl rfl
theorem Oz (C:Cmp prog w A s kind a0 rk) {st:SortSt} {Q:Unit->SortSt->Prop} (h:Arr kind a0 st) (hp:pendingOf st=#[]) (q:∀st',Arr kind a0 st'->UpTo rk (arrOf st') 0 a0.length->Q () st') :
  wpS (model prog w) A E s ql4 Q st:=by
 have hsz:=h.size;refine aB (wpS_get ?_);dsimp only;refine aB (nF (lD
  (I:=fun i c st'=>∃lo,c=(none,lo)/\lo<=a0.length/\Arr kind a0 st'/\Runs rk (arrOf st') (pendingOf st').toList 0 lo/\(i<=lo\/lo=a0.length))
  (Q:=fun c st'=>∃lo,c=(none,lo)/\lo=a0.length/\Arr kind a0 st'/\Runs rk (arrOf st') (pendingOf st').toList 0 lo) ?step ?fin ⟨0,rfl,by omega,h,by rw [hp];rfl,.inl (by omega)⟩) ?post)
 case fin=>
  rintro c st' ⟨lo,rfl,h1,h2,h3,h4⟩;have h4:max 0 (arrOf st).size<=lo\/lo=a0.length:=h4;exact⟨lo,rfl,by omega,h2,h3⟩
 case step=>
  rintro i c a5 _ hi ⟨lo,rfl,h1,h2,h3,h4⟩;dsimp only;by_cases Z:lo >= (arrOf st).size
  ·rw [kA Z];exact jB ⟨lo,rfl,by omega,h2,h3⟩
  ·rw [oA Z];refine aB (Oe C h2 (by show lo+((arrOf st).size - lo)=_;omega) (by show 1<=(arrOf st).size - lo;omega) fun m S A2 m1 m2 u2 o2=>?_);have m2:m<=(arrOf st).size - lo:=m2;dsimp only;have R2:Runs rk (arrOf S) (pendingOf S).toList 0 lo:=by
    rw [o2.pend];exact h3.congr fun k a b=>o2.out k (by omega)
   split;case' isTrue U=>
    refine aB (wpS_lift (wpAny_rule ⟨rfl,?_⟩));refine aB (Le C A2 (n:=min ((arrOf st).size - lo) _) (by omega) (by omega) u2 fun D A3 u3 o3=>?_);simp only [Bool.not_true,fC,yE];have R3:Runs rk (arrOf D) (pendingOf D).toList 0 lo:=by rw [o3.pend];exact R2.congr fun k a b=>o3.out k (by omega)
    have hn:∃n,n=min ((arrOf st).size - lo) (PyProof.Rows.minRun' (arrOf st).size (arrOf st).size 0)/\1<=n/\lo+n<=a0.length/\UpTo rk (arrOf D) lo (lo+n):=
     ⟨_,rfl,by have:m < PyProof.Rows.minRun' (arrOf st).size (arrOf st).size 0:=U;omega,by omega,u3⟩
    obtain⟨n,en,n1,n2,un⟩:=hn
   case' isFalse U=>
    obtain⟨D,a3,A3,R3⟩:∃D,D=S/\Arr kind a0 D/\Runs rk (arrOf D) (pendingOf D).toList 0 lo:=⟨_,rfl,A2,R2⟩
    have a6:UpTo rk (arrOf D) lo (lo+m):=by rw [a3];exact u2
    obtain⟨n,en,n1,n2,un⟩:∃n,n=m/\1<=n/\lo+n<=a0.length/\UpTo rk (arrOf D) lo (lo+n):=⟨_,rfl,m1,by omega,a6⟩
    rw [←a3]
   all_goals
    subst en;have a4:i<=lo:=by omega
    refine aB (wpS_get ?_);rcases hb:(pendingOf D).back? with _ |⟨s1,k1,p1⟩
    ·dsimp only;refine aB (bG (jB ⟨_,rfl,n2,⟨A3.kind,A3.failed,A3.perm⟩,?_,.inl (Nat.add_le_add a4 n1)⟩));have z:=R3.snoc (p:=0) n1 un;rw [←wB] at z;exact z
    ·dsimp only;refine aB (nF (lD
      (I:=fun j c st'=>c=(none,())/\Arr kind a0 st'/\Runs rk (arrOf st') (pendingOf st').toList 0 lo/\∀k,lo<=k->(arrOf st')[k]? = (arrOf D)[k]?)
      (Q:=fun c st'=>c=(none,())/\Arr kind a0 st'/\Runs rk (arrOf st') (pendingOf st').toList 0 lo/\∀k,lo<=k->(arrOf st')[k]? = (arrOf D)[k]?) ?sA (fun _ _ z=>z) ⟨rfl,A3,R3,fun _ _=>rfl⟩) ?pA)
     case pA=>
      rintro c F ⟨rfl,J,G,O⟩;dsimp only;refine aB (bG (aB (bG (jB ⟨_,rfl,n2,⟨J.kind,J.failed,J.perm⟩,?_,.inl (Nat.add_le_add a4 n1)⟩))));have a7:=UpTo.congr (ys:=arrOf F) un fun k a _=>O k a;have key:∀pw,Runs rk (arrOf F) ((pendingOf F).modify ((pendingOf F).size - 1) fun x=>(x.1,x.2.1,pw)).toList 0 lo:=fun pw=>by
       refine G.power ?_;rw [Array.toList_modify];refine nH fun t=>?_;rw [fA,fA,List.getElem?_modify];cases (pendingOf F).toList[t]? with
       |none=>rfl
       |some v=>
        simp only [cI]
        split<;>rfl
      have Y:=fun pw=>(key pw).snoc (p:=0) n1 a7;simp only [←wB] at Y;exact Y _
     case sA=>
      rintro j c F _ hj ⟨rfl,J,G,O⟩;refine aB (wpS_get ?_);by_cases c1:(pendingOf F).size > 1
      ·rw [kA c1];obtain⟨⟨x1,x2,x3⟩,ex⟩:∃x,(pendingOf F)[(pendingOf F).size - 2]? = some x:=⟨_,gF (by omega)⟩
       rw [ex];dsimp only;split
       ·exact jB ⟨rfl,J,G,O⟩
       ·refine aB (Dq C J G h1 (by show (pendingOf F).size - 2+1 < _;omega) fun st5 D1 D2 D3 D4=>?_);simp only [Bool.not_true,fC,yE];exact jB ⟨rfl,D1,D2,fun k hk=>(D4 k hk).trans (O k hk)⟩
      ·rw [oA c1];exact jB ⟨rfl,J,G,O⟩
 case post=>
  rintro c a5 ⟨lo,rfl,rfl,A1,R1⟩;dsimp only;refine aB (nF (lD
   (I:=fun i c st'=>c=(none,())/\Arr kind a0 st'/\Runs rk (arrOf st') (pendingOf st').toList 0 a0.length/\((pendingOf st').size<=1\/(pendingOf st').size+i<=a0.length))
   (Q:=fun c st'=>c=(none,())/\Arr kind a0 st'/\Runs rk (arrOf st') (pendingOf st').toList 0 a0.length/\(pendingOf st').size<=1) ?s4 ?f4 ⟨rfl,A1,R1,.inr (by have:=R1.le;simpa using this)⟩) ?p4)
  case f4=>
   rintro c st' ⟨hc,J,G,O⟩;have O:(pendingOf st').size<=1\/(pendingOf st').size+max 0 (arrOf st).size<=a0.length:=O;exact⟨hc,J,G,by omega⟩
  case p4=>
   rintro c st' ⟨rfl,J,G,O⟩;refine jB (q st' J ?_);cases e:(pendingOf st').toList with
   |nil=>
    rw [e] at G
    have:0=a0.length:=G;intro a b c d f;omega
   |cons x r=>
    have:r=[]:=by have:=vD List.length e;simp only [pB,fB] at this;exact pF (by omega)
    subst this;obtain⟨sx,nx,px⟩:=x;rw [e] at G;obtain⟨_,_,u,z⟩:=G;have z:0+nx=a0.length:=z;rw [z] at u;exact u
  case s4=>
   rintro i c st' _ hi ⟨rfl,J,G,O⟩;refine aB (wpS_get ?_);by_cases c1:(pendingOf st').size<=1
   ·rw [kA c1];exact jB ⟨rfl,J,G,c1⟩
   ·rw [oA c1];have a8:∀(z:Nat),z=(pendingOf st').size - 2\/z=(pendingOf st').size - 2 - 1->z+1 < (pendingOf st').size:=fun z hz=>by omega
    refine aB (Dq C J G (dA _) (a8 _ ?idx) fun S D1 D2 D3 D4=>?rest)
    case idx=>exact zo4
    case rest=>
     simp only [Bool.not_true,fC,yE];exact jB ⟨rfl,D1,D2,by omega⟩
end
open PySem.W
section
variable {prog:Program} {w:World} {A:Around} {E:Value->Shared->Prop} {s:Shared}
theorem zl4 {rk:Keyed->Int} {xs:Array Keyed} (h:UpTo rk xs 0 xs.size):xs.toList.Pairwise fun x y=>rk x < rk y:=by
 refine dD.mpr fun i j hi J F=>?_;have G:i < xs.size:=by simpa using hi
 have D:j < xs.size:=by simpa using J
 have z:=h i j (yB _) F D;rw [Br (gF G),Br (gF D)] at z;simpa using z
theorem qv8 {xs vs:List Value} {ps:List Keyed} (h:ps.Perm (vs.zip vs)):(ps.map (·.2)).Perm vs:=by
 have:=h.map (·.2)
 rwa [List.map_snd_zip (by simp)] at this
theorem uh {vs:List Value} {p:Keyed} (h:p∈vs.zip vs):p.1=p.2/\p.1∈vs:=mem_zip_self h
noncomputable def Rest (a:Addr) (h h':Heap):Prop:=∀b o,b≠a->h.get? b=some o->h'.get? b=some o
theorem qc6 {a:Addr} {vs:List Value} {n:Nat} {kind:SortKind} {rk:Value->Int} {P:Fin->Shared->Prop} (J:s.heap.get? a=some (seqObj "list" vs.toArray n)) (hlen:vs.length<=sizeLine)
  (O:2<=vs.length->∀(s':Shared) (Q:SortKind->Shared->Prop),Rest a s.heap s'.heap->Q kind s'->wpAny (model prog w) A (keyKind' vs.toArray) Q E s')
  (S:∀(s':Shared),Rest a s.heap s'.heap->∀x y,x∈vs->y∈vs->∀(E:Value->Shared->Prop) (Q:Bool->Shared->Prop),Q (decide (rk x < rk y)) s'->wpAny (model prog w) A (keyLt' kind x y) Q E s')
  (inj:(vs.map rk).Nodup)
  (h:∀out:List Value,out.Perm vs->out.Pairwise (fun x y=>rk x < rk y)->P (.done (.ret .none)) { s with heap:=sortedHeap s.heap a vs out.toArray}) :
  wpAny (model prog w) A (Builtin.«list.sort» ⟨[.ref a],[]⟩) P E s:=by
 rw [list_sort_plain];have ha:a < s.heap.objs.size:=kB J;refine cA (listItems_at J rfl (cA (listUpdate_at J rfl ?_)));obtain⟨e1,G⟩:∃e1,(s.heap.update a (Obj.mapSeq fun _=>#[])).get? a=some (seqObj "list" #[] e1):=⟨_,get?_update_seq J (fun _=>#[])⟩
 refine cA (seqEpoch_at G rfl (cA (wpAny_newTuple (cA (wpAny_newList (sD ?_))))));generalize D:({ s with heap:=((s.heap.update a (Obj.mapSeq fun _=>#[])).push (seqObj "tuple" vs.toArray 0)).push (seqObj "list" #[] 0)}:Shared)=F;have j:F.heap.get? a=some (seqObj "list" #[] e1):=by rw [←D];show (((s.heap.update a (Obj.mapSeq fun _=>#[])).push (seqObj "tuple" vs.toArray 0)).push (seqObj "list" #[] 0)).get? a=_;exact iA _ (iA _ G)
 have rest:Rest a s.heap F.heap:=fun b o hb e=>by rw [←D];exact iA _ (iA _ ((dC s.heap _ (eE hb)).trans e))
 have fin:∀out:List Value,out.Perm vs->out.Pairwise (fun x y=>rk x < rk y)->P (.done (.ret .none)) { F with heap:=F.heap.update a (Obj.mapSeq fun _=>out.toArray)}:=fun out p o=>by have q:=h out p o;rw [←D];exact q
 dsimp only;have hsz:vs.toArray.size=vs.length:=by simp
 have Y:vs.toArray.zip vs.toArray=(vs.zip vs).toArray:=by simp
 by_cases h2:vs.toArray.size < 2
 ·rw [kA h2,kA h2];refine cA (eB ?_);rw [StateT.run_pure];refine cA (eB ?_);dsimp only;have em:(arrOf (SortSt.mk' general' (vs.toArray.zip vs.toArray) #[] 7 none)).map (·.2)=vs.toArray:=by
   show (vs.toArray.zip vs.toArray).map (·.2)=_;rw [Y,List.map_toArray,List.map_snd_zip (by simp)]
  rw [em];refine cA (seqEpoch_at j rfl (cA (listUpdate_at j rfl ?_ (hsz2:=by simp;omega))));simp only [bne_self_eq_false,fC,yE];refine eB (fin vs (List.Perm.refl _) ?_);match vs,hsz,h2 with
  | [],_,_=>exact List.Pairwise.nil
  | [x],_,_=>exact pI _ _
  |_::_::_,_,h2=>simp at h2;omega
 ·rw [oA h2,oA h2];have C:Cmp prog w A F kind (vs.zip vs) (fun p=>rk p.1):=⟨fun x y hx U E' Q q=>S F rest x.1 y.1 (uh hx).2 (uh U).2 E' Q q,by
   have e:(vs.zip vs).map (fun p=>rk p.1)=vs.map rk:=by
    have:(vs.zip vs).map (fun p=>rk p.1)=((vs.zip vs).map (·.1)).map rk:=by rw [gD];rfl
    rw [this,List.map_fst_zip (by simp)]
   rw [e];exact inj⟩
  refine cA (O (by omega) F _ rest ?_);have Z:Arr kind (vs.zip vs) (SortSt.mk' kind (vs.toArray.zip vs.toArray) #[] 7 none):=⟨rfl,rfl,by
   show (vs.toArray.zip vs.toArray).toList.Perm _;rw [Y]⟩
  refine cA (oC (Oz (E:=E) C Z rfl (Q:=fun _ st'=>Arr kind (vs.zip vs) st'/\UpTo (fun p=>rk p.1) (arrOf st') 0 (vs.zip vs).length) fun st' B u=>⟨B,u⟩) ?_ fun _ _ e=>e);rintro⟨⟨⟩,st'⟩ s' ⟨rfl,B,u⟩;dsimp only;have bs:=B.size;have pm:((arrOf st').toList.map (·.2)).Perm vs:=qv8 (xs:=vs) B.perm;have em:(arrOf st').map (·.2)=((arrOf st').toList.map (·.2)).toArray:=by apply Array.toList_inj.mp;rw [Array.toList_map]
  have up:((arrOf st').toList.map (·.2)).Pairwise fun x y=>rk x < rk y:=by rw [←bs] at u;refine oH _ (fun x y z=>z) ((zl4 u).imp_of_mem fun {x y} hx U z=>?_);have e1:=(uh (B.perm.mem_iff.mp hx)).1;have e2:=(uh (B.perm.mem_iff.mp U)).1;rw [←e1,←e2];exact z
  rw [em];refine cA (seqEpoch_at j rfl (cA (listUpdate_at j rfl ?_ (hsz2:=by have:=pm.length_eq;rw [qA,this];omega))))
  rw [B.failed];simp only [bne_self_eq_false,fC,yE];exact eB (fin _ pm up)
theorem sorted_any {l:Addr} {vs:List Value} {kind:SortKind} {rk:Value->Int} {Q:Value->Shared->Prop} (hl:s.heap.IsList l vs.toArray) (hlen:vs.length<=sizeLine)
  (G:2<=vs.length->∀(A:Around) (s':Shared) (Q:SortKind->Shared->Prop),(∀b o,s.heap.get? b=some o->s'.heap.get? b=some o)->Q kind s'->wpAny (model prog w) A (keyKind' vs.toArray) Q (fun _ _=>False) s')
  (J:∀(A:Around) (s':Shared),(∀b o,s.heap.get? b=some o->s'.heap.get? b=some o)->∀x y,x∈vs->y∈vs->∀(E:Value->Shared->Prop) (Q:Bool->Shared->Prop),Q (decide (rk x < rk y)) s'->wpAny (model prog w) A (keyLt' kind x y) Q E s')
  (inj:(vs.map rk).Nodup)
  (h:∀out:List Value,out.Perm vs->out.Pairwise (fun x y=>rk x < rk y)->Q (.ref (s.heap.objs.size+1)) { s with heap:=sortedAll s.heap vs out.toArray}) :
  wpAny (model prog w) A (call (.builtin "sorted") [.ref l]) Q E s:=by
 refine Calls.call_function_entry kind_sorted plain_sorted entry_sorted (args_sorted1 _) ?_;unfold Builtin.«sorted»;refine cA (m:=checkCount "sorted" 1 1 _) (eB (cA (collect_list hl (cA (wpAny_newList ?_)) hlen)));have hsz:((s.heap.push (seqObj "list" #[] 0)).update s.heap.objs.size (Obj.mapSeq (·++vs.toArray))).objs.size=s.heap.objs.size+1:=by rw [Heap.size_update,size_push']
 generalize j:(((s.heap.push (seqObj "list" #[] 0)).update s.heap.objs.size (Obj.mapSeq (·++vs.toArray))).push (seqObj "list" vs.toArray 0))=F;have D:F.get? (s.heap.objs.size+1)=some (seqObj "list" vs.toArray 0):=by rw [←j,←hsz];exact zB _ rfl
 have old:∀b o,s.heap.get? b=some o->F.get? b=some o:=fun b o e=>by rw [←j];refine iA _ ((dC _ _ ?_).trans (iA _ e));exact (rC (kB e)).symm
 dsimp only;rw [hsz];have lift:∀s':Shared,Rest (s.heap.objs.size+1) F s'.heap->∀b o,s.heap.get? b=some o->s'.heap.get? b=some o:=fun s' r b o e=>
  r b o (rC (Nat.lt_succ_of_lt (kB e))) (old b o e)
 refine cA (sD (wpAny_call_entry slot_list_sort ⟨_,D,rfl⟩ entry_list_sort (qc6 (s:={ s with heap:=F}) (kind:=kind) (rk:=rk) D hlen
  (fun h2 s' Q' r q=>oC (G h2 _ s' Q' (lift s' r) q) (fun _ _ z=>z) fun _ _ z=>z.elim) (fun s' r=>J _ s' (lift s' r)) inj fun out p o=>⟨_,rfl,?_⟩) (args_list_sort _)))
 have q:=h out p o;unfold sortedAll at q;rw [j] at q;exact eB ⟨_,rfl,q⟩
noncomputable def TwoAt (h:Heap) (x:Value) (t l:Int):Prop:=∃a o xs n t1 t2 rest,x=.ref a/\h.get? a=some o/\o.cls=.type "tuple" /\ o.data=.seq xs n/\xs.toList=.int t t1::.int l t2::rest
theorem TwoAt.keep {h h':Heap} {x:Value} {t l:Int} (q:TwoAt h x t l) (k:∀b o,h.get? b=some o->h'.get? b=some o):TwoAt h' x t l:=by obtain⟨a,o,xs,n,t1,t2,rest,e,g,r⟩:=q;exact⟨a,o,xs,n,t1,t2,rest,e,k _ _ g,r⟩
theorem Ym {b fin:Bool} {Q:Bool->Shared->Prop} (h:Q fin s):∀(l:List Value) (i:Nat),KatLex prog w A b fin Q (l.zip l) i s
 | [],i=>by simpa using kat_nil h
 |x::l,i=>by rw [xG];exact kat_cons (SeqAt.EqAt.same x prog w _ _ (kat_yes (Ym h l (i+1))))
theorem lt_two {x y:Value} {t l t' l':Int} {Q:Bool->Shared->Prop} (hx:TwoAt s.heap x t l) (Z:TwoAt s.heap y t' l') (same:t=t'->l=l'->x=y)
  (h:Q (decide (t < t'\/(t=t'/\l < l'))) s):wpAny (model prog w) A (keyLt' (tuples' true) x y) Q E s:=by
 by_cases F:x=y
 ·subst F;obtain⟨a,o,xs,n,t1,t2,rest,rfl,g,c,d,e⟩:=hx;obtain⟨a',o',U,n',G,J,j,ea,g',c',d',O⟩:=Z;cases ea;rw [g] at g';cases g';rw [d] at d';cases d';rw [e] at O;simp only [iH,Value.int.injEq] at O;obtain⟨⟨rfl,_⟩,⟨rfl,_⟩,_⟩:=O;refine kat_lt g d g d ?_;have hf:decide (xs.size < xs.size)=decide (t < t\/(t=t/\l < l)):=by simp
  rw [hf];exact Ym h xs.toList 0
 ·obtain⟨a,o,xs,n,t1,t2,rest,rfl,g,c,d,e⟩:=hx;obtain⟨a',o',U,n',G,J,j,rfl,g',c',d',O⟩:=Z;refine kat_lt g d g' d' ?_;rw [e,O,xG,xG];refine kat_cons (aG t t1 t' G prog w _ _ ?_);by_cases S:t=t'
  ·have D:(t == t')=true:=by simpa using S
   rw [D];refine kat_yes (kat_cons (aG l t2 l' J prog w _ _ ?_));have hl:l≠l':=fun z=>F (same S z);have Y:(l == l')=false:=by simpa using hl
   rw [Y];refine kat_no ?_;show wpAny (model prog w) A (oneLt' false _ _) _ _ s;refine kat_one _ _ (lt_int ?_);show Q (decide (l < l')) s
   have:decide (l < l')=decide (t < t'\/(t=t'/\l < l')):=by
    by_cases z:l < l'
    ·rw [eA z,eA (.inr ⟨S,z⟩)]
    ·rw [dB z,dB (fun q=>q.elim (fun q=>by omega) fun q=>z q.2)]
   rw [this];exact h
  ·have D:(t == t')=false:=by simpa using S
   rw [D];refine kat_no ?_;show wpAny (model prog w) A (oneLt' true _ _) _ _ s;refine oneLt_int ?_
   have:decide (t < t')=decide (t < t'\/(t=t'/\l < l')):=by
    by_cases z:t < t'
    ·rw [eA z,eA (.inl z)]
    ·rw [dB z,dB (fun q=>q.elim z fun q=>S q.1)]
   rw [this];exact h
theorem kind_two {vs:List Value} {Q:SortKind->Shared->Prop} (h:∀v∈vs,∃t l,TwoAt s.heap v t l) (hne:0 < vs.length) (q:Q (tuples' true) s):wpAny (model prog w) A (keyKind' vs.toArray) Q E s:=by
 have mk:∀vs:List Value,(∀v∈vs,∃t l,TwoAt s.heap v t l)->∃fs:List Value,KatTups s.heap vs fs/\fs.length=vs.length/\∀f∈fs,∃t t1,f=.int t t1:=by
  intro vs;induction vs with
  |nil=>exact fun _=>⟨[],KatTups.nil,rfl,fun f hf=>by simp at hf⟩
  |cons v vs ih=>
   intro h;obtain⟨fs,k1,k2,k3⟩:=ih fun x hx=>h x (vA _ hx);obtain⟨t,l,a,o,xs,n,t1,t2,rest,rfl,g,c,d,e⟩:=h v uA;refine⟨.int t t1::fs,KatTups.cons g c d (by rw [←kC,e];rfl) k1,by simp [k2],fun f hf=>?_⟩;rcases gB.mp hf with rfl |hf
   ·exact⟨_,_,rfl⟩
   ·exact k3 f hf
 obtain⟨fs,k1,k2,k3⟩:=mk vs h;refine kat_kind (T:=.type "int") k1 (by omega) (fun v j=>?_) (by simp) q;obtain⟨t,t1,rfl⟩:=k3 v j;exact Looks.of_pure rfl
end
end GS
namespace L2
open PySem PySem.Spec PyProof.Rows
noncomputable def zu2 (p q:Int×Int):Prop:=p.1 < q.1\/(p.1=q.1/\p.2 < q.2)
inductive rSorted (K:PySem.W.Frag) (xs:List V) (H:Hp) (Q:VK):Prop
 |mk (p:Addr) (vs:List V) (f:V->Int×Int) (_:xs=[.ref p]) (_:SqL K H p vs) (_:(∀v∈vs,∃a rest,v=.ref a/\SqT K H a (.int (f v).1::.int (f v).2::rest))) (_:(vs.map f).Nodup) (_:(∀v∈vs,0<=(f v).2/\(f v).2 < 1000)) (_:∀q vs',H q=none->vs'.Perm vs->vs'.Pairwise (fun u v=>zu2 (f u) (f v))->Q (.ref q) (upd H q (.lst vs')))
noncomputable def Du:Value->V
 | .ref a=>.ref a
 |_=>.non
theorem qd0:∀{vs:List V} {us:List Value},Vals vs us->(∀v∈vs,∃a,v=V.ref a)->us.map Du=vs/\∀u∈us,∃a,u=Value.ref a
 |_,_,.nil,_=>⟨rfl,fun u j=>by simp at j⟩
 |v::vs,u::us,.cons r t,h=>by
  obtain⟨a,rfl⟩:=h v uA;cases r;obtain⟨h1,h2⟩:=qd0 t fun x hx=>h x (vA _ hx);refine⟨by rw [aC,h1];rfl,fun x hx=>?_⟩;rcases gB.mp hx with rfl |hx
  ·exact⟨a,rfl⟩
  ·exact h2 x hx
theorem U4:∀{us:List Value},(∀u∈us,∃a,u=Value.ref a)->Vals (us.map Du) us
 | [],_=>.nil
 |u::us,h=>by obtain⟨a,rfl⟩:=h u uA;exact .cons rfl (U4 fun x hx=>h x (vA _ hx))
theorem Ui {X:Cx} {K:PySem.W.Frag} (hK:X.K=K):Ag X (.builtin "sorted") (rSorted K):=by
 subst hK;intro pins s σ H xs us Q I r h;obtain⟨p,vs,f,rfl,hp,hv,nd,bd,q⟩:=h;obtain⟨u,rfl,ru⟩:=vals1 r;cases ru;obtain⟨its,rv,pl,hz⟩:=I.list hp;obtain⟨em,G⟩:=qd0 rv fun v D=>by obtain⟨a,_,e,_⟩:=hv v D;exact⟨a,e⟩
 have hlen:=rv.length;have two:∀x∈its,GS.TwoAt s.heap x (f (Du x)).1 (f (Du x)).2/\Du x∈vs:=fun x hx=>by
  have mem:Du x∈vs:=by rw [←em];exact xA.mpr ⟨x,hx,rfl⟩
  obtain⟨a,rest,e,ht⟩:=hv _ mem;obtain⟨b,rfl⟩:=G x hx;have e:b=a:=by have:V.ref b=V.ref a:=e;injection this
  subst e;obtain⟨tt,r2,⟨o,ho,hc,n,hd⟩,_⟩:=I.tuple ht;cases r2 with
  |cons r2 t2=>
   cases t2 with
   |cons r3 t3=>obtain⟨t1,rfl⟩:=r2;obtain⟨t2,rfl⟩:=r3;exact⟨⟨b,o,_,n,t1,t2,_,rfl,ho,hc,hd,rfl⟩,mem⟩
 let rk:Value->Int:=fun x=>(f (Du x)).1 * 1000+(f (Du x)).2
 have a3:vs.Nodup:=by exact List.Pairwise.of_map (S:=(·≠·)) (R:=(·≠·)) f (fun a b h e=>h (vD f e)) nd
 have U:∀u∈vs,∀v∈vs,f u=f v->u=v:=fun u Y v D e=>by
  obtain⟨i,hi,ei⟩:=rF.mp Y;obtain⟨j,hj,ej⟩:=rF.mp D
  have:i=j:=(List.getElem_inj (h₀:=by simpa using hi) (h₁:=by simpa using hj) nd).mp (by simp [ei,ej,e]);subst this;rw [←ei,←ej]
 have J:∀x∈its,∀y∈its,Du x=Du y->x=y:=fun x hx y F e=>by
  obtain⟨a,rfl⟩:=G x hx;obtain⟨b,rfl⟩:=G y F
  have:V.ref a=V.ref b:=e;injection this with this;rw [this]
 have dec:∀x∈its,∀y∈its,decide (rk x < rk y)=decide ((f (Du x)).1 < (f (Du y)).1\/((f (Du x)).1=(f (Du y)).1/\(f (Du x)).2 < (f (Du y)).2)):=fun x hx y F=>by
  have b1:=bd _ (two x hx).2;have b2:=bd _ (two y F).2
  have:(rk x < rk y)↔((f (Du x)).1 < (f (Du y)).1\/((f (Du x)).1=(f (Du y)).1/\(f (Du x)).2 < (f (Du y)).2)):=by show (f (Du x)).1 * 1000+(f (Du x)).2 < (f (Du y)).1 * 1000+(f (Du y)).2↔_;omega
  exact decide_eq_decide.mpr this
 have a4:(its.map rk).Nodup:=by
  have e:(its.map rk)=vs.map fun v=>(f v).1 * 1000+(f v).2:=by rw [←em,gD];rfl
  rw [e];refine oH _ (R:=fun u v=>u∈vs/\v∈vs/\u≠v) (fun u v z e=>?_) (a3.imp_of_mem fun {u v} Y D z=>⟨Y,D,z⟩);have b1:=bd u z.1;have b2:=bd v z.2.1;have e1:(f u).1=(f v).1:=by omega
  have e2:(f u).2=(f v).2:=by omega
  exact z.2.2 (U u z.1 v z.2.1 (Prod.ext e1 e2))
 refine GS.sorted_any (kind:=tuples' true) (rk:=rk) pl.isList (by omega) (fun h2 A s' Q' k Z=>?_) (fun A s' k x y hx F E' Q' Z=>?_) a4 fun out O ho=>?_
 ·exact GS.kind_two (fun v D=>⟨_,_,(two v D).1.keep k⟩) (by omega) Z
 ·rw [dec x hx y F] at Z;exact GS.lt_two ((two x hx).1.keep k) ((two y F).1.keep k) (fun e1 e2=>J x hx y F (U _ (two x hx).2 _ (two y F).2 (Prod.ext e1 e2))) Z
 ·have iso:∀u∈out,∃a,u=Value.ref a:=fun u Y=>G u (O.mem_iff.mp Y);obtain⟨e,he⟩:=sortedAll_at s.heap its out.toArray;have pv:(out.map Du).Perm vs:=by rw [←em];exact O.map Du
  refine⟨.ref (s.heap.objs.size+1),_,I.laid (a:=s.heap.objs.size+1) (o:=.lst (out.map Du)) (t':=s.toks) (fun b u e=>sortedAll_old e) (Nat.le_succ _) ⟨?_,out,e,U4 iso,he⟩,rfl,
   q _ _ (I.hok.fresh (Nat.le_succ _)) pv ?_⟩
  ·have:=pv.length_eq;rw [this];exact hz
  ·refine oH _ (R:=fun x y=>x∈out/\y∈out/\rk x < rk y) (fun x y z=>?_) (ho.imp_of_mem fun {x y} hx F z=>⟨hx,F,z⟩);have d:=dec x (O.mem_iff.mp z.1) y (O.mem_iff.mp z.2.1);rw [eA z.2.2] at d;have z':=lB d.symm;exact z'
noncomputable def Av (sep:Str) (ys:List Str):Str:=PySem.Txt.join sep ys
inductive rJoin (K:PySem.W.Frag) (x:V) (vs:List V) (H:Hp) (Q:VK):Prop
 |mk (sep:Str) (p:Addr) (ys:List Str) (_:x=.str sep) (_:vs=[.ref p]) (_:SqL K H p (ys.map V.str)) (_:(ys.map (·.length)).sum+ys.length * sep.length<=16777216) (_:Q (.str (Av sep ys)) H)
theorem M5:∀{ys:List Str} {us:List Value},Vals (ys.map V.str) us->StrsAre us ys
 | [],_,.nil=>.nil
 |y::ys,u::us,.cons r t=>by obtain⟨t',rfl⟩:=r;exact .cons y t' (M5 t)
theorem De {X:Cx} {K:PySem.W.Frag} (j:X.K=K):MtM X "str.join" (rJoin K):=by subst j;intro pins s σ H x vs v us Q I D F h;obtain⟨sep,p,ys,rfl,rfl,hp,hok,q⟩:=h;obtain⟨t,rfl⟩:=D;obtain⟨u,rfl,G⟩:=F.one;cases G;obtain⟨its,r,pl,hz⟩:=I.list hp;exact join_list (ys:=ys) pl.isList (by simpa using M5 r) hok fun t' k=>⟨.str (Av sep ys),H,I.tok k,⟨t',rfl⟩,q⟩
noncomputable def Ite (K:PySem.W.Frag) (a:Addr):It:=
 ⟨fun i H=>∃xs x,SqL K H a xs/\xs[i]? = some x,fun i H x H'=>∃t y,H t=none/\x=.ref t/\H'=upd H t (.tup [.int (i:Int),y])/\∀xs,SqL K H a xs->xs[i]? = some y,fun i H=>∃xs,SqL K H a xs/\xs.length<=i⟩
theorem qf1 {P:Program} {w:World} {K:PySem.W.Frag} {es:List Expr} {k:Nat} {pos:Pos} (a e it:Addr) (J:e≠it) :
    Turn P w K (.Tuple es k pos) (Ite K a) [e,it] e (fun i h=>(∃old,IsEnum h e it (i:Nat) old)/\h.IsListIter it a i) where
  mem:=by simp
  obj:=fun i h st b hb=>by
    obtain⟨⟨old,he⟩,⟨o,ho,c,d⟩⟩:=st;rcases gB.mp hb with rfl |hb
    · exact⟨_,he,fun v z=>by cases (show Data.fields _=Data.cell v from z)⟩
    · have e:b=it:=by simpa using hb
      subst e;exact⟨o,ho,fun v z=>by rw [d] at z;cases z⟩
  keep:=fun i h h' st k=>by obtain⟨⟨old,he⟩,hit⟩:=st;exact⟨⟨old,k e (by simp) _ he⟩,hit.at fun o q=>k it (by simp) o q⟩
  item:=by
    intro X hP hw hK hc i pins s σ H E I hf st hg;subst hP hw hK;obtain⟨xs,x,Y,hx⟩:=hg;obtain⟨its,rv,p,hz⟩:=I.list Y;obtain⟨u,hu,ru⟩:=rv.get hx;obtain⟨⟨old,he⟩,hit⟩:=st;obtain⟨f0,f1,f2,f3,f4,f5⟩:=hf e (by simp);obtain⟨Z,g1,g2,g3,g4,g5⟩:=hf it (by simp);have F:e < s.heap.objs.size:=kB he;have O:it < s.heap.objs.size:=by obtain⟨_,q,_⟩:=hit;exact kB q
    refine wpAny_pyNext_enum_item he hit p.isList (x:=u) (by simpa using hu) J fun h1 a3 S a4 hsz1 a5=>?_;refine⟨_,rfl,wpAny_letOwnedTupleGo_enum a3 fun h2 a6 G=>?_⟩;have k2:∀b o,b≠e->b≠it->s.heap.get? b=some o->h2.get? b=some o:=fun b o hb a7 q=>(G.2 b hb).trans (a5 b o hb a7 q);have fr:H s.heap.objs.size=none:=I.hok.fresh (dA _);have tr:∀b o,H b=some o->b≠e/\b≠it/\b≠s.heap.objs.size:=fun b o q=>⟨fun z=>(by rw [z,f0] at q;cases q),fun z=>(by rw [z,Z] at q;cases q),fun z=>(by rw [z,fr] at q;cases q)⟩
    have j:∀b,b∉[e,it]->b≠e/\b≠it:=fun b hb=>⟨fun z=>hb (by simp [z]),fun z=>hb (by simp [z])⟩
    have U:IsTup h2 s.heap.objs.size [.int i s.toks,u].toArray:=⟨_,(G.2 _ (Nat.ne_of_gt F)).trans a4,rfl,_,rfl⟩
    have I2:Inv X pins σ (upd H s.heap.objs.size (.tup [.int (i:Int),x])) { s with heap:=h2,toks:=s.toks+1}:=by
      refine I.step (g':=s.gens) (d':=s.drawn) (ch:=[e,it]) (fun b hb=>?_) (fun b o _ _ hb q _=>k2 b o (j b hb).1 (j b hb).2 q) (fun b o _ _ hb q _=>⟨o.slots,k2 b o (j b hb).1 (j b hb).2 q⟩)
        (fun b o hb q n=>?_) (fun b o hb q=>⟨o,k2 b o (j b hb).1 (j b hb).2 q⟩) (fun b ys q=>?_) (fun b o u q=>?_) (fun b ps q=>⟨#[],?_⟩) (fun m hm=>?_) (fun b o q=>?_) I.bare
      · rcases gB.mp hb with rfl |hb
        · exact⟨f3,f1,f4,f5⟩
        · have e:b=it:=by simpa using hb
          subst e;exact⟨g3,g1,g4,g5⟩
      · rw [qu (rC (kB q))];exact n
      · rw [qu (tr b _ q).2.2];exact q
      · rw [qu (tr b _ q).2.2];exact q
      · rw [qu (tr b _ q).2.2,q];simp
      · obtain⟨o,a8,ep,ho,r⟩:=hm
        exact⟨o,a8,ep,k2 _ o (eE f1) (eE g1) ho,r⟩
      · by_cases hb:b=s.heap.objs.size
        · subst hb
          rw [qd] at q;cases q;exact⟨by show 2<=sizeLine;decide,[.int i s.toks,u],.cons ⟨_,rfl⟩ (.cons ru .nil),U⟩
        · rw [qu hb] at q
          refine (I.hok b o q).stay (fun c v D z=>?_) (fun c z=>?_) fun c ys z=>?_
          · have:c≠e/\c≠it:=by
              rcases D with rfl |D
              · exact⟨(tr _ _ q).1,(tr _ _ q).2.1⟩
              · exact⟨(tr _ _ D).1,(tr _ _ D).2.1⟩
            exact k2 c v this.1 this.2 z
          · rw [qu (tr c _ z).2.2];exact z
          · rw [qu (tr c _ z).2.2];exact z
    refine⟨.ref s.heap.objs.size,_,I2,rfl,⟨_,x,fr,rfl,rfl,fun ys hy=>by rw [I.list_inj hy Y];exact hx⟩,⟨⟨_,by simpa using a6⟩,S.at fun o q=>(G.2 it (eE J)).trans q⟩,fun b hb=>?_⟩;rcases gB.mp hb with rfl |hb
    · rw [qu (rC F)];exact f0
    · have e:b=it:=by simpa using hb
      subst e;rw [qu (rC O)];exact Z
  done:=by intro X hP hw hK hc i pins s σ H E I hf st hg;subst hP hw hK;obtain⟨xs,Y,hx⟩:=hg;obtain⟨its,rv,p,hz⟩:=I.list Y;obtain⟨⟨old,he⟩,hit⟩:=st;obtain⟨Z,g1,g2,g3,g4,g5⟩:=hf it (by simp);have hl:=rv.length;exact wpAny_pyNext_enum_end (I.ok.hd hc) he hit p.isList (by simp;omega) fun h' eb=>⟨rfl,I.turned (t':=s.toks) (fun b o hb q=>eb b o hb q) Z g1 g3 g4 g5⟩
  self:=fun _ _ _ _ _ st h=>by obtain⟨⟨old,he⟩,_⟩:=st;exact wpAny_pyIter_enum he h
noncomputable def zt9 (K:PySem.W.Frag) (ta:TA):TI:=fun σ H R=>ta σ H fun vs H1=>∃a,vs=[.ref a]/\(∃xs,SqL K H1 a xs)/\R (Ite K a) H1
theorem Lf {X:Cx} {K:PySem.W.Frag} {es:List Expr} {k:Nat} {tpos:Pos} {a:Expr} {ta:TA} {p pos:Pos} (G:X.K=K) (J:Gl X "enumerate") (hm:X.mg "enumerate" = none) (ha:PA X [a] ta) (hs:starEach [a] X.env=[(false,eval a X.env)]:=by rfl) :
  PI X (.Tuple es k tpos) (.Call (.Name "enumerate" p) [a] [] pos) (zt9 K ta):=by
 subst G;intro pins s σ H R I h;refine Call_ (G8 I J hm boot_enumerate (aF (thn (ha pos pins s σ H _ I h) fun us s1 ⟨vs,H1,F,O,q1⟩=>?_) hs rfl));obtain⟨b,e,⟨xs,S⟩,q⟩:=q1;subst e;cases O with
 |cons r U=>
  cases U;cases r;obtain⟨its,rv,pl,hz⟩:=F.list S;refine call_enumerate_list pl.isList fun h' he hit hsz hk=>?_;have Y:Inv X pins σ H1 { s1 with heap:=h'}:=F.kept (t':=s1.toks) hk;refine wpAny_pyIter_enum he ?_;refine⟨s1.heap.objs.size+1,[s1.heap.objs.size+1,s1.heap.objs.size],_,_,H1,rfl,Y,qf1 b _ _ (Nat.succ_ne_self _),⟨⟨_,he⟩,hit⟩,fun c j=>?_,q⟩;have D:s1.heap.objs.size<=c:=by
   rcases gB.mp j with j |j
   ·rw [j];exact Nat.le_succ _
   ·have:c=s1.heap.objs.size:=by simpa using j
    rw [this];exact dA _
  exact F.fpOk D (F.hok.fresh D)
theorem Iv {K:PySem.W.Frag} {a:Addr} {xs:List V} {g:TG} {tb:TS} {D:Ends} {σ:St} {H:Hp} (Pv:Nat->St->Hp->Prop) (h0:Pv 0 σ H) (hl:∀i σ H,i<=xs.length->Pv i σ H->SqL K H a xs)
  (hs:∀i x σ H t,xs[i]? = some x->Pv i σ H->H t=none->g (.ref t) σ (upd H t (.tup [.int (i:Int),x])) fun j H2=>tb { D with nx:=Pv (i+1),ct:=Pv (i+1),bk:=D.nx} j H2) (hd:∀σ H,Pv xs.length σ H->D.nx σ H) :
  ∃W:Nat->Nat->St->Hp->Prop,(∃m,W 0 m σ H)/\∀i m σ H,W i m σ H ->
   ((Ite K a).stop i H/\D.nx σ H)\/((Ite K a).go i H/\∃N:St->Hp->Prop,(∀F H',N F H'->∃J,J < m/\W (i+1) J F H')/\∀x H',(Ite K a).yld i H x H'->g x σ H' fun j H2=>tb { D with nx:=N,ct:=N,bk:=D.nx} j H2):=by
 refine⟨fun i m σ H=>m=xs.length - i/\i<=xs.length/\Pv i σ H,⟨xs.length,by simp,yB _,h0⟩,?_⟩;rintro i m σ H ⟨rfl,hi,p⟩;have q:=hl i σ H hi p;by_cases G:i < xs.length
 ·refine .inr ⟨⟨xs,xs[i],q,by simp [G]⟩,Pv (i+1),fun F H' O=>⟨xs.length - (i+1),by omega,rfl,G,O⟩,fun x H' y=>?_⟩;obtain⟨t,z,S,e1,e2,y⟩:=y;subst e1 e2;exact hs i z σ H t (y xs q) p S
 ·have e:i=xs.length:=by omega
  subst e;exact .inl ⟨⟨xs,q,dA _⟩,hd σ H p⟩
open PySem.W
open Sem (wp)
section
variable {prog:Program} {w:World} {A:Around} {E:Value->Shared->Prop} {hp:Heap} {g:Array GenState} {d:Drawn} {tk:Nat} {os:OsState} {a:Addr} {dd:Option Addr} {sl:Array (Option Value)} {its:Array Value} {n:Nat} {k:Int} {t:Tok}
end
inductive rRepL (x:V) (y:V) (H:Hp) (Q:VK):Prop
 |mk (a k xs:_) (_:x=.ref a) (_:y=.int k) (_:H a=some (.lst xs)) (_:xs≠[]) (_:0<=k) (_:k<=1000) (_:xs.length * k.toNat<=1000) (_:∀p,H p=none->Q (.ref p) (upd H p (.lst (List.replicate k.toNat xs).flatten)))
theorem zc6 {X:Cx}:OpR X (binaryOp .Mult) rRepL:=by
 intro pins s σ H x y v u Q I G J h;obtain⟨a,k,xs,rfl,rfl,ha,D,k0,k1,hz,q⟩:=h;cases G;obtain⟨t,rfl⟩:=J;obtain⟨_,its,n,r,j⟩:=I.hok a _ ha;have hl:=r.length;have ne:its.toArray.isEmpty=false:=by
  cases its with
  |nil=>exact absurd (by cases r;rfl) D
  |cons _ _=>rfl
 refine wpAny_binaryOp_repeat_ref (T := "list") (U := "int") (by decide) ⟨_,j,rfl⟩ (fun s'=>typeIs_int s' k t) noFill_list_mul F.fills_int_mul F.slot_int_rmul repeat_list F.slot_int_index.lookup
  (jI F.slot_int_rmul (typeIs_int s k t) F.entry_int_rmul (F.args_int_rmul_2 _ _) (int___rmul___int_list k t a its.toArray n)
   ⟨j,rfl,⟨_,j,rfl⟩,jI F.slot_list_mul ⟨_,j,rfl⟩ F.entry_list_mul (F.args_list_mul_2 _ _)
    (AutoListH.list___mul___list_int_3 a its.toArray n k t (by simp [Builtin.List.listFitsIndex];omega) (by rw [qA,←hl];omega) (by rw [qA,←hl];simp [Builtin.List.listTooLong,sizeLine];omega))
    ⟨j,?_⟩⟩)
 have f0:List.foldl (fun x1 x2=>x1++x2) #[] (List.replicate (if its.toArray.isEmpty=true then 0 else k.toNat) its.toArray)=(List.replicate k.toNat its).flatten.toArray:=by
  rw [ne,oA bB]
  have:=foldl_rep its k.toNat [];rw [uF] at this;exact this
 rw [f0];refine⟨.ref s.heap.objs.size,_,I.laid (t':=s.toks) (o:=.lst (List.replicate k.toNat xs).flatten) (fun b ob q=>iA _ q) (dA _) ?_,rfl,q _ (I.hok.fresh (dA _))⟩;exact⟨by rw [len_rep,wH,qE];omega,_,0,r.rep k.toNat,zB _ rfl⟩
end L2
namespace L2
open PySem PySem.Spec PyProof.Rows
section
variable {prog:Program} {w:World} {A:Around} {E:Value->Shared->Prop} {s:Shared}
end
section
variable {prog:Program} {w:World} {A:Around} {R:Result->Shared->Prop}
end
theorem Qz:∀{bs:List Bool} {us:List Value},Vals (bs.map V.bl) us->LSm.BoolsAre us bs
 | [],_,.nil=>.nil
 |b::bs,_,.cons r t=>by cases r;exact .cons b (Qz t)
inductive rAll (K:PySem.W.Frag) (xs:List V) (H:Hp) (Q:VK):Prop
 |mk (a:Addr) (bs:List Bool) (_:xs=[.ref a]) (_:SqL K H a (bs.map V.bl)) (_:Q (.bl (bs.all id)) H)
theorem Il {X:Cx} {K:PySem.W.Frag} (G:X.K=K) (J:X.calm=true):Ag X (.builtin "all") (rAll K):=by
 subst G;intro pins s σ H xs us Q I O h;obtain⟨l,bs,rfl,hl,q⟩:=h;obtain⟨u,rfl,S⟩:=vals1 O;cases S;obtain⟨vs,U,pl,hz⟩:=I.list hl;have hb:=Qz U;have j:=pl.isList;have D:l < s.heap.objs.size:=by obtain⟨_,e,_⟩:=j;exact kB e
 refine call_all_walk (wpAny_pyIter_list j ?_);refine⟨s.heap.objs.size,[s.heap.objs.size,l],[s.heap.objs.size],vs.toArray.size,_,_,fun i=>(bs[i]?).getD true,rfl,Walks.list (A:=X.A.in1) (I.ok.hd J) _ l (rC D) vs.toArray,
  ⟨⟨_,zB _ rfl,rfl,rfl⟩,j.push _⟩,fun i v s' Q' E' Y F=>?_,fun h' tk hk=>?_⟩
 ·obtain⟨b,e,rfl⟩:=hb.get i v (by simpa using Y);simp only [e,Option.getD_some] at F;exact zD F
 ·have e:((List.range vs.toArray.size).all fun i=>(bs[i]?).getD true)=bs.all id:=by
   rw [qA,hb.length];exact LSm.range_all bs
  rw [e];exact⟨.bl _,_,I.kept (t':=tk) (LSm.kept_iter hk),rfl,q⟩
theorem Jd:∀{ns:List Int} {us:List Value},Vals (ns.map V.int) us->IntsAre us ns
 | [],_,.nil=>.nil
 |n::ns,_,.cons r t=>by obtain⟨tk,rfl⟩:=r;exact .cons n tk (Jd t)
inductive rMaxL (K:PySem.W.Frag) (xs:List V) (H:Hp) (Q:VK):Prop
 |mk (a:Addr) (ns:List Int) (_:xs=[.ref a]) (_:SqL K H a (ns.map V.int)) (_:0 < ns.length) (_:∀M,M∈ns->(∀b,b∈ns->b<=M)->Q (.int M) H)
theorem qn1 {X:Cx} {K:PySem.W.Frag} (O:X.K=K) (S:X.calm=true):Ag X (.builtin "max") (rMaxL K):=by
 subst O;intro pins s σ H xs us Q I U h;obtain⟨l,ns,rfl,hl,F,q⟩:=h;obtain⟨u,rfl,Y⟩:=vals1 U;cases Y;obtain⟨vs,Z,pl,hz⟩:=I.list hl;have hi:=Jd Z;have G:=pl.isList;obtain⟨zs,e⟩:=hi.allInts.items;have D:ns=zs.toList.map (·.1):=by rw [←hi.numsOf,←nums_intItems,←e]
 have hsz:0 < zs.size:=by have J:=F;rw [D,aA,pB] at J;exact J
 rw [e] at G;refine max_intList (I.ok.hd S) G hsz fun v h' tk hv hk=>?_;obtain⟨t,rfl⟩:=intItems_at hv;obtain⟨h1,h2⟩:=argBest_gt (numAt zs) (zs.size - 1);refine⟨.int _,_,I.kept (t':=tk) hk,⟨t,rfl⟩,q _ ?_ fun a ha=>?_⟩
 ·rw [D,numAt_eq];exact getD_mem (by rw [aA,pB];omega)
 ·rw [D] at ha;obtain⟨j,hj,rfl⟩:=mem_getD ha;rw [aA,pB] at hj;rw [←numAt_eq];exact h2 j (by omega)
section
variable {prog:Program} {w:World} {A:Around} {s:Shared} {R:Result->Shared->Prop}
end
end L2
namespace SZ
structure Sn where
  f:Nat
  b:Nat
  n:Nat
noncomputable def own (s:Sn):Int:=(s.n:Int) - ((s.b:Int) - (s.f:Int) - 1)
noncomputable def seg (ns:List Int) (f b:Nat):List Int:=(ns.take b).drop f
noncomputable def Ak (s:Sn) (ns:List Int):Int:=(s.n:Int) - (seg ns s.f s.b).sum - ((s.b:Int) - (s.f:Int) - 1)
theorem qs9 (s:Sn) (ns:List Int):Ak s ns=own s - (seg ns s.f s.b).sum:=by unfold Ak own;omega
noncomputable def Ly (k:Nat) (s:Sn):Bool:=decide (s.b=k+1)
noncomputable def mx1 (l:List Int):Int:=l.foldl max 1
theorem Gn (l:List Int):∀a:Int,a<=l.foldl max a/\(∀x∈l,x<=l.foldl max a)/\(l.foldl max a=a\/l.foldl max a∈l):=by
 induction l with
 |nil=>intro a;exact⟨Int.le_refl _,fun x hx=>by simp at hx,.inl rfl⟩
 |cons y l ih=>
  intro a;obtain⟨h1,h2,j⟩:=ih (max a y);refine⟨by show a<=l.foldl max (max a y);omega,fun x hx=>?_,?_⟩
  ·rcases gB.mp hx with rfl |hx
   ·show x<=l.foldl max (max a x);omega
   ·exact h2 x hx
  ·rcases j with j |j
   ·by_cases e:a<=y
    ·exact .inr (by show l.foldl max (max a y)∈_;rw [j,Int.max_eq_right e];exact uA)
    ·exact .inl (by show l.foldl max (max a y)=a;rw [j];omega)
   ·exact .inr (vA _ j)
theorem zn6 {l:List Int} {M:Int} (h1:M∈1::l) (h2:∀b,b∈1::l->b<=M):M=mx1 l:=by
 obtain⟨g1,g2,g3⟩:=Gn l 1;have a:mx1 l<=M:=by
  unfold mx1;rcases g3 with g3 |g3
  ·rw [g3];exact h2 1 uA
  ·exact h2 _ (vA _ g3)
 have b:M<=mx1 l:=by
  unfold mx1;rcases gB.mp h1 with e |e
  ·rw [e];exact g1
  ·exact g2 _ e
 omega
noncomputable def Bv (ss:List Sn) (k:Nat) (ns:List Int):Int:=mx1 ((ss.filter (Ly k)).map fun s=>Ak s ns)
noncomputable def szL (ss:List Sn):Nat->List Int
 |0=>[]
 |k+1=>szL ss k++[Bv ss k (szL ss k)]
theorem Al (ss:List Sn):∀k,(szL ss k).length=k
 |0=>rfl
 |k+1=>by rw [szL,wA,Al ss k];rfl
theorem qm7 (ss:List Sn) (m:Nat):∀k,k<=m->(szL ss m).take k=szL ss k:=by
 induction m with
 |zero=>intro k hk;obtain rfl:k=0:=(by omega);rfl
 |succ m ih=>
  intro k hk;by_cases e:k=m+1
  ·subst e;exact uB (by rw [Al];omega)
  ·rw [szL,List.take_append_of_le_length (by rw [Al];omega)];exact ih k (by omega)
theorem zj3 (ss:List Sn) {m k:Nat} (h:k < m):(szL ss m)[k]? = some (Bv ss k (szL ss k)):=by
 have e:(szL ss m)[k]? = ((szL ss m).take (k+1))[k]?:=by rw [sC (by omega)]
 rw [e,qm7 ss m (k+1) (by omega),szL,kD (by rw [Al];omega),Al];simp
theorem next_ge (ss:List Sn) (k:Nat) (ns:List Int):1<=Bv ss k ns:=(Gn _ 1).1
theorem qc5 {ss:List Sn} {k:Nat} {ns:List Int} {s:Sn} (h:s∈ss) (e:s.b=k+1):Ak s ns<=Bv ss k ns:=
 (Gn _ 1).2.1 _ (xA.mpr ⟨s,jH.mpr ⟨h,eA e⟩,rfl⟩)
theorem qw7 (ss:List Sn) (k:Nat) (ns:List Int):Bv ss k ns=1\/∃s∈ss,s.b=k+1/\Ak s ns=Bv ss k ns:=by
 rcases (Gn ((ss.filter (Ly k)).map fun s=>Ak s ns) 1).2.2 with h |h
 ·exact .inl h
 ·obtain⟨s,hs,e⟩:=xA.mp h;obtain⟨h1,h2⟩:=jH.mp hs;exact .inr ⟨s,h1,lB h2,e⟩
theorem qv6 {ns:List Int} {f k:Nat} {x:Int} (hf:f<=k) (hx:ns[k]? = some x):(seg ns f (k+1)).sum=(seg (ns.take k) f (k+1)).sum+x:=by
 have hk:=(bA.mp hx).1;unfold seg;rw [rH,qD,hx];have e:(min (k+1) k)=k:=by omega
 rw [e,sG (by rw [cB];omega),jG];simp
theorem qo1 (ss:List Sn) {m:Nat} {s:Sn} (h1:s.f < s.b) (h2:s.b<=m):(seg (szL ss m) s.f s.b).sum=own s - Ak s (szL ss (s.b - 1))+Bv ss (s.b - 1) (szL ss (s.b - 1)):=by
 obtain⟨k,hk⟩:∃k,s.b=k+1:=⟨s.b - 1,by omega⟩
 have g:=zj3 ss (m:=m) (k:=k) (by omega);rw [qs9,hk,qv6 (by omega) g,qm7 ss m k (by omega),Nat.add_sub_cancel];omega
theorem room (ss:List Sn) {m:Nat} {s:Sn} (h:s∈ss) (h1:s.f < s.b) (h2:s.b<=m):own s<=(seg (szL ss m) s.f s.b).sum:=by
 rw [qo1 ss h1 h2]
 have:=qc5 (ss:=ss) (k:=s.b - 1) (ns:=szL ss (s.b - 1)) h (by omega);omega
noncomputable def endL (ss:List Sn) (k i:Nat):List Nat:=(List.range i).filter fun j=>match ss[j]? with
 |some s=>Ly k s
 |none=>false
theorem Aa {p:Nat->Bool} {i:Nat}:(List.range (i+1)).filter p=(List.range i).filter p++(if p i=true then [i] else []):=by
 rw [uD,List.filter_append];congr 1;by_cases h:p i=true
 ·rw [kA h];simp [h]
 ·rw [oA h];simp [h]
theorem zd6 {ss:List Sn} {k i j:Nat} {x:Nat} (h:(endL ss k i)[j]? = some x):x < i/\∃s,ss[x]? = some s/\s.b=k+1:=by
 obtain⟨h1,h2⟩:=jH.mp (jA h);refine⟨yD.mp h1,?_⟩;cases e:ss[x]? with
 |none=>rw [e] at h2;cases h2
 |some s=>rw [e] at h2;exact⟨s,rfl,lB h2⟩
theorem qf3 {ss:List Sn} {k i:Nat}:(endL ss k i).length<=i:=by have:=List.length_filter_le (fun j=>match ss[j]? with |some s=>Ly k s |none=>false) (List.range i);rw [mC] at this;exact this
theorem qs7 {ss:List Sn} {k:Nat}:(endL ss k ss.length).filterMap (fun j=>ss[j]?)=ss.filter (Ly k):=by
 suffices h:∀i,i<=ss.length->(endL ss k i).filterMap (fun j=>ss[j]?)=(ss.take i).filter (Ly k) by
  have:=h ss.length (dA _)
  rwa [pC] at this
 intro i;induction i with
 |zero=>intro _;simp [endL]
 |succ i ih=>
  intro hi;obtain⟨s,hs⟩:∃s,ss[i]? = some s:=⟨_,gA (by omega)⟩
  have e:endL ss k (i+1)=endL ss k i++(if Ly k s=true then [i] else []):=by unfold endL;rw [Aa];rw [hs]
  rw [e,List.filterMap_append,ih (by omega),qD,hs,List.filter_append];congr 1;by_cases h:Ly k s=true
  ·rw [kA h];simp [hs,h]
  ·rw [oA h];simp [h]
theorem ql2 {ss:List Sn} {k i:Nat} {ns:List Int} {x:Nat} {s:Sn} (h:(endL ss k ss.length)[i]? = some x) (hs:ss[x]? = some s) :
  (((endL ss k ss.length).take (i+1)).filterMap fun j=>(ss[j]?).map fun s=>Ak s ns)=(((endL ss k ss.length).take i).filterMap fun j=>(ss[j]?).map fun s=>Ak s ns)++[Ak s ns]:=by
 rw [qD,h,List.filterMap_append];congr 1;simp [hs]
theorem qg0 {ss:List Sn} {k:Nat} {ns:List Int}:((endL ss k ss.length).filterMap fun j=>(ss[j]?).map fun s=>Ak s ns)=(ss.filter (Ly k)).map fun s=>Ak s ns:=by rw [←qs7,List.map_filterMap]
theorem qf0 {ss:List Sn} {k i:Nat} {ns:List Int}:(((endL ss k ss.length).take i).filterMap fun j=>(ss[j]?).map fun s=>Ak s ns).length<=ss.length:=by
 refine aD (List.length_filterMap_le _ _) ?_;rw [cB]
 have:=qf3 (ss:=ss) (k:=k) (i:=ss.length);omega
end SZ
namespace L2
open PySem PySem.Spec PyProof.Rows
inductive rSumL (K:PySem.W.Frag) (xs:List V) (H:Hp) (Q:VK):Prop
 |mk (a:Addr) (ns:List Int) (_:xs=[.ref a]) (_:SqL K H a (ns.map V.int)) (_:Q (.int ns.sum) H)
theorem Uk {X:Cx} {K:PySem.W.Frag} (F:X.K=K) (G:X.calm=true):Ag X (.builtin "sum") (rSumL K):=by
 subst F;intro pins s σ H xs us Q I J h;obtain⟨l,ns,rfl,hl,q⟩:=h;obtain⟨u,rfl,O⟩:=vals1 J;cases O;obtain⟨vs,S,pl,hz⟩:=I.list hl;have hi:=Jd S;have D:=pl.isList;obtain⟨zs,e⟩:=hi.allInts.items;have j:ns=zs.toList.map (·.1):=by rw [←hi.numsOf,←nums_intItems,←e]
 have e2:preSum (numAt zs) zs.size=ns.sum:=by rw [preSum_eq,uB (by simp),j]
 rw [e] at D;refine sum_intListG (I.ok.hd G) D fun h' tk t' hk=>?_;rw [e2];exact⟨.int _,_,I.kept (t':=tk) hk,⟨t',rfl⟩,q⟩
theorem Tu {K:PySem.W.Frag} {a:Addr} {xs:List V} {g:TG} {tt:TT} {te:TE} {D:St} {H1:Hp} {acc:Addr} {Q:VK} (Pv:Nat->St->Hp->Prop) (h0:Pv 0 D (upd H1 acc (.lst [])))
  (hl:∀i σ H,i<=xs.length->Pv i σ H->SqL K H a xs)
  (hs:∀i x σ H t,xs[i]? = some x->Pv i σ H->H t=none->g (.ref t) σ (upd H t (.tup [.int (i:Int),x])) fun j H4=>tt j H4 fun b G=>
   if b=true then te j G fun z H6=>∃zs,H6 acc=some (.lst zs)/\zs.length < sizeLine/\Pv (i+1) j (upd H6 acc (.lst (zs++[z]))) else Pv (i+1) j G)
  (hd:∀σ H,Pv xs.length σ H->Q (.ref acc) H):Tq (Ite K a) g tt te acc D H1 Q:=by
 refine⟨fun i m σ H=>m=xs.length - i/\i<=xs.length/\Pv i σ H,⟨xs.length,by simp,yB _,h0⟩,?_⟩;rintro i m σ H ⟨rfl,hi,p⟩;have q:=hl i σ H hi p;by_cases F:i < xs.length
 ·refine .inr ⟨⟨xs,xs[i],q,by simp [F]⟩,Pv (i+1),fun σ' H' J=>⟨xs.length - (i+1),by omega,rfl,F,J⟩,fun x H' y=>?_⟩;obtain⟨t,z,O,e1,e2,y⟩:=y;subst e1 e2;exact hs i z σ H t (y xs q) p O
 ·have e:i=xs.length:=by omega
  subst e;exact .inl ⟨⟨xs,q,dA _⟩,hd σ H p⟩
theorem Ot (ys:List V) (f b:Nat):Ax ys (some (f:Int)) (some (b:Int))=(ys.take b).drop f:=by
 unfold Ax;rw [HT.sIx_nat,HT.sIx_nat,cG];by_cases h1:f<=ys.length
 ·rw [fH h1];by_cases h2:b<=ys.length
  ·rw [fH h2]
  ·rw [Nat.min_eq_right (by omega)];rw [uB (by rw [wC];omega),uB (by rw [wC];omega)]
 ·rw [Nat.min_eq_right (by omega:ys.length<=f),List.drop_length,oE (by omega)];simp
open SZ
noncomputable def Gp (s:Sn):Dd:=.tup [.int s.f,.int s.b,.int s.n]
noncomputable def Yo (ss:List Sn):Dd:=.lst (ss.map Gp)
theorem cut_ints (ns:List Int) (f b:Nat):Ax (ns.map V.int) (some (f:Int)) (some (b:Int))=(seg ns f b).map V.int:=by rw [Ot];unfold seg;rw [List.map_drop,List.map_take]
theorem Yw {H:Hp} {s:Sn} {v:V} (h:At H (Gp s) v):∃a,v=.ref a/\H a=some (.tup [.int s.f,.int s.b,.int s.n]):=by
 obtain⟨a,us,rfl,ha,j⟩:=h.tup_inv;refine⟨a,rfl,?_⟩;have e:us=[.int s.f,.int s.b,.int s.n]:=by
  cases j with
  |cons g1 j=>
   cases j with
   |cons g2 j=>
    cases j with
    |cons g3 j=>cases j;rw [g1.int_inv,g2.int_inv,g3.int_inv]
 rw [←e];exact ha
theorem qi1 {H:Hp} {ss:List Sn} {ys:List V} {i:Nat} {x:V} (r:AtL H (ss.map Gp) ys) (h:ys[i]? = some x):∃s,ss[i]? = some s/\At H (Gp s) x:=by obtain⟨d,hd,ad⟩:=yI r h;rw [fA] at hd;obtain⟨s,hs,rfl⟩:=qB.mp hd;exact⟨s,hs,ad⟩
theorem Z3 {H:Hp} {ss:List Sn} {ys:List V} {i:Nat} {s:Sn} (r:AtL H (ss.map Gp) ys) (h:ss[i]? = some s):∃x,ys[i]? = some x/\At H (Gp s) x:=by refine xI r ?_;rw [fA,h];rfl
end L2
namespace L2
open PySem PySem.Spec PyProof.Rows
theorem qb9 (a v:Value):argsOk "max" ⟨[a],[(Str.ofString "default",v)]⟩:=by unfold argsOk;kernel_rfl
section
variable {prog:Program} {w:World} {A:Around} {R:Result->Shared->Prop} {I:Addr} {fp wr:List Addr} {n:Nat} {P:Nat->Value->Prop} {St:Nat->Heap->Prop}
theorem Z2 (kw:List (Str×Value)) (W:Walks prog w A.in1 I fp wr n P St) (G:Nat->Nat->Bool) (J:CmpOf prog w A.in1 .Gt P G) (S:Addr) (O:S∉fp) :
  ∀(k j:Nat) (s:Shared) (F:Value) (c:Nat),n - (j+1)=k->j+1<=n->St (j+1) s.heap->P (argBest G j) F->s.heap.get? S=some { cls:=.type "list",dict:=none,data:=.seq #[F,F] c,slots:=#[]} ->
  (∀v h' tk,P (argBest G (n - 1)) v->(∀b o,b∉wr->b≠S->s.heap.get? b=some o->h'.get? b=some o)->R (.ok (.ret v)) { s with heap:=h',toks:=tk}) ->
  codeAny (model prog w) A (.builtin "max.loop" ⟨[.ref I,.none,.ref S],kw⟩) R s:=by
 have U:S∉wr:=fun z=>O (W.sub _ z);have nm:(toString "max" ++ toString ".loop" : String) = "max.loop" := by decide
 intro k;induction k with
 |zero=>
  intro j s F c e0 e1 st pb Y hR;have e2:j+1=n:=by omega
  refine codeAny_builtin yG ?_;rw [tH rD _];show wpAny _ A.in1 (seqItems? (.ref S) >>= _) _ _ s;refine cA (wpAny_seqItems Y rfl ?_);show wpAny _ A.in1 (tryCatch (pyNext (.ref I)) _ >>= _) _ _ s;refine cA (wpAny_tryCatch (W.done s _ _ (e2▸st) fun h' tk kp=>?_));have D:=kp S _ U Y;show wpAny _ A.in1 (updateSeq S (fun _=>#[]) >>= _) _ _ _;refine cA ?_;refine wpAny_updateSeq D rfl (cA (wpAny_letGo (eB ?_)));exact hR F _ tk (by rw [←e2];exact pb) fun b o q1 q2 e=>(dC _ _ (eE q2)).trans (kp b o q1 e)
 |succ k ih=>
  intro j s F c e0 e1 st pb Y hR;have lt:j+1 < n:=by omega
  refine codeAny_builtin yG ?_;rw [tH rD _];show wpAny _ A.in1 (seqItems? (.ref S) >>= _) _ _ s;refine cA (wpAny_seqItems Y rfl ?_);show wpAny _ A.in1 (tryCatch (pyNext (.ref I)) _ >>= _) _ _ s;refine cA (wpAny_tryCatch (W.item (j+1) s _ _ lt st fun v h' tk pv Z kp=>?_));have D:=kp S _ U Y;show wpAny _ A.in1 (tryCatch (holding [v,v] (richCompare .Gt v F >>= _)) _ >>= _) _ _ _;refine cA (wpAny_tryCatch (sD (cA (J (j+1) (argBest G j) v F _ _ _ pv pb ?_))));refine cA (sD (zD ?_));refine cA (wpAny_letGo (eB ?_));cases hb:G (j+1) (argBest G j) with
  |true=>
   simp only [yF];refine cA ?_;refine wpAny_updateSeq D rfl (cA (wpAny_letGo ?_));rw [nm];refine eB ⟨plainId_quiet rD _,ih (j+1) _ v _ (by omega) lt (W.frame _ _ _ Z fun b q o e=>?_) (by simp only [argBest,hb,yF];exact pv) (bD _ D rfl) fun v2 h2 t2 p2 kp2=>?_⟩
   ·exact (dC _ _ (fun z:S=b=>O (by rw [z];exact q))).trans e
   ·exact hR v2 h2 t2 p2 fun b o q1 q2 e=>kp2 b o q1 q2 ((dC _ _ (eE q2)).trans (kp b o q1 e))
  |false=>simp only [fC,yE];refine cA (wpAny_letGo ?_);rw [nm];refine eB ⟨plainId_quiet rD _,ih (j+1) _ F c (by omega) lt Z (by simp only [argBest,hb,fC,yE];exact pb) D fun v2 h2 t2 p2 kp2=>?_⟩;exact hR v2 h2 t2 p2 fun b o q1 q2 e=>kp2 b o q1 q2 (kp b o q1 e)
theorem qa1 (kw:List (Str×Value)) (W:Walks prog w A.in1 I fp wr n P St) (G:Nat->Nat->Bool) (D:CmpOf prog w A.in1 .Gt P G) (S:Addr) (j:S∉fp) (hn:0 < n) {s:Shared} {c:Nat} (J:St 0 s.heap)
  (Y:s.heap.get? S=some { cls:=.type "list",dict:=none,data:=.seq #[] c,slots:=#[]})
  (hR:∀v h' tk,P (argBest G (n - 1)) v->(∀b o,b∉wr->b≠S->s.heap.get? b=some o->h'.get? b=some o)->R (.ok (.ret v)) { s with heap:=h',toks:=tk}) :
  codeAny (model prog w) A (.builtin "max.loop" ⟨[.ref I,.none,.ref S],kw⟩) R s:=by
 have O:S∉wr:=fun z=>j (W.sub _ z);have nm:(toString "max" ++ toString ".loop" : String) = "max.loop" := by decide
 refine codeAny_builtin yG ?_;rw [tH rD _];show wpAny _ A.in1 (seqItems? (.ref S) >>= _) _ _ s;refine cA (wpAny_seqItems Y rfl ?_);show wpAny _ A.in1 (tryCatch (pyNext (.ref I)) _ >>= _) _ _ s;refine cA (wpAny_tryCatch (W.item 0 s _ _ hn J fun v h' tk pv U kp=>?_));have F:=kp S _ O Y;show wpAny _ A.in1 (updateSeq S (fun _=>#[v,v]) >>= _) _ _ _;refine cA ?_;refine wpAny_updateSeq F rfl ?_;rw [nm];refine eB ⟨plainId_quiet rD _,Z2 kw W G D S j _ 0 _ v _ rfl hn (W.frame _ _ _ U fun b q o e=>?_) pv (bD _ F rfl) fun v2 h2 t2 p2 kp2=>?_⟩
 ·exact (dC _ _ (fun z:S=b=>j (by rw [z];exact q))).trans e
 ·exact hR v2 h2 t2 p2 fun b o q1 q2 e=>kp2 b o q1 q2 ((dC _ _ (eE q2)).trans (kp b o q1 e))
theorem ql5 (W:Walks prog w A.in1 I fp wr 0 P St) (S:Addr) (hSf:S∉fp) {s:Shared} {c:Nat} {y:Str} {D:Value} (j:St 0 s.heap)
  (F:s.heap.get? S=some { cls:=.type "list",dict:=none,data:=.seq #[] c,slots:=#[]})
  (hR:∀h' tk,(∀b o,b∉wr->s.heap.get? b=some o->h'.get? b=some o)->R (.ok (.ret D)) { s with heap:=h',toks:=tk}) :
  codeAny (model prog w) A (.builtin "max.loop" ⟨[.ref I,.none,.ref S],[(y,D)]⟩) R s:=by
 refine codeAny_builtin yG ?_;rw [tH rD _];show wpAny _ A.in1 (seqItems? (.ref S) >>= _) _ _ s;refine cA (wpAny_seqItems F rfl ?_);show wpAny _ A.in1 (tryCatch (pyNext (.ref I)) _ >>= _) _ _ s;refine cA (wpAny_tryCatch (W.done s _ _ j fun h' tk kp=>?_))
 wp_walk
 exact hR h' tk kp
end
section
variable {prog:Program} {w:World} {A:Around} {E:Value->Shared->Prop} {s:Shared} {l:Addr} {xs:Array (Int×Tok)}
theorem qh9 {Q:Value->Shared->Prop} {D:Value} (Y:A.handled=none) (hl:s.heap.IsList l (intItems xs))
  (h0:xs.size=0->∀h' tk,(∀b o,s.heap.get? b=some o->h'.get? b=some o)->Q D { s with heap:=h',toks:=tk})
  (h1:0 < xs.size->∀v h' tk,(intItems xs)[argBest (fun i j=>decide (numAt xs i > numAt xs j)) (xs.size - 1)]? = some v->(∀b o,s.heap.get? b=some o->h'.get? b=some o)->Q v { s with heap:=h',toks:=tk}) :
  wpAny (model prog w) A (call (.builtin "max") [.ref l] [(Str.ofString "default",D)]) Q E s:=by
 have nm:(toString "max" ++ toString ".loop" : String) = "max.loop" := by decide
 refine kmk_tree PySem.F.kind_max PySem.F.plain_max PySem.F.entry_max (qb9 _ _) ?_;show wpAny _ A.in1 (Builtin.Builtins.bindParams "max" ["key", "default"] 0 ⟨[],[(Str.ofString "default",D)]⟩ >>= _) _ _ s;refine cA (wpAny_of_eq (show Builtin.Builtins.bindParams "max" ["key", "default"] 0 ⟨[],[(Str.ofString "default",D)]⟩=pure [none,some D] from rfl) ?_);refine cA (eB ?_);refine cA (iter_intList hl fun s₂ e st J O=>?_);subst e;refine cA (wpAny_newList ?_ (yB _));rw [nm];have W:=Walks.list (prog:=prog) (w:=w) (A:=A.in1) Y s.heap.objs.size l O (intItems xs);have sz:(s.heap.push { cls:=.type "list_iterator",data:=.fields #[.ref l,.int 0 0]}).objs.size=s.heap.objs.size+1:=Heap.size_push ..;have G:(s.heap.push { cls:=.type "list_iterator",data:=.fields #[.ref l,.int 0 0]}).objs.size∉[s.heap.objs.size,l]:=fun hm=>nG _ (J _ hm);by_cases U:xs.size=0
 ·have Z:(intItems xs).size=0:=by simpa [intItems] using U
  have S:=W;rw [Z] at S;refine eB ⟨plainId_quiet rD _,ql5 S _ G (S.frame _ _ _ st fun b _ o e=>iA _ e) (zB _ rfl) fun h' tk kp=>?_⟩;exact h0 U h' tk (old_kept fun b o q e=>kp b o q (iA _ e))
 ·have hn:0 < (intItems xs).size:=by
   have:(intItems xs).size=xs.size:=by simp [intItems]
   omega
  refine eB ⟨plainId_quiet rD _,qa1 _ W _ (CmpOf.ints_gt (numAt xs) (fun _ _=>intItems_at)) _ G hn (W.frame _ _ _ st fun b _ o e=>iA _ e) (zB _ rfl) fun v h' tk pv kp=>?_⟩;refine h1 (by omega) v h' tk (by simpa [intItems] using pv) (old_kept fun b o q e=>kp b o q (rC (kB e)) (iA _ e))
end
noncomputable def zs4 (d:Int) (ns:List Int) (M:Int):Prop:=(ns=[]/\M=d)\/(M∈ns/\∀b,b∈ns->b<=M)
theorem qk2 {X:Cx} (J:X.calm=true) {pins:List (Addr×Obj)} {σ:St} {H:Hp} {s:Shared} {vs:List V} {us:List Value} {d:Int} {u:Value} {Q:VK} (I:Inv X pins σ H s) (O:Vals vs us) (S:RelV (.int d) u)
  (h:∃(a:Addr) (ns:List Int),vs=[.ref a]/\SqL X.K H a (ns.map V.int)/\∀M,zs4 d ns M->Q (.int M) H) :
  wpAny (model X.prog X.w) X.A (call (.builtin "max") us [(Str.ofString "default",u)]) (EP X pins σ Q) X.xe s:=by
 obtain⟨l,ns,rfl,hl,F⟩:=h;have q0:ns=[]->Q (.int d) H:=fun e=>F d (.inl ⟨e,rfl⟩);have q1:ns≠[]->∀M,M∈ns->(∀b,b∈ns->b<=M)->Q (.int M) H:=fun _ M h1 h2=>F M (.inr ⟨h1,h2⟩);obtain⟨u1,rfl,U⟩:=vals1 O;cases U;obtain⟨td,rfl⟩:=S;obtain⟨its,Y,pl,hz⟩:=I.list hl;have hi:=Jd Y;have G:=pl.isList;obtain⟨zs,e⟩:=hi.allInts.items;have D:ns=zs.toList.map (·.1):=by rw [←hi.numsOf,←nums_intItems,←e]
 have hsz:ns.length=zs.size:=by rw [D,aA,pB]
 rw [e] at G;refine qh9 (I.ok.hd J) G (fun z h' tk hk=>?_) fun z v h' tk Z hk=>?_
 ·exact⟨.int d,_,I.kept (t':=tk) hk,⟨td,rfl⟩,q0 (pF (by omega))⟩
 ·obtain⟨t,rfl⟩:=intItems_at Z;obtain⟨g1,g2⟩:=argBest_gt (numAt zs) (zs.size - 1);refine⟨.int _,_,I.kept (t':=tk) hk,⟨t,rfl⟩,q1 (fun w=>by rw [w] at hsz;simp at hsz;omega) _ ?_ fun a ha=>?_⟩
  ·rw [D,numAt_eq];exact getD_mem (by rw [aA,pB];omega)
  ·rw [D] at ha;obtain⟨j,hj,rfl⟩:=mem_getD ha;rw [aA,pB] at hj;rw [←numAt_eq];exact g2 j (by omega)
noncomputable def zt1 (K:PySem.W.Frag) (d:Int) (t:TA):TE:=fun σ H Q=>t σ H fun vs H1=>∃(a:Addr) (ns:List Int),vs=[.ref a]/\SqL K H1 a (ns.map V.int)/\∀M,zs4 d ns M->Q (.int M) H1
theorem zf2 {X:Cx} {K:PySem.W.Frag} (D:X.K=K) (F:X.calm=true) {e:Expr} {t:TA} {d:Int} {j:Nat} {p kp kpos pos:Pos} (G:Gl X "max") (hm:X.mg "max" = none) (ha:PA X [e] t)
  (he:backTo pos (starEach [e] X.env)=(false,eval e X.env)::backTo pos (starEach [] X.env):=by rfl) (hpl:(backTo pos (starEach [e] X.env)).any (·.1)=false:=by rfl) :
  PE X (.Call (.Name "max" p) [e] [⟨some "default",.Constant (.int d) j kp,kpos⟩] pos) (zt1 K d t):=by
 subst D;intro pins s σ H Q I h;refine wG (G8 I G hm PyProof.Rows.boot_max ?_);refine PyProof.Rows.callWith_kw (thn (ha pos pins s σ H _ I h) fun us s1 ⟨vs,H1,J,O,q1⟩=>?_) he hpl;refine PyProof.Rows.kws_cons (thn (qg (X:=X) pins s1 σ H1 (fun v H2=>v=.int d/\H2=H1) J ⟨rfl,rfl⟩) fun u s2 ⟨v,H2,S,U,e1,e2⟩=>PyProof.Rows.kws_nil ?_);subst e1 e2;exact qk2 F S O U q1
inductive rSplit (x:V) (vs:List V) (H:Hp) (Q:VK):Prop
 |mk (z sep:Str) (_:x=.str z) (_:vs=[.str sep]) (_:(sep.length == 0)=false) (_:z.length<=sizeLine) (_:(Txt.split z sep).length<=sizeLine) (_:(Builtin.Str.partsBetween z (Builtin.Str.occurrences z sep 0 z.length (z.length+1)) sep.length).length<=sizeLine) (_:∀l,H l=none->Q (.ref l) (upd H l (.lst ((Txt.split z sep).map V.str))))
theorem Jr:∀(l:List (Str×Tok)),Vals ((l.map (·.1)).map V.str) (strValues l)
 | []=>.nil
 |(x,t)::l=>.cons ⟨t,rfl⟩ (Jr l)
theorem Nf {X:Cx}:MtM X "str.split" rSplit:=by
 intro pins s σ H x vs v us Q I F G h;obtain⟨z,sep,rfl,rfl,D,hx,hn,hp,q⟩:=h;obtain⟨t,rfl⟩:=F;obtain⟨u,rfl,J⟩:=G.one;obtain⟨j,rfl⟩:=J;have fin:∀(l:List (Str×Tok)) (tk:Nat),l.map (·.1)=Txt.split z sep->EP X pins σ Q (.ref s.heap.objs.size) { s with toks:=tk,heap:=s.heap.push { cls:=.type "list",data:=.seq (strValues l).toArray}}:=fun l tk e=>by
  refine⟨.ref _,_,I.laid (t':=tk) (o:=.lst ((Txt.split z sep).map V.str)) (fun b o e=>iA _ e) (dA _) ⟨?_,strValues l,0,?_,zB _ rfl⟩,rfl,q _ (I.hok.fresh (dA _))⟩
  ·rw [aA];exact hn
  ·rw [←e];exact Jr l
 cases h1:(decide (z.length < sep.length) ||decide (Builtin.Str.strKind z < Builtin.Str.strKind sep)) with
 |true=>exact jI pE (iI _ _ _) qI (aI _ _) (meets_str_split_cannot_occur z sep t j h1) (fin [(z,t)] _ (kA h1).symm)
 |false=>
  cases hf:(Builtin.Str.occurrences z sep 0 z.length (z.length+1)).isEmpty with
  |true=>exact jI pE (iI _ _ _) qI (aI _ _) (meets_str_split_not_found z sep t j h1 D hf) (fin [(z,t)] _ ((oA (yH h1)).trans (kA hf)).symm)
  |false=>refine jI pE (iI _ _ _) qI (aI _ _) (meets_str_split_sep z sep t j h1 D hf hx hp) ?_;show EP X pins σ Q _ { s with toks:=_,heap:=s.heap.push { cls:=.type "list",data:=.seq (strsFrom s.toks (Builtin.Str.partsBetween z (Builtin.Str.occurrences z sep 0 z.length (z.length+1)) sep.length)).toArray}};rw [strsFrom_eq];exact fin (numbered s.toks _) _ ((numbered_texts _ _).trans ((oA (yH h1)).trans (oA (yH hf))).symm)
end L2
namespace GT
open PySem L2 PySem.StrLaws
noncomputable def T7 (c:Nat):List Nat->Nat->List Nat
 | [],_=>[]
 |a::l,k=>if a=c then k::T7 c l (k+1) else T7 c l (k+1)
noncomputable def yd (c:Nat):List Nat->List (List Nat)
 | []=>[[]]
 |a::l=>if a=c then []::yd c l else match yd c l with
  | []=>[[a]]
  |h::t=>(a::h)::t
noncomputable def pieces (x:List Nat):Nat->List Nat->List (List Nat)
 |s,[]=>[x.drop s]
 |s,k::r=>((x.take k).drop s)::pieces x (k+1) r
theorem wk (c:Nat):∀l,∃h t,yd c l=h::t
 | []=>⟨_,_,rfl⟩
 |a::l=>by
  obtain⟨h,t,e⟩:=wk c l;unfold yd;by_cases z:a=c
  ·rw [kA z];exact⟨_,_,rfl⟩
  ·rw [oA z,e];exact⟨_,_,rfl⟩
theorem Ay (c:Nat) (x:List Nat):∀(l pre mid h:List Nat) (t:List (List Nat)),x=pre++mid++l->yd c l=h::t->pieces x pre.length (T7 c l (pre.length+mid.length))=(mid++h)::t
 | [],pre,mid,h,t,e,es=>by
  have es:[[]]=h::t:=es;injection es with e1 e2;subst e1 e2;show [x.drop pre.length]=[mid++[]]
  rw [e,xC,xC,List.drop_left]
 |a::l,pre,mid,h,t,e,es=>by
  unfold T7;unfold yd at es;obtain⟨h2,t2,e2⟩:=wk c l;by_cases z:a=c
  ·rw [kA z] at es ⊢;injection es with e1 e3;subst e1;show ((x.take (pre.length+mid.length)).drop pre.length)::pieces x (pre.length+mid.length+1) _=_;have ih:=Ay c x l (pre++mid++[a]) [] h2 t2 (by rw [e];simp) e2;rw [wA,wA,jE,nE,Nat.add_zero] at ih;rw [ih,←e3,e2,uF,xC];congr 1;rw [e,List.take_append_of_le_length (by rw [wA];omega),uB (by rw [wA];omega),List.drop_left]
  ·rw [oA z] at es ⊢;rw [e2] at es;injection es with e1 e3;have ih:=Ay c x l pre (mid++[a]) h2 t2 (by rw [e];simp) e2;rw [wA,jE,←Nat.add_assoc] at ih;rw [ih,←e1,e3,iB];rfl
theorem Qh (x:Str) (c:Nat):∀(l:List Nat) (a:Nat) (st:Array Nat×Nat),x.cps.toList.drop a=l->st.snd<=a->st.fst.size<=a ->
  (forIn (List.range' a (l.length+1)) st (occBody x ⟨#[c]⟩ x.length (x.length+1))).run.fst.toList=st.fst.toList++T7 c l a
 | [],a,st,e,h1,h2=>by
  have hn:¬(x.cps.toList[a]? = some c):=fun z=>by
   have:=(bA.mp z).1
   have:=vD List.length e;rw [wC,nE] at this;omega
  rw [nE,List.range'_succ,List.forIn_cons];unfold occBody;rw [oA (fun z=>hn ((subAt_one x c a).mp ⟨z.1.2,z.2⟩))];show st.fst.toList=st.fst.toList++[]
  rw [xC]
 |b::l,a,st,e,h1,h2=>by
  have hl:a < x.cps.toList.length:=by have:=vD List.length e;rw [wC,fB] at this;omega
  have hb:x.cps.toList[a]? = some b:=by
   have:(x.cps.toList.drop a)[0]? = some b:=by rw [e];rfl
   rwa [cE,Nat.add_zero] at this
  have j:x.cps.toList.drop (a+1)=l:=by have:=vD (List.drop 1) e;rw [List.drop_drop] at this;exact this
  have xl:x.length=x.cps.toList.length:=by simp [Str.length]
  rw [fB,List.range'_succ,List.forIn_cons];unfold occBody T7;by_cases z:b=c
  ·have hs:=(subAt_one x c a).mpr (by rw [hb,z]);rw [kA ⟨⟨⟨by omega,h1⟩,hs.1⟩,hs.2⟩,kA z];have ih:=Qh x c l (a+1) (st.fst.push a,a+(⟨#[c]⟩:Str).length) j (dA _) (by show (st.fst.push a).size<=a+1;rw [Array.size_push];omega);refine Eq.trans ih ?_;rw [wB,iB];rfl
  ·rw [oA (fun q=>z (by have:=(subAt_one x c a).mp ⟨q.1.2,q.2⟩;rw [hb] at this;exact nB this)),oA z];exact Qh x c l (a+1) (st.fst,st.snd) j (by show st.snd<=a+1;omega) (by show st.fst.size<=a+1;omega)
theorem qh5 (x:Str) (c:Nat):Builtin.Str.occurrences x ⟨#[c]⟩ 0 x.length (x.length+1)=T7 c x.cps.toList 0:=by
 have j:x.length=x.cps.toList.length:=by simp [Str.length]
 rw [occ_eq]
 have:=Qh x c x.cps.toList 0 (#[],0) rfl (dA _) (dA _);rw [←j] at this;exact this
theorem Gz (x:Str):∀(D:List Nat) (s:Nat),(∀k∈D,k<=x.length)->(((s::D.map (·+1)).zip (D++[x.length])).map fun (i,j)=>(Builtin.Str.strSub x i j).cps.toList)=pieces x.cps.toList s D
 | [],s,_=>by
  show [((x.cps.extract s x.length).toList)]=[x.cps.toList.drop s]
  rw [oF];simp [List.extract,Str.length];rw [uB (by rw [wC];simp)]
 |k::r,s,h=>by
  show (x.cps.extract s k).toList::_=((x.cps.toList.take k).drop s)::_;rw [oF];congr 1
  ·simp only [List.extract];rw [cG]
  ·exact Gz x r (k+1) fun y F=>h y (vA _ F)
theorem Wv (c:Nat):∀(l:List Nat) (k y:Nat),y∈T7 c l k->k<=y/\y < k+l.length
 | [],k,y,h=>by simp [T7] at h
 |a::l,k,y,h=>by
  unfold T7 at h;rw [fB];by_cases z:a=c
  ·rw [kA z] at h;rcases gB.mp h with rfl |h
   ·omega
   ·have:=Wv c l (k+1) y h;omega
  ·rw [oA z] at h
   have:=Wv c l (k+1) y h;omega
theorem Yz {c:Nat}:∀{l:List Nat} {k:Nat},T7 c l k=[]->yd c l=[l]
 | [],_,_=>rfl
 |a::l,k,h=>by
  unfold T7 at h;by_cases z:a=c
  ·rw [kA z] at h;cases h
  ·rw [oA z] at h;unfold yd;rw [oA z,Yz h]
theorem qr5 (x:Str):1<=Builtin.Str.strKind x:=by
 unfold Builtin.Str.strKind;split
 ·omega
 ·split<;>omega
theorem Ar (x:Str) {c:Nat} (j:c < 256):(Txt.split x ⟨#[c]⟩).map (fun y=>y.cps.toList)=yd c x.cps.toList:=by
 have xl:x.length=x.cps.toList.length:=by simp [Str.length]
 have k1:Builtin.Str.strKind ⟨#[c]⟩=1:=by unfold Builtin.Str.strKind;rw [kA (by simp [j])]
 unfold Txt.split;by_cases h1:(decide (x.length < (⟨#[c]⟩:Str).length) ||decide (Builtin.Str.strKind x < Builtin.Str.strKind ⟨#[c]⟩))=true
 ·rw [kA h1]
  have:x.length < 1:=by
   rcases Bool.or_eq_true _ _▸h1 with z |z
   ·exact lB z
   ·have:=lB z;rw [k1] at this
    have:=qr5 x;omega
  have e:x.cps.toList=[]:=pF (by omega);show [x.cps.toList]=_;rw [e];rfl
 ·rw [oA h1,qh5];by_cases h2:(T7 c x.cps.toList 0).isEmpty=true
  ·rw [kA h2];show [x.cps.toList]=_;rw [Yz (List.isEmpty_iff.mp h2)]
  ·rw [oA h2];obtain⟨h,t,e⟩:=wk c x.cps.toList;have p:=Ay c x.cps.toList x.cps.toList [] [] h t rfl e;rw [e,←uF h,←p];have q:=Gz x (T7 c x.cps.toList 0) 0 fun y D=>by have:=Wv c _ _ y D;omega
   show _=pieces x.cps.toList 0 (T7 c x.cps.toList 0);rw [←q];unfold Builtin.Str.partsBetween;rw [gD];rfl
theorem Dh {c:Nat}:∀{w:List Nat} {l:List Nat} {h:List Nat} {t:List (List Nat)},c∉w->yd c l=h::t->yd c (w++l)=(w++h)::t
 | [],l,h,t,_,e=>e
 |a::w,l,h,t,n,e=>by have ih:=Dh (w:=w) (fun z=>n (vA _ z)) e;rw [jF];unfold yd;rw [oA (fun z=>n (by rw [z];exact uA)),ih];rfl
noncomputable def xg (c:Nat):List (List Nat)->List Nat
 | []=>[]
 | [w]=>w
 |w::v::r=>w++c::xg c (v::r)
theorem G5 {c:Nat}:∀{ws:List (List Nat)},ws≠[]->(∀w∈ws,c∉w)->yd c (xg c ws)=ws
 | [],h,_=>absurd rfl h
 | [w],_,n=>by have:=Dh (l:=[]) (h:=[]) (t:=[]) (n w uA) rfl;rw [xC] at this;exact this
 |w::v::r,_,n=>by
  have ih:=G5 (ws:=v::r) (by simp) fun y j=>n y (vA _ j);have e:yd c (c::xg c (v::r))=[]::v::r:=by show (if c=c then _ else _)=_;rw [kA rfl,ih]
  have:=Dh (n w uA) e;rw [xC] at this;exact this
theorem Jv (c:Nat):∀(r:List Str) (w:List Nat) (acc:Array Nat),acc.toList=w->(r.foldl (fun acc p=>acc++(#[c]:Array Nat)++p.cps) acc).toList=w++(r.map fun p=>c::p.cps.toList).flatten
 | [],w,acc,e=>by simp [e]
 |p::r,w,acc,e=>by rw [zC,Jv c r (w++c::p.cps.toList) _ (by simp [e])];simp
theorem Mq (c:Nat):∀(w:List Nat) (r:List (List Nat)),xg c (w::r)=w++(r.map fun p=>c::p).flatten
 |w,[]=>by simp [xg]
 |w,v::r=>by show w++c::xg c (v::r)=_;rw [Mq c v r];simp
theorem ue (c:Nat) (ws:List Str):(Av ⟨#[c]⟩ ws).cps.toList=xg c (ws.map fun w=>w.cps.toList):=by
 cases ws with
 |nil=>rfl
 |cons w r=>show ((r.foldl (fun acc p=>acc++(#[c]:Array Nat)++p.cps) w.cps).toList)=_;rw [Jv c r _ _ rfl,aC,Mq,gD];rfl
theorem str_ext {x y:Str} (h:x.cps.toList=y.cps.toList):x=y:=by cases x;cases y;congr 1;exact Array.toList_inj.mp h
theorem Zh {c:Nat} (j:c < 256) {ws:List Str} (ne:ws≠[]) (h:∀w∈ws,c∉w.cps.toList):Txt.split (Av ⟨#[c]⟩ ws) ⟨#[c]⟩=ws:=by
 have e:=Ar (Av ⟨#[c]⟩ ws) j;rw [ue,G5 (by simpa using ne) (fun w hw=>by obtain⟨v,D,rfl⟩:=xA.mp hw;exact h v D)] at e;have inj:∀{a b:List Str},a.map (fun y=>y.cps.toList)=b.map (fun y=>y.cps.toList)->a=b:=by
  intro a;induction a with
  |nil=>intro b z;cases b with
   |nil=>rfl
   |cons _ _=>cases z
  |cons p a ih=>intro b z;cases b with
   |nil=>cases z
   |cons q b=>injection z with z1 z2;rw [str_ext z1,ih z2]
 exact inj e
end GT
namespace GT
open PySem L2
noncomputable def sp1:Str:=⟨#[32]⟩
noncomputable def v6 (g:List Str):Str:=Av sp1 g
noncomputable def xx (W:Nat):List Str->List Str->List (List Str)
 |cur,[]=>if cur=[] then [] else [cur]
 |cur,w::r=>if cur=[] then xx W [w] r else if (v6 cur).length+1+w.length<=W then xx W (cur++[w]) r else cur::xx W [w] r
theorem uv (W:Nat):∀(r cur:List Str),(xx W cur r).flatten=cur++r
 | [],cur=>by
  unfold xx;by_cases h:cur=[]
  ·rw [kA h,h];rfl
  ·rw [oA h];simp
 |w::r,cur=>by
  unfold xx;by_cases h:cur=[]
  ·rw [kA h,uv W r [w],h];rfl
  ·rw [oA h];by_cases k:(v6 cur).length+1+w.length<=W
   ·rw [kA k,uv W r (cur++[w])];simp
   ·rw [oA k,jD,uv W r [w]];simp
theorem Qd (W:Nat):∀(r cur:List Str),∀g∈xx W cur r,g≠[]
 | [],cur,g,j=>by
  unfold xx at j;by_cases h:cur=[]
  ·rw [kA h] at j;simp at j
  ·rw [oA h] at j;rw [lF.mp j];exact h
 |w::r,cur,g,j=>by
  unfold xx at j;by_cases h:cur=[]
  ·rw [kA h] at j;exact Qd W r [w] g j
  ·rw [oA h] at j;by_cases k:(v6 cur).length+1+w.length<=W
   ·rw [kA k] at j;exact Qd W r (cur++[w]) g j
   ·rw [oA k] at j;rcases gB.mp j with rfl |j
    ·exact h
    ·exact Qd W r [w] g j
theorem Ju (g:List Str):(v6 g).length=(g.map (·.length)).sum+(g.length - 1):=by have:=size_glued sp1 g;have e:sp1.length=1:=rfl;rw [e,Nat.mul_one] at this;exact this
theorem qq1 {g:List Str} (h:g≠[]) (w:Str):(v6 (g++[w])).length=(v6 g).length+1+w.length:=by have:=qG.mpr h;rw [Ju,Ju,lA,jG,wA];simp;omega
theorem qi9 (w:Str):(v6 [w]).length=w.length:=by rw [Ju];simp
theorem Dy (W:Nat):∀(r cur:List Str),(∀w∈r,w.length<=W)->(cur≠[]->(v6 cur).length<=W)->∀g∈xx W cur r,(v6 g).length<=W
 | [],cur,_,F,g,j=>by
  unfold xx at j;by_cases h:cur=[]
  ·rw [kA h] at j;simp at j
  ·rw [oA h] at j;rw [lF.mp j];exact F h
 |w::r,cur,hw,F,g,j=>by
  have D:=hw w uA;have G:∀v∈r,v.length<=W:=fun v J=>hw v (vA _ J);unfold xx at j;by_cases h:cur=[]
  ·rw [kA h] at j;exact Dy W r [w] G (fun _=>by rw [qi9];exact D) g j
  ·rw [oA h] at j;by_cases k:(v6 cur).length+1+w.length<=W
   ·rw [kA k] at j;exact Dy W r (cur++[w]) G (fun _=>by rw [qq1 h];exact k) g j
   ·rw [oA k] at j;rcases gB.mp j with rfl |j
    ·exact F h
    ·exact Dy W r [w] G (fun _=>by rw [qi9];exact D) g j
structure Cell where
  top:Nat
  left:Nat
  h:Nat
  w:Nat
  words:List Str
noncomputable def signs:Str := "abcdefghijklmnopqrstuvwxyz0123456789"
structure WordOk (x:Str):Prop where
  lo:1<=x.length
  hi:x.length<=12
  all:∀c∈x.cps.toList,c∈signs.cps.toList
structure WordsOk (ws:List Str):Prop where
  few:ws.length<=12
  each:∀x∈ws,WordOk x
noncomputable def Yg (ws:List Str):Dd:=.tup (ws.map Dd.str)
noncomputable def Cell.D (x:Cell):Dd:=.tup [.int x.top,.int x.left,.int x.h,.int x.w,Yg x.words]
noncomputable def O9 (R C:Nat) (cs:List Cell):Dd:=.tup [.int R,.int C,.lst (cs.map Cell.D)]
noncomputable def inC (x:Cell) (r c:Nat):Prop:=x.top<=r/\r < x.top+x.h/\x.left<=c/\c < x.left+x.w
structure Fit (R C:Nat) (x:Cell):Prop where
  h1:1<=x.h
  w1:1<=x.w
  down:x.top+x.h<=R
  across:x.left+x.w<=C
  words:WordsOk x.words
noncomputable def Apart (x y:Cell):Prop:=∀r c,inC x r c->¬inC y r c
theorem Apart.symm {x y:Cell} (h:Apart x y):Apart y x:=fun r c a b=>h r c b a
noncomputable def cov (cs:List Cell) (r c:Nat):Prop:=∃x∈cs,inC x r c
noncomputable def uf (x y:Cell):Prop:=x.top < y.top\/(x.top=y.top/\x.left < y.left)
structure Part (R C:Nat) (cs:List Cell):Prop where
  fit:∀x∈cs,Fit R C x
  dis:cs.Pairwise Apart
structure Tiles (R C:Nat) (cs:List Cell):Prop extends Part R C cs where
  all:∀r c,r < R->c < C->cov cs r c
  ord:cs.Pairwise uf
theorem Part.nil (R C:Nat):Part R C []:=⟨fun _ hx=>by simp at hx,.nil⟩
theorem Part.snoc {R C:Nat} {cs:List Cell} {x:Cell} (p:Part R C cs) (f:Fit R C x) (d:∀r c,inC x r c->¬cov cs r c):Part R C (cs++[x]) where
  fit:=fun y j=>(rB.mp j).elim (p.fit y) fun z=>by
    have:y=x:=by simpa using z
    rw [this];exact f
  dis:=zE.mpr ⟨p.dis,pI _ _,fun y j z D r c h1 h2=>by
    have:z=x:=by simpa using D
    rw [this] at h2;exact d r c h2 ⟨y,j,h1⟩⟩
theorem Ip {cs:List Cell} {x:Cell} {r c:Nat}:cov (cs++[x]) r c↔cov cs r c\/inC x r c:=by
 constructor
 ·rintro⟨y,j,h⟩;rcases rB.mp j with j |j
  ·exact .inl ⟨y,j,h⟩
  ·have:y=x:=by simpa using j
   rw [this] at h;exact .inr h
 ·rintro (⟨y,j,h⟩ |h)
  ·exact⟨y,vE _ j,h⟩
  ·exact⟨x,uC _ (by simp),h⟩
theorem qu2 {cs j:List Cell} (p:j.Perm cs) {r c:Nat} (h:cov cs r c):cov j r c:=by obtain⟨x,hx,i⟩:=h;exact⟨x,p.mem_iff.mpr hx,i⟩
theorem Part.perm {R C:Nat} {cs j:List Cell} (p:Part R C cs) (q:j.Perm cs):Part R C j where
  fit:=fun x hx=>p.fit x (q.mem_iff.mp hx)
  dis:=(q.pairwise_iff fun {x y} h=>Apart.symm h).mpr p.dis
noncomputable def key (x:Cell):Int×Int:=((x.top:Int),(x.left:Int))
theorem Part.keys {R C:Nat} {cs:List Cell} (p:Part R C cs):(cs.map key).Nodup:=by refine oH _ (R:=fun x y=>Fit R C x/\Fit R C y/\Apart x y) (fun x y z e=>?_) (p.dis.imp_of_mem fun {x y} hx j z=>⟨p.fit x hx,p.fit y j,z⟩);obtain⟨f,g,a⟩:=z;unfold key at e;have e1:(x.top:Int)=y.top:=vD Prod.fst e;have e2:(x.left:Int)=y.left:=vD Prod.snd e;have h1:=f.h1;have h2:=f.w1;have h3:=g.h1;have h4:=g.w1;exact a x.top x.left ⟨by omega,by omega,by omega,by omega⟩ ⟨by omega,by omega,by omega,by omega⟩
theorem Cell.D_inj {x y:Cell} (h:x.D=y.D):key x=key y:=by unfold Cell.D at h;injection h with h;simp only [iH,Dd.int.injEq] at h;unfold key;rw [h.1,h.2.1]
theorem Zt (ws:List Str):NoL (Yg ws):=.tup fun d hd=>by obtain⟨w,_,rfl⟩:=xA.mp hd;exact .str w
theorem Cell.D_nol (x:Cell):NoL x.D:=.tup fun d hd=>by
 simp only [gB,zF,or_false] at hd;rcases hd with rfl |rfl |rfl |rfl |rfl
 ·exact .int _
 ·exact .int _
 ·exact .int _
 ·exact .int _
 ·exact Zt _
theorem Gb (cs:List Cell):∀d∈cs.map Cell.D,NoL d:=fun d hd=>by obtain⟨x,_,rfl⟩:=xA.mp hd;exact x.D_nol
theorem Wh (ws:List Str) (n:Nat):fits (n+1) (Yg ws):=fun d hd=>by obtain⟨w,_,rfl⟩:=xA.mp hd;cases n<;>trivial
theorem Cell.D_fits (x:Cell) (n:Nat):fits (n+2) x.D:=fun d hd=>by
 simp only [gB,zF,or_false] at hd;rcases hd with rfl |rfl |rfl |rfl |rfl
 ·trivial
 ·trivial
 ·trivial
 ·trivial
 ·exact Wh _ n
theorem qn0 (R C:Nat) (cs:List Cell) (n:Nat):fits (n+4) (O9 R C cs):=fun d hd=>by
 simp only [gB,zF,or_false] at hd;rcases hd with rfl |rfl |rfl
 ·trivial
 ·trivial
 ·intro d hd;obtain⟨x,_,rfl⟩:=xA.mp hd;exact x.D_fits n
theorem Cell.at_inv {H:Hp} {x:Cell} {v:V} (h:At H x.D v):∃a b ws,v=.ref a/\H a=some (.tup [.int x.top,.int x.left,.int x.h,.int x.w,.ref b])/\H b=some (.tup ws)/\AtL H (x.words.map Dd.str) ws:=by
 obtain⟨a,xs,rfl,ha,r⟩:=h.tup_inv;cases r with
 |cons h1 r=>
  cases r with
  |cons h2 r=>
   cases r with
   |cons F r=>
    cases r with
    |cons G r=>
     cases r with
     |cons J r=>cases r;obtain⟨b,ws,rfl,hb,j⟩:=J.tup_inv;rw [h1.int_inv,h2.int_inv,F.int_inv,G.int_inv] at ha;exact⟨a,b,ws,rfl,ha,hb,j⟩
theorem Cell.at_mk {H:Hp} {x:Cell} {a b:Addr} {ws:List V} (ha:H a=some (.tup [.int x.top,.int x.left,.int x.h,.int x.w,.ref b])) (hb:H b=some (.tup ws)) (r:AtL H (x.words.map Dd.str) ws):At H x.D (.ref a):=
 .tup ha (.cons (.int _) (.cons (.int _) (.cons (.int _) (.cons (.int _) (.cons (.tup hb r) .nil)))))
theorem Dm {H:Hp} {R C:Nat} {cs:List Cell} {v:V} (h:At H (O9 R C cs) v):∃a l ys,v=.ref a/\H a=some (.tup [.int R,.int C,.ref l])/\H l=some (.lst ys)/\AtL H (cs.map Cell.D) ys:=by
 obtain⟨a,xs,rfl,ha,r⟩:=h.tup_inv;cases r with
 |cons h1 r=>
  cases r with
  |cons h2 r=>
   cases r with
   |cons j r=>cases r;obtain⟨l,ys,rfl,hl,F⟩:=j.lst_inv;rw [h1.int_inv,h2.int_inv] at ha;exact⟨a,l,ys,rfl,ha,hl,F⟩
theorem M8 {H:Hp} {R C:Nat} {cs:List Cell} {a l:Addr} {ys:List V} (ha:H a=some (.tup [.int R,.int C,.ref l])) (hl:H l=some (.lst ys)) (r:AtL H (cs.map Cell.D) ys):At H (O9 R C cs) (.ref a):=
 .tup ha (.cons (.int _) (.cons (.int _) (.cons (.lst hl r) .nil)))
theorem Wd {α β:Type} {F:α->β->Prop} {m G:List β} (p:G.Perm m):∀{l:List α},Paired F l m->∃l',l'.Perm l/\Paired F l' G:=by
 induction p with
 |nil=>intro l h;exact⟨l,.refl _,h⟩
 |cons x _ ih=>
  intro l h;cases h with
  |cons r t=>obtain⟨l',J,h'⟩:=ih t;exact⟨_,J.cons _,.cons r h'⟩
 |swap x y m=>
  intro l h;cases h with
  |cons r t=>
   cases t with
   |cons r' t'=>exact⟨_,List.Perm.swap _ _ _,.cons r' (.cons r t')⟩
 |trans _ _ j D=>intro l h;obtain⟨l1,p1,h1⟩:=D h;obtain⟨O,p2,h2⟩:=j h1;exact⟨O,p2.trans p1,h2⟩
theorem Za {H:Hp} {cs:List Cell} {xs F:List V} (p:F.Perm xs) (h:AtL H (cs.map Cell.D) xs):∃j:List Cell,j.Perm cs/\AtL H (j.map Cell.D) F:=by
 have h1:∀{cs:List Cell} {xs:List V},AtL H (cs.map Cell.D) xs->Paired (fun x v=>At H x.D v) cs xs:=by
  intro cs;induction cs with
  |nil=>intro xs h;cases h;exact .nil
  |cons x cs ih=>intro xs h;cases h with |cons r t=>exact .cons r (ih t)
 have h2:∀{cs:List Cell} {xs:List V},Paired (fun x v=>At H x.D v) cs xs->AtL H (cs.map Cell.D) xs:=by
  intro cs xs h;induction h with
  |nil=>exact .nil
  |cons r _ ih=>exact .cons r ih
 obtain⟨j,q,r⟩:=Wd p (h1 h);exact⟨j,q,h2 r⟩
theorem qh6 {H:Hp} {cs:List Cell} {xs:List V} (h:AtL H (cs.map Cell.D) xs):∃f:V->Int×Int,∀(i:Nat) (x:Cell) (v:V),cs[i]? = some x->xs[i]? = some v->f v=key x:=by
 classical
 refine⟨fun v=>if q:∃x∈cs,At H x.D v then key q.choose else (0,0),fun i x v e1 e2=>?_⟩;have j:At H x.D v:=Paired.get h (i:=i) (by rw [fA,e1];rfl) e2;have q:∃x∈cs,At H x.D v:=⟨x,jA e1,j⟩
 simp only [q,dite_true];exact Cell.D_inj (At.inj _ (dA _) q.choose_spec.2 j)
theorem Mz {H:Hp} {cs:List Cell} {xs:List V} (h:AtL H (cs.map Cell.D) xs) {f:V->Int×Int} (hf:∀(i:Nat) (x:Cell) (v:V),cs[i]? = some x->xs[i]? = some v->f v=key x):xs.map f=cs.map key:=by
 have hl:cs.length=xs.length:=by simpa using h.length
 refine List.ext_getElem (by simp [hl]) fun i h1 h2=>?_;simp only [List.getElem_map];exact hf i _ _ (gA (by simpa using h2)) (gA (by simpa using h1))
theorem Q7 {K:PySem.W.Frag} {R C:Nat} {cs:List Cell} {H:Hp} {l:Addr} {xs:List V} {Q:VK} (hl:H l=some (.lst xs)) (p:Part R C cs) (hC:C<=1000) (h:AtL H (cs.map Cell.D) xs)
  (q:∀(r:Addr) (j:List Cell) (F:List V),H r=none->j.Perm cs->j.Pairwise uf->AtL (upd H r (.lst F)) (j.map Cell.D) F->Q (.ref r) (upd H r (.lst F))):rSorted K [.ref l] H Q:=by
 obtain⟨f,hf⟩:=qh6 h;have hm:=Mz h hf;have hlen:cs.length=xs.length:=by simpa using h.length
 have at':∀v∈xs,∃x∈cs,At H x.D v/\f v=key x:=fun v G=>by
  obtain⟨i,hi,e⟩:=rF.mp G;have e2:xs[i]? = some v:=by rw [gA hi,e]
  have e1:cs[i]? = some cs[i]:=gA (by omega);exact⟨cs[i],vH _,Paired.get h (i:=i) (by rw [fA,e1];rfl) e2,hf i _ _ e1 e2⟩
 refine⟨l,xs,f,rfl,uI hl,fun v G=>?_,by rw [hm];exact p.keys,fun v G=>?_,fun r F U hp Z=>?_⟩
 ·obtain⟨x,hx,a,e⟩:=at' v G;obtain⟨b,c,ws,rfl,hb,_,_⟩:=Cell.at_inv a;rw [e];exact⟨b,_,rfl,vI hb⟩
 ·obtain⟨x,hx,a,e⟩:=at' v G;have g:=p.fit x hx
  have:=g.across
  have:=g.w1;rw [e];show 0<=(x.left:Int)/\(x.left:Int) < 1000;omega
 ·obtain⟨j,pc,J⟩:=Za hp h;have O:∀(i:Nat) (x:Cell) (v:V),j[i]? = some x->F[i]? = some v->f v=key x:=fun i x v e1 e2=>by
   have a1:At H x.D v:=Paired.get J (i:=i) (by rw [fA,e1];rfl) e2;obtain⟨y,_,a2,e⟩:=at' v (hp.mem_iff.mp (jA e2));rw [e];exact Cell.D_inj (At.inj _ (dA _) a2 a1)
  have S:=Mz J O;have ord:j.Pairwise uf:=by have Y:(F.map f).Pairwise zu2:=List.pairwise_map.mpr Z;rw [S] at Y;refine (List.pairwise_map.mp Y).imp fun {x y} z=>?_;unfold zu2 key at z;unfold uf;simp only at z;omega
  exact q r j F U pc ord (J.mono (tI U))
theorem Part.tiles {R C:Nat} {cs j:List Cell} (p:Part R C cs) (all:∀r c,r < R->c < C->cov cs r c) (q:j.Perm cs) (o:j.Pairwise uf):Tiles R C j:=
 { p.perm q with all:=fun r c h1 h2=>qu2 q (all r c h1 h2),ord:=o}
theorem qj5:signs.cps.toList.length=36:=by decide +kernel
theorem Ws:signs.length<=sizeLine:=by
 have e:signs.length=36:=by decide +kernel
 rw [e];decide
theorem Ac:∀ys:List Str,(Str.join Str.empty ys).cps.toList=(ys.map (fun y=>y.cps.toList)).flatten
 | []=>rfl
 | [x]=>by simp [Str.join]
 |x::y::ys=>by have ih:=Ac (y::ys);have e:Str.join Str.empty (x::y::ys)=x++Str.empty++Str.join Str.empty (y::ys):=rfl;rw [e];show ((x.cps++Str.empty.cps)++(Str.join Str.empty (y::ys)).cps).toList=_;rw [mB,mB,ih];simp [Str.empty]
theorem qh3 {ys:List Str} (h:∀y∈ys,∃c∈signs.cps.toList,y=⟨#[c]⟩) (h1:1<=ys.length) (h2:ys.length<=12):WordOk (Av "" ys):=by
 have e:(Av "" ys).cps.toList=(ys.map (fun y=>y.cps.toList)).flatten:=by have z:Av "" ys=Str.join Str.empty ys:=bF _ _;rw [z];exact Ac ys
 have l:∀ys:List Str,(∀y∈ys,∃c∈signs.cps.toList,y=⟨#[c]⟩)->(ys.map (fun y=>y.cps.toList)).flatten.length=ys.length/\∀c∈(ys.map (fun y=>y.cps.toList)).flatten,c∈signs.cps.toList:=by
  intro ys;induction ys with
  |nil=>exact fun _=>⟨rfl,fun c j=>by simp at j⟩
  |cons y ys ih=>
   intro h;obtain⟨D,i2⟩:=ih fun z F=>h z (vA _ F);obtain⟨c,j,rfl⟩:=h y uA;refine⟨by rw [aC,jD,wA,D,fB];simp;omega,fun d hd=>?_⟩;rw [aC,jD] at hd;rcases rB.mp hd with hd |hd
   ·have:d=c:=by simpa using hd
    rw [this];exact j
   ·exact i2 d hd
 obtain⟨G,J⟩:=l ys h;have ll:(Av "" ys).length=ys.length:=by show (Av "" ys).cps.size=_;rw [←pB,e,G]
 exact⟨by omega,by omega,fun c j=>J c (by rw [←e];exact j)⟩
theorem Jt (H:Hp):∀ws:List Str,AtL H (ws.map Dd.str) (ws.map V.str)
 | []=>.nil
 |w::ws=>.cons (.str w) (Jt H ws)
noncomputable def Ai (W:Nat) (gs:List (List Str)) (w:Str):List (List Str):=
 match gs.getLast? with
 |none=>[[w]]
 |some g=>if (v6 g).length+1+w.length<=W then gs.dropLast++[g++[w]] else gs++[[w]]
theorem Jq (W:Nat) (gs:List (List Str)) (g:List Str) (w:Str):Ai W (gs++[g]) w=if (v6 g).length+1+w.length<=W then gs++[g++[w]] else (gs++[g])++[[w]]:=by unfold Ai;rw [List.getLast?_concat,List.dropLast_concat]
theorem Gw (W:Nat):∀(r:List Str) (gs:List (List Str)) (g:List Str),g≠[]->r.foldl (Ai W) (gs++[g])=gs++xx W g r
 | [],gs,g,h=>by unfold xx;rw [oA h];rfl
 |w::r,gs,g,h=>by
  rw [zC,Jq];unfold xx;rw [oA h];by_cases k:(v6 g).length+1+w.length<=W
  ·rw [kA k,kA k,Gw W r gs (g++[w]) (by simp)]
  ·rw [oA k,oA k,Gw W r (gs++[g]) [w] (by simp),iB];rfl
theorem Do (W:Nat) (ws:List Str):ws.foldl (Ai W) []=xx W [] ws:=by
 cases ws with
 |nil=>rfl
 |cons w r=>rw [zC];show r.foldl (Ai W) ([]++[[w]])=_;rw [Gw W r [] [w] (by simp)];unfold xx;rw [kA rfl];cases r<;>rfl
theorem Xl (w:Str):v6 [w]=w:=str_ext (by unfold v6 sp1;rw [ue];rfl)
theorem Mr (c:Nat):∀(g:List (List Nat)) (w:List Nat),g≠[]->xg c (g++[w])=xg c g++c::w
 | [],w,h=>absurd rfl h
 | [x],w,_=>rfl
 |x::y::r,w,_=>by show x++c::xg c (y::r++[w])=(x++c::xg c (y::r))++c::w;rw [Mr c (y::r) w (by simp)];simp
theorem qi0 {g:List Str} (h:g≠[]) (w:Str):v6 g++sp1++w=v6 (g++[w]):=str_ext (by
 have e1:(v6 g++sp1++w).cps.toList=(v6 g).cps.toList++[32]++w.cps.toList:=by show (((v6 g).cps++sp1.cps)++w.cps).toList=_;rw [mB,mB];rfl
 rw [e1];unfold v6 sp1;rw [ue,ue,lA,zG,Mr 32 _ _ (by simpa using h)]
 simp)
theorem len_app (x y:Str):(x++y).length=x.length+y.length:=by show (x.cps++y.cps).size=_;rw [Array.size_append];rfl
theorem Uh (W:Nat) (ws:List Str):(ws.foldl (Ai W) []).flatten=ws:=by rw [Do,uv];rfl
theorem qc2 (W:Nat) (ws:List Str):∀g∈ws.foldl (Ai W) [],g≠[]:=by rw [Do];exact Qd W ws []
theorem Jk {α:Type}:∀(gs:List (List α)),(∀g∈gs,g≠[])->gs.length<=gs.flatten.length
 | [],_=>dA _
 |g::gs,h=>by
  have:=Jk gs fun x hx=>h x (vA _ hx)
  have:=qG.mpr (h g uA);rw [jD,wA,fB];omega
theorem J7 {α:Type}:∀{gs:List (List α)} {g:List α},g∈gs->g.length<=gs.flatten.length
 |x::gs,g,h=>by
  rw [jD,wA];rcases gB.mp h with rfl |h
  ·omega
  ·have:=J7 h;omega
theorem sum_le {g:List Str} {k:Nat} (h:∀w∈g,w.length<=k):(g.map (·.length)).sum<=k * g.length:=by
 induction g with
 |nil=>simp
 |cons w g ih=>
  have:=h w uA
  have:=ih fun x hx=>h x (vA _ hx);rw [aC,tE,fB,Nat.mul_succ];omega
theorem zo7 {g:List Str} (h:∀w∈g,w.length<=12) (n:g.length<=12):(v6 g).length<=200:=by
 rw [Ju]
 have:=sum_le h;omega
theorem qv9 {W:Nat} {ws:List Str} (few:ws.length<=12) (each:∀w∈ws,w.length<=12) {g:List Str} (j:g∈ws.foldl (Ai W) []):g.length<=12/\(∀w∈g,w∈ws)/\(v6 g).length<=200:=by
 have e:=Uh W ws;have l:=J7 j;rw [e] at l;have m:∀w∈g,w∈ws:=fun w hw=>by rw [←e];exact xH.mpr ⟨g,j,hw⟩
 exact⟨by omega,m,zo7 (fun w hw=>each w (m w hw)) (by omega)⟩
theorem M9 {W:Nat} {ws:List Str}:(ws.foldl (Ai W) []).length<=ws.length:=by have:=Jk _ (qc2 W ws);rw [Uh] at this;exact this
theorem Xp (c:Nat):∀(l:List Nat) (k:Nat),(T7 c l k).length<=l.length
 | [],_=>dA _
 |a::l,k=>by
  have:=Xp c l (k+1);unfold T7;by_cases z:a=c
  ·rw [kA z,fB,fB];omega
  ·rw [oA z,fB];omega
theorem qg3 (x:Str) (c:Nat) (n:Nat):(Builtin.Str.partsBetween x (Builtin.Str.occurrences x ⟨#[c]⟩ 0 x.length (x.length+1)) n).length<=x.length+1:=by
 have xl:x.length=x.cps.toList.length:=by simp [Str.length]
 have:=Xp c x.cps.toList 0;rw [qh5];unfold Builtin.Str.partsBetween;simp only [aA,List.length_zip,fB,wA,nE];omega
theorem qe8 (ws:List Str):fits 2 (.lst (ws.map Dd.str)):=fun d hd=>by obtain⟨w,_,rfl⟩:=xA.mp hd;trivial
theorem qw8 {W:Nat} {ws:List Str} {i:Nat} {w:Str} (h:ws[i]? = some w):(ws.take (i+1)).foldl (Ai W) []=Ai W ((ws.take i).foldl (Ai W) []) w:=by rw [List.take_succ,h,List.foldl_append];rfl
end GT
namespace L2
open PySem
theorem ji {X:Cx} {K:PySem.W.Frag} (h:X.K=K):Ag X (.builtin "len") (fun xs H Q=>∃z,xs=[.str z]/\z.length<=sizeLine/\Q (.int z.length) H):=Tc
end L2
namespace GT
open PySem L2
theorem Lk:∀(n:Nat) (l:List Nat),l.Nodup->(∀x∈l,x < n)->l.length<=n
 |0,[],_,_=>dA _
 |0,x::l,_,h=>absurd (h x uA) (by omega)
 |n+1,l,nd,h=>by
  by_cases hn:n∈l
  ·have:=Lk n (l.erase n) (nd.erase n) fun x hx=>by
    have h1:=h x (List.mem_of_mem_erase hx);have h2:x≠n:=fun e=>by subst e;exact (nd.not_mem_erase) hx
    omega
   rw [List.length_erase_of_mem hn] at this;omega
  ·have:=Lk n l nd fun x hx=>by
    have h1:=h x hx;have h2:x≠n:=fun e=>hn (e▸hx);omega
   omega
theorem Part.few {R C:Nat} {cs:List Cell} (p:Part R C cs):cs.length<=R * C:=by
 have key:(cs.map fun x=>x.top * C+x.left).Nodup:=by
  refine oH _ (R:=fun x y=>Fit R C x/\Fit R C y/\Apart x y) (fun x y z e=>?_) (p.dis.imp_of_mem fun {x y} hx j z=>⟨p.fit x hx,p.fit y j,z⟩);obtain⟨f,g,a⟩:=z;have h1:=f.h1;have h2:=f.w1;have h3:=g.h1;have h4:=g.w1;have D:=f.across;have F:=g.across;have e1:x.top=y.top:=by
   have a1:(x.top * C+x.left) / C=x.top:=by rw [wH,Nat.mul_add_div (by omega),Nat.div_eq_of_lt (by omega)];omega
   have a2:(y.top * C+y.left) / C=y.top:=by rw [wH,Nat.mul_add_div (by omega),Nat.div_eq_of_lt (by omega)];omega
   have e:x.top * C+x.left=y.top * C+y.left:=e;rw [←a1,←a2,e]
  have e2:x.left=y.left:=by have e:x.top * C+x.left=y.top * C+y.left:=e;rw [e1] at e;omega
  exact a x.top x.left ⟨by omega,by omega,by omega,by omega⟩ ⟨by omega,by omega,by omega,by omega⟩
 have:=Lk (R * C) _ key fun z G=>by
  obtain⟨x,hx,rfl⟩:=xA.mp G;have f:=p.fit x hx;have h1:=f.h1;have h2:=f.w1;have D:=f.across;have F:=f.down
  have:(x.top+1) * C<=R * C:=uH C (by omega);rw [mG] at this;omega
 rwa [aA] at this
end GT
namespace L2
open PySem
theorem Ij {K:PySem.W.Frag} {a:Addr} {xs:List V} {g:TG} {tt:TT} {te:TE} {D:St} {H1:Hp} {acc:Addr} {Q:VK} (Pv:Nat->St->Hp->Prop) (h0:Pv 0 D (upd H1 acc (.lst [])))
  (hl:∀i σ H,i<=xs.length->Pv i σ H->SqT K H a xs)
  (hs:∀i x σ H,xs[i]? = some x->Pv i σ H->g x σ H fun j H4=>tt j H4 fun b G=>
   if b=true then te j G fun y H6=>∃ys,H6 acc=some (.lst ys)/\ys.length < sizeLine/\Pv (i+1) j (upd H6 acc (.lst (ys++[y]))) else Pv (i+1) j G)
  (hd:∀σ H,Pv xs.length σ H->Q (.ref acc) H):Tq (Itt K a) g tt te acc D H1 Q:=by
 refine⟨fun i m σ H=>m=xs.length - i/\i<=xs.length/\Pv i σ H,⟨xs.length,by simp,yB _,h0⟩,?_⟩;rintro i m σ H ⟨rfl,hi,p⟩;have q:=hl i σ H hi p;by_cases F:i < xs.length
 ·refine .inr ⟨⟨xs,xs[i],q,by simp [F]⟩,Pv (i+1),fun σ' H' J=>⟨xs.length - (i+1),by omega,rfl,F,J⟩,fun x H' y=>?_⟩;obtain⟨e,y⟩:=y;subst e;exact hs i x σ _ (y xs q) p
 ·have e:i=xs.length:=by omega
  subst e;exact .inl ⟨⟨xs,q,dA _⟩,hd σ H p⟩
theorem Xa {X:Cx} {scope:Scope} {N1:List Str} {cap:List (Option Nat)} (kind:scope.kind=.function)
  (nocell:∀y∈scope.names,y.2≠.cell) (names:∀y∈scope.names,y.2=.local->scope.names.lookup y.1=some .local) (free:∀y∈scope.names,y.2≠.free)
  (len:cap.length=N1.length) (caps:∀i,i < N1.length->∀x j,N1[i]? = some x->cap[i]? = some (some j)->False) :
  CompOk X scope (Ih X.env.cells scope.names []) N1 cap:=by
 have fr:∀y∈scope.names,y.2=.free->(X.env.cells.lookup y.1).isSome=true:=fun y D e=>absurd e (free y D);have mem:∀p∈Ih X.env.cells scope.names [],X.env.cells.lookup p.1=some p.2:=Oh scope.names [] fr fun p hp=>absurd hp (by simp);have has:∀x,((relabel scope X.env).names.lookup x=some .cell\/(relabel scope X.env).names.lookup x=some .free)->∃c,(Ih X.env.cells scope.names []).lookup x=some c:=fun x h=>by
  have q:∃y∈scope.names,y.1=x/\y.2=.free:=by
   rcases h with h |h
   ·exact yo nocell (.inl rfl) h
   ·exact yo nocell (.inr rfl) h
  exact uE.mp (Qe x scope.names [] (.inl q))
 exact⟨qe4 fr,fun x c h=>mem (x,c) (eF h),kind,nocell,names,has,len,fun i x j e1 e2=>(caps i (bA.mp e1).1 x j e1 e2).elim⟩
end L2
namespace GT
open PySem L2
open SZ (Sn seg szL)
theorem W7 {H:Hp}:∀{ws:List Str} {vs:List V},AtL H (ws.map Dd.str) vs->vs=ws.map V.str
 | [],[],_=>rfl
 |w::ws,v::vs,h=>by
  cases h with
  |cons h1 h2=>rw [W7 h2];cases h1;rfl
noncomputable def lg (ws:List Str):Nat:=(ws.map (·.length)).foldr max 0
theorem zm5 {ws:List Str} {w:Str} (h:w∈ws):w.length<=lg ws:=by
 induction ws with
 |nil=>simp at h
 |cons y ws ih=>
  unfold lg;rw [aC,List.foldr_cons];rcases gB.mp h with rfl |h
  ·omega
  ·have:=ih h;unfold lg at this;omega
theorem qi4:∀{ws:List Str},ws≠[]->∃w∈ws,w.length=lg ws
 | [],h=>absurd rfl h
 | [w],_=>⟨w,uA,by simp [lg]⟩
 |w::v::r,_=>by
  obtain⟨x,hx,e⟩:=qi4 (ws:=v::r) (by simp);have j:lg (w::v::r)=max w.length (lg (v::r)):=rfl;by_cases z:w.length<=lg (v::r)
  ·exact⟨x,vA _ hx,by rw [j,e];omega⟩
  ·exact⟨w,uA,by rw [j];omega⟩
theorem zl1 {ws:List Str} {M:Int} (h:zs4 0 (ws.map fun x=>(x.length:Int)) M):M=((lg ws:Nat):Int):=by
 rcases h with ⟨e,rfl⟩ |⟨h1,h2⟩
 ·have e:ws=[]:=List.map_eq_nil_iff.mp e;subst e;rfl
 ·have ne:ws≠[]:=fun z=>by rw [z] at h1;simp at h1
  obtain⟨x,hx,e⟩:=qi4 ne;have a:=h2 _ (xA.mpr ⟨x,hx,rfl⟩);obtain⟨y,j,e2⟩:=xA.mp h1;have b:=zm5 j;omega
noncomputable def w5 (x:Cell):Sn:=⟨x.left,x.left+x.w,lg x.words⟩
noncomputable def Qu (ns:List Int) (x:Cell):Nat:=((seg ns x.left (x.left+x.w)).sum+((x.w:Int) - 1)).toNat
noncomputable def uz (ns:List Int) (x:Cell):Sn:=⟨x.top,x.top+x.h,(xx (Qu ns x) [] x.words).length⟩
theorem zh3 {ns:List Int} (h:∀z∈ns,(1:Int)<=z) (f b:Nat):0<=(seg ns f b).sum:=by
 have:∀l:List Int,(∀z∈l,(1:Int)<=z)->0<=l.sum:=by
  intro l;induction l with
  |nil=>intro _;simp
  |cons a l ih=>
   intro h
   have:=h a uA
   have:=ih fun z j=>h z (vA _ j);rw [tE];omega
 refine this _ fun z j=>h z ?_;unfold seg at j;exact yC (mD j)
theorem qt4 {ns:List Int} (h:∀z∈ns,(1:Int)<=z) {x:Cell} (hw:1<=x.w):(seg ns x.left (x.left+x.w)).sum+((x.w:Int) - 1)=((Qu ns x:Nat):Int):=by have:=zh3 h x.left (x.left+x.w);unfold Qu;omega
theorem Y5 {W:Nat} {ws:List Str}:(xx W [] ws).length<=ws.length:=by have:=M9 (W:=W) (ws:=ws);rw [Do] at this;exact this
theorem zk9 (ss:List Sn) (m:Nat):∀z∈szL ss m,(1:Int)<=z:=by
 induction m with
 |zero=>intro z j;simp [szL] at j
 |succ m ih=>
  intro z j;rw [szL] at j;rcases rB.mp j with j |j
  ·exact ih z j
  ·rw [lF.mp j];exact SZ.next_ge ss m _
theorem Ja {R C:Nat} {cs:List Cell} (t:Part R C cs):∀s∈cs.map w5,s.f < s.b/\s.b<=C:=fun s hs=>by
 obtain⟨x,hx,rfl⟩:=xA.mp hs
 have:=(t.fit x hx).w1
 have:=(t.fit x hx).across;exact⟨by show x.left < x.left+x.w;omega,this⟩
theorem Im {R C:Nat} {cs:List Cell} (t:Part R C cs) (ns:List Int):∀s∈cs.map (uz ns),s.f < s.b/\s.b<=R:=fun s hs=>by
 obtain⟨x,hx,rfl⟩:=xA.mp hs
 have:=(t.fit x hx).h1
 have:=(t.fit x hx).down;exact⟨by show x.top < x.top+x.h;omega,this⟩
end GT
namespace L2
open PySem PySem.Spec PyProof.Rows PySem.W
open Sem (wp)
noncomputable def Its (x:Str):It:=
 ⟨fun i _=>i < x.cps.size,fun i H v H'=>∃t c,H t=none/\v=.ref t/\x.cps[i]? = some c/\H'=upd H t (.tup [.int (i:Int),.str ⟨#[c]⟩]),fun i _=>x.cps.size<=i⟩
theorem qz4 {prog:Program} {w:World} {A:Around} (j:A.handled=none) (it:Addr) (x:Str) (t:Tok) :
  Draws prog w A it [it] x.cps.size (fun i v=>∃c u,x.cps[i]? = some c/\v=.str ⟨#[c]⟩ u) (fun i h=>h.IsStrIter it (strIterType x) x t i):=by
 unfold strIterType;split
 ·exact Draws.strAscii j it x t
 ·exact Draws.strWide j it x t
theorem Z4 {P:Program} {w:World} {K:PySem.W.Frag} {es:List Expr} {k:Nat} {pos:Pos} (x:Str) (tx:Tok) (e it:Addr) (J:e≠it) :
    Turn P w K (.Tuple es k pos) (Its x) [e,it] e (fun i h=>i<=x.cps.size/\(∃old,IsEnum h e it (i:Nat) old)/\h.IsStrIter it (strIterType x) x tx i) where
  mem:=by simp
  obj:=fun i h st b hb=>by
    obtain⟨_,⟨old,he⟩,⟨o,O,c,d⟩⟩:=st;rcases gB.mp hb with rfl |hb
    · exact⟨_,he,fun v z=>by cases (show Data.fields _=Data.cell v from z)⟩
    · have e:b=it:=by simpa using hb
      subst e;exact⟨o,O,fun v z=>by rw [d] at z;cases z⟩
  keep:=fun i h h' st k=>by obtain⟨hi,⟨old,he⟩,⟨o,O,r⟩⟩:=st;exact⟨hi,⟨old,k e (by simp) _ he⟩,⟨o,k it (by simp) o O,r⟩⟩
  item:=by
    intro X hP hw hK hc i pins s σ H E I hf st F;subst hP hw hK;have F:i < x.cps.size:=F;obtain⟨_,⟨old,he⟩,hit⟩:=st;obtain⟨f0,f1,f2,f3,f4,f5⟩:=hf e (by simp);obtain⟨g0,g1,g2,g3,g4,g5⟩:=hf it (by simp);have G:e < s.heap.objs.size:=kB he;have U:it < s.heap.objs.size:=by obtain⟨_,q,_⟩:=hit;exact kB q
    have DD:=qz4 (prog:=X.prog) (w:=X.w) (A:=X.A.in1) (I.ok.hd hc) it x tx;refine wpAny_pyNext_enum_itemD DD he hit F J (by simpa using J) fun u h1 tk hu a3 Y a4 hsz1 a5=>?_;obtain⟨c,tu,a6,rfl⟩:=hu;refine⟨_,rfl,wpAny_letOwnedTupleGo_enum a3 fun h2 a7 S=>?_⟩;have k2:∀b o,b≠e->b≠it->s.heap.get? b=some o->h2.get? b=some o:=fun b o hb a8 q=>(S.2 b hb).trans (a5 b o hb a8 q);have fr:H s.heap.objs.size=none:=I.hok.fresh (dA _);have tr:∀b o,H b=some o->b≠e/\b≠it/\b≠s.heap.objs.size:=fun b o q=>⟨fun z=>(by rw [z,f0] at q;cases q),fun z=>(by rw [z,g0] at q;cases q),fun z=>(by rw [z,fr] at q;cases q)⟩
    have j:∀b,b∉[e,it]->b≠e/\b≠it:=fun b hb=>⟨fun z=>hb (by simp [z]),fun z=>hb (by simp [z])⟩
    have Z:IsTup h2 s.heap.objs.size [.int i tk,.str ⟨#[c]⟩ tu].toArray:=⟨_,(S.2 _ (Nat.ne_of_gt G)).trans a4,rfl,_,rfl⟩
    have I2:Inv X pins σ (upd H s.heap.objs.size (.tup [.int (i:Int),.str ⟨#[c]⟩])) { s with heap:=h2,toks:=tk+1}:=by
      refine I.step (g':=s.gens) (d':=s.drawn) (ch:=[e,it]) (fun b hb=>?_) (fun b o _ _ hb q _=>k2 b o (j b hb).1 (j b hb).2 q) (fun b o _ _ hb q _=>⟨o.slots,k2 b o (j b hb).1 (j b hb).2 q⟩)
        (fun b o hb q n=>?_) (fun b o hb q=>⟨o,k2 b o (j b hb).1 (j b hb).2 q⟩) (fun b ys q=>?_) (fun b o u q=>?_) (fun b ps q=>⟨#[],?_⟩) (fun m hm=>?_) (fun b o q=>?_) I.bare
      · rcases gB.mp hb with rfl |hb
        · exact⟨f3,f1,f4,f5⟩
        · have e:b=it:=by simpa using hb
          subst e;exact⟨g3,g1,g4,g5⟩
      · rw [qu (rC (kB q))];exact n
      · rw [qu (tr b _ q).2.2];exact q
      · rw [qu (tr b _ q).2.2];exact q
      · rw [qu (tr b _ q).2.2,q];simp
      · obtain⟨o,a9,ep,O,r⟩:=hm
        exact⟨o,a9,ep,k2 _ o (eE f1) (eE g1) O,r⟩
      · by_cases hb:b=s.heap.objs.size
        · subst hb
          rw [qd] at q;cases q;exact⟨by show 2<=sizeLine;decide,[.int i tk,.str ⟨#[c]⟩ tu],.cons ⟨_,rfl⟩ (.cons ⟨_,rfl⟩ .nil),Z⟩
        · rw [qu hb] at q
          refine (I.hok b o q).stay (fun c v D z=>?_) (fun c z=>?_) fun c ys z=>?_
          · have:c≠e/\c≠it:=by
              rcases D with rfl |D
              · exact⟨(tr _ _ q).1,(tr _ _ q).2.1⟩
              · exact⟨(tr _ _ D).1,(tr _ _ D).2.1⟩
            exact k2 c v this.1 this.2 z
          · rw [qu (tr c _ z).2.2];exact z
          · rw [qu (tr c _ z).2.2];exact z
    refine⟨.ref s.heap.objs.size,_,I2,rfl,⟨_,c,fr,rfl,a6,rfl⟩,⟨F,⟨_,by simpa using a7⟩,?_⟩,fun b hb=>?_⟩
    · obtain⟨o,O,r⟩:=Y
      exact⟨o,(S.2 it (eE J)).trans O,r⟩
    rcases gB.mp hb with rfl |hb
    · rw [qu (rC G)];exact f0
    · have e:b=it:=by simpa using hb
      subst e;rw [qu (rC U)];exact g0
  done:=by intro X hP hw hK hc i pins s σ H E I hf st F;subst hP hw hK;have F:x.cps.size<=i:=F;obtain⟨hi,⟨old,he⟩,hit⟩:=st;obtain⟨g0,g1,g2,g3,g4,g5⟩:=hf it (by simp);have e:i=x.cps.size:=Nat.le_antisymm hi F;subst e;have DD:=qz4 (prog:=X.prog) (w:=X.w) (A:=X.A.in1) (I.ok.hd hc) it x tx;exact wpAny_pyNext_enum_endD DD he hit fun h' eb=>⟨rfl,I.turned (t':=s.toks) (fun b o hb q=>eb b o hb q) g0 g1 g3 g4 g5⟩
  self:=fun _ _ _ _ _ st h=>by obtain⟨_,⟨old,he⟩,_⟩:=st;exact wpAny_pyIter_enum he h
noncomputable def zn9 (ta:TA):TI:=fun σ H R=>ta σ H fun vs H1=>∃x,vs=[.str x]/\R (Its x) H1
theorem qw3 {X:Cx} {es:List Expr} {k:Nat} {tpos:Pos} {a:Expr} {ta:TA} {p pos:Pos} (G:Gl X "enumerate") (hm:X.mg "enumerate" = none) (ha:PA X [a] ta) (hs:starEach [a] X.env=[(false,eval a X.env)]:=by rfl) :
  PI X (.Tuple es k tpos) (.Call (.Name "enumerate" p) [a] [] pos) (zn9 ta):=by
 intro pins s σ H R I h;refine Call_ (G8 I G hm boot_enumerate (aF (thn (ha pos pins s σ H _ I h) fun us s1 ⟨vs,H1,F,J,q1⟩=>?_) hs rfl));obtain⟨x,e,q⟩:=q1;subst e;cases J with
 |cons r O=>
  cases O;obtain⟨t,rfl⟩:=r;refine call_enumerate_str fun h' he hit hsz hk=>?_;have S:Inv X pins σ H1 { s1 with heap:=h'}:=F.kept (t':=s1.toks) hk;refine wpAny_pyIter_enum he ?_;refine⟨s1.heap.objs.size+1,[s1.heap.objs.size+1,s1.heap.objs.size],_,_,H1,rfl,S,Z4 x t _ _ (Nat.succ_ne_self _),⟨yB _,⟨_,he⟩,hit⟩,fun c j=>?_,q⟩;have D:s1.heap.objs.size<=c:=by
   rcases gB.mp j with j |j
   ·rw [j];exact Nat.le_succ _
   ·have:c=s1.heap.objs.size:=by simpa using j
    rw [this];exact dA _
  exact F.fpOk D (F.hok.fresh D)
noncomputable def wy (x:Str):List Str:=x.cps.toList.map fun c=>⟨#[c]⟩
theorem uw (x:Str):(wy x).length=x.length:=by simp [wy,Str.length]
theorem Qo {x:Str} {i c:Nat} (h:x.cps[i]? = some c):(wy x)[i]? = some ⟨#[c]⟩:=by unfold wy;rw [fA,kC,h];rfl
noncomputable def zl0 (K:PySem.W.Frag) (ta:TA):TI:=fun σ H R=>(ta σ H fun vs H1=>∃a,vs=[.ref a]/\(∃xs,SqL K H1 a xs)/\R (Ite K a) H1)\/(ta σ H fun vs H1=>∃x,vs=[.str x]/\R (Its x) H1)
theorem Ye {X:Cx} {K:PySem.W.Frag} {es:List Expr} {k:Nat} {tpos:Pos} {a:Expr} {ta:TA} {p pos:Pos} (D:X.K=K) (j:Gl X "enumerate") (hm:X.mg "enumerate" = none) (ha:PA X [a] ta) (hs:starEach [a] X.env=[(false,eval a X.env)]:=by rfl) :
  PI X (.Tuple es k tpos) (.Call (.Name "enumerate" p) [a] [] pos) (zl0 K ta):=fun pins s σ H R I h=>
 h.elim (Lf D j hm ha hs pins s σ H R I) (qw3 j hm ha hs pins s σ H R I)
theorem qk9 {x:Str} {g:TG} {tb:TS} {D:Ends} {σ:St} {H:Hp} (Pv:Nat->St->Hp->Prop) (h0:Pv 0 σ H)
  (hs:∀i c σ H t,x.cps[i]? = some c->Pv i σ H->H t=none->g (.ref t) σ (upd H t (.tup [.int (i:Int),.str ⟨#[c]⟩])) fun j H2=>tb { D with nx:=Pv (i+1),ct:=Pv (i+1),bk:=D.nx} j H2) (hd:∀σ H,Pv x.cps.size σ H->D.nx σ H) :
  ∃W:Nat->Nat->St->Hp->Prop,(∃m,W 0 m σ H)/\∀i m σ H,W i m σ H ->
   ((Its x).stop i H/\D.nx σ H)\/((Its x).go i H/\∃N:St->Hp->Prop,(∀F H',N F H'->∃J,J < m/\W (i+1) J F H')/\∀v H',(Its x).yld i H v H'->g v σ H' fun j H2=>tb { D with nx:=N,ct:=N,bk:=D.nx} j H2):=by
 refine⟨fun i m σ H=>m=x.cps.size - i/\i<=x.cps.size/\Pv i σ H,⟨x.cps.size,by simp,yB _,h0⟩,?_⟩;rintro i m σ H ⟨rfl,hi,p⟩;by_cases G:i < x.cps.size
 ·refine .inr ⟨G,Pv (i+1),fun F H' O=>⟨x.cps.size - (i+1),by omega,rfl,G,O⟩,fun v H' y=>?_⟩;obtain⟨t,c,S,rfl,U,rfl⟩:=y;exact hs i c σ H t U p S
 ·have e:i=x.cps.size:=by omega
  subst e;exact .inl ⟨dA _,hd σ H p⟩
end L2
namespace L2
open PySem PySem.Spec PyProof.Rows
theorem qv1 {X:Cx}:MtM X "str.endswith" (fun x vs H Q=>∃z y,x=.str z/\vs=[.str y]/\Q (.bl (Txt.endswith z y)) H):=by intro pins s σ H x vs v us Q I j D h;obtain⟨z,y,rfl,rfl,q⟩:=h;obtain⟨t,rfl⟩:=j;obtain⟨u,rfl,F⟩:=D.one;obtain⟨tu,rfl⟩:=F;exact SC.endswith ⟨.bl _,H,I,rfl,q⟩
section
variable {es r:List Expr} {pos:Pos} {env:Env}
end
open PySem.W
noncomputable def Itx (x:Str):It:=⟨fun i _=>i < x.cps.size,fun i H v H'=>H'=H/\∃c,x.cps[i]? = some c/\v=.str ⟨#[c]⟩,fun i _=>x.cps.size<=i⟩
theorem za9 {prog:Program} {w:World} {A:Around} (j:A.handled=none) (it:Addr) (x:Str) (t:Tok):Walks prog w A it [it] [it] x.cps.size (SignAt x) (fun i h=>h.IsStrIter it (strIterType x) x t i):=by
 unfold strIterType;split
 ·exact Walks.strAscii j it x t
 ·exact Walks.strWide j it x t
theorem Ox (x:Str):["enumerate", "zip", "dict_itemiterator", "dict_reverseitemiterator", "odict_iterator", "itertools.zip_longest", "itertools.pairwise"].contains (strIterType x)=false:=by
 unfold strIterType
 split<;>decide
theorem qw2 {P:Program} {w:World} {K:PySem.W.Frag} {tg:Expr} (it:Addr) (x:Str) (t:Tok):Turn P w K tg (Itx x) [it] it (fun i h=>i<=x.cps.size/\h.IsStrIter it (strIterType x) x t i) where
  mem:=by simp
  obj:=fun i h st b hb=>by
    have e:b=it:=by simpa using hb
    subst e;obtain⟨_,o,e,c,d⟩:=st;exact⟨o,e,fun v z=>by rw [d] at z;cases z⟩
  keep:=fun i h h' st k=>by obtain⟨hi,o,e,r⟩:=st;exact⟨hi,o,k it (by simp) o e,r⟩
  item:=by intro X D hw F G i pins s σ H E I hf st j;subst D hw F;obtain⟨f0,f1,f2,f3,f4,J⟩:=hf it (by simp);have W:=za9 (prog:=X.prog) (w:=X.w) (A:=X.A) (I.ok.hd G) it x t;refine W.item i s _ _ j st.2 fun v h' tk U st' O=>?_;obtain⟨c,u,S,rfl⟩:=U;have Y:Inv X pins σ H { s with heap:=h',toks:=tk}:=I.turned (fun b o hb e=>O b o (by simpa using hb) e) f0 f1 f3 f4 J;obtain⟨o,e,cl,d⟩:=id st';exact⟨_,rfl,qw9 (s:={ s with heap:=h',toks:=tk}) e cl d (Ox x) ⟨.str ⟨#[c]⟩,H,Y,⟨u,rfl⟩,⟨rfl,c,S,rfl⟩,⟨j,st'⟩,fun b hb=>(hf b hb).1⟩⟩
  done:=by intro X D hw F G i pins s σ H E I hf st j;subst D hw F;obtain⟨f0,f1,f2,f3,f4,J⟩:=hf it (by simp);obtain⟨hi,st⟩:=st;have e:i=x.cps.size:=Nat.le_antisymm hi j;subst e;have W:=za9 (prog:=X.prog) (w:=X.w) (A:=X.A) (I.ok.hd G) it x t;exact W.done s _ _ st fun h' tk O=>⟨rfl,I.turned (fun b o hb e=>O b o (by simpa using hb) e) f0 f1 f3 f4 J⟩
  self:=fun A i s Q E st h=>by
    obtain⟨_,st⟩:=st;unfold strIterType at st;split at st
    · exact wpAny_pyIter_striter_ascii st h
    · exact wpAny_pyIter_striter_wide st h
theorem qx4 {prog:Program} {w:World} {A:Around} {E:Value->Shared->Prop} {s:Shared} {x:Str} {t:Tok} {Q:Value->Shared->Prop}
  (j:∀o:Obj,(s.heap.push o).IsStrIter s.heap.objs.size (strIterType x) x t 0->Q (.ref s.heap.objs.size) { s with heap:=s.heap.push o}):wpAny (model prog w) A (pyIter (.str x t)) Q E s:=by
 cases ha:x.cps.all (· < 128)
 ·have e:strIterType x = "str_iterator" := by unfold strIterType;rw [ha];rfl
  rw [e] at j;exact wpAny_pyIter_wide ha (j _ ⟨_,zB _ rfl,rfl,rfl⟩)
 ·have e:strIterType x = "str_ascii_iterator" := by unfold strIterType;rw [ha];rfl
  rw [e] at j;exact wpAny_pyIter_ascii ha (j _ ⟨_,zB _ rfl,rfl,rfl⟩)
inductive iStrI (R:It->Hp->Prop) (v:V) (H1:Hp):Prop
 |mk (x:_) (_:v=.str x) (_:R (Itx x) H1)
noncomputable def zv8 (tl:TE):TI:=fun σ H R=>tl σ H fun v H1=>iStrI R v H1
theorem qm3 {X:Cx} {K:PySem.W.Frag} {tg l:Expr} {tl:TE} (hK:X.K=K) (hl:PE X l tl):PI X tg l (zv8 tl):=by
 intro pins s σ H R I h;refine thn (hl pins s σ H _ I h) fun v s1 ⟨x,H1,j,D,q1⟩=>?_;obtain⟨x,e,q⟩:=q1;subst e;obtain⟨t,rfl⟩:=D;refine qx4 fun o hit=>?_;refine⟨s1.heap.objs.size,[s1.heap.objs.size],_,_,H1,rfl,j.kept (t':=s1.toks) fun b o e=>iA _ e,qw2 _ x t,⟨yB _,hit⟩,fun b hb=>?_,q⟩;have e:b=s1.heap.objs.size:=by simpa using hb
 subst e;exact j.fpOk (dA _) (j.hok.fresh (dA _))
theorem Yl {x:Str} {g:TG} {tt:TT} {te:TE} {D:St} {H1:Hp} {acc:Addr} {Q:VK} (Pv:Nat->St->Hp->Prop) (h0:Pv 0 D (upd H1 acc (.lst [])))
  (hs:∀i c σ H,x.cps[i]? = some c->Pv i σ H->g (.str ⟨#[c]⟩) σ H fun j H4=>tt j H4 fun b G=>
   if b=true then te j G fun y H6=>∃ys,H6 acc=some (.lst ys)/\ys.length < sizeLine/\Pv (i+1) j (upd H6 acc (.lst (ys++[y]))) else Pv (i+1) j G)
  (hd:∀σ H,Pv x.cps.size σ H->Q (.ref acc) H):Tq (Itx x) g tt te acc D H1 Q:=by
 refine⟨fun i m σ H=>m=x.cps.size - i/\i<=x.cps.size/\Pv i σ H,⟨x.cps.size,by simp,yB _,h0⟩,?_⟩;rintro i m σ H ⟨rfl,hi,p⟩;by_cases F:i < x.cps.size
 ·refine .inr ⟨F,Pv (i+1),fun σ' H' J=>⟨x.cps.size - (i+1),by omega,rfl,F,J⟩,fun v H' y=>?_⟩;obtain⟨e,c,O,ev⟩:=y;subst e ev;exact hs i c σ _ O p
 ·have e:i=x.cps.size:=by omega
  subst e;exact .inl ⟨dA _,hd σ H p⟩
section
variable {X:Cx} {st:Stmt} {ts:TS} {h0:ExceptHandler} {hs:List ExceptHandler} {tpos:Pos}
end
end L2
namespace GS
open PySem PyProof.Rows PySem.W
section
variable {prog:Program} {w:World} {A:Around} {E:Value->Shared->Prop} {s:Shared}
end
end GS
namespace L2
open PySem PySem.Spec PyProof.Rows PySem.W
theorem Lr (f:Array Value->Array Value) (o:Obj):(Obj.mapFields f o).dict=o.dict:=by unfold Obj.mapFields;split<;>rfl
noncomputable def zs7 (B h:Heap) (e:Addr) (vs:Array Value):Option Value->Prop
 |none=>vs[1]? = some .none
 |some D=>∃T j ts,vs[1]? = some (.ref T)/\B.get? T=none/\T≠e/\h.get? T=some j/\j.data=.fields ts/\ts[3]? = some D
structure Sta (B:Heap) (l:List Env) (e:Addr) (cls:Value) (dd:Option Addr) (tr:Option Value) (h:Heap):Prop where
  stay:B.StaysIn h
  new:B.get? e=none
  funs:h.FunFrames B l
  obj:∃oe vs,h.get? e=some oe/\oe.cls=cls/\oe.dict=dd/\oe.data=.fields vs/\1 < vs.size/\zs7 B h e vs tr/\(dd≠none->vs[2]? = some .none)
theorem Sta.tail {B h:Heap} {env:Env} {l:List Env} {e:Addr} {cls:Value} {dd:Option Addr} {tr:Option Value} (x:Sta B (env::l) e cls dd tr h):Sta B l e cls dd tr h:=
 ⟨x.stay,x.new,x.funs.2.2,x.obj⟩
section
variable {M:Model} {A:Around} {E:Value->Shared->Prop} {s:Shared} {B:Heap} {env:Env} {l outer:List Env} {L e:Addr} {cls:Value} {dd:Option Addr} {Q:Unit->Shared->Prop}
theorem Ub {oe:Obj} {vs:Array Value} {head:Value} {nx:Bool} (J:A.frames=some (env::outer)) (hl:s.heap.FunFrames B (env::outer)) (hf:env.frame=some L) (st:B.StaysIn s.heap) (new:B.get? e=none)
    (he:s.heap.get? e=some oe) (hd:oe.data=.fields vs) (O:1 < vs.size) (S:oe.dict≠none->vs[2]? = some .none) (k:∀h',Sta B (env::outer) e oe.cls oe.dict (some (rawInt L)) h'->s.heap.UpToSlots h'->Q () { s with heap:=h'}) :
    wpAny M A (do let a ←frameOf env;let pl ←entryPlaceOf L nx;let b ←EntryCells.newEntry head a .none (rawInt L) .none pl;setField (.ref e) 1 b) Q E s:=by
  have nofr:e∉(env::outer).filterMap (·.frame):=fun hm=>by obtain⟨_,o,Y,hn⟩:=hl.mem hm;rw [he] at Y;cases Y;exact hn vs hd
  refine cA (wpAny_frameOf_fun J hl hf fun h1 G=>cA (wpAny_entryPlaceOf fun pl hpl=>?_));unfold EntryCells.newEntry newFields;refine cA (kG ?_ (hpl.sizeOk5 _ _ _ _ _));obtain⟨ts,U,h3⟩:∃ts:Array Value,ts=([head,.ref L,.none,rawInt L,.none]++(if pl.isEmpty then List.replicate 6 Value.none else pl)).toArray/\ts[3]? = some (rawInt L):=
    ⟨_,rfl,by first |(simp;done) |(rcases hpl with rfl |⟨_,_,_,_,_,_,_,rfl⟩<;>simp)⟩
  rw [←U];have e1:h1.get? e=some oe:=(G.2.1 e nofr).trans he;have D:B.StaysIn h1:=fun b o q=>(G.2.1 b fun hm=>by rw [(hl.mem hm).1] at q;cases q).trans (st b o q);have e2:=iA (h:=h1) { cls:=.type "traceback",dict:=none,data:=.fields ts} e1;have F:h1.objs.size≠e:=Nat.ne_of_gt (kB e1);refine wpAny_setField e2 hd O (k _ ?_ ?_)
  all_goals
    have Z:=aH hd (·.setIfInBounds 1 (Value.ref h1.objs.size));have e3:=bD (Obj.mapFields (·.setIfInBounds 1 (Value.ref h1.objs.size))) e2 (Obj.isFreed_of_fields Z);have old:∀b o,b≠e->h1.get? b=some o->((h1.push { cls:=.type "traceback",dict:=none,data:=.fields ts}).update e (Obj.mapFields (·.setIfInBounds 1 (Value.ref h1.objs.size)))).get? b=some o:=fun b o nb q=>by rw [dC _ _ (eE nb)];exact iA _ q
    have j:∀b o,s.heap.get? b=some o->(∀ws,o.data≠.fields ws)->b≠e:=fun b o q hn z=>by rw [z,he] at q;cases q;exact hn vs hd
  · refine⟨fun b o q=>old b o (fun z=>by rw [z,new] at q;cases q) (D b o q),new,hl.of_keeps fun b o q hn=>?_,_,_,e3,Obj.cls_mapFields _ _,Lr _ _,Z,by simpa using O,⟨h1.objs.size,_,ts,by simp [O],D.fresh,F,
      ⟨(dC _ _ (eE F)).trans (zB h1 rfl),rfl,h3⟩⟩,fun z=>by rw [Array.getElem?_setIfInBounds_ne (by decide)];exact S z⟩
    obtain⟨sl,q1⟩:=G.2.2 b o q;exact⟨_,old b _ (j b o q hn) q1,rfl⟩
  · intro b o q hn
    obtain⟨sl,q1⟩:=G.2.2 b o q;exact⟨sl,old b _ (j b o q hn) q1⟩
theorem Dv {tr:Option Value} (F:A.frames=some (env::outer)) (hf:env.frame=some L) (J:tr=none\/tr=some .none) (x:Sta B (env::outer) e cls dd tr s.heap)
  (k:∀h',Sta B (env::outer) e cls dd (some (rawInt L)) h'->s.heap.UpToSlots h'->Q () { s with heap:=h'}):wpAny M A (noteFrame (.ref e) env) Q E s:=by
 obtain⟨st,new,hl,oe,vs,he,U,D,hd,Y,tl,G⟩:=x;unfold noteFrame;simp only [hf];rcases J with rfl |rfl
 ·have h1:vs[1]? = some .none:=tl;refine cA (fF he hd h1 ?_);rw [oA (by decide)];exact Ub F hl hf st new he hd Y (fun z=>G (D▸z)) fun h' y u=>k h' (by rw [←U,←D];exact y) u
 ·obtain⟨T,oT,ts,h1,nT,O,S,dT,Z⟩:=tl;refine cA (fF he hd h1 ?_);rw [kA (show (Value.ref T != Value.none)=true from by simp)];refine cA (fF S dT Z ?_);rw [oA (show ¬((Value.none == rawInt L)=true) from by simp [rawInt])];refine cA (wpAny_setField S dT (fG.mp Z).1 ?_);have other:∀b,b≠T->(s.heap.update T (Obj.mapFields (·.setIfInBounds 3 Value.none))).get? b=s.heap.get? b:=fun b hb=>dC _ _ (eE hb);have j:∀b o,s.heap.get? b=some o->(∀ws,o.data≠.fields ws)->b≠T:=fun b o q hn z=>by
   rw [z,S] at q;cases q;exact hn ts dT
  refine Ub F (hl.of_keeps fun b o q hn=>⟨o,(other b (j b o q hn)).trans q,rfl⟩) hf (fun b o q=>(other b fun z=>by rw [z,nT] at q;cases q).trans (st b o q)) new ((other e (eE O)).trans he) hd Y (fun z=>G (D▸z))
   fun h' y u=>k h' (by rw [←U,←D];exact y) fun b o q hn=>u b o ((other b (j b o q hn)).trans q) hn
theorem Ba {U:Value} (x:Sta B l e cls dd (some U) s.heap) (k:∀h',Sta B l e cls dd (some .none) h'->s.heap.UpToSlots h'->Q () { s with heap:=h'}):wpAny M A (setFlight (.ref e) none) Q E s:=by
 obtain⟨st,new,hl,oe,vs,he,Y,G,hd,Z,⟨T,oT,ts,h1,S,D,J,dT,h3⟩,O⟩:=x;have F:3 < ts.size:=(fG.mp h3).1;have other:∀b,b≠T->(s.heap.update T (Obj.mapFields (·.setIfInBounds 3 ((none:Option Addr).elim Value.none fun f=>rawInt f)))).get? b=s.heap.get? b:=fun b hb=>dC _ _ (eE hb);have j:∀b o,s.heap.get? b=some o->(∀ws,o.data≠.fields ws)->b≠T:=fun b o q hn z=>by rw [z,J] at q;cases q;exact hn ts dT
 unfold setFlight;refine cA (fF he hd h1 ?_);rw [kA (show (Value.ref T != Value.none)=true from by simp)];refine wpAny_setField J dT F (k _ ⟨fun b o q=>(other b fun z=>by rw [z,S] at q;cases q).trans (st b o q),new,hl.of_keeps fun b o q hn=>⟨o,(other b (j b o q hn)).trans q,rfl⟩,oe,vs,
  (other e (eE D)).trans he,Y,G,hd,Z,⟨T,_,_,h1,S,D,bD _ J (Obj.isFreed_of_fields (aH dT _)),aH dT _,by simp [F]⟩,O⟩ fun b o q hn=>⟨o.slots,(other b (j b o q hn)).trans q⟩)
theorem zl7 {U:Value} (x:Sta B l e cls dd (some U) s.heap) (k:∀h',Sta B l e cls dd (some (rawInt L)) h'->s.heap.UpToSlots h'->Q () { s with heap:=h'}):wpAny M A (setFlight (.ref e) (some L)) Q E s:=by
 obtain⟨st,new,hl,oe,vs,he,Y,G,hd,Z,⟨T,oT,ts,h1,S,D,J,dT,h3⟩,O⟩:=x;have F:3 < ts.size:=(fG.mp h3).1;have other:∀b,b≠T->(s.heap.update T (Obj.mapFields (·.setIfInBounds 3 ((some L:Option Addr).elim Value.none fun f=>rawInt f)))).get? b=s.heap.get? b:=fun b hb=>dC _ _ (eE hb);have j:∀b o,s.heap.get? b=some o->(∀ws,o.data≠.fields ws)->b≠T:=fun b o q hn z=>by rw [z,J] at q;cases q;exact hn ts dT
 unfold setFlight;refine cA (fF he hd h1 ?_);rw [kA (show (Value.ref T != Value.none)=true from by simp)];refine wpAny_setField J dT F (k _ ⟨fun b o q=>(other b fun z=>by rw [z,S] at q;cases q).trans (st b o q),new,hl.of_keeps fun b o q hn=>⟨o,(other b (j b o q hn)).trans q,rfl⟩,oe,vs,
  (other e (eE D)).trans he,Y,G,hd,Z,⟨T,_,_,h1,S,D,bD _ J (Obj.isFreed_of_fields (aH dT _)),aH dT _,by simp [F]⟩,O⟩ fun b o q hn=>⟨o.slots,(other b (j b o q hn)).trans q⟩)
theorem qg5 (hf:env.frame=some L) (x:Sta B l e cls dd (some (rawInt L)) s.heap) (k:Q () s):wpAny M A (noteFrame (.ref e) env) Q E s:=by obtain⟨st,new,hl,oe,vs,he,hc,hdd,hd,hz,⟨T,oT,ts,h1,nT,hTe,j,dT,D⟩,hcx⟩:=x;unfold noteFrame;simp only [hf];refine cA (fF he hd h1 ?_);rw [kA (show (Value.ref T != Value.none)=true from by simp)];refine cA (fF j dT D ?_);rw [kA (show (rawInt L == rawInt L)=true from by simp)];exact eB k
theorem Zw (hf:env.frame=some L) (x:Sta B (env::outer) e cls dd (some (rawInt L)) s.heap)
  (k:∀h',Sta B outer e cls dd (some .none) h'->s.heap.UpToSlots h'->Q () { s with heap:=h'}):wpAny M A (leaving env (.ref e)) Q E s:=by
 unfold leaving;exact cA (qg5 hf x (Ba x fun h2 z j=>k h2 z.tail j))
theorem qd4 {tr:Option Value} (j:A.frames=some (env::outer)) (hf:env.frame=some L) (D:tr=none\/tr=some .none) (x:Sta B (env::outer) e cls dd tr s.heap)
  (k:∀h',Sta B outer e cls dd (some .none) h'->s.heap.UpToSlots h'->Q () { s with heap:=h'}):wpAny M A (leaving env (.ref e)) Q E s:=by
 unfold leaving;exact cA (Dv j hf D x fun h1 y u=>Ba y fun h2 z F=>k h2 z.tail (u.trans F))
end
theorem ObjOk.there {P:Program} {w:World} {H:Hp} {h:Heap} {a:Addr}:∀{o:HO},ObjOk P w H h a o->∃u,h.get? a=some u
 | .lst xs,x=>by obtain⟨_,_,_,_,e⟩:=x;exact⟨_,e⟩
 | .tup xs,x=>by obtain⟨_,_,_,o,e,_⟩:=x;exact⟨_,e⟩
 | .dK kvs,x=>by obtain⟨_,_,_,_,o,_,_,e,_⟩:=x;exact⟨_,e⟩
 | .dT kvs,x=>by obtain⟨_,_,_,_,o,_,_,e,_⟩:=x;exact⟨_,e⟩
 | .set S n,x=>by obtain⟨o,_,_,_,e,_⟩:=x;exact⟨_,e⟩
 | .ins C dx fs,x=>by obtain⟨_,_,_,e,_⟩:=x;exact⟨_,e⟩
 | .own y,x=>by obtain⟨_,e⟩:=x;exact⟨_,e⟩
 | .xd fs,x=>by obtain⟨_,⟨_,_,_,e,_⟩,_⟩:=x;exact⟨_,e⟩
 | .rng lo hi,x=>by obtain⟨_,_,_,e⟩:=x;exact⟨_,e⟩
 | .frz ob u,x=>by obtain⟨e,_⟩:=x;exact⟨_,e⟩
 | .tbl ps,x=>⟨_,(show h.get? a=some _ from x)⟩
 | .met f y,x=>⟨_,(show h.get? a=some _ from x)⟩
 | .ext φ,x=>by obtain⟨_,⟨_,e⟩,_⟩:=x;exact⟨_,e⟩
structure Fly (P:Program) (w:World) (base:Heap) (outer:List Env) (H:Hp) (s:Shared) (s':Shared) (ea:Addr) (cls:Value) (dd:Option Addr) (B:Heap) (H':Hp):Prop where
  os:s'.os=s.os
  bare:AllBare s'.gens
  fly:Sta B outer ea cls dd (some .none) s'.heap
  hok:HOk P w H' B
  bst:base.StaysIn B
  un:Un (frs outer) [] H H' s.heap s'.heap
  keepB:∀b o,s.heap.get? b=some o->H b=none->b∉frs outer->B.get? b=some o
  thereB:∀b o,s.heap.get? b=some o->b∉frs outer->∃o',B.get? b=some o'
noncomputable def CX1 (P:Program) (w:World) (base:Heap):CXT:=fun outer H s E e s'=>∃(ea:Addr) (cls:Value) (dd:Option Addr) (B:Heap) (H':Hp),e=.ref ea/\Fly P w base outer H s s' ea cls dd B H'/\E cls dd H'
section
variable {P:Program} {w:World} {base:Heap} {outer:List Env} {H H':Hp} {s s':Shared} {ea:Addr} {cls:Value} {dd:Option Addr} {B:Heap}
theorem Fly.notB (f:Fly P w base outer H s s' ea cls dd B H'):H' ea=none:=by
 cases e:H' ea with
 |none=>rfl
 |some o=>obtain⟨u,q⟩:=ObjOk.there (f.hok ea o e);rw [f.fly.new] at q;cases q
theorem Fly.go (f:Fly P w base outer H s s' ea cls dd B H') {l:List Env} {h':Heap} (D:Sta B l ea cls dd (some .none) h') (up:s'.heap.UpToSlots h'):Un (frs outer) [] H H' s.heap h' where
  keep:=fun b o e n hb _=>D.stay b o (f.keepB b o e n hb)
  slot:=fun b o e n hb hx=>by obtain⟨sl,e1⟩:=f.un.slot b o e n hb hx;obtain⟨_,o',e2,d⟩:=f.fly.funs.mem hb;rw [e1] at e2;have e2:=nB e2;subst e2;obtain⟨j,e3⟩:=up b _ e1 d;exact⟨j,e3⟩
  free:=f.un.free
  there:=fun b o e hx=>by
    by_cases hb:b∈frs outer
    · obtain⟨_,o',e2,d⟩:=f.fly.funs.mem hb
      obtain⟨sl,e3⟩:=up b _ e2 d;exact⟨_,e3⟩
    · obtain⟨o',e1⟩:=f.thereB b o e hb
      exact⟨o',D.stay b o' e1⟩
  tups:=f.un.tups
  frzs:=f.un.frzs
  tbls:=f.un.tbls
end
noncomputable def qf4 (H:Hp) (a:Addr):Hp:=fun b=>if b=a then none else H b
theorem J4 {H:Hp} {a b:Addr} (h:b≠a):qf4 H a b=H b:=by unfold qf4;rw [oA h]
theorem Dn {H:Hp} {a:Addr}:qf4 H a a=none:=by unfold qf4;rw [kA rfl]
theorem U0 {H:Hp} {a:Addr} (h:H a=none):qf4 H a=H:=funext fun b=>by
 by_cases q:b=a
 ·rw [q,Dn,h]
 ·exact J4 q
theorem qn5 {H:Hp} {a b:Addr} (h:H b=none):qf4 H a b=none:=by
 by_cases q:b=a
 ·rw [q,Dn]
 ·rw [J4 q,h]
noncomputable def LooseAt (H:Hp) (a:Addr):Prop:=H a=none\/∃φ,H a=some (.ext φ)
theorem LooseAt.ne {H:Hp} {a b:Addr} {o:HO} (l:LooseAt H a) (e:H b=some o) (h:∀φ,o≠.ext φ):b≠a:=by
 rintro rfl;rcases l with z |⟨φ,z⟩
 ·rw [z] at e;cases e
 ·rw [z] at e;cases e;exact h φ rfl
noncomputable def zq3 (X:Cx) (E:XK):Prop:=∀(pins:List (Addr×Obj)) (σ:St) (H:Hp) (s:Shared) (h':Heap) (ea:Addr) (cls:Value) (args:List Value),Inv X pins σ H s->Heap.MadeExcOf s.heap h' ea cls args->E cls none H->X.xe (.ref ea) { s with heap:=h'}
noncomputable def qx0 (X:Cx) (E:XK):Prop:=∀(pins:List (Addr×Obj)) (σ:St) (H:Hp) (s:Shared) (ea:Addr) (oe:Obj) (vs:Array Value),Inv X pins σ H s->s.heap.get? ea=some oe->oe.data=.fields vs->1 < vs.size->vs[1]? = some .none->(oe.dict≠none->vs[2]? = some .none)->X.s₀.heap.get? ea=none->LooseAt H ea ->
 E oe.cls oe.dict (qf4 H ea)->X.xe (.ref ea) s
section
variable {P:Program} {w:World} {K:PySem.W.Frag} {mg:Str->Option Value} {base:Heap} {N:List Str} {qual:Str} {scope:Scope} {f:Addr} {cd:Value} {A:Around} {outer:List Env} {s₀:Shared} {H₀:Hp} {E:XK}
theorem qk7 {pins:List (Addr×Obj)} {σ:St} {H:Hp} {s:Shared} {ea:Addr} {oe:Obj} {vs:Array Value} {h'':Heap} (I:Inv (vz (CX1 P w base) P w K mg base N qual scope f cd A outer s₀ H₀ E) pins σ H s) (he:s.heap.get? ea=some oe) (hd:oe.data=.fields vs) (D:s₀.heap.get? ea=none) (lo:LooseAt H ea) (S:E oe.cls oe.dict (qf4 H ea))
  (x1:Sta (hideAll s.heap (ea::frs (envOfC qual scope s₀.heap.objs.size f cd::outer))) outer ea oe.cls oe.dict (some .none) h'') (U:s.heap.UpToSlots h''):CX1 P w base outer H₀ s₀ E (.ref ea) { s with heap:=h''}:=by
 have st:=I.stack;have hin:∀env∈(envOfC qual scope s₀.heap.objs.size f cd::outer),∀b,env.frame=some b->b∈ea::frs (envOfC qual scope s₀.heap.objs.size f cd::outer):=fun env he b hb=>vA _ (mI.mpr ⟨env,he,hb⟩);have F:∀b o,s₀.heap.get? b=some o->b≠ea:=fun b o e z=>by have D:s₀.heap.get? ea=none:=D;rw [z,D] at e;cases e
 have G:∀b o,s₀.heap.get? b=some o->b∉frs outer->b∉ea::frs (envOfC qual scope s₀.heap.objs.size f cd::outer):=fun b o e hb hm=>by
  rcases gB.mp hm with z |hm
  ·exact F b o e z
  rcases gB.mp (I.stkSub b hm) with z |z
  ·exact absurd (kB e) (by rw [z];exact Nat.not_lt.mpr I.ok.above)
  ·exact hb z
 have up:s.heap.UpToSlots h'':=U;have j:∀b o,s.heap.get? b=some o->b∉ea::frs (envOfC qual scope s₀.heap.objs.size f cd::outer)->(hideAll s.heap (ea::frs (envOfC qual scope s₀.heap.objs.size f cd::outer))).get? b=some o:=fun b o e hb=>hideAll_get _ e hb;have fwd:∀b o,H b=some o->(∀φ,o≠.ext φ)->qf4 H ea b=some o:=fun b o e h=>by rw [J4 (lo.ne e h)];exact e
 have nb:∀b,(∃o,H b=some o/\∀φ,o≠.ext φ)\/(b≠ea/\H b≠none)->b∉ea::frs (envOfC qual scope s₀.heap.objs.size f cd::outer):=fun b h hm=>by
  have J:b≠ea:=by
   rcases h with ⟨o,e,h⟩ |h
   ·exact lo.ne e h
   ·exact h.1
  rcases gB.mp hm with z |hm
  ·exact J z
  have hf:=I.stkFree b hm;rcases h with ⟨o,e,_⟩ |h
  ·rw [hf] at e;cases e
  ·exact h.2 hf
 refine⟨ea,oe.cls,oe.dict,_,qf4 H ea,rfl,⟨I.os,I.bare,x1,fun a o e=>?_,fun b o e=>?_,⟨fun b o e n hb _=>?_,fun b o e n hb _=>?_,fun b o e n _=>qn5 (I.base.free b o e n (by intro z;cases z)),fun b o e _=>?_,
  fun b xs e=>fwd b _ (I.base.tups b xs e) (by intro φ z;cases z),fun b o u e=>fwd b _ (I.base.frzs b o u e) (by intro φ z;cases z),fun b ps e=>?_⟩,fun b o e n hb=>?_,fun b o e hb=>?_⟩,S⟩
 ·have ne:a≠ea:=fun z=>by rw [z,Dn] at e;cases e
  rw [J4 ne] at e;refine (I.hok a o e).stay (fun b u hb q=>j b u q (nb b ?_)) (fun b q=>fwd b _ q (by intro φ z;cases z)) fun b xs q=>fwd b _ q (by intro φ z;cases z);rcases hb with rfl |hb
  ·exact .inr ⟨ne,by rw [e];intro z;cases z⟩
  ·exact .inl ⟨_,hb,by intro φ z;cases z⟩
 ·refine j b o (I.bk b o e) fun hm=>?_;have hb:=I.bs b o e;rcases gB.mp hm with z |hm
  ·obtain⟨o',e'⟩:=I.ok.bs b o e;exact F b o (I.ok.bs b o e).1 z
  have z:base.get? b=none:=(st.mem hm).1;rw [z] at e;cases e
 ·exact x1.stay b o (j b o (I.base.keep b o e n hb (by intro z;cases z)) (G b o e hb))
 ·obtain⟨sl,e1⟩:=I.base.slot b o e n hb (by intro z;cases z);obtain⟨_,o',e2,d⟩:=I.ok.funs.mem hb;have e2:s₀.heap.get? b=some o':=e2;rw [e] at e2;have e2:=nB e2;subst e2;obtain⟨O,e3⟩:=up b _ e1 d;exact⟨O,e3⟩
 ·obtain⟨o',e1⟩:=I.base.there b o e (by intro z;cases z);by_cases hb:b∈frs (envOfC qual scope s₀.heap.objs.size f cd::outer)
  ·obtain⟨_,o2,e2,d⟩:=st.mem hb;obtain⟨sl,e3⟩:=up b _ e2 d;exact⟨_,e3⟩
  ·exact⟨o',x1.stay b o' (j b o' e1 (by
    intro hm;rcases gB.mp hm with z |hm
    ·exact F b o e z
    ·exact hb hm))⟩
 ·obtain⟨m,e1⟩:=I.base.tbls b ps e;exact⟨m,fwd b _ e1 (by intro φ z;cases z)⟩
 ·exact j b o (I.base.keep b o e n hb (by intro z;cases z)) (G b o e hb)
 ·obtain⟨o',e1⟩:=I.base.there b o e (by intro z;cases z);exact⟨o',j b o' e1 (G b o e hb)⟩
theorem qk8 {pins:List (Addr×Obj)} {σ:St} {H:Hp} {s:Shared} {ea:Addr} {oe:Obj} {vs:Array Value} (I:Inv (vz (CX1 P w base) P w K mg base N qual scope f cd A outer s₀ H₀ E) pins σ H s) (he:s.heap.get? ea=some oe) (hd:oe.data=.fields vs) (F:1 < vs.size) (h1:vs[1]? = some .none) (j:oe.dict≠none->vs[2]? = some .none) :
  Sta (hideAll s.heap (ea::frs (envOfC qual scope s₀.heap.objs.size f cd::outer))) (envOfC qual scope s₀.heap.objs.size f cd::outer) ea oe.cls oe.dict none s.heap:=by
 have st:=I.stack;have D:∀env∈(envOfC qual scope s₀.heap.objs.size f cd::outer),∀b,env.frame=some b->b∈ea::frs (envOfC qual scope s₀.heap.objs.size f cd::outer):=fun env he b hb=>vA _ (mI.mpr ⟨env,he,hb⟩);exact⟨fun b o q=>of_hideAll _ q,hideAll_none _ uA,funFrames_hide st D,oe,vs,he,rfl,rfl,hd,F,h1,j⟩
theorem uq:qx0 (vz (CX1 P w base) P w K mg base N qual scope f cd A outer s₀ H₀ E) E:=by intro pins σ H s ea oe vs I he hd F h1 D j lo G;exact qd4 I.ok.frames rfl (.inl rfl) (qk8 I he hd F h1 D) fun h'' x1 J=>qk7 I he hd j lo G x1 J
theorem zg8 {X:Cx} (hex:X.ex=[]) (L:qx0 X E):zq3 X E:=by
 intro pins σ H s h' ea cls args I j D;obtain⟨t,he,_⟩:=j.there;have hn:H ea=none:=by
  cases q:H ea with
  |none=>rfl
  |some o=>obtain⟨u,z⟩:=ObjOk.there (I.hok ea o q);rw [j.new] at z;cases z
 refine L pins σ H { s with heap:=h'} ea _ _ (I.kept (t':=s.toks) j.keeps) he rfl (by simp) rfl (fun z=>absurd rfl z) ?_ (.inl hn) ?_
 ·cases q:X.s₀.heap.get? ea with
  |none=>rfl
  |some o=>obtain⟨o',z⟩:=I.base.there ea o q (by rw [hex];intro z;cases z);rw [j.new] at z;cases z
 ·rw [U0 hn];exact D
theorem Ny:zq3 (vz (CX1 P w base) P w K mg base N qual scope f cd A outer s₀ H₀ E) E:=zg8 rfl uq
end
noncomputable def qx8 (C:Addr) (E:XK) (t:TA):TS:=fun _ σ H=>t σ H fun vs H1=>vs.length<=sizeLine/\E (.ref C) none H1
theorem qs5 {X:Cx} {x:Str} {C:Addr} {bmB:List Value} {newId B initId:String} {E:XK} {e0:Expr} {t:TA} {np cpos pos:Pos} (FB:ExcBaseFacts B newId initId bmB) (O:OwnCls x C bmB newId X.mg X.base) (Z:X.calm=true) (hg:Gl X x) (L:zq3 X E) (ha:PA X [e0] t)
  (J:(x == ("__debug__" : Str))=false:=by decide) (he:starEach [e0] X.env=(false,eval e0 X.env)::starEach [] X.env:=by rfl) (hpl:(backTo cpos (starEach [] X.env)).any (·.1)=false:=by rfl) :
  PS X (.Raise (some (.Call (.Name x np) [e0] [] cpos)) none pos) (qx8 C E t):=by
 intro pins s σ H D I h;obtain⟨tl,N,nm,q,bs,hdct,sn,sub,ab,col,dd,k0,k1,k2,k3,k5,mN,hC,hN,S,T⟩:=O.obj;have G:(backTo cpos (starEach [e0] X.env)).any (·.1)=false:=by rw [he];show (false ||(backTo cpos (starEach [] X.env)).any (·.1))=false;rw [hpl];rfl
 refine wpAny_Raise_call_subT (C:=C) (nm:=nm) (q:=q) (N:=N) (bs:=bs) (bm:=tl) (hdct:=hdct) (sn:=sn) (sub:=sub) (ab:=ab) (col:=col) (dd:=dd) (k0:=k0) (k1:=k1) (k2:=k2) (k3:=k3) (k5:=k5)
  FB (mN:=mN) (T.hasType FB.hasBase) (I.ok.hd Z) G S (um I hg O.bound ⟨rfl,?_⟩ J)
 have U:=thn (ha cpos pins s σ H _ I h) (Q':=fun vs F=>vs.length<=sizeLine/\(∀b o,X.base.get? b=some o->F.heap.get? b=some o)/\∀h' e,Heap.MadeExcOf F.heap h' e (.ref C) vs->X.xe (.ref e) { F with heap:=h'}) fun us s1 ⟨vs,H1,Y,r1,z,q1⟩=>
  ⟨by rw [←r1.length];exact z,Y.bk,fun h' e mx=>L pins σ H1 s1 h' e _ _ Y mx q1⟩
 rw [he] at U ⊢;exact lG (oC U (fun vs F j=>⟨rfl,j.1,j.2.1 _ _ hC,hN.keeps j.2.1,T.keeps j.2.1,j.2.2⟩) fun _ _ y=>y)
noncomputable def qa9 (X:Cx) (ea:Addr) (oe:Obj):Cx:={ X with A:=X.A.mark (some (.ref ea)),calm:=false,pn:=(ea,oe)::X.pn,xe:=fun _ _=>False}
theorem Inv.toEx {X:Cx} {pins:List (Addr×Obj)} {σ:St} {H:Hp} {s:Shared} {ea:Addr} {oe:Obj} {vs:Array Value} (I:Inv X pins σ H s) (he:s.heap.get? ea=some oe) (hd:oe.data=.fields vs) (hn:H ea=none):Inv (qa9 X ea oe) pins σ H s where
  ok:=⟨I.ok.mod,I.ok.kind,I.ok.glob,I.ok.blt,I.ok.above,I.ok.inj,I.ok.has,I.ok.cab,fun z=>(by cases z),I.ok.frames,I.ok.stk,I.ok.exf,I.ok.bs,I.ok.bsz,I.ok.noex,I.ok.exfs,I.ok.funs,I.ok.frf⟩
  os:=I.os
  bare:=I.bare
  base:=I.base
  loc:=I.loc
  cell:=I.cell
  free:=I.free
  freeC:=I.freeC
  pin:=fun p hp=>by
    rcases gB.mp hp with rfl |hp
    · refine⟨he,hn,fun z=>?_,fun z=>?_,fun v z=>by rw [hd] at z;cases z⟩
      · obtain⟨m,⟨o,es,ep,j,D,_⟩,_⟩:=I.loc
        have z:ea=X.env.locals:=z;rw [←z,he] at j;cases j;rw [hd] at D;cases D
      · obtain⟨_,o,j,d⟩:=I.funs.mem z
        have j:s.heap.get? ea=some o:=j;rw [he] at j;cases j;exact d vs hd
    · exact I.pin p hp
  hok:=I.hok
  len:=I.len
theorem Inv.ofEx {X:Cx} {pins:List (Addr×Obj)} {σ:St} {H:Hp} {s:Shared} {ea:Addr} {oe:Obj} (ok:X.Ok) (I:Inv (qa9 X ea oe) pins σ H s):Inv X pins σ H s:=
 ⟨ok,I.os,I.bare,I.base,I.loc,I.cell,I.free,I.freeC,fun p hp=>I.pin p (vA _ hp),I.hok,I.len⟩
theorem SP.ofEx {X:Cx} {pins:List (Addr×Obj)} {D:Ends} {f:Flow} {s:Shared} {ea:Addr} {oe:Obj} (ok:X.Ok) (h:SP (qa9 X ea oe) pins D f s):SP X pins D f s:=by
 cases f with
 |next=>obtain⟨j,H',I,q⟩:=h;exact⟨j,H',I.ofEx ok,q⟩
 |brk=>obtain⟨j,H',I,q⟩:=h;exact⟨j,H',I.ofEx ok,q⟩
 |cont=>obtain⟨j,H',I,q⟩:=h;exact⟨j,H',I.ofEx ok,q⟩
 |ret u=>obtain⟨v,j,H',I,r,q⟩:=h;exact⟨v,j,H',I.ofEx ok,r,q⟩
theorem Yh {M:Model} {h:Heap} {ea:Addr} {oe:Obj} {cls:Value} (he:h.get? ea=some oe) (j:oe.cls=cls):Looks M h (typeOf (.ref ea)) cls:=j▸(Looks.ld he).andThen .now
theorem landed {X:Cx} {pins:List (Addr×Obj)} {σ:St} {H H':Hp} {s s':Shared} {ea:Addr} {cls:Value} {dd:Option Addr} {B h':Heap} (I:Inv X pins σ H s) (F:Fly X.prog X.w X.base X.stack H s s' ea cls dd B H') (j:Sta B X.stack ea cls dd (some .none) h') (up:s'.heap.UpToSlots h') :
  ∃oe vs,Inv X pins σ H' { s' with heap:=h'}/\h'.get? ea=some oe/\oe.cls=cls/\oe.data=.fields vs:=by
 have u:=F.go j up;obtain⟨oe,vs,he,D,hq,hd,_⟩:=j.obj;exact⟨oe,vs,I.call' (s':={ s' with heap:=h'}) (ch:=[]) F.os u (F.hok.kept fun b o q=>j.stay b o q) F.bare (fun b z=>absurd z (by simp)),he,D,hd⟩
theorem Fly.on {P:Program} {w:World} {base:Heap} {outer:List Env} {H H':Hp} {s s':Shared} {ea:Addr} {cls:Value} {dd:Option Addr} {B h':Heap} (F:Fly P w base outer H s s' ea cls dd B H') (j:Sta B outer ea cls dd (some .none) h') (up:s'.heap.UpToSlots h') :
  Fly P w base outer H s { s' with heap:=h'} ea cls dd B H':=⟨F.os,F.bare,j,F.hok,F.bst,F.go j up,F.keepB,F.thereB⟩
noncomputable def Catch (X:Cx) (pins:List (Addr×Obj)) (D:Ends) (hs:List ExceptHandler):Value->Shared->Prop:=fun e j=>
 wpAny (model X.prog X.w) X.A (noteFrame e X.env) (fun _ F=>wpAny (model X.prog X.w) X.A (setFlight e none) (fun _ G=>wpAny (model X.prog X.w) X.A (handleBy e X.env hs) (SP X pins D) X.xe G) X.xe F) X.xe j
theorem zl2 {X:Cx} {pins:List (Addr×Obj)} {σ:St} {H H':Hp} {s s':Shared} {ea L:Addr} {cls:Value} {dd:Option Addr} {B:Heap} {D:Ends} {x:Str} {C:Addr} {np hpos:Pos} {b0:Stmt} {suite:List Stmt} {rest:List ExceptHandler} {ts:TS} {env0:List Env}
  (J:X.stack=X.env::env0) (a3:X.env.frame=some L) (hg:Gl X x) (hm:X.mg x=some (.ref C)) (hx:exmOne X.K cls (.ref C)=some true) (I:Inv X pins σ H s) (F:Fly X.prog X.w X.base X.stack H s s' ea cls dd B H')
  (a4:∀oe,oe.cls=cls->PSs (qa9 X ea oe) (b0::suite) ts) (q:ts D σ H') (a5:(x == ("__debug__" : Str))=false:=by decide) :
  Catch X pins D (.ExceptHandler (some (.Name x np)) none (b0::suite) hpos::rest) (.ref ea) s':=by
 have S:X.A.frames=some (X.env::env0):=by rw [←J];exact I.ok.frames
 have G:=F.fly;rw [J] at G;refine Dv S a3 (.inr rfl) G fun h1 O up1=>?_;refine Ba O fun h2 j U=>?_;rw [←J] at j;have F2:=F.on j (up1.trans U);obtain⟨oe,vs,I2,Y,a6,hd2⟩:=landed I F j (up1.trans U);have X2:=I2.toEx (oe:=oe) Y hd2 F.notB;refine wpAny_handleBy_cons (codeAny_handlers_test ?_) (by intro z;cases z);refine um X2 hg hm ?_ a5;refine (exm_one I2.kIn (Yh Y a6) hx).here ?_;rw [kA rfl];refine codeAny_handlers_suite ?_;refine Ba j fun h3 a7 a8=>?_;obtain⟨Z,vs3,I3,a9,aa,ae⟩:=landed I F2 a7 a8;have X3:=I3.toEx (oe:=Z) a9 ae F.notB;refine oC (a4 Z aa pins _ σ H' D X3 q) (fun fl s4 h4=>?_) fun _ _ z=>z.elim;exact SP.ofEx I.ok h4
structure Cal1 (P:Program) (w:World) (K:PySem.W.Frag) (mg:Str->Option Value) (base:Heap) (k:Nat) (x:Str) (ps:List Str) (sp:Sp):Prop where
  ex:∃(f:Addr) (fd:FuncData),FnOk P w K mg base (CX1 P w base) k f fd ps sp/\mg x=some (.ref f)/\PySem.W.keepIn K (.ref f)=true/\Binds K fd ps []
theorem zi5 {P:Program} {w:World} {base:Heap} {X:Cx}:Ys (CX1 P w base) X E0:=fun _ _ _ _ _ _ _ ⟨_,_,_,_,_,_,_,h⟩=>h.elim
theorem ql6 {X:Cx} {k:Nat} {x:Str} {ps:List Str} {sp:Sp} {e:Expr} {es:List Expr} {t:TA} {p pos:Pos} (c:Cal1 X.prog X.w X.K X.mg X.base k x ps sp) (D:Room k X.A) (G:Gl X x) (ha:PA X (e::es) t)
  (j:(x == ("__debug__" : Str))=false:=by decide) (he:starEach (e::es) X.env=(false,eval e X.env)::starEach es X.env:=by rfl) (hpl:(backTo pos (starEach es X.env)).any (·.1)=false:=by rfl) :
  PE X (.Call (.Name x p) (e::es) [] pos) (zh1 sp [] E0 t):=by
 obtain⟨f,fd,F,hm,hk,hb⟩:=c.ex;exact ql7 F D G hm hk hb .nil zi5 ha j he hpl
theorem Fun.ok1 {P:Program} {w:World} {K:PySem.W.Frag} {mg:Str->Option Value} {base:Heap} {x qual:Str} {st:Stmt} {f:Addr} {fd:FuncData} {N ps:List Str} {k:Nat} {sp:Sp} (F:Fun K x qual st f fd) (S:FnScope N ps (qm st)) (len:∀vs H Q E,sp vs H Q E->vs.length=ps.length)
  (j:∀(cdv:Value) (A:Around) (outer:List Env) (s:Shared) (H:Hp) (vs:List V) (Q:VK) (E:XK),Room k (A.deeper (envOfC qual (qm st) s.heap.objs.size f cdv))->sp vs H Q E ->
   ∃t,PSs (vz (CX1 P w base) P w K mg base N qual (qm st) f cdv A outer s H E) (zy st) t/\t { nx:=fun _ H'=>Q .non H',rt:=Q} (start N vs) H):FnOk P w K mg base (CX1 P w base) (k+1) f fd ps sp:=by
 obtain⟨oc,od,kV,doc,pm,an,cdv,ct,osl,rfl,J,D⟩:=F.ex;exact zj4 J D S len fun A outer s H vs Q E O G=>j cdv A outer s H vs Q E O G
theorem At0.cal1 {P:Program} {w:World} {K:PySem.W.Frag} {mg:Str->Option Value} {base h:Heap} {k:Nat} {x:Str} {st:Stmt} {ps:List Str} {sp:Sp} (a:At0 K x st) (X:K.In h) (G:h.Ns mainGlobals mg)
  (hb:∀(kV doc pm:Value) (an:Option Addr) (cdv ct:Value) (us:List Value),us.length=ps.length->bindArgs (PySem.W.fnOf x x (Az st) (zy st) (qm st) .none kV doc pm an cdv ct) ⟨us,[]⟩=pure (ps.zip us))
  (ok:∀(f:Addr) (fd:FuncData),Fun K x x st f fd->FnOk P w K mg base (CX1 P w base) k f fd ps sp):Cal1 P w K mg base k x ps sp:=by
 obtain⟨f,fd,F,e⟩:=a.ex;exact⟨f,fd,ok f fd F,cF X G e,F.kp,F.binds hb⟩
structure ExcC (K:PySem.W.Frag) (mg:Str->Option Value) (base:Heap) (x:Str) (C:Addr):Prop where
  own:∃bmB newId B initId,ExcBaseFacts B newId initId bmB/\OwnCls x C bmB newId mg base
  mg:mg x=some (.ref C)
theorem qz9 {K:PySem.W.Frag} {base:Heap} {mg:Str->Option Value} {x:Str} {C:Addr} {bmB:List Value} {newId:String} (X:K.In base) (G:base.Ns mainGlobals mg) (e:nsIn K mainGlobals x=some (some (.ref C))) (q:excIn K C bmB newId=true):OwnCls x C bmB newId mg base:=by
 refine⟨mg_of X G e,?_⟩;unfold excIn at q;split at q
 ·rename_i dd cd sl O;split at q
  ·rename_i C' bm k0 k1 k2 k3 n k5 hm hs;simp only [bC,beq_iff_eq,pH] at q;obtain⟨⟨⟨⟨⟨e1,e2⟩,j⟩,F⟩,hok⟩,D⟩:=q;subst e1 e2;obtain⟨nm,bs,mro,ns,S,hd,sn,sub,ab,col,del⟩:=cd;simp only at hm j hok D;subst hm j;have J:sl=#[k0,k1,k2,k3,some (.builtin n),k5]:=by
    cases sl;simp only at hs;rw [hs]
   subst J;exact⟨bm,ns,nm,S,bs,hd,sn,sub,ab,col,dd,k0,k1,k2,k3,k5,_,X _ _ O,.of_isNs (isNs_of_in X hok),nsMap_none_of_in X hok D,tail_of_in X F⟩
  ·cases q
 ·cases q
theorem Jh {X:Cx} {x:Str} {C:Addr} {E:XK} {e0:Expr} {t:TA} {np cpos pos:Pos} (O:ExcC X.K X.mg X.base x C) (D:X.calm=true) (F:Gl X x) (L:zq3 X E) (ha:PA X [e0] t)
  (j:(x == ("__debug__" : Str))=false:=by decide) (he:starEach [e0] X.env=(false,eval e0 X.env)::starEach [] X.env:=by rfl) (hpl:(backTo cpos (starEach [] X.env)).any (·.1)=false:=by rfl) :
  PS X (.Raise (some (.Call (.Name x np) [e0] [] cpos)) none pos) (qx8 C E t):=by
 obtain⟨bmB,newId,B,initId,FB,O⟩:=O.own;exact qs5 FB O D F L ha j he hpl
section
variable {X:Cx} {k:Nat} {x y:Str} {C L:Addr} {ps:List Str} {sp:Sp} {e:Expr} {es:List Expr} {t:TA} {ts:TS} {env0:List Env} {p np pos epos tpos hpos:Pos} {b0:Stmt} {suite:List Stmt}
theorem Ou {pins:List (Addr×Obj)} {s:Shared} {σ:St} {H:Hp} {Q:VK} {E:XK} {J:Value->Shared->Prop} (c:Cal1 X.prog X.w X.K X.mg X.base k x ps sp) (S:Room k X.A) (U:Gl X x) (ha:PA (X.wish J) (e::es) t) (I:Inv X pins σ H s)
  (hx:∀(H1:Hp) (s1:Shared) (v:Value) (s2:Shared),Inv X pins σ H1 s1->CX1 X.prog X.w X.base X.stack H1 s1 E v s2->J v s2) (h:t σ H fun vs H1=>sp vs H1 Q E)
  (O:(x == ("__debug__" : Str))=false) (he:starEach (e::es) X.env=(false,eval e X.env)::starEach es X.env) (hpl:(backTo pos (starEach es X.env)).any (·.1)=false) :
  wpAny (model X.prog X.w) X.A (eval (.Call (.Name x p) (e::es) [] pos) X.env) (EP X pins σ Q) J s:=by
 obtain⟨f,fd,F,hm,hk,hb⟩:=c.ex;refine wG (um I U hm ?_ O);refine PySem.W.callWith_K (h₀:=X.base) I.ok.mod.kin hk (thn (ha pos pins s σ H _ (I.wish J) h) fun us s1 ⟨vs,H1,j,r,q⟩=>⟨j.kIn,?_⟩) he hpl;have j:=j.unwish;have hl:(us++([]:List Value)).length=ps.length:=by rw [xC,←r.length];exact F.len _ _ _ _ q
 have D:=hb s1 us j.kIn hl;rw [xC] at D;refine wpAny_call (codeAny_mono (F.run X.A X.stack s1 H1 ⟨us,[]⟩ us vs Q E S j.env0 D r q) fun res s2 G=>?_);cases res with
 |error v=>exact hx H1 s1 v s2 j G
 |ok Y=>
  cases Y with
  |ret u=>exact j.after G
  |next=>exact False.elim G
  |brk=>exact False.elim G
  |cont=>exact False.elim G
noncomputable def zr3 (K:PySem.W.Frag) (C:Addr) (sp:Sp) (t:TA) (ts:TS):TS:=fun D σ H=>t σ H fun vs H1=>sp vs H1 (fun _ H2=>D.nx σ H2) (fun cls _ H2=>exmOne K cls (.ref C)=some true/\ts D σ H2)
theorem ze9 (c:Cal1 X.prog X.w X.K X.mg X.base k x ps sp) (hr:Room k X.A) (G:X.stack=X.env::env0) (J:X.env.frame=some L) (hg:Gl X x) (O:Gl X y) (S:X.mg y=some (.ref C)) (ha:∀XE,PA (X.wish XE) (e::es) t)
  (U:∀ea oe,PSs (qa9 X ea oe) (b0::suite) ts) (Y:(x == ("__debug__" : Str))=false:=by decide) (Z:(y == ("__debug__" : Str))=false:=by decide)
  (he:starEach (e::es) X.env=(false,eval e X.env)::starEach es X.env:=by rfl) (hpl:(backTo pos (starEach es X.env)).any (·.1)=false:=by rfl) (a3:swapsWith (.Call (.Name x p) (e::es) [] pos) none epos.line X.env=pure false:=by rfl) :
  PS X (.Try [.Expr (.Call (.Name x p) (e::es) [] pos) epos] [.ExceptHandler (some (.Name y np)) none (b0::suite) hpos] [] [] tpos) (zr3 X.K C sp t ts):=by
 intro pins s σ H D I h;refine wpAny_Try_except ?_;refine xE ?_;refine oC (wpAny_Expr_any (Q:=fun f s1=>f=.next/\∃H1,Inv X pins σ H1 s1/\D.nx σ H1) (E:=Catch X pins D [.ExceptHandler (some (.Name y np)) none (b0::suite) hpos])
  (oC (Ou (E:=fun cls _ H2=>exmOne X.K cls (.ref C)=some true/\ts D σ H2) (Q:=fun _ H2=>D.nx σ H2) c hr hg (ha _) I (fun H1 s1 v s2 j ⟨ea,cls,dd,B,H',ev,F,hx,q⟩=>?_) h Y he hpl) (fun v s1 ⟨z,H1,j,_,q⟩=>⟨rfl,H1,j,q⟩) fun _ _ z=>z) I.quiet a3) (fun f s1 ⟨ef,H1,j,q⟩=>?_) fun _ _ z=>z
 ·subst ef;exact lE (lE ⟨σ,H1,j,q⟩)
 ·subst ev;exact zl2 G J O S hx j F (fun oe _=>U ea oe) q Z
end
theorem Wo {prog:Program} {w:World} {A:Around} {E:Value->Shared->Prop} {s:Shared} {x c t:Value} {K:PySem.W.Frag} {Q:Value->Shared->Prop} (X:K.In s.heap) (LT:Looks (model prog w) s.heap (typeOf x) t) (ne:(t == c)=false) (e:kitOne K t c=some true)
  (hx:x≠.builtin "__main__.__loader__#opaque") (h:Q (.bool true) s):wpAny (model prog w) A (call (.builtin "isinstance") [x,c]) Q E s:=by
 refine call_isinstance_of ?_ hx;obtain⟨G,g,d,tk,os⟩:=s;unfold kitOne at e;rw [oA (by rw [ne];exact bB)] at e;unfold Builtin.«isinstance.nested»;refine cA (LT.at ?_);rw [oA (by rw [ne];exact bB)];obtain⟨D,F,j⟩:=kit_cls (M:=model prog w) X e;have J:Looks (model prog w) G (isInstance x c) true:=LT.andThen j;refine cA (D.at ?_);rw [kA (by decide)]
 k_delta "plainIsInstance"
 refine cA (cA (F.at ?_));simp only [Bool.not_true,fC,yE];refine cA (J.at ?_)
 first
  |exact eB (eB h)
  |(simp only [yF];first |exact eB (eB h) |exact eB h |exact cA (eB (eB h)))
theorem qa4 {X:Cx} {ea:Addr} {oe:Obj} {T:String}:Ag (qa9 X ea oe) (.builtin "isinstance") (fun xs H Q=>xs=[.ref ea,.ty T]/\(oe.cls == .type T)=false/\kitOne X.K oe.cls (.type T)=some true/\Q (.bl true) H):=by intro pins s σ H xs us Q I r h;obtain⟨rfl,ne,e,q⟩:=h;obtain⟨u,j,rfl,D,F⟩:=vals2 r;cases D;cases (show j=Value.type T from F);have G:=(I.pin (ea,oe) uA).1;exact Wo I.kIn (Yh G rfl) ne e (by intro z;cases z) ⟨.bl true,H,I,rfl,q⟩
theorem Inv.forgot {X:Cx} {pins:List (Addr×Obj)} {σ:St} {H:Hp} {s:Shared} {F:Str->Option Value} {h':Heap} {t':Nat} (I:Inv X pins σ H s) (hn:h'.Ns X.env.locals F) (j:Heap.SameBut X.env.locals s.heap h'):Inv X pins (List.replicate X.N.length none) H { s with heap:=h',toks:=t'} where
  ok:=I.ok
  os:=I.os
  bare:=I.bare
  base:=by
    have ne:∀b o,X.s₀.heap.get? b=some o->b≠X.env.locals:=fun b o e=>rC (qC (kB e) I.ok.above);refine⟨fun b o e n hb hx=>(j.2 b (ne b o e)).trans (I.base.keep b o e n hb hx),fun b o e n hb hx=>?_,I.base.free,fun b o e hx=>?_,I.base.tups,I.base.frzs,I.base.tbls⟩
    · obtain⟨sl,e1⟩:=I.base.slot b o e n hb hx
      exact⟨sl,(j.2 b (ne b o e)).trans e1⟩
    · obtain⟨o',e1⟩:=I.base.there b o e hx
      exact⟨o',(j.2 b (ne b o e)).trans e1⟩
  loc:=⟨F,hn,fun i x v _ e _=>by
    rw [List.getElem?_replicate] at e;split at e
    · cases e
    · cases e⟩
  cell:=fun x c e=>by obtain⟨v,z⟩:=I.cell x c e;exact⟨v,z.sameBut j (I.cne x c e)⟩
  free:=I.free
  freeC:=I.freeC
  pin:=fun p hp=>by obtain⟨e,n,ne,G,d⟩:=I.pin p hp;exact⟨(j.2 p.1 ne).trans e,n,ne,G,d⟩
  hok:=fun b J e=>by
    refine (I.hok b J e).stay (fun c w' D q=>(j.2 c ?_).trans q) (fun _ q=>q) fun _ _ q=>q;rintro rfl;rcases D with D |D
    · rw [←D,I.free] at e;cases e
    · rw [I.free] at D;cases D
  len:=by simp
theorem zb5 {X:Cx} {pins:List (Addr×Obj)} {σ:St} {H H':Hp} {s s':Shared} {ea L:Addr} {cls:Value} {dd:Option Addr} {B:Heap} {D:Ends} {y n:Str} {C:Addr} {i:Nat} {np hpos p1 p2 p3 p4 p5:Pos} {rest:List ExceptHandler} {env0:List Env}
    (U:X.stack=X.env::env0) (aa:X.env.frame=some L) (hg:Gl X y) (hm:X.mg y=some (.ref C)) (hx:exmOne X.K cls (.ref C)=some true) (I:Inv X pins σ H s) (F:Fly X.prog X.w X.base X.stack H s s' ea cls dd B H')
    (hN:X.N.Nodup) (hi:X.N[i]? = some n) (hl:X.env.scope.names.lookup n=some .local) (ae:Gl X "isinstance") (af:X.mg "isinstance" = none) (ag:Gl X "ValueError") (ah:X.mg "ValueError" = none)
    (ne:(cls == .type "ValueError")=false) (hk:kitOne X.K cls (.type "ValueError")=some true) (q:D.rt (.bl true) H') (ai:(y == ("__debug__" : Str))=false:=by decide) (aj:(n == ("__debug__" : Str))=false:=by decide) (ak:(n == ("__classdict__" : Str))=false:=by decide)
    (he:starEach [.Name n p2,.Name "ValueError" p3] X.env=(false,eval (.Name n p2) X.env)::starEach [.Name "ValueError" p3] X.env:=by rfl) (hpl:(backTo p4 (starEach [.Name "ValueError" p3] X.env)).any (·.1)=false:=by rfl) :
    Catch X pins D (.ExceptHandler (some (.Name y np)) (some n) [.Return (some (.Call (.Name "isinstance" p1) [.Name n p2,.Name "ValueError" p3] [] p4)) p5] hpos::rest) (.ref ea) s':=by
  have a4:X.A.frames=some (X.env::env0):=by rw [←U];exact I.ok.frames
  have O:=F.fly;rw [U] at O;refine Dv a4 aa (.inr rfl) O fun h1 Y up1=>?_;refine Ba Y fun h2 G a5=>?_;rw [←U] at G;have F2:=F.on G (up1.trans a5);obtain⟨oe,vs,I2,a6,ao,hd2⟩:=landed I F G (up1.trans a5);have X2:=I2.toEx (oe:=oe) a6 hd2 F.notB;refine wpAny_handleBy_cons (codeAny_handlers_test ?_) (by intro z;cases z);refine um X2 hg hm ?_ ai;refine (exm_one I2.kIn (Yh a6 ao) hx).here ?_;rw [kA rfl];refine codeAny_handlers_suite_as ?_;refine Ba G fun h3 aq ar=>?_;obtain⟨J,vs3,I3,au,a7,av⟩:=landed I F2 aq ar;have X3:=I3.toEx (oe:=J) au av F.notB;refine Bo (X:=qa9 X ea J) (v:=.ref ea) X3 hN hi (.inl hl) rfl (fun s4 X4=>?_) (.inr hl);have a8:i < σ.length:=by rw [I.len];exact (bA.mp hi).1
  have aw:Vis (qa9 X ea J).env.scope n:=.inl hl;have term:PSs (qa9 X ea J) [.Return (some (.Call (.Name "isinstance" p1) [.Name n p2,.Name "ValueError" p3] [] p4)) p5] _:=
    qp (zb (q8 (qa4 (T := "ValueError")) ae af oB (qb (qz5 hi aw aj ak) (qb (yh (v:=.ty "ValueError") ag ah PyProof.Rows.Boot.«ValueError» rfl) qi)) (he:=he) (hpl:=hpl)))
  refine oC (term pins _ _ H' { nx:=fun _ _=>False,rt:=D.rt} X4 (zc4 (v:=.ref ea) (by rw [sI a8]) ⟨rfl,by rw [a7];exact ne,by rw [a7];exact hk,q⟩)) (fun fl s5 h5=>?_) fun _ _ z=>z.elim;have h6:=SP.ofEx I.ok h5;have fin:∀{a9:St} {S:Hp},Inv X pins a9 S s5->∀Q:Unit->Shared->Prop,(∀j s6,Inv X pins j S s6->Q () s6)->wpAny (model X.prog X.w) X.A (do bindName X.env n .none;unbindBehindTheSuite X.env n hpos) Q X.xe s5:=fun {a9 S} Z Q k=>by obtain⟨m,ax,_⟩:=Z.loc;refine wpAny_nameGoes hl ax (by rw [I.ok.kind];rfl) fun h' m' ay az=>?_;exact k _ _ (Z.forgot (t':=s5.toks+1) ay az)
  cases fl with
  |ret u=>obtain⟨v,a3,S,Z,r5,q5⟩:=h6;exact fin Z _ fun j s6 I6=>⟨v,j,S,I6,r5,q5⟩
  |next=>obtain⟨a3,S,Z,q5⟩:=h5;exact q5.elim
  |brk=>obtain⟨a3,S,Z,q5⟩:=h5;exact q5.elim
  |cont=>obtain⟨a3,S,Z,q5⟩:=h5;exact q5.elim
section
variable {X:Cx} {k:Nat} {x y n:Str} {C L:Addr} {ps:List Str} {sp:Sp} {e:Expr} {es:List Expr} {t:TA} {env0:List Env} {p np pos epos tpos hpos p1 p2 p3 p4 p5:Pos} {i:Nat}
noncomputable def zp9 (K:PySem.W.Frag) (C:Addr) (sp:Sp) (t:TA):TS:=fun D σ H=>t σ H fun vs H1=>sp vs H1 (fun _ H2=>D.nx σ H2) (fun cls _ H2=>exmOne K cls (.ref C)=some true/\(cls == .type "ValueError")=false/\kitOne K cls (.type "ValueError")=some true/\D.rt (.bl true) H2)
theorem qo9 (c:Cal1 X.prog X.w X.K X.mg X.base k x ps sp) (hr:Room k X.A) (J:X.stack=X.env::env0) (O:X.env.frame=some L) (hg:Gl X x) (S:Gl X y) (U:X.mg y=some (.ref C)) (ha:∀XE,PA (X.wish XE) (e::es) t)
  (hN:X.N.Nodup) (hi:X.N[i]? = some n) (hl:X.env.scope.names.lookup n=some .local) (Y:Gl X "isinstance") (Z:X.mg "isinstance" = none) (a3:Gl X "ValueError") (a4:X.mg "ValueError" = none)
  (a5:(x == ("__debug__" : Str))=false:=by decide) (a6:(y == ("__debug__" : Str))=false:=by decide) (a7:(n == ("__debug__" : Str))=false:=by decide) (a8:(n == ("__classdict__" : Str))=false:=by decide)
  (he:starEach (e::es) X.env=(false,eval e X.env)::starEach es X.env:=by rfl) (hpl:(backTo pos (starEach es X.env)).any (·.1)=false:=by rfl) (a9:swapsWith (.Call (.Name x p) (e::es) [] pos) none epos.line X.env=pure false:=by rfl)
  (aa:starEach [.Name n p2,.Name "ValueError" p3] X.env=(false,eval (.Name n p2) X.env)::starEach [.Name "ValueError" p3] X.env:=by rfl) (j:(backTo p4 (starEach [.Name "ValueError" p3] X.env)).any (·.1)=false:=by rfl) :
  PS X (.Try [.Expr (.Call (.Name x p) (e::es) [] pos) epos] [.ExceptHandler (some (.Name y np)) (some n) [.Return (some (.Call (.Name "isinstance" p1) [.Name n p2,.Name "ValueError" p3] [] p4)) p5] hpos] [] [] tpos) (zp9 X.K C sp t):=by
 intro pins s σ H D I h;refine wpAny_Try_except ?_;refine xE ?_;refine oC (wpAny_Expr_any (Q:=fun f s1=>f=.next/\∃H1,Inv X pins σ H1 s1/\D.nx σ H1) (E:=Catch X pins D [.ExceptHandler (some (.Name y np)) (some n) [.Return (some (.Call (.Name "isinstance" p1) [.Name n p2,.Name "ValueError" p3] [] p4)) p5] hpos])
  (oC (Ou (E:=fun cls _ H2=>exmOne X.K cls (.ref C)=some true/\(cls == .type "ValueError")=false/\kitOne X.K cls (.type "ValueError")=some true/\D.rt (.bl true) H2) (Q:=fun _ H2=>D.nx σ H2) c hr hg (ha _) I (fun H1 s1 v s2 G ⟨ea,cls,dd,B,H',ev,F,hx,ne,hk,q⟩=>?_) h a5 he hpl) (fun v s1 ⟨z,H1,G,_,q⟩=>⟨rfl,H1,G,q⟩) fun _ _ z=>z) I.quiet a9) (fun f s1 ⟨ef,H1,G,q⟩=>?_) fun _ _ z=>z
 ·subst ef;exact lE (lE ⟨σ,H1,G,q⟩)
 ·subst ev;exact zb5 J O S U hx G F hN hi hl Y Z a3 a4 ne hk q a6 a7 a8 aa j
end
section
variable {X:Cx} {k:Nat} {x y z:Str} {C L:Addr} {ps:List Str} {sp:Sp} {e:Expr} {es:List Expr} {t:TA} {ts:TS} {env0:List Env} {p np pos zpos apos tpos hpos:Pos} {b0:Stmt} {suite:List Stmt} {i:Nat}
end
end L2
namespace GT
open PySem L2
noncomputable def Je (x:Cell) (j:Nat):Cell:=⟨x.top+j / x.w,x.left+j % x.w,1,1,if j=0 then x.words else []⟩
noncomputable def Bx (x:Cell) (j:Nat):Dd:=.tup [.int ((x.top+j / x.w:Nat):Int),.int ((x.left+j % x.w:Nat):Int)]
theorem Z5 (x:Cell) (j:Nat):NoL (Bx x j):=.tup fun d hd=>by
 simp only [gB,zF,or_false] at hd;rcases hd with rfl |rfl
 ·exact .int _
 ·exact .int _
theorem Zr (x:Cell) (l:List Nat):∀d∈l.map (Bx x),NoL d:=fun d hd=>by obtain⟨j,_,rfl⟩:=xA.mp hd;exact Z5 x j
theorem inC_part {x:Cell} {j r c:Nat}:inC (Je x j) r c↔r=x.top+j / x.w/\c=x.left+j % x.w:=by unfold inC Je;show x.top+j / x.w<=r/\r < x.top+j / x.w+1/\x.left+j % x.w<=c/\c < x.left+j % x.w+1↔_;omega
theorem qz8 {w i j:Nat} (D:j < w):(i * w+j) / w=i/\(i * w+j) % w=j:=by
 have hw:0 < w:=by omega
 constructor
 ·rw [wH,Nat.mul_add_div hw,Nat.div_eq_of_lt D];rfl
 ·rw [wH,Nat.mul_add_mod,Nat.mod_eq_of_lt D]
theorem qt5 {x:Cell} {j r c:Nat} (D:j < x.h * x.w) (h:inC (Je x j) r c):inC x r c:=by
 obtain⟨e1,e2⟩:=inC_part.mp h;have hw:0 < x.w:=Nat.pos_of_ne_zero fun e=>by rw [e] at D;omega
 have a1:j / x.w < x.h:=by rw [Nat.div_lt_iff_lt_mul hw];exact D
 have a2:j % x.w < x.w:=Nat.mod_lt _ hw;generalize j / x.w=q1 at *;generalize j % x.w=q2 at *;exact⟨by omega,by omega,by omega,by omega⟩
theorem Yr {x:Cell} {r c:Nat} (h:inC x r c):∃j,j < x.h * x.w/\inC (Je x j) r c:=by
 unfold inC at h;obtain⟨q1,q2⟩:=qz8 (w:=x.w) (i:=r - x.top) (j:=c - x.left) (by omega);refine⟨(r - x.top) * x.w+(c - x.left),?_,inC_part.mpr ⟨by rw [q1];omega,by rw [q2];omega⟩⟩
 have:(r - x.top+1) * x.w<=x.h * x.w:=uH _ (by omega);rw [mG] at this;omega
theorem qa3 (x:Cell) (i:Nat):(List.range (i * x.w)).map (Bx x)++(List.range x.w).map (fun j=>Dd.tup [.int ((x.top+i:Nat):Int),.int ((x.left+j:Nat):Int)])=(List.range ((i+1) * x.w)).map (Bx x):=by rw [mG,List.range_add,lA,gD];congr 1;refine pG fun j D=>?_;obtain⟨q1,q2⟩:=qz8 (w:=x.w) (i:=i) (j:=j) (yD.mp D);show _=Bx x (i * x.w+j);unfold Bx;rw [q1,q2]
noncomputable def nl1:Str:=⟨#[10]⟩
noncomputable def emp:Str:=⟨#[]⟩
theorem sign_in:∀c∈signs.cps.toList,(!(Builtin.Str.occurrences signs ⟨#[c]⟩ 0 signs.length 1).isEmpty)=true:=by decide +kernel
theorem Jz {c y:Nat}:∀{ws:List (List Nat)},y∈xg c ws->y=c\/∃w∈ws,y∈w
 | [],h=>by simp [xg] at h
 | [w],h=>.inr ⟨w,by simp,h⟩
 |w::v::r,h=>by
  have h:y∈w++c::xg c (v::r):=h;rcases rB.mp h with h |h
  ·exact .inr ⟨w,by simp,h⟩
  ·rcases gB.mp h with h |h
   ·exact .inl h
   ·rcases Jz h with h |⟨u,j,h⟩
    ·exact .inl h
    ·exact .inr ⟨u,vA _ j,h⟩
theorem Yi:∀(r:List Str) (acc:Array Nat),(r.foldl (fun acc p=>acc++(#[]:Array Nat)++p.cps) acc).toList=acc.toList++(r.map fun p=>p.cps.toList).flatten
 | [],acc=>by simp
 |p::r,acc=>by rw [zC,Yi r];simp
theorem Aq (ws:List Str):(Av emp ws).cps.toList=(ws.map fun w=>w.cps.toList).flatten:=by
 cases ws with
 |nil=>rfl
 |cons w r=>show ((r.foldl (fun acc p=>acc++(#[]:Array Nat)++p.cps) w.cps).toList)=_;rw [Yi];rfl
theorem Dl (a b:Str):(a++b).cps.toList=a.cps.toList++b.cps.toList:=PySem.W.KT.app_list a b
noncomputable def Wb (ls:List Str):Str:=Av emp (ls.map fun x=>x++nl1)
theorem Ml:∀rows:List (List Nat),(rows.map (·++[10])).flatten=xg 10 (rows++[[]])
 | []=>rfl
 | [r]=>by simp [xg]
 |r::v::rs=>by have ih:=Ml (v::rs);rw [aC,jD,ih];show r++[10]++_=r++10::xg 10 (v::rs++[[]]);simp
theorem qs8 (ls:List Str):Wb ls=Av nl1 (ls++[emp]):=str_ext (by
 unfold Wb nl1;rw [Aq,ue,lA,gD]
 have:=Ml (ls.map fun x=>x.cps.toList);rw [gD] at this;show _=xg 10 ((ls.map fun x=>x.cps.toList)++[[]]);rw [←this];congr 1;refine pG fun x _=>?_;show (x++⟨#[10]⟩:Str).cps.toList=x.cps.toList++[10]
 rw [Dl])
theorem Jm {ls:List Str} (h:∀x∈ls,10∉x.cps.toList):Txt.split (Wb ls) nl1=ls++[emp]:=by
 rw [qs8];refine Zh (by decide) (by simp) fun w hw=>?_;rcases rB.mp hw with hw |hw
 ·exact h w hw
 ·have:w=emp:=by simpa using hw
  rw [this];decide
theorem zc0 (ws:List Str):(Av emp ws).length=(ws.map (·.length)).sum:=by
 have e:∀x:Str,x.length=x.cps.toList.length:=fun x=>by simp [Str.length]
 rw [e,Aq,List.length_flatten,gD];congr 1
theorem Gg (ys:List V) (y:V):Ax (ys++[y]) none (some (-1))=ys:=by
 unfold Ax;have e1:HT.sIx (ys++[y]).length 0 none=0:=rfl;have e2:HT.sIx (ys++[y]).length (ys++[y]).length (some (-1))=ys.length:=by show (if (-1:Int) < 0 then ((-1:Int)+((ys++[y]).length:Int)).toNat else min (-1:Int).toNat (ys++[y]).length)=ys.length;rw [kA (by omega),wA,jE];omega
 rw [e1,e2,sH,Nat.sub_zero,List.take_left]
end GT
namespace L2
open PySem PySem.Spec PyProof.Rows PySem.W
open Sem (wp)
section
variable {prog:Program} {w:World} {A:Around} {E:Value->Shared->Prop} {h:Heap} {g:Array GenState} {d:Drawn} {t:Nat} {os:OsState}
variable {nm q:Str} {C N:Addr} {bs bm bmB:List Value} {hdct:Bool} {sn:List Str} {sub:List Value} {ab:Bool} {col:Option Bool} {dd:Option Addr} {k0 k1 k2 k3 k5:Option Value} {B newId initId:String}
noncomputable def Bw (h:Heap) (C:Addr) (us:List Value):Heap:=(h.push { cls:=.type "tuple",data:=.seq us.toArray}).push { cls:=.ref C,data:=.fields #[.ref h.objs.size,.none,.none,.none,.bool false,.none]}
theorem km {us:List Value} {b:Addr} {o:Obj} (e:h.get? b=some o):(Bw h C us).get? b=some o:=iA _ (iA _ e)
theorem Ux {us:List Value}:(Bw h C us).get? (h.objs.size+1)=some { cls:=.ref C,data:=.fields #[.ref h.objs.size,.none,.none,.none,.bool false,.none]}:=by unfold Bw;heap_get
theorem Lp (F:ExcBaseFacts B newId initId bmB) (T:OwnTail h bmB bm) {mN:Str->Option Value} {us:List Value} {fI:Addr} {oI:Obj} {Q:Fin->Shared->Prop}
  (hC:h.get? C=some (excClassObj nm q C N bs bm hdct sn sub ab col dd k0 k1 k2 k3 k5 newId)) (hn:h.Ns N mN) (hi:mN "__init__" = some (.ref fI)) (hf:h.get? fI=some oI) (G:oI.cls=.type "function") (hl:us.length<=sizeLine)
  (k:wpAny (model prog w) A (call (.ref fI) (.ref (h.objs.size+1)::us)) (fun r s'=>r=.none/\Q (.done (.ret (.ref (h.objs.size+1)))) s') E ⟨Bw h C us,g,d,t,os⟩) :
  wpAny (model prog w) A (Builtin.«type.__call__» ⟨.ref C::us,[]⟩) Q E ⟨h,g,d,t,os⟩:=by
 repeat (first |with_reducible refine dF hC ?_ |with_reducible refine wpAny_madeBy_exc hC ?_ |wp_step)
 refine codeAny_call_builtin_code (Code.quiet_builtin _ F.quiet) (wpAny_check_new_subT F T hC ?_);refine codeAny_exc_new_subT F T hC ?_ hl;show wpAny _ _ _ _ _ ⟨Bw h C us,g,d,t,os⟩;have j:=km (C:=C) (us:=us) hC;have D:(Bw h C us).Ns N mN:=hn.keeps fun b o e=>km e;have J:=T.keeps fun b o e=>km (C:=C) (us:=us) e;have he:=Ux (h:=h) (C:=C) (us:=us);have O:(Value.ref C::bm).contains (.ref C)=true:=by simp
 unfold isInstance
 repeat (first |with_reducible refine dF he ?_ |(with_reducible refine wpAny_isSubtype_exc j ?_;rw [O]) |wp_step)
 show wpAny _ _ (typeLookup (.ref C) _) _ _ _;refine wpAny_typeLookup_tail j D J F.mroIs F.init.lookup ?_;rw [hi];refine sD (cA ?_);unfold bindSpecial;refine cA (wpAny_typeOf (T := "function") ⟨_,km hf,G⟩ ?_);rw [kA (by decide)];refine eB (cA (oC k (fun r s' S=>?_) fun _ _ x=>x));obtain⟨rfl,U⟩:=S
 wp_walk
 exact U
theorem qj4 (F:ExcBaseFacts B newId initId bmB) (T:OwnTail h bmB bm) {mN:Str->Option Value} {us:List Value} {fI:Addr} {oI:Obj} {Q:Value->Shared->Prop}
  (hC:h.get? C=some (excClassObj nm q C N bs bm hdct sn sub ab col dd k0 k1 k2 k3 k5 newId)) (hn:h.Ns N mN) (hi:mN "__init__" = some (.ref fI)) (hf:h.get? fI=some oI) (j:oI.cls=.type "function") (hl:us.length<=sizeLine)
  (k:wpAny (model prog w) (A.under (.builtin "type.__call__" ⟨.ref C::us,[]⟩)) (call (.ref fI) (.ref (h.objs.size+1)::us)) (fun r s'=>r=.none/\Q (.ref (h.objs.size+1)) s') E ⟨Bw h C us,g,d,t,os⟩) :
  wpAny (model prog w) A (call (.ref C) us) Q E ⟨h,g,d,t,os⟩:=by
 have f1:=tc_lookup;have f2:=tc_bind (.ref C);have hT:(⟨h,g,d,t,os⟩:Shared).TypeIs (.ref C) "type" := ⟨_,hC,rfl⟩
 refine wpAny_call (codeAny_of_tree ?_);show wpAny _ _ (callAny (.ref C) _) _ _ _
 repeat (any_goals (first |assumption |with_reducible refine dF hC ?_ |wp_step))
 refine⟨rfl,?_⟩;exact codeAny_call_builtin_at (Code.quiet_builtin _ (by decide +kernel)) entry_typeCall (wpAny_check_type_call_sub hC (Lp F T hC hn hi hf j hl k))
end
section
variable {M:Model} {A:Around} {E:Value->Shared->Prop} {env:Env}
variable {nm q:Str} {C N:Addr} {bs bm:List Value} {hdct:Bool} {sn:List Str} {sub:List Value} {ab:Bool} {col:Option Bool} {dd:Option Addr} {k0 k1 k2 k3 k5:Option Value} {newId:String}
noncomputable abbrev Bh (C:Addr) (dx:Option Addr) (a0:Value) (sl:Array (Option Value)):Obj:={ cls:=.ref C,dict:=dx,data:=.fields #[a0,.none,.none,.none,.bool false,.none],slots:=sl}
theorem Zu {s:Shared} {x:Sem Value} {Q:Flow->Shared->Prop} (j:bm.contains (.type "BaseException")=true) (F:A.handled=none)
  (h:wpAny M A x (fun v s1=>∃e dx a0 sl,v=.ref e/\s1.heap.get? C=some (excClassObj nm q C N bs bm hdct sn sub ab col dd k0 k1 k2 k3 k5 newId)/\s1.heap.get? e=some (Bh C dx a0 sl)/\E (.ref e) s1) E s) :
  wpAny M A (raiseStmt env (some x) none) Q E s:=by
 have D:(Value.ref C::bm).contains (.type "BaseException")=true:=by rw [List.contains_cons,j,Bool.or_true]
 unfold raiseStmt;refine cA (oC h (fun v s1 h1=>?_) fun _ _ x=>x);obtain⟨e,dx,a0,sl,rfl,hC,he,G⟩:=h1;obtain⟨hp,g,d,tk,os⟩:=s1
 repeat (first |with_reducible refine dF he ?_ |with_reducible refine dF hC ?_ |(with_reducible refine wpAny_isSubtype_exc hC ?_;rw [D]) |wp_step)
 exact wpAny_raiseNew_none F G
end
section
variable {prog:Program} {w:World} {A:Around} {E:Value->Shared->Prop} {s:Shared} {env:Env}
variable {nm q:Str} {C N:Addr} {bs bm bmB:List Value} {hdct:Bool} {sn:List Str} {sub:List Value} {ab:Bool} {col:Option Bool} {dd:Option Addr} {k0 k1 k2 k3 k5:Option Value} {B newId initId:String}
theorem qa2 (F:ExcBaseFacts B newId initId bmB) {mN:Str->Option Value} {fI:Addr} {oI:Obj} {x:Str} {np cpos pos:Pos} {args:List Expr} {Q:Flow->Shared->Prop}
  (D:bm.contains (.type "BaseException")=true) (U:A.handled=none) (j:(backTo cpos (starEach args env)).any (·.1)=false) (hi:mN "__init__" = some (.ref fI)) (Y:oI.cls=.type "function")
  (h:wpAny (model prog w) A (eval (.Name x np) env) (fun f s1=>f=.ref C/\wpAny (model prog w) A (evalArgs (.ref C) true (backTo cpos (starEach args env)) [])
   (fun a s2=>a.kw=[]/\a.pos.length<=sizeLine/\s2.heap.get? C=some (excClassObj nm q C N bs bm hdct sn sub ab col dd k0 k1 k2 k3 k5 newId)/\s2.heap.Ns N mN/\OwnTail s2.heap bmB bm/\s2.heap.get? fI=some oI /\
    wpAny (model prog w) (A.under (.builtin "type.__call__" ⟨.ref C::a.pos,[]⟩)) (call (.ref fI) (.ref (s2.heap.objs.size+1)::a.pos))
     (fun r s3=>r=.none/\s3.heap.get? C=some (excClassObj nm q C N bs bm hdct sn sub ab col dd k0 k1 k2 k3 k5 newId)/\(∃dx a0 sl,s3.heap.get? (s2.heap.objs.size+1)=some (Bh C dx a0 sl))/\E (.ref (s2.heap.objs.size+1)) s3) E { s2 with heap:=Bw s2.heap C a.pos}) E s1) E s) :
  wpAny (model prog w) A (exec (.Raise (some (.Call (.Name x np) args [] cpos)) none pos) env) Q E s:=by
 rw [arm_exec_Raise];refine cA (mF (Zu (C:=C) (nm:=nm) (q:=q) (N:=N) (bs:=bs) (bm:=bm) (hdct:=hdct) (sn:=sn) (sub:=sub) (ab:=ab) (col:=col) (dd:=dd) (k0:=k0) (k1:=k1) (k2:=k2) (k3:=k3) (k5:=k5) (newId:=newId) D U (cA (oC (wpAny_Call_ofName (oC h (fun f s1 h1=>?_) fun _ _ x=>x)) (fun v s3 G=>cA (mF (eB G))) fun _ _ x=>x))));obtain⟨rfl,h1⟩:=h1;unfold callWith;refine cA (sD (oC h1 (fun a s2 h2=>cA (mF ?_)) fun _ _ x=>x));obtain⟨apos,J⟩:=a;obtain⟨O,hlen,hC,hn,T,hf,h2⟩:=h2;obtain rfl:J=[]:=O;obtain⟨hp,g,d,tk,os⟩:=s2;simp only [j];refine cA (wpAny_keeperOf_exc hC ?_);refine cA (qj4 F T hC hn hi hf Y hlen (oC h2 (fun r s3 G=>⟨G.1,cA (sD (wpAny_point (eB ?_)))⟩) fun _ _ x=>x));obtain⟨_,S,⟨dx,a0,sl,he⟩,Z⟩:=G;exact⟨_,dx,a0,sl,rfl,S,he,Z⟩
end
noncomputable abbrev Wa (a C:Addr) (dx:Option Addr):HO:=.ext fun h=>∃a0 sl,h.get? a=some (Bh C dx (.ref a0) sl)
theorem W6 {P:Program} {w:World} {H:Hp} {h:Heap} {a C:Addr} {dx:Option Addr} {a0:Addr} {sl:Array (Option Value)} (e:h.get? a=some (Bh C dx (.ref a0) sl)):ObjOk P w H h a (Wa a C dx):=
 ⟨⟨a0,sl,e⟩,⟨_,e⟩,fun h1 h2 ⟨b0,j,z⟩ k=>⟨b0,j,k _ z⟩⟩
structure OwnI (x:Str) (C fI:Addr) (bmB:List Value) (newId:String) (mg:Str->Option Value) (base:Heap):Prop where
  bound:mg x=some (.ref C)
  obj:∃(tl:List Value) (N:Addr) (nm q:Str) (bs:List Value) (hdct:Bool) (sn:List Str) (sub:List Value) (ab:Bool) (col:Option Bool) (dd:Option Addr) (k0 k1 k2 k3 k5:Option Value) (mN:Str->Option Value) (oI:Obj),
    base.get? C=some (excClassObj nm q C N bs tl hdct sn sub ab col dd k0 k1 k2 k3 k5 newId)/\base.Ns N mN/\mN "__init__" = some (.ref fI)/\OwnTail base bmB tl/\base.get? fI=some oI/\oI.cls=.type "function"
noncomputable def tFR (te:TE):TE:=fun σ H Q=>te σ H fun v H1=>((∃n:Int,v=.int n/\n.natAbs.log2 < 1920)\/v=.non)/\∀x,Q (.str x) H1
theorem qc9 {X:Cx} {x0:Str} {C fI:Addr} {B newId initId:String} {bmB:List Value} (F:ExcBaseFacts B newId initId bmB) (O:OwnI x0 C fI bmB newId X.mg X.base) :
  Ag X (.builtin initId) (fun xs H Q=>∃e x,xs=[.ref e,.str x]/\H e=some (Wa e C none)/\Q .non H):=by
 intro pins s σ H xs us Q I r h;obtain⟨e,x,rfl,j,q⟩:=h;obtain⟨u1,u2,rfl,G,J⟩:=vals2 r;cases G;obtain⟨t,rfl⟩:=J;obtain⟨⟨a0,sl,he⟩,_⟩:=I.hok e _ j;obtain⟨tl,N,nm,q',bs,hdct,sn,sub,ab,col,dd,k0,k1,k2,k3,k5,mN,oI,hC,hN,hi,T,hf,hc⟩:=O.obj;have D:=I.bk _ _ hC;have S:=T.keeps I.bk;obtain⟨hp,g,d,tk,os⟩:=s;refine wpAny_call (codeAny_call_builtin F.init.plain F.initEntry (wpAny_check_init_subT F S D he rfl ?_))
 wp_walk
 have hne:hp.objs.size≠e:=Nat.ne_of_gt (kB he);have h1:=iA { cls:=.type "tuple",data:=.seq #[Value.str x t]} he;have h2:=bD (Obj.mapFields (·.setIfInBounds 0 (Value.ref hp.objs.size))) h1 rfl;have U:upd H e (Wa e C none)=H:=funext fun b=>by
  by_cases z:b=e
  ·rw [z,qd,j]
  ·rw [qu z]
 refine⟨.non,H,?_,rfl,q⟩;rw [←U];refine I.write (x:=e) (e:=e) (t':=tk) (by rw [j];exact True.intro) (.inl rfl) (fun b u nb z=>?_) ⟨_,h2⟩ (W6 (a0:=hp.objs.size) (sl:=sl) h2);rw [dC _ _ (eE nb)];exact iA _ z
noncomputable abbrev errMro:List Value:=[.type "ValueError",.type "Exception",.type "BaseException",.type "object"]
noncomputable def zq7:Value->Bool
 | .ref _=>true
 |_=>false
noncomputable def J2 (l:List Value):Bool:=l.dropWhile zq7 == errMro
theorem Dr {l:List Value} (h:J2 l=true):∃D:List Value,l=D++errMro/\∀v∈D,zq7 v=true:=
 ⟨l.takeWhile zq7,by rw [←beq_iff_eq.mp h];exact (List.takeWhile_append_dropWhile).symm,fun v j=>by
  induction l with
  |nil=>cases j
  |cons a r ih=>
   rw [List.takeWhile_cons] at j;split at j
   ·rename_i ha;rcases gB.mp j with rfl |j
    ·exact ha
    ·exact ih (by unfold J2 at h ⊢;rw [List.dropWhile_cons,kA ha] at h;exact h) j
   ·cases j⟩
theorem J5 (self:Value):∀(j:List Value),(∀v∈j,zq7 v=true)->refuseLoop self "__setattr__" (j++errMro)=pure ()
 | [],_=>PySem.F.store_ValueError.passes self
 |v::r,h=>by
  have D:=h v uA;cases v<;>first |(cases D;done) |skip
  rw [jF,refuseLoop_ref];exact J5 self r fun u G=>h u (vA _ G)
theorem Um (self:Value) {l:List Value} (h:J2 l=true):refuseLoop self "__setattr__" l=pure ():=by obtain⟨j,rfl,hl⟩:=Dr h;exact J5 self j hl
theorem Xi {l:List Value} {v:Value} (h:J2 l=true) (j:errMro.contains v=true):l.contains v=true:=by obtain⟨l1,rfl,_⟩:=Dr h;rw [List.contains_iff_mem] at j ⊢;exact uC _ j
noncomputable def Jl (K:Frag) (C:Addr):Bool:=(clsIn K C).any fun cd=>J2 cd.mro
section
variable {prog:Program} {w:World} {A:Around} {R:Result->Shared->Prop} {s:Shared} {K:Frag} {x C:Addr}
theorem qu3 {ox:Obj} {od:Option Obj} {T:String} (X:K.In s.heap) (I:InstAt s.heap x ox C od) (hp:Jl K C=true) (D:errMro.contains (.type T)=true):Looks (model prog w) s.heap (isInstance (.ref x) (.type T)) true:=by
 obtain⟨cd,F,j⟩:=any_some hp;have ne:cd.mro.isEmpty=false:=by
  cases q:cd.mro with
  |nil=>rw [q] at j;cases j
  |cons _ _=>rfl
 exact I.type.andThen (looks_mroIn X (by unfold mroIn;rw [F,Option.bind_some,oA (by rw [ne];decide),Xi j D]))
theorem zh6 {ox:Obj} {od:Option Obj} {name:Str} {tk:Tok} {v:Value} (X:K.In s.heap) (I:InstAt s.heap x ox C od) (hp:Jl K C=true) (ha:findIn K (.ref C) name=some none)
  (h:wpAny (model prog w) A.in1 (Builtin.ObjectAttr.storeInOwnDict (.ref x) (.ref C) (.str name tk) name v false)
   (fun fin s'=>match fin with | .done f=>R (.ok f) s' | .again c'=>c'.quiet=true/\codeAny (model prog w) A c' R s') (fun e s'=>R (.error e) s') s) :
  codeAny (model prog w) A (.call (.builtin "object.__setattr__") ⟨[.ref x,.str name tk,v],[]⟩) R s:=by
 have j:=PySem.F.store_object;obtain⟨cd,D,G⟩:=any_some hp;have sub:Looks (model prog w) s.heap (isInstance (.ref x) (.type "object")) true:=qu3 X I hp (by decide);refine codeAny_call_builtin j.slot.plain j.entry (@check_slot (model prog w) _ _ s "object.__setattr__" "object" "__setattr__" (.ref x) [.str name tk,v] [] _ j.kind j.split sub (j.args (.ref x) (.str name tk) v) ?_);have hm:Looks (model prog w) s.heap (mroOf (.ref C)) cd.mro:=(looks_clsIn X D).andThen .now;rw [osa_eq,refuse_eq];refine cA (cA (I.type.here (cA (hm.here ?_))));rw [Um _ G];exact eB (cA (I.type.here (cA ((looks_findIn X ha).here (cA (eB h))))))
end
section
variable {prog:Program} {w:World} {A:Around} {E:Value->Shared->Prop} {s:Shared} {K:Frag} {x C:Addr} {name:Str} {v a0:Value} {sl:Array (Option Value)}
theorem zg6 {Q:Unit->Shared->Prop} (X:K.In s.heap) (hx:s.heap.get? x=some (Bh C none a0 sl)) (hs:findIn K (.ref C) "__setattr__" = some (some (.builtin "object.__setattr__"))) (hp:Jl K C=true)
  (ha:findIn K (.ref C) name=some none) (hh:hasDictIn K C=true)
  (h:∀(h':Heap) (tk:Nat),h'.get? x=some (Bh C (some s.heap.objs.size) a0 sl)->h'.Ns1 s.heap.objs.size (fun y=>if y=name then some v else none)->(∀b o,b≠x->s.heap.get? b=some o->h'.get? b=some o)->Q () { s with heap:=h',toks:=tk}) :
  wpAny (model prog w) A (setAttr (.ref x) name v) Q E s:=by
 have J:InstAt s.heap x (Bh C none a0 sl) C none:=⟨hx,rfl,rfl,True.intro⟩
 refine PySem.W.set_plain X J hs (zh6 (s:={ s with toks:=s.toks+1}) X J hp ha ?_);obtain⟨cd,hc,hd⟩:=any_some hh;refine cA (eB (cA (cA (wpAny_loadPart hx (cA (PySem.W.Looks.here (s:={ s with toks:=s.toks+1}) (PySem.W.looks_clsIn X hc) ?_))))));rw [hd];have j:(s.heap.push { cls:=.type "dict",data:=.dict #[]}).get? x=some (Bh C none a0 sl):=iA _ hx;have D:x≠s.heap.objs.size:=rC (kB hx);refine cA (wpAny_alloc' ?_);refine cA (wpAny_update' j ?_);refine eB ?_;have O:((s.heap.push { cls:=.type "dict",data:=.dict #[]}).update x fun o=>{ cls:=o.cls,dict:=some s.heap.objs.size,data:=o.data,slots:=o.slots}).get? s.heap.objs.size=some { cls:=.type "dict",data:=.dict #[]}:=
  (Heap.get?_update_ne _ _ _ _ D.symm).trans (Heap.get?_push_at rfl rfl)
 have S:((s.heap.push { cls:=.type "dict",data:=.dict #[]}).update x fun o=>{ cls:=o.cls,dict:=some s.heap.objs.size,data:=o.data,slots:=o.slots}).get? x=some (Bh C (some s.heap.objs.size) a0 sl):=
  bD _ j rfl
 have U:((s.heap.push { cls:=.type "dict",data:=.dict #[]}).update x fun o=>{ cls:=o.cls,dict:=some s.heap.objs.size,data:=o.data,slots:=o.slots}).Ns s.heap.objs.size (fun _=>none):=
  ⟨_,#[],_,O,rfl,fun e he=>absurd he (by simp),fun _=>rfl⟩
 show wpAny _ _ (Builtin.ObjectAttr.storeInDict s.heap.objs.size (.str name s.toks) name v) _ _ _;unfold Builtin.ObjectAttr.storeInDict Builtin.ObjectAttr.newKeyGuard;refine cA (eB (cA (wpAny_nsSet1 (Heap.Ns1.of_empty U) fun h' F G=>?_)));obtain⟨oD,esD,epD,Y,Z,a3⟩:=F.count (Within.cons name v Within.nil);refine cA (wpAny_lookBehind Y (by rw [Z];exact pastItsLine_dict (aD a3 (by rw [fB,nE,qE];omega))) ?_);refine eB (h h' _ ((G.2 x D).trans S) F fun b o nb z=>?_);exact (G.2 b (rC (kB z))).trans ((Heap.get?_update_ne _ _ _ _ nb).trans (iA _ z))
end
structure ExcK (K:Frag) (C:Addr):Prop where
  sa:findIn K (.ref C) "__setattr__" = some (some (.builtin "object.__setattr__"))
  eo:Jl K C=true
  hd:hasDictIn K C=true
  ga:findIn K (.ref C) "__getattribute__" = some (some (.builtin "BaseException.__getattribute__"))
  gn:findIn K (.ref C) "__getattr__" = some none
theorem zo2 {P:Program} {w:World} {H:Hp} {h:Heap} {a:Addr} {f:Str} {y:V} {u:Value} (r:RelV y u) (n:h.Ns1 a (fun z=>if z=f then some u else none)):ObjOk P w H h a (.xd [(f,y)]):=
 ⟨_,n,fun g=>by
  show RelO (List.lookup g [(f,y)]) (if g=f then some u else none);by_cases q:g=f
  ·subst q;rw [kA rfl,fE,show (g == g)=true from by simp];exact r
  ·rw [oA q,fE,show (g == f)=false from by simpa using q];exact True.intro⟩
section
variable {X:Cx} {pins:List (Addr×Obj)} {σ:St} {H:Hp} {s:Shared} {h':Heap} {e C dx:Addr} {f:Str} {y:V} {u:Value} {a0:Addr} {sl:Array (Option Value)}
theorem Inv.excDict {t':Nat} (I:Inv X pins σ H s) (J:H e=some (Wa e C none)) (hd:dx=s.heap.objs.size) (he:h'.get? e=some (Bh C (some dx) (.ref a0) sl)) (r:RelV y u) (hn:h'.Ns1 dx (fun z=>if z=f then some u else none))
  (k:∀b o,b≠e->s.heap.get? b=some o->h'.get? b=some o):Inv X pins σ (upd (upd H dx (.xd [(f,y)])) e (Wa e C (some dx))) { s with heap:=h',toks:=t'}:=by
 have fresh:H dx=none:=I.hok.fresh (by rw [hd];exact dA _);have D:∀b o,H b=some o->(∀φ,o≠.ext φ)->b≠e:=fun b o q n z=>by rw [z,J] at q;cases q;exact n _ rfl
 have F:∀b o,H b=some o->b≠dx:=fun b o q z=>by rw [z,fresh] at q;cases q
 have fwd:∀b o,H b=some o->(∀φ,o≠.ext φ)->upd (upd H dx (.xd [(f,y)])) e (Wa e C (some dx)) b=some o:=fun b o q n=>by rw [qu (D b o q n),qu (F b o q)];exact q
 have j:∀b,H b=none->b≠e:=fun b n z=>by rw [z,J] at n;cases n
 refine I.un ⟨fun b o q n _ _=>k b o (j b n) q,fun b o q n _ _=>⟨o.slots,k b o (j b n) q⟩,fun b o q n _=>?_,fun b o q _=>?_,fun b xs q=>fwd b _ q (by intro φ z;cases z),fun b o u q=>fwd b _ q (by intro φ z;cases z),
  fun b ps q=>⟨#[],by rw [Array.append_empty];exact fwd b _ q (by intro φ z;cases z)⟩⟩ fun b o q=>?_
 ·rw [qu (j b n),qu (fun z=>absurd (kB q) (by rw [z,hd];exact nG _))];exact n
 ·by_cases z:b=e
  ·exact⟨_,z▸he⟩
  ·exact⟨o,k b o z q⟩
 ·by_cases z:b=e
  ·subst z;rw [qd] at q;cases q;exact W6 he
  ·rw [qu z] at q;by_cases z2:b=dx
   ·subst z2;rw [qd] at q;cases q;exact zo2 r hn
   ·rw [qu z2] at q;refine (I.hok b o q).stay (fun c v G g=>k c v ?_ g) (fun c g=>fwd c _ g (by intro φ z;cases z)) fun c xs g=>fwd c _ g (by intro φ z;cases z);rcases G with rfl |G
    ·exact z
    ·exact D c _ G (by intro φ z;cases z)
end
inductive sExcI (C:Addr) (f:Str) (D:Ends) (σ:St) (y:V) (x:V) (H2:Hp):Prop
 |mk (e:_) (_:x=.ref e) (_:H2 e=some (Wa e C none)) (_:∀dx,H2 dx=none->dx≠e->D.nx σ (upd (upd H2 dx (.xd [(f,y)])) e (Wa e C (some dx))))
noncomputable def zx1 (C:Addr) (ta tv:TE) (f:Str):TS:=fun D σ H=>tv σ H fun y H1=>ta σ H1 fun x H2=>sExcI C f D σ y x H2
theorem qf7 {X:Cx} {o value:Expr} {f:Str} {pos pos':Pos} {ta tv:TE} {C:Addr} (c:ExcK X.K C) (n:qk3 X.K C f) (ha:PE X o ta) (G:PE X value tv) (hs:swapsWith value (some (.Attribute o f pos')) pos.line X.env=pure false:=by rfl) :
  PS X (.Assign [.Attribute o f pos'] value pos) (zx1 C ta tv f):=by
 intro pins s σ H D I h;refine plainObj_wpAny_Assign_Attribute (thn (G pins s σ H _ I h) fun u s1 ⟨y,H1,J,O,q⟩=>thn (ha pins s1 σ H1 _ J q) fun S s2 ⟨x,H2,j,U,e,ex,F,q2⟩=>?_) hs;subst ex;obtain rfl:S=Value.ref e:=U;obtain⟨⟨a0,sl,he⟩,_⟩:=j.hok e _ F;refine zg6 j.kIn he c.sa c.eo n c.hd fun h' tk hx hn k=>⟨σ,_,j.excDict (t':=tk) F rfl hx O hn k,q2 _ (j.hok.fresh (dA _)) (eE (rC (kB he)))⟩
theorem Wg {X:Cx} {G:Str} {Cg:Addr} {F:Value} {initId:String} {r:List V->Hp->VK->Prop} {e:Expr} {es:List Expr} {t:TA} {p apos pos:Pos} {pl:Sem Bool} (O:Ag X (.builtin initId) r) (S:Gl X G) (hm:X.mg G=some (.ref Cg))
    (h1:specialIn X.K (.ref Cg) "__getattribute__" = some (some (.builtin "type.__getattribute__"))) (h2:readsIn X.K Cg F=true) (U:findCls X.K (.ref Cg) F "__init__" = some (.val (.builtin initId))) (Y:handedIn (.builtin initId)=true) (ha:PA X (e::es) t)
    (j:(G == ("__debug__" : Str))=false:=by decide) (D:starEach (e::es) X.env=(false,eval e X.env)::starEach es X.env:=by rfl) (hpl:(backTo pos (starEach es X.env)).any (·.1)=false:=by rfl)
    (Z:eval (.Call (.Attribute (.Name G p) "__init__" apos) (e::es) [] pos) X.env=(do
      let J ←eval (.Name G p) X.env
      standAt apos.atName
      let (f,first) ←holding [J] (getMethod J "__init__" pl)
      callWith pos f first (backTo pos (starEach (e::es) X.env)) (backToKw pos (keywordEach [] X.env))):=by rfl) :
    PE X (.Call (.Attribute (.Name G p) "__init__" apos) (e::es) [] pos) (tCB r t):=by
  intro pins s σ H Q I h;refine PySem.W.methodCall_KW (pl:=pl) (um I S hm (method_cls I.kIn h1 (cls_value I.kIn h2 U Y ?_)) j) Z;exact PyProof.Rows.callWith_builtin1 (thn (ha pos pins _ σ H _ (I.tok _) h) fun us s1 ⟨vs,H1,I1,r1,q1⟩=>O pins s1 σ H1 vs us Q I1 r1 q1) D hpl
noncomputable def qn8 (y:V):Prop:=(∃n:Int,y=.int n/\n.natAbs.log2 < 1920)\/y=.non
inductive spExcInit (C:Addr) (vs:List V) (H:Hp) (Q:VK) (e3:XK):Prop
 |mk (e y:_) (_:vs=[.ref e,y]) (_:qn8 y) (_:H e=some (Wa e C none)) (_:∀dx,H dx=none->dx≠e->Q .non (upd (upd H dx (.xd [("at",y)])) e (Wa e C (some dx))))
inductive tRaiseII (C:Addr) (E:XK) (vs:List V) (H1:Hp):Prop
 |mk (y:_) (_:vs=[y]) (_:qn8 y) (_:∀dx,H1 dx=none->E (.ref C) (some dx) (upd H1 dx (.xd [("at",y)])))
noncomputable def qm8 (C:Addr) (E:XK) (t:TA):TS:=fun _ σ H=>t σ H fun vs H1=>tRaiseII C E vs H1
theorem ql0 {X:Cx} {x:Str} {C fI:Addr} {bmB:List Value} {newId B initId:String} {E:XK} {e0:Expr} {t:TA} {np cpos pos:Pos} {k:Nat} {fd:FuncData} {ps:List Str} (FB:ExcBaseFacts B newId initId bmB) (O:OwnI x C fI bmB newId X.mg X.base)
  (F:FnOk X.prog X.w X.K X.mg X.base CX0 k fI fd ps (spExcInit C)) (hb:Binds X.K fd ps []) (hr:Room (k+1) X.A) (hc:X.calm=true) (hg:Gl X x) (L:qx0 X E) (ha:PA X [e0] t)
  (S:(x == ("__debug__" : Str))=false:=by decide) (he:starEach [e0] X.env=(false,eval e0 X.env)::starEach [] X.env:=by rfl) (hpl:(backTo cpos (starEach [] X.env)).any (·.1)=false:=by rfl) :
  PS X (.Raise (some (.Call (.Name x np) [e0] [] cpos)) none pos) (qm8 C E t):=by
 intro pins s σ H D I h;obtain⟨tl,N,nm,q,bs,hdct,sn,sub,ab,col,dd,k0,k1,k2,k3,k5,mN,oI,hC,hN,hi,T,hf,U⟩:=O.obj;have G:(backTo cpos (starEach [e0] X.env)).any (·.1)=false:=by rw [he];show (false ||(backTo cpos (starEach [] X.env)).any (·.1))=false;rw [hpl];rfl
 refine qa2 (C:=C) (nm:=nm) (q:=q) (N:=N) (bs:=bs) (bm:=tl) (hdct:=hdct) (sn:=sn) (sub:=sub) (ab:=ab) (col:=col) (dd:=dd) (k0:=k0) (k1:=k1) (k2:=k2) (k3:=k3) (k5:=k5)
  FB (mN:=mN) (T.hasType FB.hasBase) (I.ok.hd hc) G hi U (um I hg O.bound ⟨rfl,?_⟩ S)
 have hh:=thn (ha cpos pins s σ H _ I h) (Q':=fun us s2=>us.length<=sizeLine/\(∀b o,X.base.get? b=some o->s2.heap.get? b=some o) /\
  wpAny (model X.prog X.w) (X.A.under (.builtin "type.__call__" ⟨.ref C::us,[]⟩)) (call (.ref fI) (.ref (s2.heap.objs.size+1)::us))
   (fun r s3=>r=.none/\s3.heap.get? C=some (excClassObj nm q C N bs tl hdct sn sub ab col dd k0 k1 k2 k3 k5 newId)/\(∃dx a0 sl,s3.heap.get? (s2.heap.objs.size+1)=some (Bh C dx a0 sl))/\X.xe (.ref (s2.heap.objs.size+1)) s3) X.xe { s2 with heap:=Bw s2.heap C us})
  fun us s1 ⟨vs,H1,J,r1,y,ev,hy,q1⟩=>?_
 ·rw [he] at hh ⊢;exact lG (oC hh (fun us s2 h2=>⟨rfl,h2.1,h2.2.1 _ _ hC,hN.keeps h2.2.1,T.keeps h2.2.1,h2.2.1 _ _ hf,h2.2.2⟩) fun _ _ y=>y)
 subst ev;obtain⟨u,rfl,ru⟩:=vals1 r1;have fe:H1 (s1.heap.objs.size+1)=none:=J.hok.fresh (Nat.le_succ _);have Y:Inv X pins σ (upd H1 (s1.heap.objs.size+1) (Wa (s1.heap.objs.size+1) C none)) { s1 with heap:=Bw s1.heap C [u],toks:=s1.toks}:=
  J.laid (fun b o e=>km e) (Nat.le_succ _) (W6 Ux)
 refine⟨by rw [qE];simp,J.bk,wpAny_call (codeAny_mono (F.run _ X.stack _ _ ⟨[.ref (s1.heap.objs.size+1),u],[]⟩ [.ref (s1.heap.objs.size+1),u] [.ref (s1.heap.objs.size+1),y]
  (fun v H'=>v=.non/\∃dx,H1 dx=none/\dx≠s1.heap.objs.size+1/\H'=upd (upd (upd H1 (s1.heap.objs.size+1) (Wa (s1.heap.objs.size+1) C none)) dx (.xd [("at",y)])) (s1.heap.objs.size+1) (Wa (s1.heap.objs.size+1) C (some dx)))
  (fun _ _ _=>False) (hr.make C [u] []) (Y.env0.make C [u] []) (hb _ [.ref (s1.heap.objs.size+1),u] Y.kIn ?_) (.cons rfl (.cons ru .nil)) ?_) fun r s' j=>?_)⟩
 ·have:=F.len [.ref (s1.heap.objs.size+1),y] (upd H1 (s1.heap.objs.size+1) (Wa (s1.heap.objs.size+1) C none)) (fun _ _=>True) (fun _ _ _=>True) ⟨_,y,rfl,hy,qd,fun _ _ _=>True.intro⟩;exact this
 ·exact⟨_,y,rfl,hy,qd,fun dx n ne=>⟨rfl,dx,by rw [qu ne] at n;exact n,ne,rfl⟩⟩
 ·cases r with
  |error e=>exact False.elim j
  |ok fl=>
   cases fl with
   |ret w1=>
    obtain⟨v,H',Z,rv,⟨ev,dx,hn,a3,eH⟩⟩:=Y.after j;subst ev;subst eH;obtain rfl:w1=Value.none:=rv;obtain⟨⟨a0,sl,hx⟩,_⟩:=Z.hok _ _ qd;refine⟨rfl,Z.bk _ _ hC,⟨_,_,_,hx⟩,?_⟩;refine L pins σ _ _ _ _ _ Z hx rfl (by simp) rfl (fun _=>rfl) (Heap.get?_none_of_le (Nat.le_succ_of_le J.sz)) (.inr ⟨_,qd⟩) ?_;have eo:qf4 (upd (upd (upd H1 (s1.heap.objs.size+1) (Wa (s1.heap.objs.size+1) C none)) dx (.xd [("at",y)])) (s1.heap.objs.size+1) (Wa (s1.heap.objs.size+1) C (some dx))) (s1.heap.objs.size+1)=upd H1 dx (.xd [("at",y)]):=funext fun b=>by
     by_cases z:b=s1.heap.objs.size+1
     ·rw [z,Dn,qu (eE a3),fe]
     ·rw [J4 z,qu z];by_cases z2:b=dx
      ·rw [z2,qd,qd]
      ·rw [qu z2,qu z,qu z2]
    rw [eo];exact q1 dx hn
   |next=>exact False.elim j
   |brk=>exact False.elim j
   |cont=>exact False.elim j
section
variable {prog:Program} {w:World} {A:Around} {E:Value->Shared->Prop} {s:Shared} {K:Frag} {x C:Addr} {ox:Obj} {od:Option Obj} {name:Str} {expr:Bool} {Q:Value->Shared->Prop}
end
section
variable {X:Cx} {k:Nat} {x y n:Str} {C L:Addr} {ps:List Str} {sp:Sp} {e:Expr} {es:List Expr} {t:TA} {env0:List Env} {p np pos epos tpos hpos:Pos} {i:Nat} {b0:Stmt} {suite:List Stmt} {ts:Addr->Option Addr->TS}
end
end L2
namespace L2
open PySem PySem.Spec PyProof.Rows PySem.W
noncomputable def zg1 (s:Stmt):List Stmt:=match s with
 | .ClassDef _ _ _ b _ _ _ _ _ _ _=>b
 |_=>[]
noncomputable def Xu (K:Frag) (C fI:Addr) (bmB:List Value) (newId:String):Bool:=match K.lookup C with
 |some ⟨.type "type",_,.cls cd,sl⟩=>(match cd.mro,sl.toList with
  | .ref j::bm,[_,_,_,_,some (.builtin n),_]=>j == C && n == newId && !cd.hasDel && tailIn K bmB bm && nsOkIn K cd.ns && nsIn K cd.ns "__init__" == some (some (.ref fI)) && typeIn K (.ref fI) == some (.type "function")
  |_,_=>false)
 |_=>false
theorem G9 {K:Frag} {h:Heap} {N:Addr} {x:Str} {v:Value} (X:K.In h) (e:nsOkIn K N=true) (q:nsIn K N x=some (some v)):h.nsMap N x=some v:=by
 have G:h.Ns N (h.nsMap N):=.of_isNs (isNs_of_in X e);obtain⟨o,es,ep,j,hd,_,hf⟩:=G;unfold nsIn at q;split at q
 ·rename_i c d es' n' sl D
  have:=X _ _ D;rw [j] at this;cases this;cases hd;split at q
  ·rename_i en he;cases q;rw [←hf];unfold nsFind findBy;rw [←Array.find?_toList,he];rfl
  ·split at q<;>cases q
 ·cases q
theorem zo6 {K:Frag} {h:Heap} {f:Addr} (X:K.In h) (e:typeIn K (.ref f)=some (.type "function")):∃o,h.get? f=some o/\o.cls=.type "function" := by obtain⟨o,j,D⟩:=qB.mp (show (K.lookup f).map (·.cls)=some (.type "function") from e);exact⟨o,X _ _ j,D⟩
theorem zb3 {K:Frag} {base:Heap} {mg:Str->Option Value} {x:Str} {C fI:Addr} {bmB:List Value} {newId:String} (X:K.In base) (G:base.Ns mainGlobals mg) (e:nsIn K mainGlobals x=some (some (.ref C))) (q:Xu K C fI bmB newId=true):OwnI x C fI bmB newId mg base:=by
 refine⟨mg_of X G e,?_⟩;unfold Xu at q;split at q
 ·rename_i dd cd sl Y;split at q
  ·rename_i C' bm k0 k1 k2 k3 n k5 hm hs;simp only [bC,beq_iff_eq,pH] at q;obtain⟨⟨⟨⟨⟨⟨e1,e2⟩,j⟩,F⟩,hok⟩,D⟩,J⟩:=q;subst e1 e2;obtain⟨nm,bs,mro,ns,Z,hd,sn,sub,ab,col,del⟩:=cd;simp only at hm j hok D;subst hm j;have O:sl=#[k0,k1,k2,k3,some (.builtin n),k5]:=by
    cases sl;simp only at hs;rw [hs]
   subst O;obtain⟨oI,S,U⟩:=zo6 X J;exact⟨bm,ns,nm,Z,bs,hd,sn,sub,ab,col,dd,k0,k1,k2,k3,k5,_,oI,X _ _ Y,.of_isNs (isNs_of_in X hok),G9 X hok D,tail_of_in X F,S,U⟩
  ·cases q
 ·cases q
structure JX (K:Frag) (x qual:Str) (st:Stmt) (C:Addr):Prop where
  ex:∃(fI:Addr) (fd:FuncData),nsIn K mainGlobals x=some (some (.ref C))/\Xu K C fI errMro "ValueError.__new__" = true/\Fun K "__init__" qual st fI fd
  k:ExcK K C
  n:qk3 K C "at"
  m:exmOne K (.ref C) (.ref C)=some true
  g:∃Cg:Addr,nsIn K mainGlobals "GridError" = some (some (.ref Cg))/\specialIn K (.ref Cg) "__getattribute__" = some (some (.builtin "type.__getattribute__"))/\readsIn K Cg (.type "type")=true/\findCls K (.ref Cg) (.type "type") "__init__" = some (.val (.builtin "ValueError.__init__"))
structure ExcJ (P:Program) (w:World) (K:Frag) (mg:Str->Option Value) (base:Heap) (x:Str) (C:Addr):Prop where
  ex:∃(fI:Addr) (fd:FuncData) (ps:List Str),OwnI x C fI errMro "ValueError.__new__" mg base/\FnOk P w K mg base CX0 1 fI fd ps (spExcInit C)/\Binds K fd ps []
  mg:mg x=some (.ref C)
  k:ExcK K C
  n:qk3 K C "at"
  m:exmOne K (.ref C) (.ref C)=some true
theorem Be {X:Cx} {x:Str} {C:Addr} {E:XK} {e0:Expr} {t:TA} {np cpos pos:Pos} {k:Nat} (O:ExcJ X.prog X.w X.K X.mg X.base x C) (D:Room (k+2) X.A) (G:X.calm=true) (J:Gl X x) (L:qx0 X E) (ha:PA X [e0] t)
  (j:(x == ("__debug__" : Str))=false:=by decide) (he:starEach [e0] X.env=(false,eval e0 X.env)::starEach [] X.env:=by rfl) (hpl:(backTo cpos (starEach [] X.env)).any (·.1)=false:=by rfl) :
  PS X (.Raise (some (.Call (.Name x np) [e0] [] cpos)) none pos) (qm8 C E t):=by
 obtain⟨fI,fd,ps,o,f,b⟩:=O.ex;exact ql0 PySem.F.excBase_ValueError o f b (D.mono (by omega)) G J L ha j he hpl
theorem jx_mk {K:Frag} {x qual:Str} {st:Stmt} {C fI Cg:Addr} {cd:ClassData} {oc:Value} {od an:Option Addr} {osl:Array (Option Value)} {kV doc pm cdv ct:Value} (e:nsIn K mainGlobals x=some (some (.ref C))) (c:clsIn K C=some cd) (i:nsIn K cd.ns "__init__" = some (some (.ref fI)))
  (q:Xu K C fI errMro "ValueError.__new__" = true) (l:K.lookup fI=some ⟨oc,od,.func (PySem.W.fnOf "__init__" qual (Az st) (zy st) (qm st) .none kV doc pm an cdv ct),osl⟩) (co:codeIn K cdv qual=true) (kp:keepIn K (.ref fI)=true)
  (k1:findIn K (.ref C) "__setattr__" = some (some (.builtin "object.__setattr__"))) (k2:Jl K C=true) (k3:hasDictIn K C=true) (j:findIn K (.ref C) "__getattribute__" = some (some (.builtin "BaseException.__getattribute__"))) (k5:findIn K (.ref C) "__getattr__" = some none)
  (n:findIn K (.ref C) "at" = some none) (m:exmOne K (.ref C) (.ref C)=some true) (D:nsIn K mainGlobals "GridError" = some (some (.ref Cg))) (g1:specialIn K (.ref Cg) "__getattribute__" = some (some (.builtin "type.__getattribute__"))) (g2:readsIn K Cg (.type "type")=true)
  (g3:findCls K (.ref Cg) (.type "type") "__init__" = some (.val (.builtin "ValueError.__init__"))):JX K x qual st C:=
 ⟨⟨fI,_,e,q,za2 l co kp⟩,⟨k1,k2,k3,j,k5⟩,n,m,Cg,D,g1,g2,g3⟩
theorem Gj {n:Nat} (h:n<=1000):((n:Int)).natAbs.log2 < 1920:=by
 rw [Int.natAbs_natCast];by_cases z:n=0
 ·subst z;decide
 ·exact qC ((Nat.log2_lt z).mpr (Nat.lt_of_le_of_lt h (by decide:1000 < 2 ^ 10))) (by decide)
theorem qp1 {α:Type} {P:List α->Prop} (h:∀a b,P [a,b]):∀us:List α,us.length=2->P us
 | [a,b],_=>h a b
end L2
namespace L2
open PySem PySem.Spec PyProof.Rows
section
variable {X:Cx}
end
end L2
namespace GT
open PySem L2
inductive Thg where
  |non |bl (b:Bool) |int (i:Int) |str (x:Str) |tup (ds:List Thg) |lst (ds:List Thg)
inductive AtG (H:Hp):Thg->V->Prop where
  |non:AtG H .non .non
  |bl (b:Bool):AtG H (.bl b) (.bl b)
  |int (i:Int):AtG H (.int i) (.int i)
  |str (x:Str) (h:x.length<=400000):AtG H (.str x) (.str x)
  |tup {a:Addr} {xs:List V} {ds:List Thg} (h:H a=some (.tup xs)) (r:Paired (AtG H) ds xs):AtG H (.tup ds) (.ref a)
  |lst {a:Addr} {xs:List V} {ds:List Thg} (h:H a=some (.lst xs)) (r:Paired (AtG H) ds xs):AtG H (.lst ds) (.ref a)
noncomputable abbrev AtGL (H:Hp):List Thg->List V->Prop:=Paired (AtG H)
mutual
theorem AtG.mono {H H':Hp} (s:Same H H'):∀{g:Thg} {v:V},AtG H g v->AtG H' g v
 |_,_,.non=>.non
 |_,_,.bl b=>.bl b
 |_,_,.int i=>.int i
 |_,_,.str x h=>.str x h
 |_,_,.tup h r=>.tup (s _ _ h) (AtGL.mono s r)
 |_,_,.lst h r=>.lst (s _ _ h) (AtGL.mono s r)
theorem AtGL.mono {H H':Hp} (s:Same H H'):∀{g:List Thg} {v:List V},AtGL H g v->AtGL H' g v
 |_,_,.nil=>.nil
 |_,_,.cons h r=>.cons (AtG.mono s h) (AtGL.mono s r)
end
noncomputable def tyG:Thg->String
 | .non => "NoneType" | .bl _ => "bool" | .int _ => "int" | .str _ => "str" | .tup _ => "tuple" | .lst _ => "list"
theorem AtG.ty {K:PySem.W.Frag} {H:Hp} {g:Thg} {v:V} (h:AtG H g v):TyOf K H v (.type (tyG g)):=by
 cases h with
 |non=>exact .non
 |bl b=>exact .bl b
 |int i=>exact .int i
 |str x _=>exact .str x
 |tup h _=>exact .tup h
 |lst h _=>exact .lst h
noncomputable def isInt:Thg->Bool | .int _=>true | .bl _=>true |_=>false
noncomputable def zs1:Thg->Bool | .bl _=>true |_=>false
noncomputable def isStr:Thg->Bool | .str _=>true |_=>false
noncomputable def isTup:Thg->Bool | .tup _=>true |_=>false
noncomputable def zb9:Thg->Bool | .lst _=>true |_=>false
theorem ze5 {K:PySem.W.Frag} (g:Thg):PySem.W.kitOne K (.type (tyG g)) (.type "int")=some (isInt g):=by cases g<;>rfl
theorem za1 {K:PySem.W.Frag} (g:Thg):PySem.W.kitOne K (.type (tyG g)) (.type "bool")=some (zs1 g):=by cases g<;>rfl
theorem qn7 {K:PySem.W.Frag} (g:Thg):PySem.W.kitOne K (.type (tyG g)) (.type "str")=some (isStr g):=by cases g<;>rfl
theorem Wr {K:PySem.W.Frag} (g:Thg):PySem.W.kitOne K (.type (tyG g)) (.type "tuple")=some (isTup g):=by cases g<;>rfl
theorem zd7 {K:PySem.W.Frag} (g:Thg):PySem.W.kitOne K (.type (tyG g)) (.type "list")=some (zb9 g):=by cases g<;>rfl
noncomputable def Bt:Thg->Bool | .int _=>true |_=>false
noncomputable def j9:Thg->Bool | .int i=>decide (1<=i) && decide (i<=16) |_=>false
noncomputable def ze3 (c:Nat):Bool:=!(Builtin.Str.occurrences signs ⟨#[c]⟩ 0 signs.length 1).isEmpty
noncomputable def xj:Thg->Bool | .str x=>decide (1<=x.length) && decide (x.length<=12) && x.cps.toList.all ze3 |_=>false
noncomputable def wg:Thg->Bool | .tup ds=>decide (ds.length<=12) && ds.all xj |_=>false
noncomputable def yj:Thg->Bool | .tup [.int a,.int b,.int c,.int d,e]=>decide (0<=a) && decide (0<=b) && decide (1<=c) && decide (1<=d) && wg e |_=>false
noncomputable def xu:Thg->Bool | .tup [a,b,.lst _]=>j9 a && j9 b |_=>false
noncomputable def Cell.G (x:Cell):Thg:=.tup [.int x.top,.int x.left,.int x.h,.int x.w,.tup (x.words.map Thg.str)]
theorem AtG.tup_inv {H:Hp} {ds:List Thg} {v:V} (h:AtG H (.tup ds) v):∃a xs,v=.ref a/\H a=some (.tup xs)/\AtGL H ds xs:=by
 cases h with
 |tup h r=>exact⟨_,_,rfl,h,r⟩
theorem AtG.lst_inv {H:Hp} {ds:List Thg} {v:V} (h:AtG H (.lst ds) v):∃a xs,v=.ref a/\H a=some (.lst xs)/\AtGL H ds xs:=by
 cases h with
 |lst h r=>exact⟨_,_,rfl,h,r⟩
theorem AtG.int_inv {H:Hp} {i:Int} {v:V} (h:AtG H (.int i) v):v=.int i:=by cases h;rfl
theorem AtG.str_inv {H:Hp} {x:Str} {v:V} (h:AtG H (.str x) v):v=.str x/\x.length<=400000:=by cases h;exact⟨rfl,by assumption⟩
theorem Yn {H:Hp}:∀{ws:List Str},(∀x∈ws,x.length<=400000)->AtGL H (ws.map Thg.str) (ws.map V.str)
 | [],_=>.nil
 |x::ws,h=>.cons (.str x (h x uA)) (Yn fun y j=>h y (vA _ j))
theorem Xo {H:Hp}:∀{ws:List Str} {vs:List V},AtGL H (ws.map Thg.str) vs->vs=ws.map V.str
 | [],[],_=>rfl
 |x::ws,v::vs,h=>by
  cases h with
  |cons h r=>rw [h.str_inv.1,Xo r];rfl
theorem Cell.atG {H:Hp} {x:Cell} {v:V} (h:At H x.D v) (ok:∀y∈x.words,y.length<=400000):AtG H x.G v:=by obtain⟨b,wb,ws,rfl,hb,j,F⟩:=Cell.at_inv h;rw [W7 F] at j;exact .tup hb (.cons (.int _) (.cons (.int _) (.cons (.int _) (.cons (.int _) (.cons (.tup j (Yn ok)) .nil)))))
theorem WordsOk.small {ws:List Str} (h:WordsOk ws):∀y∈ws,y.length<=400000:=fun y j=>by have:=(h.each y j).hi;omega
theorem Cell.ofG {H:Hp} {x:Cell} {v:V} (h:AtG H x.G v):At H x.D v:=by
 obtain⟨a,xs,rfl,ha,r⟩:=h.tup_inv;cases r with
 |cons h1 r=>
  cases r with
  |cons h2 r=>
   cases r with
   |cons j r=>
    cases r with
    |cons F r=>
     cases r with
     |cons J r=>cases r;rw [h1.int_inv,h2.int_inv,j.int_inv,F.int_inv] at ha;obtain⟨b,ys,rfl,hb,O⟩:=J.tup_inv;rw [Xo O] at hb;exact Cell.at_mk (x:=x) (b:=b) (ws:=x.words.map V.str) ha hb (Jt _ _)
theorem zc1 {x:Str} (h:WordOk x):xj (.str x)=true:=by unfold xj;rw [bC,bC];exact⟨⟨eA h.lo,eA h.hi⟩,kF.mpr fun c j=>sign_in c (h.all c j)⟩
theorem qs2 {ws:List Str} (h:WordsOk ws):wg (.tup (ws.map Thg.str))=true:=by unfold wg;rw [bC];refine⟨eA (by rw [aA];exact h.few),kF.mpr fun g j=>?_⟩;obtain⟨x,hx,rfl⟩:=xA.mp j;exact zc1 (h.each x hx)
theorem zh5 {x:Cell} (h1:1<=x.h) (w1:1<=x.w) (h:WordsOk x.words):yj x.G=true:=by unfold Cell.G yj;simp only [bC,sF];refine⟨⟨⟨⟨by omega,by omega⟩,by omega⟩,by omega⟩,qs2 h⟩
theorem qd6:∀{ds:List Thg},ds.all xj=true->∃ws:List Str,ds=ws.map Thg.str
 | [],_=>⟨[],rfl⟩
 |d::ds,h=>by
  rw [List.all_cons,bC] at h;obtain⟨ws,rfl⟩:=qd6 h.2;cases d with
  |str x=>exact⟨x::ws,rfl⟩
  |_=>cases h.1
theorem Yk {g:Thg} (h:yj g=true):∃x:Cell,g=x.G/\1<=x.h/\1<=x.w:=by
 unfold yj at h;split at h
 ·rename_i a b c d e;simp only [bC,sF] at h;obtain⟨⟨⟨⟨ha,hb⟩,hc⟩,hd⟩,he⟩:=h;cases e with
  |tup ds=>
   have he:(decide (ds.length<=12) && ds.all xj)=true:=he;rw [bC] at he;obtain⟨ws,rfl⟩:=qd6 he.2;refine⟨⟨a.toNat,b.toNat,c.toNat,d.toNat,ws⟩,?_,by show 1<=c.toNat;omega,by show 1<=d.toNat;omega⟩;unfold Cell.G;have e1:((a.toNat:Nat):Int)=a:=by omega
   have e2:((b.toNat:Nat):Int)=b:=by omega
   have e3:((c.toNat:Nat):Int)=c:=by omega
   have j:((d.toNat:Nat):Int)=d:=by omega
   rw [e1,e2,e3,j]
  |_=>cases he
 ·cases h
noncomputable def Wrong (R C:Nat) (cs:List Cell) (g:Thg):Prop:=yj g=false\/∃x:Cell,g=x.G/\(R < x.top+x.h\/C < x.left+x.w\/(∃y,cs.getLast? = some y/\¬uf y x)\/∃y∈cs,∃r c,inC x r c/\inC y r c)
theorem kj {x y:Cell} (h:x.G=y.G):x=y:=by
 unfold Cell.G at h;obtain⟨a,b,c,d,e⟩:=x;obtain⟨a',b',c',d',e'⟩:=y;simp only [Thg.tup.injEq,iH,Thg.int.injEq,and_true] at h;obtain⟨h1,h2,h3,h4,j⟩:=h;have inj:∀{l m:List Str},l.map Thg.str=m.map Thg.str->l=m:=fun {l m} q=>by have:=vD (List.map fun g=>match g with |Thg.str x=>x |_=>(Str.ofString "")) q;rw [gD,gD] at this;have e:((fun g=>match g with |Thg.str x=>x |_=>(Str.ofString "")) ∘ Thg.str)=id:=rfl;rw [e,List.map_id,List.map_id] at this;exact this
 have j:=inj j;congr 1<;>omega
section
variable {R C:Nat} {cs:List Cell}
end
open PySem.StrLaws
theorem occ_none (x:Str) (c lim:Nat) (h:c∉x.cps.toList):∀(l:List Nat) (st:Array Nat×Nat),(forIn l st (occBody x ⟨#[c]⟩ x.length lim)).run.fst=st.fst
 | [],st=>rfl
 |a::l,st=>by rw [List.forIn_cons];unfold occBody;rw [oA (fun z=>h (jA ((subAt_one x c a).mp ⟨z.1.2,z.2⟩)))];exact occ_none x c lim h l (st.fst,st.snd)
theorem zj0 {x:Str} {c lim:Nat} (h:(!(Builtin.Str.occurrences x ⟨#[c]⟩ 0 x.length lim).isEmpty)=true):c∈x.cps.toList:=by refine cD fun z=>?_;rw [occ_eq,occ_none x c lim z] at h;simp at h
theorem qp7 {x:Str} (h:xj (.str x)=true):WordOk x:=by have h:(decide (1<=x.length) && decide (x.length<=12) && x.cps.toList.all ze3)=true:=h;simp only [bC,sF] at h;exact⟨h.1.1,h.1.2,fun c j=>zj0 (kF.mp h.2 c j)⟩
theorem qc3 {g:Thg} (h:yj g=true):∃x:Cell,g=x.G/\1<=x.h/\1<=x.w/\WordsOk x.words:=by obtain⟨x,rfl,h1,w1⟩:=Yk h;refine⟨x,rfl,h1,w1,?_⟩;have h:(decide ((0:Int)<=x.top) && decide ((0:Int)<=x.left) && decide ((1:Int)<=x.h) && decide ((1:Int)<=x.w) && (decide ((x.words.map Thg.str).length<=12) && (x.words.map Thg.str).all xj))=true:=h;simp only [bC,sF,aA] at h;exact⟨h.2.1,fun y j=>qp7 (kF.mp h.2.2 _ (xA.mpr ⟨y,j,rfl⟩))⟩
theorem classify (R C:Nat):∀gs:List Thg,∃cs:List Cell,Part R C cs/\cs.Pairwise uf/\((∃x,gs[cs.length]? = some x/\gs.take cs.length=cs.map Cell.G/\Wrong R C cs x)\/gs=cs.map Cell.G):=by
 intro gs;have go:∀n,n<=gs.length->∃cs:List Cell,Part R C cs/\cs.Pairwise uf/\((∃x,gs[cs.length]? = some x/\gs.take cs.length=cs.map Cell.G/\Wrong R C cs x)\/(gs.take n=cs.map Cell.G/\cs.length=n)):=by
  intro n;induction n with
  |zero=>exact fun _=>⟨[],Part.nil R C,.nil,.inr ⟨rfl,rfl⟩⟩
  |succ n ih=>
   intro hn;obtain⟨cs,pt,od,h⟩:=ih (by omega);rcases h with h |⟨e,ln⟩
   ·exact⟨cs,pt,od,.inl h⟩
   obtain⟨g,J⟩:∃g,gs[n]? = some g:=⟨_,gA (by omega)⟩
   by_cases wr:Wrong R C cs g
   ·exact⟨cs,pt,od,.inl ⟨g,by rw [ln];exact J,by rw [ln];exact e,wr⟩⟩
   have S:yj g=true:=by
    cases z:yj g with
    |true=>rfl
    |false=>exact absurd (.inl z) wr
   obtain⟨x,rfl,h1,w1,U⟩:=qc3 S;have D:¬(R < x.top+x.h\/C < x.left+x.w\/(∃y,cs.getLast? = some y/\¬uf y x)\/∃y∈cs,∃r c,inC x r c/\inC y r c):=fun z=>wr (.inr ⟨x,rfl,z⟩);have Y:Fit R C x:=⟨h1,w1,by
    refine Nat.le_of_not_lt fun z=>D (.inl z),by
    refine Nat.le_of_not_lt fun z=>D (.inr (.inl z)),U⟩
   refine⟨cs++[x],pt.snoc Y fun r c Z ⟨y,j,i2⟩=>D (.inr (.inr (.inr ⟨y,j,r,c,Z,i2⟩))),?_,.inr ⟨?_,by rw [wA,ln];rfl⟩⟩
   ·refine zE.mpr ⟨od,pI _ _,fun y j O F=>?_⟩
    have:O=x:=by simpa using F
    subst this;obtain⟨ys,z,rfl⟩:∃ys z,cs=ys++[z]:=by
     have hp:cs≠[]:=fun z=>by rw [z] at j;cases j
     exact⟨cs.dropLast,cs.getLast hp,(dE hp).symm⟩
    have bz:uf z O:=cD fun q=>D (.inr (.inr (.inl ⟨z,by simp,q⟩)));rcases rB.mp j with j |j
    ·have:=(zE.mp od).2.2 y j z (by simp);unfold uf at *;omega
    ·have:y=z:=by simpa using j
     rw [this];exact bz
   ·rw [qD,J,e,lA];rfl
 obtain⟨cs,pt,od,h⟩:=go gs.length (dA _);rcases h with h |⟨e,_⟩
 ·exact⟨cs,pt,od,.inl h⟩
 ·rw [pC] at e;exact⟨cs,pt,od,.inr e⟩
noncomputable def linesOf (z:Str):List Str:=if Txt.endswith z nl1=true then (Txt.split z nl1).dropLast else []
theorem Qx {c:Nat}:∀{l w:List Nat},w∈yd c l->w.length<=l.length
 | [],w,h=>by
  have:w=[]:=by simpa [yd] using h
  subst this;exact dA _
 |a::l,w,h=>by
  obtain⟨h0,t,e⟩:=wk c l;have ih:=fun {w} hw=>Qx (c:=c) (l:=l) (w:=w) hw;unfold yd at h;rw [e] at h ih;rw [fB];split at h
  ·rcases gB.mp h with rfl |h
   ·exact yB _
   ·exact Nat.le_succ_of_le (ih h)
  ·rcases gB.mp h with rfl |h
   ·have:=ih (w:=h0) uA;rw [fB];omega
   ·exact Nat.le_succ_of_le (ih (vA _ h))
theorem M6 {c:Nat}:∀{l:List Nat},(yd c l).length<=l.length+1
 | []=>by simp [yd]
 |a::l=>by
  obtain⟨h0,t,e⟩:=wk c l;have ih:=M6 (c:=c) (l:=l);unfold yd;rw [e] at ih ⊢;rw [fB] at ih ⊢;split
  ·rw [fB,fB];omega
  ·rw [fB];omega
theorem Zq {x y:Str} {c:Nat} (j:c < 256) (h:y∈Txt.split x ⟨#[c]⟩):y.length<=x.length:=by
 have e:=Ar x j
 have:y.cps.toList∈yd c x.cps.toList:=by rw [←e];exact xA.mpr ⟨y,h,rfl⟩
 have:=Qx this;simpa [Str.length] using this
theorem Dp {x:Str} {c:Nat} (j:c < 256):(Txt.split x ⟨#[c]⟩).length<=x.length+1:=by
 have e:=vD List.length (Ar x j);rw [aA] at e
 have:=M6 (c:=c) (l:=x.cps.toList);rw [e];simpa [Str.length] using this
theorem Y6 {x:Str} {c:Nat} (j:c < 256):Txt.split x ⟨#[c]⟩≠[]:=fun z=>by have e:=Ar x j;obtain⟨h0,t,e2⟩:=wk c x.cps.toList;rw [z,e2] at e;cases e
end GT
namespace GT
open PySem L2
noncomputable def ln (ns:List Nat) (k:Nat):Nat:=(ns.take k).sum+k
theorem Dc (ns:List Nat):ln ns 0=0:=by simp [ln]
theorem qj1 {ns:List Nat} {k:Nat} (h:k < ns.length):ln ns (k+1)=ln ns k+ns[k]+1:=by unfold ln;rw [pD h,jG];simp;omega
theorem qb3 (ns:List Nat) (k:Nat):ln ns k < ln ns (k+1):=by
 unfold ln;by_cases h:k < ns.length
 ·rw [pD h,jG];omega
 ·rw [uB (by omega),uB (by omega)];omega
theorem qh2 {ns:List Nat} {a b:Nat} (h:a < b):ln ns a < ln ns b:=by
 induction b with
 |zero=>omega
 |succ b ih=>
  rcases kI (Nat.le_of_lt_succ h) with z |z
  ·exact Nat.lt_trans (ih z) (qb3 ns b)
  ·subst z;exact qb3 ns a
theorem Ao {ns:List Nat} {a b:Nat} (h:a<=b):ln ns a<=ln ns b:=by
 rcases kI h with z |z
 ·exact tG (qh2 z)
 ·subst z;exact dA _
theorem ln_lt_iff {ns:List Nat} {a b:Nat}:ln ns a < ln ns b↔a < b:=
 ⟨fun h=>Nat.lt_of_not_le fun z=>absurd (Ao (ns:=ns) z) (by omega),qh2⟩
theorem ln_le_iff {ns:List Nat} {a b:Nat}:ln ns a<=ln ns b↔a<=b:=
 ⟨fun h=>Nat.le_of_not_lt fun z=>absurd (qh2 (ns:=ns) z) (by omega),Ao⟩
theorem zo0 {ns:List Nat} {a b:Nat}:ln ns a=ln ns b↔a=b:=
 ⟨fun h=>Nat.le_antisymm (ln_le_iff.mp (Nat.le_of_eq h)) (ln_le_iff.mp (Nat.le_of_eq h.symm)),fun h=>h▸rfl⟩
inductive Spot (ns:List Nat) (i:Nat):Int->Int->Prop
 |line (k:Nat) (hk:k<=ns.length) (e:i=ln ns k):Spot ns i ((k:Int) - 1) k
 |slot (k:Nat) (hk:k < ns.length) (lo:ln ns k < i) (hi:i < ln ns (k+1)):Spot ns i k k
theorem O7 {ns:List Nat}:∀{n:Nat} {i:Nat},n<=ns.length->i<=ln ns n->∃p q,Spot ns i p q
 |0,i,_,h=>⟨_,_,.line 0 (yB _) (by have:=Dc ns;omega)⟩
 |n+1,i,hn,h=>by
  by_cases z:i<=ln ns n
  ·exact O7 (by omega) z
  ·by_cases y:i=ln ns (n+1)
   ·exact⟨_,_,.line (n+1) hn y⟩
   ·exact⟨_,_,.slot n (by omega) (by omega) (by omega)⟩
section
variable {ns:List Nat} {i:Nat} {p q:Int}
theorem Spot.ge (s:Spot ns i p q) {t:Nat}:ln ns t<=i↔(t:Int)<=q:=by
 cases s with
 |line k hk e=>rw [e,ln_le_iff];omega
 |slot k hk lo hi=>
  constructor
  ·intro h
   have:ln ns t < ln ns (k+1):=by omega
   have:=ln_lt_iff.mp this;omega
  ·intro h
   have:=Ao (ns:=ns) (a:=t) (b:=k) (by omega);omega
theorem Spot.le (s:Spot ns i p q) {t:Nat}:i<=ln ns t↔p < (t:Int):=by
 cases s with
 |line k hk e=>rw [e,ln_le_iff];omega
 |slot k hk lo hi=>
  constructor
  ·intro h
   have:ln ns k < ln ns t:=by omega
   have:=ln_lt_iff.mp this;omega
  ·intro h
   have:=Ao (ns:=ns) (a:=k+1) (b:=t) (by omega);omega
theorem Spot.eq (s:Spot ns i p q) {t:Nat}:i=ln ns t↔p < q/\q=(t:Int):=by
 cases s with
 |line k hk e=>rw [e,zo0];omega
 |slot k hk lo hi=>
  constructor
  ·intro h;have h1:ln ns k < ln ns t:=by omega
   have h2:ln ns t < ln ns (k+1):=by omega
   have:=ln_lt_iff.mp h1;have:=ln_lt_iff.mp h2;omega
  ·intro h;omega
theorem Spot.near (s:Spot ns i p q):p<=q/\q<=p+1/\-1<=p/\q<=(ns.length:Int):=by
 cases s with
 |line k hk e=>omega
 |slot k hk lo hi=>omega
theorem Spot.some (s:Spot ns i p q) (h:1<=ns.length):∃r:Nat,r < ns.length/\((r:Int)=p\/(r:Int)=q):=by
 cases s with
 |line k hk e=>
  by_cases z:k < ns.length
  ·exact⟨k,z,.inr rfl⟩
  ·exact⟨k - 1,by omega,.inl (by omega)⟩
 |slot k hk lo hi=>exact⟨k,hk,.inr rfl⟩
end
noncomputable def inI (x:Cell) (r c:Int):Prop:=(x.top:Int)<=r/\r < (x.top:Int)+x.h/\(x.left:Int)<=c/\c < (x.left:Int)+x.w
theorem inI_nat {x:Cell} {r c:Nat}:inI x r c↔inC x r c:=by unfold inI inC;omega
noncomputable def Ow (cs:List Cell) (r c k:Int):Prop:=(∃m x,cs[m]? = some x/\k=(m:Nat)/\inI x r c)\/(k=-1/\∀x∈cs,¬inI x r c)
theorem zp1 {R C:Nat} {cs:List Cell} (P:Part R C cs) {m n:Nat} {x y:Cell} {r c:Int} (hx:cs[m]? = some x) (F:cs[n]? = some y) (j:inI x r c) (D:inI y r c):m=n:=by
 obtain⟨h1,e1⟩:=bA.mp hx;obtain⟨h2,e2⟩:=bA.mp F;have G:0<=r:=by have:=j.1;omega
 have J:0<=c:=by have:=j.2.2.1;omega
 obtain⟨r',rfl⟩:=tF G;obtain⟨c',rfl⟩:=tF J;have j:=inI_nat.mp j;have D:=inI_nat.mp D;rcases Nat.lt_trichotomy m n with z |z |z
 ·have:=dD.mp P.dis m n h1 h2 z;rw [e1,e2] at this;exact absurd D (this r' c' j)
 ·exact z
 ·have:=dD.mp P.dis n m h2 h1 z;rw [e1,e2] at this;exact absurd j (this r' c' D)
theorem Ow.at {R C:Nat} {cs:List Cell} (P:Part R C cs) {m:Nat} {x:Cell} {r c k:Int} (hx:cs[m]? = some x) (j:inI x r c) (o:Ow cs r c k):k=m:=by
 rcases o with ⟨n,y,D,e,F⟩ |⟨_,h⟩
 ·rw [e,zp1 P hx D j F]
 ·exact absurd j (h x (jA hx))
noncomputable def zt4 (cs:List Cell) (p q j D:Int):Prop:=∃k,Ow cs p j k/\Ow cs p D k/\Ow cs q j k/\Ow cs q D k
noncomputable def onB (hs ws:List Nat) (x:Cell) (i j:Nat):Prop:=
 (ln hs x.top<=i/\i<=ln hs (x.top+x.h)/\ln ws x.left<=j/\j<=ln ws (x.left+x.w))/\(i=ln hs x.top\/i=ln hs (x.top+x.h)\/j=ln ws x.left\/j=ln ws (x.left+x.w))
theorem Wm {hs ws:List Nat} {x:Cell} {i j:Nat} {p q D F:Int} (s:Spot hs i p q) (s':Spot ws j D F) :
  onB hs ws x i j↔((x.top:Int)<=q/\p < (x.top:Int)+x.h/\(x.left:Int)<=F/\D < (x.left:Int)+x.w)/\¬((x.top:Int)<=p/\q < (x.top:Int)+x.h/\(x.left:Int)<=D/\F < (x.left:Int)+x.w):=by
 unfold onB;rw [s.ge,s.le,s'.ge,s'.le,s.eq,s.eq,s'.eq,s'.eq]
 have:=s.near
 have:=s'.near;omega
theorem zh9 {R C:Nat} {cs:List Cell} {hs ws:List Nat} (P:Tiles R C cs) (hR:hs.length=R) (hC:ws.length=C) (R1:1<=R) (C1:1<=C) {i j:Nat} {p q D F:Int} (s:Spot hs i p q) (s':Spot ws j D F) :
  (∃x∈cs,onB hs ws x i j)↔¬zt4 cs p q D F:=by
 have n:=s.near;have n':=s'.near;constructor
 ·rintro⟨x,hx,G⟩ ⟨k,J,U,Y,O⟩;obtain⟨m,hm⟩:=mH.mp hx;have G:=(Wm s s').mp G;have f:=P.fit x hx;have f1:=f.h1;have f2:=f.w1;have hk:k=m:=by
   by_cases a:(x.top:Int)<=p<;>by_cases b:(x.left:Int)<=D
   ·exact Ow.at P.toPart hm (by unfold inI;omega) J
   ·exact Ow.at P.toPart hm (by unfold inI;omega) U
   ·exact Ow.at P.toPart hm (by unfold inI;omega) Y
   ·exact Ow.at P.toPart hm (by unfold inI;omega) O
  have back:∀{r c:Int},Ow cs r c k->inI x r c:=fun o=>by
   rcases o with ⟨n,y,S,e,Z⟩ |⟨e,_⟩
   ·have:n=m:=by omega
    subst this;rw [hm] at S;cases S;exact Z
   ·omega
  have b1:=back J;have b4:=back O;unfold inI at b1 b4;omega
 ·intro h;obtain⟨r,r1,r2⟩:=s.some (by omega);obtain⟨c,c1,c2⟩:=s'.some (by omega);obtain⟨x,hx,ix⟩:=P.all r c (by omega) (by omega);obtain⟨m,hm⟩:=mH.mp hx;refine⟨x,hx,(Wm s s').mpr ⟨?_,fun z=>h ⟨m,?_⟩⟩⟩
  ·unfold inC at ix;omega
  ·refine⟨.inl ⟨m,x,hm,rfl,?_⟩,.inl ⟨m,x,hm,rfl,?_⟩,.inl ⟨m,x,hm,rfl,?_⟩,.inl ⟨m,x,hm,rfl,?_⟩⟩<;>unfold inI<;>omega
noncomputable def Gq:Str:=⟨#[43]⟩
noncomputable def Oj:Str:=⟨#[45]⟩
noncomputable def qq0:Str:=⟨#[124]⟩
noncomputable def vy:Str:=⟨#[32]⟩
noncomputable abbrev Gd:=Nat->Nat->Str
open Classical in
noncomputable def onL (ns:List Nat) (i:Nat):Bool:=decide (∃k,k<=ns.length/\i=ln ns k)
theorem onL_iff {ns:List Nat} {i:Nat}:onL ns i=true↔∃k,k<=ns.length/\i=ln ns k:=by unfold onL;rw [decide_eq_true_iff]
noncomputable def kindS (hs ws:List Nat) (i j:Nat):Str:=if onL hs i=true then (if onL ws j=true then Gq else Oj) else qq0
noncomputable def Ia (G:Gd) (i j:Nat) (some:List Str):Gd:=fun r c=>if r=i/\j<=c/\c < j+some.length then some.getD (c - j) vy else G r c
theorem qx3 (G:Gd) (i j:Nat):Ia G i j []=G:=by funext r c;unfold Ia;rw [oA (by simp)]
theorem qd7 (G:Gd) (i j:Nat) (a:List Str) (x:Str):Ia G i j (a++[x])=fun r c=>if r=i/\c=j+a.length then x else Ia G i j a r c:=by
 funext r c;unfold Ia;rw [wA,jE];by_cases h:r=i/\c=j+a.length
 ·rw [kA h,kA ⟨h.1,by omega,by omega⟩,zA,kD (by omega)]
  have:c - j - a.length=0:=by omega
  rw [this];rfl
 ·rw [oA h];by_cases k:r=i/\j<=c/\c < j+a.length
  ·rw [kA k,kA ⟨k.1,k.2.1,by omega⟩,zA,zA,aE (by omega)]
  ·rw [oA k,oA (by omega)]
noncomputable def Bq (ns:List Nat) (a b:Nat) (sign:Str):List Str:=(List.range (ln ns b+1 - ln ns a)).map fun d=>if onL ns (ln ns a+d)=true then Gq else sign
theorem Af (ns:List Nat) (a b:Nat) (s:Str):(Bq ns a b s).length=ln ns b+1 - ln ns a:=by simp [Bq]
theorem Wz {ns:List Nat} {a b d:Nat} {s:Str} (h:d < ln ns b+1 - ln ns a):(Bq ns a b s).getD d vy=if onL ns (ln ns a+d)=true then Gq else s:=by unfold Bq;rw [zA,fA,fD h];rfl
noncomputable def hor (hs ws:List Nat) (x:Cell) (G:Gd):Gd:=Ia (Ia G (ln hs x.top) (ln ws x.left) (Bq ws x.left (x.left+x.w) Oj)) (ln hs (x.top+x.h)) (ln ws x.left) (Bq ws x.left (x.left+x.w) Oj)
noncomputable def upS (hs:List Nat) (r:Nat):Str:=if onL hs r=true then Gq else qq0
noncomputable def ups (hs ws:List Nat) (x:Cell) (n:Nat) (G:Gd):Gd:=fun r c=>
 if (c=ln ws x.left\/c=ln ws (x.left+x.w))/\ln hs x.top<=r/\r < ln hs x.top+n then upS hs r else G r c
noncomputable def Jf (hs ws:List Nat) (x:Cell) (G:Gd):Gd:=fun r c=>open Classical in if onB hs ws x r c then kindS hs ws r c else G r c
theorem qo3 (hs ws:List Nat) (x:Cell) (G:Gd):ups hs ws x 0 G=G:=by funext r c;unfold ups;rw [oA (by omega)]
theorem qq2 (hs ws:List Nat) (x:Cell) (n:Nat) (G:Gd) (s:Str) (e:s=upS hs (ln hs x.top+n)) :
  ups hs ws x (n+1) G=Ia (Ia (ups hs ws x n G) (ln hs x.top+n) (ln ws x.left) [s]) (ln hs x.top+n) (ln ws (x.left+x.w)) [s]:=by
 funext r c;unfold Ia ups;simp only [jE];by_cases a:r=ln hs x.top+n
 ·subst a;by_cases b:c=ln ws (x.left+x.w)
  ·rw [kA ⟨.inr b,by omega,by omega⟩,kA ⟨rfl,by omega,by omega⟩,e,b,Nat.sub_self];rfl
  ·rw [oA (c:=ln hs x.top+n=ln hs x.top+n/\ln ws (x.left+x.w)<=c/\c < ln ws (x.left+x.w)+1) (by omega)];by_cases d:c=ln ws x.left
   ·rw [kA ⟨.inl d,by omega,by omega⟩,kA ⟨rfl,by omega,by omega⟩,e,d,Nat.sub_self];rfl
   ·rw [oA (by omega),oA (by omega),oA (by omega)]
 ·rw [oA (c:=r=ln hs x.top+n/\_) (by omega),oA (c:=r=ln hs x.top+n/\_) (by omega)];by_cases b:(c=ln ws x.left\/c=ln ws (x.left+x.w))/\ln hs x.top<=r/\r < ln hs x.top+n
  ·rw [kA b,kA (by omega)]
  ·rw [oA b,oA (by omega)]
theorem ze0 {hs ws:List Nat} {x:Cell} (f:Fit hs.length ws.length x) (G:Gd):ups hs ws x (ln hs (x.top+x.h)+1 - ln hs x.top) (hor hs ws x G)=Jf hs ws x G:=by
 funext r c;have t:=Ao (ns:=hs) (a:=x.top) (b:=x.top+x.h) (by omega);have l:=Ao (ns:=ws) (a:=x.left) (b:=x.left+x.w) (by omega);have F:onL hs (ln hs x.top)=true:=onL_iff.mpr ⟨_,by have:=f.down;omega,rfl⟩;have j:onL hs (ln hs (x.top+x.h))=true:=onL_iff.mpr ⟨_,by have:=f.down;omega,rfl⟩;have onLe:onL ws (ln ws x.left)=true:=onL_iff.mpr ⟨_,by have:=f.across;omega,rfl⟩;have onRi:onL ws (ln ws (x.left+x.w))=true:=onL_iff.mpr ⟨_,by have:=f.across;omega,rfl⟩;unfold Jf ups;by_cases a:(c=ln ws x.left\/c=ln ws (x.left+x.w))/\ln hs x.top<=r/\r < ln hs x.top+(ln hs (x.top+x.h)+1 - ln hs x.top)
 ·have D:onB hs ws x r c:=by unfold onB;omega
  have oc:onL ws c=true:=by rcases a.1 with e |e<;>rw [e]<;>assumption
  rw [kA a,kA D];unfold kindS upS;rw [kA oc]
 ·rw [oA a];unfold hor Ia;rw [Af];by_cases b:r=ln hs (x.top+x.h)/\ln ws x.left<=c/\c < ln ws x.left+(ln ws (x.left+x.w)+1 - ln ws x.left)
  ·have D:onB hs ws x r c:=by unfold onB;omega
   rw [kA b,kA D,Wz (by omega),show ln ws x.left+(c - ln ws x.left)=c by omega];unfold kindS;rw [b.1,kA j]
  ·rw [oA b];by_cases d:r=ln hs x.top/\ln ws x.left<=c/\c < ln ws x.left+(ln ws (x.left+x.w)+1 - ln ws x.left)
   ·have D:onB hs ws x r c:=by unfold onB;omega
    rw [kA d,kA D,Wz (by omega),show ln ws x.left+(c - ln ws x.left)=c by omega];unfold kindS;rw [d.1,kA F]
   ·rw [oA d,oA (by unfold onB;omega)]
theorem Spot.inside {ns:List Nat} {i:Nat} {p q:Int} (s:Spot ns i p q) {t h:Nat} (a:ln ns t < i) (b:i < ln ns (t+h)):(t:Int)<=p/\q < (t:Int)+h:=by
 have h1:=s.near;have h2:¬i<=ln ns t:=by omega
 have j:¬ln ns (t+h)<=i:=by omega
 rw [s.le] at h2;rw [s.ge] at j;omega
noncomputable def within (hs ws:List Nat) (x:Cell) (i j:Nat):Prop:=ln hs x.top < i/\i < ln hs (x.top+x.h)/\ln ws x.left < j/\j < ln ws (x.left+x.w)
theorem Wk {R C:Nat} {cs:List Cell} {hs ws:List Nat} (P:Tiles R C cs) (hR:hs.length=R) (hC:ws.length=C) (R1:1<=R) (C1:1<=C) {i j:Nat} {x:Cell} (hx:x∈cs) (w:within hs ws x i j):∀y∈cs,¬onB hs ws y i j:=by
 intro y D F;have f:=P.fit x hx;have e1:i<=ln hs R:=by have:=Ao (ns:=hs) f.down;have:=w.2.1;omega
 have e2:j<=ln ws C:=by have:=Ao (ns:=ws) f.across;have:=w.2.2.2;omega
 obtain⟨p,q,s⟩:=O7 (ns:=hs) (n:=R) (by omega) e1;obtain⟨p',q',s'⟩:=O7 (ns:=ws) (n:=C) (by omega) e2;obtain⟨m,hm⟩:=mH.mp hx;have a:=s.inside w.1 w.2.1;have b:=s'.inside w.2.2.1 w.2.2.2;have n:=s.near;have n':=s'.near;refine (zh9 P hR hC R1 C1 s s').mp ⟨y,D,F⟩ ⟨m,?_⟩;refine⟨.inl ⟨m,x,hm,rfl,?_⟩,.inl ⟨m,x,hm,rfl,?_⟩,.inl ⟨m,x,hm,rfl,?_⟩,.inl ⟨m,x,hm,rfl,?_⟩⟩<;>unfold inI<;>omega
noncomputable def vq (hs ws:List Nat) (T:Cell->List (List Str)) (x:Cell) (n:Nat) (G:Gd):Gd:=fun r c=>
 if ln hs x.top+1<=r/\r < ln hs x.top+1+n/\ln ws x.left+1<=c/\c < ln ws x.left+1+((T x).getD (r - (ln hs x.top+1)) []).length then ((T x).getD (r - (ln hs x.top+1)) []).getD (c - (ln ws x.left+1)) vy else G r c
theorem W5 (hs ws:List Nat) (T:Cell->List (List Str)) (x:Cell) (G:Gd):vq hs ws T x 0 G=G:=by funext r c;unfold vq;rw [oA (by omega)]
theorem Xe (hs ws:List Nat) (T:Cell->List (List Str)) (x:Cell) (n:Nat) (G:Gd) (row:List Str) (e:(T x).getD n []=row) :
  vq hs ws T x (n+1) G=Ia (vq hs ws T x n G) (ln hs x.top+1+n) (ln ws x.left+1) row:=by
 funext r c;unfold Ia vq;by_cases a:r=ln hs x.top+1+n
 ·subst a;have h1:ln hs x.top+1+n - (ln hs x.top+1)=n:=by omega
  rw [h1,e];by_cases b:ln ws x.left+1<=c/\c < ln ws x.left+1+row.length
  ·rw [kA ⟨by omega,by omega,b⟩,kA ⟨rfl,b⟩]
  ·rw [oA (by omega),oA (by omega),oA (by omega)]
 ·rw [oA (c:=r=ln hs x.top+1+n/\_) (by omega)];by_cases b:ln hs x.top+1<=r/\r < ln hs x.top+1+n/\ln ws x.left+1<=c/\c < ln ws x.left+1+((T x).getD (r - (ln hs x.top+1)) []).length
  ·rw [kA b,kA (by omega)]
  ·rw [oA b,oA (by omega)]
structure RoomW (hs ws:List Nat) (T:Cell->List (List Str)) (x:Cell):Prop where
  rows:ln hs x.top+1+(T x).length<=ln hs (x.top+x.h)
  each:∀g∈T x,ln ws x.left+1+g.length<=ln ws (x.left+x.w)
theorem RoomW.within {hs ws:List Nat} {T:Cell->List (List Str)} {x:Cell} (h:RoomW hs ws T x) {r c:Nat}
  (w:ln hs x.top+1<=r/\r < ln hs x.top+1+(T x).length/\ln ws x.left+1<=c/\c < ln ws x.left+1+((T x).getD (r - (ln hs x.top+1)) []).length):within hs ws x r c:=by
 have h1:=h.rows;have lt:r - (ln hs x.top+1) < (T x).length:=by omega
 have h2:=h.each ((T x)[r - (ln hs x.top+1)]) (vH _);rw [zA,gA lt] at w;simp only [Option.getD_some] at w;unfold GT.within;omega
noncomputable def Gf (hs ws:List Nat) (T:Cell->List (List Str)) (cs:List Cell):Gd:=cs.foldl (fun G x=>vq hs ws T x (T x).length (Jf hs ws x G)) fun _ _=>vy
theorem Yq {α:Type} (st:α->Gd->Gd) (D:α->Str->Str) (i j:Nat) (h:∀x G,st x G i j=D x (G i j)):∀(cs:List α) (G:Gd),(cs.foldl (fun G x=>st x G) G) i j=cs.foldl (fun v x=>D x v) (G i j)
 | [],G=>rfl
 |x::cs,G=>by rw [zC,zC,Yq st D i j h cs,h]
open Classical in
theorem qp9 {α:Type} (k:Str) (D:α->Prop) (j:α->Option Str):∀(cs:List α) (b:Str),(∀x∈cs,(j x).isSome->∀y∈cs,¬D y) ->
  cs.foldl (fun v x=>(j x).getD (if D x then k else v)) b=cs.foldl (fun v x=>(j x).getD v) (if ∃y∈cs,D y then k else b):=by
 intro cs b h;by_cases e:∃y∈cs,D y
 ·rw [kA e];obtain⟨y,F,J⟩:=e;have none:∀x∈cs,j x=none:=fun x hx=>by
   cases hw:j x with
   |none=>rfl
   |some s=>exact absurd J (h x hx (by rw [hw];rfl) y F)
  have stay:∀(l:List α),(∀x∈l,j x=Option.none)->l.foldl (fun v x=>(j x).getD (if D x then k else v)) k=k:=by
   intro l;induction l with
   |nil=>intro _;rfl
   |cons x l ih=>
    intro hl;rw [zC,hl x (.head _)]
    have:(Option.none:Option Str).getD (if D x then k else k)=k:=by split<;>rfl
    rw [this];exact ih fun z G=>hl z (.tail _ G)
  have O:∀(l:List α),(∀x∈l,j x=Option.none)->l.foldl (fun v x=>(j x).getD v) k=k:=by
   intro l;induction l with
   |nil=>intro _;rfl
   |cons x l ih=>intro hl;rw [zC,hl x (.head _)];exact ih fun z G=>hl z (.tail _ G)
  rw [O cs none]
  have:∀(l:List α) (b:Str),(∀x∈l,j x=Option.none)->(∃y∈l,D y)->l.foldl (fun v x=>(j x).getD (if D x then k else v)) b=k:=by
   intro l;induction l with
   |nil=>rintro b _ ⟨y,F,_⟩;cases F
   |cons x l ih=>
    rintro b hl ⟨y,F,J⟩;rw [zC,hl x (.head _)];show l.foldl _ (if D x then k else b)=k;by_cases ox:D x
    ·rw [kA ox];exact stay l fun z G=>hl z (.tail _ G)
    ·rw [oA ox];rcases gB.mp F with rfl |F
     ·exact absurd J ox
     ·exact ih b (fun z G=>hl z (.tail _ G)) ⟨y,F,J⟩
  exact this cs b none ⟨y,F,J⟩
 ·rw [oA e]
  have:∀(l:List α) (b:Str),(∀y∈l,¬D y)->l.foldl (fun v x=>(j x).getD (if D x then k else v)) b=l.foldl (fun v x=>(j x).getD v) b:=by
   intro l;induction l with
   |nil=>intro b _;rfl
   |cons x l ih=>intro b hl;rw [zC,zC,oA (hl x (.head _))];exact ih _ fun z G=>hl z (.tail _ G)
  exact this cs b fun y F J=>e ⟨y,F,J⟩
end GT
namespace GT
open PySem PySem.StrLaws
end GT
namespace GT
open PySem L2
noncomputable def wdC (hs ws:List Nat) (T:Cell->List (List Str)) (i j:Nat) (x:Cell):Prop:=ln hs x.top+1<=i/\i < ln hs x.top+1+(T x).length/\ln ws x.left+1<=j/\j < ln ws x.left+1+((T x).getD (i - (ln hs x.top+1)) []).length
noncomputable instance (hs ws:List Nat) (T:Cell->List (List Str)) (i j:Nat) (x:Cell):Decidable (wdC hs ws T i j x):=by unfold wdC;infer_instance
noncomputable def wdO (hs ws:List Nat) (T:Cell->List (List Str)) (i j:Nat) (x:Cell):Option Str:=if wdC hs ws T i j x then some (((T x).getD (i - (ln hs x.top+1)) []).getD (j - (ln ws x.left+1)) vy) else none
theorem qq5 {hs ws:List Nat} {T:Cell->List (List Str)} {i j:Nat} {x:Cell} {s:Str} (h:wdO hs ws T i j x=some s):wdC hs ws T i j x:=by
 unfold wdO at h;by_cases z:wdC hs ws T i j x
 ·exact z
 ·rw [oA z] at h;cases h
theorem Te {α:Type} {j:α->Option Str}:∀{l:List α} {b:Str},(∀x∈l,j x=none)->l.foldl (fun v x=>(j x).getD v) b=b
 | [],b,_=>rfl
 |x::l,b,h=>by rw [zC,h x uA];exact Te fun y D=>h y (vA _ D)
section
variable {R C:Nat} {cs:List Cell} {hs ws:List Nat} {T:Cell->List (List Str)}
open Classical in
theorem qj9 (i j:Nat):Gf hs ws T cs i j=cs.foldl (fun v x=>(wdO hs ws T i j x).getD (if onB hs ws x i j then kindS hs ws i j else v)) vy:=by
 unfold Gf;refine Yq (fun x G=>vq hs ws T x (T x).length (Jf hs ws x G)) (fun x v=>(wdO hs ws T i j x).getD (if onB hs ws x i j then kindS hs ws i j else v)) i j (fun x G=>?_) cs _;show vq hs ws T x (T x).length (Jf hs ws x G) i j=_;unfold vq Jf wdO;by_cases h:wdC hs ws T i j x
 ·rw [kA h];unfold wdC at h;rw [kA h];rfl
 ·rw [oA h];unfold wdC at h;rw [oA h];rfl
structure Sheet (R C:Nat) (cs:List Cell) (hs ws:List Nat) (T:Cell->List (List Str)):Prop where
  tl:Tiles R C cs
  hR:hs.length=R
  hC:ws.length=C
  R1:1<=R
  C1:1<=C
  room:∀x∈cs,RoomW hs ws T x
  gH:∀k,k < R->ln hs k+1 < ln hs (k+1)
  gW:∀k,k < C->ln ws k+1 < ln ws (k+1)
  sgn:∀x∈cs,∀k,∀y∈(T x).getD k [],y≠Oj/\y≠qq0
theorem qi8 (S:Sheet R C cs hs ws T) {i j:Nat} (h:∃y∈cs,onB hs ws y i j):Gf hs ws T cs i j=kindS hs ws i j:=by
 obtain⟨y,D,F⟩:=h;have no:∀x∈cs,wdO hs ws T i j x=none:=fun x hx=>by
  cases hw:wdO hs ws T i j x with
  |none=>rfl
  |some s=>exact absurd F (Wk S.tl S.hR S.hC S.R1 S.C1 hx ((S.room x hx).within (qq5 hw)) y D)
 rw [qj9,qp9 _ _ _ _ _ (fun x hx hw=>by rw [no x hx] at hw;cases hw),kA ⟨y,D,F⟩];exact Te no
theorem zw2 (S:Sheet R C cs hs ws T) {i:Nat} (hi:i<=ln hs R):Gf hs ws T cs i 0=if onL hs i=true then Gq else qq0:=by have hR:=S.hR;have hC:=S.hC;obtain⟨p,q,s⟩:=O7 (ns:=hs) (n:=R) (by omega) hi;have s':Spot ws 0 (((0:Nat):Int) - 1) ((0:Nat):Int):=.line 0 (yB _) (Dc ws).symm;obtain⟨r,r1,r2⟩:=s.some (by have:=S.R1;omega);obtain⟨x,hx,j⟩:=S.tl.all r 0 (by omega) (by have:=S.C1;omega);have n:=s.near;have f:=S.tl.fit x hx;have f1:=f.w1;unfold inC at j;rw [qi8 S ⟨x,hx,(Wm s s').mpr ⟨by omega,by omega⟩⟩];have e:onL ws 0=true:=onL_iff.mpr ⟨0,yB _,(Dc ws).symm⟩;unfold kindS;rw [kA e]
end
end GT
namespace L2
open PySem PySem.Spec PyProof.Rows PySem.W
inductive rSlS (x:V) (lo:Option Int) (hi:Option Int) (H:Hp) (Q:VK):Prop
 |mk (z:Str) (f b:Nat) (_:x=.str z) (_:lo=some (f:Int)) (_:hi=some (b:Int)) (_:f<=b) (_:b<=z.length) (_:z.length<=sizeLine) (_:Q (.str ⟨((z.cps.toList.take b).drop f).toArray⟩) H)
theorem part_of {v:Value} {i:Int} (h:IsPart v (some i)):∃t,v=partValue (some (i,t)):=by
 cases h with
 |int _ t=>exact⟨t,rfl⟩
theorem zp6 {X:Cx} {K:PySem.W.Frag} (hK:X.K=K):SlR X rSlS:=by
 intro pins s σ H x v vl vu lo hi sl Q I D hs pl pu h;obtain⟨z,f,b,rfl,rfl,rfl,j,hb,hz,q⟩:=h;obtain⟨t,rfl⟩:=D;obtain⟨t1,rfl⟩:=part_of pl;obtain⟨t2,rfl⟩:=part_of pu;refine⟨"str",_,F.slot_str_getitem.lookup,iI _ _ _,?_⟩;refine wpAny_getItem_str_slice (l:=some ((f:Int),t1)) (u:=some ((b:Int),t2)) (st:=none) hs rfl ?_;have ep:(slicePicked z (some ((f:Int),t1)) (some ((b:Int),t2)) none)=(List.range (b - f)).map (fun k=>f+k):=StrLaws.strSliceIndices_plain j hb;have G:((slicePicked z (some ((f:Int),t1)) (some ((b:Int),t2)) none).filterMap (z.cps[·]?))=(z.cps.toList.drop f).take (b - f):=StrLaws.sliced_plain z j hb;unfold sliceMade;rw [G];split
 ·rename_i hw;have hw:=(bC _ _▸hw).2;rw [ep,aA,mC,beq_iff_eq] at hw;have e0:f=0:=by omega
  have e1:b=z.length:=by omega
  have zl:z.length=z.cps.toList.length:=by simp [Str.length]
  refine⟨.str z,H,I,⟨t,rfl⟩,?_⟩
  have:(⟨((z.cps.toList.take b).drop f).toArray⟩:Str)=z:=GT.str_ext (by rw [e0,e1,zl,pC];rfl);rw [this] at q;exact q
 ·have:(z.cps.toList.drop f).take (b - f)=(z.cps.toList.take b).drop f:=by rw [cG]
  rw [this];refine⟨?_,.str _,H,I.tok _,⟨_,rfl⟩,q⟩;show ((z.cps.toList.take b).drop f).toArray.size<=sizeLine;rw [qA,wC,cB];omega
inductive rWords (x:V) (vs:List V) (H:Hp) (Q:VK):Prop
 |mk (z:Str) (_:x=.str z) (_:vs=[]) (_:z.length<=1000000) (_:∀l,H l=none->Q (.ref l) (upd H l (.lst ((Txt.words z).map V.str))))
theorem qg8 {X:Cx}:MtM X "str.split" rWords:=by
 intro pins s σ H x vs v us Q I j D h;obtain⟨z,rfl,rfl,hz,q⟩:=h;obtain⟨t,rfl⟩:=j;cases D;have sw:=(StrLaws.sw_weight z).1;have sl:=StrLaws.len_le_wsum (Builtin.Str.spaceWords z (z.length+1));have h1:z.length<=sizeLine:=by rw [qE];omega
 have h2:(Builtin.Str.spaceWords z (z.length+1)).length<=sizeLine:=by rw [qE];omega
 have wl:=StrLaws.words_weight z;have fin:∀(l:List (Str×Tok)) (tk:Nat),l.map (·.1)=Txt.words z->EP X pins σ Q (.ref s.heap.objs.size) { s with toks:=tk,heap:=s.heap.push { cls:=.type "list",data:=.seq (strValues l).toArray}}:=fun l tk e=>by
  refine⟨.ref _,_,I.laid (t':=tk) (o:=.lst ((Txt.words z).map V.str)) (fun b o e=>iA _ e) (dA _) ⟨?_,strValues l,0,?_,zB _ rfl⟩,rfl,q _ (I.hok.fresh (dA _))⟩
  ·rw [aA,qE];omega
  ·rw [←e];exact Jr l
 refine jI F.slot_str_split (iI _ _ _) F.entry_str_split (F.args_str_split_1 _) (meets_str_split_space z t h1 h2) ?_;cases hw:Builtin.Str.spaceWords z (z.length+1) == [(0,z.length)]
 ·simp only [fC,yE];rw [strsFrom_eq];exact fin (numbered s.toks (PySem.wordsOf z)) _ ((numbered_texts _ _).trans (oA (yH hw)).symm)
 ·simp only [yF];exact fin [(z,t)] _ (kA hw).symm
theorem zf6 {X:Cx} {K:PySem.W.Frag} {T:String} {id:String} {name:Str} {r:V->List V->Hp->VK->Prop} {o:Expr} {to:TE} {apos cpos:Pos} (h:X.K=K) (G:PlainAttrs T) (slot:Slot T name id) (F:typeOf (.builtin id)=pure (.type "method_descriptor")) (hm:MtM X id r) (J:PE X o to)
  (j:attributeBase o name X.env (eval o X.env)=eval o X.env:=by rfl) (D:(apos.endLine == cpos.line)=true:=by rfl):PE X (.Call (.Attribute o name apos) [] [] cpos) (zu6 K T r to):=by subst h;exact zn3 G slot F hm J j D
theorem qa7 {x:Str} {g:TG} {tt:TT} {te:TE} {D:St} {H1:Hp} {acc:Addr} {Q:VK} (Pv:Nat->St->Hp->Prop) (h0:Pv 0 D (upd H1 acc (.lst [])))
  (hs:∀i c σ H t,x.cps[i]? = some c->Pv i σ H->H t=none->g (.ref t) σ (upd H t (.tup [.int (i:Int),.str ⟨#[c]⟩])) fun j H4=>tt j H4 fun b G=>
   if b=true then te j G fun y H6=>∃ys,H6 acc=some (.lst ys)/\ys.length < sizeLine/\Pv (i+1) j (upd H6 acc (.lst (ys++[y]))) else Pv (i+1) j G)
  (hd:∀σ H,Pv x.cps.size σ H->Q (.ref acc) H):Tq (Its x) g tt te acc D H1 Q:=by
 refine⟨fun i m σ H=>m=x.cps.size - i/\i<=x.cps.size/\Pv i σ H,⟨x.cps.size,by simp,yB _,h0⟩,?_⟩;rintro i m σ H ⟨rfl,hi,p⟩;by_cases F:i < x.cps.size
 ·refine .inr ⟨F,Pv (i+1),fun σ' H' J=>⟨x.cps.size - (i+1),by omega,rfl,F,J⟩,fun v H' y=>?_⟩;obtain⟨t,c,O,rfl,S,rfl⟩:=y;exact hs i c σ H t S p O
 ·have e:i=x.cps.size:=by omega
  subst e;exact .inl ⟨dA _,hd σ H p⟩
inductive rSlA (x:V) (lo:Option Int) (hi:Option Int) (H:Hp) (Q:VK):Prop
 |mk (z:Str) (_:x=.str z) (_:z.length<=sizeLine) (_:Q (.str (PySem.Txt.slice z lo hi)) H)
theorem X8 {v:Value} {i:Option Int} (h:IsPart v i):∃l:Option (Int×Tok),v=partValue l/\l.map (·.1)=i:=by
 cases h with
 |none=>exact⟨none,rfl,rfl⟩
 |int i t=>exact⟨some (i,t),rfl,rfl⟩
theorem Ad {X:Cx} {K:PySem.W.Frag} (hK:X.K=K):SlR X rSlA:=by
 intro pins s σ H x v vl vu lo hi sl Q I G hs pl pu h;obtain⟨z,rfl,J,q⟩:=h;obtain⟨t,rfl⟩:=G;obtain⟨j,rfl,rfl⟩:=X8 pl;obtain⟨D,rfl,rfl⟩:=X8 pu;refine⟨"str",_,F.slot_str_getitem.lookup,iI _ _ _,?_⟩;refine wpAny_getItem_str_slice (l:=j) (u:=D) (st:=none) hs rfl ?_;have le:=lI z (j.map (·.1)) (D.map (·.1));unfold PySem.Txt.slice at q le;unfold sliceMade;have e:(((none:Option (Int×Tok)).map (·.1)).getD 1)=(1:Int):=rfl;have e2:slicePicked z j D none=Builtin.Str.strSliceIndices (j.map (·.1)) (D.map (·.1)) 1 z.length:=rfl;rw [e,e2];split
 ·rename_i hw;rw [kA hw] at q;exact⟨.str z,H,I,⟨t,rfl⟩,q⟩
 ·rename_i hw;rw [oA hw] at q le;exact⟨aD le J,.str _,H,I.tok _,⟨_,rfl⟩,q⟩
inductive rMulS (x:V) (y:V) (H:Hp) (Q:VK):Prop
 |mk (z:Str) (n:Nat) (_:x=.str z) (_:y=.int (n:Int)) (_:1 < n) (_:0 < z.length) (_:z.length * n<=1000000) (_:Q (.str ⟨(List.replicate n z.cps).foldl (·++·) #[]⟩) H)
theorem Y0 (z:Array Nat):∀(n:Nat) (a:Array Nat),((List.replicate n z).foldl (·++·) a).size=a.size+n * z.size
 |0,a=>by simp
 |n+1,a=>by rw [vF,zC,Y0 z n,Array.size_append,mG];omega
theorem Lh {X:Cx}:OpR X (binaryOp .Mult) rMulS:=by
 intro pins s σ H x y v u Q I j D h;obtain⟨z,n,rfl,rfl,h1,F,hn,q⟩:=h;obtain⟨t,rfl⟩:=j;obtain⟨t',rfl⟩:=D;have hl:1 * n<=z.length * n:=uH _ F;have c1:¬(n:Int) < 1:=by omega
 have G:((n:Int) == 1 ||z.length == 0)=false:=by have a:((n:Int) == 1)=false:=beq_eq_false_iff_ne.mpr (by omega);have b:(z.length == 0)=false:=beq_eq_false_iff_ne.mpr (by omega);rw [a,b];rfl
 refine PySem.P.mul_str (by rw [dB (by omega),dB (by omega)];rfl) (fun _ _=>?_) (fun _ _=>?_) ?_
 ·have:(z.length:Int)<=(2 ^ 63 - 1) / (n:Int):=by
   rw [Int.le_ediv_iff_mul_le (by omega)]
   have:((z.length * n:Nat):Int)<=((1000000:Nat):Int):=Int.ofNat_le.mpr hn;rw [Int.natCast_mul] at this;omega
  omega
 ·rw [Int.toNat_natCast];show decide (z.length * n > sizeLine)=false;rw [qE];exact dB (by omega)
 ·rw [oA c1,oA (by rw [G];exact bB),Int.toNat_natCast];refine⟨?_,.str _,H,I.tok _,⟨_,rfl⟩,q⟩;show ((List.replicate n z.cps).foldl (·++·) #[]).size<=sizeLine;rw [Y0,qE];have e:z.cps.size=z.length:=rfl;rw [e,wH];simp only [qA,nE];omega
noncomputable def PEt (X:Cx) (e:Expr) (t:TE):Prop:=
 ∀(pins:List (Addr×Obj)) (s:Shared) (σ:St) (H:Hp) (Q:VK),1<=s.toks->Inv X pins σ H s->t σ H Q->wpAny (model X.prog X.w) X.A (eval e X.env) (EP X pins σ Q) X.xe s
noncomputable def PAt (X:Cx) (es:List Expr) (t:TA):Prop:=
 ∀(pos:Pos) (pins:List (Addr×Obj)) (s:Shared) (σ:St) (H:Hp) (Q:List V->Hp->Prop),1<=s.toks->Inv X pins σ H s->t σ H Q->wpAny (model X.prog X.w) X.A (spliced (backTo pos (starEach es X.env))) (AP X pins σ Q) X.xe s
noncomputable def PSt (X:Cx) (st:Stmt) (t:TS):Prop:=
 ∀(pins:List (Addr×Obj)) (s:Shared) (σ:St) (H:Hp) (D:Ends),1<=s.toks->Inv X pins σ H s->t D σ H->wpAny (model X.prog X.w) X.A (exec st X.env) (SP X pins D) X.xe s
noncomputable def zq6 (X:Cx) (st:List Stmt) (t:TS):Prop:=
 ∀(pins:List (Addr×Obj)) (s:Shared) (σ:St) (H:Hp) (D:Ends),1<=s.toks->Inv X pins σ H s->t D σ H->wpAny (model X.prog X.w) X.A (execs st X.env) (SP X pins D) X.xe s
noncomputable def PEf (X:Cx) (e:Expr) (t:TE):Prop:=
 ∀(pins:List (Addr×Obj)) (s:Shared) (σ:St) (H:Hp) (Q:VK),Inv X pins σ H s->t σ H Q->wpAny (model X.prog X.w) X.A (eval e X.env) (fun u s'=>1<=s'.toks/\EP X pins σ Q u s') X.xe s
noncomputable def PAf (X:Cx) (es:List Expr) (t:TA):Prop:=
 ∀(pos:Pos) (pins:List (Addr×Obj)) (s:Shared) (σ:St) (H:Hp) (Q:List V->Hp->Prop),Inv X pins σ H s->t σ H Q->wpAny (model X.prog X.w) X.A (spliced (backTo pos (starEach es X.env))) (fun u s'=>1<=s'.toks/\AP X pins σ Q u s') X.xe s
noncomputable def PSf (X:Cx) (st:Stmt) (t:TS):Prop:=
 ∀(pins:List (Addr×Obj)) (s:Shared) (σ:St) (H:Hp) (D:Ends),Inv X pins σ H s->t D σ H->wpAny (model X.prog X.w) X.A (exec st X.env) (fun u s'=>1<=s'.toks/\SP X pins D u s') X.xe s
section
variable {X:Cx} {e a b:Expr} {es:List Expr} {te ta tb:TE} {tA:TA} {st:Stmt} {rest:List Stmt} {t u:TS} {pos:Pos}
theorem PE.tk (h:PE X e te):PEt X e te:=fun pins s σ H Q _ I q=>h pins s σ H Q I q
theorem PA.tk (h:PA X es tA):PAt X es tA:=fun pos pins s σ H Q _ I q=>h pos pins s σ H Q I q
theorem PS.tk (h:PS X st t):PSt X st t:=fun pins s σ H D _ I q=>h pins s σ H D I q
theorem mo {α:Type} {M:Model} {A:Around} {s:Shared} {c:Sem α} {Q Q':α->Shared->Prop} {E:Value->Shared->Prop} (hn:1<=s.toks) (h:wpAny M A c Q E s) (k:∀a s',1<=s'.toks->Q a s'->Q' a s'):wpAny M A c Q' E s:=
 oC (wpAny_toks_of hn h) (fun a s' x=>k a s' x.1 x.2) (fun _ _ x=>x.2)
theorem yp (ha:PEt X e te) (j:PAt X es tA) (hs:starEach (e::es) X.env=(false,eval e X.env)::starEach es X.env:=by rfl):PAt X (e::es) (Zz te tA):=by intro pos pins s σ H Q hn I h;rw [hs];show wpAny _ _ (spliced ((false,eval e X.env)::backTo pos (starEach es X.env))) _ _ s;refine vG (mo hn (ha pins s σ H _ hn I h) fun u s1 h1 ⟨x,H1,D,F,q1⟩=>?_);exact thn (j pos pins s1 σ H1 _ h1 D q1) fun us s2 ⟨xs,H2,G,J,q2⟩=>⟨x::xs,H2,G,.cons F J,q2⟩
theorem zg7 (h:PAt X es tA):PEt X (.List es pos) (zs0 tA):=by intro pins s σ H Q hn I D;refine wpAny_List_spliced (thn (h pos pins s σ H _ hn I D) fun us s1 ⟨xs,H1,j,r,z,q⟩=>⟨by rw [←r.length];exact z,?_⟩);have hf:H1 s1.heap.objs.size=none:=j.hok.fresh (dA _);refine⟨.ref s1.heap.objs.size,upd H1 s1.heap.objs.size (.lst xs),j.laid (t':=s1.toks) (fun b u e=>iA _ e) (dA _) ?_,rfl,q _ hf⟩;exact⟨z,us,0,r,zB _ rfl⟩
theorem zc8 (h:PAf X es tA):PEf X (.List es pos) (zs0 tA):=by intro pins s σ H Q I D;refine wpAny_List_spliced (thn (h pos pins s σ H _ I D) fun us s1 ⟨h1,xs,H1,j,r,z,q⟩=>⟨by rw [←r.length];exact z,h1,?_⟩);have hf:H1 s1.heap.objs.size=none:=j.hok.fresh (dA _);refine⟨.ref s1.heap.objs.size,upd H1 s1.heap.objs.size (.lst xs),j.laid (t':=s1.toks) (fun b u e=>iA _ e) (dA _) ?_,rfl,q _ hf⟩;exact⟨z,us,0,r,zB _ rfl⟩
theorem zu1 (ha:PEt X a ta) (hb:PEt X b tb) {pins:List (Addr×Obj)} {s:Shared} {σ:St} {H:Hp} {R:V->V->Hp->Prop} (hn:1<=s.toks) (I:Inv X pins σ H s)
  (h:ta σ H fun x H1=>tb σ H1 fun y H2=>R x y H2) {Q:Value->Shared->Prop} {f:Value->Value->Sem Value}
  (hf:∀v u s2 x y H2,Inv X pins σ H2 s2->RelV x v->RelV y u->R x y H2->wpAny (model X.prog X.w) X.A (f v u) Q X.xe s2) :
  wpAny (model X.prog X.w) X.A (eval a X.env) (fun v j=>wpAny (model X.prog X.w) X.A (eval b X.env) (fun u D=>wpAny (model X.prog X.w) X.A (f v u) Q X.xe D) X.xe j) X.xe s:=by
 refine mo hn (ha pins s σ H _ hn I h) fun v s1 h1 ⟨x,H1,F,G,q1⟩=>?_;refine thn (hb pins s1 σ H1 _ h1 F q1) fun u s2 ⟨y,H2,J,O,q2⟩=>?_;exact hf v u s2 x y H2 J G O q2
theorem zp0 {op:Operator} {r:R2} (j:OpR X (binaryOp op) r) (ha:PEt X a ta) (hb:PEt X b tb):PEt X (.BinOp a op b pos) (tOp r ta tb):=by intro pins s σ H Q hn I h;exact wpAny_BinOp (zu1 ha hb hn I h fun v u s2 x y H2 D F G q=>j pins s2 σ H2 x y v u Q D F G q)
theorem zh0 {i:Nat} {x:Str} {pos':Pos} (j:X.N.Nodup) (hi:X.N[i]? = some x) (hx:Loc X.env.scope x) (he:PEt X e te) (hs:swapsWith e (some (.Name x pos')) pos.line X.env=pure false:=by rfl) (hf:X.fn x=true\/X.env.scope.names.lookup x=some .local:=by first |exact .inl rfl |exact .inr rfl |assumption) :
  PSt X (.Assign [.Name x pos'] e pos) (qp4 te (jt i)):=by
 intro pins s σ H D hn I h;refine wpAny_Assign_Name (thn (he pins s σ H _ hn I h) fun v s1 ⟨y,H1,F,G,q1⟩=>?_) hs;exact Bo F j hi hx G (fun s2 J=>⟨_,H1,J,q1⟩) hf
theorem zc9 {i:Nat} {x:Str} {pos':Pos} (j:X.N.Nodup) (hi:X.N[i]? = some x) (hx:Loc X.env.scope x) (he:PEf X e te) (hs:swapsWith e (some (.Name x pos')) pos.line X.env=pure false:=by rfl) (hf:X.fn x=true\/X.env.scope.names.lookup x=some .local:=by first |exact .inl rfl |exact .inr rfl |assumption) :
  PSf X (.Assign [.Name x pos'] e pos) (qp4 te (jt i)):=by
 intro pins s σ H D I h;refine wpAny_Assign_Name (thn (he pins s σ H _ I h) fun v s1 ⟨h1,y,H1,F,G,q1⟩=>?_) hs;refine mo h1 (Bo (Q:=fun _=>SP X pins D .next) F j hi hx G (fun s2 J=>⟨_,H1,J,q1⟩) hf) fun _ s2 h2 q=>⟨h2,q⟩
theorem Qs (h1:PSt X st t) (h2:zq6 X rest u):zq6 X (st::rest) (zi1 t u):=by
 intro pins s σ H D hn I h;refine xE (mo hn (h1 pins s σ H { D with nx:=u D} hn I h) fun f s1 F q=>?_);cases f with
 |next=>obtain⟨j,H',G,q⟩:=q;exact h2 pins s1 j H' D F G q
 |ret v=>exact q
 |brk=>exact q
 |cont=>exact q
theorem qs3 (h1:PSt X st t):zq6 X [st] t:=by
 intro pins s σ H D hn I h;refine xE (thn (h1 pins s σ H D hn I h) fun f s1 q=>?_);cases f with
 |next=>exact lE q
 |ret v=>exact q
 |brk=>exact q
 |cont=>exact q
theorem qj3 (h1:PSf X st t) (h2:zq6 X rest u):PSs X (st::rest) (zi1 t u):=by
 intro pins s σ H D I h;refine xE (thn (h1 pins s σ H { D with nx:=u D} I h) fun f s1 ⟨F,q⟩=>?_);cases f with
 |next=>obtain⟨j,H',G,q⟩:=q;exact h2 pins s1 j H' D F G q
 |ret v=>exact q
 |brk=>exact q
 |cont=>exact q
inductive tReplI (y:Str) (z:Str) (Q:VK) (x:V) (H1:Hp):Prop
 |mk (v:Str) (_:x=.str v) (_:v.length+(v.length+1) * z.length<=16777216) (_:Q (.str (PySem.Txt.replace v y z)) H1)
noncomputable def zt2 (te:TE) (y z:Str):TE:=fun σ H Q=>te σ H fun x H1=>tReplI y z Q x H1
theorem J1 {K:PySem.W.Frag} {o:Expr} {to:TE} {y z:Str} {G J:Nat} {p1 p2 apos cpos:Pos} (S:(y == z)=false) (Y:PE X o to)
  (j:attributeBase o "replace" X.env (eval o X.env)=eval o X.env:=by rfl)
  (O:((backTo cpos (starEach [.Constant (.str y) G p1,.Constant (.str z) J p2] X.env)).all (fun x=>!x.1) && (backToKw cpos (keywordEach [] X.env)).all (fun x=>x.1.isSome)
   && decide (([.Constant (.str y) G p1,.Constant (.str z) J p2]:List Expr).length+([]:List Keyword).length+(if ([]:List Keyword).isEmpty then 0 else 1) < 30))=true:=by rfl)
  (D:(apos.endLine == cpos.line)=true:=by rfl) (hs:starEach [.Constant (.str y) G p1,.Constant (.str z) J p2] X.env=[(false,eval (.Constant (.str y) G p1) X.env),(false,eval (.Constant (.str z) J p2) X.env)]:=by rfl) :
  PEt X (.Call (.Attribute o "replace" apos) [.Constant (.str y) G p1,.Constant (.str z) J p2] [] cpos) (zt2 to y z):=by
 intro pins s σ H Q hn I h;refine wpAny_Call_method_late j O D rfl (mo hn (Y pins s σ H _ I h) fun v s1 n1 ⟨x,H1,U,Z,q1⟩=>?_);obtain⟨v',rfl,hb,q1⟩:=q1;obtain⟨t,rfl⟩:=Z;obtain⟨h1,h2⟩:=qn3 (T := "str") U (x:=.str v') ⟨t,rfl⟩ rfl;refine⟨"str", "str.replace",F.plainAttrs_str,F.slot_str_replace,F.type_str_replace,h1,h2,?_⟩;rw [hs];refine Calls.callWith_builtin rfl (lG ?_);refine vG (uG (x:=y) (pos:=p1) (k:=G) ?_);refine vG (uG (x:=z) (pos:=p2) (k:=J) ?_);refine Calls.spliced_nil ?_;have ne:s1.toks≠s1.toks+1:=by omega
 exact SC.replace (by show s1.toks≠0;omega) (by show s1.toks+1≠0;omega) ne S hb fun t' k=>⟨.str _,H1,(U.tok _).tok _,⟨_,rfl⟩,q1⟩
end
end L2
namespace GT
open PySem L2 PySem.StrLaws
theorem zd9 {a b:List Str} (ha:∀x∈a,10∉x.cps.toList) (hb:∀x∈b,10∉x.cps.toList) (e:Wb a=Wb b):a=b:=by have h:=Jm ha;rw [e,Jm hb] at h;exact (List.append_cancel_right h).symm
theorem zb6 (a b:List Str):Wb a++Wb b=Wb (a++b):=str_ext (by
 unfold Wb;rw [Dl,Aq,Aq,Aq,lA,lA,List.flatten_append])
theorem Y8 {c:Nat} {z:Array Nat}:∀(r:List Str) (acc:Array Nat),c∈acc.toList->c∈(r.foldl (fun acc p=>acc++z++p.cps) acc).toList
 | [],acc,h=>h
 |p::r,acc,h=>Y8 r _ (by simp [h])
theorem Xb {x z:Str} {c d:Nat} (hx:c∈x.cps.toList) (hd:d∈z.cps.toList):d∈(Txt.replace x ⟨#[c]⟩ z).cps.toList:=by
 rw [replace_one];have j:=join_split x ⟨#[c]⟩;have fr:=split_free x c;cases h:Txt.split x ⟨#[c]⟩ with
 |nil=>rw [h] at j;rw [←j] at hx;cases hx
 |cons p r=>
  rw [h] at j fr;cases r with
  |nil=>have e:p=x:=j;exact absurd hx (by rw [←e];exact fr p (by simp))
  |cons q r=>rw [←glued_cons];show d∈(r.foldl (fun acc p=>acc++z.cps++p.cps) (p.cps++z.cps++q.cps)).toList;exact Y8 r _ (by simp [hd])
theorem Zd {z:Str} (h:1<=z.length):(Txt.slice z none (some (-1))).cps.toList=z.cps.toList.dropLast:=by
 have e1:Builtin.Str.strSliceIndices none (some (-1)) 1 z.length=Builtin.Str.strSliceIndices (some ((0:Nat):Int)) (some ((z.length - 1:Nat):Int)) 1 z.length:=by rw [sliceIdx_none_lo,sliceIdx_neg_hi _ _ (by decide) (by omega)];congr 2;omega
 unfold Txt.slice;rw [e1,strSliceIndices_plain (yB _) (by omega),aA,mC,oA (by simp only [bC,beq_iff_eq];omega)];have e2:=sliced_plain z (a:=0) (b:=z.length - 1) (yB _) (by omega);rw [strSliceIndices_plain (yB _) (by omega)] at e2;rw [e2,sH,List.dropLast_eq_take]
 have:z.length=z.cps.toList.length:=by simp [Str.length]
 rw [this];rfl
theorem zt6:("" : Str).cps.toList=[]:=by decide +kernel
theorem zu8:("\n" : Str).cps.toList=[10]:=by decide +kernel
theorem zx3:(" " : Str).cps.toList=[32]:=by decide +kernel
theorem zv7:("\t\n" : Str).cps.toList=[9,10]:=by decide +kernel
theorem zw6:("\n" : Str)=⟨#[10]⟩:=by decide +kernel
theorem qt3 {R C:Nat} {cs:List Cell} (p:Part R C cs) (R2:R<=16) (C2:C<=16):cs.length<=256:=by have h1:=p.few;have h2:R * C<=16 * 16:=dG R2 C2;omega
theorem Jb (ls:List Str) (lo hi:Option Int):∃j:List Str,Ax (ls.map V.str) lo hi=j.map V.str/\j.length<=ls.length/\∀x∈j,x∈ls:=by unfold Ax;rw [aA,←List.map_drop,←List.map_take];refine⟨_,rfl,?_,fun x hx=>mD (yC hx)⟩;rw [cB,wC];omega
end GT
namespace L2
open PySem PySem.Spec PyProof.Rows PySem.W
theorem qo5 {X:Cx} {es:List Expr} {tA:TA} {x:Str} {j:Nat} {D:Pos} (F:PAt X es tA) (hs:starEach (.Constant (.str x) j D::es) X.env=(false,eval (.Constant (.str x) j D) X.env)::starEach es X.env:=by rfl):PAf X (.Constant (.str x) j D::es) (Zz (tC (.str x)) tA):=by intro pos pins s σ H Q I h;rw [hs];show wpAny _ _ (spliced ((false,eval (.Constant (.str x) j D) X.env)::backTo pos (starEach es X.env))) _ _ s;refine vG (uG ?_);have h1:1<=({ s with toks:=s.toks+1}:Shared).toks:=Nat.le_add_left _ _;exact mo h1 (F pos pins _ σ H _ h1 (I.tok _) h) fun us s2 h2 ⟨xs,H2,G,J,q2⟩=>⟨h2,.str x::xs,H2,G,.cons ⟨_,rfl⟩ J,q2⟩
end L2
namespace L2
open PySem PySem.Spec PyProof.Rows
theorem psS {X:Cx} {i:Nat} {x:Str} {e:Expr} {te:TE} {pos pos':Pos} (j:X.N.Nodup) (he:PE X e te) (hi:X.N[i]? = some x:=by rfl) (hx:Loc X.env.scope x:=by first |exact Or.inl rfl |exact Or.inr rfl) (hs:swapsWith e (some (.Name x pos')) pos.line X.env=pure false:=by rfl) (hf:X.fn x=true\/X.env.scope.names.lookup x=some .local:=by first |exact .inl rfl |exact .inr rfl |assumption):PS X (.Assign [.Name x pos'] e pos) (qp4 te (jt i)):=zk4 j hi hx he hs hf
theorem pgN {X:Cx} {i:Nat} {x:Str} {pos:Pos} (j:X.N.Nodup) (hi:X.N[i]? = some x:=by rfl) (hx:Loc X.env.scope x:=by first |exact Or.inl rfl |exact Or.inr rfl) (hf:X.fn x=true\/X.env.scope.names.lookup x=some .local:=by first |exact .inl rfl |exact .inr rfl |assumption):PG X (.Name x pos) (jt i):=qe6 j hi hx hf
theorem pgC {X:Cx} {i:Nat} {x:Str} {pos:Pos} (j:X.N.Nodup) (hi:X.N[i]? = some x:=by rfl) (hx:Loc X.env.scope x:=by first |exact Or.inl rfl |exact Or.inr rfl) (hf:X.fn x=true\/X.env.scope.names.lookup x=some .local:=by exact .inr rfl):PG X (.Name x pos) (jt i):=qe6 j hi hx hf
theorem fsc {N P:List Str} {sc:Scope} (a:sc.kind=.function:=by rfl) (b:sc.isCoroutine=false:=by rfl) (c:sc.isGenerator=false:=by rfl) (d:N.Nodup:=by decide +kernel) (e:N.take P.length=P:=by rfl) (f:∀x∈P,sc.names.lookup x=some .local\/sc.names.lookup x=some .cell:=by decide +kernel) (g:∀y∈sc.names,y.2≠.free:=by decide +kernel):FnScope N P sc:=⟨a,b,c,d,e,f,g⟩
theorem G6 {X:Cx} {scope:Scope} {N1:List Str} {cap:List (Option Nat)} (kind:scope.kind=.function:=by rfl)
  (nocell:∀y∈scope.names,y.2≠.cell:=by decide +kernel) (names:∀y∈scope.names,y.2=.local->scope.names.lookup y.1=some .local:=by decide +kernel) (free:∀y∈scope.names,y.2≠.free:=by decide +kernel)
  (len:cap.length=N1.length:=by rfl) (caps:cap.all (·.isNone)=true:=by rfl):CompOk X scope (Ih X.env.cells scope.names []) N1 cap:=
 Xa kind nocell names free len fun i _ x j _ e=>by have:=kF.mp caps _ (jA e);cases this
noncomputable def zs9 (N N1:List Str) (cap:List (Option Nat)) (sc scope:Scope):Prop:=∀i,i < N1.length->∀p,p∈cap[i]?->∀j,j∈p->N[j]? = N1[i]?/\sc.names.lookup (N1.getD i "")=some .cell/\scope.names.lookup (N1.getD i "")=some .free
noncomputable instance (N N1:List Str) (cap:List (Option Nat)) (sc scope:Scope):Decidable (zs9 N N1 cap sc scope):=by unfold zs9;infer_instance
theorem Bg {X:Cx} {scope sc:Scope} {N N1:List Str} {cap:List (Option Nat)} (n:Nat) (F:X.env.scope=sc:=by rfl) (D:X.env.cells=cellsFrom n sc.names []:=by rfl) (G:X.N=N:=by rfl) (kind:scope.kind=.function:=by rfl)
  (nocell:∀y∈scope.names,y.2≠.cell:=by decide +kernel) (names:∀y∈scope.names,y.2=.local->scope.names.lookup y.1=some .local:=by decide +kernel) (free:∀y∈scope.names,y.2=.free->sc.names.lookup y.1=some .cell:=by decide +kernel)
  (len:cap.length=N1.length:=by rfl) (caps:zs9 N N1 cap sc scope:=by decide +kernel):CompOk X scope (Ih X.env.cells scope.names []) N1 cap:=
 Zx n F D kind nocell names free len fun i hi x j e1 e2=>by
  obtain⟨a,b,c⟩:=caps i hi _ e2 j rfl;have e:N1.getD i "" = x:=by rw [zA,e1];rfl
  rw [e] at b c;rw [G,a,e1];exact⟨rfl,b,c⟩
open PySem.W
theorem Nk:entryFor table "proto.unchain" = some Builtin.«proto.unchain»:=entryFor_of_tree (by kernel_rfl)
section
variable {prog:Program} {w:World} {A:Around} {E:Value->Shared->Prop} {s:Shared} {env:Env}
theorem T8 {α:Type} {Q:α->Shared->Prop} {e old:Addr} {oe F:Obj} {vs ws:Array Value} (G:A.handled=some (.ref old)) (ne:old≠e) (he:s.heap.get? e=some oe) (j:oe.data=.fields ws) (J:2 < ws.size)
  (O:s.heap.get? old=some F) (D:F.data=.fields vs) (h2:vs[2]? = some .none) (h:E (.ref e) { s with heap:=s.heap.update e (Obj.mapFields (·.setIfInBounds 2 (.ref old)))}) :
  wpAny (model prog w) A (raiseNew (.ref e):Sem α) Q E s:=by
 unfold raiseNew;refine cA (wpAny_handled ?_);rw [G];dsimp only;rw [kA (show (Value.ref old != Value.ref e)=true from by simpa using ne)];refine cA (sD (runValue_entry Nk ?_));unfold Builtin.«proto.unchain»;refine cA (m:=field (.ref old) 2) (fF O D h2 ?_);rw [kA (show (Value.none == Value.none)=true from rfl)];refine eB ⟨.none,rfl,?_⟩;unfold updateField;refine cA (cA (wpAny_load he ?_));rw [j];dsimp only;rw [kA J];exact wpAny_update he (wpAny_throw h)
variable {nm q:Str} {C N:Addr} {bs bm:List Value} {hdct:Bool} {sn:List Str} {sub:List Value} {ab:Bool} {col:Option Bool} {dd:Option Addr} {k0 k1 k2 k3 k5:Option Value} {newId:String}
theorem Lz {x c:Sem Value} (Y:∀(s:Shared) (Q:Value->Shared->Prop),Q .none s->wpAny (model prog w) A c Q E s) {Q:Flow->Shared->Prop} {old:Addr} (D:bm.contains (.type "BaseException")=true) (Z:A.handled=some (.ref old))
  (h:wpAny (model prog w) A x (fun v j=>∃e t,v=.ref e/\j.heap.get? C=some (excClassObj nm q C N bs bm hdct sn sub ab col dd k0 k1 k2 k3 k5 newId) /\
   j.heap.get? e=some { cls:=.ref C,data:=.fields #[.ref t,.none,.none,.none,.bool false,.none]}/\old≠e/\(∃F vs,j.heap.get? old=some F/\F.data=.fields vs/\vs[2]? = some .none) /\
   ∀h',h'.get? e=some { cls:=.ref C,data:=.fields #[.ref t,.none,.ref old,.none,.bool true,.none]}->Heap.SameBut e j.heap h'->E (.ref e) { j with heap:=h'}) E s) :
  wpAny (model prog w) A (raiseStmt env (some x) (some c)) Q E s:=by
 have G:(Value.ref C::bm).contains (.type "BaseException")=true:=by rw [List.contains_cons,D,Bool.or_true]
 unfold raiseStmt;refine cA (oC h (fun v j h₁=>?_) fun _ _ x=>x);obtain⟨e,t,rfl,hC,he,ne,⟨F,vs,ho,J,h2⟩,hE⟩:=h₁;obtain⟨hp,g,d,tk,os⟩:=j;refine cA (sD (Y _ _ (cA (eB ?_))))
 repeat (first |with_reducible refine dF he ?_ |with_reducible refine dF hC ?_ |(with_reducible refine wpAny_isSubtype_exc hC ?_;rw [G]) |wp_step)
 have O:e≠C:=fun z=>by rw [z,hC] at he;injection he with he;injection he with _ _ he;cases he
 have e1:=bD (Obj.mapFields fun x=>x.setIfInBounds 3 Value.none) he rfl;have e2:=bD (Obj.mapFields fun x=>x.setIfInBounds 4 (Value.bool true)) e1 rfl;have S:Heap.SameBut e hp ((hp.update e (Obj.mapFields fun x=>x.setIfInBounds 3 Value.none)).update e (Obj.mapFields fun x=>x.setIfInBounds 4 (Value.bool true))):=(Heap.SameBut.update ..).trans (Heap.SameBut.update ..);have c2:=(S.2 C (eE O)).trans hC;have o2:=(S.2 old ne).trans ho;generalize ((hp.update e (Obj.mapFields fun x=>x.setIfInBounds 3 Value.none)).update e (Obj.mapFields fun x=>x.setIfInBounds 4 (Value.bool true)))=U at *;have e3:U.get? e=some { cls:=.ref C,data:=.fields #[.ref t,.none,.none,.none,.bool true,.none]}:=e2;refine dF c2 (eB ?_);rw [kA (show ((excClassObj nm q C N bs bm hdct sn sub ab col dd k0 k1 k2 k3 k5 newId).cls == Value.type "type")=true from rfl)];refine eB ?_;refine cA ?_;unfold setFlight;refine cA (fF (x:=Value.none) e3 rfl rfl ?_);rw [oA (show ¬(Value.none != Value.none)=true from by simp)];refine eB ?_;refine T8 Z ne e3 rfl (by show 2 < 6;decide) o2 J h2 (hE _ (bD _ e3 rfl) (S.trans (Heap.SameBut.update ..)))
variable {bmB:List Value} {B initId:String}
theorem Js (F:ExcBaseFacts B newId initId bmB) {mN:Str->Option Value} {x:Str} {np cpos pos kpos:Pos} {kn:Nat} {args:List Expr} {Q:Flow->Shared->Prop} {old:Addr}
  (O:bm.contains (.type "BaseException")=true) (hh:A.handled=some (.ref old)) (G:(backTo cpos (starEach args env)).any (·.1)=false) (Z:mN "__init__" = none)
  (h:wpAny (model prog w) A (eval (.Name x np) env) (fun f J=>f=.ref C/\wpAny (model prog w) A (evalArgs (.ref C) true (backTo cpos (starEach args env)) [])
   (fun a j=>a.kw=[]/\a.pos.length<=sizeLine/\j.heap.get? C=some (excClassObj nm q C N bs bm hdct sn sub ab col dd k0 k1 k2 k3 k5 newId)/\j.heap.Ns N mN/\OwnTail j.heap bmB bm/\(∃Y vs,j.heap.get? old=some Y/\Y.data=.fields vs/\vs[2]? = some .none) /\
    ∀h' h'' e t,Heap.MadeExcOf j.heap h' e (.ref C) a.pos->h''.get? e=some { cls:=.ref C,data:=.fields #[.ref t,.none,.ref old,.none,.bool true,.none]}->Heap.SameBut e h' h''->E (.ref e) { j with heap:=h''}) E J) E s) :
  wpAny (model prog w) A (exec (.Raise (some (.Call (.Name x np) args [] cpos)) (some (.Constant .none kn kpos)) pos) env) Q E s:=by
 rw [arm_exec_Raise];refine cA (mF ?_);refine Lz (C:=C) (nm:=nm) (q:=q) (N:=N) (bs:=bs) (bm:=bm) (hdct:=hdct) (sn:=sn) (sub:=sub) (ab:=ab) (col:=col) (dd:=dd) (k0:=k0) (k1:=k1) (k2:=k2) (k3:=k3) (k5:=k5) (newId:=newId) (old:=old) (fun s1 Q1 hq=>?_) O hh ?_
 ·exact cA (Constant_none (cA (mF (eB hq))))
 refine cA (oC (wpAny_Call_ofName (oC h (fun f J h₁=>?_) fun _ _ x=>x)) (fun v s₃ S=>cA (mF (eB S))) fun _ _ x=>x);obtain⟨rfl,h₁⟩:=h₁;unfold callWith;refine cA (sD (oC h₁ (fun a j D=>cA (mF ?_)) fun _ _ x=>x));obtain⟨apos,a3⟩:=a;obtain⟨a4,hlen,hC,hn,T,⟨Y,vs,ho,a5,h2⟩,D⟩:=D;obtain rfl:a3=[]:=a4;obtain⟨hp,g,d,tk,os⟩:=j;simp only [G];refine cA (wpAny_keeperOf_exc hC ?_);refine cA (wpAny_call_exc_subT (hrest:=hlen) F T hC hn Z fun h' e hm=>cA (sD (wpAny_point (eB ?_))));obtain⟨t,ht,_,_⟩:=hm.there;refine⟨e,t,rfl,hm.keeps _ _ hC,ht,fun z=>?_,⟨Y,vs,hm.keeps _ _ ho,a5,h2⟩,fun h'' U sb=>D h' h'' e t hm U sb⟩
 have:=hm.new;rw [←z,ho] at this;cases this
end
section
variable {P:Program} {w:World} {K:PySem.W.Frag} {mg:Str->Option Value} {base:Heap} {N:List Str} {qual:Str} {scope:Scope} {f:Addr} {cd:Value} {A:Around} {outer:List Env} {s₀:Shared} {H₀:Hp} {E:XK}
theorem qo8 {pins:List (Addr×Obj)} {σ:St} {H:Hp} {s:Shared} {e t old:Addr} {C2:Addr} {O:Around} (D:O.frames=some (envOfC qual scope s₀.heap.objs.size f cd::outer))
  (I:Inv (vz (CX1 P w base) P w K mg base N qual scope f cd A outer s₀ H₀ E) pins σ H s) (he:s.heap.get? e=some { cls:=.ref C2,data:=.fields #[.ref t,.none,.ref old,.none,.bool true,.none]}) (j:s₀.heap.get? e=none) (lo:H e=none) (S:E (.ref C2) none H) :
  notedBy (model P w) O (envOfC qual scope s₀.heap.objs.size f cd) (cameBackBy (model P w) (vz (CX1 P w base) P w K mg base N qual scope f cd A outer s₀ H₀ E).A (envOfC qual scope s₀.heap.objs.size f cd) (vz (CX1 P w base) P w K mg base N qual scope f cd A outer s₀ H₀ E).xe) (.ref e) s:=by
 have F:=qk8 I he rfl (by show 1 < 6;decide) rfl (fun z=>absurd rfl z);refine Dv D rfl (.inl rfl) F fun h1 x1 U=>?_;obtain⟨st,new,hl,oe,vs,G,hc,hdd,hd,hz,⟨T,oT,ts,J,nT,hTe,hT,dT,h3⟩,hcx⟩:=id x1;refine cA (fF G hd J ?_);rw [oA (show ¬(Value.ref T == Value.none)=true from by simp)];refine zl7 x1 fun h2 x2 Y=>?_;refine Zw rfl x2 fun Z x4 u4=>?_;have z:=qk7 (s:=s) (h'':=Z) (oe:={ cls:=.ref C2,data:=.fields #[.ref t,.none,.ref old,.none,.bool true,.none]}) I he rfl j (.inl lo) (by rw [U0 lo];exact S) x4 ((U.trans Y).trans u4);exact z
noncomputable def zn4 (K:PySem.W.Frag) (C C2:Addr) (E:XK) (sp:Sp) (t:TA) (i:Nat) (t0:TA):TS:=fun D σ H=>t σ H fun vs H1=>sp vs H1 (fun v H2=>D.nx (σ.set i (some v)) H2) (fun cls dd H2=>exmOne K cls (.ref C)=some true/\dd≠none/\t0 σ H2 fun us H3=>us.length<=sizeLine/\E (.ref C2) none H3)
theorem zg9 {pins:List (Addr×Obj)} {σ:St} {H H':Hp} {s s':Shared} {ea:Addr} {cls:Value} {dd:Option Addr} {B:Heap} {D:Ends} {y y2:Str} {C C2:Addr} {np np2 hpos cpos kpos a3:Pos} {kn:Nat} {e0:Expr} {t0:TA} {rest:List ExceptHandler}
  (hg:Gl (vz (CX1 P w base) P w K mg base N qual scope f cd A outer s₀ H₀ E) y) (hm:mg y=some (.ref C)) (hx:exmOne K cls (.ref C)=some true) (O:ExcC K mg base y2 C2) (ag:Gl (vz (CX1 P w base) P w K mg base N qual scope f cd A outer s₀ H₀ E) y2)
  (I:Inv (vz (CX1 P w base) P w K mg base N qual scope f cd A outer s₀ H₀ E) pins σ H s) (F:Fly P w base (envOfC qual scope s₀.heap.objs.size f cd::outer) H s s' ea cls dd B H') (ah:dd≠none)
  (ha:∀ea oe,PA (qa9 (vz (CX1 P w base) P w K mg base N qual scope f cd A outer s₀ H₀ E) ea oe) [e0] t0) (q:t0 σ H' fun us H3=>us.length<=sizeLine/\E (.ref C2) none H3)
  (ai:(y == ("__debug__" : Str))=false:=by decide) (a4:(y2 == ("__debug__" : Str))=false:=by decide)
  (he:starEach [e0] (envOfC qual scope s₀.heap.objs.size f cd)=(false,eval e0 (envOfC qual scope s₀.heap.objs.size f cd))::starEach [] (envOfC qual scope s₀.heap.objs.size f cd):=by rfl) (hpl:(backTo cpos (starEach [] (envOfC qual scope s₀.heap.objs.size f cd))).any (·.1)=false:=by rfl) :
  Catch (vz (CX1 P w base) P w K mg base N qual scope f cd A outer s₀ H₀ E) pins D (.ExceptHandler (some (.Name y np)) none [.Raise (some (.Call (.Name y2 np2) [e0] [] cpos)) (some (.Constant .none kn kpos)) a3] hpos::rest) (.ref ea) s':=by
 generalize hX:vz (CX1 P w base) P w K mg base N qual scope f cd A outer s₀ H₀ E=X at *;have U:X.A.frames=some (envOfC qual scope s₀.heap.objs.size f cd::outer):=by subst hX;exact I.ok.frames
 have a5:=F.fly;subst hX;refine Dv U rfl (.inr rfl) a5 fun h1 Y up1=>?_;refine Ba Y fun h2 Z a6=>?_;have F2:=F.on Z (up1.trans a6);obtain⟨oe,vs,I2,a7,aj,hd2⟩:=landed I F Z (up1.trans a6);have X2:=I2.toEx (oe:=oe) a7 hd2 F.notB;refine wpAny_handleBy_cons (codeAny_handlers_test ?_) (by intro z;cases z);refine um X2 hg hm ?_ ai;refine (exm_one I2.kIn (Yh a7 aj) hx).here ?_;rw [kA rfl];refine codeAny_handlers_suite ?_;refine Ba Z fun h3 a8 ak=>?_;obtain⟨oe3',vs3',I3,he3',hc3,hd3'⟩:=landed I F2 a8 ak;obtain⟨J,ao,aq,_,hq3,a9,_,_,aa⟩:=a8.obj;have X3:=I3.toEx (oe:=J) aq a9 F.notB;have ctx:=aa ah;obtain⟨bmB,newId,Bn,initId,FB,O⟩:=O.own;obtain⟨tl,Nn,nm,qq,bs,hdct,sn,sub,ab,col,ar,k0,k1,k2,k3,k5,mN,hC,hN,au,T⟩:=O.obj;have ae:(backTo cpos (starEach [e0] (envOfC qual scope s₀.heap.objs.size f cd))).any (·.1)=false:=by rw [he];show (false ||(backTo cpos (starEach [] (envOfC qual scope s₀.heap.objs.size f cd))).any (·.1))=false;rw [hpl];rfl
 refine xE ?_;refine Js (C:=C2) (nm:=nm) (q:=qq) (N:=Nn) (bs:=bs) (bm:=tl) (hdct:=hdct) (sn:=sn) (sub:=sub) (ab:=ab) (col:=col) (dd:=ar) (k0:=k0) (k1:=k1) (k2:=k2) (k3:=k3) (k5:=k5) (old:=ea)
  FB (mN:=mN) (T.hasType FB.hasBase) rfl ae au (um X3 ag O.bound ⟨rfl,?_⟩ a4)
 have hh:=oC (E':=fun _ _=>False) (ha ea J cpos pins _ σ H' _ X3 q) (Q':=fun vs G=>vs.length<=sizeLine/\(∀b o,base.get? b=some o->G.heap.get? b=some o)/\(∃oo vs,G.heap.get? ea=some oo/\oo.data=.fields vs/\vs[2]? = some .none) /\
   ∀h' h'' e t,Heap.MadeExcOf G.heap h' e (.ref C2) vs->h''.get? e=some { cls:=.ref C2,data:=.fields #[.ref t,.none,.ref ea,.none,.bool true,.none]}->Heap.SameBut e h' h'' ->
    notedBy (model P w) ((vz (CX1 P w base) P w K mg base N qual scope f cd A outer s₀ H₀ E).A.mark (some (.ref ea))) (envOfC qual scope s₀.heap.objs.size f cd) (cameBackBy (model P w) (vz (CX1 P w base) P w K mg base N qual scope f cd A outer s₀ H₀ E).A (envOfC qual scope s₀.heap.objs.size f cd) (vz (CX1 P w base) P w K mg base N qual scope f cd A outer s₀ H₀ E).xe) (.ref e) { G with heap:=h''})
  (fun us s1 ⟨vs,H1,I1,r1,z,q1⟩=>⟨by rw [←r1.length];exact z,I1.bk,⟨J,ao,(I1.pin (ea,J) (vE _ uA)).1,a9,ctx⟩,fun h' h'' e t mx S sb=>?_⟩) (fun _ _ z=>z)
 ·have av:starEach [e0] (qa9 (vz (CX1 P w base) P w K mg base N qual scope f cd A outer s₀ H₀ E) ea J).env=(false,eval e0 (envOfC qual scope s₀.heap.objs.size f cd))::starEach [] (envOfC qual scope s₀.heap.objs.size f cd):=he;have S:starEach [e0] (vz (CX1 P w base) P w K mg base N qual scope f cd A outer s₀ H₀ E).env=(false,eval e0 (envOfC qual scope s₀.heap.objs.size f cd))::starEach [] (envOfC qual scope s₀.heap.objs.size f cd):=he;rw [av] at hh;rw [S];exact lG (oC hh (fun vs G j=>⟨rfl,j.1,j.2.1 _ _ hC,hN.keeps j.2.1,T.keeps j.2.1,j.2.2.1,j.2.2.2⟩) fun _ _ y=>y.elim)
 ·have I4:=I1.ofEx I.ok;have keeps:∀b o,s1.heap.get? b=some o->h''.get? b=some o:=fun b o eb=>by
   have ne:b≠e:=fun z=>by have:=mx.new;rw [←z,eb] at this;cases this
   exact (sb.2 b ne).trans (mx.keeps b o eb)
  have hn:H1 e=none:=by
   cases qe:H1 e with
   |none=>rfl
   |some o=>obtain⟨u,z⟩:=ObjOk.there (I4.hok e o qe);rw [mx.new] at z;cases z
  have af:s₀.heap.get? e=none:=by
   cases qe:s₀.heap.get? e with
   |none=>rfl
   |some o=>obtain⟨o',z⟩:=I4.base.there e o qe (by intro z;cases z);rw [mx.new] at z;cases z
  exact qo8 (s:={ s1 with heap:=h''}) U (I4.kept (t':=s1.toks) keeps) S af hn q1
theorem qu4 {k i:Nat} {x y y2 z:Str} {C C2:Addr} {ps:List Str} {sp:Sp} {e e0:Expr} {es:List Expr} {t t0:TA} {p np np2 pos zpos apos tpos hpos cpos kpos G:Pos} {kn:Nat}
  (c:Cal1 P w K mg base k x ps sp) (hr:Room k (A.deeper (envOfC qual scope s₀.heap.objs.size f cd))) (hg:Gl (vz (CX1 P w base) P w K mg base N qual scope f cd A outer s₀ H₀ E) x) (Y:Gl (vz (CX1 P w base) P w K mg base N qual scope f cd A outer s₀ H₀ E) y) (Z:mg y=some (.ref C))
  (O:ExcC K mg base y2 C2) (a3:Gl (vz (CX1 P w base) P w K mg base N qual scope f cd A outer s₀ H₀ E) y2)
  (ha:∀XE,PA ((vz (CX1 P w base) P w K mg base N qual scope f cd A outer s₀ H₀ E).wish XE) (e::es) t) (hN:N.Nodup) (hi:N[i]? = some z) (hz:Loc scope z)
  (a4:∀ea oe,PA (qa9 (vz (CX1 P w base) P w K mg base N qual scope f cd A outer s₀ H₀ E) ea oe) [e0] t0)
  (a5:(x == ("__debug__" : Str))=false:=by decide) (a6:(y == ("__debug__" : Str))=false:=by decide) (J:(y2 == ("__debug__" : Str))=false:=by decide)
  (he:starEach (e::es) (envOfC qual scope s₀.heap.objs.size f cd)=(false,eval e (envOfC qual scope s₀.heap.objs.size f cd))::starEach es (envOfC qual scope s₀.heap.objs.size f cd):=by rfl) (hpl:(backTo pos (starEach es (envOfC qual scope s₀.heap.objs.size f cd))).any (·.1)=false:=by rfl)
  (a7:swapsWith (.Call (.Name x p) (e::es) [] pos) (some (.Name z zpos)) apos.line (envOfC qual scope s₀.heap.objs.size f cd)=pure false:=by rfl)
  (a8:starEach [e0] (envOfC qual scope s₀.heap.objs.size f cd)=(false,eval e0 (envOfC qual scope s₀.heap.objs.size f cd))::starEach [] (envOfC qual scope s₀.heap.objs.size f cd):=by rfl) (S:(backTo cpos (starEach [] (envOfC qual scope s₀.heap.objs.size f cd))).any (·.1)=false:=by rfl) :
  PS (vz (CX1 P w base) P w K mg base N qual scope f cd A outer s₀ H₀ E) (.Try [.Assign [.Name z zpos] (.Call (.Name x p) (e::es) [] pos) apos] [.ExceptHandler (some (.Name y np)) none [.Raise (some (.Call (.Name y2 np2) [e0] [] cpos)) (some (.Constant .none kn kpos)) G] hpos] [] [] tpos) (zn4 K C C2 E sp t i t0):=by
 intro pins s σ H D I h;refine wpAny_Try_except ?_;refine xE ?_;refine oC (wpAny_Assign_Name (Q:=fun f' s1=>f'=.next/\∃j H1,Inv (vz (CX1 P w base) P w K mg base N qual scope f cd A outer s₀ H₀ E) pins j H1 s1/\D.nx j H1) (E:=Catch (vz (CX1 P w base) P w K mg base N qual scope f cd A outer s₀ H₀ E) pins D [.ExceptHandler (some (.Name y np)) none [.Raise (some (.Call (.Name y2 np2) [e0] [] cpos)) (some (.Constant .none kn kpos)) G] hpos])
  (oC (Ou (E:=fun cls dd H2=>exmOne K cls (.ref C)=some true/\dd≠none/\t0 σ H2 fun us H3=>us.length<=sizeLine/\E (.ref C2) none H3) (Q:=fun v H2=>D.nx (σ.set i (some v)) H2) c hr hg (ha _) I (fun H1 s1 v s2 U ⟨ea,cls,dd,B,H',ev,F,hx,a9,q⟩=>?_) h a5 he hpl) (fun v s1 ⟨u,H1,U,r1,q⟩=>Bo U hN hi hz r1 (fun s2 I2=>⟨rfl,_,H1,I2,q⟩) (.inl rfl)) fun _ _ z=>z) a7) (fun f' s1 ⟨ef,j,H1,U,q⟩=>?_) fun _ _ z=>z
 ·subst ef;exact lE (lE ⟨j,H1,U,q⟩)
 ·subst ev;exact zg9 Y Z hx O a3 U F a9 a4 q a6 J a8 S
end
end L2
namespace GT
open PySem L2
end GT
namespace HT
open PySem PyProof.Rows
noncomputable def lexLe:List Int->List Int->Bool
 | [],[]=>true
 | [],_::_=>true
 |_::_,[]=>false
 |x::xs,y::ys=>if x=y then lexLe xs ys else decide (x<=y)
theorem lexLe_cons (x y:Int) (xs ys:List Int):lexLe (x::xs) (y::ys)=if x=y then lexLe xs ys else decide (x<=y):=rfl
theorem qr4 (A:Around) (s:Shared) (a:Int) (t:Tok) (c:Int) (u:Tok) (prog:Program) (w:World) (E:Value->Shared->Prop) (Q:Value->Shared->Prop) (h:Q (.bool (decide (a<=c))) s) :
  wpAny (model prog w) A (richCompare .LtE (.int a t) (.int c u)) Q E s:=
 (PyProof.Rows.le_int h:wpAny (model prog w) A (compareOp .LtE (.int a t) (.int c u)) Q E s)
section
open PySem.SeqAt
open PySem.AutoSeq1 (wpAny_loadPart')
open PySem.MeetsSeq PySem.MeetsSeq2 PySem.MeetsSeq3
theorem Ol (l b:Addr) (items j:Array Value) (n n2:Nat) (dd a3:Option Addr) (sl a4:Array (Option Value)) (ns ms:List Int) (hi:IntsAre items.toList ns) (hj:IntsAre j.toList ms) :
  Meets (Builtin.«tuple.__le__» ⟨[.ref l,.ref b],[]⟩)
   (fun _ R s=>s.heap.get? l=some { cls:=.type "tuple",dict:=dd,data:=.seq items n,slots:=sl}/\s.heap.get? b=some { cls:=.type "tuple",dict:=a3,data:=.seq j n2,slots:=a4} /\
    R (.ok (.ret (.bool (lexLe ns ms)))) s):=
 .of_wp fun prog w A R s h=>by
  obtain⟨hp,g,d,tk,os⟩:=s;obtain⟨hl,hb,h⟩:=h;have f2:=AutoSeq1.sub_tuple_tuple;have z1:items.size=ns.length:=by rw [←hi.length];simp
  have z2:j.size=ms.length:=by rw [←hj.length];simp
  wp_walk using wpAny_loadPart' hl,wpAny_loadPart' hb,wpAny_forIn_list _ (fun rest b s'=>b.1=none/\s'=⟨hp,g,d,tk,os⟩/\∃(vs ws:List Value) (D F:List Int),rest=vs.zip ws /\
   IntsAre vs D/\IntsAre ws F/\D.length+j.size=F.length+items.size/\R (.ok (.ret (.bool (lexLe D F)))) ⟨hp,g,d,tk,os⟩) _
  case turn=>
   rintro⟨y,x⟩ rest b s' ⟨S,rfl,vs,ws,D,F,G,U,J,hlen,hR⟩;cases U with
   |nil=>rw [List.zip_nil_left] at G;cases G
   |cons a t Y=>
    cases J with
    |nil=>rw [List.zip_nil_right] at G;cases G
    |cons c u Z=>
     rw [xG] at G;injection G with a5 hrest;injection a5 with hy hx;subst hy hx;rw [lexLe_cons] at hR;simp only [fB] at hlen;obtain⟨e,he,O⟩:=qx1 A.in1 ⟨hp,g,d,tk,os⟩ a t c u;refine cA (he prog w _ _ ?_);cases e with
     |true=>
      rw [kA (O.mp rfl)] at hR
      wp_walk
      exact⟨rfl,rfl,_,_,_,_,hrest,Y,Z,by omega,hR⟩
     |false=>
      rw [oA (fun q=>absurd (O.mpr q) bB)] at hR;have a6:=qr4 A.in1 ⟨hp,g,d,tk,os⟩ a t c u prog w
      wp_walk using a6
      exact⟨_,rfl,by simpa using hR⟩
  case fin=>
   rintro⟨b1,b2⟩ s' ⟨S,rfl,vs,ws,D,F,G,U,J,hlen,hR⟩;simp only at S;subst S;have hv:lexLe D F=decide (items.size<=j.size):=by
    cases U with
    |nil=>
     cases J with
     |nil=>simp only [nE] at hlen;exact (eA (by omega)).symm
     |cons c u hw=>simp only [nE,fB] at hlen;exact (eA (by omega)).symm
    |cons a t hv=>
     cases J with
     |nil=>simp only [nE,fB] at hlen;exact (dB (by omega)).symm
     |cons c u hw=>rw [xG] at G;cases G
   rw [hv] at hR
   wp_walk
   exact⟨_,rfl,by simpa [Builtin.Tuple.tupleCompareSizes] using hR⟩
  case h=>
   exact⟨rfl,rfl,items.toList,j.toList,ns,ms,rfl,hi,hj,by omega,h⟩
end
section
variable {prog:Program} {w:World} {A:Around} {E:Value->Shared->Prop} {s:Shared}
theorem le_tupInts {l b:Addr} {items j:Array Value} {ns ms:List Int} {Q:Value->Shared->Prop} (hl:IsTup s.heap l items) (hb:IsTup s.heap b j) (hi:IntsAre items.toList ns) (Y:IntsAre j.toList ms)
  (Z:A.units < cLine) (h:Q (.bool (lexLe ns ms)) s):wpAny (model prog w) A (compareOp .LtE (.ref l) (.ref b)) Q E s:=by
 obtain⟨⟨cls,dd,data,sl⟩,S,U,n,hd⟩:=id hl;obtain⟨⟨cls2,J,data2,O⟩,D,G,n2,hd2⟩:=id hb;simp only at U hd G hd2;subst U hd G hd2;exact richCompare_meets_room (op:=.LtE) ⟨_,S,rfl⟩ ⟨_,D,rfl⟩ PySem.F.slot_tuple_le PySem.F.entry_tuple_le (PySem.F.args_tuple_le_2 _ _) (Ol l b items j n n2 dd J sl O ns ms hi Y)
  ⟨S,D,show Value.bool (lexLe ns ms)≠Value.notImplemented/\Q (.bool (lexLe ns ms)) s from ⟨(fun x=>nomatch x),h⟩⟩ Z
end
end HT
namespace L2
open PySem PySem.Spec PyProof.Rows
inductive rLeT (K:PySem.W.Frag) (x:V) (y:V) (H:Hp) (Q:VK):Prop
 |mk (a b ns ms:_) (_:x=.ref a) (_:y=.ref b) (_:SqT K H a (ns.map V.int)) (_:SqT K H b (ms.map V.int)) (_:Q (.bl (HT.lexLe ns ms)) H)
theorem za5 {X:Cx} {K:PySem.W.Frag} (D:X.K=K) (F:X.A.units < cLine):OpR X (compareOp .LtE) (rLeT K):=by subst D;intro pins s σ H x y v u Q I G J h;obtain⟨a,b,ns,ms,rfl,rfl,ha,hb,q⟩:=h;cases G;cases J;obtain⟨its,O,p1,_⟩:=I.tuple ha;obtain⟨j,S,p2,_⟩:=I.tuple hb;have U:IntsAre its.toArray.toList ns:=intsAre_of O;have i2:IntsAre j.toArray.toList ms:=intsAre_of S;exact HT.le_tupInts p1 p2 U i2 F ⟨.bl (HT.lexLe ns ms),H,I,rfl,q⟩
section
variable {prog:Program} {w:World} {KK:Type} [DecidableEq KK] {A:Around} {E:Value->Shared->Prop} {s:Shared}
theorem Oi {d:Addr} {o:Obj} {es:Array DictEntry} {ep:Nat} (hd:(d == sysModules)=false) :
  MeetsIn prog w (Builtin.«dict.__len__» ⟨[.ref d],[]⟩) (fun _ R s=>s.heap.get? d=some o/\o.data=.dict es ep/\R (.ok (.ret (.int es.size s.toks))) { s with toks:=s.toks+1}):=
 .of_wp fun A R s ⟨D,j,h⟩=>by show wpAny _ _ (dictSize d >>= _) _ _ s;unfold dictSize;refine cA (cA (wpAny_dictEntries D j (eB ?_)));show wpAny _ _ (Builtin.Dict.pendingCount d >>= _) _ _ s;refine cA (wpAny_pendingCount_other hd ?_);refine wpAny_ret_mkInt ?_;rw [Nat.add_zero];exact h
end
section
variable {prog:Program} {w:World} {A:Around} {E:Value->Shared->Prop} {s:Shared}
theorem Th {d:Addr} {o:Obj} {es:Array DictEntry} {ep:Nat} {Q:Value->Shared->Prop} (hd:(d == sysModules)=false) (G:s.heap.get? d=some o) (D:s.TypeIs (.ref d) "dict") (j:o.data=.dict es ep) (hfit:(es.size:Int) < 2 ^ 63)
  (h:Q (.int es.size (s.toks+1)) { s with toks:=s.toks+1+1}):wpAny (model prog w) A (Builtin.«len» ⟨[.ref d],[]⟩) (fun fin s'=>∃r,fin=.done (.ret r)/\Q r s') E s:=by
 unfold Builtin.«len»;refine cA (m:=oneArg "len" _) (eB ?_);refine cA (m:=callSpecial? (.ref d) (Str.ofString "__len__")) (wpAny_callSpecial?_slot (name:=Str.ofString "__len__") D F.slot_dict_len
  (call_meetsIn F.slot_dict_len D F.entry_dict_len (F.args_dict_len_1 _) (Oi (o:=o) (es:=es) (ep:=ep) hd) ⟨G,j,?_⟩))
 show wpAny _ _ _ _ _ { s with toks:=s.toks+1};refine cA (sD (eB ?_));refine cA (wpAny_letGo ?_);show wpAny _ _ (if ((es.size:Nat):Int) < 0 then _ else _) _ _ _;rw [oA (by omega)];show wpAny _ _ (if ((es.size:Nat):Int) >= 2 ^ 63 then _ else _) _ _ _;rw [oA (by omega)];exact cA (wpAny_mkInt (eB ⟨_,rfl,h⟩))
theorem U5 {d:Addr} {o:Obj} {es:Array DictEntry} {ep:Nat} {Q:Value->Shared->Prop} (hd:(d == sysModules)=false) (F:s.heap.get? d=some o) (G:s.TypeIs (.ref d) "dict") (j:o.data=.dict es ep) (D:(es.size:Int) < 2 ^ 63)
  (h:Q (.int es.size (s.toks+1)) { s with toks:=s.toks+1+1}):wpAny (model prog w) A (call (.builtin "len") [.ref d]) Q E s:=
 Calls.call_function_entry kind_len plain_len entry_len (args_len1 _) (Th hd F G j D h)
end
theorem Mp {X:Cx} {K:PySem.W.Frag} (hK:X.K=K):Ag X (.builtin "len") (fun xs H Q=>∃a kvs,xs=[V.ref a]/\H a=some (.dT kvs)/\Q (.int kvs.length) H):=by
 intro pins s σ H xs us Q I r h;obtain⟨a,kvs,rfl,ha,q⟩:=h;obtain⟨u,rfl,J⟩:=vals1 r;cases J;obtain⟨z,hd,xs,O,o,es,ep,F,hx,j,D,hn⟩:=(show ObjOk X.prog X.w H s.heap a (.dT kvs) from I.hok a _ ha)
 have l1:=O.length;have G:es.size=kvs.length:=by have:=vD List.length D;rw [aA,pB] at this;omega
 refine U5 hd F ⟨o,F,hx.1⟩ j ?_ ?_
 ·rw [G];rw [qE] at z;omega
 ·rw [G];exact⟨.int kvs.length,H,I.tok _,⟨_,rfl⟩,q⟩
end L2
namespace GT
open PySem L2
end GT
namespace L2
open PySem PySem.Spec PyProof.Rows PySem.W
section
variable {X:Cx} {k1 k2:Nat} {x1 x2 y:Str} {C L:Addr} {ps1 ps2:List Str} {sp1 sp2:Sp} {c e1 e2:Expr} {es1 es2:List Expr} {tc:TT} {t1 t2:TA} {ts:TS} {env0:List Env} {p1 p2 np pos1 pos2 epos1 epos2 ipos tpos hpos:Pos} {b0:Stmt} {suite:List Stmt}
end
section
variable {X:Cx} {k1 k2:Nat} {x1 x2 y n:Str} {C L:Addr} {ps1 ps2:List Str} {sp1 sp2:Sp} {c e1 e2:Expr} {es1 es2:List Expr} {tc:TT} {t1 t2:TA} {env0:List Env} {p1 p2 np pos1 pos2 epos1 epos2 ipos tpos hpos q1 q2 q3 q4 q5:Pos} {i:Nat}
end
section
variable {X:Cx} {k:Nat} {x y z n:Str} {C C2 L:Addr} {ps:List Str} {sp:Sp} {e:Expr} {es:List Expr} {t:TA} {env0:List Env} {p np np2 pos epos tpos hpos hpos2:Pos} {i:Nat} {b0 b1:Stmt} {suite suite1:List Stmt} {ts:Addr->Option Addr->TS} {ts1:TS}
end
open Sem (wp)
section
variable {X:Cx} {k:Nat} {x y n:Str} {C L:Addr} {ps:List Str} {sp:Sp} {e:Expr} {es:List Expr} {t:TA} {env0:List Env} {p np pos epos tpos hpos:Pos} {i:Nat} {b0:Stmt} {suite:List Stmt} {ts:Value->Addr->Option Addr->TS}
end
theorem qu1 {X:Cx} {a:Str} {J:Nat} {e:Expr} {te:TE} {p p1 p2:Pos} (he:PE X e te) (hz:a.length<=1000:=by decide) :
  PE X (.JoinedStr [.Constant (.str a) J p1,.FormattedValue e 114 none p2] p) (tFR te):=by
 intro pins s σ H Q I h;have D:(Str.empty++a).length=a.length:=by rw [strLen_append];exact Nat.zero_add _
 refine wpAny_JoinedStr (uG ⟨a,_,rfl,by rw [D,qE];omega,?_⟩);have key:∀(x:Str) (H1:Hp) (s1:Shared),x.length<=2000->Inv X pins σ H1 s1->Q (.str (Str.empty++a++x)) H1->∀t,wpAny (model X.prog X.w) X.A (formatField (.str x t) Str.empty)
   (fun v s2=>∃y t,v=.str y t/\(Str.empty++a++y).length<=sizeLine/\Joins (model X.prog X.w) X.A X.xe [] (Str.empty++a++y) (fun out s3=>out.length<=sizeLine/\EP X pins σ Q (.str out s3.toks) { s3 with toks:=s3.toks+1}) s2) X.xe s1:=fun x H1 s1 hx j q t=>by
  have G:(Str.empty++a++x).length<=sizeLine:=by rw [strLen_append,D,qE];omega
  refine PyProof.Rows.formatField_str (fun t' tk=>⟨x,t',rfl,G,G,⟨.str _,H1,(j.tok tk).tok _,⟨_,rfl⟩,q⟩⟩) (by rw [qE];omega)
 refine wpAny_FormattedValue_repr (oC (he pins _ σ H _ (I.tok _) h) (fun u s1 ⟨v,H1,j,r,O,q⟩=>?_) fun _ _ z=>z);rcases O with ⟨n,rfl,hn⟩ |rfl
 ·obtain⟨t,rfl⟩:=r;refine wpAny_pyReprObj_gives (typeIs_int _ n t) F.slot_int_repr F.entry_int_repr (F.args_int_repr_1 _) (gives_int_repr n t hn) (key _ H1 _ ?_ (j.tok _) (q _) _) (hx:=int_text_fits hn);have e:=int_text_length_le (k:=1920) (by decide) hn;rw [PySem.ofString_length];omega
 ·obtain rfl:u=Value.none:=r;exact wpAny_pyReprObj_gives (typeIs_none _) F.slot_NoneType_repr F.entry_NoneType_repr (F.args_NoneType_repr_1 _) gives_none_repr (key _ H1 _ (by decide) (j.tok _) (q _) _) (hx:=by decide)
end L2
namespace GT
open PySem L2
noncomputable def G7 (m:Nat) (f:Nat->Str):List V:=(List.range m).map fun j=>V.str (f j)
theorem Dt (m:Nat) (f:Nat->Str):(G7 m f).length=m:=by simp [G7]
theorem Wi {m:Nat} {f:Nat->Str} {j:Nat} (h:j < m):(G7 m f)[j]? = some (V.str (f j)):=by unfold G7;rw [fA,fD h];rfl
theorem Nb {m:Nat} {f g:Nat->Str} (h:∀j,j < m->f j=g j):G7 m f=G7 m g:=by unfold G7;refine pG fun j D=>?_;rw [h j (yD.mp D)]
theorem qt0 {m:Nat} {f:Nat->Str} {c:Nat} {s:Str}:(G7 m f).set c (V.str s)=G7 m fun j=>if j=c then s else f j:=by
 refine nH fun j=>?_;rw [List.getElem?_set];by_cases h:j < m
 ·rw [Dt];by_cases z:c=j
  ·subst z;rw [kA rfl,kA h,Wi h,kA rfl]
  ·rw [oA z,Wi h,Wi h,oA (eE z)]
 ·have e1:(G7 m f)[j]? = none:=kE (by rw [Dt];omega);have e2:(G7 m fun j=>if j=c then s else f j)[j]? = none:=kE (by rw [Dt];omega);rw [e1,e2,Dt];split
  ·rw [oA (by omega)]
  ·rfl
structure GridH (H:Hp) (g:Addr) (n m:Nat) (G:Gd) (as:List Addr):Prop where
  top:H g=some (.lst (as.map V.ref))
  len:as.length=n
  nod:as.Nodup
  out:g∉as
  row:∀i a,as[i]? = some a->H a=some (.lst (G7 m (G i)))
theorem GridH.mono {H H':Hp} {g:Addr} {n m:Nat} {G:Gd} {as:List Addr} (h:GridH H g n m G as) (s:Same H H'):GridH H' g n m G as:=
 ⟨s _ _ h.top,h.len,h.nod,h.out,fun i a e=>s _ _ (h.row i a e)⟩
noncomputable def SameX (as:List Addr) (H H':Hp):Prop:=∀b o,H b=some o->b∉as->H' b=some o
theorem SameX.refl (as:List Addr) (H:Hp):SameX as H H:=fun _ _ e _=>e
theorem SameX.of {as:List Addr} {H H':Hp} (s:Same H H'):SameX as H H':=fun b o e _=>s b o e
theorem SameX.trans {as:List Addr} {H H' j:Hp} (a:SameX as H H') (b:SameX as H' j):SameX as H j:=fun c o e n=>b c o (a c o e n) n
theorem GridH.ex {H:Hp} {g:Addr} {n m:Nat} {G:Gd} {as:List Addr} (h:GridH H g n m G as) {i:Nat} (hi:i < n):∃a,as[i]? = some a/\H a=some (.lst (G7 m (G i))):=by
 have:i < as.length:=by rw [h.len];exact hi
 exact⟨as[i],gA this,h.row i _ (gA this)⟩
theorem GridH.put1 {H:Hp} {g:Addr} {n m:Nat} {G:Gd} {as:List Addr} (h:GridH H g n m G as) {i c:Nat} {a:Addr} (ha:as[i]? = some a) (s:Str) :
    GridH (upd H a (.lst ((G7 m (G i)).set c (V.str s)))) g n m (fun r k=>if r=i/\k=c then s else G r k) as where
  top:=by have ne:g≠a:=fun z=>h.out (by rw [z];exact jA ha);rw [qu ne];exact h.top
  len:=h.len
  nod:=h.nod
  out:=h.out
  row:=fun j b e=>by
    by_cases z:j=i
    · subst z
      rw [ha] at e;cases e;rw [qd,qt0];congr 2;refine Nb fun k _=>?_;by_cases y:k=c
      · rw [kA y,kA ⟨rfl,y⟩]
      · rw [oA y,oA fun w=>y w.2]
    · have:b≠a:=fun y=>by
        subst y;obtain⟨h1,e1⟩:=bA.mp e;obtain⟨h2,e2⟩:=bA.mp ha;exact z ((List.getElem_inj h.nod).mp (e1.trans e2.symm))
      rw [qu this,h.row j b e];congr 2;refine Nb fun k _=>?_;rw [oA fun w=>z w.1]
theorem SameX.put {H:Hp} {as:List Addr} {a:Addr} {o:HO} (ha:a∈as):SameX as H (upd H a o):=fun b o' e n=>by have ne:b≠a:=fun z=>n (by rw [z];exact ha);rw [qu ne];exact e
theorem zb4 {n k:Nat} (h:k < n):ixN n (k:Int)=some k:=by unfold ixN;simp;omega
end GT
namespace L2
open PySem
theorem qa8 {X:Cx} {K:PySem.W.Frag} (h:X.K=K):OpR X (compareOp .In) (rIn K false):=by subst h;exact qj8
open PySem.Spec PyProof.Rows PySem.W
end L2
namespace SZ
open PySem
theorem Zy {ns:List Int} (h:∀z∈ns,(1:Int)<=z) (f b:Nat):0<=(seg ns f b).sum:=by
 unfold seg;generalize hm:(ns.take b).drop f=m;have j:∀z∈m,(1:Int)<=z:=fun z D=>h z (yC (mD (hm▸D)));clear hm;induction m with
 |nil=>simp
 |cons x m ih=>
  rw [tE]
  have:=ih fun z D=>j z (.tail _ D)
  have:=j x (.head _);omega
theorem zf7 (ss:List Sn) (k:Nat) (ns:List Int) (h:∀z∈ns,(1:Int)<=z) (g:∀s∈ss,s.f < s.b/\s.n<=12):Bv ss k ns<=12:=by
 rcases qw7 ss k ns with e |⟨s,hs,_,e⟩
 ·omega
 ·have:=Zy h s.f s.b
  have:=g s hs;rw [←e];unfold Ak;omega
theorem Nq (ss:List Sn):∀m,∀z∈szL ss m,(1:Int)<=z
 |0,z,j=>by simp [szL] at j
 |m+1,z,j=>by
  rw [szL] at j;rcases rB.mp j with j |j
  ·exact Nq ss m z j
  ·have:z=Bv ss m (szL ss m):=by simpa using j
   rw [this];exact next_ge _ _ _
theorem ql8 (ss:List Sn) (g:∀s∈ss,s.f < s.b/\s.n<=12):∀m,∀z∈szL ss m,z<=12
 |0,z,j=>by simp [szL] at j
 |m+1,z,j=>by
  rw [szL] at j;rcases rB.mp j with j |j
  ·exact ql8 ss g m z j
  ·have:z=Bv ss m (szL ss m):=by simpa using j
   rw [this];exact zf7 _ _ _ (Nq ss m) g
end SZ
namespace GT
open PySem L2 SZ
noncomputable def natL (ns:List Int):List Nat:=ns.map Int.toNat
theorem Iw (ns:List Int):(natL ns).length=ns.length:=by simp [natL]
theorem qy6 {ns:List Int} (h:∀z∈ns,(1:Int)<=z):(natL ns).map (fun (n:Nat)=>V.int (n:Int))=ns.map V.int:=by
 unfold natL;rw [gD];refine pG fun z j=>?_
 have:=h z j;show V.int ((z.toNat:Nat):Int)=V.int z;rw [Int.toNat_of_nonneg (by omega)]
theorem qs6 {ns:List Int} (h:∀z∈ns,(1:Int)<=z):(((natL ns).sum:Nat):Int)=ns.sum:=by
 induction ns with
 |nil=>rfl
 |cons x ns ih=>
  have e:natL (x::ns)=x.toNat::natL ns:=rfl
  have:=h x (.head _);rw [e,tE,tE,Int.natCast_add,ih fun z j=>h z (.tail _ j)];omega
theorem qd5 (ns:List Int) (k:Nat):(natL ns).take k=natL (ns.take k):=by unfold natL;rw [List.map_take]
theorem qe0 {ns:List Int} (h:∀z∈ns,(1:Int)<=z) (k:Nat):((ln (natL ns) k:Nat):Int)=(ns.take k).sum+k:=by unfold ln;rw [qd5,Int.natCast_add,qs6 fun z j=>h z (yC j)]
theorem ze2 {ns:List Int} {f b:Nat} (h:f<=b):(ns.take f).sum+(seg ns f b).sum=(ns.take b).sum:=by
 unfold seg
 have:=jC f (ns.take b);have e:(ns.take b).take f=ns.take f:=by rw [rH,fH h]
 rw [e] at this;rw [←jG,this]
theorem qz2 {ns:List Int} (h:∀z∈ns,(1:Int)<=z) {f b:Nat} (hf:f<=b):((ln (natL ns) b:Nat):Int) - ((ln (natL ns) f:Nat):Int)=(seg ns f b).sum+((b:Int) - (f:Int)):=by
 rw [qe0 h,qe0 h]
 have:=ze2 (ns:=ns) hf;omega
theorem Iz {ns:List Int} (h1:∀z∈ns,(1:Int)<=z) (h:∀z∈ns,z<=12) (hl:ns.length<=16):ln (natL ns) (natL ns).length<=208:=by
 have e:=qe0 h1 (natL ns).length;rw [Iw,pC] at e;rw [Iw]
 have:ns.sum<=12 * (ns.length:Int):=by
  clear e hl h1;induction ns with
  |nil=>simp
  |cons x ns ih=>
   have:=ih fun z j=>h z (.tail _ j)
   have:=h x (.head _);rw [tE,fB];omega
 omega
end GT
namespace KL
theorem Dk {j:Type} {P:j->Prop} {G:Prop} (h:∃a,P a) (k:∀a,P a->G):G:=by obtain⟨a,p⟩:=h;exact k a p
theorem Mm {j D:Type} {P:j->D->Prop} {G:Prop} (h:∃a b,P a b) (k:∀a b,P a b->G):G:=by obtain⟨a,b,p⟩:=h;exact k a b p
theorem zv0 {j D F:Type} {P:j->D->F->Prop} {G:Prop} (h:∃a b c,P a b c) (k:∀a b c,P a b c->G):G:=by obtain⟨a,b,c,p⟩:=h;exact k a b c p
theorem zv2 {j D F J:Type} {P:j->D->F->J->Prop} {G:Prop} (h:∃a b c d,P a b c d) (k:∀a b c d,P a b c d->G):G:=by obtain⟨a,b,c,d,p⟩:=h;exact k a b c d p
open PySem L2 GT PyProof.Rows
noncomputable def top (i:Nat):Stmt:=PySem.Challenge.pw_gridframe_k25_spoilt_drawings.main.body.getD i (.Pass ⟨0,0,0,0⟩)
structure Txt (mg:Str->Option Value):Prop where
  len:mg "len" = none
  range:mg "range" = none
  isinstance:mg "isinstance" = none
  int:mg "int" = none
  bool:mg "bool" = none
  tuple:mg "tuple" = none
  list:mg "list" = none
  sorted:mg "sorted" = none
  enumerate:mg "enumerate" = none
  zip:mg "zip" = none
  str:mg "str" = none
  all:mg "all" = none
  min:mg "min" = none
  max:mg "max" = none
  sum:mg "sum" = none
  ValueError:mg "ValueError" = none
  any:mg "any" = none
  reversed:mg "reversed" = none
noncomputable def jh (e:Expr):Scope:=match e with
 | .ListComp _ _ sc _=>sc
 |_=>{ kind:=.function,names:=[],isGenerator:=false,isCoroutine:=false}
noncomputable def yc (s:Stmt):Expr:=match s with
 | .Expr e _=>e
 | .Assign _ e _=>e
 | .Return (some e) _=>e
 |_=>.Constant .none 0 ⟨0,0,0,0⟩
noncomputable def operandOf (e:Expr):Expr:=match e with
 | .UnaryOp _ x _=>x
 | .Compare x _ _ _=>x
 |_=>e
noncomputable def Gr (e:Expr) (i:Nat):Expr:=match e with
 | .Call _ as _ _=>as.getD i (.Constant .none 0 ⟨0,0,0,0⟩)
 |_=>.Constant .none 0 ⟨0,0,0,0⟩
noncomputable def bodyOf (s:Stmt):List Stmt:=match s with
 | .For _ _ b _ _=>b
 | .While _ b _ _=>b
 | .If _ b _ _=>b
 |_=>[]
noncomputable def nth (l:List Stmt) (i:Nat):Stmt:=l.getD i (.Pass ⟨0,0,0,0⟩)
noncomputable def zf9 (e:Expr):Expr:=match e with
 | .BinOp _ _ x _=>x
 |_=>e
noncomputable def zn2 (e:Expr):Expr:=match e with
 | .BinOp x _ _ _=>x
 |_=>e
noncomputable def zm6 (s:Stmt):Expr:=match s with
 | .If e _ _ _=>e
 |_=>.Constant .none 0 ⟨0,0,0,0⟩
noncomputable def orOf (e:Expr) (i:Nat):Expr:=match e with
 | .BoolOp _ xs _=>xs.getD i (.Constant .none 0 ⟨0,0,0,0⟩)
 |_=>e
inductive spCell (K:PySem.W.Frag) (vs:List V) (H:Hp) (Q:VK) (e3:XK):Prop
 |mk (a:Addr) (ns:List Int) (k:Nat) (_:vs=[.ref a,.int k]) (_:SqL K H a (ns.map V.int)) (_:Q (.int (ns.getD k 0)) H)
inductive spMix (vs:List V) (H:Hp) (Q:VK) (e3:XK):Prop
 |mk (c p m:Int) (_:vs=[.int c,.int p,.int m]) (_:0 < p) (_:0 < m) (_:Q (.int (c * 48271 % p % m)) H)
inductive spLarge (K:PySem.W.Frag) (vs:List V) (H:Hp) (Q:VK) (e3:XK):Prop
 |mk (a:Addr) (ns:List Int) (_:vs=[.ref a]) (_:SqL K H a (ns.map V.int)) (_:∀b,Q (.bl b) H)
inductive spWord (vs:List V) (H:Hp) (Q:VK) (e3:XK):Prop
 |mk (seed:Int) (n:Nat) (_:vs=[.int seed,.int n]) (_:1<=n) (_:n<=12) (_:∀w H',Same H H'->WordOk w->Q (.str w) H')
inductive spWords (vs:List V) (H:Hp) (Q:VK) (e3:XK):Prop
 |mk (seed:Int) (_:vs=[.int seed]) (_:∀v ws H',Same H H'->WordsOk ws->At H' (Yg ws) v->Q v H')
inductive spBlock (vs:List V) (H:Hp) (Q:VK) (e3:XK):Prop
 |mk (c:Int) (R C:Nat) (_:vs=[.int c,.int R,.int C]) (_:1<=R) (_:1<=C) (_:∀(t l h w:Nat) (a:Addr) (H':Hp),Same H H'->t < R->l < C->1<=h->h<=3->1<=w->w<=3->H' a=some (.tup [.int t,.int l,.int h,.int w])->Q (.ref a) H')
noncomputable def pl (r c:Nat):List Key:=[Sum.inl (r:Int),Sum.inl (c:Int)]
inductive spFree (vs:List V) (H:Hp) (Q:VK) (e3:XK):Prop
 |mk (b d:Addr) (t l h w R C:Nat) (kvs:List (List Key×V)) (_:vs=[.ref b,.int R,.int C,.ref d]) (_:H b=some (.tup [.int t,.int l,.int h,.int w])) (_:H d=some (.dT kvs)) (_:t<=100) (_:l<=100) (_:h<=3) (_:w<=3) (_:(∀H',Same H H'->Q (.bl false) H')) (_:(t+h<=R->l+w<=C->(∀r c,t<=r->r < t+h->l<=c->c < l+w->Ah kvs (pl r c)=none)->∀H',Same H H'->Q (.bl true) H'))
inductive spTable (K:PySem.W.Frag) (vs:List V) (H:Hp) (Q:VK) (e3:XK):Prop
 |mk (a:Addr) (ns:List Int) (R C:Nat) (_:vs=[.ref a,.int R,.int C]) (_:SqL K H a (ns.map V.int)) (_:ns.length<=67) (_:1<=R) (_:R<=17) (_:1<=C) (_:C<=17) (_:∀v cs H',Same H H'->Tiles R C cs->At H' (O9 R C cs) v->Q v H')
inductive spSize (K:PySem.W.Frag) (vs:List V) (H:Hp) (Q:VK) (e3:XK):Prop
 |mk (a:Addr) (ns:List Int) (k:Nat) (_:vs=[.ref a,.int k]) (_:SqL K H a (ns.map V.int)) (_:∀n:Nat,1<=n->n<=16->Q (.int n) H)
inductive spMade (K:PySem.W.Frag) (vs:List V) (H:Hp) (Q:VK) (e3:XK):Prop
 |mk (a:Addr) (ns:List Int) (_:vs=[.ref a]) (_:SqL K H a (ns.map V.int)) (_:ns.length<=63) (_:∀v R C cs H',Same H H'->1<=R->R<=16->1<=C->C<=16->Tiles R C cs->At H' (O9 R C cs) v->Q v H')
inductive spCopy (vs:List V) (H:Hp) (Q:VK) (e3:XK):Prop
 |mk (v:V) (R C:Nat) (cs:List Cell) (_:vs=[v]) (_:At H (O9 R C cs) v) (_:∀v' H',Same H H'->At H' (O9 R C cs) v'->Q v' H')
section
variable {P:Program} {w:World} {K:PySem.W.Frag} {mg:Str->Option Value} {base:Heap}
theorem U3:FnScope ["_law_script", "_law_k"] ["_law_script", "_law_k"] (qm (top 49)):=fsc
theorem Tg (T:Txt mg) (f:Addr) (fd:FuncData) (F:Fun K "_law_cell" "_law_cell" (top 49) f fd):FnOk P w K mg base CX0 1 f fd ["_law_script", "_law_k"] (spCell K):=by
 refine F.ok U3 (fun vs H Q E h=>?_) (fun cdv A outer s H vs Q E hr h=>?_)
 ·obtain⟨a,ns,k,rfl,_⟩:=h;rfl
 ·obtain⟨a,ns,k,rfl,hs,q⟩:=h;refine⟨_,(qj (j6 (zp Qj (pv 1) (q8 (je (K:=K) rfl) (by rfl) T.len vB (qb (pv 0) qi)) (zr _)) (qp (zb (qz (zc (K:=K) rfl) (pv 0) (pv 1) (fun _ _=>rfl)))) zq)
   (qp (zb qg))),?_⟩
  refine⟨a,_,rfl,.inl hs,_,_,rfl,rfl,_,rfl,?_⟩;refine kh (fun j=>?_) (fun j=>?_)
  ·have j:=lB j;rw [aA] at j;refine⟨a,_,(k:Int),(.int (ns.getD k 0)),rfl,rfl,hs,jg ?_,q⟩;rw [fA,gA (by omega)];simp [zA,gA (show k < ns.length by omega)]
  ·have j:¬((k:Int) < ((ns.map V.int).length:Int)):=fun z=>j (eA z);rw [aA] at j;have e:ns.getD k 0=0:=by
    rw [zA,kE (by omega)];rfl
   rw [e] at q;exact q
theorem Xf:FnScope ["_law_cell_here", "_law_prime", "_law_many"] ["_law_cell_here", "_law_prime", "_law_many"] (qm (top 50)):=fsc
theorem W3 (f:Addr) (fd:FuncData) (F:Fun K "_law_mix" "_law_mix" (top 50) f fd):FnOk P w K mg base CX0 1 f fd ["_law_cell_here", "_law_prime", "_law_many"] spMix:=by
 refine F.ok Xf (fun vs H Q E h=>?_) (fun cdv A outer s H vs Q E hr h=>?_)
 ·obtain⟨c,p,m,rfl,_⟩:=h;rfl
 ·obtain⟨c,p,m,rfl,hp,hm,q⟩:=h;refine⟨_,(qp (zb (qx ud (qx ud (qx wj (pv 0) qg) (pv 1)) (pv 2)))),?_⟩;exact⟨_,_,rfl,rfl,.inr ⟨by decide,by decide⟩,_,_,rfl,rfl,hp,_,_,rfl,rfl,hm,q⟩
theorem Nu:FnScope ["_law_script"] ["_law_script"] (qm (top 51)):=fsc
theorem O8 (T:Txt mg) (D:Cal P w K mg base 1 "_law_cell" ["_law_script", "_law_k"] (spCell K)) (J:Cal P w K mg base 1 "_law_mix" ["_law_cell_here", "_law_prime", "_law_many"] spMix)
  (f:Addr) (fd:FuncData) (F:Fun K "_law_large" "_law_large" (top 51) f fd):FnOk P w K mg base CX0 2 f fd ["_law_script"] (spLarge K):=by
 refine F.ok Nu (fun vs H Q E h=>?_) (fun cdv A outer s H vs Q E O h=>?_)
 ·obtain⟨a,ns,rfl,_⟩:=h;rfl
 ·obtain⟨a,ns,rfl,hs,q⟩:=h;have j:Room 1 (A.deeper (envOfC "_law_large" (qm (top 51)) s.heap.objs.size f cdv)):=O;have G:=j;refine⟨_,(qp (zb (xf Bb (qy J G rfl (qb (qx zg (qy D j rfl (qb (pv 0) (qb qg qi))) (qx wj qg (q8 (je (K:=K) rfl) (by rfl) T.len vB (qb (pv 0) qi)))) (qb qg (qb qg qi)))) qg (zr _)))),?_⟩;refine⟨a,ns,0,rfl,hs,a,_,rfl,.inl hs,_,_,rfl,rfl,.inl ⟨by decide,by decide⟩,_,_,rfl,rfl,_,_,_,rfl,by decide,by decide,rfl,?_⟩;exact q _
theorem sc__law_word:FnScope ["_law_seed", "_law_size_here", "_law_signs"] ["_law_seed", "_law_size_here"] (qm (top 52)):=fsc
theorem zd4:(["_law_k", "_law_signs", "_law_seed"]:List Str).Nodup:=by decide +kernel
noncomputable abbrev qm5:Scope:=jh (Gr (yc (nth (zy (top 52)) 1)) 0)
set_option maxHeartbeats 2000000 in
theorem Tf (T:Txt mg) (G:Cal P w K mg base 1 "_law_mix" ["_law_cell_here", "_law_prime", "_law_many"] spMix)
  (f:Addr) (fd:FuncData) (F:Fun K "_law_word" "_law_word" (top 52) f fd):FnOk P w K mg base CX0 2 f fd ["_law_seed", "_law_size_here"] spWord:=by
 refine F.ok sc__law_word (fun vs H Q E h=>?_) (fun cdv A outer s H vs Q E hr h=>?_)
 ·obtain⟨a,ns,rfl,_⟩:=h;rfl
 ·obtain⟨seed,n,rfl,n1,n2,k⟩:=h;have D:Room 1 (A.deeper (envOfC "_law_word" (qm (top 52)) s.heap.objs.size f cdv)):=hr;have O:=Bg (X:=(vz CX0 P w K mg base ["_law_seed", "_law_size_here", "_law_signs"] "_law_word" (qm (top 52)) f cdv A outer s H E).nox) (N:=["_law_seed", "_law_size_here", "_law_signs"]) (N1:=["_law_k", "_law_signs", "_law_seed"]) (cap:=[none,some 2,some 0]) (scope:=qm5) (sc:=qm (top 52)) (s.heap.objs.size+1);refine⟨_,(qj (psS (i:=2) sc__law_word.nd zz)
   (qp (zb (xn (K:=K) rfl vC rE sE (De (K:=K) rfl) zz (qb (jx O rfl (vh rfl T.range (qb (pv 1) qi)) (fun _ _ _ _=>(pgC (i:=0) zd4)) (fun _ _ _ _=>jy) (fun _ _ _ _=>(qz (Ut) (pv 1) (qy G D rfl (qb (qx zg (pv 2) (qx wj (qx wj qg (pv 0)) (pv 0))) (qb qg (qb qg qi)))) (fun _ _=>rfl)))) qi))))),?_⟩
  have nn:((n:Int)).toNat=n:=by omega
  generalize a5:Str.ofString "abcdefghijklmnopqrstuvwxyz0123456789" = sg;have Y:sg=GT.signs:=a5.symm;have len36:sg.cps.toList.length=36:=by rw [Y];exact qj5
  have Z:sg.length<=sizeLine:=by rw [Y];exact Ws
  refine⟨rfl,(n:Int),rfl,by omega,by omega,fun acc U=>?_⟩;rw [nn];refine Bl (lo:=0) (n:=n) (fun j σ1 H3=>∃(kk:Option V) (ys:List Str),σ1=[kk,some (.str sg),some (.int seed)]/\Same H H3/\H3 acc=some (.lst (ys.map V.str))/\ys.length=j/\∀y∈ys,∃c∈sg.cps.toList,y=⟨#[c]⟩)
   ⟨none,[],rfl,tI U,qd,rfl,fun y S=>by simp at S⟩ ?_ ?_
  ·intro j σ1 H3 hj hI;refine Mm hI fun kk ys J=>?_;have eI:=J.1;have s3:=J.2.1;have h3:=J.2.2.1;have l3:=J.2.2.2.1;have a3:=J.2.2.2.2;clear hI J;subst eI;dsimp only [jt];rw [kA rfl];refine⟨_,_,rfl,rfl,.inl ⟨by decide,by decide⟩,_,_,rfl,rfl,.inr ⟨by omega,by omega⟩,_,_,rfl,rfl,_,_,_,rfl,by decide,by decide,?_⟩
   try dsimp only
   generalize hz:(seed+7 * (0+(j:Int)) * (0+(j:Int))) * 48271 % 9931 % 36=z;have z0:0<=z:=by omega
   have z1:z < 36:=by omega
   obtain⟨c,gz⟩:∃c,sg.cps.toList[z.toNat]? = some c:=⟨_,gA (by omega)⟩
   have ez:((z.toNat:Nat):Int)=z:=by omega
   refine⟨sg,z,c,rfl,rfl,Z,by rw [←ez];exact jg gz,?_⟩;refine⟨ys.map V.str,h3,zf (by rw [aA];omega),?_⟩;refine⟨_,ys++[⟨#[c]⟩],rfl,fun b o e=>?_,by rw [qd,lA];rfl,by rw [wA,l3];rfl,fun y S=>?_⟩
   ·rw [qu (qw e U)];exact s3 _ _ e
   ·rcases rB.mp S with S |S
    ·exact a3 y S
    ·have:y=⟨#[c]⟩:=by simpa using S
     exact⟨_,jA gz,this⟩
  ·intro σ1 H3 hI;refine Mm hI fun kk ys J=>?_;have eI:=J.1;have s3:=J.2.1;have h3:=J.2.2.1;have l3:=J.2.2.2.1;have a3:=J.2.2.2.2;clear hI J;subst eI;have one:∀y∈ys,y.length=1:=fun y S=>by obtain⟨c,_,rfl⟩:=a3 y S;rfl
   have a4:(ys.map (·.length)).sum=ys.length:=by
    clear h3 l3 a3;induction ys with
    |nil=>rfl
    |cons y ys ih=>rw [aC,tE,ih (fun z hz=>one z (vA _ hz)),one y uA,fB];omega
   refine⟨_,acc,ys,rfl,rfl,uI h3,by rw [a4];show ys.length+ys.length * 0<=_;omega,?_⟩;refine k _ _ s3 (qh3 ?_ ?_ ?_)
   ·rw [Y] at a3;exact a3
   ·omega
   ·omega
theorem sc__law_words:FnScope ["_law_seed", "_law_found", "_law_many", "_law_k", "_law_size_here"] ["_law_seed"] (qm (top 53)):=fsc
set_option maxHeartbeats 2000000 in
theorem O3 (T:Txt mg) (G:Cal P w K mg base 1 "_law_mix" ["_law_cell_here", "_law_prime", "_law_many"] spMix) (O:Cal P w K mg base 2 "_law_word" ["_law_seed", "_law_size_here"] spWord)
  (f:Addr) (fd:FuncData) (F:Fun K "_law_words" "_law_words" (top 53) f fd):FnOk P w K mg base CX0 3 f fd ["_law_seed"] spWords:=by
 refine F.ok sc__law_words (fun vs H Q E h=>?_) (fun cdv A outer s H vs Q E hr h=>?_)
 ·obtain⟨a,rfl,_⟩:=h;rfl
 ·obtain⟨seed,rfl,k⟩:=h;have J:Room 2 (A.deeper (envOfC "_law_words" (qm (top 53)) s.heap.objs.size f cdv)):=hr;have D:=hr.mono (j:=1) (by decide);refine⟨_,(qj (psS (i:=1) sc__law_words.nd (vf qi))
   (qj (psS (i:=2) sc__law_words.nd (qy G D rfl (qb (pv 0) (qb qg (qb qg qi)))))
   (qj (j6 (zp Bb (qy G D rfl (qb (pv 0) (qb qg (qb qg qi)))) qg (zr _)) (qp (psS (i:=2) sc__law_words.nd (qy G D rfl (qb (pv 0) (qb qg (qb qg qi)))))) zq)
   (qj (j8 cC rfl (vh rfl T.range (qb (pv 2) qi)) (pgN (i:=3) sc__law_words.nd) (qj (psS (i:=4) sc__law_words.nd (qx zg qg (qy G D rfl (qb (qx zg (pv 0) (qx wj (qx wj qg (pv 3)) (pv 3))) (qb qg (qb qg qi))))))
   (qp (yr (xn (K:=K) rfl wD gE iE vg (pv 1) (qb (qy O J rfl (qb (qx zg (pv 0) (qx wj (qx wj qg (pv 3)) (pv 3))) (qb (pv 4) qi))) qi))))))
   (qp (zb (Gm (Jw (K:=K) rfl) (by rfl) T.tuple xD (qb (pv 1) qi)))))))),?_⟩
  refine⟨by show 0<=sizeLine;decide,fun l hl=>?_⟩;refine⟨_,_,_,rfl,by decide,by decide,?_⟩;refine⟨_,_,_,rfl,by decide,by decide,rfl,_,rfl,?_⟩;refine kh (fun _=>?_) (fun _=>?_);case' refine_1=>
   refine⟨_,_,_,rfl,by decide,by decide,?_⟩;generalize hm:seed * 48271 % 9901 % 13=m;have Z:0<=m/\m<=12:=by omega
  case' refine_2=>
   generalize hm:seed * 48271 % 9949 % 4=m;have Z:0<=m/\m<=12:=by omega
  all_goals
   refine⟨m,rfl,by omega,by omega,?_⟩;refine j5 (n:=m.toNat) (fun i σ H2=>∃(kk sz:Option V) (ws:List Str),σ=[some (.int seed),some (.ref l),some (.int m),kk,sz]/\Same H H2/\H2 l=some (.lst (ws.map V.str))/\ws.length=i/\∀x∈ws,WordOk x)
    ⟨none,none,[],rfl,tI hl,qd,rfl,fun x hx=>by simp at hx⟩ ?_ ?_
   ·intro i σ H2 hi U;refine zv0 U fun kk sz ws S=>?_;have eI:=S.1;have s2:=S.2.1;have h2:=S.2.2.1;have l2:=S.2.2.2.1;have o2:=S.2.2.2.2;clear U S;subst eI;refine⟨_,_,rfl,rfl,.inl ⟨by decide,by decide⟩,_,_,rfl,rfl,.inr ⟨by omega,by omega⟩,_,_,rfl,rfl,_,_,_,rfl,by decide,by decide,_,_,rfl,rfl,?_⟩
    try dsimp only
    obtain⟨n,en,n1,n2⟩:∃n:Nat,1+(seed+13 * (0+(i:Int)) * (0+(i:Int))) * 48271 % 9941 % 12=(n:Int)/\1<=n/\n<=12:=⟨(1+(seed+13 * (0+(i:Int)) * (0+(i:Int))) * 48271 % 9941 % 12).toNat,by omega,by omega,by omega⟩
    rw [en];refine⟨.inl ⟨rfl,_,uI h2⟩,_,_,rfl,rfl,.inl ⟨by decide,by decide⟩,_,_,rfl,rfl,.inr ⟨by omega,by omega⟩,_,_,rfl,rfl,_,n,rfl,n1,n2,fun x H3 s3 ox=>?_⟩;have h3:=s3 _ _ h2;refine⟨l,_,.str x,rfl,rfl,h3,zf (by rw [aA];omega),?_⟩;refine⟨_,_,ws++[x],rfl,fun b o e=>?_,by rw [qd,lA];rfl,by rw [wA,l2];rfl,fun y Y=>?_⟩
    ·rw [qu (qw e hl)];exact s3 _ _ (s2 _ _ e)
    ·rcases rB.mp Y with Y |Y
     ·exact o2 y Y
     ·have:y=x:=by simpa using Y
      rw [this];exact ox
   ·intro σ H2 U;refine zv0 U fun kk sz ws S=>?_;have eI:=S.1;have s2:=S.2.1;have h2:=S.2.2.1;have l2:=S.2.2.2.1;have o2:=S.2.2.2.2;clear U S;subst eI;refine⟨l,_,rfl,.inl ⟨uI h2,fun t ht=>?_⟩⟩;refine k _ ws _ (s2.trans (tI ht)) ⟨by omega,o2⟩ (.tup qd (Jt _ ws))
theorem sc__law_block:FnScope ["_law_cell_here", "_law_rows", "_law_columns", "_law_top", "_law_left"] ["_law_cell_here", "_law_rows", "_law_columns"] (qm (top 55)):=fsc
set_option maxHeartbeats 2000000 in
theorem Ob (T:Txt mg) (D:Cal P w K mg base 1 "_law_mix" ["_law_cell_here", "_law_prime", "_law_many"] spMix)
  (f:Addr) (fd:FuncData) (F:Fun K "_law_block" "_law_block" (top 55) f fd):FnOk P w K mg base CX0 2 f fd ["_law_cell_here", "_law_rows", "_law_columns"] spBlock:=by
 refine F.ok sc__law_block (fun vs H Q E h=>?_) (fun cdv A outer s H vs Q E O h=>?_)
 ·obtain⟨c,R,C,rfl,_⟩:=h;rfl
 ·obtain⟨c,R,C,rfl,hR,hC,k⟩:=h;have j:Room 1 (A.deeper (envOfC "_law_block" (qm (top 55)) s.heap.objs.size f cdv)):=O;have G:(0:Int) < (R:Int):=by omega
  have J:(0:Int) < (C:Int):=by omega
  refine⟨_,(qj (psS (i:=3) sc__law_block.nd (qy D j rfl (qb (pv 0) (qb qg (qb (pv 1) qi)))))
   (qj (psS (i:=4) sc__law_block.nd (qy D j rfl (qb (pv 0) (qb qg (qb (pv 2) qi)))))
   (qp (zb (yu (qb (pv 3) (qb (pv 4) (qb (qx zg qg (qy D j rfl (qb (pv 0) (qb qg (qb qg qi))))) (qb (qx zg qg (qy D j rfl (qb (pv 0) (qb qg (qb qg qi))))) qi))))))))),?_⟩
  refine⟨_,_,_,rfl,by decide,G,?_⟩;refine⟨_,_,_,rfl,by decide,J,?_⟩;refine⟨_,_,_,rfl,by decide,by decide,_,_,rfl,rfl,_,_,_,rfl,by decide,by decide,_,_,rfl,rfl,by show 4<=sizeLine;decide,fun p hp=>?_⟩
  try dsimp only
  have a1:=Int.emod_nonneg (c * 48271 % 9973) (by omega:(R:Int)≠0);have a2:=Int.emod_lt_of_pos (c * 48271 % 9973) G;have b1:=Int.emod_nonneg (c * 48271 % 9967) (by omega:(C:Int)≠0);have b2:=Int.emod_lt_of_pos (c * 48271 % 9967) J;generalize c * 48271 % 9973 % (R:Int)=t at *;generalize c * 48271 % 9967 % (C:Int)=l at *;obtain⟨t,rfl⟩:=tF a1;obtain⟨l,rfl⟩:=tF b1;obtain⟨h,S,h1,h2⟩:∃h:Nat,1+c * 48271 % 10007 % 3=(h:Int)/\1<=h/\h<=3:=⟨(1+c * 48271 % 10007 % 3).toNat,by omega,by omega,by omega⟩
  obtain⟨w,U,w1,Y⟩:∃w:Nat,1+c * 48271 % 9923 % 3=(w:Int)/\1<=w/\w<=3:=⟨(1+c * 48271 % 9923 % 3).toNat,by omega,by omega,by omega⟩
  rw [S,U];exact k t l h w p _ (tI hp) (by omega) (by omega) h1 h2 w1 Y qd
theorem sc__law_free:FnScope ["_law_block_here", "_law_rows", "_law_columns", "_law_taken", "_law_row", "_law_column"] ["_law_block_here", "_law_rows", "_law_columns", "_law_taken"] (qm (top 54)):=fsc
set_option maxHeartbeats 2000000 in
theorem Tz (T:Txt mg) (f:Addr) (fd:FuncData) (F:Fun K "_law_free" "_law_free" (top 54) f fd):FnOk P w K mg base CX0 1 f fd ["_law_block_here", "_law_rows", "_law_columns", "_law_taken"] spFree:=by
 refine F.ok sc__law_free (fun vs H Q E h=>?_) (fun cdv A outer s H vs Q E hr h=>?_)
 ·obtain⟨b,d,t,l,h,w,R,C,kvs,rfl,_⟩:=h;rfl
 ·obtain⟨b,d,t,l,h,w,R,C,kvs,rfl,hb,hd,t0,l0,h3,w3,O,qT⟩:=h;have hu:=zl5 hr;refine⟨_,(qj (j6 (wI (wu (zp J8 (qx zg (qz (qt (K:=K) rfl) (pv 0) qg (fun _ _=>rfl)) (qz (qt (K:=K) rfl) (pv 0) qg (fun _ _=>rfl))) (pv 1) (zr _)) (v5 (zp J8 (qx zg (qz (qt (K:=K) rfl) (pv 0) qg (fun _ _=>rfl)) (qz (qt (K:=K) rfl) (pv 0) qg (fun _ _=>rfl))) (pv 2) (zr _))))) (qp (zb wz)) zq)
   (qj (j8 cC rfl (yz rfl T.range (qb (qz (qt (K:=K) rfl) (pv 0) qg (fun _ _=>rfl)) (qb (qx zg (qz (qt (K:=K) rfl) (pv 0) qg (fun _ _=>rfl)) (qz (qt (K:=K) rfl) (pv 0) qg (fun _ _=>rfl))) qi))) (pgN (i:=4) sc__law_free.nd) (qp (j8 cC rfl (yz rfl T.range (qb (qz (qt (K:=K) rfl) (pv 0) qg (fun _ _=>rfl)) (qb (qx zg (qz (qt (K:=K) rfl) (pv 0) qg (fun _ _=>rfl)) (qz (qt (K:=K) rfl) (pv 0) qg (fun _ _=>rfl))) qi))) (pgN (i:=5) sc__law_free.nd) (qp (j6 (Xn (qj2 hu (yu (qb (pv 4) (qb (pv 5) qi))) (pv 3)) (by rfl)) (qp (zb wz)) zq)))))
   (qp (zb wz)))),?_⟩
  refine⟨b,_,(0:Int),_,rfl,rfl,vI hb,rfl,b,_,(2:Int),_,rfl,rfl,vI hb,rfl,_,_,rfl,rfl,_,_,rfl,rfl,_,rfl,?_⟩;refine kh (fun _=>Ab (O H fun _ _ z=>z)) (fun n1=>?_);refine⟨b,_,(1:Int),_,rfl,rfl,vI hb,rfl,b,_,(3:Int),_,rfl,rfl,vI hb,rfl,_,_,rfl,rfl,_,_,rfl,rfl,_,rfl,?_⟩;refine kh (fun _=>O H fun _ _ z=>z) (fun n2=>?_);have d1:t+h<=R:=by have:¬((R:Int) < (t:Int)+(h:Int)):=fun z=>n1 (eA z);omega
  have d2:l+w<=C:=by have:¬((C:Int) < (l:Int)+(w:Int)):=fun z=>n2 (eA z);omega
  refine⟨b,_,(0:Int),_,rfl,rfl,vI hb,rfl,b,_,(0:Int),_,rfl,rfl,vI hb,rfl,b,_,(2:Int),_,rfl,rfl,vI hb,rfl,_,_,rfl,rfl,(t:Int),(t:Int)+(h:Int),rfl,⟨by omega,by omega,by omega,by omega⟩,?_⟩;have eh:((t:Int)+(h:Int) - (t:Int)).toNat=h:=by omega
  have ew:((l:Int)+(w:Int) - (l:Int)).toNat=w:=by omega
  rw [eh];refine j5 (n:=h) (fun i σ H2=>∃(x y:Option V),σ=[some (.ref b),some (.int R),some (.int C),some (.ref d),x,y]/\Same H H2/\∀r c,t<=r->r < t+i->l<=c->c < l+w->Ah kvs (pl r c)=none)
   ⟨_,_,rfl,fun _ _ z=>z,fun r c h1 h2=>by omega⟩ ?_ ?_
  ·intro i σ H2 hi J;refine Mm J fun x y D=>?_;have S:=D.1;have s2:=D.2.1;have a2:=D.2.2;clear J D;subst S;have G:=s2 _ _ hb;refine⟨b,_,(1:Int),_,rfl,rfl,vI G,rfl,b,_,(1:Int),_,rfl,rfl,vI G,rfl,b,_,(3:Int),_,rfl,rfl,vI G,rfl,_,_,rfl,rfl,(l:Int),(l:Int)+(w:Int),rfl,⟨by omega,by omega,by omega,by omega⟩,?_⟩;rw [ew];refine j5 (n:=w) (fun j σ H3=>∃(y:Option V),σ=[some (.ref b),some (.int R),some (.int C),some (.ref d),some (.int ((t:Int)+(i:Int))),y]/\Same H H3/\∀c,l<=c->c < l+j->Ah kvs (pl (t+i) c)=none)
    ⟨_,rfl,s2,fun c h1 h2=>by omega⟩ ?_ ?_
   ·rintro j σ H3 hj ⟨y,rfl,s3,a3⟩;have e1:(t:Int)+(i:Int)=((t+i:Nat):Int):=by simp
    have e2:(l:Int)+(j:Int)=((l+j:Nat):Int):=by simp
    rw [e2,e1];refine⟨by show 2<=sizeLine;decide,fun p hp=>?_⟩;have s4:=s3.trans (tI (o:=.tup [.int ((t+i:Nat):Int),.int ((l+j:Nat):Int)]) hp);refine⟨d,_,rfl,DGet.t (k:=pl (t+i) (l+j)) (s4 _ _ hd) qd,_,rfl,?_⟩;cases e:Ah kvs (pl (t+i) (l+j)) with
    |some v=>exact Ab (O _ s4)
    |none=>
     refine ul ?_;refine⟨_,rfl,s4,fun c h1 h2=>?_⟩;by_cases U:c=l+j
     ·subst U;exact e
     ·exact a3 c h1 (by omega)
   ·rintro σ H3 ⟨y,rfl,s3,a3⟩;refine⟨_,_,rfl,s3,fun r c h1 h2 Y Z=>?_⟩;by_cases U:r=t+i
    ·subst U;exact a3 c Y Z
    ·exact a2 r c h1 (by omega) Y Z
  ·intro σ H2 J;refine Mm J fun x y D=>?_;have S:=D.1;have s2:=D.2.1;have a2:=D.2.2;clear J D;subst S;exact qT d1 d2 a2 H2 s2
end
theorem SameT.putD {H:Hp} {d:Addr} {kvs:List (List Key×V)} {o:HO} (h:H d=some (.dT kvs)):SameT H (upd H d o):=fun a ys e=>by rw [qu (Nx e h (fun z=>by cases z))];exact e
theorem pl_inj {r c r' c':Nat}:pl r c=pl r' c'↔r=r'/\c=c':=by
 unfold pl;constructor
 ·intro h;simp only [iH,Sum.inl.injEq] at h;omega
 ·rintro⟨rfl,rfl⟩;rfl
theorem zf1 {kvs:List (List Key×V)} {r c r' c':Nat} {v:V}:(Ah (putK kvs (pl r c) v) (pl r' c')).isSome=true↔(Ah kvs (pl r' c')).isSome=true\/(r'=r/\c'=c):=by
 rw [Yv];by_cases h:pl r' c'=pl r c
 ·rw [kA h];exact⟨fun _=>.inr (pl_inj.mp h),fun _=>rfl⟩
 ·rw [oA h];exact⟨fun z=>.inl z,fun z=>z.elim id fun z=>absurd (pl_inj.mpr z) h⟩
theorem cut_ints {ns:List Int} {lo hi:Option Int}:(∀x∈Ax (ns.map V.int) lo hi,∃z,x=V.int z)/\(Ax (ns.map V.int) lo hi).length<=ns.length:=by
 constructor
 ·intro x hx
  have:x∈ns.map V.int:=mD (yC hx);obtain⟨z,_,rfl⟩:=xA.mp this;exact⟨z,rfl⟩
 ·have:=Dg (ns.map V.int) lo hi
  rwa [aA] at this
section
variable {P:Program} {w:World} {K:PySem.W.Frag} {mg:Str->Option Value} {base:Heap}
structure One (H:Hp) (R C:Nat) (d l p:Addr) (items:List V) (i:Nat) (cs:List Cell) (kvs:List (List Key×V)) (xs:List V) (H2:Hp):Prop where
  same:Same H H2
  it:H2 p=some (.lst items)
  dd:H2 d=some (.dT kvs)
  ll:H2 l=some (.lst xs)
  at':AtL H2 (cs.map Cell.D) xs
  part:Part R C cs
  few:cs.length<=i
  fewk:kvs.length<=9 * i
  cov:∀r c,(Ah kvs (pl r c)).isSome=true↔cov cs r c
inductive TabInv (a:Addr) (H:Hp) (R C:Nat) (d l p:Addr) (items:List V) (i:Nat) (σ:L2.St) (H2:Hp):Prop
 |mk (c5 c6 c7 c8:Option V) (cs:List Cell) (kvs:List (List Key×V)) (xs:List V) (_:σ=[some (.ref a),some (.int R),some (.int C),some (.ref d),some (.ref l),c5,c6,c7,c8,none]) (_:One H R C d l p items i cs kvs xs H2)
inductive TabI2 (a:Addr) (R C:Nat) (d l:Addr) (z:Int) (b:Addr) (H H8:Hp) (p:Addr) (items xs:List V) (r:Addr) (i:Nat) (cs:List Cell) (X:Cell) (t:Nat) (i2:Nat) (σ:L2.St) (H9:Hp):Prop
 |mk (c7 c8:Option V) (kv:List (List Key×V)) (_:σ=[some (.ref a),some (.int R),some (.int C),some (.ref d),some (.ref l),some (.int z),some (.ref b),c7,c8,none]) (_:Same H H9) (_:SameT H8 H9) (_:H9 p=some (.lst items)) (_:H9 d=some (.dT kv)) (_:H9 l=some (.lst (xs++[.ref r]))) (_:kv.length<=9 * i+3 * i2) (_:∀r' c',(Ah kv (pl r' c')).isSome=true↔GT.cov cs r' c'\/(inC X r' c'/\r' < t+i2))
inductive TabI3 (a:Addr) (R C:Nat) (d l:Addr) (z:Int) (b:Addr) (H H8:Hp) (p:Addr) (items xs:List V) (r:Addr) (i:Nat) (cs:List Cell) (X:Cell) (t:Nat) (lf i2:Nat) (j:Nat) (σ:L2.St) (H10:Hp):Prop
 |mk (c8:Option V) (kv:List (List Key×V)) (_:σ=[some (.ref a),some (.int R),some (.int C),some (.ref d),some (.ref l),some (.int z),some (.ref b),some (.int ((t:Int)+(i2:Int))),c8,none]) (_:Same H H10) (_:SameT H8 H10) (_:H10 p=some (.lst items)) (_:H10 d=some (.dT kv)) (_:H10 l=some (.lst (xs++[.ref r]))) (_:kv.length<=9 * i+3 * i2+j) (_:∀r' c',(Ah kv (pl r' c')).isSome=true↔GT.cov cs r' c'\/(inC X r' c'/\(r' < t+i2\/(r'=t+i2/\c' < lf+j))))
inductive TabI4 (a:Addr) (R C:Nat) (d l:Addr) (c5 c6:Option V) (H:Hp) (kvs:List (List Key×V)) (cs1:List Cell) (i:Nat) (σ:L2.St) (H3:Hp):Prop
 |mk (c7 c8 c9:Option V) (cs:List Cell) (xs:List V) (_:σ=[some (.ref a),some (.int R),some (.int C),some (.ref d),some (.ref l),c5,c6,c7,c8,c9]) (_:Same H H3) (_:H3 d=some (.dT kvs)) (_:H3 l=some (.lst xs)) (_:AtL H3 (cs.map Cell.D) xs) (_:Part R C cs) (_:cs.length<=67+17 * i) (_:∀r c,r < R->c < C->(GT.cov cs r c↔GT.cov cs1 r c\/r < i))
theorem sc__law_table:FnScope ["_law_script", "_law_rows", "_law_columns", "_law_taken", "_law_cells", "_law_cell_here", "_law_block_here", "_law_row", "_law_column", "_law_seed"] ["_law_script", "_law_rows", "_law_columns"] (qm (top 56)):=fsc
theorem Np (T:Txt mg) (a6:Cal P w K mg base 1 "_law_cell" ["_law_script", "_law_k"] (spCell K)) (J:Cal P w K mg base 3 "_law_words" ["_law_seed"] spWords)
  (Y:Cal P w K mg base 2 "_law_block" ["_law_cell_here", "_law_rows", "_law_columns"] spBlock) (a7:Cal P w K mg base 1 "_law_free" ["_law_block_here", "_law_rows", "_law_columns", "_law_taken"] spFree)
  (f:Addr) (fd:FuncData) (F:Fun K "_law_table" "_law_table" (top 56) f fd):FnOk P w K mg base CX0 4 f fd ["_law_script", "_law_rows", "_law_columns"] (spTable K):=by
 refine F.ok sc__law_table (fun vs H Q E h=>?_) (fun cdv A outer s H vs Q E hr h=>?_)
 ·obtain⟨a,ns,R,C,rfl,_⟩:=h;rfl
 ·obtain⟨a,ns,R,C,rfl,hs,hlen,hR1,hR2,bc,hC2,k⟩:=h;have G:Room 3 (A.deeper (envOfC "_law_table" (qm (top 56)) s.heap.objs.size f cdv)):=hr;have U:=hr.mono (j:=2) (by decide);have S:=hr.mono (j:=1) (by decide);have Z:=S;have hu:=zl5 hr;refine⟨_,(qj (psS (i:=3) sc__law_table.nd Ni)
   (qj (psS (i:=4) sc__law_table.nd (vf qi))
   (qj (j8 cC rfl (jq (K:=K) rfl (zm (jo (K:=K) rfl) (pv 0) (zj qg) (zj (qx zg (qx zg qg (pv 1)) (pv 2))))) (pgN (i:=5) sc__law_table.nd) (qj (psS (i:=6) sc__law_table.nd (qy Y U rfl (qb (pv 5) (qb (pv 1) (qb (pv 2) qi)))))
   (qp (j6 (jz (qy a7 Z rfl (qb (pv 6) (qb (pv 1) (qb (pv 2) (qb (pv 3) qi)))))) (qj (yr (xn (K:=K) rfl wD gE iE vg (pv 4) (qb (qx (qq8 (K:=K) rfl) (pv 6) (yu (qb (qy J G rfl (qb (pv 5) qi)) qi))) qi)))
   (qp (j8 cC rfl (yz rfl T.range (qb (qz (qt (K:=K) rfl) (pv 6) qg (fun _ _=>rfl)) (qb (qx zg (qz (qt (K:=K) rfl) (pv 6) qg (fun _ _=>rfl)) (qz (qt (K:=K) rfl) (pv 6) qg (fun _ _=>rfl))) qi))) (pgN (i:=7) sc__law_table.nd) (qp (j8 cC rfl (yz rfl T.range (qb (qz (qt (K:=K) rfl) (pv 6) qg (fun _ _=>rfl)) (qb (qx zg (qz (qt (K:=K) rfl) (pv 6) qg (fun _ _=>rfl)) (qz (qt (K:=K) rfl) (pv 6) qg (fun _ _=>rfl))) qi))) (pgN (i:=8) sc__law_table.nd) (qp (Xk hu (pv 3) (yu (qb (pv 7) (qb (pv 8) qi))) wz rfl))))))) zq))))
   (qj (j8 cC rfl (vh rfl T.range (qb (pv 1) qi)) (pgN (i:=7) sc__law_table.nd) (qp (j8 cC rfl (vh rfl T.range (qb (pv 2) qi)) (pgN (i:=8) sc__law_table.nd) (qp (j6 (Xn (qn9 hu (yu (qb (pv 7) (qb (pv 8) qi))) (pv 3)) (by rfl)) (qj (psS (i:=9) sc__law_table.nd (qx zg (qx wj (qx wj qg (pv 7)) (pv 7)) (qx wj (qx wj qg (pv 8)) (pv 8))))
   (qj (psS (i:=9) sc__law_table.nd (qx zg (pv 9) (qy a6 S rfl (qb (pv 0) (qb (qx zg qg (qx ud (qx zg (pv 7) (qx wj qg (pv 8))) qg)) qi)))))
   (qp (yr (xn (K:=K) rfl wD gE iE vg (pv 4) (qb (yu (qb (pv 7) (qb (pv 8) (qb qg (qb qg (qb (qy J G rfl (qb (pv 9) qi)) qi)))))) qi)))))) zq)))))
   (qp (zb (yu (qb (pv 1) (qb (pv 2) (qb (q8 (Ui (K:=K) rfl) (by rfl) T.sorted PyProof.Rows.boot_sorted (qb (pv 4) qi)) qi)))))))))),?_⟩
  intro d b6;refine⟨by show 0<=sizeLine;decide,fun l ae=>?_⟩;have ndl:l≠d:=by intro e;subst e;rw [qd] at ae;cases ae
  have hl:H l=none:=by rw [qu ndl] at ae;exact ae
  have s1:Same H (upd (upd H d (.dT [])) l (.lst [])):=(tI b6).trans (tI ae);have RC:(2:Int)+(R:Int)+(C:Int)=((2+R+C:Nat):Int):=by simp
  refine⟨_,rfl,_,_,rfl,rfl,_,_,rfl,rfl,_,rfl,a,_,rfl,s1.seq hs,fun p hp=>⟨p,rfl,⟨_,uI qd⟩,?_⟩⟩;have be:p≠d:=by intro e;subst e;rw [qu ndl.symm,qd] at hp;cases hp
  have b7:p≠l:=by intro e;subst e;rw [qd] at hp;cases hp
  have hp0:H p=none:=s1.free hp;obtain⟨b8,ilen⟩:=cut_ints (ns:=ns) (lo:=some 2) (hi:=some ((2:Int)+(R:Int)+(C:Int)));generalize hit:Ax (ns.map V.int) (some 2) (some ((2:Int)+(R:Int)+(C:Int)))=items at *;have s2:=tI (o:=.lst items) hp;refine Gi (K:=K) (a:=p) (xs:=items) (TabInv a H R C d l p items)
   ⟨none,none,none,none,[],[],[],rfl,s1.trans s2,qd,by rw [qu be.symm,qu ndl.symm,qd],by rw [qu b7.symm,qd],.nil,Part.nil R C,dA _,dA _,fun r c=>by
    constructor
    ·intro z;cases z
    ·rintro⟨x,hx,_⟩;simp at hx⟩
   (fun i σ H2 _ ⟨_,_,_,_,_,_,_,_,o⟩=>uI o.it) ?_ ?_
  ·intro i x σ H2 hi hI;obtain⟨c5,c6,c7,c8,cs,kvs,xs,rfl,O⟩:=hI;obtain⟨z,rfl⟩:=b8 x (jA hi);have hil:i < items.length:=(bA.mp hi).1;have lx:=O.at'.length;rw [aA] at lx;refine⟨z,R,C,rfl,hR1,bc,fun t lf h w b H3 s3 ht hlf h1 h2 w1 w2 hb=>?_⟩;refine⟨b,d,t,lf,h,w,R,C,kvs,rfl,hb,s3 _ _ O.dd,by omega,by omega,h2,w2,fun H4 s4=>⟨false,rfl,ul ?_⟩,fun d1 d2 fr H4 s4=>⟨true,rfl,Ab ?_⟩⟩
   ·have a9:=s3.trans s4;exact⟨_,_,_,_,cs,kvs,xs,rfl,O.same.trans a9,a9 _ _ O.it,a9 _ _ O.dd,a9 _ _ O.ll,O.at'.mono a9,O.part,Nat.le_succ_of_le O.few,by have:=O.fewk;omega,O.cov⟩
   ·have a9:=s3.trans s4;refine⟨.inl ⟨rfl,_,uI (a9 _ _ O.ll)⟩,z,rfl,fun v ws H5 s5 ow av=>⟨by show 1<=sizeLine;decide,fun q hq=>?_⟩⟩;have s6:=tI (o:=.tup [v]) hq;refine⟨b,q,_,_,rfl,rfl,vI (s6 _ _ (s5 _ _ (s4 _ _ hb))),vI qd,(by intro z;cases z),(by show 5<=sizeLine;decide),(fun z=>by cases z),fun _ r af=>?_⟩;have s7:=tI (o:=.tup ([.int t,.int lf,.int h,.int w]++[v])) af;have ag:=((a9.trans s5).trans s6).trans s7;generalize hH7:upd (upd H5 q (.tup [v])) r (.tup ([.int t,.int lf,.int h,.int w]++[v]))=H7 at *;have ax:H7 r=some (.tup ([.int t,.int lf,.int h,.int w]++[v])):=by rw [←hH7];exact qd
    have l7:=ag _ _ O.ll;refine⟨l,xs,.ref r,rfl,rfl,l7,zf (by have:=O.few;omega),?_⟩;obtain⟨bb,wv,rfl,ay,aw⟩:=av.tup_inv;have t8:SameT H7 (upd H7 l (.lst (xs++[.ref r]))):=cJ l7;let X:Cell:=⟨t,lf,h,w,ws⟩
    have fx:Fit R C X:=⟨h1,w1,d1,d2,ow⟩
    have dx:∀r' c',inC X r' c'->¬GT.cov cs r' c':=fun r' c' aa hc=>by have:=(O.cov r' c').mpr hc;rw [fr r' c' aa.1 aa.2.1 aa.2.2.1 aa.2.2.2] at this;cases this
    have az:=s6.trans s7;have aX:At (upd H7 l (.lst (xs++[.ref r]))) X.D (.ref r):=Cell.at_mk (x:=X) (t8 _ _ ax) (t8 _ _ (az _ _ ay)) ((aw.mono az).monoT (fun d hd=>by obtain⟨w',_,rfl⟩:=xA.mp hd;exact .str w') t8);have aL:AtL (upd H7 l (.lst (xs++[.ref r]))) ((cs++[X]).map Cell.D) (xs++[.ref r]):=by rw [lA];exact zI ((O.at'.mono ag).monoT (Gb cs) t8) aX
    have PX:=O.part.snoc fx dx;have nbl:b≠l:=Nx (s3 _ _ O.ll) hb (by intro z;cases z) |>.symm;have ah:d≠l:=Nx O.dd O.ll (by intro z;cases z);have bf:H7 b=some (.tup [.int t,.int lf,.int h,.int w]):=az _ _ (s5 _ _ (s4 _ _ hb));have ak:(upd H7 l (.lst (xs++[.ref r]))) b=some (.tup [.int t,.int lf,.int h,.int w]):=t8 _ _ bf;have fk:=O.fewk;have ao:Same H (upd H7 l (.lst (xs++[.ref r]))):=fun b' o e=>by rw [qu (qw e hl)];exact ag _ _ (O.same _ _ e)
    have p8:(upd H7 l (.lst (xs++[.ref r]))) p=some (.lst items):=by rw [qu b7];exact ag _ _ O.it
    have d8:(upd H7 l (.lst (xs++[.ref r]))) d=some (.dT kvs):=by rw [qu ah];exact ag _ _ O.dd
    generalize bg:upd H7 l (.lst (xs++[.ref r]))=H8 at *;have l8:H8 l=some (.lst (xs++[.ref r])):=by rw [←bg];exact qd
    have bh:((t:Int)+(h:Int) - (t:Int)).toNat=h:=by omega
    have bj:((lf:Int)+(w:Int) - (lf:Int)).toNat=w:=by omega
    refine⟨b,_,(0:Int),_,rfl,rfl,vI ak,rfl,b,_,(0:Int),_,rfl,rfl,vI ak,rfl,b,_,(2:Int),_,rfl,rfl,vI ak,rfl,_,_,rfl,rfl,(t:Int),(t:Int)+(h:Int),rfl,⟨by omega,by omega,by omega,by omega⟩,?_⟩;rw [bh];refine j5 (n:=h) (TabI2 a R C d l z b H H8 p items xs r i cs X t)
     ⟨_,_,kvs,rfl,ao,fun _ _ z=>z,p8,d8,l8,by omega,fun r' c'=>by rw [O.cov r' c'];exact⟨fun z=>.inl z,fun z=>z.elim id fun z=>absurd z.2 (by have:=z.1.1;show ¬r' < t+0;have:t<=r':=this;omega)⟩⟩ ?_ ?_
    ·intro i2 σ H9 hi2 hI;obtain⟨c7,c8,kv,rfl,s9,t9,p9,d9,l9,f9,v9⟩:=hI;have b2:=t9 _ _ ak;refine⟨b,_,(1:Int),_,rfl,rfl,vI b2,rfl,b,_,(1:Int),_,rfl,rfl,vI b2,rfl,b,_,(3:Int),_,rfl,rfl,vI b2,rfl,_,_,rfl,rfl,(lf:Int),(lf:Int)+(w:Int),rfl,⟨by omega,by omega,by omega,by omega⟩,?_⟩;rw [bj];refine j5 (n:=w) (TabI3 a R C d l z b H H8 p items xs r i cs X t lf i2)
      ⟨_,kv,rfl,s9,t9,p9,d9,l9,by omega,fun r' c'=>by
       rw [v9 r' c'];refine⟨fun z=>z.imp id fun z=>⟨z.1,.inl z.2⟩,fun z=>z.imp id fun z=>⟨z.1,z.2.elim id fun q=>?_⟩⟩
       have:lf<=c':=z.1.2.2.1
       omega⟩ ?_ ?_
     ·intro j σ H10 hj hI;obtain⟨c8,kv,rfl,b3,b4,aq,ai,ar,bo,v10⟩:=hI;have e1:(t:Int)+(i2:Int)=((t+i2:Nat):Int):=by simp
      have e2:(lf:Int)+(j:Int)=((lf+j:Nat):Int):=by simp
      rw [e2,e1];refine⟨by show 2<=sizeLine;decide,fun q2 bp=>?_⟩;have aj:=tI (o:=.tup [.int ((t+i2:Nat):Int),.int ((lf+j:Nat):Int)]) bp;have b9:=aj _ _ ai;refine⟨d,_,rfl,DPut.t (k:=pl (t+i2) (lf+j)) b9 qd (zf (by omega)),?_⟩;have bq:p≠d:=Nx aq ai (by intro z;cases z);have b5:l≠d:=Nx ar ai (by intro z;cases z);refine⟨_,_,rfl,fun b' o e=>?_,(b4.trans aj.t).trans (SameT.putD b9),?_,qd,?_,?_,fun r' c'=>?_⟩
      ·rw [qu (qw e b6)];exact aj _ _ (b3 _ _ e)
      ·rw [qu bq];exact aj _ _ aq
      ·rw [qu b5];exact aj _ _ ar
      ·have:=Dj kv (pl (t+i2) (lf+j)) (V.bl true);omega
      ·rw [zf1,v10 r' c'];constructor
       ·rintro ((z |z) |z)
        ·exact .inl z
        ·exact .inr ⟨z.1,z.2.imp id fun q=>⟨q.1,by omega⟩⟩
        ·refine .inr ⟨⟨?_,?_,?_,?_⟩,.inr ⟨z.1,by omega⟩⟩
         ·show t<=r';omega
         ·show r' < t+h;omega
         ·show lf<=c';omega
         ·show c' < lf+w;omega
       ·rintro (z |z)
        ·exact .inl (.inl z)
        ·by_cases he:r'=t+i2/\c'=lf+j
         ·exact .inr he
         ·exact .inl (.inr ⟨z.1,z.2.imp id fun q=>⟨q.1,by omega⟩⟩)
     ·intro σ H10 hI;obtain⟨c8,kv,rfl,b3,b4,aq,ai,ar,bo,v10⟩:=hI;refine⟨_,_,kv,rfl,b3,b4,aq,ai,ar,by omega,fun r' c'=>?_⟩;rw [v10 r' c'];refine⟨fun z=>z.imp id fun z=>⟨z.1,by omega⟩,fun z=>z.imp id fun z=>⟨z.1,?_⟩⟩
      have:c' < lf+w:=z.1.2.2.2;omega
    ·intro σ H9 hI;obtain⟨c7,c8,kv,rfl,s9,t9,p9,d9,l9,f9,v9⟩:=hI;refine⟨_,_,_,_,cs++[X],kv,xs++[.ref r],rfl,s9,p9,d9,l9,aL.monoT (Gb _) t9,PX,by rw [wA];have:=O.few;show _+1<=_;omega,by omega,fun r' c'=>?_⟩;rw [v9 r' c',Ip];refine⟨fun z=>z.imp id fun z=>z.1,fun z=>z.imp id fun z=>⟨z,?_⟩⟩;exact z.2.1
  ·intro σ H2 hI;obtain⟨c5,c6,c7,c8,cs1,kvs,br,rfl,O⟩:=hI;have bt:=O.at'.length;rw [aA] at bt;have few1:=O.few;have eR:((R:Int)).toNat=R:=by omega
   have eC:((C:Int)).toNat=C:=by omega
   refine⟨(R:Int),rfl,by omega,by omega,?_⟩;rw [eR];refine j5 (n:=R) (TabI4 a R C d l c5 c6 H kvs cs1)
    ⟨_,_,_,cs1,br,rfl,O.same,O.dd,O.ll,O.at',O.part,by omega,fun r c _ _=>⟨fun z=>.inl z,fun z=>z.elim id fun z=>by omega⟩⟩ ?_ ?_
   ·intro i σ H3 hi hI;obtain⟨c7,c8,c9,cs,xs,rfl,s3,d3,l3,a3,P3,f3,v3⟩:=hI;refine⟨(C:Int),rfl,by omega,by omega,?_⟩;rw [eC];refine j5 (n:=C) (fun j σ H4=>∃(c8 c9:Option V) (cs:List Cell) (xs:List V),σ=[some (.ref a),some (.int R),some (.int C),some (.ref d),some (.ref l),c5,c6,some (.int (0+(i:Int))),c8,c9] /\
      Same H H4/\H4 d=some (.dT kvs)/\H4 l=some (.lst xs)/\AtL H4 (cs.map Cell.D) xs/\Part R C cs/\cs.length<=67+17 * i+j/\∀r c,r < R->c < C->(GT.cov cs r c↔GT.cov cs1 r c\/r < i\/(r=i/\c < j)))
     ⟨_,_,cs,xs,rfl,s3,d3,l3,a3,P3,by omega,fun r c a5 a8=>by rw [v3 r c a5 a8];exact⟨fun z=>z.imp id .inl,fun z=>z.imp id fun z=>by omega⟩⟩ ?_ ?_
    ·intro j σ H4 hj hI;refine zv2 hI fun c8 c9 cs xs hJ=>?_;have eI:=hJ.1;have s4:=hJ.2.1;have d4:=hJ.2.2.1;have l4:=hJ.2.2.2.1;have a4:=hJ.2.2.2.2.1;have P4:=hJ.2.2.2.2.2.1;have f4:=hJ.2.2.2.2.2.2.1;have v4:=hJ.2.2.2.2.2.2.2;clear hI hJ;subst eI;have e1:(0:Int)+(i:Int)=((i:Nat):Int):=by omega
     have e2:(0:Int)+(j:Int)=((j:Nat):Int):=by omega
     rw [e2,e1];have bu:=a4.length;rw [aA] at bu;refine⟨by show 2<=sizeLine;decide,fun q hq=>?_⟩;have s5:=tI (o:=.tup [.int (i:Int),.int (j:Int)]) hq;refine⟨d,_,rfl,DGet.t (k:=pl i j) (s5 _ _ d4) qd,_,rfl,?_⟩;cases ev:Ah kvs (pl i j) with
     |some v=>
      refine ul ?_;have hc:GT.cov cs1 i j:=(O.cov i j).mp (by rw [ev];rfl);refine⟨_,_,cs,xs,rfl,s4.trans s5,s5 _ _ d4,s5 _ _ l4,a4.mono s5,P4,by omega,fun r c a5 a8=>?_⟩;rw [v4 r c a5 a8];refine⟨fun z=>z.imp id fun z=>z.imp id fun z=>⟨z.1,by omega⟩,fun z=>?_⟩;rcases z with z |z |z
      ·exact .inl z
      ·exact .inr (.inl z)
      ·by_cases he:c=j
       ·obtain⟨rfl,_⟩:=z;subst he;exact .inl hc
       ·exact .inr (.inr ⟨z.1,by omega⟩)
     |none=>
      refine Ab ?_;have hc:¬GT.cov cs1 i j:=fun z=>by have:=(O.cov i j).mpr z;rw [ev] at this;cases this
      generalize hH5:upd H4 q (.tup [.int (i:Int),.int (j:Int)])=H5 at *;refine⟨_,_,rfl,rfl,.inl ⟨by decide,by decide⟩,_,_,rfl,rfl,.inr ⟨by omega,by omega⟩,_,_,rfl,rfl,.inl ⟨by decide,by decide⟩,_,_,rfl,rfl,.inr ⟨by omega,by omega⟩,_,_,rfl,rfl,?_⟩;refine⟨_,_,rfl,rfl,.inl ⟨by decide,by decide⟩,_,_,rfl,rfl,_,_,rfl,rfl,by show (0:Int) < 20;decide,_,_,rfl,rfl,a,ns,(2+(i+3 * j) % 20),?_,(s4.trans s5).seq hs,_,_,rfl,rfl,?_⟩
      ·have e3:(2:Int)+((i:Int)+3 * (j:Int)) % 20=((2+(i+3 * j) % 20:Nat):Int):=by omega
       show [V.ref a,V.int ((2:Int)+((i:Int)+3 * (j:Int)) % 20)]=_;rw [e3]
      have l5:=s5 _ _ l4;refine⟨.inl ⟨rfl,_,uI l5⟩,_,rfl,fun v ws H6 s6 ow av=>⟨by show 5<=sizeLine;decide,fun r af=>?_⟩⟩;have s7:=tI (o:=.tup [.int (i:Int),.int (j:Int),.int 1,.int 1,v]) af;generalize hH7:upd H6 r (.tup [.int (i:Int),.int (j:Int),.int 1,.int 1,v])=H7 at *;have ax:H7 r=some (.tup [.int (i:Int),.int (j:Int),.int 1,.int 1,v]):=by rw [←hH7];exact qd
      have au:=(s5.trans s6).trans s7;have l7:=au _ _ l4;refine⟨l,xs,.ref r,rfl,rfl,l7,zf (by have:17 * i<=17 * 17:=Nat.mul_le_mul_left _ (by omega);omega),?_⟩;obtain⟨bb,wv,rfl,ay,aw⟩:=av.tup_inv;have t8:SameT H7 (upd H7 l (.lst (xs++[.ref r]))):=cJ l7;let X:Cell:=⟨i,j,1,1,ws⟩
      have fx:Fit R C X:=⟨dA _,dA _,by show i+1<=R;omega,by show j+1<=C;omega,ow⟩
      have ba:∀r' c',inC X r' c'↔r'=i/\c'=j:=fun r' c'=>by show (i<=r'/\r' < i+1/\j<=c'/\c' < j+1)↔_;omega
      have dx:∀r' c',inC X r' c'->¬GT.cov cs r' c':=fun r' c' aa bw=>by
       obtain⟨rfl,rfl⟩:=(ba r' c').mp aa;rcases (v4 r' c' hi hj).mp bw with z |z |z
       ·exact hc z
       ·omega
       ·omega
      have aX:At (upd H7 l (.lst (xs++[.ref r]))) X.D (.ref r):=Cell.at_mk (x:=X) (t8 _ _ ax) (t8 _ _ (s7 _ _ ay)) ((aw.mono s7).monoT (fun d hd=>by obtain⟨w',_,rfl⟩:=xA.mp hd;exact .str w') t8);have ah:d≠l:=Nx d4 l4 (by intro z;cases z);refine⟨_,_,cs++[X],xs++[.ref r],rfl,fun b' o e=>?_,by rw [qu ah];exact au _ _ d4,qd,?_,P4.snoc fx dx,by rw [wA];show _+1<=_;omega,fun r' c' a5 a8=>?_⟩
      ·rw [qu (qw e hl)];exact au _ _ (s4 _ _ e)
      ·rw [lA];exact zI ((a4.mono au).monoT (Gb cs) t8) aX
      ·rw [Ip,v4 r' c' a5 a8,ba r' c'];constructor
       ·rintro ((z |z |z) |z)
        ·exact .inl z
        ·exact .inr (.inl z)
        ·exact .inr (.inr ⟨z.1,by omega⟩)
        ·exact .inr (.inr ⟨z.1,by omega⟩)
       ·rintro (z |z |z)
        ·exact .inl (.inl z)
        ·exact .inl (.inr (.inl z))
        ·by_cases he:c'=j
         ·exact .inr ⟨z.1,he⟩
         ·exact .inl (.inr (.inr ⟨z.1,by omega⟩))
    ·intro σ H4 hI;refine zv2 hI fun c8 c9 cs xs hJ=>?_;have eI:=hJ.1;have s4:=hJ.2.1;have d4:=hJ.2.2.1;have l4:=hJ.2.2.2.1;have a4:=hJ.2.2.2.2.1;have P4:=hJ.2.2.2.2.2.1;have f4:=hJ.2.2.2.2.2.2.1;have v4:=hJ.2.2.2.2.2.2.2;clear hI hJ;subst eI;refine⟨_,_,_,cs,xs,rfl,s4,d4,l4,a4,P4,by omega,fun r c a5 a8=>?_⟩;rw [v4 r c a5 a8];exact⟨fun z=>z.imp id fun z=>by omega,fun z=>z.imp id fun z=>by omega⟩
   ·intro σ H3 hI;obtain⟨c7,c8,c9,cs,xs,rfl,s3,d3,l3,a3,P3,f3,v3⟩:=hI;refine ?_;dsimp only [qr0];refine Q7 (K:=K) l3 P3 (by omega) a3 fun r bx bz af pc ord at'=>?_;refine⟨by show 3<=sizeLine;decide,fun q hq=>?_⟩;have s4:=tI (o:=.lst bz) af;have s5:=tI (o:=.tup [.int R,.int C,.ref r]) hq;exact k _ bx _ ((s3.trans s4).trans s5) (P3.tiles (fun r c a5 a8=>(v3 r c a5 a8).mpr (.inr a5)) pc ord) (M8 qd (s5 _ _ qd) (at'.mono s5))
theorem Io {Q:VK} {H:Hp} (q:∀n:Nat,1<=n->n<=16->Q (.int n) H) (x:Int) {m:Int} (h0:0 < m) (h1:m<=16):Q (.int (1+x % m)) H:=by have a:=Int.emod_nonneg x (by omega:m≠0);have b:=Int.emod_lt_of_pos x h0;obtain⟨n,j⟩:=tF (by omega:0<=1+x % m);rw [j];exact q n (by omega) (by omega)
theorem sc__law_size:FnScope ["_law_script", "_law_k", "_law_most"] ["_law_script", "_law_k"] (qm (top 57)):=fsc
theorem Q6 (T:Txt mg) (O:Cal P w K mg base 1 "_law_cell" ["_law_script", "_law_k"] (spCell K)) (G:Cal P w K mg base 2 "_law_large" ["_law_script"] (spLarge K)) (f:Addr) (fd:FuncData) (F:Fun K "_law_size" "_law_size" (top 57) f fd):FnOk P w K mg base CX0 3 f fd ["_law_script", "_law_k"] (spSize K):=by
 refine F.ok sc__law_size (fun vs H Q E h=>?_) (fun cdv A outer s H vs Q E S h=>?_)
 ·obtain⟨a,ns,k,rfl,_⟩:=h;rfl
 ·obtain⟨a,ns,k,rfl,hs,q⟩:=h;have J:=S.mono (j:=1) (by decide);have D:=S.mono (j:=2) (by decide);refine⟨_,(qj (psS (i:=2) sc__law_size.nd qg)
   (qj (j6 (jz (qy G D rfl (qb (pv 0) qi))) (qp (psS (i:=2) sc__law_size.nd qg)) zq)
   (qj (j6 (zp J8 (q8 (je (K:=K) rfl) (by rfl) T.len vB (qb (pv 0) qi)) qg (zr _)) (qp (psS (i:=2) sc__law_size.nd qg)) zq)
   (qp (zb (qx zg qg (qx ud (qy O J rfl (qb (pv 0) (qb (pv 1) qi))) (pv 2)))))))),?_⟩
  refine⟨a,ns,rfl,hs,fun b=>⟨b,rfl,?_⟩⟩;refine kh (fun _=>?_) (fun _=>?_)
  all_goals
   refine⟨a,_,rfl,.inl hs,_,_,rfl,rfl,_,rfl,?_⟩;refine kh (fun _=>?_) (fun _=>?_)
  ·exact⟨a,ns,k,rfl,hs,_,_,rfl,rfl,by show (0:Int) < 16;decide,_,_,rfl,rfl,Io q _ (by decide) (by decide)⟩
  ·exact⟨a,ns,k,rfl,hs,_,_,rfl,rfl,by show (0:Int) < 9;decide,_,_,rfl,rfl,Io q _ (by decide) (by decide)⟩
  ·exact⟨a,ns,k,rfl,hs,_,_,rfl,rfl,by show (0:Int) < 16;decide,_,_,rfl,rfl,Io q _ (by decide) (by decide)⟩
  ·exact⟨a,ns,k,rfl,hs,_,_,rfl,rfl,by show (0:Int) < 5;decide,_,_,rfl,rfl,Io q _ (by decide) (by decide)⟩
theorem sc__law_made:FnScope ["_law_script", "_law_way", "_law_tall"] ["_law_script"] (qm (top 58)):=fsc
theorem T6 (T:Txt mg) (G:Cal P w K mg base 1 "_law_cell" ["_law_script", "_law_k"] (spCell K)) (O:Cal P w K mg base 4 "_law_table" ["_law_script", "_law_rows", "_law_columns"] (spTable K)) (U:Cal P w K mg base 3 "_law_size" ["_law_script", "_law_k"] (spSize K)) (f:Addr) (fd:FuncData) (F:Fun K "_law_made" "_law_made" (top 58) f fd):FnOk P w K mg base CX0 5 f fd ["_law_script"] (spMade K):=by
 refine F.ok sc__law_made (fun vs H Q E h=>?_) (fun cdv A outer s H vs Q E Z h=>?_)
 ·obtain⟨a,ns,rfl,_⟩:=h;rfl
 ·obtain⟨a,ns,rfl,hs,hlen,q⟩:=h;have D:=Z.mono (j:=1) (by decide);have J:=Z.mono (j:=4) (by decide);have S:=Z.mono (j:=3) (by decide);obtain⟨R,eR,R1,R2⟩:∃R:Nat,1+ns.getD 0 0 / 40 % 16=(R:Int)/\1<=R/\R<=16:=⟨(1+ns.getD 0 0 / 40 % 16).toNat,by omega,by omega,by omega⟩
  obtain⟨C,eC,C1,C2⟩:∃C:Nat,1+ns.getD 1 0 % 3=(C:Int)/\1<=C/\C<=3:=⟨(1+ns.getD 1 0 % 3).toNat,by omega,by omega,by omega⟩
  refine⟨_,(qj (psS (i:=1) sc__law_made.nd (qx ud (qx qc8 (qy G D rfl (qb (pv 0) (qb qg qi))) qg) qg))
   (qj (psS (i:=2) sc__law_made.nd (qx zg qg (qx ud (qx qc8 (qy G D rfl (qb (pv 0) (qb qg qi))) qg) qg)))
   (qj (j6 (zp Bb (pv 1) qg (zr _)) (qp (zb (qy O J rfl (qb (pv 0) (qb (pv 2) (qb (qx zg qg (qx ud (qy G D rfl (qb (pv 0) (qb qg qi))) qg)) qi)))))) zq)
   (qj (j6 (zp Bb (pv 1) qg (zr _)) (qp (zb (qy O J rfl (qb (pv 0) (qb (qx zg qg (qx ud (qy G D rfl (qb (pv 0) (qb qg qi))) qg)) (qb (pv 2) qi)))))) zq)
   (qp (zb (qy O J rfl (qb (pv 0) (qb (qy U S rfl (qb (pv 0) (qb qg qi))) (qb (qy U S rfl (qb (pv 0) (qb qg qi))) qi)))))))))),?_⟩
  refine⟨a,ns,0,rfl,hs,_,_,rfl,rfl,⟨by decide,by decide⟩,_,_,rfl,rfl,by show (0:Int) < 8;decide,?_⟩;refine⟨a,ns,0,rfl,hs,_,_,rfl,rfl,⟨by decide,by decide⟩,_,_,rfl,rfl,by show (0:Int) < 16;decide,_,_,rfl,rfl,?_⟩;refine⟨rfl,_,rfl,?_⟩;refine kh (fun _=>?_) (fun _=>?_)
  ·refine⟨a,ns,1,rfl,hs,_,_,rfl,rfl,by show (0:Int) < 3;decide,_,_,rfl,rfl,a,ns,R,C,?_,hs,by omega,R1,by omega,C1,by omega,fun v cs H' s' t Y=>q v R C cs H' s' R1 R2 C1 (by omega) t Y⟩;show [V.ref a,V.int (1+ns.getD 0 0 / 40 % 16),V.int (1+ns.getD 1 0 % 3)]=_;rw [eR,eC]
  refine⟨rfl,_,rfl,?_⟩;refine kh (fun _=>?_) (fun _=>?_)
  ·refine⟨a,ns,1,rfl,hs,_,_,rfl,rfl,by show (0:Int) < 3;decide,_,_,rfl,rfl,a,ns,C,R,?_,hs,by omega,C1,by omega,R1,by omega,fun v cs H' s' t Y=>q v C R cs H' s' C1 (by omega) R1 R2 t Y⟩;show [V.ref a,V.int (1+ns.getD 1 0 % 3),V.int (1+ns.getD 0 0 / 40 % 16)]=_;rw [eR,eC]
  exact⟨a,ns,0,rfl,hs,fun R R1 R2=>⟨a,ns,1,rfl,hs,fun C C1 C2=>⟨a,ns,R,C,rfl,hs,by omega,R1,by omega,C1,by omega,fun v cs H' s' t Y=>q v R C cs H' s' R1 R2 C1 C2 t Y⟩⟩⟩
theorem U6:FnScope ["_law_table_here"] ["_law_table_here"] (qm (top 59)):=fsc
theorem Qt (T:Txt mg) (f:Addr) (fd:FuncData) (F:Fun K "_law_copy" "_law_copy" (top 59) f fd):FnOk P w K mg base CX0 1 f fd ["_law_table_here"] spCopy:=by
 refine F.ok U6 (fun vs H Q E h=>?_) (fun cdv A outer s H vs Q E hr h=>?_)
 ·obtain⟨v,R,C,cs,rfl,_⟩:=h;rfl
 ·obtain⟨v,R,C,cs,rfl,j,k⟩:=h;obtain⟨a,l,ys,rfl,ha,hl,D⟩:=Dm j;refine⟨_,(qp (zb (yu (qb (qz (qt (K:=K) rfl) (pv 0) qg (fun _ _=>rfl)) (qb (qz (qt (K:=K) rfl) (pv 0) qg (fun _ _=>rfl)) (qb (Gm (Mw (K:=K) rfl) (by rfl) T.list bH (qb (qz (qt (K:=K) rfl) (pv 0) qg (fun _ _=>rfl)) qi)) qi)))))),?_⟩;refine⟨a,_,(0:Int),_,rfl,rfl,vI ha,rfl,a,_,(1:Int),_,rfl,rfl,vI ha,rfl,a,_,(2:Int),_,rfl,rfl,vI ha,rfl,l,ys,rfl,.inl (uI hl),fun n hn=>⟨by show 3<=sizeLine;decide,fun p hp=>?_⟩⟩;have s1:=tI (o:=.lst ys) hn;have s2:=tI (o:=.tup [.int R,.int C,.ref n]) hp;exact k _ _ (s1.trans s2) (M8 qd (s2 _ _ qd) ((D.mono s1).mono s2))
end
inductive spFilled (K:PySem.W.Frag) (vs:List V) (H:Hp) (Q:VK) (e3:XK):Prop
 |mk (t:Addr) (ws:List Str) (W:Nat) (_:vs=[.ref t,.int W]) (_:SqT K H t (ws.map V.str)) (_:ws.length<=12) (_:(∀x∈ws,x.length<=12)) (_:∀l H',Same H H'->H l=none->H' l=some (.lst ((xx W [] ws).map fun g=>V.str (v6 g)))->Q (.ref l) H')
theorem qf9 (n:Nat):ixN (n+1) (-1)=some n:=by unfold ixN;rw [oA (by omega),kA (by omega)];congr 1;omega
theorem qu9 {α:Type} (xs:List α) (x y:α):(xs++[x]).set xs.length y=xs++[y]:=by rw [List.set_append];simp
theorem zd0 {α:Type} {xs:List α} (h:0 < xs.length):∃ys y,xs=ys++[y]:=⟨xs.dropLast,xs.getLast (by intro z;rw [z] at h;simp at h),(dE _).symm⟩
theorem Dz {n:Nat} (h:n<=1000):n<=sizeLine:=tG (zf h)
theorem Ge:Str.ofString " " = sp1:=by decide +kernel
section
variable {P:Program} {w:World} {K:PySem.W.Frag} {mg:Str->Option Value} {base:Heap}
theorem sc_filled:FnScope ["words", "width", "rows", "word"] ["words", "width"] (qm (top 5)):=fsc
theorem qk0 (T:Txt mg) (f:Addr) (fd:FuncData) (F:Fun K "filled" "filled" (top 5) f fd):FnOk P w K mg base CX0 1 f fd ["words", "width"] (spFilled K):=by
 refine F.ok sc_filled (fun vs H Q E h=>?_) (fun cdv A outer s H vs Q E hr h=>?_)
 ·obtain⟨t,ws,W,rfl,_⟩:=h;rfl
 ·obtain⟨t,ws,W,rfl,ht,few,each,q⟩:=h;refine⟨_,(qj (psS (i:=2) sc_filled.nd (vf qi))
   (qj (j8 cC rfl (By (K:=K) rfl (pv 0)) (pgN (i:=3) sc_filled.nd) (qp (j6 (wI (Xr (zp J8 (q8 (je (K:=K) rfl) (by rfl) T.len vB (qb (pv 2) qi)) qg (zr _)) (Ov (zp J6 (qx zg (qx zg (q8 (ji (K:=K) rfl) (by rfl) T.len vB (qb (qz (zc (K:=K) rfl) (pv 2) (uo ym qg) (fun _ _=>rfl)) qi)) qg) (q8 (ji (K:=K) rfl) (by rfl) T.len vB (qb (pv 3) qi))) (pv 1) (zr _))))) (qp (qy9 (qx zu (qx zu (qz (zc (K:=K) rfl) (pv 2) (uo ym qg) (fun _ _=>rfl)) zz) (pv 3)) (qy8 (pv 2) (uo ym qg) set_list))) (qp (yr (xn (K:=K) rfl wD gE iE vg (pv 2) (qb (pv 3) qi)))))))
   (qp (zb (pv 2))))),?_⟩
  refine⟨by show 0<=sizeLine;decide,fun l hl=>?_⟩;have s1:=tI (o:=.lst []) hl;refine⟨t,rfl,⟨_,s1.seqT ht⟩,?_⟩;refine Wl (K:=K) (a:=t) (xs:=ws.map V.str) (fun i σ H2=>∃(c:Option V),σ=[some (.ref t),some (.int W),some (.ref l),c]/\Same H H2/\H2 l=some (.lst (((ws.take i).foldl (Ai W) []).map fun g=>V.str (v6 g))))
   ⟨none,rfl,s1,qd⟩ (fun i σ H2 _ ⟨_,_,s2,_⟩=>s2.seqT ht) ?_ ?_
  ·intro i x σ H2 hi J;refine Dk J fun c D=>?_;have U:=D.1;have s2:=D.2.1;have h2:=D.2.2;clear J D;subst U;rw [fA] at hi;obtain⟨x,hx,rfl⟩:=qB.mp hi;have hil:=(bA.mp hx).1;have hx12:=each x (jA hx);have O:(ws.take i).length<=12:=by rw [cB];omega
   have G:∀x∈ws.take i,x.length<=12:=fun y hy=>each y (yC hy);have gl:=M9 (W:=W) (ws:=ws.take i);have gk:∀g∈(ws.take i).foldl (Ai W) [],g.length<=12/\(∀w∈g,w∈ws.take i)/\(v6 g).length<=200:=fun g hg=>qv9 O G hg;have gn:=qc2 W (ws.take i);have en:=qw8 (W:=W) hx;generalize hgs:(ws.take i).foldl (Ai W) []=gs at *;have fin:∀H4,Same H2 H4->(∃(c:Option V),[some (.ref t),some (.int W),some (.ref l),some (.str x)]=[some (.ref t),some (.int W),some (.ref l),c]/\Same H (upd H4 l (.lst ((Ai W gs x).map fun g=>V.str (v6 g))))/\(upd H4 l (.lst ((Ai W gs x).map fun g=>V.str (v6 g)))) l=some (.lst (((ws.take (i+1)).foldl (Ai W) []).map fun g=>V.str (v6 g)))):=fun H4 s4=>by
    refine⟨_,rfl,fun b o e=>?_,?_⟩
    ·rw [qu (qw e hl)];exact s4 _ _ (s2 _ _ e)
    ·rw [en];exact qd
   refine⟨l,_,rfl,.inl (uI h2),_,_,rfl,rfl,_,rfl,?_⟩;refine kh (fun hp=>?_) (fun hp=>?_)
   ·have hp:=lB hp;rw [aA] at hp;obtain⟨j,g,rfl⟩:=zd0 (xs:=gs) (by omega);have g1:=gk g (by simp);have Y:=gn g (by simp);have Z:((j++[g]).map fun g=>V.str (v6 g)).length=j.length+1:=by simp
    have S:atI ((j++[g]).map fun g=>V.str (v6 g)) (-1)=some (V.str (v6 g)):=by unfold atI;rw [Z,qf9];simp
    refine⟨_,rfl,l,_,(-1:Int),_,rfl,rfl,uI h2,S,_,rfl,Dz (by omega),_,_,rfl,rfl,_,rfl,Dz (by omega),_,_,rfl,rfl,_,_,rfl,rfl,_,rfl,?_⟩;refine kh (fun hle=>?_) (fun hle=>?_)
    ·have hle:=lB hle;refine⟨_,rfl,l,_,(-1:Int),_,rfl,rfl,uI h2,S,_,_,rfl,rfl,Dz (by rw [Ge];show (v6 g).length+1<=1000;omega),_,_,rfl,rfl,Dz (by rw [Ge,len_app];show (v6 g).length+1+x.length<=1000;omega),_,rfl,l,_,(-1:Int),j.length,rfl,rfl,h2,by rw [Z];exact qf9 _,?_⟩
     have:=fin H2 (fun _ _ z=>z);rw [Jq,kA (by omega)] at this;rw [Ge,qi0 Y];rw [lA,zG,←aA (f:=fun g=>V.str (v6 g)) (as:=j),qu9];rw [lA,zG] at this;exact this
    ·have hle:¬(((v6 g).length:Int)+1+(x.length:Int)<=(W:Int)):=fun z=>hle (eA z);refine⟨.inl ⟨rfl,_,uI h2⟩,l,_,_,rfl,rfl,h2,zf (by rw [Z];rw [wA,jE] at gl;omega),?_⟩
     have:=fin H2 (fun _ _ z=>z);rw [Jq,oA (by omega),lA,zG,Xl] at this;exact this
   ·have hp:¬((0:Int) < (((gs.map fun g=>V.str (v6 g)).length:Nat):Int)):=fun z=>hp (eA z);rw [aA] at hp;have e0:gs=[]:=pF (by omega);subst e0;refine ul ?_;refine⟨.inl ⟨rfl,_,uI h2⟩,l,_,_,rfl,rfl,h2,zf (by simp),?_⟩
    have:=fin H2 (fun _ _ z=>z);have e:Ai W [] x=[[x]]:=rfl;rw [e,zG,Xl] at this;exact this
  ·intro σ H2 J;refine Dk J fun c D=>?_;have U:=D.1;have s2:=D.2.1;have h2:=D.2.2;clear J D;subst U;rw [aA,pC,Do] at h2;exact (q l H2 s2 hl h2)
end
open SZ
inductive spLack (vs:List V) (H:Hp) (Q:VK) (e3:XK):Prop
 |mk (v:V) (s:Sn) (m:Addr) (ns:List Int) (_:vs=[v,.ref m]) (_:At H (Gp s) v) (_:H m=some (.lst (ns.map V.int))) (_:∀H',Same H H'->Q (.int (Ak s ns)) H')
inductive spEnding (vs:List V) (H:Hp) (Q:VK) (e3:XK):Prop
 |mk (v:V) (ss:List Sn) (k:Nat) (_:vs=[v,.int k]) (_:At H (Yo ss) v) (_:ss.length<=900) (_:∀l H',Same H H'->H' l=some (.lst ((endL ss k ss.length).map fun (n:Nat)=>V.int (n:Int)))->Q (.ref l) H')
inductive spSizes (vs:List V) (H:Hp) (Q:VK) (e3:XK):Prop
 |mk (v:V) (ss:List Sn) (m:Nat) (_:vs=[v,.int m]) (_:At H (Yo ss) v) (_:ss.length<=900) (_:m<=16) (_:∀l H',Same H H'->H' l=some (.lst ((szL ss m).map V.int))->Q (.ref l) H')
section
variable {P:Program} {w:World} {K:PySem.W.Frag} {mg:Str->Option Value} {base:Heap}
theorem sc_lack:FnScope ["span", "told", "lines"] ["span", "told"] (qm (top 3)):=fsc
theorem zf0 (T:Txt mg) (f:Addr) (fd:FuncData) (F:Fun K "lack" "lack" (top 3) f fd):FnOk P w K mg base CX0 1 f fd ["span", "told"] spLack:=by
 refine F.ok sc_lack (fun vs H Q E h=>?_) (fun cdv A outer s H vs Q E hr h=>?_)
 ·obtain⟨v,sp,m,ns,rfl,_⟩:=h;rfl
 ·obtain⟨v,sp,m,ns,rfl,j,hm,q⟩:=h;obtain⟨a,rfl,ha⟩:=Yw j;refine⟨_,(qj (psS (i:=2) sc_lack.nd (qx uc (qx uc (qz (qt (K:=K) rfl) (pv 0) qg (fun _ _=>rfl)) (qz (qt (K:=K) rfl) (pv 0) qg (fun _ _=>rfl))) qg))
   (qp (zb (qx uc (qx uc (qz (qt (K:=K) rfl) (pv 0) qg (fun _ _=>rfl)) (q8 (Uk (K:=K) rfl rfl) (by rfl) T.sum PyProof.Rows.boot_sum (qb (zm (jo (K:=K) rfl) (pv 1) (zj (qz (qt (K:=K) rfl) (pv 0) qg (fun _ _=>rfl))) (zj (qz (qt (K:=K) rfl) (pv 0) qg (fun _ _=>rfl)))) qi))) (pv 2))))),?_⟩
  refine⟨a,_,(1:Int),_,rfl,rfl,vI ha,rfl,a,_,(0:Int),_,rfl,rfl,vI ha,rfl,_,_,rfl,rfl,_,_,rfl,rfl,?_⟩;refine⟨a,_,(2:Int),_,rfl,rfl,vI ha,rfl,a,_,(0:Int),_,rfl,rfl,vI ha,rfl,_,rfl,a,_,(1:Int),_,rfl,rfl,vI ha,rfl,_,rfl,m,_,rfl,uI hm,fun t D=>?_⟩;rw [L2.cut_ints];have s1:=tI (o:=.lst ((seg ns sp.f sp.b).map V.int)) D;refine⟨t,_,rfl,uI qd,_,_,rfl,rfl,_,_,rfl,rfl,?_⟩;exact q _ s1
theorem qi6:(["at", "span", "slot"]:List Str).Nodup:=by decide +kernel
noncomputable abbrev qk5:Scope:=jh (yc (nth (zy (top 2)) 0))
theorem qk1:FnScope ["spans", "slot"] ["spans", "slot"] (qm (top 2)):=fsc
theorem qg2 (T:Txt mg) (f:Addr) (fd:FuncData) (F:Fun K "ending" "ending" (top 2) f fd):FnOk P w K mg base CX0 1 f fd ["spans", "slot"] spEnding:=by
 refine F.ok qk1 (fun vs H Q E h=>?_) (fun cdv A outer s H vs Q E hr h=>?_)
 ·obtain⟨v,ss,k,rfl,_⟩:=h;rfl
 ·obtain⟨v,ss,k,rfl,hv,few,q⟩:=h;obtain⟨l,ys,rfl,hl,U⟩:=hv.lst_inv;have j:=Bg (X:=(vz CX0 P w K mg base ["spans", "slot"] "ending" (qm (top 2)) f cdv A outer s H E).nox) (N:=["spans", "slot"]) (N1:=["at", "span", "slot"]) (cap:=[none,none,some 1]) (scope:=qk5) (sc:=qm (top 2)) (s.heap.objs.size+1);have Y:=U.length;rw [aA] at Y;refine⟨_,(qp (zb (jx j rfl (Lf (K:=K) rfl rfl T.enumerate (qb (pv 0) qi)) (fun _ _ _ _=>(Gx (K:=K) (n:=2) rfl rfl (yq (pgC (i:=0) qi6) (yq (pgC (i:=1) qi6) Gv)))) (fun _ _ _ _=>(Og (zp Bb (qz (qt (K:=K) rfl) (pv 1) qg (fun _ _=>rfl)) (qx zg (pv 2) qg) (zr _)))) (fun _ _ _ _=>(pv 0))))),?_⟩;refine⟨l,rfl,⟨_,uI hl⟩,fun m hm=>?_⟩;refine Tu (K:=K) (a:=l) (xs:=ys) (fun i σ1 H2=>∃(c1 S:Option V),σ1=[c1,S,some (.int k)]/\Same H H2/\H2 m=some (.lst ((endL ss k i).map fun (n:Nat)=>V.int (n:Int))))
   ⟨none,none,rfl,tI hm,qd⟩ (fun i σ1 H2 _ ⟨_,_,_,s2,_⟩=>uI (s2 _ _ hl)) ?_ ?_
  ·intro i x σ1 H2 t hi O ht;refine Mm O fun c1 S D=>?_;have eI:=D.1;have s2:=D.2.1;have h2:=D.2.2;clear O D;subst eI;obtain⟨sp,J,ad⟩:=qi1 U hi;have s3:=tI (o:=.tup [.int (i:Int),x]) ht;have k3:=qd (H:=H2) (a:=t) (o:=.tup [.int (i:Int),x]);generalize hH3:upd H2 t (.tup [.int (i:Int),x])=H3 at *;obtain⟨b,rfl,hb⟩:=Yw ((ad.mono s2).mono s3);have e:endL ss k (i+1)=endL ss k i++(if Ly k sp=true then [i] else []):=by
    unfold endL;rw [Aa];rw [J]
   refine⟨t,_,rfl,vI k3,rfl,_,_,rfl,_,_,rfl,rfl,?_⟩;dsimp only [jt];refine⟨b,_,(1:Int),_,rfl,rfl,vI hb,rfl,_,_,rfl,rfl,rfl,_,rfl,?_⟩;have eb:decide (V.int (sp.b:Int)=V.int ((k:Int)+1))=Ly k sp:=by unfold Ly;exact decide_eq_decide.mpr ⟨fun z=>by injection z with z;omega,fun z=>by rw [z];rfl⟩
   rw [eb];refine kh (fun G=>?_) (fun G=>?_)
   ·refine⟨_,s3 _ _ h2,?_,?_⟩
    ·rw [aA]
     have:=qf3 (ss:=ss) (k:=k) (i:=i)
     have:=(bA.mp J).1;exact zf (by omega)
    ·refine⟨_,_,rfl,fun b' o Z=>?_,?_⟩
     ·rw [qu (qw Z hm)];exact s3 _ _ (s2 _ _ Z)
     ·rw [e,kA G,lA];exact qd
   ·refine⟨_,_,rfl,s2.trans s3,?_⟩;rw [e,oA G,xC];exact s3 _ _ h2
  intro σ1 H2 O;refine Mm O fun c1 S D=>?_;refine q m H2 D.2.1 ?_
  have:=D.2.2;rw [←Y] at this;exact this
theorem zk0:(["at", "told", "spans"]:List Str).Nodup:=by decide +kernel
noncomputable abbrev qt8:Scope:=jh (zf9 (Gr (Gr (yc (nth (bodyOf (nth (zy (top 1)) 1)) 0)) 0) 0))
theorem sc_sizes:FnScope ["spans", "many", "told", "slot"] ["spans", "many"] (qm (top 1)):=fsc
theorem qr7 (T:Txt mg) (J:Cal P w K mg base 1 "ending" ["spans", "slot"] spEnding) (U:Cal P w K mg base 1 "lack" ["span", "told"] spLack) (f:Addr) (fd:FuncData) (F:Fun K "sizes" "sizes" (top 1) f fd):FnOk P w K mg base CX0 2 f fd ["spans", "many"] spSizes:=by
 refine F.ok sc_sizes (fun vs H Q E h=>?_) (fun cdv A outer s H vs Q E hr h=>?_)
 ·obtain⟨v,ss,m,rfl,_⟩:=h;rfl
 ·obtain⟨v,ss,m,rfl,hv,few,hm,q⟩:=h;have G:=hr.mono (j:=1) (by decide);have O:=hr.mono (j:=1) (by decide);obtain⟨l,ys,rfl,hl,ry⟩:=hv.lst_inv;have Y:=Bg (X:=(vz CX0 P w K mg base ["spans", "many", "told", "slot"] "sizes" (qm (top 1)) f cdv A outer s H E).nox) (N:=["spans", "many", "told", "slot"]) (N1:=["at", "told", "spans"]) (cap:=[none,some 2,some 0]) (scope:=qt8) (sc:=qm (top 1)) (s.heap.objs.size+1);have lx:=ry.length;rw [aA] at lx;have en:((m:Int)).toNat=m:=by omega
  refine⟨_,(qj (psS (i:=2) sc_sizes.nd (vf qi))
   (qj (j8 cC rfl (vh rfl T.range (qb (pv 1) qi)) (pgN (i:=3) sc_sizes.nd) (qp (yr (xn (K:=K) rfl wD gE iE vg (pv 2) (qb (q8 (qn1 (K:=K) rfl rfl) (by rfl) T.max PyProof.Rows.boot_max (qb (qx Tw (vf (qb qg qi)) (jx Y rfl (jq (K:=K) rfl (qy J G rfl (qb (pv 0) (qb (pv 3) qi)))) (fun _ _ _ _=>(pgC (i:=0) zk0)) (fun _ _ _ _=>jy) (fun _ _ _ _=>(qy U O rfl (qb (qz (zc (K:=K) rfl) (pv 2) (pv 0) (fun _ _=>rfl)) (qb (pv 1) qi)))))) qi)) qi)))))
   (qp (zb (pv 2))))),?_⟩
  refine⟨by show 0<=sizeLine;decide,fun t ht=>?_⟩;have s1:=tI (o:=.lst []) ht;refine⟨(m:Int),rfl,by omega,by omega,?_⟩;rw [en];refine j5 (n:=m) (fun i σ H2=>∃(c:Option V),σ=[some (.ref l),some (.int m),some (.ref t),c]/\Same H H2/\H2 t=some (.lst ((szL ss i).map V.int)))
   ⟨none,rfl,s1,qd⟩ ?_ ?_
  ·intro i σ H2 hi S;refine Dk S fun c D=>?_;have eI:=D.1;have s2:=D.2.1;have h2:=D.2.2;clear S D;subst eI;rw [Int.zero_add];dsimp only [jt];refine⟨.inl ⟨rfl,_,uI h2⟩,by show 1<=sizeLine;decide,fun t1 a7=>?_⟩;have s3:=tI (o:=.lst [.int 1]) a7;have k3:=qd (H:=H2) (a:=t1) (o:=.lst [.int 1]);generalize hH3:upd H2 t1 (.lst [.int 1])=H3 at *;refine⟨.ref l,ss,i,rfl,(hv.mono s2).mono s3,few,fun e H4 s4 h4=>⟨e,rfl,⟨_,uI h4⟩,fun acc Z=>?_⟩⟩;have a4:=s3.trans s4;refine j4 (K:=K) (a:=e) (xs:=(endL ss i ss.length).map fun (n:Nat)=>V.int (n:Int)) (fun j σ1 H5=>∃(c1:Option V),σ1=[c1,some (.ref t),some (.ref l)]/\Same H4 H5/\H5 acc=some (.lst ((((endL ss i ss.length).take j).filterMap fun j=>(ss[j]?).map fun s=>Ak s (szL ss i)).map V.int)))
    ⟨none,rfl,tI Z,qd⟩ (fun j σ1 H5 _ ⟨_,_,s5,_⟩=>uI (s5 _ _ h4)) ?_ ?_
   ·intro j x σ1 H5 hj S;refine Dk S fun c1 D=>?_;have eI:=D.1;have s5:=D.2.1;have h5:=D.2.2;clear S D;subst eI;rw [fA] at hj;obtain⟨a,ha,rfl⟩:=qB.mp hj;obtain⟨alt,sp,a5,_⟩:=zd6 ha;obtain⟨y,hy,ay⟩:=Z3 ry a5;have a3:=a4.trans s5;dsimp only [jt];rw [kA rfl];refine⟨l,_,(a:Int),y,rfl,rfl,uI (a3 _ _ (s2 _ _ hl)),jg hy,y,sp,t,szL ss i,rfl,(ay.mono s2).mono a3,a3 _ _ h2,fun H6 s6=>?_⟩;refine⟨_,s6 _ _ h5,?_,?_⟩
    ·rw [aA]
     have:=qf0 (ss:=ss) (k:=i) (i:=j) (ns:=szL ss i);exact zf (by omega)
    ·refine⟨_,rfl,fun b' o e'=>?_,?_⟩
     ·rw [qu (qw e' Z)];exact s6 _ _ (s5 _ _ e')
     ·rw [ql2 ha a5,lA];exact qd
   ·intro σ1 H5 S;refine Dk S fun c1 D=>?_;have eI:=D.1;have s5:=D.2.1;have h5:=D.2.2;clear S D;subst eI;rw [aA,pC,qg0] at h5;have hfl:=List.length_filter_le (Ly i) ss;refine⟨t1,acc,_,_,rfl,rfl,(s4.trans s5) _ _ k3,h5,tG (zf (by rw [jE,aA,aA];omega)),fun t2 a8=>?_⟩;have ec:[V.int 1]++((ss.filter (Ly i)).map fun s=>Ak s (szL ss i)).map V.int=(1::((ss.filter (Ly i)).map fun s=>Ak s (szL ss i))).map V.int:=rfl;rw [ec];have s6:=tI (o:=.lst ((1::((ss.filter (Ly i)).map fun s=>Ak s (szL ss i))).map V.int)) a8;refine⟨t2,_,rfl,uI qd,by rw [fB];omega,fun M h1 a9=>?_⟩;have eM:=zn6 h1 a9;have a6:=(a4.trans s5).trans s6;refine⟨t,_,_,rfl,rfl,a6 _ _ h2,?_,?_⟩
    ·rw [aA,Al];exact zf (by omega)
    ·refine⟨_,rfl,fun b' o e'=>?_,?_⟩
     ·rw [qu (qw e' ht)];exact a6 _ _ (s2 _ _ e')
     ·rw [eM,szL,lA];exact qd
  ·intro σ H2 S;refine Dk S fun c D=>?_;have eI:=D.1;subst eI;exact (q t H2 D.2.1 D.2.2)
end
inductive spLongest (vs:List V) (H:Hp) (Q:VK) (e3:XK):Prop
 |mk (t:Addr) (ws:List Str) (_:vs=[.ref t]) (_:H t=some (.tup (ws.map V.str))) (_:ws.length<=12) (_:(∀x∈ws,x.length<=12)) (_:∀H',Same H H'->Q (.int (lg ws)) H')
inductive spWidthOf (vs:List V) (H:Hp) (Q:VK) (e3:XK):Prop
 |mk (v:V) (x:Cell) (m:Addr) (ns:List Int) (_:vs=[v,.ref m]) (_:At H x.D v) (_:H m=some (.lst (ns.map V.int))) (_:∀H',Same H H'->Q (.int ((seg ns x.left (x.left+x.w)).sum+((x.w:Int) - 1))) H')
inductive spColSpans (vs:List V) (H:Hp) (Q:VK) (e3:XK):Prop
 |mk (v:V) (R C:Nat) (cs:List Cell) (_:vs=[v]) (_:At H (O9 R C cs) v) (_:Part R C cs) (_:cs.length<=300) (_:∀l H',Same H H'->At H' (Yo (cs.map w5)) (.ref l)->Q (.ref l) H')
inductive spRowSpans (vs:List V) (H:Hp) (Q:VK) (e3:XK):Prop
 |mk (v:V) (R C:Nat) (cs:List Cell) (m:Addr) (ns:List Int) (_:vs=[v,.ref m]) (_:At H (O9 R C cs) v) (_:Part R C cs) (_:cs.length<=300) (_:H m=some (.lst (ns.map V.int))) (_:(∀z∈ns,(1:Int)<=z)) (_:∀l H',Same H H'->At H' (Yo (cs.map (uz ns))) (.ref l)->Q (.ref l) H')
theorem zg3 {H:Hp} {s:Sn} {a:Addr} (h:H a=some (.tup [.int s.f,.int s.b,.int s.n])):At H (Gp s) (.ref a):=.tup h (.cons (.int _) (.cons (.int _) (.cons (.int _) .nil)))
theorem Uy (s:Sn):NoL (Gp s):=.tup fun d hd=>by simp only [gB,zF,or_false] at hd;rcases hd with rfl |rfl |rfl<;>exact .int _
theorem Ga {H:Hp} {cs:List Cell} {ys:List V} {i:Nat} {v:V} (r:AtL H (cs.map Cell.D) ys) (h:ys[i]? = some v):∃x,cs[i]? = some x/\At H x.D v:=by obtain⟨d,hd,ad⟩:=yI r h;rw [fA] at hd;obtain⟨s,hs,rfl⟩:=qB.mp hd;exact⟨s,hs,ad⟩
theorem vm {H:Hp} {x:Cell} {v:V} (h:At H x.D v):∃b F,v=.ref b/\H b=some (.tup [.int x.top,.int x.left,.int x.h,.int x.w,.ref F])/\H F=some (.tup (x.words.map V.str)):=by obtain⟨b,F,ws,rfl,hb,j,G⟩:=Cell.at_inv h;rw [W7 G] at j;exact⟨b,F,rfl,hb,j⟩
theorem qy1 {R C:Nat} {cs:List Cell} (p:Part R C cs) (hR:R<=16) (hC:C<=16):cs.length<=300:=by have h1:=p.few;have h2:R * C<=16 * 16:=dG hR hC;omega
theorem Mi {H H3:Hp} {m q1:Addr} {ss:List Sn} {s:Sn} {zs:List V} (a2:AtL H (ss.map Gp) zs) (s3:Same H H3) (hm:H3 m=some (.lst zs)) (k:H3 q1=some (.tup [.int s.f,.int s.b,.int s.n])) :
  AtL (upd H3 m (.lst (zs++[.ref q1]))) ((ss++[s]).map Gp) (zs++[.ref q1]):=by
 rw [lA];refine AtL.monoT (zI (a2.mono s3) (zg3 k)) (fun d hd=>?_) (cJ hm);rcases rB.mp hd with hd |hd
 ·obtain⟨s,_,rfl⟩:=xA.mp hd;exact Uy s
 ·rw [lF.mp hd];exact Uy s
theorem jw {α β:Type} {f:α->β} {xs:List α} {i:Nat} {x:α} (h:xs[i]? = some x):(xs.take (i+1)).map f=(xs.take i).map f++[f x]:=by rw [qD,h,lA];rfl
section
variable {P:Program} {w:World} {K:PySem.W.Frag} {mg:Str->Option Value} {base:Heap}
theorem qb7:(["word"]:List Str).Nodup:=by decide +kernel
noncomputable abbrev lwordsScope:Scope:=jh (Gr (yc (nth (zy (top 9)) 0)) 0)
theorem Z6:FnScope ["words"] ["words"] (qm (top 9)):=fsc
theorem Z1 (T:Txt mg) (f:Addr) (fd:FuncData) (F:Fun K "longest" "longest" (top 9) f fd):FnOk P w K mg base CX0 1 f fd ["words"] spLongest:=by
 refine F.ok Z6 (fun vs H Q E h=>?_) (fun cdv A outer s H vs Q E hr h=>?_)
 ·obtain⟨t,ws,rfl,_⟩:=h;rfl
 ·obtain⟨t,ws,rfl,ht,few,each,q⟩:=h;have D:∀{X:Cx},CompOk X lwordsScope (Ih X.env.cells lwordsScope.names []) ["word"] [none]:=G6;refine⟨_,(qp (zb (zf2 (K:=K) rfl rfl rfl T.max (qb (jx D rfl (By (K:=K) rfl (pv 0)) (fun _ _ _ _=>(pgC (i:=0) qb7)) (fun _ _ _ _=>jy) (fun _ _ _ _=>(q8 (ji (K:=K) rfl) (by rfl) T.len vB (qb (pv 0) qi)))) qi)))),?_⟩;refine⟨t,rfl,⟨_,vI ht⟩,fun acc G=>?_⟩;refine Ij (K:=K) (a:=t) (xs:=ws.map V.str) (fun j σ1 O=>∃(c1:Option V),σ1=[c1]/\Same H O/\O acc=some (.lst (((ws.take j).map (fun x=>(x.length:Int))).map V.int)))
   ⟨none,rfl,tI G,qd⟩ (fun j σ1 O _ ⟨_,_,s5,_⟩=>vI (s5 _ _ ht)) ?_ ?_
  ·intro j x σ1 O hj S;refine Dk S fun c1 J=>?_;have eI:=J.1;have s5:=J.2.1;have U:=J.2.2;clear S J;subst eI;rw [fA] at hj;obtain⟨x,hx,rfl⟩:=qB.mp hj;have hjl:=(bA.mp hx).1
   have:=each x (jA hx)
   have:=few;dsimp only [jt];rw [kA rfl];refine⟨_,rfl,Dz (by omega),_,U,zf (by rw [aA,aA,cB];omega),_,rfl,fun b o e=>?_,?_⟩
   ·rw [qu (qw e G)];exact s5 _ _ e
   ·rw [qd,jw hx,lA];rfl
  intro σ1 O S;refine Dk S fun c1 J=>?_;have s5:=J.2.1;have U:=J.2.2;clear S J;rw [aA,pC] at U;refine⟨acc,_,rfl,uI U,fun Mx Y=>?_⟩;have Z:=zl1 Y;subst Z;exact q O s5
theorem sc_width_of:FnScope ["cell", "widths", "lines"] ["cell", "widths"] (qm (top 10)):=fsc
theorem W2 (T:Txt mg) (f:Addr) (fd:FuncData) (F:Fun K "width_of" "width_of" (top 10) f fd):FnOk P w K mg base CX0 1 f fd ["cell", "widths"] spWidthOf:=by
 refine F.ok sc_width_of (fun vs H Q E h=>?_) (fun cdv A outer s H vs Q E hr h=>?_)
 ·obtain⟨v,x,m,ns,rfl,_⟩:=h;rfl
 ·obtain⟨v,x,m,ns,rfl,j,hm,q⟩:=h;obtain⟨b,wb,rfl,hb,hwb⟩:=vm j;refine⟨_,(qj (psS (i:=2) sc_width_of.nd (qx uc (qz (qt (K:=K) rfl) (pv 0) qg (fun _ _=>rfl)) qg))
   (qp (zb (qx zg (q8 (Uk (K:=K) rfl rfl) (by rfl) T.sum PyProof.Rows.boot_sum (qb (zm (jo (K:=K) rfl) (pv 1) (zj (qz (qt (K:=K) rfl) (pv 0) qg (fun _ _=>rfl))) (zj (qx zg (qz (qt (K:=K) rfl) (pv 0) qg (fun _ _=>rfl)) (qz (qt (K:=K) rfl) (pv 0) qg (fun _ _=>rfl))))) qi)) (pv 2))))),?_⟩
  refine⟨b,_,(3:Int),_,rfl,rfl,vI hb,rfl,_,_,rfl,rfl,?_⟩;refine⟨b,_,(1:Int),_,rfl,rfl,vI hb,rfl,_,rfl,b,_,(1:Int),_,rfl,rfl,vI hb,rfl,b,_,(3:Int),_,rfl,rfl,vI hb,rfl,_,_,rfl,rfl,((x.left:Int)+(x.w:Int)),rfl,m,_,rfl,uI hm,fun t D=>?_⟩;have G:Ax (ns.map V.int) (some (x.left:Int)) (some ((x.left:Int)+(x.w:Int)))=(seg ns x.left (x.left+x.w)).map V.int:=L2.cut_ints ns x.left (x.left+x.w);rw [G];refine⟨t,_,rfl,uI qd,_,_,rfl,rfl,?_⟩;exact q _ (tI D)
theorem zf8:(["cell"]:List Str).Nodup:=by decide +kernel
noncomputable abbrev colsScope:Scope:=jh (yc (nth (zy (top 6)) 0))
theorem Lg:FnScope ["table"] ["table"] (qm (top 6)):=fsc
theorem Li (T:Txt mg) (G:Cal P w K mg base 1 "longest" ["words"] spLongest) (f:Addr) (fd:FuncData) (F:Fun K "column_spans" "column_spans" (top 6) f fd):FnOk P w K mg base CX0 2 f fd ["table"] spColSpans:=by
 refine F.ok Lg (fun vs H Q E h=>?_) (fun cdv A outer s H vs Q E hr h=>?_)
 ·obtain⟨v,R,C,cs,rfl,_⟩:=h;rfl
 ·obtain⟨v,R,C,cs,rfl,ht,tl,few,q⟩:=h;have D:=hr.mono (j:=1) (by decide);obtain⟨p,l,ys,rfl,hp,hl,ry⟩:=Dm ht;have J:∀{X:Cx},CompOk X colsScope (Ih X.env.cells colsScope.names []) ["cell"] [none]:=G6;have lx:=ry.length;rw [aA] at lx;refine⟨_,(qp (zb (jx J rfl (jq (K:=K) rfl (qz (qt (K:=K) rfl) (pv 0) qg (fun _ _=>rfl))) (fun _ _ _ _=>(pgC (i:=0) zf8)) (fun _ _ _ _=>jy) (fun _ _ _ _=>(yu (qb (qz (qt (K:=K) rfl) (pv 0) qg (fun _ _=>rfl)) (qb (qx zg (qz (qt (K:=K) rfl) (pv 0) qg (fun _ _=>rfl)) (qz (qt (K:=K) rfl) (pv 0) qg (fun _ _=>rfl))) (qb (qy G D rfl (qb (qz (qt (K:=K) rfl) (pv 0) qg (fun _ _=>rfl)) qi)) qi)))))))),?_⟩;refine⟨p,_,(2:Int),_,rfl,rfl,vI hp,rfl,l,rfl,⟨_,uI hl⟩,fun m hm=>?_⟩;refine j4 (K:=K) (a:=l) (xs:=ys) (fun i σ1 H2=>∃(c1:Option V) (zs:List V),σ1=[c1]/\Same H H2/\H2 m=some (.lst zs)/\AtL H2 (((cs.take i).map w5).map Gp) zs)
   ⟨none,[],rfl,tI hm,qd,.nil⟩ (fun i σ1 H2 _ ⟨_,_,_,s2,_,_⟩=>uI (s2 _ _ hl)) ?_ ?_
  ·intro i x σ1 H2 hi U;refine Mm U fun c1 zs O=>?_;have eI:=O.1;have s2:=O.2.1;have h2:=O.2.2.1;have a2:=O.2.2.2;clear U O;subst eI;obtain⟨X,Y,ad⟩:=Ga ry hi;have hiL:i < cs.length:=(bA.mp Y).1;obtain⟨b,wb,rfl,hb,Z⟩:=vm (ad.mono s2);have fx:=tl.fit X (jA Y);dsimp only [jt];rw [kA rfl];refine⟨b,_,(1:Int),_,rfl,rfl,vI hb,rfl,b,_,(1:Int),_,rfl,rfl,vI hb,rfl,b,_,(3:Int),_,rfl,rfl,vI hb,rfl,_,_,rfl,rfl,b,_,(4:Int),_,rfl,rfl,vI hb,rfl,wb,X.words,rfl,Z,fx.words.few,fun y hy=>(fx.words.each y hy).hi,fun H3 s3=>⟨by show 3<=sizeLine;decide,fun q1 a3=>?_⟩⟩;have et:[V.int (X.left:Int),V.int ((X.left:Int)+(X.w:Int)),V.int ((lg X.words:Nat):Int)]=[V.int ((w5 X).f:Int),V.int ((w5 X).b:Int),V.int ((w5 X).n:Int)]:=rfl;dsimp only at et ⊢;rw [et];have s4:=tI (o:=.tup [V.int ((w5 X).f:Int),V.int ((w5 X).b:Int),V.int ((w5 X).n:Int)]) a3;have k4:=qd (H:=H3) (a:=q1) (o:=.tup [V.int ((w5 X).f:Int),V.int ((w5 X).b:Int),V.int ((w5 X).n:Int)]);generalize hH4:upd H3 q1 (.tup [V.int ((w5 X).f:Int),V.int ((w5 X).b:Int),V.int ((w5 X).n:Int)])=H4 at *;have S:=s3.trans s4;refine⟨zs,S _ _ h2,?_,?_⟩
   ·have:=a2.length;rw [aA,aA,cB] at this;exact zf (by omega)
   ·refine⟨_,zs++[.ref q1],rfl,fun b' o e=>?_,qd,?_⟩
    ·rw [qu (qw e hm)];exact S _ _ (s2 _ _ e)
    ·rw [jw (f:=w5) Y];exact Mi a2 S (S _ _ h2) k4
  ·intro σ1 H2 U;refine Mm U fun c1 zs O=>?_;have s2:=O.2.1;have h2:=O.2.2.1;have a2:=O.2.2.2;rw [←lx,pC] at a2;exact q m H2 s2 (.lst h2 a2)
theorem zd8:(["cell", "widths"]:List Str).Nodup:=by decide +kernel
noncomputable abbrev qm9:Scope:=jh (yc (nth (zy (top 7)) 0))
theorem Tv:FnScope ["table", "widths"] ["table", "widths"] (qm (top 7)):=fsc
theorem Q9 (T:Txt mg) (O:Cal P w K mg base 1 "filled" ["words", "width"] (spFilled K)) (G:Cal P w K mg base 1 "width_of" ["cell", "widths"] spWidthOf) (f:Addr) (fd:FuncData) (F:Fun K "row_spans" "row_spans" (top 7) f fd):FnOk P w K mg base CX0 2 f fd ["table", "widths"] spRowSpans:=by
 refine F.ok Tv (fun vs H Q E h=>?_) (fun cdv A outer s H vs Q E hr h=>?_)
 ·obtain⟨v,R,C,cs,m,ns,rfl,_⟩:=h;rfl
 ·obtain⟨v,R,C,cs,mw,ns,rfl,ht,tl,few,a3,pos,q⟩:=h;have J:=hr.mono (j:=1) (by decide);have D:=hr.mono (j:=1) (by decide);obtain⟨p,l,ys,rfl,hp,hl,ry⟩:=Dm ht;have S:=Bg (X:=(vz CX0 P w K mg base ["table", "widths"] "row_spans" (qm (top 7)) f cdv A outer s H E).nox) (N:=["table", "widths"]) (N1:=["cell", "widths"]) (cap:=[none,some 1]) (scope:=qm9) (sc:=qm (top 7)) (s.heap.objs.size+1);have lx:=ry.length;rw [aA] at lx;refine⟨_,(qp (zb (jx S rfl (jq (K:=K) rfl (qz (qt (K:=K) rfl) (pv 0) qg (fun _ _=>rfl))) (fun _ _ _ _=>(pgC (i:=0) zd8)) (fun _ _ _ _=>jy) (fun _ _ _ _=>(yu (qb (qz (qt (K:=K) rfl) (pv 0) qg (fun _ _=>rfl)) (qb (qx zg (qz (qt (K:=K) rfl) (pv 0) qg (fun _ _=>rfl)) (qz (qt (K:=K) rfl) (pv 0) qg (fun _ _=>rfl))) (qb (q8 (je (K:=K) rfl) (by rfl) T.len vB (qb (qy O J rfl (qb (qz (qt (K:=K) rfl) (pv 0) qg (fun _ _=>rfl)) (qb (qy G D rfl (qb (pv 0) (qb (pv 1) qi))) qi))) qi)) qi)))))))),?_⟩;refine⟨p,_,(2:Int),_,rfl,rfl,vI hp,rfl,l,rfl,⟨_,uI hl⟩,fun m hm=>?_⟩;refine j4 (K:=K) (a:=l) (xs:=ys) (fun i σ1 H2=>∃(c1:Option V) (zs:List V),σ1=[c1,some (.ref mw)]/\Same H H2/\H2 m=some (.lst zs)/\AtL H2 (((cs.take i).map (uz ns)).map Gp) zs)
   ⟨none,[],rfl,tI hm,qd,.nil⟩ (fun i σ1 H2 _ ⟨_,_,_,s2,_,_⟩=>uI (s2 _ _ hl)) ?_ ?_
  ·intro i x σ1 H2 hi hI;refine Mm hI fun c1 zs U=>?_;have eI:=U.1;have s2:=U.2.1;have h2:=U.2.2.1;have a2:=U.2.2.2;clear hI U;subst eI;obtain⟨X,hX,ad⟩:=Ga ry hi;have hiL:i < cs.length:=(bA.mp hX).1;have Z:=ad.mono s2;obtain⟨b,wb,rfl,hb,a4⟩:=vm Z;have fx:=tl.fit X (jA hX);have ew:=qt4 pos fx.w1;dsimp only [jt];rw [kA rfl];refine⟨b,_,(0:Int),_,rfl,rfl,vI hb,rfl,b,_,(0:Int),_,rfl,rfl,vI hb,rfl,b,_,(2:Int),_,rfl,rfl,vI hb,rfl,_,_,rfl,rfl,b,_,(4:Int),_,rfl,rfl,vI hb,rfl,.ref b,X,mw,ns,rfl,Z,s2 _ _ a3,fun H3 s3=>?_⟩;refine⟨wb,X.words,Qu ns X,by rw [←ew];rfl,vI (s3 _ _ a4),fx.words.few,fun y hy=>(fx.words.each y hy).hi,fun fl H5 s5 _ h5=>⟨fl,_,rfl,.inl (uI h5),by show 3<=sizeLine;decide,fun q1 a5=>?_⟩⟩;have et:[V.int (X.top:Int),V.int ((X.top:Int)+(X.h:Int)),V.int ((((xx (Qu ns X) [] X.words).map fun g=>V.str (v6 g)).length:Nat):Int)]=[V.int ((uz ns X).f:Int),V.int ((uz ns X).b:Int),V.int ((uz ns X).n:Int)]:=by
    rw [aA];rfl
   dsimp only at et ⊢;rw [et];have s6:=tI (o:=.tup [V.int ((uz ns X).f:Int),V.int ((uz ns X).b:Int),V.int ((uz ns X).n:Int)]) a5;have k6:=qd (H:=H5) (a:=q1) (o:=.tup [V.int ((uz ns X).f:Int),V.int ((uz ns X).b:Int),V.int ((uz ns X).n:Int)]);generalize hH6:upd H5 q1 (.tup [V.int ((uz ns X).f:Int),V.int ((uz ns X).b:Int),V.int ((uz ns X).n:Int)])=H6 at *;have Y:=(s3.trans s5).trans s6;refine⟨zs,Y _ _ h2,?_,?_⟩
   ·have:=a2.length;rw [aA,aA,cB] at this;exact zf (by omega)
   ·refine⟨_,zs++[.ref q1],rfl,fun b' o e=>?_,qd,?_⟩
    ·rw [qu (qw e hm)];exact Y _ _ (s2 _ _ e)
    ·rw [jw (f:=uz ns) hX];exact Mi a2 Y (Y _ _ h2) k6
  ·intro σ1 H2 hI;refine Mm hI fun c1 zs U=>?_;have s2:=U.2.1;have h2:=U.2.2.1;have a2:=U.2.2.2;rw [←lx,pC] at a2;exact q m H2 s2 (.lst h2 a2)
end
noncomputable def qb0 (C:Nat) (cs:List Cell):List Int:=szL (cs.map w5) C
noncomputable def ze7 (R C:Nat) (cs:List Cell):List Int:=szL (cs.map (uz (qb0 C cs))) R
open SZ
inductive spLayout (vs:List V) (H:Hp) (Q:VK) (e3:XK):Prop
 |mk (v:V) (R C:Nat) (cs:List Cell) (_:vs=[v]) (_:At H (O9 R C cs) v) (_:Part R C cs) (_:R<=16) (_:C<=16) (_:∀p wl hl H',Same H H'->H' p=some (.tup [.ref wl,.ref hl])->H' wl=some (.lst ((qb0 C cs).map V.int))->H' hl=some (.lst ((ze7 R C cs).map V.int))->Q (.ref p) H')
section
variable {P:Program} {w:World} {K:PySem.W.Frag} {mg:Str->Option Value} {base:Heap}
theorem sc_layout:FnScope ["table", "widths", "heights"] ["table"] (qm (top 8)):=fsc
theorem qc7 (U:Cal P w K mg base 2 "sizes" ["spans", "many"] spSizes) (G:Cal P w K mg base 2 "column_spans" ["table"] spColSpans) (S:Cal P w K mg base 2 "row_spans" ["table", "widths"] spRowSpans) (f:Addr) (fd:FuncData) (F:Fun K "layout" "layout" (top 8) f fd):FnOk P w K mg base CX0 3 f fd ["table"] spLayout:=by
 refine F.ok sc_layout (fun vs H Q E h=>?_) (fun cdv A outer s H vs Q E hr h=>?_)
 ·obtain⟨v,R,C,cs,rfl,_⟩:=h;rfl
 ·obtain⟨v,R,C,cs,rfl,ht,tl,hR,hC,q⟩:=h;have O:=hr.mono (j:=2) (by decide);have D:=hr.mono (j:=2) (by decide);have J:=hr.mono (j:=2) (by decide);have few:=qy1 tl hR hC;obtain⟨p,l,ys,rfl,hp,hl,ry⟩:=Dm ht;refine⟨_,(qj (psS (i:=1) sc_layout.nd (qy U O rfl (qb (qy G D rfl (qb (pv 0) qi)) (qb (qz (qt (K:=K) rfl) (pv 0) qg (fun _ _=>rfl)) qi))))
   (qj (psS (i:=2) sc_layout.nd (qy U O rfl (qb (qy S J rfl (qb (pv 0) (qb (pv 1) qi))) (qb (qz (qt (K:=K) rfl) (pv 0) qg (fun _ _=>rfl)) qi))))
   (qp (zb (yu (qb (pv 1) (qb (pv 2) qi))))))),?_⟩
  refine⟨.ref p,R,C,cs,rfl,ht,tl,few,fun l1 H1 s1 a1=>⟨p,_,(1:Int),_,rfl,rfl,vI (s1 _ _ hp),rfl,.ref l1,cs.map w5,C,rfl,a1,by rw [aA];omega,hC,fun w1 H2 s2 h2=>?_⟩⟩;have Y:=s1.trans s2;refine⟨.ref p,R,C,cs,w1,szL (cs.map w5) C,rfl,ht.mono Y,tl,few,h2,zk9 _ _,fun l3 H3 s3 a3=>⟨p,_,(0:Int),_,rfl,rfl,vI (s3 _ _ (Y _ _ hp)),rfl,.ref l3,cs.map (uz (szL (cs.map w5) C)),R,rfl,a3,by rw [aA];omega,hR,fun w4 H4 s4 h4=>?_⟩⟩;have Z:=s3.trans s4;refine⟨by show 2<=sizeLine;decide,fun p5 a4=>?_⟩;have s5:=tI (o:=.tup [.ref w1,.ref w4]) a4;exact q p5 w1 w4 _ ((Y.trans Z).trans s5) qd (s5 _ _ (Z _ _ h2)) (s5 _ _ h4)
end
noncomputable def v7 (ns:List Nat) (n:Nat):List V:=(List.range n).map fun k=>V.int ((ln ns k:Nat):Int)
theorem Ql (ns:List Nat) (n:Nat):(v7 ns n).length=n:=by simp [v7]
theorem qo2 {ns:List Nat} {n k:Nat} (h:k < n):(v7 ns n)[k]? = some (V.int ((ln ns k:Nat):Int)):=by unfold v7;rw [fA,fD h];rfl
theorem Bm (ns:List Nat) (n:Nat):v7 ns (n+1)=v7 ns n++[V.int ((ln ns n:Nat):Int)]:=by unfold v7;rw [uD,lA];rfl
inductive spLines (vs:List V) (H:Hp) (Q:VK) (e3:XK):Prop
 |mk (a:Addr) (ns:List Nat) (_:vs=[.ref a]) (_:H a=some (.lst (ns.map fun (n:Nat)=>V.int (n:Int)))) (_:ns.length<=16) (_:∀l H',Same H H'->H l=none->H' l=some (.lst (v7 ns (ns.length+1)))->Q (.ref l) H')
inductive spPut (K:PySem.W.Frag) (vs:List V) (H:Hp) (Q:VK) (e3:XK):Prop
 |mk (g:Addr) (n m:Nat) (G:Gd) (as:List Addr) (i j:Nat) (v:V) (ss:List Str) (_:vs=[.ref g,.int (i:Int),.int (j:Int),v]) (_:GridH H g n m G as) (_:i < n) (_:j+ss.length<=m) (_:((∃a,v=.ref a/\H a=some (.lst (ss.map V.str))/\a∉as)\/(∃x,v=.str x/\ss=wy x))) (_:∀H',SameX as H H'->GridH H' g n m (Ia G i j ss) as->Q .non H')
section
variable {P:Program} {w:World} {K:PySem.W.Frag} {mg:Str->Option Value} {base:Heap}
theorem sc_line_places:FnScope ["told", "found", "size"] ["told"] (qm (top 13)):=fsc
theorem Lq (T:Txt mg) (f:Addr) (fd:FuncData) (F:Fun K "line_places" "line_places" (top 13) f fd):FnOk P w K mg base CX0 1 f fd ["told"] spLines:=by
 refine F.ok sc_line_places (fun vs H Q E h=>?_) (fun cdv A outer s H vs Q E hr h=>?_)
 ·obtain⟨a,ns,rfl,_⟩:=h;rfl
 ·obtain⟨a,ns,rfl,ha,few,q⟩:=h;refine⟨_,(qj (psS (i:=1) sc_line_places.nd (vf (qb qg qi)))
   (qj (j8 cC rfl (jq (K:=K) rfl (pv 0)) (pgN (i:=2) sc_line_places.nd) (qp (yr (xn (K:=K) rfl wD gE iE vg (pv 1) (qb (qx zg (qx zg (qz (zc (K:=K) rfl) (pv 1) (uo ym qg) (fun _ _=>rfl)) (pv 2)) qg) qi)))))
   (qp (zb (pv 1))))),?_⟩
  refine⟨by show 1<=sizeLine;decide,fun t G=>?_⟩;have s1:=tI (o:=.lst [V.int 0]) G;have k1:=qd (H:=H) (a:=t) (o:=.lst [V.int 0]);have j:=s1 _ _ ha;have S:a≠t:=qw ha G;generalize hH1:upd H t (.lst [V.int 0])=H1 at *;refine⟨a,rfl,⟨_,uI j⟩,?_⟩;refine Gi (K:=K) (a:=a) (xs:=ns.map fun (n:Nat)=>V.int (n:Int)) (fun i σ H2=>∃(c:Option V),σ=[some (.ref a),some (.ref t),c]/\Same H H2/\H2 a=some (.lst (ns.map fun (n:Nat)=>V.int (n:Int)))/\H2 t=some (.lst (v7 ns (i+1))))
   ⟨none,rfl,s1,j,by rw [k1];simp [v7,Dc]⟩ (fun i σ H2 _ ⟨_,_,_,z,_⟩=>uI z) ?_ ?_
  ·intro i x σ H2 hi O;refine Dk O fun c D=>?_;have U:=D.1;have s2:=D.2.1;have h2:=D.2.2.1;have k2:=D.2.2.2;clear O D;subst U;rw [fA] at hi;obtain⟨n,hn,rfl⟩:=qB.mp hi;have hl:=(bA.mp hn).1;have e:=qj1 (ns:=ns) (k:=i) hl;have en:ns[i]=n:=by rw [gA hl] at hn;exact nB hn
   have J:atI (v7 ns (i+1)) (-1)=some (V.int ((ln ns i:Nat):Int)):=by rw [Bm];exact Gk _ _
   refine⟨.inl ⟨rfl,_,uI k2⟩,_,rfl,t,_,(-1:Int),_,rfl,rfl,uI k2,J,_,_,rfl,rfl,_,_,rfl,rfl,t,_,_,rfl,rfl,k2,zf (by rw [Ql];omega),?_⟩;refine⟨_,rfl,fun b o z=>?_,?_,?_⟩
   ·rw [qu (qw z G)];exact s2 _ _ z
   ·rw [qu S];exact h2
   ·rw [qd,Bm ns (i+1)]
    have:((ln ns i:Nat):Int)+(n:Int)+1=((ln ns (i+1):Nat):Int):=by omega
    show some (HO.lst (_++[V.int (((ln ns i:Nat):Int)+(n:Int)+1)]))=_;rw [this]
  ·rintro σ H2 ⟨c,rfl,s2,_,k2⟩;rw [aA] at k2;exact (q _ _ s2 G k2)
theorem sc_put:FnScope ["signs", "row", "column", "some", "at", "sign"] ["signs", "row", "column", "some"] (qm (top 17)):=fsc
theorem zn8 (T:Txt mg) (f:Addr) (fd:FuncData) (F:Fun K "put" "put" (top 17) f fd):FnOk P w K mg base CX0 1 f fd ["signs", "row", "column", "some"] (spPut K):=by
 refine F.ok sc_put (fun vs H Q E h=>?_) (fun cdv A outer s H vs Q E hr h=>?_)
 ·obtain⟨g,n,m,G,as,i,j,v,ss,rfl,_⟩:=h;rfl
 ·obtain⟨g,n,m,G,as,i,j,v,ss,rfl,Y,hi,hj,hv,q⟩:=h;refine⟨_,(qp (j8 cC rfl (Ye (K:=K) rfl rfl T.enumerate (qb (pv 3) qi)) (Gx (K:=K) (n:=2) rfl rfl (yq (pgN (i:=4) sc_put.nd) (yq (pgN (i:=5) sc_put.nd) Gv))) (qp (qy9 (pv 5) (qy8 (qz (zc (K:=K) rfl) (pv 0) (pv 1) (fun _ _=>rfl)) (qx zg (pv 2) (pv 4)) set_list))))),?_⟩;obtain⟨D,J,hrow⟩:=Y.ex hi;have O:atI (as.map V.ref) (i:Int)=some (.ref D):=jg (by rw [fA,J];rfl);have step:∀(k:Nat) (x:Str) (H2:Hp),SameX as H H2->GridH H2 g n m (Ia G i j (ss.take k)) as->ss[k]? = some x->∀t,H2 t=none->∃H3,upd H2 t (.tup [.int (k:Int),.str x])=H3/\H3 g=some (.lst (as.map V.ref)) /\
    H3 D=some (.lst (G7 m (Ia G i j (ss.take k) i)))/\ixN (G7 m (Ia G i j (ss.take k) i)).length ((j:Int)+(k:Int))=some (j+k) /\
    SameX as H (upd H3 D (.lst ((G7 m (Ia G i j (ss.take k) i)).set (j+k) (.str x))))/\GridH (upd H3 D (.lst ((G7 m (Ia G i j (ss.take k) i)).set (j+k) (.str x)))) g n m (Ia G i j (ss.take (k+1))) as:=by
   intro k x H2 s2 g2 hk t S;have Z:=(bA.mp hk).1;have s3:=tI (o:=.tup [.int (k:Int),.str x]) S;refine⟨_,rfl,?_⟩;generalize upd H2 t (.tup [.int (k:Int),.str x])=H3 at *;have g3:=g2.mono s3;refine⟨g3.top,g3.row i D J,?_,(s2.trans (.of s3)).trans (.put (jA J)),?_⟩
   ·rw [Dt]
    have:(j:Int)+(k:Int)=((j+k:Nat):Int):=by omega
    rw [this];exact zb4 (by omega)
   ·have:=g3.put1 (c:=j+k) J x;rw [pD Z,qd7,cB,fH (by omega)];have ex:ss[k]=x:=by rw [gA Z] at hk;exact nB hk
    rw [ex];exact this
  have g0:GridH H g n m (Ia G i j (ss.take 0)) as:=by rw [List.take_zero,qx3];exact Y
  rcases hv with ⟨a,rfl,ha,U⟩ |⟨x,rfl,rfl⟩
  ·refine .inl ⟨a,rfl,⟨_,uI ha⟩,?_⟩;refine Iv (K:=K) (a:=a) (xs:=ss.map V.str) (fun k σ H2=>∃(c d:Option V),σ=[some (.ref g),some (.int (i:Int)),some (.int (j:Int)),some (.ref a),c,d]/\SameX as H H2/\GridH H2 g n m (Ia G i j (ss.take k)) as)
    ⟨none,none,rfl,.refl _ _,g0⟩ (fun k σ H2 _ ⟨_,_,_,z,_⟩=>uI (z _ _ ha U)) ?_ ?_
   ·rintro k y σ H2 t hk ⟨c,d,rfl,s2,g2⟩ S;rw [fA] at hk;obtain⟨x,hx,rfl⟩:=qB.mp hk;refine⟨t,_,rfl,vI qd,rfl,_,_,rfl,_,_,rfl,rfl,?_⟩;obtain⟨H3,e3,q1,q2,q3,q4,q5⟩:=step k x H2 s2 g2 hx t S;rw [e3];exact⟨g,_,_,.ref D,rfl,rfl,uI q1,O,_,_,rfl,rfl,D,_,_,_,rfl,rfl,q2,q3,_,_,rfl,q4,q5⟩
   ·rintro σ H2 ⟨c,d,rfl,s2,g2⟩;rw [aA,pC] at g2;exact q _ s2 g2
  ·refine .inr ⟨x,rfl,?_⟩;refine qk9 (x:=x) (fun k σ H2=>∃(c d:Option V),σ=[some (.ref g),some (.int (i:Int)),some (.int (j:Int)),some (.str x),c,d]/\SameX as H H2/\GridH H2 g n m (Ia G i j ((wy x).take k)) as)
    ⟨none,none,rfl,.refl _ _,g0⟩ ?_ ?_
   ·rintro k y σ H2 t hk ⟨c,d,rfl,s2,g2⟩ S;refine⟨t,_,rfl,vI qd,rfl,_,_,rfl,_,_,rfl,rfl,?_⟩;obtain⟨H3,e3,q1,q2,q3,q4,q5⟩:=step k ⟨#[y]⟩ H2 s2 g2 (Qo hk) t S;rw [e3];exact⟨g,_,_,.ref D,rfl,rfl,uI q1,O,_,_,rfl,rfl,D,_,_,_,rfl,rfl,q2,q3,_,_,rfl,q4,q5⟩
   ·rintro σ H2 ⟨c,d,rfl,s2,g2⟩;have l:=uw x;rw [uB (by rw [l];exact dA _)] at g2;exact q _ s2 g2
end
end KL
namespace KL
open PySem L2 GT PyProof.Rows
noncomputable def Ir (ns:List Nat) (p q:Nat):List V:=(List.range (q+1 - p)).map fun d=>V.int ((ln ns (p+d):Nat):Int)
theorem qv4 (ns:List Nat) (p q:Nat):(Ir ns p q).length=q+1 - p:=by simp [Ir]
theorem qe9 {ns:List Nat} {p q d:Nat} (h:d < q+1 - p):(Ir ns p q)[d]? = some (V.int ((ln ns (p+d):Nat):Int)):=by unfold Ir;rw [fA,fD h];rfl
theorem yf {ns:List Nat} {p q:Nat} (h:p<=q):atI (Ir ns p q) 0=some (V.int ((ln ns p:Nat):Int)):=jg (j:=0) (qe9 (d:=0) (by omega))
theorem Gh {ns:List Nat} {p q:Nat} (h:p<=q):atI (Ir ns p q) (-1)=some (V.int ((ln ns q:Nat):Int)):=by
 have e:q+1 - p=(q - p)+1:=by omega
 unfold Ir;rw [e,uD,lA]
 have:p+(q - p)=q:=by omega
 rw [show ([q - p].map fun d=>V.int ((ln ns (p+d):Nat):Int))=[V.int ((ln ns q:Nat):Int)] by rw [aC,this];rfl];exact Gk _ _
theorem qg7 (ns:List Nat) (p q:Nat):(Ir ns p q).all N6=true:=by rw [kF];intro v j;obtain⟨d,_,rfl⟩:=xA.mp j;rfl
theorem zc5 {ns:List Nat} {p q x:Nat} (hq:q<=ns.length) (h1:ln ns p<=x) (h2:x<=ln ns q):inV (.int (x:Int)) (Ir ns p q)=onL ns x:=by
 rw [bI,onL_iff];unfold inV;rw [List.any_eq_true];constructor
 ·rintro⟨v,j,e⟩;obtain⟨d,hd,rfl⟩:=xA.mp j;have hd:=yD.mp hd;have e:(((ln ns (p+d):Nat):Int) == (x:Int))=true:=e;have e:=eq_of_beq e;exact⟨p+d,by omega,by omega⟩
 ·rintro⟨k,hk,e⟩;rw [e] at h1 h2;have h1:=ln_le_iff.mp h1;have h2:=ln_le_iff.mp h2;refine⟨V.int ((ln ns k:Nat):Int),xA.mpr ⟨k - p,yD.mpr (by omega),by rw [show p+(k - p)=k by omega]⟩,?_⟩;show (((ln ns k:Nat):Int) == (x:Int))=true;rw [e];exact beq_self_eq_true _
theorem Xg:Str.ofString "+" = Gq:=by decide +kernel
theorem qh0:Str.ofString "-" = Oj:=by decide +kernel
theorem za8:Str.ofString "|" = qq0:=by decide +kernel
theorem blank_eq:Str.ofString " " = vy:=by decide +kernel
inductive spBorder (vs:List V) (H:Hp) (Q:VK) (e3:XK):Prop
 |mk (a:Addr) (ns:List Nat) (p q:Nat) (sg:Str) (_:vs=[.ref a,.str sg]) (_:H a=some (.lst (Ir ns p q))) (_:p<=q) (_:q<=ns.length) (_:ln ns q<=500) (_:∀l H',Same H H'->H l=none->H' l=some (.lst ((Bq ns p q sg).map V.str))->Q (.ref l) H')
section
variable {P:Program} {w:World} {K:PySem.W.Frag} {mg:Str->Option Value} {base:Heap}
theorem Oq:(["place", "sign", "lines"]:List Str).Nodup:=by decide +kernel
noncomputable abbrev W9:Scope:=jh (yc (nth (zy (top 15)) 0))
theorem qk6:FnScope ["lines", "sign"] ["lines", "sign"] (qm (top 15)):=fsc
theorem qd3 (T:Txt mg) (f:Addr) (fd:FuncData) (F:Fun K "border" "border" (top 15) f fd):FnOk P w K mg base CX0 1 f fd ["lines", "sign"] spBorder:=by
 refine F.ok qk6 (fun vs H Q E h=>?_) (fun cdv A outer s H vs Q E hr h=>?_)
 ·obtain⟨a,ns,p,q,sg,rfl,_⟩:=h;rfl
 ·obtain⟨a,ns,p,q,sg,rfl,ha,O,Y,few,k⟩:=h;have D:=Bg (X:=(vz CX0 P w K mg base ["lines", "sign"] "border" (qm (top 15)) f cdv A outer s H E).nox) (N:=["lines", "sign"]) (N1:=["place", "sign", "lines"]) (cap:=[none,some 1,some 0]) (scope:=W9) (sc:=qm (top 15)) (s.heap.objs.size+1);refine⟨_,(qp (zb (jx D rfl (yz rfl T.range (qb (qz (zc (K:=K) rfl) (pv 0) qg (fun _ _=>rfl)) (qb (qx zg (qz (zc (K:=K) rfl) (pv 0) (uo ym qg) (fun _ _=>rfl)) qg) qi))) (fun _ _ _ _=>(pgC (i:=0) Oq)) (fun _ _ _ _=>jy) (fun _ _ _ _=>(qu5 (zp (qa8 (K:=K) rfl) (pv 0) (pv 2) (by with_unfolding_all rfl)) zz (pv 1)))))),?_⟩;have le:=Ao (ns:=ns) O;refine⟨a,_,(0:Int),_,rfl,rfl,uI ha,yf O,_,rfl,a,_,(-1:Int),_,rfl,rfl,uI ha,Gh O,_,_,rfl,rfl,(ln ns p:Int),(ln ns q:Int)+1,rfl,⟨by omega,by omega,by omega,by omega⟩,fun acc G=>?_⟩;have Z:((ln ns q:Int)+1 - (ln ns p:Int)).toNat=ln ns q+1 - ln ns p:=by omega
  rw [Z];refine Bl (lo:=(ln ns p:Int)) (n:=ln ns q+1 - ln ns p) (fun j σ1 H3=>∃(S:Option V),σ1=[S,some (.str sg),some (.ref a)]/\Same H H3/\H3 acc=some (.lst (((Bq ns p q sg).take j).map V.str)))
   ⟨none,rfl,tI G,qd⟩ ?_ ?_
  ·rintro j σ1 H3 hj ⟨S,rfl,s3,J⟩;dsimp only [jt];rw [kA rfl];have U:inV (.int ((ln ns p:Int)+(j:Int))) (Ir ns p q)=onL ns (ln ns p+j):=by
    rw [←zc5 Y (by omega:ln ns p<=ln ns p+j) (by omega:ln ns p+j<=ln ns q)];rfl
   refine⟨a,_,rfl,.inl (uI (s3 _ _ ha)),rfl,qg7 _ _ _,?_⟩;refine⟨onL ns (ln ns p+j),vD V.bl U,?_⟩;have lj:j < (Bq ns p q sg).length:=by rw [Af];exact hj
   have nx:((Bq ns p q sg).take (j+1)).map V.str=((Bq ns p q sg).take j).map V.str++[V.str (if onL ns (ln ns p+j)=true then Gq else sg)]:=by rw [pD lj,lA];congr 1;show [V.str _]=_;congr 2;simp only [Bq,List.getElem_map,List.getElem_range]
   have small:(((Bq ns p q sg).take j).map V.str).length < sizeLine:=zf (by rw [aA,cB,Af];omega);refine kh (fun hb=>?_) (fun hb=>?_)
   ·rw [kA hb] at nx;refine⟨_,J,small,_,rfl,fun b o e=>?_,?_⟩
    ·rw [qu (qw e G)];exact s3 _ _ e
    ·rw [qd,nx,Xg]
   ·rw [oA hb] at nx;refine⟨_,J,small,_,rfl,fun b o e=>?_,?_⟩
    ·rw [qu (qw e G)];exact s3 _ _ e
    ·rw [qd,nx]
  ·rintro σ1 H3 ⟨S,rfl,s3,J⟩;rw [uB (by rw [Af];exact dA _)] at J;exact k _ _ s3 G J
end
theorem yg {H:Hp} {g:Addr} {n m:Nat} {G:Gd} {as:List Addr} (h:GridH H g n m G as) {b:Addr} (e:H b=none):b∉as:=fun z=>by obtain⟨i,hi⟩:=mH.mp z;rw [h.row i b hi] at e;cases e
inductive spDrawB (vs:List V) (H:Hp) (Q:VK) (e3:XK):Prop
 |mk (g d a:Addr) (hs ws:List Nat) (x:Cell) (G:Gd) (as:List Addr) (_:vs=[.ref g,.ref d,.ref a]) (_:GridH H g (ln hs hs.length+1) (ln ws ws.length+1) G as) (_:H d=some (.lst (Ir hs x.top (x.top+x.h)))) (_:H a=some (.lst (Ir ws x.left (x.left+x.w)))) (_:d∉as) (_:a∉as) (_:Fit hs.length ws.length x) (_:ln hs hs.length<=500) (_:ln ws ws.length<=500) (_:∀H',SameX as H H'->GridH H' g (ln hs hs.length+1) (ln ws ws.length+1) (Jf hs ws x G) as->Q .non H')
noncomputable def zq1 (hs ws:List Nat) (x:Cell) (k:Nat) (G:Gd):Gd:=match k with
 |0=>G
 |1=>Ia G (ln hs x.top) (ln ws x.left) (Bq ws x.left (x.left+x.w) Oj)
 |_=>hor hs ws x G
section
variable {P:Program} {w:World} {K:PySem.W.Frag} {mg:Str->Option Value} {base:Heap}
theorem sc_draw_border:FnScope ["signs", "down", "across", "row", "at", "sign"] ["signs", "down", "across"] (qm (top 14)):=fsc
theorem Lw (T:Txt mg) (S:Cal P w K mg base 1 "put" ["signs", "row", "column", "some"] (spPut K)) (J:Cal P w K mg base 1 "border" ["lines", "sign"] spBorder) (f:Addr) (fd:FuncData) (F:Fun K "draw_border" "draw_border" (top 14) f fd):FnOk P w K mg base CX0 2 f fd ["signs", "down", "across"] spDrawB:=by
 refine F.ok sc_draw_border (fun vs H Q E h=>?_) (fun cdv A outer s H vs Q E hr h=>?_)
 ·obtain⟨g,d,a,hs,ws,x,G,as,rfl,_⟩:=h;rfl
 ·obtain⟨g,d,a,hs,ws,x,G,as,rfl,hg,hd,ha,nd,na,ft,few1,few2,q⟩:=h;have O:=hr.mono (j:=1) (by decide);have D:=hr.mono (j:=1) (by decide);refine⟨_,(qj (j8 cC rfl (By (K:=K) rfl (yu (qb (qz (zc (K:=K) rfl) (pv 1) qg (fun _ _=>rfl)) (qb (qz (zc (K:=K) rfl) (pv 1) (uo ym qg) (fun _ _=>rfl)) qi)))) (pgN (i:=3) sc_draw_border.nd) (qp (yr (qy S O rfl (qb (pv 0) (qb (pv 3) (qb (qz (zc (K:=K) rfl) (pv 2) qg (fun _ _=>rfl)) (qb (qy J D rfl (qb (pv 2) (qb zz qi))) qi))))))))
   (qp (j8 cC rfl (Lf (K:=K) rfl rfl T.enumerate (qb (qy J D rfl (qb (pv 1) (qb zz qi))) qi)) (Gx (K:=K) (n:=2) rfl rfl (yq (pgN (i:=4) sc_draw_border.nd) (yq (pgN (i:=5) sc_draw_border.nd) Gv))) (qj (yr (qy S O rfl (qb (pv 0) (qb (qx zg (qz (zc (K:=K) rfl) (pv 1) qg (fun _ _=>rfl)) (pv 4)) (qb (qz (zc (K:=K) rfl) (pv 2) qg (fun _ _=>rfl)) (qb (vf (qb (pv 5) qi)) qi))))))
   (qp (yr (qy S O rfl (qb (pv 0) (qb (qx zg (qz (zc (K:=K) rfl) (pv 1) qg (fun _ _=>rfl)) (pv 4)) (qb (qz (zc (K:=K) rfl) (pv 2) (uo ym qg) (fun _ _=>rfl)) (qb (vf (qb (pv 5) qi)) qi))))))))))),?_⟩
  have tb:x.top<=x.top+x.h:=by omega
  have lr:x.left<=x.left+x.w:=by omega
  have dn:=ft.down;have ac:=ft.across;have l1:=Ao (ns:=hs) tb;have l2:=Ao (ns:=hs) dn;have l3:=Ao (ns:=ws) lr;have l4:=Ao (ns:=ws) ac;refine⟨d,_,(0:Int),_,rfl,rfl,uI hd,yf tb,_,rfl,d,_,(-1:Int),_,rfl,rfl,uI hd,Gh tb,by show 2<=sizeLine;decide,fun t ht=>?_⟩;have s1:=tI (o:=.tup [V.int ((ln hs x.top:Nat):Int),V.int ((ln hs (x.top+x.h):Nat):Int)]) ht;have k1:=qd (H:=H) (a:=t) (o:=.tup [V.int ((ln hs x.top:Nat):Int),V.int ((ln hs (x.top+x.h):Nat):Int)]);have nt:=yg hg ht;generalize upd H t (.tup [V.int ((ln hs x.top:Nat):Int),V.int ((ln hs (x.top+x.h):Nat):Int)])=H1 at *;refine⟨t,rfl,⟨_,vI k1⟩,?_⟩;refine Wl (K:=K) (a:=t) (xs:=[V.int ((ln hs x.top:Nat):Int),V.int ((ln hs (x.top+x.h):Nat):Int)]) (fun k σ H2=>∃(c3 c4 c5:Option V),σ=[some (.ref g),some (.ref d),some (.ref a),c3,c4,c5]/\SameX as H1 H2/\GridH H2 g (ln hs hs.length+1) (ln ws ws.length+1) (zq1 hs ws x k G) as)
   ⟨none,none,none,rfl,.refl _ _,hg.mono s1⟩ (fun k σ H2 _ ⟨_,_,_,_,z,_⟩=>vI (z _ _ k1 nt)) ?_ ?_
  ·rintro k v σ H2 hk ⟨c3,c4,c5,rfl,s2,g2⟩;have U:=s2 _ _ (s1 _ _ ha) na;obtain⟨i,hi,rfl,eG⟩:∃i:Nat,i < ln hs hs.length+1/\v=V.int (i:Int)/\zq1 hs ws x (k+1) G=Ia (zq1 hs ws x k G) i (ln ws x.left) (Bq ws x.left (x.left+x.w) Oj):=by
    match k,hk with
    |0,hk=>cases hk;exact⟨_,by omega,rfl,rfl⟩
    |1,hk=>cases hk;exact⟨_,by omega,rfl,rfl⟩
    |k+2,hk=>cases hk
   refine⟨a,_,(0:Int),_,rfl,rfl,uI U,yf lr,a,ws,x.left,x.left+x.w,_,rfl,U,lr,ac,by omega,fun b1 H3 s3 n3 Z=>?_⟩;rw [qh0] at Z;refine⟨g,_,_,zq1 hs ws x k G,as,i,ln ws x.left,_,_,rfl,g2.mono s3,hi,by rw [Af];omega,.inl ⟨b1,rfl,Z,yg g2 n3⟩,fun H4 s4 Y=>?_⟩;rw [←eG] at Y;exact⟨_,_,_,rfl,(s2.trans (.of s3)).trans s4,Y⟩
  ·rintro σ H2 ⟨c3,c4,c5,rfl,s2,g2⟩;have U:=s2 _ _ (s1 _ _ ha) na;have hd2:=s2 _ _ (s1 _ _ hd) nd;refine⟨d,hs,x.top,x.top+x.h,_,rfl,hd2,tb,dn,by omega,fun b1 H3 s3 n3 Z=>?_⟩;rw [za8] at Z;have nb:=yg g2 n3;refine⟨b1,rfl,⟨_,uI Z⟩,?_⟩;have g3:=g2.mono s3;refine Iv (K:=K) (a:=b1) (xs:=(Bq hs x.top (x.top+x.h) qq0).map V.str) (fun k σ H4=>∃(c4 c5:Option V),σ=[some (.ref g),some (.ref d),some (.ref a),c3,c4,c5]/\SameX as H3 H4/\GridH H4 g (ln hs hs.length+1) (ln ws ws.length+1) (ups hs ws x k (hor hs ws x G)) as)
    ⟨c4,c5,rfl,.refl _ _,by rw [qo3];exact g3⟩ (fun k σ H4 _ ⟨_,_,_,z,_⟩=>uI (z _ _ Z nb)) ?_ ?_
   ·rintro k y σ H4 t4 hk ⟨a8,a9,rfl,s4,Y⟩ aa;rw [fA] at hk;obtain⟨sg,a3,rfl⟩:=qB.mp hk;have lk:=(bA.mp a3).1;rw [Af] at lk;have ae:sg=upS hs (ln hs x.top+k):=by
     have:=Wz (ns:=hs) (a:=x.top) (b:=x.top+x.h) (s:=qq0) lk;rw [zA,a3] at this;exact this
    have eU:=qq2 hs ws x k (hor hs ws x G) sg ae;have s5:=tI (o:=.tup [.int (k:Int),.str sg]) aa;refine⟨t4,_,rfl,vI qd,rfl,_,_,rfl,_,_,rfl,rfl,?_⟩;generalize upd H4 t4 (.tup [.int (k:Int),.str sg])=H5 at *;have g5:=Y.mono s5;have a4:=s5 _ _ (s4 _ _ (s3 _ _ U) na);have a5:=s5 _ _ (s4 _ _ (s3 _ _ hd2) nd);have ei:((ln hs x.top:Nat):Int)+(k:Int)=((ln hs x.top+k:Nat):Int):=by omega
    refine⟨d,_,(0:Int),_,rfl,rfl,uI a5,yf tb,_,_,rfl,rfl,a,_,(0:Int),_,rfl,rfl,uI a4,yf lr,by show 1<=sizeLine;decide,fun m6 a6=>?_⟩;have s6:=tI (o:=.lst [V.str sg]) a6;have k6:=qd (H:=H5) (a:=m6) (o:=.lst [V.str sg]);generalize upd H5 m6 (.lst [V.str sg])=H6 at *;have g6:=g5.mono s6;refine⟨g,_,_,ups hs ws x k (hor hs ws x G),as,ln hs x.top+k,ln ws x.left,.ref m6,[sg],by (try dsimp only);rw [ei];rfl,g6,by omega,by show _+1<=_;omega,.inl ⟨m6,rfl,k6,yg g5 a6⟩,fun H7 s7 g7=>?_⟩;have af:=s7 _ _ (s6 _ _ a4) na;have ag:=s7 _ _ (s6 _ _ a5) nd;refine⟨d,_,(0:Int),_,rfl,rfl,uI ag,yf tb,_,_,rfl,rfl,_,rfl,a,_,(-1:Int),_,rfl,rfl,uI af,Gh lr,by show 1<=sizeLine;decide,fun m8 a7=>?_⟩;have s8:=tI (o:=.lst [V.str sg]) a7;have k8:=qd (H:=H7) (a:=m8) (o:=.lst [V.str sg]);generalize upd H7 m8 (.lst [V.str sg])=H8 at *;have g8:=g7.mono s8;refine⟨g,_,_,_,as,ln hs x.top+k,ln ws (x.left+x.w),.ref m8,[sg],by (try dsimp only);rw [ei];rfl,g8,by omega,by show _+1<=_;omega,.inl ⟨m8,rfl,k8,yg g7 a7⟩,fun H9 s9 g9=>?_⟩;rw [←eU] at g9;exact⟨_,_,rfl,((((s4.trans (.of s5)).trans (.of s6)).trans s7).trans (.of s8)).trans s9,g9⟩
   ·rintro σ H4 ⟨a8,a9,rfl,s4,Y⟩;rw [aA,Af,ze0 ft] at Y;exact q _ ((((SameX.of s1).trans s2).trans (.of s3)).trans s4) Y
end
noncomputable def TW (ws:List Nat) (x:Cell):List (List Str):=(xx (ln ws (x.left+x.w) - ln ws x.left - 1) [] x.words).map fun g=>wy (v6 g)
inductive spDrawW (K:PySem.W.Frag) (vs:List V) (H:Hp) (Q:VK) (e3:XK):Prop
 |mk (g d a t:Addr) (hs ws:List Nat) (x:Cell) (G:Gd) (as:List Addr) (_:vs=[.ref g,.ref d,.ref a,.ref t]) (_:GridH H g (ln hs hs.length+1) (ln ws ws.length+1) G as) (_:H d=some (.lst (Ir hs x.top (x.top+x.h)))) (_:H a=some (.lst (Ir ws x.left (x.left+x.w)))) (_:SqT K H t (x.words.map V.str)) (_:d∉as) (_:a∉as) (_:Fit hs.length ws.length x) (_:RoomW hs ws (TW ws) x) (_:∀H',SameX as H H'->GridH H' g (ln hs hs.length+1) (ln ws ws.length+1) (vq hs ws (TW ws) x (TW ws x).length G) as->Q .non H')
section
variable {P:Program} {w:World} {K:PySem.W.Frag} {mg:Str->Option Value} {base:Heap}
theorem sc_draw_words:FnScope ["signs", "down", "across", "words", "width", "at", "text"] ["signs", "down", "across", "words"] (qm (top 16)):=fsc
theorem Oa (T:Txt mg) (S:Cal P w K mg base 1 "put" ["signs", "row", "column", "some"] (spPut K)) (J:Cal P w K mg base 1 "filled" ["words", "width"] (spFilled K)) (f:Addr) (fd:FuncData) (F:Fun K "draw_words" "draw_words" (top 16) f fd):FnOk P w K mg base CX0 2 f fd ["signs", "down", "across", "words"] (spDrawW K):=by
 refine F.ok sc_draw_words (fun vs H Q E h=>?_) (fun cdv A outer s H vs Q E hr h=>?_)
 ·obtain⟨g,d,a,t,hs,ws,x,G,as,rfl,_⟩:=h;rfl
 ·obtain⟨g,d,a,t,hs,ws,x,G,as,rfl,hg,hd,ha,a4,nd,na,Y,rm,q⟩:=h;have O:=hr.mono (j:=1) (by decide);have D:=hr.mono (j:=1) (by decide);refine⟨_,(qj (psS (i:=4) sc_draw_words.nd (qx uc (qx uc (qz (zc (K:=K) rfl) (pv 2) (uo ym qg) (fun _ _=>rfl)) (qz (zc (K:=K) rfl) (pv 2) qg (fun _ _=>rfl))) qg))
   (qp (j8 cC rfl (Lf (K:=K) rfl rfl T.enumerate (qb (qy J D rfl (qb (pv 3) (qb (pv 4) qi))) qi)) (Gx (K:=K) (n:=2) rfl rfl (yq (pgN (i:=5) sc_draw_words.nd) (yq (pgN (i:=6) sc_draw_words.nd) Gv))) (qp (yr (qy S O rfl (qb (pv 0) (qb (qx zg (qx zg (qz (zc (K:=K) rfl) (pv 1) qg (fun _ _=>rfl)) qg) (pv 5)) (qb (qx zg (qz (zc (K:=K) rfl) (pv 2) qg (fun _ _=>rfl)) qg) (qb (pv 6) qi)))))))))),?_⟩
  have tb:x.top<=x.top+x.h:=by omega
  have lr:x.left<=x.left+x.w:=by omega
  have dn:=Y.down;have ac:=Y.across;have w1:=Y.w1;have l2:=Ao (ns:=hs) dn;have l3:=qh2 (ns:=ws) (a:=x.left) (b:=x.left+x.w) (by omega);have l4:=Ao (ns:=ws) ac;have rr:=rm.rows;refine⟨_,rfl,a,_,(-1:Int),_,rfl,rfl,uI ha,Gh lr,a,_,(0:Int),_,rfl,rfl,uI ha,yf lr,_,_,rfl,rfl,_,_,rfl,rfl,?_⟩;have eW:((ln ws (x.left+x.w):Nat):Int) - ((ln ws x.left:Nat):Int) - 1=((ln ws (x.left+x.w) - ln ws x.left - 1:Nat):Int):=by omega
  refine⟨t,x.words,ln ws (x.left+x.w) - ln ws x.left - 1,by (try dsimp only);rw [eW];rfl,a4,Y.words.few,fun z hz=>(Y.words.each z hz).hi,fun l H1 s1 n1 h1=>?_⟩;have nl:=yg hg n1;refine⟨l,rfl,⟨_,uI h1⟩,?_⟩;have Z:(TW ws x).length=(xx (ln ws (x.left+x.w) - ln ws x.left - 1) [] x.words).length:=by unfold TW;rw [aA]
  refine Iv (K:=K) (a:=l) (xs:=(xx (ln ws (x.left+x.w) - ln ws x.left - 1) [] x.words).map fun g=>V.str (v6 g)) (fun k σ H2=>∃(c4 c5 c6:Option V),σ=[some (.ref g),some (.ref d),some (.ref a),some (.ref t),c4,c5,c6]/\SameX as H1 H2/\GridH H2 g (ln hs hs.length+1) (ln ws ws.length+1) (vq hs ws (TW ws) x k G) as)
   ⟨_,none,none,rfl,.refl _ _,by rw [W5];exact hg.mono s1⟩ (fun k σ H2 _ ⟨_,_,_,_,z,_⟩=>uI (z _ _ h1 nl)) ?_ ?_
  ·rintro k y σ H2 t2 hk ⟨c4,c5,c6,rfl,s2,g2⟩ a5;rw [fA] at hk;obtain⟨U,a3,rfl⟩:=qB.mp hk;have lk:=(bA.mp a3).1;have eT:(TW ws x)[k]? = some (wy (v6 U)):=by unfold TW;rw [fA,a3];rfl
   have eD:(TW ws x).getD k []=wy (v6 U):=by rw [zA,eT];rfl
   have fitw:=rm.each _ (jA eT);have eU:=Xe hs ws (TW ws) x k G _ eD;have s3:=tI (o:=.tup [.int (k:Int),.str (v6 U)]) a5;refine⟨t2,_,rfl,vI qd,rfl,_,_,rfl,_,_,rfl,rfl,?_⟩;generalize upd H2 t2 (.tup [.int (k:Int),.str (v6 U)])=H3 at *;have g3:=g2.mono s3;have a6:=s3 _ _ (s2 _ _ (s1 _ _ ha) na);have a7:=s3 _ _ (s2 _ _ (s1 _ _ hd) nd);have e1:((ln hs x.top:Nat):Int)+1+(k:Int)=((ln hs x.top+1+k:Nat):Int):=by omega
   have e2:((ln ws x.left:Nat):Int)+1=((ln ws x.left+1:Nat):Int):=by omega
   refine⟨d,_,(0:Int),_,rfl,rfl,uI a7,yf tb,_,_,rfl,rfl,_,_,rfl,rfl,a,_,(0:Int),_,rfl,rfl,uI a6,yf lr,_,_,rfl,rfl,?_⟩;refine⟨g,_,_,vq hs ws (TW ws) x k G,as,ln hs x.top+1+k,ln ws x.left+1,.str (v6 U),wy (v6 U),by (try dsimp only);rw [e1,e2];rfl,g3,by omega,by omega,.inr ⟨_,rfl,rfl⟩,fun H4 s4 g4=>?_⟩;rw [←eU] at g4;exact⟨_,_,_,rfl,(s2.trans (.of s3)).trans s4,g4⟩
  ·rintro σ H2 ⟨c4,c5,c6,rfl,s2,g2⟩;rw [aA,←Z] at g2;exact q _ ((SameX.of s1).trans s2) g2
end
theorem qy2 {ws:List Str} (h:∀y∈ws,y.length<=12):lg ws<=12:=by
 by_cases e:ws=[]
 ·subst e;exact yB _
 ·obtain⟨w,hw,e⟩:=qi4 e;rw [←e];exact h w hw
open SZ
noncomputable abbrev HS (R C:Nat) (cs:List Cell):List Nat:=natL (ze7 R C cs)
noncomputable abbrev WS (C:Nat) (cs:List Cell):List Nat:=natL (qb0 C cs)
theorem gC (C:Nat) (cs:List Cell):∀z∈qb0 C cs,(1:Int)<=z:=Nq _ _
theorem gR (R C:Nat) (cs:List Cell):∀z∈ze7 R C cs,(1:Int)<=z:=Nq _ _
theorem G4 (C:Nat) (cs:List Cell):(WS C cs).length=C:=by rw [Iw];exact Al _ _
theorem Bu (R C:Nat) (cs:List Cell):(HS R C cs).length=R:=by rw [Iw];exact Al _ _
theorem qm4 {R C:Nat} {cs:List Cell} (tl:Part R C cs) {X:Cell} (j:X∈cs):RoomW (HS R C cs) (WS C cs) (TW (WS C cs)) X:=by
 have J:=tl.fit X j;have F:=room (cs.map w5) (m:=C) (s:=w5 X) (xA.mpr ⟨X,j,rfl⟩) (Ja tl _ (xA.mpr ⟨X,j,rfl⟩)).1 (Ja tl _ (xA.mpr ⟨X,j,rfl⟩)).2;have D:=room (cs.map (uz (qb0 C cs))) (m:=R) (s:=uz (qb0 C cs) X) (xA.mpr ⟨X,j,rfl⟩) (Im tl _ _ (xA.mpr ⟨X,j,rfl⟩)).1 (Im tl _ _ (xA.mpr ⟨X,j,rfl⟩)).2;have F:((lg X.words:Nat):Int) - (((X.left+X.w:Nat):Int) - (X.left:Int) - 1)<=(seg (qb0 C cs) X.left (X.left+X.w)).sum:=F;have D:(((xx (Qu (qb0 C cs) X) [] X.words).length:Nat):Int) - (((X.top+X.h:Nat):Int) - (X.top:Int) - 1)<=(seg (ze7 R C cs) X.top (X.top+X.h)).sum:=D;have lC:((ln (WS C cs) (X.left+X.w):Nat):Int) - ((ln (WS C cs) X.left:Nat):Int)=(seg (qb0 C cs) X.left (X.left+X.w)).sum+(((X.left+X.w:Nat):Int) - (X.left:Int)):=qz2 (gC C cs) (by omega);have lR:((ln (HS R C cs) (X.top+X.h):Nat):Int) - ((ln (HS R C cs) X.top:Nat):Int)=(seg (ze7 R C cs) X.top (X.top+X.h)).sum+(((X.top+X.h:Nat):Int) - (X.top:Int)):=qz2 (gR R C cs) (by omega);have w1:=J.w1;have h1:=J.h1;have ltC:=qh2 (ns:=WS C cs) (a:=X.left) (b:=X.left+X.w) (by omega);have O:Qu (qb0 C cs) X=ln (WS C cs) (X.left+X.w) - ln (WS C cs) X.left - 1:=by unfold Qu;omega
 rw [O] at D;constructor
 ·have:(TW (WS C cs) X).length=(xx (ln (WS C cs) (X.left+X.w) - ln (WS C cs) X.left - 1) [] X.words).length:=by unfold TW;rw [aA]
  rw [this];omega
 ·intro g S;obtain⟨U,G,rfl⟩:=xA.mp S;rw [uw]
  have:=Dy _ _ _ (fun y Y=>by have:=zm5 Y;omega) (fun z=>absurd rfl z) U G;omega
theorem T4 {ns:List Nat} {n p q:Nat} (hq:q<=n):Ax (v7 ns (n+1)) (some (p:Int)) (some ((q:Int)+1))=Ir ns p q:=by
 have:(q:Int)+1=((q+1:Nat):Int):=by omega
 rw [this,Ot];refine nH fun d=>?_;rw [cE];by_cases h:p+d < q+1
 ·rw [sC h,qo2 (by omega),qe9 (by omega)]
 ·rw [kE (by rw [cB,Ql];omega),kE (by rw [qv4];omega)]
noncomputable def qc4 (n m:Nat) (G:Gd):Str:=Av (Str.ofString "") ((List.range n).map fun i=>Av (Str.ofString "") ((List.range m).map (G i))++Str.ofString "\n")
inductive spDrawn (vs:List V) (H:Hp) (Q:VK) (e3:XK):Prop
 |mk (v:V) (R C:Nat) (cs:List Cell) (_:vs=[v]) (_:At H (O9 R C cs) v) (_:Part R C cs) (_:R<=16) (_:C<=16) (_:∀H',Same H H'->Q (.str (qc4 (ln (HS R C cs) R+1) (ln (WS C cs) C+1) (Gf (HS R C cs) (WS C cs) (TW (WS C cs)) cs))) H')
theorem qb8 (m:Nat):(List.replicate m [V.str (Str.ofString " ")]).flatten=G7 m fun _=>vy:=by
 unfold G7;rw [blank_eq];induction m with
 |zero=>rfl
 |succ m ih=>rw [List.replicate_succ',List.flatten_append,ih,uD,lA];rfl
theorem qa5 {x y:Str} (h:y∈wy x):y.length=1:=by obtain⟨c,_,rfl⟩:=xA.mp h;rfl
theorem qr6 {l:List Str} (h:∀y∈l,y.length=1) (k:Nat):(l.getD k vy).length=1:=by
 rw [zA];cases e:l[k]? with
 |none=>rfl
 |some y=>exact h y (jA e)
theorem zm3 (ws:List Nat) (x:Cell) (k:Nat):∀y∈(TW ws x).getD k [],y.length=1:=by
 rw [zA];cases e:(TW ws x)[k]? with
 |none=>intro y j;cases j
 |some g=>intro y j;obtain⟨gr,_,rfl⟩:=xA.mp (jA e);exact qa5 j
theorem N8 (hs ws:List Nat) (i j:Nat):∀(cs:List Cell) (G:Gd),(G i j).length=1->((cs.foldl (fun G x=>vq hs ws (TW ws) x (TW ws x).length (Jf hs ws x G)) G) i j).length=1
 | [],G,h=>h
 |x::cs,G,h=>by
  rw [zC];refine N8 hs ws i j cs _ ?_;unfold vq;split
  ·exact qr6 (zm3 ws x _) _
  ·unfold Jf;split
   ·unfold kindS;split
    ·split<;>rfl
    ·rfl
   ·exact h
theorem qc0 {l:List Str} (h:∀y∈l,y.length=1):(l.map (·.length)).sum=l.length:=by
 induction l with
 |nil=>rfl
 |cons y l ih=>rw [aC,tE,ih fun z j=>h z (.tail _ j),h y (.head _),fB];omega
theorem Zo {as:List Addr} {p:Addr} (h:as.Nodup) (n:p∉as):(as++[p]).Nodup:=by
 refine List.nodup_append.mpr ⟨h,by simp,fun a ha b hb z=>n ?_⟩
 have:b=p:=by simpa using hb
 rw [←this,←z];exact ha
theorem Us (ys:List Str):(Av (Str.ofString "") ys).cps.toList=(ys.map (fun y=>y.cps.toList)).flatten:=by have z:Av "" ys=Str.join Str.empty ys:=bF _ _;show (Av "" ys).cps.toList=_;rw [z];exact Ac ys
theorem Q5 (ys:List Str):(Av (Str.ofString "") ys).length=(ys.map (·.length)).sum:=by
 show (Av (Str.ofString "") ys).cps.size=_;rw [←pB,Us];induction ys with
 |nil=>rfl
 |cons y ys ih=>rw [aC,jD,wA,ih,aC,tE];rfl
theorem zb0:(Str.ofString "\n").length=1:=by decide +kernel
theorem za7:(Str.ofString "").length=0:=by decide +kernel
theorem sum_le {l:List Str} {m:Nat} (h:∀y∈l,y.length<=m):(l.map (·.length)).sum<=l.length * m:=by
 induction l with
 |nil=>simp
 |cons y l ih=>
  have:=ih fun z j=>h z (.tail _ j)
  have:=h y (.head _);rw [aC,tE,fB,mG];omega
theorem qv2 (m:Nat) (f:Nat->Str):G7 m f=((List.range m).map f).map V.str:=by unfold G7;rw [gD];rfl
section
variable {P:Program} {w:World} {K:PySem.W.Frag} {mg:Str->Option Value} {base:Heap}
theorem U9:(["row", "across"]:List Str).Nodup:=by decide +kernel
theorem Uw:(["row"]:List Str).Nodup:=by decide +kernel
noncomputable abbrev qm1:Scope:=jh (yc (nth (zy (top 12)) 3))
noncomputable abbrev qe5:Scope:=jh (Gr (yc (nth (zy (top 12)) 5)) 0)
theorem sc_drawn:FnScope ["table", "told", "across", "down", "signs", "cell", "cell_down", "cell_across"] ["table"] (qm (top 12)):=fsc
theorem qs0 (T:Txt mg) (a8:Cal P w K mg base 3 "layout" ["table"] spLayout) (J:Cal P w K mg base 1 "line_places" ["told"] spLines) (S:Cal P w K mg base 2 "draw_border" ["signs", "down", "across"] spDrawB) (Z:Cal P w K mg base 2 "draw_words" ["signs", "down", "across", "words"] (spDrawW K)) (f:Addr) (fd:FuncData) (F:Fun K "drawn" "drawn" (top 12) f fd):FnOk P w K mg base CX0 4 f fd ["table"] spDrawn:=by
 refine F.ok sc_drawn (fun vs H Q E h=>?_) (fun cdv A outer s H vs Q E hr h=>?_)
 ·obtain⟨v,R,C,cs,rfl,_⟩:=h;rfl
 ·obtain⟨v,R,C,cs,rfl,ht,tl,hR,hC,q⟩:=h;have a5:=hr.mono (j:=3) (by decide);have D:=hr.mono (j:=1) (by decide);have O:=hr.mono (j:=2) (by decide);have U:=hr.mono (j:=2) (by decide);have a3:=Bg (X:=(vz CX0 P w K mg base ["table", "told", "across", "down", "signs", "cell", "cell_down", "cell_across"] "drawn" (qm (top 12)) f cdv A outer s H E).nox) (N:=["table", "told", "across", "down", "signs", "cell", "cell_down", "cell_across"]) (N1:=["row", "across"]) (cap:=[none,some 2]) (scope:=qm1) (sc:=qm (top 12)) (s.heap.objs.size+1);have a4:=Bg (X:=(vz CX0 P w K mg base ["table", "told", "across", "down", "signs", "cell", "cell_down", "cell_across"] "drawn" (qm (top 12)) f cdv A outer s H E).nox) (N:=["table", "told", "across", "down", "signs", "cell", "cell_down", "cell_across"]) (N1:=["row"]) (cap:=[none]) (scope:=qe5) (sc:=qm (top 12)) (s.heap.objs.size+1);refine⟨_,(qj (psS (i:=1) sc_drawn.nd (qy a8 a5 rfl (qb (pv 0) qi)))
   (qj (psS (i:=2) sc_drawn.nd (qy J D rfl (qb (qz (qt (K:=K) rfl) (pv 1) qg (fun _ _=>rfl)) qi)))
   (qj (psS (i:=3) sc_drawn.nd (qy J D rfl (qb (qz (qt (K:=K) rfl) (pv 1) qg (fun _ _=>rfl)) qi)))
   (qj (Om a3 rfl (vh rfl T.range (qb (qx zg (qz (zc (K:=K) rfl) (pv 3) (uo ym qg) (fun _ _=>rfl)) qg) qi)) (fun _ _ _ _=>(pgC (i:=0) U9)) (fun _ _ _ _=>jy) (fun _ _ _ _=>(qx zc6 (vf (qb zz qi)) (qx zg (qz (zc (K:=K) rfl) (pv 1) (uo ym qg) (fun _ _=>rfl)) qg))) sc_drawn.nd (i:=4) rfl rfl rfl)
   (qj (j8 cC rfl (jq (K:=K) rfl (qz (qt (K:=K) rfl) (pv 0) qg (fun _ _=>rfl))) (pgN (i:=5) sc_drawn.nd) (qj (psS (i:=6) sc_drawn.nd (zm (jo (K:=K) rfl) (pv 3) (zj (qz (qt (K:=K) rfl) (pv 5) qg (fun _ _=>rfl))) (zj (qx zg (qx zg (qz (qt (K:=K) rfl) (pv 5) qg (fun _ _=>rfl)) (qz (qt (K:=K) rfl) (pv 5) qg (fun _ _=>rfl))) qg))))
   (qj (psS (i:=7) sc_drawn.nd (zm (jo (K:=K) rfl) (pv 2) (zj (qz (qt (K:=K) rfl) (pv 5) qg (fun _ _=>rfl))) (zj (qx zg (qx zg (qz (qt (K:=K) rfl) (pv 5) qg (fun _ _=>rfl)) (qz (qt (K:=K) rfl) (pv 5) qg (fun _ _=>rfl))) qg))))
   (qj (yr (qy S O rfl (qb (pv 4) (qb (pv 6) (qb (pv 7) qi)))))
   (qp (yr (qy Z U rfl (qb (pv 4) (qb (pv 6) (qb (pv 7) (qb (qz (qt (K:=K) rfl) (pv 5) qg (fun _ _=>rfl)) qi)))))))))))
   (qp (zb (xn (K:=K) rfl vC rE sE (De (K:=K) rfl) zz (qb (jx a4 rfl (jq (K:=K) rfl (pv 4)) (fun _ _ _ _=>(pgC (i:=0) Uw)) (fun _ _ _ _=>jy) (fun _ _ _ _=>(qx zu (xn (K:=K) rfl vC rE sE (De (K:=K) rfl) zz (qb (pv 0) qi)) zz))) qi))))))))),?_⟩
  have fewC:ln (WS C cs) C<=208:=by
   have:=Iz (gC C cs) (ql8 _ (fun s hs=>⟨(Ja tl s hs).1,by
    obtain⟨x,hx,rfl⟩:=xA.mp hs;exact qy2 (fun y hy=>((tl.fit x hx).words.each y hy).hi)⟩) _) (by rw [show (qb0 C cs).length=C from Al _ _];exact hC)
   rw [G4] at this;exact this
  have fewR:ln (HS R C cs) R<=208:=by
   have:=Iz (gR R C cs) (ql8 _ (fun s hs=>⟨(Im tl _ s hs).1,by
    obtain⟨x,hx,rfl⟩:=xA.mp hs;exact aD Y5 (tl.fit x hx).words.few⟩) _) (by rw [show (ze7 R C cs).length=R from Al _ _];exact hR)
   rw [Bu] at this;exact this
  refine⟨v,R,C,cs,rfl,ht,tl,hR,hC,fun p wl hl H1 s1 hp hw hh=>?_⟩;rw [←qy6 (gC C cs)] at hw;rw [←qy6 (gR R C cs)] at hh;refine⟨p,_,(0:Int),_,rfl,rfl,vI hp,rfl,wl,WS C cs,rfl,hw,by rw [G4];exact hC,fun ac H2 s2 n2 h2=>?_⟩;refine⟨p,_,(1:Int),_,rfl,rfl,vI (s2 _ _ hp),rfl,hl,HS R C cs,rfl,s2 _ _ hh,by rw [Bu];exact hR,fun dw H3 s3 n3 h3=>?_⟩;rw [G4] at h2;rw [Bu] at h3;have ao:=s3 _ _ h2;have aq:atI (v7 (HS R C cs) (R+1)) (-1)=some (V.int ((ln (HS R C cs) R:Nat):Int)):=by rw [Bm];exact Gk _ _
  have atC:atI (v7 (WS C cs) (C+1)) (-1)=some (V.int ((ln (WS C cs) C:Nat):Int)):=by rw [Bm];exact Gk _ _
  refine⟨_,rfl,dw,_,(-1:Int),_,rfl,rfl,uI h3,aq,_,_,rfl,rfl,(ln (HS R C cs) R:Int)+1,rfl,by omega,by omega,fun acc ag=>?_⟩;have en:((ln (HS R C cs) R:Int)+1).toNat=ln (HS R C cs) R+1:=by omega
  rw [en];refine Bl (lo:=0) (n:=ln (HS R C cs) R+1) (fun j σ1 H4=>∃(kk:Option V) (as:List Addr),σ1=[kk,some (.ref ac)]/\Same H3 H4/\H4 acc=some (.lst (as.map V.ref))/\as.length=j/\as.Nodup/\acc∉as/\∀a∈as,H3 a=none/\H4 a=some (.lst (G7 (ln (WS C cs) C+1) fun _=>vy)))
   ⟨none,[],rfl,tI ag,qd,rfl,.nil,List.not_mem_nil,fun a ha=>by cases ha⟩ ?_ ?_
  ·rintro j σ1 H4 hj ⟨kk,as,rfl,s4,k4,l4,ai,a7,Y⟩;dsimp only [jt];rw [kA rfl];refine⟨by show 1<=sizeLine;decide,fun t5 b4=>?_⟩;have s5:=tI (o:=.lst [V.str (Str.ofString " ")]) b4;have k5:=qd (H:=H4) (a:=t5) (o:=.lst [V.str (Str.ofString " ")]);generalize upd H4 t5 (.lst [V.str (Str.ofString " ")])=H5 at *;refine⟨_,rfl,ac,_,(-1:Int),_,rfl,rfl,uI (s5 _ _ (s4 _ _ ao)),atC,_,_,rfl,rfl,t5,(ln (WS C cs) C:Int)+1,_,rfl,rfl,k5,List.cons_ne_nil _ _,by omega,by omega,by show 1 * _<=_;omega,fun p6 a6=>?_⟩;have e6:((ln (WS C cs) C:Int)+1).toNat=ln (WS C cs) C+1:=by omega
   rw [e6,qb8];have s6:=tI (o:=.lst (G7 (ln (WS C cs) C+1) fun _=>vy)) a6;have k6:=qd (H:=H5) (a:=p6) (o:=.lst (G7 (ln (WS C cs) C+1) fun _=>vy));have b5:=s6 _ _ (s5 _ _ k4);have f6:H3 p6=none:=by
    cases e:H3 p6 with
    |none=>rfl
    |some o=>rw [s5 _ _ (s4 _ _ e)] at a6;cases a6
   have ar:p6≠acc:=fun z=>by rw [z,s5 _ _ k4] at a6;cases a6
   have b6:p6∉as:=fun z=>by rw [s5 _ _ (Y _ z).2] at a6;cases a6
   generalize upd H5 p6 (.lst (G7 (ln (WS C cs) C+1) fun _=>vy))=H6 at *;refine⟨_,b5,zf (by rw [aA];omega),_,as++[p6],rfl,fun b o e=>?_,?_,by rw [wA,l4];rfl,?_,?_,fun a ha=>?_⟩
   ·rw [qu (qw e ag)];exact s6 _ _ (s5 _ _ (s4 _ _ e))
   ·rw [qd,lA];rfl
   ·exact Zo ai b6
   ·intro z;rcases rB.mp z with z |z
    ·exact a7 z
    ·have:acc=p6:=by simpa using z
     exact ar this.symm
   ·have b7:a≠acc:=fun z=>by
     rcases rB.mp ha with y |y
     ·exact a7 (z▸y)
     ·have:a=p6:=by simpa using y
      exact ar (this.symm.trans z)
    rw [qu b7];rcases rB.mp ha with y |y
    ·exact⟨(Y a y).1,s6 _ _ (s5 _ _ (Y a y).2)⟩
    ·have:a=p6:=by simpa using y
     subst this;exact⟨f6,k6⟩
  ·rintro σ1 H4 ⟨kk,as,rfl,s4,k4,l4,ai,a7,Y⟩;clear aq atC;have eR:ln (HS R C cs) R=ln (HS R C cs) (HS R C cs).length:=by rw [Bu]
   have eC:ln (WS C cs) C=ln (WS C cs) (WS C cs).length:=by rw [G4]
   have g4:GridH H4 acc (ln (HS R C cs) (HS R C cs).length+1) (ln (WS C cs) (WS C cs).length+1) (fun _ _=>vy) as:=⟨k4,by rw [←eR];exact l4,ai,a7,fun i a e=>by rw [←eC];exact (Y a (jA e)).2⟩
   have fr:∀{H5 H6:Hp},Same H3 H5->SameX as H5 H6->Same H3 H6:=fun s5 x b o e=>x b o (s5 b o e) fun z=>by rw [(Y b z).1] at e;cases e
   have inO:∀{b:Addr} {o:HO},H3 b=some o->b∉as:=fun e z=>by rw [(Y _ z).1] at e;cases e
   obtain⟨pt,lt,ys,rfl,b8,au,ry⟩:=Dm ht;have ae:=(s1.trans s2).trans s3;have av:=ae.trans s4;refine⟨pt,_,(2:Int),_,rfl,rfl,vI (av _ _ b8),rfl,lt,rfl,⟨_,uI (av _ _ au)⟩,?_⟩;refine Gi (K:=K) (a:=lt) (xs:=ys) (fun k σ H5=>∃(c5 c6 c7:Option V),σ=[some (.ref pt),some (.ref p),some (.ref ac),some (.ref dw),some (.ref acc),c5,c6,c7]/\Same H3 H5/\GridH H5 acc (ln (HS R C cs) (HS R C cs).length+1) (ln (WS C cs) (WS C cs).length+1) (Gf (HS R C cs) (WS C cs) (TW (WS C cs)) (cs.take k)) as)
    ⟨none,none,none,rfl,s4,g4⟩ (fun k σ H5 _ ⟨_,_,_,_,z,_⟩=>uI (z _ _ (ae _ _ au))) ?_ ?_
   ·rintro k v σ H5 hk ⟨c5,c6,c7,rfl,s5,g5⟩;obtain⟨X,hX,ad⟩:=Ga ry hk;have aw:=jA hX;have fx:=tl.fit X aw;have rm:=qm4 tl aw;obtain⟨b,wb,rfl,hb,b9⟩:=vm (ad.mono ae);have f1:=fx.down;have f2:=fx.across;have af:=s5 _ _ hb;have ax:Fit (HS R C cs).length (WS C cs).length X:=by rw [Bu,G4];exact fx
    refine⟨b,_,(0:Int),_,rfl,rfl,vI af,rfl,_,rfl,b,_,(0:Int),_,rfl,rfl,vI af,rfl,b,_,(2:Int),_,rfl,rfl,vI af,rfl,_,_,rfl,rfl,_,_,rfl,rfl,((X.top:Int)+(X.h:Int)+1),rfl,dw,_,rfl,uI (s5 _ _ h3),fun t6 ay=>?_⟩;have ec:Ax (v7 (HS R C cs) (R+1)) (some (X.top:Int)) (some ((X.top:Int)+(X.h:Int)+1))=Ir (HS R C cs) X.top (X.top+X.h):=T4 (q:=X.top+X.h) (by omega);rw [ec];have s6:=tI (o:=.lst (Ir (HS R C cs) X.top (X.top+X.h))) ay;have k6:=qd (H:=H5) (a:=t6) (o:=.lst (Ir (HS R C cs) X.top (X.top+X.h)));have n6:=yg g5 ay;generalize upd H5 t6 (.lst (Ir (HS R C cs) X.top (X.top+X.h)))=H6 at *;have aj:=s6 _ _ af;have g6:=g5.mono s6;refine⟨b,_,(1:Int),_,rfl,rfl,vI aj,rfl,_,rfl,b,_,(1:Int),_,rfl,rfl,vI aj,rfl,b,_,(3:Int),_,rfl,rfl,vI aj,rfl,_,_,rfl,rfl,_,_,rfl,rfl,((X.left:Int)+(X.w:Int)+1),rfl,ac,_,rfl,uI (s6 _ _ (s5 _ _ ao)),fun t7 az=>?_⟩;have ba:Ax (v7 (WS C cs) (C+1)) (some (X.left:Int)) (some ((X.left:Int)+(X.w:Int)+1))=Ir (WS C cs) X.left (X.left+X.w):=T4 (q:=X.left+X.w) (by omega);rw [ba];have s7:=tI (o:=.lst (Ir (WS C cs) X.left (X.left+X.w))) az;have k7:=qd (H:=H6) (a:=t7) (o:=.lst (Ir (WS C cs) X.left (X.left+X.w)));have n7:=yg g6 az;have b2:=s7 _ _ k6;generalize upd H6 t7 (.lst (Ir (WS C cs) X.left (X.left+X.w)))=H7 at *;have g7:=g6.mono s7;have bb:=(s5.trans s6).trans s7;refine⟨acc,t6,t7,HS R C cs,WS C cs,X,_,as,rfl,g7,b2,k7,n6,n7,ax,by rw [←eR];omega,by rw [←eC];omega,fun H8 x8 g8=>?_⟩;have ak:=fr bb x8;refine⟨b,_,(4:Int),_,rfl,rfl,vI (ak _ _ hb),rfl,acc,t6,t7,wb,HS R C cs,WS C cs,X,_,as,rfl,g8,x8 _ _ b2 n6,x8 _ _ k7 n7,vI (ak _ _ b9),n6,n7,ax,rm,fun H9 x9 g9=>?_⟩;refine⟨_,_,_,rfl,fr ak x9,?_⟩;have lk:=(bA.mp hX).1;have eX:cs[k]=X:=by rw [gA lk] at hX;exact nB hX
    rw [pD lk,eX];unfold Gf;rw [List.foldl_append];exact g9
   ·rintro σ H5 ⟨c5,c6,c7,rfl,s5,g5⟩;have ly:ys.length=cs.length:=by have:=ry.length;rw [aA] at this;exact this.symm
    rw [ly,pC] at g5;generalize hG:Gf (HS R C cs) (WS C cs) (TW (WS C cs)) cs=G at *;have one:∀i j,(G i j).length=1:=fun i j=>by rw [←hG];exact N8 _ _ i j cs _ rfl
    refine⟨rfl,acc,rfl,⟨_,uI g5.top⟩,fun m6 a9=>?_⟩;have nm:=yg g5 a9;have nma:acc≠m6:=fun z=>by rw [←z,g5.top] at a9;cases a9
    refine j4 (K:=K) (a:=acc) (xs:=as.map V.ref) (fun k σ1 H6=>∃(kk:Option V),σ1=[kk]/\Same H5 H6/\H6 m6=some (.lst (((List.range k).map fun i=>Av (Str.ofString "") ((List.range (ln (WS C cs) (WS C cs).length+1)).map (G i))++Str.ofString "\n").map V.str)))
     ⟨none,rfl,tI a9,qd⟩ (fun k σ1 H6 _ ⟨_,_,z,_⟩=>uI (z _ _ g5.top)) ?_ ?_
    ·rintro k v σ1 H6 hk ⟨kk,rfl,s6,k6⟩;rw [fA] at hk;obtain⟨a,ha,rfl⟩:=qB.mp hk;have lk:=(bA.mp ha).1;have ah:=s6 _ _ (g5.row k a ha);rw [qv2] at ah;dsimp only [jt];rw [kA rfl];have b3:∀y∈(List.range (ln (WS C cs) (WS C cs).length+1)).map (G k),y.length=1:=fun y hy=>by
      obtain⟨j,_,rfl⟩:=xA.mp hy;exact one k j
     have aa:=qc0 b3;rw [aA,mC] at aa;refine⟨rfl,_,a,(List.range (ln (WS C cs) (WS C cs).length+1)).map (G k),rfl,rfl,uI ah,by rw [aa,za7,←eC];omega,_,_,rfl,rfl,by rw [Q5,aa,zb0,←eC];exact tG (zf (by omega)),_,k6,zf (by rw [aA,aA,mC];have:=g5.len;rw [←eR] at this;omega),_,rfl,fun b o e=>?_,?_⟩
     ·rw [qu (qw e a9)];exact s6 _ _ e
     ·rw [qd,show List.range (k+1)=List.range k++[k] from uD,lA,lA];rfl
    ·rintro σ1 H6 ⟨kk,rfl,s6,k6⟩;rw [aA,g5.len] at k6;refine⟨_,m6,_,rfl,rfl,uI k6,?_,?_⟩
     ·have:=sum_le (l:=(List.range (ln (HS R C cs) (HS R C cs).length+1)).map fun i=>Av (Str.ofString "") ((List.range (ln (WS C cs) (WS C cs).length+1)).map (G i))++Str.ofString "\n") (m:=1000) (fun y hy=>by
       obtain⟨i,_,rfl⟩:=xA.mp hy;rw [len_app,Q5,zb0,qc0 (fun y hy=>by obtain⟨j,_,rfl⟩:=xA.mp hy;exact one i j),aA,mC,←eC]
       omega)
      rw [aA,mC,←eR] at this;rw [za7,Nat.mul_zero,Nat.add_zero,←eR];omega
     ·have:=q H6 ((ae.trans s5).trans s6);rw [eR,eC] at this;exact this
end
end KL
namespace KL
open PySem L2 GT PyProof.Rows
noncomputable abbrev Bc:Stmt:=(zg1 (top 21)).getD 0 (.Pass ⟨0,0,0,0⟩)
theorem Ul:FnScope ["self", "at"] ["self", "at"] (qm Bc):=fsc
theorem Z8 {P:Program} {w:World} {K:PySem.W.Frag} {mg:Str->Option Value} {base:Heap} {C:Addr} (X:K.In base) (G:base.Ns mainGlobals mg) (J:JX K "BadTable" "BadTable.__init__" Bc C):ExcJ P w K mg base "BadTable" C:=by
 obtain⟨fI,fd,e,q,F⟩:=J.ex;obtain⟨Cg,D,g1,g2,g3⟩:=J.g;have O:=zb3 X G e q;refine⟨⟨fI,fd,["self", "at"],O,?_,F.binds (fun _ _ _ _ _ _=>qp1 fun _ _=>rfl)⟩,cF X G e,J.k,J.n,J.m⟩;refine F.ok Ul (fun vs H Q E h=>?_) (fun cdv A outer s H vs Q E hr h=>?_)
 ·obtain⟨e1,y,rfl,_⟩:=h;rfl
 ·obtain⟨e1,y,rfl,S,j,U⟩:=h;refine⟨_,qj (yr (Wg (qc9 PySem.F.excBase_ValueError O) rfl (cF X G D) g1 g2 g3 rfl (qb (pv 0) (qb (qu1 (pv 1)) qi)))) (qp (qf7 J.k J.n (pv 0) (pv 1))),?_⟩;exact⟨S,fun x=>⟨_,x,rfl,j,_,rfl,j,U⟩⟩
theorem zx {n:Nat} (h:n<=1000000):n<=sizeLine:=by rw [qE];omega
noncomputable def Told (H:Hp) (CX:Addr) (i:Nat) (E:XK):Prop:=∀(dx:Addr) (H':Hp),Same H H'->H' dx=some (.xd [("at",.int (i:Int))])->E (.ref CX) (some dx) H'
noncomputable def ToldN (H:Hp) (CX:Addr) (E:XK):Prop:=∀(dx:Addr) (H':Hp),Same H H'->H' dx=some (.xd [("at",.non)])->E (.ref CX) (some dx) H'
inductive spG (f:Thg->Bool) (vs:List V) (H:Hp) (Q:VK) (e3:XK):Prop
 |mk (v:V) (g:Thg) (_:vs=[v]) (_:AtG H g v) (_:∀H',Same H H'->Q (.bl (f g)) H')
inductive spSticks (vs:List V) (H:Hp) (Q:VK) (e3:XK):Prop
 |mk (v:V) (x:Cell) (R C:Nat) (_:vs=[v,.int R,.int C]) (_:At H x.D v) (_:Q (.bl (decide (R < x.top+x.h\/C < x.left+x.w))) H)
inductive spFirst (vs:List V) (H:Hp) (Q:VK) (e3:XK):Prop
 |mk (v:V) (x:Cell) (_:vs=[v]) (_:At H x.D v) (_:∀t H',Same H H'->H' t=some (.tup [.int x.top,.int x.left])->Q (.ref t) H')
theorem qp5 {K:PySem.W.Frag} {H:Hp} {a:Addr} {bs:List Bool} {Q:VK} (h:H a=some (.lst (bs.map V.bl))) (q:Q (.bl (bs.all id)) H):rAll K [.ref a] H Q:=⟨a,bs,rfl,uI h,q⟩
theorem qy0 {n:Nat} {k:Int} (z:(!decide (V.int (n:Int)=V.int k))=true):(n:Int)≠k:=fun e=>by rw [e] at z;simp at z
theorem len_eq {n:Nat} {k:Int} (z:¬(!decide (V.int (n:Int)=V.int k))=true):(n:Int)=k:=cD fun e=>z (by
 rw [dB (fun y=>e (by injection y))]
 rfl)
theorem qq3 {α:Type} {l:List α} (h:l.length=3):∃a b c,l=[a,b,c]:=by
 match l,h with
 | [a,b,c],_=>exact⟨a,b,c,rfl⟩
theorem qn6 {α:Type} {l:List α} (h:l.length=5):∃a b c d e,l=[a,b,c,d,e]:=by
 match l,h with
 | [a,b,c,d,e],_=>exact⟨a,b,c,d,e,rfl⟩
theorem qn4 {ds:List Thg} (h:ds.length≠3):xu (.tup ds)=false:=by
 unfold xu;split
 ·rename_i heq;injection heq with heq;subst heq;exact absurd rfl h
 ·rfl
theorem qp2 {ds:List Thg} (h:ds.length≠5):yj (.tup ds)=false:=by
 unfold yj;split
 ·rename_i heq;injection heq with heq;subst heq;exact absurd rfl h
 ·rfl
section
variable {P:Program} {w:World} {K:PySem.W.Frag} {mg:Str->Option Value} {base:Heap}
theorem Uo:FnScope ["thing"] ["thing"] (qm (top 30)):=fsc
theorem Ua (T:Txt mg) (f:Addr) (fd:FuncData) (F:Fun K "is_number" "is_number" (top 30) f fd):FnOk P w K mg base CX0 1 f fd ["thing"] (spG Bt):=by
 refine F.ok Uo (fun vs H Q E h=>?_) (fun cdv A outer s H vs Q E hr h=>?_)
 ·obtain⟨v,g,rfl,_⟩:=h;rfl
 ·obtain⟨v,g,rfl,j,q⟩:=h;refine⟨_,(qp (zb (Bf (q8 (jd (K:=K) rfl) (by rfl) T.isinstance oB (qb (pv 0) (qb (yh (v:=.ty "int") rfl T.int PyProof.Rows.boot_int rfl) qi))) (G3 (zn7 (q8 (jd (K:=K) rfl) (by rfl) T.isinstance oB (qb (pv 0) (qb (yh (v:=.ty "bool") rfl T.bool PyProof.Rows.boot_bool rfl) qi)))))))),?_⟩;refine⟨_, "int",_,isInt g,rfl,j.ty,ze5 g,isInt g,rfl,?_⟩;have q0:=q H fun _ _ z=>z;cases g with
  |int i=>exact Ab ⟨_, "bool",_,zs1 (.int i),rfl,j.ty,za1 _,_,rfl,q0⟩
  |bl b=>exact Ab ⟨_, "bool",_,zs1 (.bl b),rfl,j.ty,za1 _,_,rfl,q0⟩
  |_=>exact ul q0
theorem Zg:FnScope ["thing"] ["thing"] (qm (top 29)):=fsc
theorem Zk (D:∃t,mg "LONGEST_SIDE" = some (.int 16 t)) (O:Cal P w K mg base 1 "is_number" ["thing"] (spG Bt)) (f:Addr) (fd:FuncData) (F:Fun K "is_side" "is_side" (top 29) f fd):FnOk P w K mg base CX0 2 f fd ["thing"] (spG j9):=by
 refine F.ok Zg (fun vs H Q E h=>?_) (fun cdv A outer s H vs Q E U h=>?_)
 ·obtain⟨v,g,rfl,_⟩:=h;rfl
 ·obtain⟨v,g,rfl,S,q⟩:=h;obtain⟨t_LONGEST_SIDE,G⟩:=D;have J:=U.mono (j:=1) (by decide);refine⟨_,(qp (zb (Bf (qy O J rfl (qb (pv 0) qi)) (G3 (Qi J6 J6 qg (pv 0) (Oc (v:=.int 16) rfl G ⟨_,rfl⟩)))))),?_⟩;refine⟨v,g,rfl,S,fun H1 s1=>?_⟩;have q1:=q H1 s1;cases g with
  |int i=>
   obtain rfl:=S.int_inv;refine⟨true,rfl,Ab ?_⟩;refine⟨_,_,rfl,rfl,_,rfl,kh (fun z=>?_) (fun z=>?_)⟩
   ·refine⟨_,_,rfl,rfl,?_⟩
    try dsimp only
    have q1:Q (.bl (decide (1<=i) && decide (i<=16))) H1:=q1;rw [z,Bool.true_and] at q1;exact q1
   ·have q1:Q (.bl (decide (1<=i) && decide (i<=16))) H1:=q1;rw [eq_false_of_ne_true z,qH] at q1;exact q1
  |_=>exact⟨false,rfl,ul q1⟩
theorem Ue:FnScope ["thing"] ["thing"] (qm (top 28)):=fsc
theorem Ug (T:Txt mg) (G:Cal P w K mg base 2 "is_side" ["thing"] (spG j9)) (f:Addr) (fd:FuncData) (F:Fun K "has_frame" "has_frame" (top 28) f fd):FnOk P w K mg base CX0 3 f fd ["thing"] (spG xu):=by
 refine F.ok Ue (fun vs H Q E h=>?_) (fun cdv A outer s H vs Q E U h=>?_)
 ·obtain⟨v,g,rfl,_⟩:=h;rfl
 ·obtain⟨v,g,rfl,S,q⟩:=h;have D:=U.mono (j:=2) (by decide);refine⟨_,(qj (j6 (wI (wu (ye (jz (q8 (jd (K:=K) rfl) (by rfl) T.isinstance oB (qb (pv 0) (qb (yh (v:=.ty "tuple") rfl T.tuple xD rfl) qi))))) (v5 (zp qc1 (q8 (je (K:=K) rfl) (by rfl) T.len vB (qb (pv 0) qi)) qg (zr _))))) (qp (zb wz)) zq)
   (qp (zb (Bf (qy G D rfl (qb (qz (qt (K:=K) rfl) (pv 0) qg (fun _ _=>rfl)) qi)) (Bf (qy G D rfl (qb (qz (qt (K:=K) rfl) (pv 0) qg (fun _ _=>rfl)) qi)) (G3 (q8 (jd (K:=K) rfl) (by rfl) T.isinstance oB (qb (qz (qt (K:=K) rfl) (pv 0) qg (fun _ _=>rfl)) (qb (yh (v:=.ty "list") rfl T.list bH rfl) qi))))))))),?_⟩
  refine⟨_, "tuple",_,isTup g,rfl,S.ty,Wr g,isTup g,rfl,?_⟩;cases g with
  |tup ds=>
   obtain⟨p,xs,rfl,hp,J⟩:=S.tup_inv;refine ul ?_;have lx:=J.length;refine⟨p,_,rfl,.inr (vI hp),rfl,_,rfl,kh (fun z=>?_) (fun z=>?_)⟩
   ·have z:=qy0 z;have q0:=q H fun _ _ z=>z;rw [qn4 (by omega)] at q0;exact q0
   ·have z:=len_eq z;obtain⟨a,b,c,rfl⟩:=qq3 (l:=ds) (by omega);cases J with
    |cons Y J=>
    cases J with
    |cons Z J=>
    cases J with
    |cons r3 J=>
    cases J;refine⟨p,_,(0:Int),_,rfl,rfl,vI hp,rfl,_,a,rfl,Y,fun H1 s1=>?_⟩;cases e1:j9 a with
    |false=>
     have q1:=q H1 s1;have no:xu (.tup [a,b,c])=false:=by cases c<;>first |rfl |(show (j9 a && j9 b)=false;rw [e1];rfl)
     rw [no] at q1;exact⟨false,rfl,ul q1⟩
    |true=>
     refine⟨true,rfl,Ab ?_⟩;refine⟨p,_,(1:Int),_,rfl,rfl,vI (s1 _ _ hp),rfl,_,b,rfl,Z.mono s1,fun H2 s2=>?_⟩;have O:=s1.trans s2;have q2:=q H2 O;cases e2:j9 b with
     |false=>
      have no:xu (.tup [a,b,c])=false:=by cases c<;>first |rfl |(show (j9 a && j9 b)=false;rw [e1,e2];rfl)
      rw [no] at q2;exact⟨false,rfl,ul q2⟩
     |true=>
      refine⟨true,rfl,Ab ?_⟩;refine⟨p,_,(2:Int),_,rfl,rfl,vI (O _ _ hp),rfl,_, "list",_,zb9 c,rfl,(r3.mono O).ty,zd7 c,?_⟩;have yes:xu (.tup [a,b,c])=zb9 c:=by cases c<;>first |rfl |(show (j9 a && j9 b)=true;rw [e1,e2];rfl)
      rw [yes] at q2;exact q2
  |_=>exact Ab (Ab (q H fun _ _ z=>z))
theorem zk8:(["sign"]:List Str).Nodup:=by decide +kernel
noncomputable abbrev iswScope:Scope:=jh (Gr (yc (nth (zy (top 33)) 1)) 0)
theorem Z7:FnScope ["thing"] ["thing"] (qm (top 33)):=fsc
theorem Ze (T:Txt mg) (D:∃t,mg "LONGEST_WORD" = some (.int 12 t)) (J:∃t,mg "SIGNS" = some (.str (Str.ofString "abcdefghijklmnopqrstuvwxyz0123456789") t)) (f:Addr) (fd:FuncData) (F:Fun K "is_word" "is_word" (top 33) f fd):FnOk P w K mg base CX0 1 f fd ["thing"] (spG xj):=by
 refine F.ok Z7 (fun vs H Q E h=>?_) (fun cdv A outer s H vs Q E hr h=>?_)
 ·obtain⟨v,g,rfl,_⟩:=h;rfl
 ·obtain⟨v,g,rfl,ag,q⟩:=h;obtain⟨t_LONGEST_WORD,G⟩:=D;obtain⟨t_SIGNS,O⟩:=J;have S:∀{X:Cx},CompOk X iswScope (Ih X.env.cells iswScope.names []) ["sign"] [none]:=G6;refine⟨_,(qj (j6 (wI (wu (ye (jz (q8 (jd (K:=K) rfl) (by rfl) T.isinstance oB (qb (pv 0) (qb (yh (v:=.ty "str") rfl T.str PyProof.Rows.boot_str rfl) qi))))) (v5 (ye (Xz J6 J6 qg (q8 (ji (K:=K) rfl) (by rfl) T.len vB (qb (pv 0) qi)) (Oc (v:=.int 12) rfl G ⟨_,rfl⟩)))))) (qp (zb wz)) zq)
   (qp (zb (q8 (Il (K:=K) rfl rfl) (by rfl) T.all lH (qb (jx S rfl (qm3 (K:=K) rfl (pv 0)) (fun _ _ _ _=>(pgC (i:=0) zk8)) (fun _ _ _ _=>jy) (fun _ _ _ _=>(xf qd1 (pv 0) (Oc (v:=.str (Str.ofString "abcdefghijklmnopqrstuvwxyz0123456789")) rfl O ⟨_,rfl⟩) (by with_unfolding_all rfl)))) qi))))),?_⟩
  generalize a3:Str.ofString "abcdefghijklmnopqrstuvwxyz0123456789" = sg;have a4:sg=GT.signs:=a3.symm;refine⟨_, "str",_,isStr g,rfl,ag.ty,qn7 g,isStr g,rfl,?_⟩;cases g with
  |str x=>
   obtain⟨rfl,hx⟩:=ag.str_inv;refine ul ?_;have q0:∀H',Same H H'->Q (.bl (decide (1<=x.length) && decide (x.length<=12) && x.cps.toList.all ze3)) H':=q;refine⟨x,rfl,zx (by omega),_,_,rfl,rfl,_,rfl,kh (fun z1=>?_) (fun z1=>?_)⟩
   ·have z1:=lB z1;refine⟨_,_,rfl,rfl,_,rfl,kh (fun z2=>?_) (fun z2=>?_)⟩
    ·have q0:=q0 H fun _ _ z=>z;rw [pH] at z2;have z2:¬x.length<=12:=fun y=>of_decide_eq_false z2 (by omega);rw [dB z2,Bool.and_false,qH] at q0;exact q0
    ·have z2:x.length<=12:=by
      have:¬(!decide ((x.length:Int)<=12))=true:=z2;rw [pH,Bool.not_eq_false,sF] at this;omega
     refine⟨x,rfl,fun acc U=>?_⟩;refine Yl (x:=x) (fun j σ1 H2=>∃(c1:Option V),σ1=[c1]/\Same H H2/\j<=12/\H2 acc=some (.lst (((x.cps.toList.take j).map ze3).map V.bl)))
      ⟨none,rfl,tI U,yB _,qd⟩ ?_ ?_
     ·intro j c σ1 H2 hj Z;refine Dk Z fun c1 Y=>?_;have eI:=Y.1;have s2:=Y.2.1;have j2:=Y.2.2.1;have h2:=Y.2.2.2;clear Z Y;subst eI;have hjl:j < x.length:=(fG.mp hj).1;have a5:x.cps.toList[j]? = some c:=by rw [kC];exact hj
      dsimp only [jt];rw [kA rfl];refine⟨_,sg,rfl,rfl,?_⟩;rw [a4];refine⟨_,h2,zf (by rw [aA,aA,cB];omega),_,rfl,fun b o e=>?_,by omega,?_⟩
      ·rw [qu (qw e U)];exact s2 _ _ e
      ·rw [qd,qD,a5,lA,lA];rfl
     intro σ1 H2 Z;refine Dk Z fun c1 Y=>?_;have s2:=Y.2.1;have h2:=Y.2.2.2;have h2:H2 acc=some (.lst ((x.cps.toList.map ze3).map V.bl)):=by rw [h2];congr 4;exact uB (by show x.cps.toList.length<=x.cps.size;rw [pB];exact dA _)
     have q2:=q0 H2 s2;rw [eA (by omega:1<=x.length),eA z2,Bool.true_and,Bool.true_and] at q2;refine qp5 h2 ?_;have e:(x.cps.toList.map ze3).all id=x.cps.toList.all ze3:=by rw [List.all_map];rfl
     rw [e];exact q2
   ·have z1:¬1<=x.length:=fun y=>z1 (eA (by omega));have q0:=q0 H fun _ _ z=>z;rw [dB z1,qH,qH] at q0;exact⟨false,rfl,Ab q0⟩
  |_=>exact Ab (Ab (q H fun _ _ z=>z))
theorem zo1:(["part"]:List Str).Nodup:=by decide +kernel
noncomputable abbrev arwScope:Scope:=jh (Gr (yc (nth (zy (top 32)) 1)) 0)
theorem Tr:FnScope ["thing"] ["thing"] (qm (top 32)):=fsc
theorem Uq (T:Txt mg) (D:∃t,mg "MOST_WORDS" = some (.int 12 t)) (O:Cal P w K mg base 1 "is_word" ["thing"] (spG xj)) (f:Addr) (fd:FuncData) (F:Fun K "are_words" "are_words" (top 32) f fd):FnOk P w K mg base CX0 2 f fd ["thing"] (spG wg):=by
 refine F.ok Tr (fun vs H Q E h=>?_) (fun cdv A outer s H vs Q E hr h=>?_)
 ·obtain⟨v,g,rfl,_⟩:=h;rfl
 ·obtain⟨v,g,rfl,ag,q⟩:=h;obtain⟨t_MOST_WORDS,G⟩:=D;have J:=hr.mono (j:=1) (by decide);have S:∀{X:Cx},CompOk X arwScope (Ih X.env.cells arwScope.names []) ["part"] [none]:=G6;refine⟨_,(qj (j6 (wI (wu (ye (jz (q8 (jd (K:=K) rfl) (by rfl) T.isinstance oB (qb (pv 0) (qb (yh (v:=.ty "tuple") rfl T.tuple xD rfl) qi))))) (v5 (zp J8 (q8 (je (K:=K) rfl) (by rfl) T.len vB (qb (pv 0) qi)) (Oc (v:=.int 12) rfl G ⟨_,rfl⟩) (zr _))))) (qp (zb wz)) zq)
   (qp (zb (q8 (Il (K:=K) rfl rfl) (by rfl) T.all lH (qb (jx S rfl (By (K:=K) rfl (pv 0)) (fun _ _ _ _=>(pgC (i:=0) zo1)) (fun _ _ _ _=>jy) (fun _ _ _ _=>(qy O J rfl (qb (pv 0) qi)))) qi))))),?_⟩
  refine⟨_, "tuple",_,isTup g,rfl,ag.ty,Wr g,isTup g,rfl,?_⟩;cases g with
  |tup ds=>
   obtain⟨t,xs,rfl,ht,rx⟩:=ag.tup_inv;have lx:=rx.length;have q0:∀H',Same H H'->Q (.bl (decide (ds.length<=12) && ds.all xj)) H':=q;refine ul ?_;refine⟨t,_,rfl,.inr (vI ht),_,_,rfl,rfl,_,rfl,kh (fun z=>?_) (fun z=>?_)⟩
   ·have z:=lB z;have q0:=q0 H fun _ _ z=>z;rw [dB (by omega),qH] at q0;exact q0
   have z:ds.length<=12:=cD fun y=>z (eA (by omega));refine⟨t,rfl,⟨_,vI ht⟩,fun acc U=>?_⟩;refine Ij (K:=K) (a:=t) (xs:=xs) (fun j σ1 H2=>∃(c1:Option V),σ1=[c1]/\Same H H2/\H2 acc=some (.lst (((ds.take j).map xj).map V.bl)))
    ⟨none,rfl,tI U,qd⟩ (fun j σ1 H2 _ ⟨_,_,s2,_⟩=>vI (s2 _ _ ht)) ?_ ?_
   ·intro j x σ1 H2 hj Z;refine Dk Z fun c1 Y=>?_;have eI:=Y.1;have s2:=Y.2.1;have h2:=Y.2.2;clear Z Y;subst eI;have hjl:=(bA.mp hj).1;obtain⟨d,hd,ad⟩:=yI rx hj;dsimp only [jt];rw [kA rfl];refine⟨x,d,rfl,ad.mono s2,fun H3 s3=>?_⟩;refine⟨_,s3 _ _ h2,zf (by rw [aA,aA,cB];omega),_,rfl,fun b o e=>?_,?_⟩
    ·rw [qu (qw e U)];exact s3 _ _ (s2 _ _ e)
    ·rw [qd,qD,hd,lA,lA];rfl
   intro σ1 H2 Z;refine Dk Z fun c1 Y=>?_;have s2:=Y.2.1;have h2:=Y.2.2;rw [←lx,pC] at h2;have q2:=q0 H2 s2;rw [eA z,Bool.true_and] at q2;refine qp5 h2 ?_;have e:(ds.map xj).all id=ds.all xj:=by rw [List.all_map];rfl
   rw [e];exact q2
  |_=>exact Ab (Ab (q H fun _ _ z=>z))
end
theorem qx2 {a b c d e:Thg} (h:([a,b,c,d].map Bt).all id=false):yj (.tup [a,b,c,d,e])=false:=by
 unfold yj;split
 ·rename_i heq;injection heq with heq;simp only [iH,and_true] at heq;obtain⟨rfl,rfl,rfl,rfl,rfl⟩:=heq;cases h
 ·rfl
theorem zh4 {a b c d:Thg} (h:([a,b,c,d].map Bt).all id=true):∃i j k l,a=.int i/\b=.int j/\c=.int k/\d=.int l:=by
 simp only [aC,List.map_nil,List.all_cons,List.all_nil,id,Bool.and_true,bC] at h;obtain⟨h1,h2,D,F⟩:=h;have n:∀{g:Thg},Bt g=true->∃i,g=.int i:=fun {g} z=>by cases g<;>first |exact⟨_,rfl⟩ |cases z
 obtain⟨i,rfl⟩:=n h1;obtain⟨j,rfl⟩:=n h2;obtain⟨k,rfl⟩:=n D;obtain⟨l,rfl⟩:=n F;exact⟨i,j,k,l,rfl,rfl,rfl,rfl⟩
section
variable {P:Program} {w:World} {K:PySem.W.Frag} {mg:Str->Option Value} {base:Heap}
theorem zk3:(["part"]:List Str).Nodup:=by decide +kernel
noncomputable abbrev icnScope:Scope:=jh (Gr (operandOf (zm6 (nth (zy (top 31)) 1))) 0)
theorem qa0:FnScope ["thing"] ["thing"] (qm (top 31)):=fsc
theorem Zj (T:Txt mg) (J:Cal P w K mg base 1 "is_number" ["thing"] (spG Bt)) (O:Cal P w K mg base 2 "are_words" ["thing"] (spG wg)) (f:Addr) (fd:FuncData) (F:Fun K "is_cell" "is_cell" (top 31) f fd):FnOk P w K mg base CX0 3 f fd ["thing"] (spG yj):=by
 refine F.ok qa0 (fun vs H Q E h=>?_) (fun cdv A outer s H vs Q E hr h=>?_)
 ·obtain⟨v,g,rfl,_⟩:=h;rfl
 ·obtain⟨v,g,rfl,ag,q⟩:=h;have D:=hr.mono (j:=1) (by decide);have G:=hr.mono (j:=2) (by decide);have a3:∀{X:Cx},CompOk X icnScope (Ih X.env.cells icnScope.names []) ["part"] [none]:=G6;refine⟨_,(qj (j6 (wI (wu (ye (jz (q8 (jd (K:=K) rfl) (by rfl) T.isinstance oB (qb (pv 0) (qb (yh (v:=.ty "tuple") rfl T.tuple xD rfl) qi))))) (v5 (zp qc1 (q8 (je (K:=K) rfl) (by rfl) T.len vB (qb (pv 0) qi)) qg (zr _))))) (qp (zb wz)) zq)
   (qj (j6 (ye (jz (q8 (Il (K:=K) rfl rfl) (by rfl) T.all lH (qb (jx a3 rfl (By (K:=K) rfl (zm (Nr (K:=K) rfl) (pv 0) jk (zj qg))) (fun _ _ _ _=>(pgC (i:=0) zk3)) (fun _ _ _ _=>jy) (fun _ _ _ _=>(qy J D rfl (qb (pv 0) qi)))) qi)))) (qp (zb wz)) zq)
   (qj (j6 (wI (wu (zp Qj (qz (qt (K:=K) rfl) (pv 0) qg (fun _ _=>rfl)) qg (zr _)) (wu (zp Qj (qz (qt (K:=K) rfl) (pv 0) qg (fun _ _=>rfl)) qg (zr _)) (wu (zp Qj (qz (qt (K:=K) rfl) (pv 0) qg (fun _ _=>rfl)) qg (zr _)) (v5 (zp Qj (qz (qt (K:=K) rfl) (pv 0) qg (fun _ _=>rfl)) qg (zr _))))))) (qp (zb wz)) zq)
   (qp (zb (qy O G rfl (qb (qz (qt (K:=K) rfl) (pv 0) qg (fun _ _=>rfl)) qi))))))),?_⟩
  refine⟨_, "tuple",_,isTup g,rfl,ag.ty,Wr g,isTup g,rfl,?_⟩;cases g with
  |tup ds=>
   obtain⟨t,xs,rfl,ht,S⟩:=ag.tup_inv;have lx:=S.length;refine ul ?_;refine⟨t,_,rfl,.inr (vI ht),rfl,_,rfl,kh (fun z=>?_) (fun z=>?_)⟩
   ·have z:=qy0 z;have q0:=q H fun _ _ z=>z;rw [qp2 (by omega)] at q0;exact q0
   have z:=len_eq z;obtain⟨a,b,c,d,e,rfl⟩:=qn6 (l:=ds) (by omega);obtain⟨xa,xb,xc,xd,xe,rfl⟩:=qn6 (l:=xs) (by omega);have U:AtGL H [a,b,c,d] [xa,xb,xc,xd]:=by
    cases S with
    |cons r1 S=>
    cases S with
    |cons r2 S=>
    cases S with
    |cons r3 S=>
    cases S with
    |cons U S=>exact .cons r1 (.cons r2 (.cons r3 (.cons U .nil)))
   have re:AtG H e xe:=by
    cases S with
    |cons r1 S=>
    cases S with
    |cons r2 S=>
    cases S with
    |cons r3 S=>
    cases S with
    |cons U S=>
    cases S with
    |cons r5 S=>exact r5
   refine⟨_,rfl,t,_,rfl,vI ht,(fun z=>absurd z.2 (by show ¬HT.sIx 5 5 (some 4)=5;decide)),fun p hp=>⟨p,rfl,⟨_,vI qd⟩,fun acc a4=>?_⟩⟩;have s1:Same H (upd H p (.tup (Ax [xa,xb,xc,xd,xe] none (some 4)))):=tI hp;have k1:upd H p (.tup (Ax [xa,xb,xc,xd,xe] none (some 4))) p=some (.tup [xa,xb,xc,xd]):=qd;generalize hH1:upd H p (.tup (Ax [xa,xb,xc,xd,xe] none (some 4)))=H1 at *;refine Ij (K:=K) (a:=p) (xs:=[xa,xb,xc,xd]) (fun j σ1 H2=>∃(c1:Option V),σ1=[c1]/\Same H1 H2/\H2 acc=some (.lst ((([a,b,c,d].take j).map Bt).map V.bl)))
    ⟨none,rfl,tI a4,qd⟩ (fun j σ1 H2 _ ⟨_,_,s2,_⟩=>vI (s2 _ _ k1)) ?_ ?_
   ·intro j y σ1 H2 hj hI;refine Dk hI fun c1 hJ=>?_;have eI:=hJ.1;have s2:=hJ.2.1;have h2:=hJ.2.2;clear hI hJ;subst eI;have hjl:j < 4:=(bA.mp hj).1;obtain⟨d',hd,ad⟩:=yI U hj;dsimp only [jt];rw [kA rfl];refine⟨y,d',rfl,ad.mono (s1.trans s2),fun H3 s3=>?_⟩;refine⟨_,s3 _ _ h2,zf (by rw [aA,aA,cB];omega),_,rfl,fun b' o e=>?_,?_⟩
    ·rw [qu (qw e a4)];exact s3 _ _ (s2 _ _ e)
    ·rw [qd,qD,hd,lA,lA];rfl
   intro σ1 H2 hI;refine Dk hI fun c1 hJ=>?_;have s2:=hJ.2.1;have h2:H2 acc=some (.lst (([a,b,c,d].map Bt).map V.bl)):=hJ.2.2;clear hI hJ;unfold qr0;refine qp5 h2 ?_;have Y:=s1.trans s2;refine⟨_,rfl,?_⟩;cases en:([a,b,c,d].map Bt).all id with
   |false=>have q2:=q H2 Y;rw [qx2 en] at q2;exact Ab q2
   |true=>
    refine ul ?_;obtain⟨i,j,k,l,rfl,rfl,rfl,rfl⟩:=zh4 en;have ea:xa=.int i/\xb=.int j/\xc=.int k/\xd=.int l:=by
     cases U with
     |cons r1 U=>
     cases U with
     |cons r2 U=>
     cases U with
     |cons r3 U=>
     cases U with
     |cons r5 U=>exact⟨r1.int_inv,r2.int_inv,r3.int_inv,r5.int_inv⟩
    obtain⟨rfl,rfl,rfl,rfl⟩:=ea;have Z:=Y _ _ ht;have q0:∀H',Same H H'->Q (.bl (decide (0<=i) && decide (0<=j) && decide (1<=k) && decide (1<=l) && wg e)) H':=q;have q2:=q0 H2 Y;refine⟨t,_,(0:Int),_,rfl,rfl,vI Z,rfl,_,_,rfl,rfl,_,rfl,kh (fun z=>?_) (fun z1=>?_)⟩
    ·rw [dB (by have:=lB z;omega)] at q2;exact Ab q2
    refine⟨t,_,(1:Int),_,rfl,rfl,vI Z,rfl,_,_,rfl,rfl,_,rfl,kh (fun z=>?_) (fun z2=>?_)⟩
    ·rw [dB (by have:=lB z;omega:¬0<=j),Bool.and_false] at q2;exact q2
    refine⟨t,_,(2:Int),_,rfl,rfl,vI Z,rfl,_,_,rfl,rfl,_,rfl,kh (fun z=>?_) (fun z3=>?_)⟩
    ·rw [dB (by have:=lB z;omega:¬1<=k),Bool.and_false] at q2;exact q2
    refine⟨t,_,(3:Int),_,rfl,rfl,vI Z,rfl,_,_,rfl,rfl,_,rfl,kh (fun z=>?_) (fun z4=>?_)⟩
    ·rw [dB (by have:=lB z;omega:¬1<=l),Bool.and_false] at q2;exact q2
    refine⟨t,_,(4:Int),_,rfl,rfl,vI Z,rfl,xe,e,rfl,re.mono Y,fun H3 s3=>?_⟩;have q3:=q0 H3 (Y.trans s3);rw [eA (Int.not_lt.mp fun y=>z1 (eA y):0<=i),eA (Int.not_lt.mp fun y=>z2 (eA y):0<=j),eA (Int.not_lt.mp fun y=>z3 (eA y):1<=k),eA (Int.not_lt.mp fun y=>z4 (eA y):1<=l)] at q3;exact q3
  |_=>exact Ab (Ab (q H fun _ _ z=>z))
theorem Od:FnScope ["cell", "rows", "columns"] ["cell", "rows", "columns"] (qm (top 34)):=fsc
theorem N7 (f:Addr) (fd:FuncData) (F:Fun K "sticks_out" "sticks_out" (top 34) f fd):FnOk P w K mg base CX0 1 f fd ["cell", "rows", "columns"] spSticks:=by
 refine F.ok Od (fun vs H Q E h=>?_) (fun cdv A outer s H vs Q E hr h=>?_)
 ·obtain⟨v,x,R,C,rfl,_⟩:=h;rfl
 ·obtain⟨v,x,R,C,rfl,hx,q⟩:=h;obtain⟨b,wb,rfl,hb,hwb⟩:=vm hx;refine⟨_,(qp (zb (zs3 (xf J8 (qx zg (qz (qt (K:=K) rfl) (pv 0) qg (fun _ _=>rfl)) (qz (qt (K:=K) rfl) (pv 0) qg (fun _ _=>rfl))) (pv 1) (zr _)) (G3 (xf J8 (qx zg (qz (qt (K:=K) rfl) (pv 0) qg (fun _ _=>rfl)) (qz (qt (K:=K) rfl) (pv 0) qg (fun _ _=>rfl))) (pv 2) (zr _)))))),?_⟩;refine⟨b,_,(0:Int),_,rfl,rfl,vI hb,rfl,b,_,(2:Int),_,rfl,rfl,vI hb,rfl,_,_,rfl,rfl,_,_,rfl,rfl,_,rfl,kh (fun z=>?_) (fun z=>?_)⟩
  ·have z:=lB z;rw [eA (.inl (by omega))] at q;exact q
  have z:¬_:=fun y=>z (eA y);refine⟨b,_,(1:Int),_,rfl,rfl,vI hb,rfl,b,_,(3:Int),_,rfl,rfl,vI hb,rfl,_,_,rfl,rfl,_,_,rfl,rfl,?_⟩
  try dsimp only
  have e:decide ((C:Int) < (x.left:Int)+(x.w:Int))=decide (R < x.top+x.h\/C < x.left+x.w):=decide_eq_decide.mpr ⟨fun y=>.inr (by omega),fun y=>y.elim (fun y=>absurd (by omega) z) fun y=>by omega⟩;rw [e];exact q
theorem Ma:FnScope ["cell"] ["cell"] (qm (top 35)):=fsc
theorem Ls (f:Addr) (fd:FuncData) (F:Fun K "first_place" "first_place" (top 35) f fd):FnOk P w K mg base CX0 1 f fd ["cell"] spFirst:=by
 refine F.ok Ma (fun vs H Q E h=>?_) (fun cdv A outer s H vs Q E hr h=>?_)
 ·obtain⟨v,x,rfl,_⟩:=h;rfl
 ·obtain⟨v,x,rfl,hx,q⟩:=h;obtain⟨b,wb,rfl,hb,hwb⟩:=vm hx;refine⟨_,(qp (zb (yu (qb (qz (qt (K:=K) rfl) (pv 0) qg (fun _ _=>rfl)) (qb (qz (qt (K:=K) rfl) (pv 0) qg (fun _ _=>rfl)) qi))))),?_⟩;exact⟨b,_,(0:Int),_,rfl,rfl,vI hb,rfl,b,_,(1:Int),_,rfl,rfl,vI hb,rfl,by show 2<=sizeLine;decide,fun t j=>q t _ (tI j) qd⟩
end
inductive spPlaces (vs:List V) (H:Hp) (Q:VK) (e3:XK):Prop
 |mk (v:V) (x:Cell) (_:vs=[v]) (_:At H x.D v) (_:x.top<=100) (_:x.left<=100) (_:x.h<=17) (_:x.w<=17) (_:∀(r:Addr) (xs:List V) (H':Hp),Same H H'->H' r=some (.lst xs)->AtL H' ((List.range (x.h * x.w)).map (Bx x)) xs->Q (.ref r) H')
section
variable {P:Program} {w:World} {K:PySem.W.Frag} {mg:Str->Option Value} {base:Heap}
theorem zm4:(["column", "row"]:List Str).Nodup:=by decide +kernel
noncomputable abbrev qv3:Scope:=jh (Gr (yc (nth (bodyOf (nth (zy (top 36)) 1)) 0)) 0)
theorem sc_places:FnScope ["cell", "found", "row"] ["cell"] (qm (top 36)):=fsc
theorem qf2 (T:Txt mg) (f:Addr) (fd:FuncData) (F:Fun K "places" "places" (top 36) f fd):FnOk P w K mg base CX0 1 f fd ["cell"] spPlaces:=by
 refine F.ok sc_places (fun vs H Q E h=>?_) (fun cdv A outer s H vs Q E hr h=>?_)
 ·obtain⟨v,x,rfl,_⟩:=h;rfl
 ·obtain⟨v,x,rfl,hx,b1,b2,b3,b4,q⟩:=h;obtain⟨a,wb,ws,rfl,ha,hwb,aw⟩:=Cell.at_inv hx;have J:=Bg (X:=(vz CX0 P w K mg base ["cell", "found", "row"] "places" (qm (top 36)) f cdv A outer s H E).nox) (N:=["cell", "found", "row"]) (N1:=["column", "row"]) (cap:=[none,some 2]) (scope:=qv3) (sc:=qm (top 36)) (s.heap.objs.size+1);have eh:((x.top:Int)+(x.h:Int) - (x.top:Int)).toNat=x.h:=by omega
  have ew:((x.left:Int)+(x.w:Int) - (x.left:Int)).toNat=x.w:=by omega
  refine⟨_,(qj (psS (i:=1) sc_places.nd (vf qi))
   (qj (j8 cC rfl (yz rfl T.range (qb (qz (qt (K:=K) rfl) (pv 0) qg (fun _ _=>rfl)) (qb (qx zg (qz (qt (K:=K) rfl) (pv 0) qg (fun _ _=>rfl)) (qz (qt (K:=K) rfl) (pv 0) qg (fun _ _=>rfl))) qi))) (pgN (i:=2) sc_places.nd) (qp (yr (xn (K:=K) rfl wD PySem.F.slot_list_extend PySem.F.type_list_extend qg9 (pv 1) (qb (jx J rfl (yz rfl T.range (qb (qz (qt (K:=K) rfl) (pv 0) qg (fun _ _=>rfl)) (qb (qx zg (qz (qt (K:=K) rfl) (pv 0) qg (fun _ _=>rfl)) (qz (qt (K:=K) rfl) (pv 0) qg (fun _ _=>rfl))) qi))) (fun _ _ _ _=>(pgC (i:=0) zm4)) (fun _ _ _ _=>jy) (fun _ _ _ _=>(yu (qb (pv 1) (qb (pv 0) qi))))) qi)))))
   (qp (zb (pv 1))))),?_⟩
  refine⟨by show 0<=sizeLine;decide,fun l hl=>?_⟩;have s1:=tI (o:=.lst []) hl;have U:=s1 _ _ ha;refine⟨a,_,(0:Int),_,rfl,rfl,vI U,rfl,a,_,(0:Int),_,rfl,rfl,vI U,rfl,a,_,(2:Int),_,rfl,rfl,vI U,rfl,_,_,rfl,rfl,(x.top:Int),(x.top:Int)+(x.h:Int),rfl,⟨by omega,by omega,by omega,by omega⟩,?_⟩;rw [eh];refine j5 (n:=x.h) (fun i σ H2=>∃(row:Option V) (xs:List V),σ=[some (.ref a),some (.ref l),row]/\Same H H2/\H2 l=some (.lst xs)/\AtL H2 ((List.range (i * x.w)).map (Bx x)) xs)
   ⟨none,[],rfl,s1,qd,by rw [Nat.zero_mul];exact .nil⟩ ?_ ?_
  ·intro i σ H2 hi G;refine Mm G fun row xs D=>?_;have Y:=D.1;have s2:=D.2.1;have O:=D.2.2.1;have a2:=D.2.2.2;clear G D;subst Y;have Z:=s2 _ _ ha;refine⟨.inl ⟨rfl,_,uI O⟩,a,_,(1:Int),_,rfl,rfl,vI Z,rfl,a,_,(1:Int),_,rfl,rfl,vI Z,rfl,a,_,(3:Int),_,rfl,rfl,vI Z,rfl,_,_,rfl,rfl,(x.left:Int),(x.left:Int)+(x.w:Int),rfl,⟨by omega,by omega,by omega,by omega⟩,fun acc S=>?_⟩;rw [ew];refine Bl (lo:=(x.left:Int)) (n:=x.w) (fun j σ1 H3=>∃(col:Option V) (ys:List V),σ1=[col,some (.int ((x.top:Int)+(i:Int)))]/\Same H2 H3/\H3 acc=some (.lst ys)/\AtL H3 ((List.range j).map (fun (j:Nat)=>Dd.tup [.int ((x.top+i:Nat):Int),.int ((x.left+j:Nat):Int)])) ys)
    ⟨none,[],rfl,tI S,qd,.nil⟩ ?_ ?_
   ·intro j σ1 H3 hj G;refine Mm G fun col ys D=>?_;have Y:=D.1;have s3:=D.2.1;have h3:=D.2.2.1;have a3:=D.2.2.2;clear G D;subst Y;have e1:(x.top:Int)+(i:Int)=((x.top+i:Nat):Int):=by simp
    have e2:(x.left:Int)+(j:Int)=((x.left+j:Nat):Int):=by simp
    dsimp only [jt];rw [kA rfl];refine⟨by show 2<=sizeLine;decide,fun p hp=>⟨ys,?_,?_,?_⟩⟩
    ·exact (tI hp) _ _ h3
    ·have:=a3.length;rw [aA,mC] at this;exact zf (by omega)
    ·rw [e1,e2] at *;have s4:=tI (o:=.tup [.int ((x.top+i:Nat):Int),.int ((x.left+j:Nat):Int)]) hp;generalize a5:upd H3 p (.tup [.int ((x.top+i:Nat):Int),.int ((x.left+j:Nat):Int)])=H4 at *;have p4:H4 p=some (.tup [.int ((x.top+i:Nat):Int),.int ((x.left+j:Nat):Int)]):=by rw [←a5];exact qd
     have t5:SameT H4 (upd H4 acc (.lst (ys++[.ref p]))):=cJ (s4 _ _ h3);refine⟨_,ys++[.ref p],rfl,fun b o e=>?_,qd,?_⟩
     ·rw [qu (qw e S)];exact s4 _ _ (s3 _ _ e)
     ·rw [uD,lA];refine zI ((a3.mono s4).monoT (fun d hd=>?_) t5) (.tup (t5 _ _ p4) (.cons (.int _) (.cons (.int _) .nil)));obtain⟨k,_,rfl⟩:=xA.mp hd;exact .tup fun d hd=>by
       simp only [gB,zF,or_false] at hd;rcases hd with rfl |rfl
       ·exact .int _
       ·exact .int _
   ·intro σ1 H3 G;refine Mm G fun col ys D=>?_;have Y:=D.1;have s3:=D.2.1;have h3:=D.2.2.1;have a3:=D.2.2.2;clear G D;subst Y;have a4:=s3 _ _ O;have ly:=a3.length;have lx:=a2.length;rw [aA,mC] at ly lx;have hm:i * x.w<=17 * 17:=dG (by omega) b4;refine⟨l,acc,xs,ys,rfl,rfl,a4,h3,tG (zf (by omega)),?_⟩;have t5:SameT H3 (upd H3 l (.lst (xs++ys))):=cJ a4;refine⟨_,xs++ys,rfl,fun b o e=>?_,qd,?_⟩
    ·rw [qu (qw e hl)];exact s3 _ _ (s2 _ _ e)
    ·rw [←qa3];refine Paired.app ((a2.mono s3).monoT (Zr _ _) t5) (a3.monoT (fun d hd=>?_) t5);obtain⟨k,_,rfl⟩:=xA.mp hd;exact .tup fun d hd=>by
      simp only [gB,zF,or_false] at hd;rcases hd with rfl |rfl
      ·exact .int _
      ·exact .int _
  ·intro σ H2 G;refine Mm G fun row xs D=>?_;have Y:=D.1;have s2:=D.2.1;have O:=D.2.2.1;have a2:=D.2.2.2;clear G D;subst Y;exact (q l xs H2 s2 O a2)
end
theorem Wj {r c r' c':Nat} (h:pl r c=pl r' c'):r=r'/\c=c':=by unfold pl at h;injection h with h1 h;injection h with h2 _;injection h1 with h1;injection h2 with h2;exact⟨by omega,by omega⟩
structure Kv (R C:Nat) (kv:List (List Key×V)) (S:Nat->Nat->Prop):Prop where
  nd:(kv.map (·.1)).Nodup
  inn:∀k∈kv.map (·.1),∃r c,k=pl r c/\r < R/\c < C
  val:∀r c,Ah kv (pl r c)≠none↔S r c
theorem val_none {kv:List (List Key×V)} {k:List Key}:Ah kv k=none↔k∉kv.map (·.1):=by
 unfold Ah;rw [Option.map_eq_none_iff,List.find?_eq_none];constructor
 ·intro h hm;obtain⟨x,hx,rfl⟩:=xA.mp hm;exact h x hx (eA rfl)
 ·intro h x hx z;exact h (xA.mpr ⟨x,hx,lB z⟩)
theorem Kv.put {R C r c:Nat} {kv:List (List Key×V)} {S:Nat->Nat->Prop} (h:Kv R C kv S) (n:¬S r c) (D:r < R) (F:c < C) (v:V):putK kv (pl r c) v=kv++[(pl r c,v)]/\Kv R C (putK kv (pl r c) v) (fun r' c'=>S r' c'\/(r'=r/\c'=c)):=by
 have j:Ah kv (pl r c)=none:=by
  cases e:Ah kv (pl r c) with
  |none=>rfl
  |some o=>exact absurd ((h.val r c).mp (by rw [e];simp)) n
 have e:=qq4 v j;refine⟨e,?_⟩;have nm:=val_none.mp j;refine⟨?_,fun k hk=>?_,fun r' c'=>?_⟩
 ·rw [e,lA];refine List.nodup_append.mpr ⟨h.nd,by simp,fun a ha b hb z=>?_⟩
  have:b=pl r c:=by simpa using hb
  rw [this] at z;rw [z] at ha;exact nm ha
 ·rw [e,lA] at hk;rcases rB.mp hk with hk |hk
  ·exact h.inn k hk
  ·have:k=pl r c:=by simpa using hk
   exact⟨r,c,this,D,F⟩
 ·rw [Yv];by_cases z:pl r' c'=pl r c
  ·rw [kA z]
   have:=Wj z;exact⟨fun _=>.inr this,fun _=>by simp⟩
  ·rw [oA z,h.val];exact⟨fun q=>.inl q,fun q=>q.elim id fun q=>absurd (by rw [q.1,q.2]) z⟩
theorem ur {α:Type}:∀{l m:List α},l.Nodup->(∀x∈l,x∈m)->l.length<=m.length
 | [],m,_,_=>yB _
 |a::l,m,h,s=>by
  obtain⟨h1,h2⟩:=kH.mp h;obtain⟨j,D,e⟩:=List.append_of_mem (s a uA);have ih:=ur (l:=l) (m:=j++D) h2 fun x hx=>by
   have:=s x (vA _ hx);rw [e] at this;rcases rB.mp this with q |q
   ·exact vE _ q
   ·rcases gB.mp q with q |q
    ·rw [q] at hx;exact absurd hx h1
    ·exact uC _ q
  rw [e];rw [wA] at ih ⊢;rw [fB,fB];omega
noncomputable def Di (R C:Nat):List (List Key):=((List.range R).map fun r=>(List.range C).map fun c=>pl r c).flatten
theorem places_len (R C:Nat):(Di R C).length=R * C:=by
 unfold Di;rw [List.length_flatten,gD]
 have:(List.length ∘ fun r=>(List.range C).map fun c=>pl r c)=fun _=>C:=by funext r;simp
 rw [this];clear this;induction R with
 |zero=>simp
 |succ R ih=>rw [uD,lA,jG,ih];simp [mG]
theorem places_mem {R C:Nat} {k:List Key}:k∈Di R C↔∃r c,k=pl r c/\r < R/\c < C:=by
 unfold Di;rw [xH];constructor
 ·rintro⟨l,hl,hk⟩;obtain⟨r,j,rfl⟩:=xA.mp hl;obtain⟨c,D,rfl⟩:=xA.mp hk;exact⟨r,c,rfl,yD.mp j,yD.mp D⟩
 ·rintro⟨r,c,rfl,j,D⟩;exact⟨_,xA.mpr ⟨r,yD.mpr j,rfl⟩,xA.mpr ⟨c,yD.mpr D,rfl⟩⟩
theorem Qq (R C:Nat):(Di R C).Nodup:=by
 unfold Di List.Nodup;rw [List.pairwise_flatten];refine⟨fun l hl=>?_,?_⟩
 ·obtain⟨r,_,rfl⟩:=xA.mp hl;exact List.pairwise_map.mpr (List.nodup_range.imp fun {a b} h z=>h (Wj z).2)
 ·refine List.pairwise_map.mpr (List.nodup_range.imp fun {a b} h x hx y j z=>?_);obtain⟨c,_,rfl⟩:=xA.mp hx;obtain⟨c',_,rfl⟩:=xA.mp j;exact h (Wj z).1
theorem Kv.count {R C:Nat} {kv:List (List Key×V)} {S:Nat->Nat->Prop} (h:Kv R C kv S) (all:∀r c,r < R->c < C->S r c):kv.length=R * C:=by
 have h1:=ur h.nd fun k hk=>places_mem.mpr (h.inn k hk);have h2:=ur (Qq R C) fun k hk=>by
  obtain⟨r,c,rfl,j,D⟩:=places_mem.mp hk
  have:=(h.val r c).mpr (all r c j D);by_cases z:pl r c∈kv.map (·.1)
  ·exact z
  ·exact absurd (val_none.mpr z) this
 rw [places_len,aA] at h1;rw [places_len,aA] at h2;omega
theorem Kv.few {R C:Nat} {kv:List (List Key×V)} {S:Nat->Nat->Prop} (h:Kv R C kv S) (hR:R<=17) (hC:C<=17):kv.length<=289:=by
 have h1:=ur h.nd fun k hk=>places_mem.mpr (h.inn k hk);rw [places_len,aA] at h1
 have:R * C<=17 * 17:=dG hR hC;omega
theorem Kv.same {R C:Nat} {kv:List (List Key×V)} {S j:Nat->Nat->Prop} (h:Kv R C kv S) (e:∀r c,S r c↔j r c):Kv R C kv j:=⟨h.nd,h.inn,fun r c=>(h.val r c).trans (e r c)⟩
noncomputable def zr7 (H:Hp) (CX:Addr) (Q:VK) (E:XK) (R C:Nat) (cs:List Cell) (gs:List Thg):Prop:=
 (∃x,gs[cs.length]? = some x/\gs.take cs.length=cs.map Cell.G/\Wrong R C cs x/\Told H CX cs.length E) \/
 (gs=cs.map Cell.G/\(((∃r c,r < R/\c < C/\¬GT.cov cs r c)/\ToldN H CX E) \/
  ((∀r c,r < R->c < C->GT.cov cs r c)/\∀(p l:Addr) (zs:List V) (H':Hp),Same H H'->H l=none->H' p=some (.tup [.int R,.int C,.ref l])->H' l=some (.lst zs)->AtL H' (cs.map Cell.D) zs->Q (.ref p) H')))
inductive spChecked (CX:Addr) (vs:List V) (H:Hp) (Q:VK) (E:XK):Prop
 |mk (v:V) (g:Thg) (_:vs=[v]) (_:AtG H g v) (_:((xu g=false/\ToldN H CX E)\/∃(R C:Nat) (cs:List Cell) (gs:List Thg),g=.tup [.int (R:Int),.int (C:Int),.lst gs]/\1<=R/\R<=16/\1<=C/\C<=16/\gs.length<=500000/\Part R C cs/\cs.Pairwise uf/\zr7 H CX Q E R C cs gs))
inductive inv_ck (H1:Hp) (p n d:Addr) (R C:Nat) (cs:List Cell) (i:Nat) (σ:L2.St) (H2:Hp):Prop
 |mk (kv:List (List Key×V)) (c5 c6 c7:Option V) (_:σ=[some (.ref p),some (.int R),some (.int C),some (.ref n),some (.ref d),c5,c6,c7]) (_:Same H1 H2) (_:H2 d=some (.dT kv)) (_:Kv R C kv (GT.cov (cs.take i))) (_:i<=cs.length)
noncomputable def zr8 (cs:List Cell) (i:Nat) (x:Cell) (j r c:Nat):Prop:=GT.cov (cs.take i) r c\/∃k,k < j/\r=x.top+k / x.w/\c=x.left+k % x.w
inductive inv_ck2 (H1 H6:Hp) (p n d l:Addr) (xs:List V) (R C:Nat) (cs:List Cell) (i:Nat) (x:Cell) (b:V) (j:Nat) (σ:L2.St) (H2:Hp):Prop
 |mk (kv:List (List Key×V)) (c7:Option V) (_:σ=[some (.ref p),some (.int R),some (.int C),some (.ref n),some (.ref d),some (.int i),some b,c7]) (_:Same H1 H2) (_:SameT H6 H2) (_:H2 l=some (.lst xs)) (_:H2 d=some (.dT kv)) (_:Kv R C kv (zr8 cs i x j)) (_:∀k,k < j->¬GT.cov (cs.take i) (x.top+k / x.w) (x.left+k % x.w))
theorem Xx {x:Cell} {j:Nat} (D:j < x.h * x.w):inC x (x.top+j / x.w) (x.left+j % x.w):=qt5 D (inC_part.mpr ⟨rfl,rfl⟩)
theorem qh8 {x:Cell} {j k:Nat} (h:k < j) (e1:x.top+j / x.w=x.top+k / x.w) (e2:x.left+j % x.w=x.left+k % x.w):False:=by
 have a1:j / x.w=k / x.w:=by omega
 have a2:j % x.w=k % x.w:=by omega
 have b:=Nat.div_add_mod j x.w;rw [a1,a2,Nat.div_add_mod] at b;omega
theorem qi5 {R C i:Nat} {cs:List Cell} {x:Cell} (t:Part R C cs) (hx:cs[i]? = some x):∀r c,inC x r c->¬GT.cov (cs.take i) r c:=fun r c h1 ⟨y,F,h2⟩=>by
 have D:=t.dis;have j:=(bA.mp hx).1;rw [←jC i cs,bE j] at D
 have:=(zE.mp D).2.2 y F x (by rw [(bA.mp hx).2];exact uA);exact this r c h2 h1
theorem qe7 {cs:List Cell} {i:Nat} {x:Cell} (hx:cs[i]? = some x) (r c:Nat):zr8 cs i x (x.h * x.w) r c↔GT.cov (cs.take (i+1)) r c:=by
 rw [qD,hx];show _↔GT.cov (cs.take i++[x]) r c;rw [Ip];constructor
 ·rintro (z |⟨k,hk,rfl,rfl⟩)
  ·exact .inl z
  ·exact .inr (Xx hk)
 ·rintro (z |z)
  ·exact .inl z
  ·obtain⟨k,hk,hi⟩:=Yr z;obtain⟨e1,e2⟩:=inC_part.mp hi;exact .inr ⟨k,hk,e1,e2⟩
theorem qt6 {H:Hp} {x:Cell} {xs:List V} {j:Nat} {v:V} {n:Nat} (a:AtL H ((List.range n).map (Bx x)) xs) (h:xs[j]? = some v):j < n/\∃b,v=.ref b/\H b=some (.tup [.int ((x.top+j / x.w:Nat):Int),.int ((x.left+j % x.w:Nat):Int)]):=by
 have F:=a.length;rw [aA,mC] at F;have hjl:=(bA.mp h).1;obtain⟨d,hd,ad⟩:=yI a h;rw [fA,fD (by omega)] at hd;have hd:Bx x j=d:=nB hd;subst hd;obtain⟨b,us,rfl,hb,D⟩:=ad.tup_inv;refine⟨by omega,b,rfl,?_⟩;have G:us=[.int ((x.top+j / x.w:Nat):Int),.int ((x.left+j % x.w:Nat):Int)]:=by
  cases D with
  |cons g1 D=>
   cases D with
   |cons g2 D=>cases D;rw [g1.int_inv,g2.int_inv]
 rw [←G];exact hb
theorem qz3 {a b c d:Nat}:HT.lexLe [(a:Int),(b:Int)] [(c:Int),(d:Int)]=decide (¬(c < a\/(c=a/\d < b))):=by
 rw [HT.lexLe_cons];by_cases z:(a:Int)=c
 ·rw [kA z,HT.lexLe_cons];by_cases y:(b:Int)=d
  ·rw [kA y];exact (eA (by omega)).symm
  ·rw [oA y];exact decide_eq_decide.mpr (by omega)
 ·rw [oA z];exact decide_eq_decide.mpr (by omega)
theorem Kv.less {R C:Nat} {kv:List (List Key×V)} {S:Nat->Nat->Prop} (h:Kv R C kv S) {r c:Nat} (j:r < R) (D:c < C) (n:¬S r c):kv.length < R * C:=by
 have hn:pl r c∉kv.map (·.1):=fun z=>n ((h.val r c).mp fun y=>(val_none.mp y) z);have h1:=ur (l:=pl r c::kv.map (·.1)) (m:=Di R C) (kH.mpr ⟨hn,h.nd⟩) fun k hk=>by
  rcases gB.mp hk with rfl |hk
  ·exact places_mem.mpr ⟨r,c,rfl,j,D⟩
  ·exact places_mem.mpr (h.inn k hk)
 rw [places_len,fB,aA] at h1;omega
theorem qy3:∀{H:Hp} {cs:List Cell} {xs:List V},AtGL H (cs.map Cell.G) xs->AtL H (cs.map Cell.D) xs
 |_,[],[],_=>.nil
 |_,x::cs,v::xs,h=>by
  cases h with
  |cons h r=>exact .cons (Cell.ofG h) (qy3 r)
theorem qu8 {c B:Prop} [Decidable c] {M:Prop} {N:Hp->Prop} {H:Hp} (n:∀H',Same H H'->B->N H') (b:¬c->B) (m:c->(∀H',Same H H'->B->N H')->M):if decide c=true then M else N H:=
 kh (fun z=>m (lB z) n) (fun z=>n H (fun _ _ z=>z) (b fun y=>z (eA y)))
section
variable {P:Program} {w:World} {K:PySem.W.Frag} {mg:Str->Option Value} {base:Heap}
theorem sc_checked:FnScope ["table", "rows", "columns", "cells", "covered", "at", "cell", "place"] ["table"] (qm (top 27)):=fsc
theorem Zb (T:Txt mg) {O:Addr} (J:ExcJ P w K mg base "BadTable" O) (a8:Cal P w K mg base 3 "has_frame" ["thing"] (spG xu)) (aa:Cal P w K mg base 3 "is_cell" ["thing"] (spG yj)) (a4:Cal P w K mg base 1 "sticks_out" ["cell", "rows", "columns"] spSticks) (U:Cal P w K mg base 1 "first_place" ["cell"] spFirst) (c_places:Cal P w K mg base 1 "places" ["cell"] spPlaces) (f:Addr) (fd:FuncData) (F:Fun K "checked" "checked" (top 27) f fd):FnOk P w K mg base (CX1 P w base) 5 f fd ["table"] (spChecked O):=by
 refine F.ok1 sc_checked (fun vs H Q E h=>?_) (fun cdv A outer s H vs Q E hr h=>?_)
 ·obtain⟨v,g,rfl,_⟩:=h;rfl
 ·obtain⟨v,g,rfl,ag,hg⟩:=h;have a5:=hr.mono (j:=3) (by decide);have a9:=hr.mono (j:=3) (by decide);have Z:=hr.mono (j:=1) (by decide);have S:=hr.mono (j:=1) (by decide);have ae:=hr.mono (j:=1) (by decide);have hu:(A.deeper (envOfC "checked" (qm (top 27)) s.heap.objs.size f cdv)).units+1 < cLine:=by have:=hr.units;omega
  have b7:(A.deeper (envOfC "checked" (qm (top 27)) s.heap.objs.size f cdv)).units < cLine:=by omega
  refine⟨_,(qj (j6 (ye (jz (qy a8 a5 rfl (qb (pv 0) qi)))) (qp (Be J hr rfl rfl uq (qb qi2 qi))) zq)
   (qj (psS (i:=1) sc_checked.nd (qz (qt (K:=K) rfl) (pv 0) qg (fun _ _=>rfl)))
   (qj (psS (i:=2) sc_checked.nd (qz (qt (K:=K) rfl) (pv 0) qg (fun _ _=>rfl)))
   (qj (psS (i:=3) sc_checked.nd (Gm (Mw (K:=K) rfl) (by rfl) T.list bH (qb (qz (qt (K:=K) rfl) (pv 0) qg (fun _ _=>rfl)) qi)))
   (qj (psS (i:=4) sc_checked.nd Ni)
   (qj (j8 PassesOwn.leaving rfl (Lf (K:=K) rfl rfl T.enumerate (qb (pv 3) qi)) (Gx (K:=K) (n:=2) rfl rfl (yq (pgN (i:=5) sc_checked.nd) (yq (pgN (i:=6) sc_checked.nd) Gv))) (qj (j6 (wI (wu (ye (jz (qy aa a9 rfl (qb (pv 6) qi)))) (v5 (jz (qy a4 Z rfl (qb (pv 6) (qb (pv 1) (qb (pv 2) qi)))))))) (qp (Be J hr rfl rfl uq (qb (pv 5) qi))) zq)
   (qj (j6 (wI (Xr (zp J8 (pv 5) qg (zr _)) (Ov (zp (za5 (K:=K) rfl b7) (qy U S rfl (qb (pv 6) qi)) (qy U S rfl (qb (qz (zc (K:=K) rfl) (pv 3) (qx uc (pv 5) qg) (fun _ _=>rfl)) qi)) (zr _))))) (qp (Be J hr rfl rfl uq (qb (pv 5) qi))) zq)
   (qp (j8 PassesOwn.leaving rfl (jq (K:=K) rfl (qy c_places ae rfl (qb (pv 6) qi))) (pgN (i:=7) sc_checked.nd) (qj (j6 (Xn (qj2 hu (pv 7) (pv 4)) (by rfl)) (qp (Be J hr rfl rfl uq (qb (pv 5) qi))) zq)
   (qp (Xk hu (pv 4) (pv 7) wz rfl))))))))
   (qj (j6 (zp Qj (q8 (Mp (K:=K) rfl) (by rfl) T.len vB (qb (pv 4) qi)) (qx wj (pv 1) (pv 2)) (zr _)) (qp (Be J hr rfl rfl uq (qb qi2 qi))) zq)
   (qp (zb (yu (qb (pv 1) (qb (pv 2) (qb (pv 3) qi))))))))))))),?_⟩
  refine⟨v,g,rfl,ag,fun H0 s0=>?_⟩;rcases hg with ⟨no,tell⟩ |⟨R,C,cs,gs,rfl,R1,R2,C1,C2,lim,pt,ord,a6⟩
  ·rw [no];exact⟨false,rfl,Ab ⟨_,rfl,.inr rfl,fun dx a3=>tell dx _ (s0.trans (tI a3)) qd⟩⟩
  have yes:xu (.tup [.int (R:Int),.int (C:Int),.lst gs])=true:=by show (decide ((1:Int)<=R) && decide ((R:Int)<=16) && (decide ((1:Int)<=C) && decide ((C:Int)<=16)))=true;rw [eA (by omega:(1:Int)<=R),eA (by omega:(R:Int)<=16),eA (by omega:(1:Int)<=C),eA (by omega:(C:Int)<=16)];rfl
  rw [yes];refine⟨true,rfl,ul ?_⟩;obtain⟨p,xs,rfl,hp,rx⟩:=(ag.mono s0).tup_inv;cases rx with
  |cons r1 rx=>
  cases rx with
  |cons r2 rx=>
  cases rx with
  |cons r3 rx=>
  cases rx;obtain rfl:=r1.int_inv;obtain rfl:=r2.int_inv;obtain⟨l,ys,rfl,hl,ry⟩:=r3.lst_inv;have lx:=ry.length;have few:=qy1 pt R2 C2;refine⟨p,_,(0:Int),_,rfl,rfl,vI hp,rfl,?_⟩;refine⟨p,_,(1:Int),_,rfl,rfl,vI hp,rfl,?_⟩;refine⟨p,_,(2:Int),_,rfl,rfl,vI hp,rfl,l,ys,rfl,.inl (uI hl),fun n hn=>?_⟩;have s1:=tI (o:=.lst ys) hn;have k1:=qd (H:=H0) (a:=n) (o:=.lst ys);generalize hH1:upd H0 n (.lst ys)=H1 at *;have ax:=s0.trans s1;refine fun d hd=>?_;have s2:=tI (o:=.dT []) hd;have k2:=qd (H:=H1) (a:=d) (o:=.dT []);generalize hH2:upd H1 d (.dT [])=H2 at *;refine⟨n,rfl,⟨_,uI (s2 _ _ k1)⟩,?_⟩;refine Iv (K:=K) (a:=n) (xs:=ys) (inv_ck H1 p n d R C cs) ⟨[],none,none,none,rfl,s2,k2,⟨by simp,fun k hk=>by simp at hk,fun r c=>⟨fun z=>absurd rfl z,fun⟨x,hx,_⟩=>by simp at hx⟩⟩,yB _⟩ (fun i σ H3 _ hI=>?_) ?_ ?_
  ·obtain⟨_,_,_,_,_,s3,_⟩:=hI;exact uI (s3 _ _ k1)
  ·intro i x σ H3 tp hi hI b8;obtain⟨kv,c5,c6,c7,rfl,s3,d3,ah,b9⟩:=hI;have hiL:=(bA.mp hi).1;obtain⟨gi,ak,agi⟩:=yI ry hi;have ao:=s1.trans s3;have good:i < cs.length->∃X,cs[i]? = some X/\gi=X.G/\Fit R C X:=fun z=>by
    obtain⟨X,hX⟩:∃X,cs[i]? = some X:=⟨_,gA z⟩
    refine⟨X,hX,?_,pt.fit X (jA hX)⟩
    have:gs.take cs.length=cs.map Cell.G:=by
     rcases a6 with ⟨_,_,e,_⟩ |⟨e,_⟩
     ·exact e
     ·rw [e,uB (by rw [aA];exact dA _)]
    have e2:(gs.take cs.length)[i]? = some gi:=by rw [sC z];exact ak
    rw [this,fA,hX] at e2;exact (nB e2).symm
   have bad:i=cs.length->Wrong R C cs gi/\Told H O i E:=fun z=>by
    rcases a6 with ⟨x,e1,_,e3,e4⟩ |⟨e,_⟩
    ·rw [←z,ak] at e1;cases e1;rw [z];exact⟨e3,e4⟩
    ·rw [e,fA,kE (by omega)] at ak;cases ak
   have tell:¬i < cs.length->Told H O i E:=fun z=>(bad (by omega)).2;have prev:∀j,i=j+1->∃Y yv,cs[j]? = some Y/\ys[j]? = some yv/\At H0 Y.D yv:=fun j hj=>by
    obtain⟨Y,hY⟩:∃Y,cs[j]? = some Y:=⟨_,gA (by omega)⟩
    have:gs.take cs.length=cs.map Cell.G:=by
     rcases a6 with ⟨_,_,e,_⟩ |⟨e,_⟩
     ·exact e
     ·rw [e,uB (by rw [aA];exact dA _)]
    have e2:gs[j]? = some Y.G:=by
     have:(gs.take cs.length)[j]? = some Y.G:=by rw [this,fA,hY];rfl
     rw [sC (by omega)] at this;exact this
    obtain⟨yv,au,ay⟩:=xI ry e2;exact⟨Y,yv,hY,au,Cell.ofG ay⟩
   have s4:=tI (o:=.tup [.int (i:Int),x]) b8;have k4:=qd (H:=H3) (a:=tp) (o:=.tup [.int (i:Int),x]);generalize hH4:upd H3 tp (.tup [.int (i:Int),x])=H4 at *;have ba:=(s0.trans ao).trans s4;refine⟨tp,_,rfl,vI k4,rfl,_,_,rfl,_,_,rfl,rfl,?_⟩;refine⟨x,gi,rfl,(agi.mono ao).mono s4,fun H5 s5=>?_⟩;have aq:=ba.trans s5;cases ec:yj gi with
   |false=>refine⟨false,rfl,Ab (Ab ⟨_,rfl,.inl ⟨_,rfl,Gj (by omega)⟩,fun dx a3=>?_⟩)⟩;refine tell (fun z=>?_) dx _ (aq.trans (tI a3)) qd;obtain⟨X,_,rfl,f⟩:=good z;rw [zh5 f.h1 f.w1 f.words] at ec;cases ec
   |true=>
   refine⟨true,rfl,ul ?_⟩;obtain⟨X,rfl,x1,x2⟩:=Yk ec;have bb:At H0 X.D x:=Cell.ofG agi;have av:At H5 X.D x:=(bb.mono ao).mono (s4.trans s5);refine⟨x,X,R,C,rfl,av,?_⟩;by_cases st:R < X.top+X.h\/C < X.left+X.w
   ·rw [eA st];refine⟨true,rfl,Ab ⟨_,rfl,.inl ⟨_,rfl,Gj (by omega)⟩,fun dx a3=>?_⟩⟩;refine tell (fun z=>?_) dx _ (aq.trans (tI a3)) qd;obtain⟨Y,_,eY,f⟩:=good z
    have:=kj eY;subst this
    have:=f.down
    have:=f.across;omega
   rw [dB st];refine⟨false,rfl,ul ?_⟩;have f1:X.top+X.h<=R:=by omega
   have f2:X.left+X.w<=C:=by omega
   refine⟨_,_,rfl,rfl,_,rfl,?_⟩;refine qu8 (H:=H5) (B:=∀j Y,i=j+1->cs[j]? = some Y->uf Y X) (fun H6 s6 be=>ul ?_) (fun z j Y hj=>absurd (by omega) z) (fun h0 k=>?_);case' refine_2=>
    obtain⟨j,rfl⟩:∃j,i=j+1:=⟨i - 1,by omega⟩
    obtain⟨Y,yv,hY,au,ay⟩:=prev j rfl;have ej:((j+1:Nat):Int) - 1=(j:Int):=by omega
    refine⟨_,X,rfl,av,fun t7 H7 s7 k7=>?_⟩;have ai:=(s4.trans s5).trans s7;refine⟨_,_,rfl,rfl,n,_,((j+1:Nat):Int) - 1,yv,rfl,rfl,uI (ai _ _ (s3 _ _ k1)),by rw [ej];exact jg au,yv,Y,rfl,ay.mono (ao.trans ai),fun t8 H8 s8 k8=>?_⟩;by_cases be:uf Y X
    ·refine⟨t7,t8,[(X.top:Int),(X.left:Int)],[(Y.top:Int),(Y.left:Int)],rfl,rfl,vI (s8 _ _ k7),vI k8,false,?_,k H8 (s7.trans s8) fun j' Y' hj' az=>?_⟩
     ·exact vD V.bl (by rw [qz3];exact dB fun z=>z be)
     ·have:j'=j:=by omega
      subst this;rw [hY] at az;cases az;exact be
    ·refine⟨t7,t8,[(X.top:Int),(X.left:Int)],[(Y.top:Int),(Y.left:Int)],rfl,rfl,vI (s8 _ _ k7),vI k8,true,?_,Ab ⟨_,rfl,.inl ⟨_,rfl,Gj (by omega)⟩,fun dx a3=>?_⟩⟩
     ·exact vD V.bl (by rw [qz3];exact eA be)
     ·refine tell (fun z=>?_) dx _ (((aq.trans s7).trans s8).trans (tI a3)) qd;obtain⟨X',aj,eX,_⟩:=good z
      have:=kj eX;subst this;have b2:=(bA.mp hY)
      have:=dD.mp ord j (j+1) b2.1 z (by omega);rw [(bA.mp aj).2,b2.2] at this;exact be this
   have bc:=(s4.trans s5).trans s6;have s06:=aq.trans s6;refine⟨_,X,rfl,av.mono s6,by omega,by omega,by omega,by omega,fun r xs H7 s7 h7 a7=>⟨r,rfl,⟨_,uI h7⟩,?_⟩⟩;have ai:=bc.trans s7;have hw:X.h * X.w<=16 * 16:=dG (by omega) (by omega);refine Gi (K:=K) (a:=r) (xs:=xs) (inv_ck2 H1 H7 p n d r xs R C cs i X x) ⟨kv,c7,rfl,s3.trans ai,fun _ _ z=>z,h7,ai _ _ d3,ah.same fun r c=>⟨fun z=>.inl z,fun z=>z.elim id fun⟨k,hk,_⟩=>by omega⟩,fun k hk=>absurd hk (Nat.not_lt_zero _)⟩ (fun j σ H8 _ hI=>?_) ?_ ?_
   ·obtain⟨_,_,_,_,_,z,_⟩:=hI;exact uI z
   ·intro j v σ H8 hj hI;obtain⟨kv,c7,rfl,s8,t8,h8,d8,af,ar⟩:=hI;obtain⟨hjn,bj,rfl,bf⟩:=qt6 a7 hj;have aw:=Xx hjn;have i1:=aw.2.1;have i2:=aw.2.2.2;have b3:=t8 _ _ bf;dsimp only [jt];refine⟨d,_,rfl,DGet.t (k:=pl (X.top+j / X.w) (X.left+j % X.w)) d8 b3,_,rfl,?_⟩;cases hv:Ah kv (pl (X.top+j / X.w) (X.left+j % X.w)) with
    |some o=>
     refine Ab ⟨_,rfl,.inl ⟨_,rfl,Gj (by omega)⟩,fun dx a3=>?_⟩;refine tell (fun z=>?_) dx _ ((ax.trans s8).trans (tI a3)) qd;have cv:=(af.val _ _).mp (by rw [hv];simp);obtain⟨X',aj,eX,_⟩:=good z
     have:=kj eX;subst this;exact cv.elim (qi5 pt aj _ _ aw) fun⟨k,hk,e1,e2⟩=>qh8 hk e1 e2
    |none=>
     have b4:¬zr8 cs i X j (X.top+j / X.w) (X.left+j % X.w):=fun z=>(af.val _ _).mpr z hv;refine ul ?_;have kf:=af.few (by omega) (by omega);obtain⟨_,bg⟩:=af.put b4 (by omega) (by omega) (V.bl true);refine⟨d,_,rfl,DPut.t (k:=pl (X.top+j / X.w) (X.left+j % X.w)) d8 b3 (zf (by omega)),?_⟩;refine⟨_,some (.ref bj),rfl,fun b' o e=>?_,t8.trans (SameT.putD d8),?_,qd,bg.same fun r c=>?_,fun k hk=>?_⟩
     ·rw [qu (qw e hd)];exact s8 _ _ e
     ·rw [qu (Nx h8 d8 (fun z=>by cases z))];exact h8
     ·constructor
      ·rintro ((z |⟨k,hk,e⟩) |⟨rfl,rfl⟩)
       ·exact .inl z
       ·exact .inr ⟨k,by omega,e⟩
       ·exact .inr ⟨j,by omega,rfl,rfl⟩
      ·rintro (z |⟨k,hk,e⟩)
       ·exact .inl (.inl z)
       ·by_cases z:k=j
        ·rw [z] at e;exact .inr e
        ·exact .inl (.inr ⟨k,by omega,e⟩)
     ·by_cases z:k=j
      ·subst z;exact fun y=>b4 (.inl y)
      ·exact ar k (by omega)
   ·intro σ H8 hI;obtain⟨kv,c7,rfl,s8,_,_,d8,af,ar⟩:=hI;have la:=a7.length;rw [aA,mC] at la;rw [←la] at af ar;have b5:i < cs.length:=by
     refine cD fun z=>?_;have ei:i=cs.length:=by omega
     have tk:cs.take i=cs:=by rw [ei,pC]
     rcases (bad ei).1 with y |⟨X',eX,y⟩
     ·rw [ec] at y;cases y
     ·have:=kj eX;subst this;rcases y with y |y |⟨Y,hY,y⟩ |⟨Y,hY,r0,c0,y1,y2⟩
      ·omega
      ·omega
      ·have hpos:0 < cs.length:=by
        cases cs with
        |nil=>cases hY
        |cons a as=>simp
       have hg:cs[i - 1]? = some Y:=by rw [List.getLast?_eq_getElem?] at hY;rw [ei];exact hY
       exact y (be (i - 1) Y (by omega) hg)
      ·obtain⟨k,hk,bh⟩:=Yr y1;obtain⟨e1,e2⟩:=inC_part.mp bh;refine ar k hk ⟨Y,by rw [tk];exact hY,?_⟩;rw [←e1,←e2];exact y2
    obtain⟨X',aj,eX,_⟩:=good b5
    have:=kj eX;subst this;exact⟨kv,_,_,_,rfl,s8,d8,af.same (qe7 aj),b5⟩
  ·intro σ H3 hI;obtain⟨kv,c5,c6,c7,rfl,s3,d3,ah,b9⟩:=hI;rcases a6 with ⟨x,e1,_⟩ |⟨rfl,a6⟩
   ·have:=(bA.mp e1).1;omega
   rw [aA] at lx;rw [←lx,pC] at ah;have b6:=ax.trans s3;refine⟨d,kv,rfl,d3,_,_,rfl,rfl,.inl ⟨by omega,by omega⟩,_,_,rfl,rfl,_,rfl,?_⟩;rcases a6 with ⟨⟨r0,c0,hr0,bo,no⟩,tell⟩ |⟨all,q⟩
   ·have cnt:=ah.less hr0 bo no;refine kh (fun _=>?_) (fun z=>absurd (eA (by rw [←Int.natCast_mul];omega)) z);exact⟨_,rfl,.inr rfl,fun dx a3=>tell dx _ (b6.trans (tI a3)) qd⟩
   ·have cnt:=ah.count all;refine kh (fun z=>absurd (lB z) (by rw [cnt,Int.natCast_mul];omega)) (fun _=>?_);refine⟨by show 3<=sizeLine;decide,fun p2 bp=>?_⟩;have s4:=tI (o:=.tup [.int (R:Int),.int (C:Int),.ref n]) bp;have bq:H n=none:=by
     cases e:H n with
     |none=>rfl
     |some o=>rw [s0 _ _ e] at hn;cases hn
    exact q _ n ys _ (b6.trans s4) bq qd (s4 _ _ (s3 _ _ k1)) ((qy3 ry).mono ((s1.trans s3).trans s4))
end
inductive spIsW (vs:List V) (H:Hp) (Q:VK) (e3:XK):Prop
 |mk (x:Str) (_:vs=[.str x]) (_:WordOk x) (_:∀H',Same H H'->Q (.bl true) H')
inductive spIsC (vs:List V) (H:Hp) (Q:VK) (e3:XK):Prop
 |mk (v:V) (R C:Nat) (x:Cell) (_:vs=[v]) (_:At H x.D v) (_:Fit R C x) (_:∀H',Same H H'->Q (.bl true) H')
inductive spIsT (vs:List V) (H:Hp) (Q:VK) (e3:XK):Prop
 |mk (v:V) (R C:Nat) (cs:List Cell) (_:vs=[v]) (_:At H (O9 R C cs) v) (_:Tiles R C cs) (_:1<=R) (_:R<=16) (_:1<=C) (_:C<=16) (_:∀H',Same H H'->Q (.bl true) H')
noncomputable def qd9 (e:Expr):Expr:=match e with
 | .Compare x _ _ _=>x
 |_=>e
section
variable {P:Program} {w:World} {K:PySem.W.Frag} {mg:Str->Option Value} {base:Heap}
theorem zm8:(["_law_sign", "_law_signs"]:List Str).Nodup:=by decide +kernel
noncomputable abbrev qp8:Scope:=jh (qd9 (yc (nth (zy (top 60)) 2)))
theorem sc__law_is_word:FnScope ["_law_word_here", "_law_signs"] ["_law_word_here"] (qm (top 60)):=fsc
theorem La (T:Txt mg) (f:Addr) (fd:FuncData) (F:Fun K "_law_is_word" "_law_is_word" (top 60) f fd):FnOk P w K mg base CX0 1 f fd ["_law_word_here"] spIsW:=by
 refine F.ok sc__law_is_word (fun vs H Q E h=>?_) (fun cdv A outer s H vs Q E Z h=>?_)
 ·obtain⟨x,rfl,_⟩:=h;rfl
 ·obtain⟨x,rfl,ok,q⟩:=h;have S:(A.deeper (envOfC "_law_is_word" (qm (top 60)) s.heap.objs.size f cdv)).units+1+1 < cLine:=by have:=Z.units;omega
  have D:=Bg (X:=(vz CX0 P w K mg base ["_law_word_here", "_law_signs"] "_law_is_word" (qm (top 60)) f cdv A outer s H E).nox) (N:=["_law_word_here", "_law_signs"]) (N1:=["_law_sign", "_law_signs"]) (cap:=[none,some 1]) (scope:=qp8) (sc:=qm (top 60)) (s.heap.objs.size+1);refine⟨_,(qj (j6 (wI (wu (ye (jz (q8 (jd (K:=K) rfl) (by rfl) T.isinstance oB (qb (pv 0) (qb (yh (v:=.ty "str") rfl T.str PyProof.Rows.boot_str rfl) qi))))) (v5 (ye (Xz J6 J6 qg (q8 (ji (K:=K) rfl) (by rfl) T.len vB (qb (pv 0) qi)) qg))))) (qp (zb wz)) zq)
   (qj (psS (i:=1) sc__law_is_word.nd zz)
   (qp (zb (xf (Xm (n:=1) S) (jx D rfl (qm3 (K:=K) rfl (pv 0)) (fun _ _ _ _=>(pgC (i:=0) zm8)) (fun _ _ _ _=>(Og (zp Tp (pv 0) (pv 1) (by with_unfolding_all rfl)))) (fun _ _ _ _=>(pv 0))) (vf qi) (zr _)))))),?_⟩
  generalize U:Str.ofString "abcdefghijklmnopqrstuvwxyz0123456789" = sg;have Y:sg=GT.signs:=U.symm;have lo:=ok.lo;have hi:=ok.hi;refine⟨_, "str",_,true,rfl,.str x,rfl,true,rfl,ul ?_⟩;refine⟨x,rfl,zx (by omega),_,_,rfl,rfl,_,rfl,kh (fun _=>?_) (fun z=>absurd (eA (by omega)) z)⟩;refine⟨_,_,rfl,rfl,_,rfl,zi8 (by omega) ?_⟩;refine⟨x,rfl,fun acc J=>?_⟩;refine Yl (x:=x) (fun j σ1 H2=>∃(c1:Option V),σ1=[c1,some (.str sg)]/\Same H H2/\H2 acc=some (.lst []))
   ⟨none,rfl,tI J,qd⟩ ?_ ?_
  ·intro j c σ1 H2 hj O;refine Dk O fun c1 G=>?_;have eI:=G.1;have s2:=G.2.1;have h2:=G.2.2;clear O G;subst eI;have hc:c∈GT.signs.cps.toList:=ok.all c (by
    have:x.cps.toList[j]? = some c:=by rw [kC];exact hj
    exact jA this)
   dsimp only [jt];refine⟨_,sg,rfl,rfl,_,rfl,?_⟩;rw [Y,GT.sign_in c hc];refine ul ⟨_,rfl,s2,h2⟩
  intro σ1 H2 O;refine Dk O fun c1 G=>?_;have s2:=G.2.1;have h2:=G.2.2;refine⟨by show 0<=sizeLine;decide,fun u hu=>?_⟩;have s3:=tI (o:=.lst []) hu;exact⟨.lst [],.lst [],(fun d hd=>by cases hd),trivial,.lst (s3 _ _ h2) .nil,.lst qd .nil,fun _=>q _ (s2.trans s3),fun z=>absurd rfl z⟩
theorem zn0:(["_law_word_here"]:List Str).Nodup:=by decide +kernel
noncomputable abbrev licScope:Scope:=jh (qd9 (orOf (yc (nth (zy (top 61)) 2)) 2))
theorem sc__law_is_cell:FnScope ["_law_cell_here", "_law_number"] ["_law_cell_here"] (qm (top 61)):=fsc
theorem Ld (T:Txt mg) (G:Cal P w K mg base 1 "_law_is_word" ["_law_word_here"] spIsW) (f:Addr) (fd:FuncData) (F:Fun K "_law_is_cell" "_law_is_cell" (top 61) f fd):FnOk P w K mg base CX0 2 f fd ["_law_cell_here"] spIsC:=by
 refine F.ok sc__law_is_cell (fun vs H Q E h=>?_) (fun cdv A outer s H vs Q E hr h=>?_)
 ·obtain⟨v,R,C,x,rfl,_⟩:=h;rfl
 ·obtain⟨v,R,C,x,rfl,ax,fx,q⟩:=h;have D:=hr.mono (j:=1) (by decide);have a3:(A.deeper (envOfC "_law_is_cell" (qm (top 61)) s.heap.objs.size f cdv)).units+1+1 < cLine:=by have:=hr.units;omega
  have J:∀{X:Cx},CompOk X licScope (Ih X.env.cells licScope.names []) ["_law_word_here"] [none]:=G6;obtain⟨b,wb,rfl,hb,hw⟩:=vm ax;have h1:=fx.h1;have w1:=fx.w1;have few:=fx.words.few;refine⟨_,(qj (j6 (wI (wu (ye (jz (q8 (jd (K:=K) rfl) (by rfl) T.isinstance oB (qb (pv 0) (qb (yh (v:=.ty "tuple") rfl T.tuple xD rfl) qi))))) (wu (zp qc1 (q8 (je (K:=K) rfl) (by rfl) T.len vB (qb (pv 0) qi)) qg (zr _)) (wu (ye (jz (q8 (jd (K:=K) rfl) (by rfl) T.isinstance oB (qb (qz (qt (K:=K) rfl) (pv 0) qg (fun _ _=>rfl)) (qb (yh (v:=.ty "tuple") rfl T.tuple xD rfl) qi))))) (v5 (zp J8 (q8 (je (K:=K) rfl) (by rfl) T.len vB (qb (qz (qt (K:=K) rfl) (pv 0) qg (fun _ _=>rfl)) qi)) qg (zr _))))))) (qp (zb wz)) zq)
   (qj (j8 cC rfl (By (K:=K) rfl (zm (Nr (K:=K) rfl) (pv 0) jk (zj qg))) (pgN (i:=1) sc__law_is_cell.nd) (qp (j6 (wI (wu (ye (jz (q8 (jd (K:=K) rfl) (by rfl) T.isinstance oB (qb (pv 1) (qb (yh (v:=.ty "int") rfl T.int PyProof.Rows.boot_int rfl) qi))))) (wu (jz (q8 (jd (K:=K) rfl) (by rfl) T.isinstance oB (qb (pv 1) (qb (yh (v:=.ty "bool") rfl T.bool PyProof.Rows.boot_bool rfl) qi)))) (v5 (zp Qj (pv 1) qg (zr _)))))) (qp (zb wz)) zq)))
   (qp (zb (Bf (xf J8 (qz (qt (K:=K) rfl) (pv 0) qg (fun _ _=>rfl)) qg (zr _)) (Bf (xf J8 (qz (qt (K:=K) rfl) (pv 0) qg (fun _ _=>rfl)) qg (zr _)) (G3 (xf (Xm (n:=1) a3) (jx J rfl (By (K:=K) rfl (qz (qt (K:=K) rfl) (pv 0) qg (fun _ _=>rfl))) (fun _ _ _ _=>(pgC (i:=0) zn0)) (fun _ _ _ _=>(Og (ye (jz (qy G D rfl (qb (pv 0) qi)))))) (fun _ _ _ _=>(pv 0))) (vf qi) (zr _))))))))),?_⟩
  refine⟨_, "tuple",_,true,rfl,.tup hb,rfl,true,rfl,ul ?_⟩;refine⟨b,_,rfl,.inr (vI hb),rfl,_,rfl,ul ?_⟩;refine⟨b,_,(4:Int),_,rfl,rfl,vI hb,rfl,_, "tuple",_,true,rfl,.tup hw,rfl,true,rfl,ul ?_⟩;refine⟨b,_,(4:Int),_,rfl,rfl,vI hb,rfl,wb,_,rfl,.inr (vI hw),_,_,rfl,rfl,_,rfl,kh (fun z=>absurd (lB z) (by rw [aA];omega)) (fun _=>?_)⟩;refine⟨_,rfl,b,_,rfl,vI hb,(fun z=>absurd z.2 (by show ¬HT.sIx 5 5 (some 4)=5;decide)),fun t3 a4=>?_⟩;rw [show Ax [V.int (x.top:Int),V.int (x.left:Int),V.int (x.h:Int),V.int (x.w:Int),V.ref wb] none (some 4)=[V.int (x.top:Int),V.int (x.left:Int),V.int (x.h:Int),V.int (x.w:Int)] from rfl];have s3:=tI (o:=.tup [V.int (x.top:Int),V.int (x.left:Int),V.int (x.h:Int),V.int (x.w:Int)]) a4;have k3:=qd (H:=H) (a:=t3) (o:=.tup [V.int (x.top:Int),V.int (x.left:Int),V.int (x.h:Int),V.int (x.w:Int)]);generalize hH3:upd H t3 (.tup [V.int (x.top:Int),V.int (x.left:Int),V.int (x.h:Int),V.int (x.w:Int)])=H3 at *;refine⟨t3,rfl,⟨_,vI k3⟩,?_⟩;refine Wl (K:=K) (a:=t3) (xs:=[V.int (x.top:Int),V.int (x.left:Int),V.int (x.h:Int),V.int (x.w:Int)]) (fun _ σ H4=>∃c1:Option V,σ=[some (.ref b),c1]/\H4=H3) ⟨none,rfl,rfl⟩ (fun i σ H4 _ ⟨_,_,e⟩=>by rw [e];exact vI k3) ?_ ?_
  ·intro i v σ H4 hi U;obtain⟨n,rfl⟩:∃n:Nat,v=.int (n:Int):=by
    match i,hi with
    |0,hi=>exact⟨_,(nB hi).symm⟩
    |1,hi=>exact⟨_,(nB hi).symm⟩
    |2,hi=>exact⟨_,(nB hi).symm⟩
    |3,hi=>exact⟨_,(nB hi).symm⟩
    |i+4,hi=>cases hi
   obtain⟨c1,rfl,rfl⟩:=U;dsimp only [jt];refine⟨_, "int",_,true,rfl,.int _,rfl,true,rfl,ul ?_⟩;refine⟨_, "bool",_,false,rfl,.int _,rfl,false,rfl,ul ?_⟩;refine⟨_,_,rfl,rfl,_,rfl,kh (fun z=>absurd (lB z) (by omega)) (fun _=>?_)⟩;exact⟨_,rfl,rfl⟩
  rintro σ H4 ⟨c1,rfl,rfl⟩;have O:=s3 _ _ hb;have Y:=s3 _ _ hw;refine⟨b,_,(2:Int),_,rfl,rfl,vI O,rfl,_,_,rfl,rfl,_,rfl,kh (fun _=>?_) (fun z=>absurd (eA (by omega)) z)⟩;refine⟨b,_,(3:Int),_,rfl,rfl,vI O,rfl,_,_,rfl,rfl,_,rfl,kh (fun _=>?_) (fun z=>absurd (eA (by omega)) z)⟩;refine⟨b,_,(4:Int),_,rfl,rfl,vI O,rfl,wb,rfl,⟨_,vI Y⟩,fun acc Z=>?_⟩;refine Ij (K:=K) (a:=wb) (xs:=x.words.map V.str) (fun j σ1 H5=>∃c1:Option V,σ1=[c1]/\Same H4 H5/\H5 acc=some (.lst []))
   ⟨none,rfl,tI Z,qd⟩ (fun j σ1 H5 _ ⟨_,_,s5,_⟩=>vI (s5 _ _ Y)) ?_ ?_
  ·intro j v σ1 H5 hj U;refine Dk U fun c1 S=>?_;have eI:=S.1;have s5:=S.2.1;have h5:=S.2.2;clear U S;subst eI;rw [fA] at hj;obtain⟨y,hy,rfl⟩:=qB.mp hj;dsimp only [jt];refine⟨y,rfl,fx.words.each y (jA hy),fun H6 s6=>⟨true,rfl,ul ?_⟩⟩;exact⟨_,rfl,s5.trans s6,s6 _ _ h5⟩
  intro σ1 H5 U;refine Dk U fun c1 S=>?_;have s5:=S.2.1;have h5:=S.2.2;refine⟨by show 0<=sizeLine;decide,fun u hu=>?_⟩;have s6:=tI (o:=.lst []) hu;exact⟨.lst [],.lst [],(fun d hd=>by cases hd),trivial,.lst (s6 _ _ h5) .nil,.lst qd .nil,fun _=>q _ ((s3.trans s5).trans s6),fun z=>absurd rfl z⟩
end
inductive inv_it (H:Hp) (p d:Addr) (R C:Nat) (cs:List Cell) (i:Nat) (σ:L2.St) (H2:Hp):Prop
 |mk (kv:List (List Key×V)) (la:Addr) (c3 c4 c5:Option V) (a b:Int) (_:σ=[some (.ref p),some (.ref d),some (.ref la),c3,c4,c5]) (_:Same H H2) (_:H2 d=some (.dT kv)) (_:Kv R C kv (GT.cov (cs.take i))) (_:H2 la=some (.tup [.int a,.int b])) (_:∀x,cs[i]? = some x->a < (x.top:Int)\/(a=(x.top:Int)/\b < (x.left:Int)))
inductive inv_it2 (H H6:Hp) (p d la q:Addr) (R C:Nat) (cs:List Cell) (i:Nat) (X:Cell) (j:Nat) (σ:L2.St) (H2:Hp):Prop
 |mk (kv:List (List Key×V)) (c4 c5:Option V) (_:σ=[some (.ref p),some (.ref d),some (.ref la),some (.ref q),c4,c5]) (_:Same H H2) (_:SameT H6 H2) (_:H2 d=some (.dT kv)) (_:Kv R C kv (fun r c=>GT.cov (cs.take i) r c\/(inC X r c/\r < X.top+j)))
inductive inv_it3 (H H6:Hp) (p d la q:Addr) (R C:Nat) (cs:List Cell) (i:Nat) (X:Cell) (j k:Nat) (σ:L2.St) (H2:Hp):Prop
 |mk (kv:List (List Key×V)) (c5:Option V) (_:σ=[some (.ref p),some (.ref d),some (.ref la),some (.ref q),some (.int ((X.top:Int)+(j:Int))),c5]) (_:Same H H2) (_:SameT H6 H2) (_:H2 d=some (.dT kv)) (_:Kv R C kv (fun r c=>GT.cov (cs.take i) r c\/(inC X r c/\(r < X.top+j\/(r=X.top+j/\c < X.left+k)))))
section
variable {P:Program} {w:World} {K:PySem.W.Frag} {mg:Str->Option Value} {base:Heap}
theorem sc__law_is_table:FnScope ["_law_table_here", "_law_seen", "_law_last", "_law_cell_here", "_law_row", "_law_column"] ["_law_table_here"] (qm (top 62)):=fsc
theorem Ii (T:Txt mg) (G:Cal P w K mg base 2 "_law_is_cell" ["_law_cell_here"] spIsC) (f:Addr) (fd:FuncData) (F:Fun K "_law_is_table" "_law_is_table" (top 62) f fd):FnOk P w K mg base CX0 3 f fd ["_law_table_here"] spIsT:=by
 refine F.ok sc__law_is_table (fun vs H Q E h=>?_) (fun cdv A outer s H vs Q E hr h=>?_)
 ·obtain⟨v,R,C,cs,rfl,_⟩:=h;rfl
 ·obtain⟨v,R,C,cs,rfl,ht,tl,R1,hR,C1,hC,q⟩:=h;have D:=hr.mono (j:=2) (by decide);obtain⟨p,l,ys,rfl,hp,hl,ry⟩:=Dm ht;have lx:=ry.length;rw [aA] at lx;have hu:(A.deeper (envOfC "_law_is_table" (qm (top 62)) s.heap.objs.size f cdv)).units+1 < cLine:=by have:=hr.units;omega
  have ai:(A.deeper (envOfC "_law_is_table" (qm (top 62)) s.heap.objs.size f cdv)).units < cLine:=by omega
  refine⟨_,(qj (j6 (wI (wu (ye (jz (q8 (jd (K:=K) rfl) (by rfl) T.isinstance oB (qb (pv 0) (qb (yh (v:=.ty "tuple") rfl T.tuple xD rfl) qi))))) (wu (zp qc1 (q8 (je (K:=K) rfl) (by rfl) T.len vB (qb (pv 0) qi)) qg (zr _)) (v5 (ye (jz (q8 (jd (K:=K) rfl) (by rfl) T.isinstance oB (qb (qz (qt (K:=K) rfl) (pv 0) qg (fun _ _=>rfl)) (qb (yh (v:=.ty "list") rfl T.list bH rfl) qi))))))))) (qp (zb wz)) zq)
   (qj (psS (i:=1) sc__law_is_table.nd Ni)
   (qj (psS (i:=2) sc__law_is_table.nd (yu (qb (uo ym qg) (qb (uo ym qg) qi))))
   (qj (j8 cC rfl (jq (K:=K) rfl (qz (qt (K:=K) rfl) (pv 0) qg (fun _ _=>rfl))) (pgN (i:=3) sc__law_is_table.nd) (qj (j6 (wI (wu (ye (jz (qy G D rfl (qb (pv 3) qi)))) (v5 (zp (za5 (K:=K) rfl ai) (zm (Nr (K:=K) rfl) (pv 3) jk (zj qg)) (pv 2) (zr _))))) (qp (zb wz)) zq)
   (qj (psS (i:=2) sc__law_is_table.nd (zm (Nr (K:=K) rfl) (pv 3) jk (zj qg)))
   (qp (j8 cC rfl (yz rfl T.range (qb (qz (qt (K:=K) rfl) (pv 3) qg (fun _ _=>rfl)) (qb (qx zg (qz (qt (K:=K) rfl) (pv 3) qg (fun _ _=>rfl)) (qz (qt (K:=K) rfl) (pv 3) qg (fun _ _=>rfl))) qi))) (pgN (i:=4) sc__law_is_table.nd) (qp (j8 cC rfl (yz rfl T.range (qb (qz (qt (K:=K) rfl) (pv 3) qg (fun _ _=>rfl)) (qb (qx zg (qz (qt (K:=K) rfl) (pv 3) qg (fun _ _=>rfl)) (qz (qt (K:=K) rfl) (pv 3) qg (fun _ _=>rfl))) qi))) (pgN (i:=5) sc__law_is_table.nd) (qj (j6 (wI (wu (Xn (qj2 hu (yu (qb (pv 4) (qb (pv 5) qi))) (pv 1)) (by rfl)) (wu (zp zo8 (pv 4) (qz (qt (K:=K) rfl) (pv 0) qg (fun _ _=>rfl)) (zr _)) (v5 (zp zo8 (pv 5) (qz (qt (K:=K) rfl) (pv 0) qg (fun _ _=>rfl)) (zr _)))))) (qp (zb wz)) zq)
   (qp (Xk hu (pv 1) (yu (qb (pv 4) (qb (pv 5) qi))) wz rfl))))))))))
   (qp (zb (Bf (Qi J6 J6 qg (qz (qt (K:=K) rfl) (pv 0) qg (fun _ _=>rfl)) qg) (Bf (Qi J6 J6 qg (qz (qt (K:=K) rfl) (pv 0) qg (fun _ _=>rfl)) qg) (G3 (xf Bb (q8 (Mp (K:=K) rfl) (by rfl) T.len vB (qb (pv 1) qi)) (qx wj (qz (qt (K:=K) rfl) (pv 0) qg (fun _ _=>rfl)) (qz (qt (K:=K) rfl) (pv 0) qg (fun _ _=>rfl))) (zr _))))))))))),?_⟩
  refine⟨_, "tuple",_,true,rfl,.tup hp,rfl,true,rfl,ul ?_⟩;refine⟨p,_,rfl,.inr (vI hp),rfl,_,rfl,ul ?_⟩;refine⟨p,_,(2:Int),_,rfl,rfl,vI hp,rfl,_, "list",_,true,rfl,.lst hl,rfl,true,rfl,ul ?_⟩;refine fun d hd=>?_;have s0:=tI (o:=.dT []) hd;have k0:=qd (H:=H) (a:=d) (o:=.dT []);generalize hH0:upd H d (.dT [])=H0 at *;refine⟨_,rfl,_,rfl,by show 2<=sizeLine;decide,fun la aj=>?_⟩;have s1:=tI (o:=.tup [.int (-1),.int (-1)]) aj;have k1:=qd (H:=H0) (a:=la) (o:=.tup [.int (-1),.int (-1)]);generalize hH1:upd H0 la (.tup [.int (-1),.int (-1)])=H1 at *;have Z:=s0.trans s1;refine⟨p,_,(2:Int),_,rfl,rfl,vI (Z _ _ hp),rfl,l,rfl,⟨_,uI (Z _ _ hl)⟩,?_⟩;refine Gi (K:=K) (a:=l) (xs:=ys) (inv_it H p d R C cs) ⟨[],la,none,none,none,-1,-1,rfl,Z,s1 _ _ k0,⟨by simp,fun k hk=>by simp at hk,fun r c=>⟨fun z=>absurd rfl z,fun⟨x,hx,_⟩=>by simp at hx⟩⟩,k1,fun x _=>.inl (by omega)⟩ (fun i σ H2 _ O=>?_) ?_ ?_
  ·obtain⟨_,_,_,_,_,_,_,_,s2,_⟩:=O;exact uI (s2 _ _ hl)
  ·intro i x σ H2 hi O;obtain⟨kv,la,c3,c4,c5,a,b,rfl,s2,d2,U,a3,ak⟩:=O;obtain⟨X,hX,ad⟩:=Ga ry hi;have a7:=(bA.mp hX).1;have fX:=tl.toPart.fit X (jA hX);have f1:=fX.down;have f2:=fX.across;obtain⟨b0,wb,rfl,a8,hwb⟩:=vm (ad.mono s2);have J:=s2 _ _ hp;have ordX:=ak X hX;have ao:HT.lexLe [(X.top:Int),(X.left:Int)] [a,b]=false:=by
    rw [HT.lexLe_cons];by_cases z:(X.top:Int)=a
    ·rw [kA z,HT.lexLe_cons,oA (by omega)];exact dB (by omega)
    ·rw [oA z];exact dB (by omega)
   refine⟨.ref b0,R,C,X,rfl,ad.mono s2,fX,fun Hq sq=>⟨true,rfl,ul ?_⟩⟩;replace s2:=s2.trans sq;replace d2:=sq _ _ d2;replace a3:=sq _ _ a3;replace J:=sq _ _ J;have hb:=sq _ _ a8;clear a8 sq;refine⟨_,rfl,b0,_,rfl,vI hb,(fun z=>absurd z.2 (by show ¬HT.sIx 5 5 (some 2)=5;decide)),fun t3 aq=>?_⟩;rw [show Ax [V.int (X.top:Int),V.int (X.left:Int),V.int (X.h:Int),V.int (X.w:Int),V.ref wb] none (some 2)=[V.int (X.top:Int),V.int (X.left:Int)] from rfl];have s3:=tI (o:=.tup [V.int (X.top:Int),V.int (X.left:Int)]) aq;have k3:=qd (H:=Hq) (a:=t3) (o:=.tup [V.int (X.top:Int),V.int (X.left:Int)]);generalize hH3:upd Hq t3 (.tup [V.int (X.top:Int),V.int (X.left:Int)])=H3 at *;refine⟨t3,la,[(X.top:Int),(X.left:Int)],[a,b],rfl,rfl,vI k3,vI (s3 _ _ a3),_,rfl,?_⟩;rw [ao];refine ul ?_;have a9:=s3 _ _ hb;refine⟨_,rfl,b0,_,rfl,vI a9,(fun z=>absurd z.2 (by show ¬HT.sIx 5 5 (some 2)=5;decide)),fun l5 ar=>?_⟩;rw [show Ax [V.int (X.top:Int),V.int (X.left:Int),V.int (X.h:Int),V.int (X.w:Int),V.ref wb] none (some 2)=[V.int (X.top:Int),V.int (X.left:Int)] from rfl];have s5:=tI (o:=.tup [V.int (X.top:Int),V.int (X.left:Int)]) ar;have k5:=qd (H:=H3) (a:=l5) (o:=.tup [V.int (X.top:Int),V.int (X.left:Int)]);generalize hH5:upd H3 l5 (.tup [V.int (X.top:Int),V.int (X.left:Int)])=H5 at *;have Y:=s5 _ _ a9;have aa:=s3.trans s5;have eh:((X.top:Int)+(X.h:Int) - (X.top:Int)).toNat=X.h:=by omega
   have ew:((X.left:Int)+(X.w:Int) - (X.left:Int)).toNat=X.w:=by omega
   have apart:∀r c,inC X r c->¬GT.cov (cs.take i) r c:=fun r c h1 ⟨y,hy,h2⟩=>by
    have pw:=tl.toPart.dis;rw [←jC i cs,bE a7] at pw
    have:=(zE.mp pw).2.2 y hy X (by rw [(bA.mp hX).2];exact uA);exact this r c h2 h1
   refine⟨b0,_,(0:Int),_,rfl,rfl,vI Y,rfl,b0,_,(0:Int),_,rfl,rfl,vI Y,rfl,b0,_,(2:Int),_,rfl,rfl,vI Y,rfl,_,_,rfl,rfl,(X.top:Int),(X.top:Int)+(X.h:Int),rfl,⟨by omega,by omega,by omega,by omega⟩,?_⟩;rw [eh];refine j5 (n:=X.h) (inv_it2 H H5 p d l5 b0 R C cs i X) ⟨kv,c4,c5,rfl,s2.trans aa,fun _ _ z=>z,aa _ _ d2,U.same fun r c=>⟨fun z=>.inl z,fun z=>z.elim id fun z=>absurd z.1.1 (by omega)⟩⟩ ?_ ?_
   ·intro j σ H6 hj O;obtain⟨kv,c4,c5,rfl,s6,t6,d6,a4⟩:=O;have a5:=t6 _ _ Y;refine⟨b0,_,(1:Int),_,rfl,rfl,vI a5,rfl,b0,_,(1:Int),_,rfl,rfl,vI a5,rfl,b0,_,(3:Int),_,rfl,rfl,vI a5,rfl,_,_,rfl,rfl,(X.left:Int),(X.left:Int)+(X.w:Int),rfl,⟨by omega,by omega,by omega,by omega⟩,?_⟩;rw [ew];refine j5 (n:=X.w) (inv_it3 H H5 p d l5 b0 R C cs i X j) ⟨kv,c5,rfl,s6,t6,d6,a4.same fun r c=>⟨fun z=>z.imp id fun z=>⟨z.1,.inl z.2⟩,fun z=>z.imp id fun z=>⟨z.1,z.2.elim id fun q=>absurd z.1.2.2.1 (by omega)⟩⟩⟩ ?_ ?_
    ·intro k σ H7 hk O;obtain⟨kv,c5,rfl,s7,t7,d7,S⟩:=O;have e1:(X.top:Int)+(j:Int)=((X.top+j:Nat):Int):=by simp
     have e2:(X.left:Int)+(k:Int)=((X.left+k:Nat):Int):=by simp
     have ae:inC X (X.top+j) (X.left+k):=⟨by omega,by omega,by omega,by omega⟩
     have af:¬(GT.cov (cs.take i) (X.top+j) (X.left+k)\/(inC X (X.top+j) (X.left+k)/\(X.top+j < X.top+j\/(X.top+j=X.top+j/\X.left+k < X.left+k)))):=fun z=>z.elim (apart _ _ ae) fun z=>by have:=z.2;omega
     have au:Ah kv (pl (X.top+j) (X.left+k))=none:=by
      cases e:Ah kv (pl (X.top+j) (X.left+k)) with
      |none=>rfl
      |some o=>exact absurd ((S.val _ _).mp (by rw [e];simp)) af
     dsimp only [jt];rw [e2,e1];refine⟨by show 2<=sizeLine;decide,fun t8 av=>?_⟩;have s8:=tI (o:=.tup [.int ((X.top+j:Nat):Int),.int ((X.left+k:Nat):Int)]) av;have k8:=qd (H:=H7) (a:=t8) (o:=.tup [.int ((X.top+j:Nat):Int),.int ((X.left+k:Nat):Int)]);generalize hH8:upd H7 t8 (.tup [.int ((X.top+j:Nat):Int),.int ((X.left+k:Nat):Int)])=H8 at *;refine⟨d,_,rfl,DGet.t (k:=pl (X.top+j) (X.left+k)) (s8 _ _ d7) k8,_,rfl,?_⟩;rw [au];refine ul ?_;have ag:=(s7.trans s8) _ _ hp;refine⟨p,_,(0:Int),_,rfl,rfl,vI ag,rfl,_,_,rfl,rfl,_,rfl,kh (fun z=>absurd (lB z) (by omega)) (fun _=>?_)⟩;refine⟨p,_,(1:Int),_,rfl,rfl,vI ag,rfl,_,_,rfl,rfl,_,rfl,kh (fun z=>absurd (lB z) (by omega)) (fun _=>?_)⟩;refine⟨by show 2<=sizeLine;decide,fun t9 aw=>?_⟩;have s9:=tI (o:=.tup [.int ((X.top+j:Nat):Int),.int ((X.left+k:Nat):Int)]) aw;have k9:=qd (H:=H8) (a:=t9) (o:=.tup [.int ((X.top+j:Nat):Int),.int ((X.left+k:Nat):Int)]);generalize hH9:upd H8 t9 (.tup [.int ((X.top+j:Nat):Int),.int ((X.left+k:Nat):Int)])=H9 at *;have a6:=s8.trans s9;have d9:=a6 _ _ d7;have kf:=S.few (by omega) (by omega);obtain⟨_,ax⟩:=S.put af (by omega) (by omega) (V.bl true);refine⟨d,_,rfl,DPut.t (k:=pl (X.top+j) (X.left+k)) d9 k9 (zf (by omega)),?_⟩;refine⟨_,some (.int ((X.left+k:Nat):Int)),?_,fun b' o e=>?_,(t7.trans a6.t).trans (SameT.putD d9),qd,ax.same fun r c=>?_⟩
     ·rw [←e1];rfl
     ·rw [qu (qw e hd)];exact a6 _ _ (s7 _ _ e)
     ·constructor
      ·rintro ((z |z) |z)
       ·exact .inl z
       ·exact .inr ⟨z.1,z.2.imp id fun q=>⟨q.1,by omega⟩⟩
       ·obtain⟨rfl,rfl⟩:=z;exact .inr ⟨ae,.inr ⟨rfl,by omega⟩⟩
      ·rintro (z |z)
       ·exact .inl (.inl z)
       ·rcases z.2 with q |q
        ·exact .inl (.inr ⟨z.1,.inl q⟩)
        ·by_cases e:c=X.left+k
         ·exact .inr ⟨q.1,e⟩
         ·exact .inl (.inr ⟨z.1,.inr ⟨q.1,by omega⟩⟩)
    ·intro σ H7 O;obtain⟨kv,c5,rfl,s7,t7,d7,S⟩:=O;refine⟨kv,_,_,rfl,s7,t7,d7,S.same fun r c=>⟨fun z=>z.imp id fun z=>⟨z.1,by have:=z.2;omega⟩,fun z=>z.imp id fun z=>⟨z.1,?_⟩⟩⟩;have h1:=z.2;have h2:=z.1.2.2.2;omega
   ·intro σ H6 O;obtain⟨kv,c4,c5,rfl,s6,t6,d6,a4⟩:=O;refine⟨kv,l5,_,_,_,(X.top:Int),(X.left:Int),rfl,s6,d6,a4.same fun r c=>?_,t6 _ _ k5,fun y hy=>?_⟩
    ·rw [qD,hX];show _↔GT.cov (cs.take i++[X]) r c;rw [Ip];exact⟨fun z=>z.imp id fun z=>z.1,fun z=>z.imp id fun z=>⟨z,z.2.1⟩⟩
    ·have ord:=tl.ord;have ah:=(bA.mp hy)
     have:=dD.mp ord i (i+1) a7 ah.1 (by omega);rw [(bA.mp hX).2,ah.2] at this;rcases this with z |z
     ·exact .inl (by omega)
     ·exact .inr ⟨by omega,by omega⟩
  ·intro σ H2 O;obtain⟨kv,la,c3,c4,c5,a,b,rfl,s2,d2,U,_,_⟩:=O;rw [←lx,pC] at U;have cnt:=U.count tl.all;have J:=s2 _ _ hp;refine⟨p,_,(0:Int),_,rfl,rfl,vI J,rfl,_,_,rfl,rfl,_,rfl,kh (fun _=>?_) (fun z=>absurd (eA (by omega)) z)⟩;refine⟨_,_,rfl,rfl,_,rfl,kh (fun _=>?_) (fun z=>absurd (eA (by omega)) z)⟩;refine⟨p,_,(1:Int),_,rfl,rfl,vI J,rfl,_,_,rfl,rfl,_,rfl,kh (fun _=>?_) (fun z=>absurd (eA (by omega)) z)⟩;refine⟨_,_,rfl,rfl,_,rfl,kh (fun _=>?_) (fun z=>absurd (eA (by omega)) z)⟩;refine⟨d,kv,rfl,d2,p,_,(0:Int),_,rfl,rfl,vI J,rfl,p,_,(1:Int),_,rfl,rfl,vI J,rfl,_,_,rfl,rfl,.inl ⟨by omega,by omega⟩,rfl,?_⟩;show Q (.bl (decide (V.int (kv.length:Int)=V.int ((R:Int) * (C:Int))))) H2;rw [eA (by rw [cnt];simp)];exact q _ s2
end
theorem Jc:Str.ofString "\n" = nl1:=by decide +kernel
theorem Ik:Str.ofString "" = emp:=by decide +kernel
theorem Ji {n:Nat} (h:n<=1000000):n < sizeLine:=by rw [qE];omega
inductive spEndG (vs:List V) (H:Hp) (Q:VK) (e3:XK):Prop
 |mk (v:V) (g:Thg) (_:vs=[v]) (_:AtG H g v) (_:(isStr g=false->∀l H',Same H H'->H' l=some (.lst [])->Q (.ref l) H')) (_:(∀z,g=.str z->∀l H',Same H H'->H' l=some (.lst ((GT.linesOf z).map V.str))->Q (.ref l) H'))
theorem Gy {H:Hp} {z:Str} {c:Nat} (j:c < 256) {Q:VK} (n:z.length<=400000) (q:∀l,H l=none->Q (.ref l) (upd H l (.lst ((Txt.split z ⟨#[c]⟩).map V.str)))):rSplit (.str z) [.str ⟨#[c]⟩] H Q:=by have f:=Dp (x:=z) j;exact⟨z,⟨#[c]⟩,rfl,rfl,rfl,zx (by omega),zx (by omega),zx (aD (qg3 z c _) (by omega)),q⟩
noncomputable def nv (js:List Nat):List V:=js.map fun (n:Nat)=>V.int (n:Int)
theorem qu0 {js:List Nat} {j:Nat} {y:V} (h:(nv js)[j]? = some y):∃k:Nat,js[j]? = some k/\y=.int (k:Int):=by unfold nv at h;rw [fA] at h;obtain⟨k,hk,rfl⟩:=qB.mp h;exact⟨k,hk,rfl⟩
noncomputable def J0 (ls:List Str):Bool:=!decide (ls=[]) && !decide (ls.getD 0 emp=emp) && ls.all fun y=>decide (y.length=(ls.getD 0 emp).length)
inductive spSheet (vs:List V) (H:Hp) (Q:VK) (e3:XK):Prop
 |mk (l:Addr) (ls:List Str) (_:vs=[.ref l]) (_:H l=some (.lst (ls.map V.str))) (_:ls.length<=400001) (_:(∀x∈ls,x.length<=400000)) (_:∀H',Same H H'->Q (.bl (J0 ls)) H')
noncomputable def Bd (xs:List Str) (n:Nat):List Nat:=(List.range n).filter fun i=>decide (xs[i]? = some Gq)
inductive spCross (vs:List V) (H:Hp) (Q:VK) (e3:XK):Prop
 |mk (v:V) (xs:List Str) (_:vs=[v]) (_:((∃l,v=.ref l/\H l=some (.lst (xs.map V.str)))\/(∃x,v=.str x/\xs=wy x))) (_:xs.length<=400001) (_:∀l' H',Same H H'->H' l'=some (.lst ((Bd xs xs.length).map fun (n:Nat)=>V.int (n:Int)))->Q (.ref l') H')
noncomputable def qy7 (x:Str) (k c:Nat):Bool:=decide (x.cps.toList.getD k 0=c)
inductive spAbove (vs:List V) (H:Hp) (Q:VK) (e3:XK):Prop
 |mk (x:Str) (a:Addr) (js:List Nat) (e:Nat) (_:vs=[.str x,.ref a]) (_:H a=some (.lst (nv (js++[e])))) (_:js.length<=900) (_:x.length<=400000) (_:(∀k∈js,k+1 < x.length)) (_:∀l H',Same H H'->H l=none->H' l=some (.lst ((js.map fun k=>qy7 x (k+1) 45).map V.bl))->Q (.ref l) H')
inductive spLeftOf (vs:List V) (H:Hp) (Q:VK) (e3:XK):Prop
 |mk (x:Str) (a:Addr) (js:List Nat) (e:Nat) (_:vs=[.str x,.ref a]) (_:H a=some (.lst (nv (js++[e])))) (_:js.length<=900) (_:x.length<=400000) (_:(∀k∈js,k < x.length)) (_:∀l H',Same H H'->H l=none->H' l=some (.lst ((js.map fun k=>qy7 x k 124).map V.bl))->Q (.ref l) H')
inductive spRun (vs:List V) (H:Hp) (Q:VK) (e3:XK):Prop
 |mk (a:Addr) (bs:List Bool) (f h:Nat) (_:vs=[.ref a,.int f]) (_:H a=some (.lst (bs.map V.bl))) (_:1<=h) (_:f+h<=bs.length) (_:(∀k,f < k->k < f+h->bs[k]? = some false)) (_:(f+h=bs.length\/bs[f+h]? = some true)) (_:Q (.int h) H)
noncomputable def qo0 (f b:Nat) (x:Str):Str:=⟨((x.cps.toList.take b).drop f).toArray⟩
inductive spWordsSeen (vs:List V) (H:Hp) (Q:VK) (e3:XK):Prop
 |mk (l d a:Addr) (ls:List Str) (m:Nat) (ds as:List V) (f b g e:Nat) (_:vs=[.ref l,.ref d,.ref a]) (_:H l=some (.lst (ls.map V.str))) (_:H d=some (.lst ds)) (_:H a=some (.lst as)) (_:ls.length<=400001) (_:(∀x∈ls,x.length=m)) (_:ls.length * (m+1)<=400000) (_:m<=400000) (_:atI ds 0=some (.int (f:Int))) (_:atI ds (-1)=some (.int (b:Int))) (_:atI as 0=some (.int (g:Int))) (_:atI as (-1)=some (.int (e:Int))) (_:g+1<=e) (_:e<=m) (_:∀t H',Same H H'->H' t=some (.tup ((PySem.Txt.words (Av sp1 (((ls.take b).drop (f+1)).map (qo0 (g+1) e)))).map V.str))->(∀y∈PySem.Txt.words (Av sp1 (((ls.take b).drop (f+1)).map (qo0 (g+1) e))),y.length<=400000)->Q (.ref t) H')
theorem qv7 {x y:Str} (h:y∈PySem.Txt.words x):y.length<=x.length:=by
 have w:=PySem.StrLaws.words_weight x;have a:∀(l:List Str),y∈l->y.length+1<=(l.map (·.length)).sum+l.length:=fun l j=>by
  induction l with
  |nil=>cases j
  |cons z l ih=>
   rw [aC,tE,fB];rcases gB.mp j with rfl |j
   ·omega
   ·have:=ih j;omega
 have:=a _ h;omega
theorem Q3 {H H1:Hp} {a:Addr} (s:Same H H1) (h:H1 a=none):H a=none:=by
 cases e:H a with
 |none=>rfl
 |some o=>rw [s _ _ e] at h;cases h
theorem Mj {xs:List Str} {i:Nat} {x:Str} (h:xs[i]? = some x):Bd xs (i+1)=Bd xs i++(if decide (x=Gq)=true then [i] else []):=by
 unfold Bd;rw [uD,List.filter_append];congr 1;have e:decide (xs[i]? = some Gq)=decide (x=Gq):=by rw [h];exact decide_eq_decide.mpr ⟨fun z=>nB z,fun z=>by rw [z]⟩
 by_cases z:x=Gq
 ·rw [List.filter_cons_of_pos (by rw [e];exact eA z),kA (eA z)];rfl
 ·rw [List.filter_cons_of_neg (by rw [e,dB z];exact bB),oA (by rw [dB z];exact bB)];rfl
theorem Uu {xs:List Str} {i:Nat}:(Bd xs i).length<=i:=by have:=List.length_filter_le (fun i=>decide (xs[i]? = some Gq)) (List.range i);rw [mC] at this;exact this
theorem Nv {x y:Str}:decide (V.str x=V.str y)=decide (x=y):=decide_eq_decide.mpr ⟨fun z=>by injection z,fun z=>by rw [z]⟩
theorem one_eq {c d:Nat}:((⟨#[c]⟩:Str)=⟨#[d]⟩)↔c=d:=⟨fun z=>by injection z with z;injection z with z;injection z,fun z=>by rw [z]⟩
theorem code_at {x:Str} {k:Nat} (h:k < x.length):∃c,x.cps.toList[k]? = some c/\x.cps.toList.getD k 0=c:=by
 have xl:x.length=x.cps.toList.length:=by simp [Str.length]
 refine⟨_,gA (by omega),?_⟩;rw [zA,gA (by omega)];rfl
theorem zp5:∀l:List Bool,(∀i,i < (l.takeWhile fun b=>!b).length->l[i]? = some false)/\(l.takeWhile fun b=>!b).length<=l.length/\((l.takeWhile fun b=>!b).length=l.length\/l[(l.takeWhile fun b=>!b).length]? = some true)
 | []=>⟨fun i h=>absurd h (Nat.not_lt_zero _),dA _,.inl rfl⟩
 |true::l=>⟨fun i h=>absurd h (Nat.not_lt_zero _),yB _,.inr rfl⟩
 |false::l=>by
  obtain⟨a,b,c⟩:=zp5 l;have e:((false::l).takeWhile fun b=>!b)=false::(l.takeWhile fun b=>!b):=rfl;rw [e,fB,fB];refine⟨fun i h=>?_,by omega,?_⟩
  ·cases i with
   |zero=>rfl
   |succ i=>exact a i (by omega)
  ·rcases c with c |c
   ·exact .inl (by omega)
   ·exact .inr c
noncomputable def runN (bs:List Bool) (f:Nat):Nat:=1+((bs.drop (f+1)).takeWhile fun b=>!b).length
theorem qx7 {bs:List Bool} {f:Nat} (h:f < bs.length):1<=runN bs f/\f+runN bs f<=bs.length/\(∀k,f < k->k < f+runN bs f->bs[k]? = some false)/\(f+runN bs f=bs.length\/bs[f+runN bs f]? = some true):=by
 obtain⟨a,b,c⟩:=zp5 (bs.drop (f+1));unfold runN;rw [wC] at b c;refine⟨by omega,by omega,fun k k1 k2=>?_,?_⟩
 ·have:=a (k - (f+1)) (by omega);rw [cE] at this;rw [←this];congr 1;omega
 ·rcases c with c |c
  ·exact .inl (by omega)
  ·rw [cE] at c;refine .inr ?_;rw [←c];congr 1;omega
section
variable {P:Program} {w:World} {K:PySem.W.Frag} {mg:Str->Option Value} {base:Heap}
theorem Qk:FnScope ["thing"] ["thing"] (qm (top 38)):=fsc
theorem O6 (T:Txt mg) (f:Addr) (fd:FuncData) (F:Fun K "ended_rows" "ended_rows" (top 38) f fd):FnOk P w K mg base CX0 1 f fd ["thing"] spEndG:=by
 refine F.ok Qk (fun vs H Q E h=>?_) (fun cdv A outer s H vs Q E hr h=>?_)
 ·obtain⟨v,g,rfl,_⟩:=h;rfl
 ·obtain⟨v,g,rfl,j,J,O⟩:=h;refine⟨_,(qj (j6 (wI (wu (ye (jz (q8 (jd (K:=K) rfl) (by rfl) T.isinstance oB (qb (pv 0) (qb (yh (v:=.ty "str") rfl T.str PyProof.Rows.boot_str rfl) qi))))) (v5 (ye (jz (xn (K:=K) rfl vC PySem.F.slot_str_endswith PySem.F.type_str_endswith qv1 (pv 0) (qb zz qi))))))) (qp (zb (vf qi))) zq)
   (qp (zb (zm (jo (K:=K) rfl) (xn (K:=K) rfl vC pE cH Nf (pv 0) (qb zz qi)) jk (zj (uo ym qg)))))),?_⟩
  rw [Jc];refine⟨_, "str",_,isStr g,rfl,j.ty,qn7 g,isStr g,rfl,?_⟩;cases g with
  |str tx=>
   obtain⟨rfl,hx⟩:=j.str_inv;have q:=O tx rfl;unfold GT.linesOf at q;refine ul ?_;refine⟨rfl,tx,nl1,rfl,rfl,_,rfl,?_⟩;cases D:Txt.endswith tx nl1 with
   |false=>rw [oA (by rw [D];exact bB)] at q;exact Ab ⟨by show 0<=sizeLine;decide,fun l hl=>q l _ (tI hl) qd⟩
   |true=>
    rw [kA D] at q;refine ul ?_;have S:=Dp (x:=tx) (c:=10) (by decide);have ne:=Y6 (x:=tx) (c:=10) (by decide);refine⟨rfl,?_⟩;unfold Zz tC qr0;refine Gy (c:=10) (by decide) hx fun m hm=>?_;have ex:Txt.split tx ⟨#[10]⟩=Txt.split tx nl1:=rfl;rw [ex] at S ne ⊢;obtain⟨ys,y,G⟩:∃ys y,Txt.split tx nl1=ys++[y]:=⟨_,_,(dE ne).symm⟩
    rw [G,List.dropLast_concat] at q;rw [G,lA];refine⟨_,rfl,_,rfl,m,_,rfl,uI qd,fun u U=>?_⟩;rw [show Ax (ys.map V.str++[y].map V.str) none (some (-1))=ys.map V.str from Gg _ _];exact q u _ ((tI hm).trans (tI U)) qd
  |_=>exact Ab (Ab ⟨by show 0<=sizeLine;decide,fun l hl=>J rfl l _ (tI hl) qd⟩)
theorem zl3:(["row", "signs"]:List Str).Nodup:=by decide +kernel
noncomputable abbrev qs4:Scope:=jh (Gr (yc (nth (zy (top 41)) 1)) 0)
theorem Wq:FnScope ["signs"] ["signs"] (qm (top 41)):=fsc
theorem W8 (T:Txt mg) (f:Addr) (fd:FuncData) (F:Fun K "is_sheet" "is_sheet" (top 41) f fd):FnOk P w K mg base CX0 1 f fd ["signs"] spSheet:=by
 refine F.ok Wq (fun vs H Q E h=>?_) (fun cdv A outer s H vs Q E hr h=>?_)
 ·obtain⟨l,ls,rfl,_⟩:=h;rfl
 ·obtain⟨l,ls,rfl,hl,n9,all,q⟩:=h;have Z:(A.deeper (envOfC "is_sheet" (qm (top 41)) s.heap.objs.size f cdv)).units+1+1 < cLine:=by have:=hr.units;omega
  have G:=Bg (X:=(vz CX0 P w K mg base ["signs"] "is_sheet" (qm (top 41)) f cdv A outer s H E).nox) (N:=["signs"]) (N1:=["row", "signs"]) (cap:=[none,some 0]) (scope:=qs4) (sc:=qm (top 41)) (s.heap.objs.size+1);refine⟨_,(qj (j6 (wI (wu (zp (Xm (n:=1) Z) (pv 0) (vf qi) (zr _)) (v5 (zp Bb (qz (zc (K:=K) rfl) (pv 0) qg (fun _ _=>rfl)) zz (zr _))))) (qp (zb wz)) zq)
   (qp (zb (q8 (Il (K:=K) rfl rfl) (by rfl) T.all lH (qb (jx G rfl (jq (K:=K) rfl (pv 0)) (fun _ _ _ _=>(pgC (i:=0) zl3)) (fun _ _ _ _=>jy) (fun _ _ _ _=>(xf Bb (q8 (ji (K:=K) rfl) (by rfl) T.len vB (qb (pv 0) qi)) (q8 (ji (K:=K) rfl) (by rfl) T.len vB (qb (qz (zc (K:=K) rfl) (pv 1) qg (fun _ _=>rfl)) qi)) (zr _)))) qi))))),?_⟩
  refine⟨by show 0<=sizeLine;decide,fun u hu=>?_⟩;have s1:=tI (o:=.lst []) hu;have k1:=qd (H:=H) (a:=u) (o:=.lst []);generalize hH1:upd H u (.lst [])=H1 at *;have D:=s1 _ _ hl;refine⟨.lst (ls.map Dd.str),.lst [],qe8 _,trivial,.lst D (Jt _ _),.lst k1 .nil,fun e=>⟨true,rfl,Ab ?_⟩,fun ne=>⟨false,rfl,ul ?_⟩⟩
  ·have e:ls=[]:=by
    injection e with e;exact List.map_eq_nil_iff.mp e
   subst e;exact q _ s1
  have ne:ls≠[]:=fun e=>ne (by rw [e];rfl);obtain⟨x0,O⟩:∃x0,ls[0]? = some x0:=⟨_,gA (qG.mpr ne)⟩
  have l0:=all x0 (jA O);have g0:ls.getD 0 emp=x0:=by rw [zA,O];rfl
  have U:atI (ls.map V.str) 0=some (V.str x0):=jg (j:=0) (by rw [fA,O];rfl);unfold J0 at q;rw [g0,dB ne] at q;refine⟨l,_,(0:Int),_,rfl,rfl,uI D,U,rfl,_,rfl,kh (fun z=>?_) (fun z=>?_)⟩
  ·have z:=lB z;injection z with z;rw [Ik] at z;have q:=q _ s1;rw [eA z] at q;exact q
  have z:x0≠emp:=fun e=>z (eA (by rw [e,Ik]));rw [dB z] at q;refine⟨l,rfl,⟨_,uI D⟩,fun acc J=>?_⟩;refine j4 (K:=K) (a:=l) (xs:=ls.map V.str) (fun j σ1 H2=>∃(c1:Option V),σ1=[c1,some (.ref l)]/\Same H1 H2/\H2 acc=some (.lst (((ls.take j).map fun y=>decide (y.length=x0.length)).map V.bl)))
   ⟨none,rfl,tI J,qd⟩ (fun j σ1 H2 _ ⟨_,_,s2,_⟩=>uI (s2 _ _ D)) ?_ ?_
  ·intro j x σ1 H2 hj Y;refine Dk Y fun c1 S=>?_;have eI:=S.1;have s2:=S.2.1;have h2:=S.2.2;clear Y S;subst eI;rw [fA] at hj;obtain⟨x,hx,rfl⟩:=qB.mp hj;have hjl:=(bA.mp hx).1;have lx:=all x (jA hx);dsimp only [jt];rw [kA rfl];refine⟨x,rfl,zx (by omega),l,_,(0:Int),_,rfl,rfl,uI (s2 _ _ D),U,x0,rfl,zx (by omega),rfl,?_⟩;rw [show decide (V.int (x.length:Int)=V.int (x0.length:Int))=decide (x.length=x0.length) from decide_eq_decide.mpr ⟨fun e=>by injection e with e;omega,fun e=>by rw [e]⟩];refine⟨_,h2,Ji (by rw [aA,aA,cB];omega),_,rfl,fun b o e=>?_,?_⟩
   ·rw [qu (qw e J)];exact s2 _ _ e
   ·rw [qd,jw hx,lA];rfl
  intro σ1 H2 Y;refine Dk Y fun c1 S=>?_;have s2:=S.2.1;have h2:=S.2.2;rw [aA,pC] at h2;refine qp5 h2 ?_;have q2:=q _ (s1.trans s2);rw [List.all_map];exact q2
theorem qy4:(["at", "sign"]:List Str).Nodup:=by decide +kernel
noncomputable abbrev crsScope:Scope:=jh (yc (nth (zy (top 42)) 0))
theorem Tj:FnScope ["signs"] ["signs"] (qm (top 42)):=fsc
theorem Tt (T:Txt mg) (f:Addr) (fd:FuncData) (F:Fun K "crossings" "crossings" (top 42) f fd):FnOk P w K mg base CX0 1 f fd ["signs"] spCross:=by
 refine F.ok Tj (fun vs H Q E h=>?_) (fun cdv A outer s H vs Q E hr h=>?_)
 ·obtain⟨v,xs,rfl,_⟩:=h;rfl
 ·obtain⟨v,xs,rfl,hv,few,q⟩:=h;have G:∀{X:Cx},CompOk X crsScope (Ih X.env.cells crsScope.names []) ["at", "sign"] [none,none]:=G6;refine⟨_,(qp (zb (jx G rfl (Ye (K:=K) rfl rfl T.enumerate (qb (pv 0) qi)) (fun _ _ _ _=>(Gx (K:=K) (n:=2) rfl rfl (yq (pgC (i:=0) qy4) (yq (pgC (i:=1) qy4) Gv)))) (fun _ _ _ _=>(Og (zp Bb (pv 1) zz (zr _)))) (fun _ _ _ _=>(pv 0))))),?_⟩;rcases hv with ⟨l,rfl,hl⟩ |⟨y,rfl,ey⟩
  ·refine .inl ⟨l,rfl,⟨_,uI hl⟩,fun m hm=>?_⟩;refine Tu (K:=K) (a:=l) (xs:=xs.map V.str) (fun i σ1 H2=>∃(c1 O:Option V),σ1=[c1,O]/\Same H H2/\H2 m=some (.lst ((Bd xs i).map fun (n:Nat)=>V.int (n:Int))))
    ⟨none,none,rfl,tI hm,qd⟩ (fun i σ1 H2 _ ⟨_,_,_,s2,_⟩=>uI (s2 _ _ hl)) ?_ ?_
   ·intro i x σ1 H2 t hi J U;refine Mm J fun c1 O j=>?_;have Y:=j.1;have s2:=j.2.1;have h2:=j.2.2;clear J j;subst Y;rw [fA] at hi;obtain⟨x,hx,rfl⟩:=qB.mp hi;have Z:=(bA.mp hx).1;have s3:=tI (o:=.tup [.int (i:Int),V.str x]) U;have k3:=qd (H:=H2) (a:=t) (o:=.tup [.int (i:Int),V.str x]);generalize a3:upd H2 t (.tup [.int (i:Int),V.str x])=H3 at *;have e:=Mj hx;refine⟨t,_,rfl,vI k3,rfl,_,_,rfl,_,_,rfl,rfl,?_⟩;dsimp only [jt];refine⟨rfl,_,rfl,?_⟩;rw [Xg,Nv];refine kh (fun D=>?_) (fun D=>?_)
    ·refine⟨_,s3 _ _ h2,?_,?_⟩
     ·rw [aA]
      have:=Uu (xs:=xs) (i:=i);exact Ji (by omega)
     ·refine⟨_,_,rfl,fun b' o S=>?_,?_⟩
      ·rw [qu (qw S hm)];exact s3 _ _ (s2 _ _ S)
      ·rw [e,kA D,lA];exact qd
    ·refine⟨_,_,rfl,s2.trans s3,?_⟩;rw [e,oA D,xC];exact s3 _ _ h2
   ·intro σ1 H2 J;refine Mm J fun c1 O j=>?_;have s2:=j.2.1;have h2:=j.2.2;rw [aA] at h2;exact q m H2 s2 h2
  ·refine .inr ⟨y,rfl,fun m hm=>?_⟩;have yl:y.cps.size=xs.length:=by rw [ey,uw];rfl
   refine qa7 (x:=y) (fun i σ1 H2=>∃(c1 O:Option V),σ1=[c1,O]/\Same H H2/\H2 m=some (.lst ((Bd xs i).map fun (n:Nat)=>V.int (n:Int))))
    ⟨none,none,rfl,tI hm,qd⟩ ?_ ?_
   ·intro i c σ1 H2 t hc J U;refine Mm J fun c1 O j=>?_;have Y:=j.1;have s2:=j.2.1;have h2:=j.2.2;clear J j;subst Y;have hx:xs[i]? = some ⟨#[c]⟩:=by rw [ey];exact Qo hc
    have Z:=(bA.mp hx).1;generalize (⟨#[c]⟩:Str)=x at *;have s3:=tI (o:=.tup [.int (i:Int),V.str x]) U;have k3:=qd (H:=H2) (a:=t) (o:=.tup [.int (i:Int),V.str x]);generalize a3:upd H2 t (.tup [.int (i:Int),V.str x])=H3 at *;have e:=Mj hx;refine⟨t,_,rfl,vI k3,rfl,_,_,rfl,_,_,rfl,rfl,?_⟩;dsimp only [jt];refine⟨rfl,_,rfl,?_⟩;rw [Xg,Nv];refine kh (fun D=>?_) (fun D=>?_)
    ·refine⟨_,s3 _ _ h2,?_,?_⟩
     ·rw [aA]
      have:=Uu (xs:=xs) (i:=i);exact Ji (by omega)
     ·refine⟨_,_,rfl,fun b' o S=>?_,?_⟩
      ·rw [qu (qw S hm)];exact s3 _ _ (s2 _ _ S)
      ·rw [e,kA D,lA];exact qd
    ·refine⟨_,_,rfl,s2.trans s3,?_⟩;rw [e,oA D,xC];exact s3 _ _ h2
   ·intro σ1 H2 J;refine Mm J fun c1 O j=>?_;have s2:=j.2.1;have h2:=j.2.2;rw [yl] at h2;exact q m H2 s2 h2
theorem zk6:(["line", "row"]:List Str).Nodup:=by decide +kernel
noncomputable abbrev qv5:Scope:=jh (yc (nth (zy (top 44)) 0))
theorem Ie:FnScope ["row", "across"] ["row", "across"] (qm (top 44)):=fsc
theorem Ig (T:Txt mg) (f:Addr) (fd:FuncData) (F:Fun K "borders_above" "borders_above" (top 44) f fd):FnOk P w K mg base CX0 1 f fd ["row", "across"] spAbove:=by
 refine F.ok Ie (fun vs H Q E h=>?_) (fun cdv A outer s H vs Q E hr h=>?_)
 ·obtain⟨x,a,js,e,rfl,_⟩:=h;rfl
 ·obtain⟨x,a,js,e,rfl,ha,n9,x9,hx,q⟩:=h;have G:=Bg (X:=(vz CX0 P w K mg base ["row", "across"] "borders_above" (qm (top 44)) f cdv A outer s H E).nox) (N:=["row", "across"]) (N1:=["line", "row"]) (cap:=[none,some 0]) (scope:=qv5) (sc:=qm (top 44)) (s.heap.objs.size+1);have S:nv (js++[e])=nv js++[V.int (e:Int)]:=by unfold nv;rw [lA];rfl
  refine⟨_,(qp (zb (jx G rfl (jq (K:=K) rfl (zm (jo (K:=K) rfl) (pv 1) jk (zj (uo ym qg)))) (fun _ _ _ _=>(pgC (i:=0) zk6)) (fun _ _ _ _=>jy) (fun _ _ _ _=>(xf Bb (qz (Ut) (pv 1) (qx zg (pv 0) qg) (fun _ _=>rfl)) zz (zr _)))))),?_⟩;refine⟨_,rfl,_,rfl,a,_,rfl,uI ha,fun u U=>?_⟩;rw [S,show Ax (nv js++[V.int (e:Int)]) none (some (-1))=nv js from Gg _ _];have s1:=tI (o:=.lst (nv js)) U;have k1:=qd (H:=H) (a:=u) (o:=.lst (nv js));generalize hH1:upd H u (.lst (nv js))=H1 at *;refine⟨u,rfl,⟨_,uI k1⟩,fun acc D=>?_⟩;refine j4 (K:=K) (a:=u) (xs:=nv js) (fun j σ1 H2=>∃(c1:Option V),σ1=[c1,some (.str x)]/\Same H1 H2/\H2 acc=some (.lst (((js.take j).map fun k=>qy7 x (k+1) 45).map V.bl)))
   ⟨none,rfl,tI D,qd⟩ (fun j σ1 H2 _ ⟨_,_,s2,_⟩=>uI (s2 _ _ k1)) ?_ ?_
  ·intro j y σ1 H2 Y O;refine Dk O fun c1 J=>?_;have Z:=J.1;have s2:=J.2.1;have h2:=J.2.2;clear O J;subst Z;obtain⟨k,hk,rfl⟩:=qu0 Y;obtain⟨c,hc,S⟩:=code_at (hx k (jA hk));dsimp only [jt];rw [kA rfl];refine⟨_,_,rfl,rfl,x,_,c,rfl,rfl,zx (by omega),jg (j:=k+1) hc,rfl,?_⟩;rw [qh0,Nv,show decide ((⟨#[c]⟩:Str)=Oj)=qy7 x (k+1) 45 from decide_eq_decide.mpr (by rw [S];exact one_eq)];refine⟨_,h2,zf (by rw [aA,aA,cB];omega),_,rfl,fun b o e=>?_,?_⟩
   ·rw [qu (qw e D)];exact s2 _ _ e
   ·rw [qd,jw hk,lA];rfl
  intro σ1 H2 O;refine Dk O fun c1 J=>?_;have s2:=J.2.1;have h2:=J.2.2;rw [show (nv js).length=js.length from aA ..,pC] at h2;exact q _ _ (s1.trans s2) (Q3 s1 D) h2
theorem zi7:(["line", "row"]:List Str).Nodup:=by decide +kernel
noncomputable abbrev qr1:Scope:=jh (yc (nth (zy (top 45)) 0))
theorem Jg:FnScope ["row", "across"] ["row", "across"] (qm (top 45)):=fsc
theorem Jj (T:Txt mg) (f:Addr) (fd:FuncData) (F:Fun K "borders_left" "borders_left" (top 45) f fd):FnOk P w K mg base CX0 1 f fd ["row", "across"] spLeftOf:=by
 refine F.ok Jg (fun vs H Q E h=>?_) (fun cdv A outer s H vs Q E hr h=>?_)
 ·obtain⟨x,a,js,e,rfl,_⟩:=h;rfl
 ·obtain⟨x,a,js,e,rfl,ha,n9,x9,hx,q⟩:=h;have G:=Bg (X:=(vz CX0 P w K mg base ["row", "across"] "borders_left" (qm (top 45)) f cdv A outer s H E).nox) (N:=["row", "across"]) (N1:=["line", "row"]) (cap:=[none,some 0]) (scope:=qr1) (sc:=qm (top 45)) (s.heap.objs.size+1);have S:nv (js++[e])=nv js++[V.int (e:Int)]:=by unfold nv;rw [lA];rfl
  refine⟨_,(qp (zb (jx G rfl (jq (K:=K) rfl (zm (jo (K:=K) rfl) (pv 1) jk (zj (uo ym qg)))) (fun _ _ _ _=>(pgC (i:=0) zi7)) (fun _ _ _ _=>jy) (fun _ _ _ _=>(xf Bb (qz (Ut) (pv 1) (pv 0) (fun _ _=>rfl)) zz (zr _)))))),?_⟩;refine⟨_,rfl,_,rfl,a,_,rfl,uI ha,fun u U=>?_⟩;rw [S,show Ax (nv js++[V.int (e:Int)]) none (some (-1))=nv js from Gg _ _];have s1:=tI (o:=.lst (nv js)) U;have k1:=qd (H:=H) (a:=u) (o:=.lst (nv js));generalize hH1:upd H u (.lst (nv js))=H1 at *;refine⟨u,rfl,⟨_,uI k1⟩,fun acc D=>?_⟩;refine j4 (K:=K) (a:=u) (xs:=nv js) (fun j σ1 H2=>∃(c1:Option V),σ1=[c1,some (.str x)]/\Same H1 H2/\H2 acc=some (.lst (((js.take j).map fun k=>qy7 x (k) 124).map V.bl)))
   ⟨none,rfl,tI D,qd⟩ (fun j σ1 H2 _ ⟨_,_,s2,_⟩=>uI (s2 _ _ k1)) ?_ ?_
  ·intro j y σ1 H2 Y O;refine Dk O fun c1 J=>?_;have Z:=J.1;have s2:=J.2.1;have h2:=J.2.2;clear O J;subst Z;obtain⟨k,hk,rfl⟩:=qu0 Y;obtain⟨c,hc,S⟩:=code_at (hx k (jA hk));dsimp only [jt];rw [kA rfl];refine⟨x,_,c,rfl,rfl,zx (by omega),jg (j:=k) hc,rfl,?_⟩;rw [za8,Nv,show decide ((⟨#[c]⟩:Str)=qq0)=qy7 x (k) 124 from decide_eq_decide.mpr (by rw [S];exact one_eq)];refine⟨_,h2,zf (by rw [aA,aA,cB];omega),_,rfl,fun b o e=>?_,?_⟩
   ·rw [qu (qw e D)];exact s2 _ _ e
   ·rw [qd,jw hk,lA];rfl
  intro σ1 H2 O;refine Dk O fun c1 J=>?_;have s2:=J.2.1;have h2:=J.2.2;rw [show (nv js).length=js.length from aA ..,pC] at h2;exact q _ _ (s1.trans s2) (Q3 s1 D) h2
theorem sc_run:FnScope ["borders", "first", "behind"] ["borders", "first"] (qm (top 46)):=fsc
theorem zk7 (T:Txt mg) (f:Addr) (fd:FuncData) (F:Fun K "run" "run" (top 46) f fd):FnOk P w K mg base CX0 1 f fd ["borders", "first"] spRun:=by
 refine F.ok sc_run (fun vs H Q E h=>?_) (fun cdv A outer s H vs Q E hr h=>?_)
 ·obtain⟨a,bs,j,h,rfl,_⟩:=h;rfl
 ·obtain⟨a,bs,j,h,rfl,ha,h1,hle,hf,O,q⟩:=h;refine⟨_,(qj (psS (i:=2) sc_run.nd (qx zg (pv 1) qg))
   (qj (qo4 cC (wI (Xr (zp Qj (pv 2) (q8 (je (K:=K) rfl) (by rfl) T.len vB (qb (pv 0) qi)) (zr _)) (Ov (ye (jz (qz (zc (K:=K) rfl) (pv 0) (pv 2) (fun _ _=>rfl))))))) (qp (psS (i:=2) sc_run.nd (qx zg (pv 2) qg))))
   (qp (zb (qx uc (pv 2) (pv 1)))))),?_⟩
  refine⟨_,_,rfl,rfl,?_⟩;refine⟨fun m σ H2=>∃k:Nat,m=j+h - k/\j < k/\k<=j+h/\σ=[some (.ref a),some (.int j),some (.int (k:Int))]/\H2=H,⟨_,j+1,rfl,by omega,by omega,rfl,rfl⟩,?_⟩;rintro m σ H2 ⟨k,rfl,k1,k2,rfl,rfl⟩;refine⟨a,_,rfl,.inl (uI ha),_,_,rfl,rfl,_,rfl,kh (fun z=>?_) (fun z=>?_)⟩
  ·have z:=lB z;rw [aA] at z;by_cases e:k < j+h
   ·have hk:=hf k k1 e;refine⟨a,_,(k:Int),.bl false,rfl,rfl,uI ha,jg (by rw [fA,hk];rfl),_,rfl,Ab ?_⟩;refine⟨fun D H'=>∃G:Nat,G=k+1/\D=[some (.ref a),some (.int j),some (.int (G:Int))]/\H'=H2,fun D H' ⟨G,e1,e2,e3⟩=>⟨j+h - G,by omega,G,rfl,by omega,by omega,e2,e3⟩,?_⟩;exact⟨_,_,rfl,rfl,k+1,rfl,rfl,rfl⟩
   ·have J:k=j+h:=by omega
    subst J;have hk:bs[j+h]? = some true:=O.resolve_left (by omega);refine⟨a,_,((j+h:Nat):Int),.bl true,rfl,rfl,uI ha,jg (by rw [fA,hk];rfl),_,rfl,ul ?_⟩;refine⟨_,_,rfl,rfl,?_⟩;have e:(((j+h:Nat):Int)) - (j:Int)=(h:Int):=by omega
    try dsimp only
    rw [e];exact q
  ·have z:¬((k:Int) < ((bs.map V.bl).length:Int)):=fun y=>z (eA y);rw [aA] at z;have J:k=j+h:=by omega
   subst J;refine ul ?_;refine⟨_,_,rfl,rfl,?_⟩;have e:(((j+h:Nat):Int)) - (j:Int)=(h:Int):=by omega
   try dsimp only
   rw [e];exact q
theorem zl8:(["row", "across"]:List Str).Nodup:=by decide +kernel
noncomputable abbrev qt1:Scope:=jh (yc (nth (zy (top 47)) 0))
theorem sc_words_seen:FnScope ["signs", "down", "across", "rows"] ["signs", "down", "across"] (qm (top 47)):=fsc
theorem Nj (T:Txt mg) (f:Addr) (fd:FuncData) (F:Fun K "words_seen" "words_seen" (top 47) f fd):FnOk P w K mg base CX0 1 f fd ["signs", "down", "across"] spWordsSeen:=by
 refine F.ok sc_words_seen (fun vs H Q E h=>?_) (fun cdv A outer s H vs Q E hr h=>?_)
 ·obtain⟨l,d,a,ls,m,ds,as,O,b,g,e,rfl,_⟩:=h;rfl
 ·obtain⟨l,d,a,ls,m,ds,as,O,b,g,e,rfl,hl,hd,ha,n9,Z,nm,m9,d0,d1,a0,a1,ge,el,q⟩:=h;have D:=Bg (X:=(vz CX0 P w K mg base ["signs", "down", "across", "rows"] "words_seen" (qm (top 47)) f cdv A outer s H E).nox) (N:=["signs", "down", "across", "rows"]) (N1:=["row", "across"]) (cap:=[none,some 2]) (scope:=qt1) (sc:=qm (top 47)) (s.heap.objs.size+1);refine⟨_,(qj (Om D rfl (jq (K:=K) rfl (zm (jo (K:=K) rfl) (pv 0) (zj (qx zg (qz (zc (K:=K) rfl) (pv 1) qg (fun _ _=>rfl)) qg)) (zj (qz (zc (K:=K) rfl) (pv 1) (uo ym qg) (fun _ _=>rfl))))) (fun _ _ _ _=>(pgC (i:=0) zl8)) (fun _ _ _ _=>jy) (fun _ _ _ _=>(zm (zp6 (K:=K) rfl) (pv 0) (zj (qx zg (qz (zc (K:=K) rfl) (pv 1) qg (fun _ _=>rfl)) qg)) (zj (qz (zc (K:=K) rfl) (pv 1) (uo ym qg) (fun _ _=>rfl))))) sc_words_seen.nd (i:=3) rfl rfl rfl)
   (qp (zb (Gm (Jw (K:=K) rfl) (by rfl) T.tuple xD (qb (zf6 (K:=K) rfl vC pE cH qg8 (xn (K:=K) rfl vC rE sE (De (K:=K) rfl) zz (qb (pv 3) qi))) qi))))),?_⟩
  refine⟨d,_,(0:Int),_,rfl,rfl,uI hd,d0,_,_,rfl,rfl,_,rfl,_,rfl,d,_,(-1:Int),_,rfl,rfl,uI hd,d1,_,rfl,l,_,rfl,uI hl,fun u hu=>?_⟩;have ec:Ax (ls.map V.str) (some ((O:Int)+1)) (some (b:Int))=((ls.take b).drop (O+1)).map V.str:=by have:=Ot (ls.map V.str) (O+1) b;rw [←List.map_take,←List.map_drop] at this;exact this
  try dsimp only
  rw [ec];have cl:((ls.take b).drop (O+1)).length<=ls.length:=by rw [wC,cB];omega
  have cm:∀x∈(ls.take b).drop (O+1),x∈ls:=fun x hx=>yC (mD hx);generalize (ls.take b).drop (O+1)=xs at *;have s1:=tI (o:=.lst (xs.map V.str)) hu;have k1:=qd (H:=H) (a:=u) (o:=.lst (xs.map V.str));generalize hH1:upd H u (.lst (xs.map V.str))=H1 at *;refine⟨u,rfl,⟨_,uI k1⟩,fun acc G=>?_⟩;refine j4 (K:=K) (a:=u) (xs:=xs.map V.str) (fun j σ1 H2=>∃(c1:Option V),σ1=[c1,some (.ref a)]/\Same H1 H2/\H2 acc=some (.lst (((xs.take j).map (qo0 (g+1) e)).map V.str)))
   ⟨none,rfl,tI G,qd⟩ (fun j σ1 H2 _ ⟨_,_,s2,_⟩=>uI (s2 _ _ k1)) ?_ ?_
  ·intro j y σ1 H2 hj S;refine Dk S fun c1 J=>?_;have eI:=J.1;have s2:=J.2.1;have h2:=J.2.2;clear S J;subst eI;rw [fA] at hj;obtain⟨x,hx,rfl⟩:=qB.mp hj;have xm:=cm x (jA hx);have x9:=Z x xm;have U:=s2 _ _ (s1 _ _ ha);dsimp only [jt];rw [kA rfl];refine⟨a,_,(0:Int),_,rfl,rfl,uI U,a0,_,_,rfl,rfl,_,rfl,_,rfl,a,_,(-1:Int),_,rfl,rfl,uI U,a1,_,rfl,x,g+1,e,rfl,rfl,rfl,ge,by omega,zx (by omega),?_⟩;refine⟨_,h2,Ji (by rw [aA,aA,cB];omega),_,rfl,fun b o e=>?_,?_⟩
   ·rw [qu (qw e G)];exact s2 _ _ e
   ·rw [qd,jw hx,lA];rfl
  intro σ1 H2 S;refine Dk S fun c1 J=>?_;have s2:=J.2.1;have h2:=J.2.2;clear S J;rw [aA,pC] at h2;have zl:∀z∈xs.map (qo0 (g+1) e),z.length<=m:=fun z hz=>by
   obtain⟨x,hx,rfl⟩:=xA.mp hz
   have:=Z x (cm x hx);have xl:x.length=x.cps.toList.length:=by simp [Str.length]
   show ((x.cps.toList.take e).drop (g+1)).toArray.size<=m;rw [qA,wC,cB];omega
  have sm:=GT.sum_le zl;have sb:xs.length * (m+1)<=ls.length * (m+1):=uH _ cl;rw [Nat.mul_succ xs.length m] at sb;rw [aA,wH] at sm;have jl:=Ju (xs.map (qo0 (g+1) e));rw [aA] at jl;have jb:(v6 (xs.map (qo0 (g+1) e))).length<=400000:=by omega
  refine⟨rfl,sp1,acc,xs.map (qo0 (g+1) e),by rw [Ge],rfl,uI h2,?_,?_⟩
  ·rw [aA];show _+xs.length * 1<=_;omega
  refine⟨rfl,_,rfl,rfl,?_,fun u3 Y=>?_⟩
  ·show (v6 (xs.map (qo0 (g+1) e))).length<=_;omega
  refine⟨u3,_,rfl,.inl ⟨uI qd,fun t ht=>?_⟩⟩;exact q t _ (((s1.trans s2).trans (tI Y)).trans (tI ht)) qd (fun y hy=>aD (qv7 hy) jb)
end
noncomputable def nD (l:List Nat) (k:Nat):Nat:=l.getD k 0
noncomputable def abF (ds js:List Nat) (ls:List Str) (r c:Nat):Bool:=qy7 (ls.getD (nD ds r) emp) (nD js c+1) 45
noncomputable def lbF (ds js:List Nat) (ls:List Str) (r c:Nat):Bool:=qy7 (ls.getD (nD ds r+1) emp) (nD js c) 124
noncomputable def hF (R:Nat) (ds js:List Nat) (ls:List Str) (r c:Nat):Nat:=runN ((List.range R).map fun k=>abF ds js ls k c) r
noncomputable def wF (C:Nat) (ds js:List Nat) (ls:List Str) (r c:Nat):Nat:=runN ((List.range C).map fun k=>lbF ds js ls r k) c
noncomputable def wdF (ds js:List Nat) (ls:List Str) (r c h w:Nat):List Str:=PySem.Txt.words (Av sp1 (((ls.take (nD ds (r+h))).drop (nD ds r+1)).map (qo0 (nD js c+1) (nD js (c+w)))))
noncomputable def zh2 (R C:Nat) (ds js:List Nat) (ls:List Str) (r c:Nat):Cell:=⟨r,c,hF R ds js ls r c,wF C ds js ls r c,wdF ds js ls r c (hF R ds js ls r c) (wF C ds js ls r c)⟩
noncomputable def atF (R C:Nat) (ds js:List Nat) (ls:List Str) (r c:Nat):List Cell:=if abF ds js ls r c=true/\lbF ds js ls r c=true then [zh2 R C ds js ls r c] else []
noncomputable def upF (R C:Nat) (ds js:List Nat) (ls:List Str) (i j:Nat):List Cell:=((List.range i).flatMap fun r=>(List.range C).flatMap (atF R C ds js ls r))++(List.range j).flatMap (atF R C ds js ls i)
structure View (R C:Nat) (ds js:List Nat) (ls:List Str) (m:Nat):Prop where
  R16:R<=16
  C16:C<=16
  dl:ds.length=R+1
  jl:js.length=C+1
  n:ls.length<=400001
  all:∀x∈ls,x.length=m
  nm:ls.length * (m+1)<=400000
  m9:m<=400000
  du:ds.Pairwise (· < ·)
  ju:js.Pairwise (· < ·)
  dn:∀k∈ds,k < ls.length
  jm:∀k∈js,k < m
noncomputable def Short (cs:List Cell):Prop:=∀x∈cs,∀y∈x.words,y.length<=400000
inductive spSeen (vs:List V) (H:Hp) (Q:VK) (e3:XK):Prop
 |mk (l d a:Addr) (R C:Nat) (ds js:List Nat) (ls:List Str) (m:Nat) (_:vs=[.ref l,.ref d,.ref a]) (_:H l=some (.lst (ls.map V.str))) (_:H d=some (.lst (nv ds))) (_:H a=some (.lst (nv js))) (_:View R C ds js ls m) (_:∀v zs H',Same H H'->H' v=some (.lst zs)->Short (upF R C ds js ls R 0)->AtL H' ((upF R C ds js ls R 0).map Cell.D) zs->Q (.ref v) H')
theorem za0 {l:List Nat} {k:Nat} (h:k < l.length):nD l k∈l:=by unfold nD;rw [zA,gA h];exact vH h
theorem zb1 {l:List Nat} {k:Nat} (h:k < l.length):(nv l)[k]? = some (V.int (nD l k:Int)):=by unfold nv nD;rw [fA,zA,gA h];rfl
theorem zi4 {l:List Nat} (h:l.Pairwise (· < ·)) {i j:Nat} (hi:i < j) (D:j < l.length):nD l i < nD l j:=by have:=dD.mp h i j (by omega) D hi;unfold nD;rw [zA,zA,gA D,gA (by omega:i < l.length)];exact this
theorem qd2 {l:List Nat} {n:Nat} (h:l.length=n+1):l=l.take n++[nD l n]:=by have:l.take (n+1)=l:=uB (by omega);rw [qD,gA (by omega)] at this;unfold nD;rw [zA,gA (by omega:n < l.length)];exact this.symm
theorem Dw {l:List Nat} {n:Nat} (h:n<=l.length):l.take n=(List.range n).map (nD l):=by
 refine nH fun k=>?_;by_cases z:k < n
 ·rw [sC z,fA,fD z];unfold nD;show _=some (l.getD k 0);rw [zA,gA (by omega:k < l.length)];rfl
 ·rw [kE (by rw [cB];omega),kE (by rw [aA,mC];omega)]
theorem Yy {l:List Nat} {n:Nat} (h:l.length=n+1):Ax (nv l) none (some (-1))=nv (l.take n):=by
 have e:nv l=nv (l.take n)++[V.int (nD l n:Int)]:=by
  conv=>lhs;rw [qd2 h]
  unfold nv;rw [lA];rfl
 rw [e];exact Gg _ _
theorem qz0 {l:List Nat} {p h:Nat}:Ax (nv l) (some (p:Int)) (some ((p:Int)+(h:Int)+1))=((nv l).take (p+h+1)).drop p:=by
 have:(p:Int)+(h:Int)+1=((p+h+1:Nat):Int):=by omega
 rw [this,Ot]
theorem Uv {l:List Nat} {p h:Nat} (hq:p+h < l.length):atI (((nv l).take (p+h+1)).drop p) 0=some (V.int (nD l p:Int)):=jg (j:=0) (by
 rw [cE,sC (by omega)];exact zb1 (by omega))
theorem seg_end {l:List Nat} {p h:Nat} (j:p+h < l.length):atI (((nv l).take (p+h+1)).drop p) (-1)=some (V.int (nD l (p+h):Int)):=by have ll:(nv l).length=l.length:=aA ..;rw [qD,zb1 j,sG (by rw [cB];omega)];exact Gk _ _
theorem Xh (R C:Nat) (ds js:List Nat) (ls:List Str) (i j:Nat):upF R C ds js ls i (j+1)=upF R C ds js ls i j++atF R C ds js ls i j:=by unfold upF;rw [uD,zH,iB];congr 2;rw [List.flatMap_cons,List.flatMap_nil,xC]
theorem zo3 (R C:Nat) (ds js:List Nat) (ls:List Str) (i:Nat):upF R C ds js ls i C=upF R C ds js ls (i+1) 0:=by unfold upF;rw [uD,zH];simp
theorem qx6 (R C:Nat) (ds js:List Nat) (ls:List Str):∀j i,(upF R C ds js ls i j).length<=i * C+j:=by
 have one:∀r j,((List.range j).flatMap (atF R C ds js ls r)).length<=j:=fun r j=>by
  induction j with
  |zero=>simp
  |succ j ih=>
   rw [uD,zH,wA]
   have:([j].flatMap (atF R C ds js ls r)).length<=1:=by
    rw [List.flatMap_cons,List.flatMap_nil,xC];unfold atF
    split<;>simp
   omega
 intro j i;unfold upF;rw [wA]
 have:=one i j
 have:((List.range i).flatMap fun r=>(List.range C).flatMap (atF R C ds js ls r)).length<=i * C:=by
  induction i with
  |zero=>simp
  |succ i ih=>
   rw [uD,zH,wA,mG,List.flatMap_cons,List.flatMap_nil,xC]
   have:=ih (one i j)
   have:=one i C;omega
 omega
structure RowsB (H:Hp) (n C:Nat) (B:Nat->Nat->Bool) (zs:List V):Prop where
  len:zs.length=n
  at_:∀r,r < n->∃b,zs[r]? = some (.ref b)/\H b=some (.lst ((List.range C).map fun c=>V.bl (B r c)))
theorem RowsB.mono {H H':Hp} {n C:Nat} {B:Nat->Nat->Bool} {zs:List V} (h:RowsB H n C B zs) (e:Same H H'):RowsB H' n C B zs:=⟨h.len,fun r j=>by obtain⟨b,e1,e2⟩:=h.at_ r j;exact⟨b,e1,e _ _ e2⟩⟩
theorem RowsB.snoc {H:Hp} {n C:Nat} {B:Nat->Nat->Bool} {zs:List V} {b m:Addr} (h:RowsB H n C B zs) (hm:H m=some (.lst zs)) (hb:H b=some (.lst ((List.range C).map fun c=>V.bl (B n c)))) (nb:b≠m) (no:∀(r:Nat) (b':Addr),r < n->zs[r]? = some (V.ref b')->b'≠m):RowsB (upd H m (.lst (zs++[.ref b]))) (n+1) C B (zs++[.ref b]):=⟨by rw [wA,h.len];rfl,fun r hr=>by
 by_cases z:r < n
 ·obtain⟨b',e1,e2⟩:=h.at_ r z;exact⟨b',by rw [aE (by rw [h.len];exact z)];exact e1,by rw [qu (no r b' z e1)];exact e2⟩
 ·have e:r=n:=by omega
  subst e;exact⟨b,by rw [kD (by rw [h.len];exact dA _),h.len,Nat.sub_self];rfl,by rw [qu nb];exact hb⟩⟩
inductive inv_sb (H:Hp) (acc l a:Addr) (C:Nat) (B:Nat->Nat->Bool) (j:Nat) (σ1:L2.St) (H2:Hp):Prop
 |mk (c1:Option V) (zs:List V) (_:σ1=[c1,some (.ref a),some (.ref l)]) (_:Same H H2) (_:H2 acc=some (.lst zs)) (_:RowsB H2 j C B zs) (_:∀(r:Nat) (b':Addr),zs[r]? = some (V.ref b')->b'≠acc)
theorem Qy {H H2 H3:Hp} {acc l a D:Addr} {C j:Nat} {B:Nat->Nat->Bool} {zs:List V} {c:V} (F:H acc=none) (s2:Same H H2) (h2:H2 acc=some (.lst zs)) (J:RowsB H2 j C B zs) (no:∀(r:Nat) (b':Addr),zs[r]? = some (V.ref b')->b'≠acc) (s3:Same H2 H3) (G:H2 D=none) (O:H3 D=some (.lst ((List.range C).map fun c=>V.bl (B j c)))) :
  inv_sb H acc l a C B (j+1) [some c,some (.ref a),some (.ref l)] (upd H3 acc (.lst (zs++[.ref D]))):=by
 have nb:D≠acc:=fun z=>by rw [z,h2] at G;cases G
 refine⟨_,_,rfl,fun b o e=>?_,qd,(J.mono s3).snoc (s3 _ _ h2) O nb fun r b' hr e=>no r b' e,fun r b' e=>?_⟩
 ·rw [qu (qw e F)];exact s3 _ _ (s2 _ _ e)
 ·by_cases z:r < zs.length
  ·rw [aE z] at e;exact no r b' e
  ·rw [kD (by omega)] at e
   have:=jA e
   have:V.ref b'=V.ref D:=by simpa using this
   injection this with this;rw [this];exact nb
inductive inv_se (H:Hp) (l d a za zl cl:Addr) (R C:Nat) (ds js:List Nat) (ls:List Str) (i j:Nat) (σ:L2.St) (H2:Hp):Prop
 |mk (c6 c7 c8 c9 c10:Option V) (zs:List V) (_:σ=[some (.ref l),some (.ref d),some (.ref a),some (.ref za),some (.ref zl),some (.ref cl),c6,c7,c8,c9,c10]) (_:Same H H2) (_:H2 cl=some (.lst zs)) (_:Short (upF R C ds js ls i j)/\AtL H2 ((upF R C ds js ls i j).map Cell.D) zs)
section
variable {R C m:Nat} {ds js:List Nat} {ls:List Str}
theorem qh4 (S:View R C ds js ls m) {i:Nat} (h:i < ls.length):∃x,ls[i]? = some x/\x.length=m/\ls.getD i emp=x:=by have e:ls[i]? = some ls[i]:=gA h;exact⟨_,e,S.all _ (jA e),by rw [zA,e];rfl⟩
end
section
variable {P:Program} {w:World} {K:PySem.W.Frag} {mg:Str->Option Value} {base:Heap}
theorem zm2:(["line", "across", "signs"]:List Str).Nodup:=by decide +kernel
theorem zq0:(["line", "across", "signs"]:List Str).Nodup:=by decide +kernel
theorem zi9:(["row", "left"]:List Str).Nodup:=by decide +kernel
noncomputable abbrev qr9:Scope:=jh (yc (nth (zy (top 43)) 0))
noncomputable abbrev qu7:Scope:=jh (yc (nth (zy (top 43)) 1))
noncomputable abbrev qw6:Scope:=jh (Gr (yc (nth (bodyOf (nth (bodyOf (nth (bodyOf (nth (zy (top 43)) 3)) 0)) 0)) 0)) 0)
theorem sc_cells_seen:FnScope ["signs", "down", "across", "above", "left_of", "cells", "top", "left", "height", "width", "words"] ["signs", "down", "across"] (qm (top 43)):=fsc
theorem Qg (T:Txt mg) (G:Cal P w K mg base 1 "borders_above" ["row", "across"] spAbove) (O:Cal P w K mg base 1 "borders_left" ["row", "across"] spLeftOf) (a7:Cal P w K mg base 1 "run" ["borders", "first"] spRun) (Z:Cal P w K mg base 1 "words_seen" ["signs", "down", "across"] spWordsSeen) (f:Addr) (fd:FuncData) (F:Fun K "cells_seen" "cells_seen" (top 43) f fd):FnOk P w K mg base CX0 2 f fd ["signs", "down", "across"] spSeen:=by
 refine F.ok sc_cells_seen (fun vs H Q E h=>?_) (fun cdv A outer s H vs Q E hr h=>?_)
 ·obtain⟨l,d,a,R,C,ds,js,ls,m,rfl,_⟩:=h;rfl
 ·obtain⟨l,d,a,R,C,ds,js,ls,m,rfl,hl,hd,ha,S,q⟩:=h;have D:=hr.mono (j:=1) (by decide);have J:=hr.mono (j:=1) (by decide);have a4:=hr.mono (j:=1) (by decide);have Y:=hr.mono (j:=1) (by decide);have ai:=Bg (X:=(vz CX0 P w K mg base ["signs", "down", "across", "above", "left_of", "cells", "top", "left", "height", "width", "words"] "cells_seen" (qm (top 43)) f cdv A outer s H E).nox) (N:=["signs", "down", "across", "above", "left_of", "cells", "top", "left", "height", "width", "words"]) (N1:=["line", "across", "signs"]) (cap:=[none,some 2,some 0]) (scope:=qr9) (sc:=qm (top 43)) (s.heap.objs.size+1);have aj:=Bg (X:=(vz CX0 P w K mg base ["signs", "down", "across", "above", "left_of", "cells", "top", "left", "height", "width", "words"] "cells_seen" (qm (top 43)) f cdv A outer s H E).nox) (N:=["signs", "down", "across", "above", "left_of", "cells", "top", "left", "height", "width", "words"]) (N1:=["line", "across", "signs"]) (cap:=[none,some 2,some 0]) (scope:=qu7) (sc:=qm (top 43)) (s.heap.objs.size+1);have ak:=Bg (X:=(vz CX0 P w K mg base ["signs", "down", "across", "above", "left_of", "cells", "top", "left", "height", "width", "words"] "cells_seen" (qm (top 43)) f cdv A outer s H E).nox) (N:=["signs", "down", "across", "above", "left_of", "cells", "top", "left", "height", "width", "words"]) (N1:=["row", "left"]) (cap:=[none,some 7]) (scope:=qw6) (sc:=qm (top 43)) (s.heap.objs.size+1);have R16:=S.R16;have C16:=S.C16;have n9:=S.n;have m9:=S.m9;have dl:=S.dl;have jl:=S.jl;have dT:(ds.take R).length=R:=by rw [cB];omega
  have lT:(nv (ds.take R)).length=R:=by unfold nv;rw [aA];exact dT
  have jT:js.take C++[nD js C]=js:=(qd2 jl).symm;have az:H a=some (.lst (nv (js.take C++[nD js C]))):=by rw [jT];exact ha
  have br:∀{r s:Nat},r < s->s<=R->nD ds r < nD ds s:=fun h1 h2=>zi4 S.du h1 (by omega);have b2:∀{r s:Nat},r < s->s<=C->nD js r < nD js s:=fun h1 h2=>zi4 S.ju h1 (by omega);have dn:∀{r:Nat},r<=R->nD ds r < ls.length:=fun h1=>S.dn _ (za0 (by omega));have jm:∀{r:Nat},r<=C->nD js r < m:=fun h1=>S.jm _ (za0 (by omega));have b3:∀k∈js.take C,k+1 < m:=fun k hk=>by
   rw [Dw (by omega)] at hk;obtain⟨c,hc,rfl⟩:=xA.mp hk;have hc:=yD.mp hc
   have:=b2 (r:=c) (s:=C) hc (dA _)
   have:=jm (r:=C) (dA _);omega
  refine⟨_,(qj (Om ai rfl (jq (K:=K) rfl (zm (jo (K:=K) rfl) (pv 1) jk (zj (uo ym qg)))) (fun _ _ _ _=>(pgC (i:=0) zm2)) (fun _ _ _ _=>jy) (fun _ _ _ _=>(qy G D rfl (qb (qz (zc (K:=K) rfl) (pv 2) (pv 0) (fun _ _=>rfl)) (qb (pv 1) qi)))) sc_cells_seen.nd (i:=3) rfl rfl rfl)
   (qj (Om aj rfl (jq (K:=K) rfl (zm (jo (K:=K) rfl) (pv 1) jk (zj (uo ym qg)))) (fun _ _ _ _=>(pgC (i:=0) zq0)) (fun _ _ _ _=>jy) (fun _ _ _ _=>(qy O J rfl (qb (qz (zc (K:=K) rfl) (pv 2) (qx zg (pv 0) qg) (fun _ _=>rfl)) (qb (pv 1) qi)))) sc_cells_seen.nd (i:=4) rfl rfl rfl)
   (qj (psS (i:=5) sc_cells_seen.nd (vf qi))
   (qj (j8 cC rfl (vh rfl T.range (qb (q8 (je (K:=K) rfl) (by rfl) T.len vB (qb (pv 3) qi)) qi)) (pgN (i:=6) sc_cells_seen.nd) (qp (j8 cC rfl (vh rfl T.range (qb (q8 (je (K:=K) rfl) (by rfl) T.len vB (qb (qz (zc (K:=K) rfl) (pv 3) (pv 6) (fun _ _=>rfl)) qi)) qi)) (pgN (i:=7) sc_cells_seen.nd) (qp (j6 (wI (Xr (jz (qz (zc (K:=K) rfl) (qz (zc (K:=K) rfl) (pv 3) (pv 6) (fun _ _=>rfl)) (pv 7) (fun _ _=>rfl))) (Ov (jz (qz (zc (K:=K) rfl) (qz (zc (K:=K) rfl) (pv 4) (pv 6) (fun _ _=>rfl)) (pv 7) (fun _ _=>rfl)))))) (qj (psS (i:=8) sc_cells_seen.nd (qy a7 a4 rfl (qb (jx ak rfl (jq (K:=K) rfl (pv 3)) (fun _ _ _ _=>(pgC (i:=0) zi9)) (fun _ _ _ _=>jy) (fun _ _ _ _=>(qz (zc (K:=K) rfl) (pv 0) (pv 1) (fun _ _=>rfl)))) (qb (pv 6) qi))))
   (qj (psS (i:=9) sc_cells_seen.nd (qy a7 a4 rfl (qb (qz (zc (K:=K) rfl) (pv 4) (pv 6) (fun _ _=>rfl)) (qb (pv 7) qi))))
   (qj (psS (i:=10) sc_cells_seen.nd (qy Z Y rfl (qb (pv 0) (qb (zm (jo (K:=K) rfl) (pv 1) (zj (pv 6)) (zj (qx zg (qx zg (pv 6) (pv 8)) qg))) (qb (zm (jo (K:=K) rfl) (pv 2) (zj (pv 7)) (zj (qx zg (qx zg (pv 7) (pv 9)) qg))) qi)))))
   (qp (yr (xn (K:=K) rfl wD gE iE vg (pv 5) (qb (yu (qb (pv 6) (qb (pv 7) (qb (pv 8) (qb (pv 9) (qb (pv 10) qi)))))) qi))))))) zq)))))
   (qp (zb (pv 5))))))),?_⟩
  refine⟨_,rfl,_,rfl,d,_,rfl,uI hd,fun u hu=>?_⟩;rw [show Ax (nv ds) none (some (-1))=nv (ds.take R) from Yy dl];have s1:=tI (o:=.lst (nv (ds.take R))) hu;have k1:=qd (H:=H) (a:=u) (o:=.lst (nv (ds.take R)));generalize hH1:upd H u (.lst (nv (ds.take R)))=H1 at *;refine⟨u,rfl,⟨_,uI k1⟩,fun za b4=>?_⟩;refine j4 (K:=K) (a:=u) (xs:=nv (ds.take R)) (inv_sb H1 za l a C (abF ds js ls)) ⟨none,[],rfl,tI b4,qd,⟨rfl,fun r hr=>by omega⟩,fun r b e=>by simp at e⟩ (fun j σ1 H2 _ U=>?_) ?_ ?_
  ·obtain⟨_,_,_,s2,_⟩:=U;exact uI (s2 _ _ k1)
  ·intro j y σ1 H2 hj U;obtain⟨c1,zs,rfl,s2,h2,rb,no⟩:=U;obtain⟨k,hk,rfl⟩:=qu0 hj;have a8:=(bA.mp hk).1;rw [dT] at a8;have ek:k=nD ds j:=by
    rw [Dw (by omega),fA,fD a8] at hk;exact (nB hk).symm
   subst ek;obtain⟨x,hx,xl,xd⟩:=qh4 S (dn (r:=j) (by omega));have a9:=s1.trans s2;dsimp only [jt];rw [kA rfl];refine⟨l,_,(nD ds j:Int),.str x,rfl,rfl,uI (a9 _ _ hl),jg (by rw [fA,hx];rfl),x,a,js.take C,nD js C,rfl,a9 _ _ az,by rw [cB];omega,by omega,fun k hk=>by have:=b3 k hk;omega,fun l3 H3 s3 n3 h3=>?_⟩;refine⟨zs,s3 _ _ h2,zf (by rw [rb.len];omega),?_⟩;refine Qy b4 s2 h2 rb no s3 n3 ?_;rw [h3,Dw (by omega),gD,gD];unfold abF;rw [xd];rfl
  intro σ1 H2 U;obtain⟨c1,zs,_,s2,h2,rb,_⟩:=U;rw [lT] at rb;have a9:=s1.trans s2;refine⟨_,rfl,_,rfl,d,_,rfl,uI (a9 _ _ hd),fun u3 bt=>?_⟩;rw [show Ax (nv ds) none (some (-1))=nv (ds.take R) from Yy dl];have s3:=tI (o:=.lst (nv (ds.take R))) bt;have k3:=qd (H:=H2) (a:=u3) (o:=.lst (nv (ds.take R)));generalize hH3:upd H2 u3 (.lst (nv (ds.take R)))=H3 at *;have s03:=a9.trans s3;refine⟨u3,rfl,⟨_,uI k3⟩,fun zl hzl=>?_⟩;refine j4 (K:=K) (a:=u3) (xs:=nv (ds.take R)) (inv_sb H3 zl l a C (lbF ds js ls)) ⟨none,[],rfl,tI hzl,qd,⟨rfl,fun r hr=>by omega⟩,fun r b e=>by simp at e⟩ (fun j σ1 H4 _ U=>?_) ?_ ?_
  ·obtain⟨_,_,_,s4,_⟩:=U;exact uI (s4 _ _ k3)
  ·intro j y σ1 H4 hj U;obtain⟨c1,zs,rfl,s4,h4,rb,no⟩:=U;obtain⟨k,hk,rfl⟩:=qu0 hj;have a8:=(bA.mp hk).1;rw [dT] at a8;have ek:k=nD ds j:=by
    rw [Dw (by omega),fA,fD a8] at hk;exact (nB hk).symm
   subst ek;have g0:=br (r:=j) (s:=j+1) (by omega) (by omega);have g1:=dn (r:=j+1) (by omega);obtain⟨x,hx,xl,xd⟩:=qh4 S (i:=nD ds j+1) (by omega);have a3:=s03.trans s4;have ej:(nD ds j:Int)+1=((nD ds j+1:Nat):Int):=by omega
   dsimp only [jt];rw [kA rfl];refine⟨_,_,rfl,rfl,l,_,(nD ds j:Int)+1,.str x,rfl,rfl,uI (a3 _ _ hl),by rw [ej];exact jg (by rw [fA,hx];rfl),x,a,js.take C,nD js C,rfl,a3 _ _ az,by rw [cB];omega,by omega,fun k hk=>by have:=b3 k hk;omega,fun l5 H5 s5 n5 h5=>?_⟩;refine⟨zs,s5 _ _ h4,zf (by rw [rb.len];omega),?_⟩;refine Qy hzl s4 h4 rb no s5 n5 ?_;rw [h5,Dw (by omega),gD,gD];unfold lbF;rw [xd];rfl
  intro σ1 H4 U;obtain⟨c1,ys,_,s4,h4,rl,_⟩:=U;rw [lT] at rl;have aa:=(rb.mono s3).mono s4;have ar:=s4 _ _ (s3 _ _ h2);have a3:=s03.trans s4;have bu:=a3 _ _ hl;have bw:=a3 _ _ hd;have bx:=a3 _ _ ha;clear rb h2 k3 k1;refine⟨by show 0<=sizeLine;decide,fun cl b7=>?_⟩;have s5:=tI (o:=.lst []) b7;have k5:=qd (H:=H4) (a:=cl) (o:=.lst []);refine⟨za,_,rfl,.inl (uI (s5 _ _ ar)),(R:Int),by rw [aa.len],by omega,by omega,?_⟩;have nR:((R:Int)).toNat=R:=by omega
  have nC:((C:Int)).toNat=C:=by omega
  rw [nR];refine j5 (n:=R) (fun i σ H5=>inv_se H4 l d a za zl cl R C ds js ls i 0 σ H5) ⟨none,none,none,none,none,[],rfl,s5,k5,(fun x hx=>by cases hx),.nil⟩ ?_ ?_
  ·intro i σ H5 hi U;obtain⟨c6,c7,c8,c9,c10,es,rfl,t5,h5,b5,a5⟩:=U;obtain⟨ra,era,b8⟩:=aa.at_ i hi;have b9:=t5 _ _ b8;have ei:(0:Int)+(i:Int)=(i:Int):=by omega
   dsimp only [jt];rw [ei];refine⟨za,_,(i:Int),.ref ra,rfl,rfl,uI (t5 _ _ ar),jg era,ra,_,rfl,.inl (uI b9),(C:Int),by rw [aA,mC],by omega,by omega,?_⟩;rw [nC];refine j5 (n:=C) (fun j σ H6=>∃ae,ae=some (V.int (i:Int))/\inv_se H4 l d a za zl cl R C ds js ls i j σ H6/\σ[6]? = some ae) ⟨_,rfl,⟨_,_,_,_,_,es,rfl,t5,h5,b5,a5⟩,rfl⟩ ?_ ?_
   ·intro j σ H6 hj U;obtain⟨_,rfl,⟨c6,c7,c8,c9,c10,es,rfl,t6,h6,b6,a6⟩,e6⟩:=U;have e6:c6=some (V.int (i:Int)):=nB e6;subst e6;have ej:(0:Int)+(j:Int)=(j:Int):=by omega
    obtain⟨ao,ba,bb⟩:=rl.at_ i hi;have au:=t6 _ _ ar;have bc:=t6 _ _ h4;dsimp only [jt];rw [ej];have fin:¬(abF ds js ls i j=true/\lbF ds js ls i j=true)->∃ae,ae=some (V.int (i:Int))/\inv_se H4 l d a za zl cl R C ds js ls i (j+1) [some (.ref l),some (.ref d),some (.ref a),some (.ref za),some (.ref zl),some (.ref cl),some (V.int (i:Int)),some (V.int (j:Int)),c8,c9,c10] H6/\([some (.ref l),some (.ref d),some (.ref a),some (.ref za),some (.ref zl),some (.ref cl),some (V.int (i:Int)),some (V.int (j:Int)),c8,c9,c10]:L2.St)[6]? = some ae:=fun z=>by refine⟨_,rfl,⟨_,_,_,_,_,es,rfl,t6,h6,?_⟩,rfl⟩;rw [Xh];unfold atF;rw [oA z,xC];exact⟨b6,a6⟩
    refine⟨za,_,(i:Int),.ref ra,rfl,rfl,uI au,jg era,ra,_,(j:Int),.bl (abF ds js ls i j),rfl,rfl,uI (t6 _ _ b8),jg (by rw [fA,fD hj];rfl),_,rfl,?_⟩;refine kh (fun z1=>?_) (fun z1=>ul (fin fun z=>z1 z.1));refine⟨zl,_,(i:Int),.ref ao,rfl,rfl,uI bc,jg ba,ao,_,(j:Int),.bl (lbF ds js ls i j),rfl,rfl,uI (t6 _ _ bb),jg (by rw [fA,fD hj];rfl),_,rfl,?_⟩;refine kh (fun z2=>?_) (fun z2=>fin fun z=>z2 z.2);clear fin;have l1:((List.range R).map fun k=>abF ds js ls k j).length=R:=by rw [aA,mC]
    have l2:((List.range C).map fun k=>lbF ds js ls i k).length=C:=by rw [aA,mC]
    obtain⟨h1,av,be,bf⟩:=qx7 (bs:=(List.range R).map fun k=>abF ds js ls k j) (f:=i) (by omega);obtain⟨w1,fa,bg,bh⟩:=qx7 (bs:=(List.range C).map fun k=>lbF ds js ls i k) (f:=j) (by omega);rw [l1] at av;rw [l2] at fa;have eH:runN ((List.range R).map fun k=>abF ds js ls k j) i=hF R ds js ls i j:=rfl;have eW:runN ((List.range C).map fun k=>lbF ds js ls i k) j=wF C ds js ls i j:=rfl;rw [eH] at h1 av be bf;rw [eW] at w1 fa bg bh;have aw:atF R C ds js ls i j=[zh2 R C ds js ls i j]:=by unfold atF;rw [kA ⟨z1,z2⟩]
    unfold zh2 at aw;generalize hF R ds js ls i j=hh at *;generalize wF C ds js ls i j=ww at *;refine⟨za,rfl,⟨_,uI au⟩,fun ac bj=>?_⟩;refine j4 (K:=K) (a:=za) (xs:=zs) (fun k σ1 H7=>∃(c1:Option V),σ1=[c1,some (V.int (j:Int))]/\Same H6 H7/\k<=R/\H7 ac=some (.lst (((List.range k).map fun r=>abF ds js ls r j).map V.bl)))
     ⟨none,rfl,tI bj,yB _,qd⟩ (fun k σ1 H7 _ ⟨_,_,t7,_⟩=>uI (t7 _ _ au)) ?_ ?_
    ·intro k y σ1 H7 hk U;refine Dk U fun c1 hJ=>?_;have eI:=hJ.1;have t7:=hJ.2.1;have h7:=hJ.2.2.2;clear U hJ;subst eI;have ax:=(bA.mp hk).1;rw [aa.len] at ax;obtain⟨rk,bz,c0⟩:=aa.at_ k ax;rw [bz] at hk;cases hk;dsimp only [jt];rw [kA rfl];refine⟨rk,_,(j:Int),.bl (abF ds js ls k j),rfl,rfl,uI (t7 _ _ (t6 _ _ c0)),jg (by rw [fA,fD hj];rfl),?_⟩;refine⟨_,h7,zf (by rw [aA,aA,mC];omega),_,rfl,fun b o e=>?_,ax,?_⟩
     ·rw [qu (qw e bj)];exact t7 _ _ e
     ·rw [qd,uD,lA,lA];rfl
    intro σ1 H7 U;refine Dk U fun c1 hJ=>?_;have t7:=hJ.2.1;have h7:=hJ.2.2.2;clear U hJ;rw [aa.len] at h7;refine⟨ac,_,i,hh,rfl,h7,h1,by rw [l1];exact av,be,bf,?_⟩;refine⟨zl,_,(i:Int),.ref ao,rfl,rfl,uI (t7 _ _ bc),jg ba,ao,(List.range C).map (fun c=>lbF ds js ls i c),j,ww,rfl,?_,w1,by rw [l2];exact fa,bg,bh,?_⟩
    ·rw [gD];exact t7 _ _ (t6 _ _ bb)
    have aq:=t6.trans t7;refine⟨_,rfl,_,_,rfl,rfl,_,_,rfl,rfl,_,rfl,d,_,rfl,uI (aq _ _ bw),fun u8 c2=>?_⟩
    try dsimp only
    rw [qz0];have s8:=tI (o:=.lst (((nv ds).take (i+hh+1)).drop i)) c2;have k8:=qd (H:=H7) (a:=u8) (o:=.lst (((nv ds).take (i+hh+1)).drop i));generalize hH8:upd H7 u8 (.lst (((nv ds).take (i+hh+1)).drop i))=H8 at *;refine⟨_,rfl,_,_,rfl,rfl,_,_,rfl,rfl,_,rfl,a,_,rfl,uI (s8 _ _ (aq _ _ bx)),fun u9 c3=>?_⟩
    try dsimp only
    rw [qz0];have s9:=tI (o:=.lst (((nv js).take (j+ww+1)).drop j)) c3;have k9:=qd (H:=H8) (a:=u9) (o:=.lst (((nv js).take (j+ww+1)).drop j));generalize hH9:upd H8 u9 (.lst (((nv js).take (j+ww+1)).drop j))=H9 at *;have g2:=b2 (r:=j) (s:=j+ww) (by omega) fa;have g3:=jm fa;refine⟨l,u8,u9,ls,m,_,_,nD ds i,nD ds (i+hh),nD js j,nD js (j+ww),rfl,s9 _ _ (s8 _ _ (aq _ _ bu)),s9 _ _ k8,k9,n9,S.all,S.nm,m9,Uv (by omega),seg_end (by omega),Uv (by omega),seg_end (by omega),by omega,by omega,fun wt H10 c4 bo bp=>?_⟩;have af:=(s8.trans s9).trans c4;have ag:=af _ _ (t7 _ _ h6);have ew:PySem.Txt.words (Av sp1 (((ls.take (nD ds (i+hh))).drop (nD ds i+1)).map (qo0 (nD js j+1) (nD js (j+ww)))))=wdF ds js ls i j hh ww:=rfl;rw [ew] at bo bp;generalize wdF ds js ls i j hh ww=ws at *;refine⟨.inl ⟨rfl,_,uI ag⟩,by show 5<=sizeLine;decide,fun p hp=>?_⟩;have ah:=tI (o:=.tup [.int (i:Int),.int (j:Int),.int (hh:Int),.int (ww:Int),.ref wt]) hp;have c5:=qd (H:=H10) (a:=p) (o:=.tup [.int (i:Int),.int (j:Int),.int (hh:Int),.int (ww:Int),.ref wt]);generalize hH11:upd H10 p (.tup [.int (i:Int),.int (j:Int),.int (hh:Int),.int (ww:Int),.ref wt])=bq at *;have few:es.length<=300:=by have z1:=a6.length;have z2:=qx6 R C ds js ls j i;have z3:i * C<=16 * 16:=dG (by omega) C16;rw [aA] at z1;omega
    refine⟨cl,_,_,rfl,rfl,ah _ _ ag,zf (by omega),?_⟩;refine⟨_,rfl,⟨_,_,_,_,_,es++[.ref p],rfl,fun b o e=>?_,qd,?_,?_⟩,rfl⟩
    ·rw [qu (qw e b7)];exact ah _ _ (af _ _ (aq _ _ e))
    ·rw [Xh,aw];intro x hx;rcases rB.mp hx with hx |hx
     ·exact b6 x hx
     ·rw [lF.mp hx];exact bp
    ·rw [Xh,aw,lA];have ay:SameT bq (upd bq cl (.lst (es++[.ref p]))):=cJ (ah _ _ ag);refine zI (((a6.mono t7).mono (af.trans ah)).monoT (Gb _) ay) ?_;exact .tup (ay _ _ c5) (.cons (.int _) (.cons (.int _) (.cons (.int _) (.cons (.int _) (.cons (.tup (ay _ _ (ah _ _ bo)) (Jt _ _)) .nil)))))
   ·intro σ H6 U;obtain⟨_,_,⟨c6,c7,c8,c9,c10,es,rfl,t6,h6,b6,a6⟩,_⟩:=U;rw [zo3] at a6 b6;exact⟨_,_,_,_,_,es,rfl,t6,h6,b6,a6⟩
  ·intro σ H5 U;obtain⟨c6,c7,c8,c9,c10,es,rfl,t5,h5,b5,a5⟩:=U;exact (q cl es H5 (a3.trans t5) h5 b5 a5)
end
open SZ
theorem zb7 {T:TS} {D:Ends} {σ:L2.St} {H:Hp} {P:L2.St->Hp->Prop} (k:∀F:L2.St->Hp->Prop,(∀j H',P j H'->F j H')->T { D with nx:=F} σ H) (h:∀j H',P j H'->D.nx j H'):T D σ H:=k D.nx h
noncomputable def Df (R C:Nat) (cs:List Cell):Str:=qc4 (ln (HS R C cs) R+1) (ln (WS C cs) C+1) (Gf (HS R C cs) (WS C cs) (TW (WS C cs)) cs)
noncomputable def zn1 (ls:List Str):List Str:=ls.map fun x=>(⟨#[x.cps.toList.getD 0 0]⟩:Str)
noncomputable def An (ls:List Str):List Nat:=Bd (zn1 ls) (zn1 ls).length
noncomputable def Qf (ls:List Str):List Nat:=Bd (wy (ls.getD 0 emp)) (wy (ls.getD 0 emp)).length
noncomputable def GoodD (z:Str):Prop:=J0 (GT.linesOf z)=true/\∃(R C:Nat) (cs:List Cell),(An (GT.linesOf z)).length=R+1/\(Qf (GT.linesOf z)).length=C+1/\Tiles R C cs/\1<=R/\R<=16/\1<=C/\C<=16/\upF R C (An (GT.linesOf z)) (Qf (GT.linesOf z)) (GT.linesOf z) R 0=cs/\Df R C cs=z
noncomputable def GoodG (g:Thg):Prop:=∃z,g=.str z/\GoodD z
inductive spReadD (CB:Addr) (vs:List V) (H:Hp) (Q:VK) (E:XK):Prop
 |mk (v:V) (g:Thg) (_:vs=[v]) (_:AtG H g v) (_:(∀z R C cs v' H',g=.str z->Tiles R C cs->1<=R->R<=16->1<=C->C<=16->Df R C cs=z->Same H H'->At H' (O9 R C cs) v'->GoodG g->Q v' H')) (_:(¬GoodG g->∀H',Same H H'->E (.ref CB) none H'))
theorem Tn {ls:List Str} (h:J0 ls=true):ls≠[]/\ls.getD 0 emp≠emp/\∀y∈ls,y.length=(ls.getD 0 emp).length:=by unfold J0 at h;simp only [bC,pH,decide_eq_false_iff_not,kF,sF] at h;exact⟨h.1.1,h.1.2,h.2⟩
theorem Zc {z:Str} {m:Nat} (h:∀x∈GT.linesOf z,x.length=m):(GT.linesOf z).length * (m+1)<=z.length:=by
 unfold GT.linesOf at h ⊢;split
 ·rename_i D;rw [kA D] at h;have ne:=Y6 (x:=z) (c:=10) (by decide);have a:=PySem.StrLaws.join_split z nl1;have d:=size_glued nl1 (PySem.Txt.split z nl1);rw [bF,a] at d;obtain⟨ys,y,j⟩:∃ys y,Txt.split z nl1=ys++[y]:=⟨_,_,(dE ne).symm⟩
  rw [j,List.dropLast_concat] at h ⊢;rw [j,lA,jG,wA] at d;have e1:nl1.length=1:=rfl;have F:∀l:List Str,(∀x∈l,x.length=m)->(l.map (·.length)).sum=l.length * m:=fun l hl=>by
   induction l with
   |nil=>simp
   |cons x l ih=>rw [aC,tE,fB,mG,ih fun y G=>hl y (vA _ G),hl x uA];omega
  have:=F ys h;rw [e1] at d;rw [Nat.mul_succ];simp only [fB,nE] at d;omega
 ·simp
theorem Xw (xs:List Str) (n:Nat):(Bd xs n).Pairwise (· < ·):=List.Pairwise.filter _ List.pairwise_lt_range
theorem Yx {xs:List Str} {n k:Nat} (h:k∈Bd xs n):k < n:=yD.mp (jH.mp h).1
theorem ze8 {z:Str} {ls:List Str} {R C:Nat} (hz:z.length<=400000) (hl:ls=GT.linesOf z) (j:J0 ls=true) (hR:(An ls).length=R+1) (hC:(Qf ls).length=C+1) (R16:R<=16) (C16:C<=16):View R C (An ls) (Qf ls) ls (ls.getD 0 emp).length:=by
 obtain⟨ne,n0,all⟩:=Tn j;have sz:=Zc (z:=z) (m:=(ls.getD 0 emp).length) (by rw [←hl];exact all);rw [←hl] at sz;have D:1<=ls.length:=qG.mpr ne;have l2:ls.length<=ls.length * ((ls.getD 0 emp).length+1):=Nat.le_mul_of_pos_right _ (by omega);have l3:(ls.getD 0 emp).length+1<=ls.length * ((ls.getD 0 emp).length+1):=Nat.le_mul_of_pos_left _ D;refine⟨R16,C16,hR,hC,by omega,all,by omega,by omega,Xw _ _,Xw _ _,fun k hk=>?_,fun k hk=>?_⟩
 ·have:=Yx hk;unfold zn1 at this;rw [aA] at this;exact this
 ·have:=Yx hk;rw [uw] at this;exact this
theorem Yp {n:Nat} (h:j9 (.int ((n:Int) - 1))=true):∃R,n=R+1/\1<=R/\R<=16:=by have h:(decide ((1:Int)<=(n:Int) - 1) && decide ((n:Int) - 1<=16))=true:=h;simp only [bC,sF] at h;exact⟨n - 1,by omega,by omega,by omega⟩
theorem qe2 {n R:Nat} (h:j9 (.int ((n:Int) - 1))=false) (e:n=R+1) (R1:1<=R) (R2:R<=16):False:=by have h:(decide ((1:Int)<=(n:Int) - 1) && decide ((n:Int) - 1<=16))=false:=h;rw [eA (by omega),eA (by omega)] at h;cases h
theorem qx9:∀{H:Hp} {cs:List Cell} {xs:List V},Short cs->AtL H (cs.map Cell.D) xs->AtGL H (cs.map Cell.G) xs
 |_,[],[],_,_=>.nil
 |_,x::cs,v::xs,ok,h=>by
  cases h with
  |cons h r=>exact .cons (Cell.atG h (ok x uA)) (qx9 (fun y j=>ok y (vA _ j)) r)
theorem zv3 {H:Hp} {R C:Nat} {cs:List Cell} {v:V} (h:At H (O9 R C cs) v) (ok:Short cs):AtG H (.tup [.int (R:Int),.int (C:Int),.lst (cs.map Cell.G)]) v:=by obtain⟨p,l,ys,rfl,hp,hl,j⟩:=Dm h;exact .tup hp (.cons (.int _) (.cons (.int _) (.cons (.lst hl (qx9 ok j)) .nil)))
section
variable {P:Program} {w:World} {K:PySem.W.Frag} {mg:Str->Option Value} {base:Heap}
theorem zk5:(["row"]:List Str).Nodup:=by decide +kernel
noncomputable abbrev rdcScope:Scope:=jh (Gr (yc (nth (zy (top 40)) 2)) 0)
theorem sc_read:FnScope ["text", "signs", "down", "across", "told"] ["text"] (qm (top 40)):=fsc
theorem ze1 (T:Txt mg) {J:Addr} (a4:ExcJ P w K mg base "BadTable" J) {O:Addr} (D:ExcC K mg base "BadDrawing" O) (aj:Cal1 P w K mg base 5 "checked" ["table"] (spChecked J)) (aq:Cal P w K mg base 4 "drawn" ["table"] spDrawn) (ae:Cal P w K mg base 1 "ended_rows" ["thing"] spEndG) (ah:Cal P w K mg base 1 "is_sheet" ["signs"] spSheet) (Z:Cal P w K mg base 1 "crossings" ["signs"] spCross) (a6:Cal P w K mg base 2 "is_side" ["thing"] (spG j9)) (af:Cal P w K mg base 2 "cells_seen" ["signs", "down", "across"] spSeen) (f:Addr) (fd:FuncData) (F:Fun K "read" "read" (top 40) f fd):FnOk P w K mg base (CX1 P w base) 7 f fd ["text"] (spReadD O):=by
 refine F.ok1 sc_read (fun vs H Q E h=>?_) (fun cdv A outer s H vs Q E hr h=>?_)
 ·obtain⟨v,g,rfl,_⟩:=h;rfl
 ·obtain⟨v,g,rfl,ag,q,bad⟩:=h;have ai:=hr.mono (j:=5) (by decide);have ak:=hr.mono (j:=4) (by decide);have a7:=hr.mono (j:=1) (by decide);have hr_is_sheet:=hr.mono (j:=1) (by decide);have U:=hr.mono (j:=1) (by decide);have a5:=hr.mono (j:=2) (by decide);have aa:=hr.mono (j:=2) (by decide);have av:∀{X:Cx},CompOk X rdcScope (Ih X.env.cells rdcScope.names []) ["row"] [none]:=G6;refine⟨_,(qj (psS (i:=1) sc_read.nd (qy ae a7 rfl (qb (pv 0) qi)))
   (qj (j6 (ye (jz (qy ah hr_is_sheet rfl (qb (pv 1) qi)))) (qp (Jh D rfl rfl Ny (qb zz qi))) zq)
   (qj (psS (i:=2) sc_read.nd (qy Z U rfl (qb (jx av rfl (jq (K:=K) rfl (pv 1)) (fun _ _ _ _=>(pgC (i:=0) zk5)) (fun _ _ _ _=>jy) (fun _ _ _ _=>(qz (Ut) (pv 0) qg (fun _ _=>rfl)))) qi)))
   (qj (psS (i:=3) sc_read.nd (qy Z U rfl (qb (qz (zc (K:=K) rfl) (pv 1) qg (fun _ _=>rfl)) qi)))
   (qj (j6 (wI (wu (ye (jz (qy a6 a5 rfl (qb (qx uc (q8 (je (K:=K) rfl) (by rfl) T.len vB (qb (pv 2) qi)) qg) qi)))) (v5 (ye (jz (qy a6 a5 rfl (qb (qx uc (q8 (je (K:=K) rfl) (by rfl) T.len vB (qb (pv 3) qi)) qg) qi))))))) (qp (Jh D rfl rfl Ny (qb zz qi))) zq)
   (qj (qu4 (i:=4) aj ai rfl rfl a4.mg D rfl (fun XE=>(qb (yu (qb (qx uc (q8 (je (K:=K) rfl) (by rfl) T.len vB (qb (pv 2) qi)) qg) (qb (qx uc (q8 (je (K:=K) rfl) (by rfl) T.len vB (qb (pv 3) qi)) qg) (qb (qy af aa rfl (qb (pv 1) (qb (pv 2) (qb (pv 3) qi)))) qi)))) qi)) sc_read.nd rfl (by first |exact Or.inl rfl |exact Or.inr rfl) (fun ea oe=>(qb zz qi)))
   (qj (j6 (zp qc1 (qy aq ak rfl (qb (pv 4) qi)) (pv 0) (zr _)) (qp (Jh D rfl rfl Ny (qb zz qi))) zq)
   (qp (zb (pv 4)))))))))),?_⟩
  dsimp only [zi1];refine zb7 (T:=qp4 _ _) (P:=fun σ H1=>∃(ls:List Str) (l:Addr),σ=[some v,some (.ref l),none,none,none]/\Same H H1/\H1 l=some (.lst (ls.map V.str))/\(∀x∈ls,x.length<=400000)/\ls.length<=400001/\(isStr g=false->ls=[])/\∀z,g=.str z->ls=GT.linesOf z) (fun N2 k2=>?_) ?_
  ·refine⟨v,g,rfl,ag,fun no l H1 s1 h1=>?_,fun z ez l H1 s1 h1=>?_⟩
   ·exact k2 _ _ ⟨[],l,rfl,s1,h1,(fun x hx=>by cases hx),yB _,fun _=>rfl,fun z e=>by rw [e] at no;cases no⟩
   ·subst ez;obtain⟨_,hz⟩:=ag.str_inv;have fw:=Dp (x:=z) (c:=10) (by decide);have lz:∀x∈GT.linesOf z,x.length<=400000:=fun x hx=>by
     unfold GT.linesOf at hx;split at hx
     ·exact aD (Zq (c:=10) (by decide) ((List.dropLast_sublist _).subset hx)) hz
     ·cases hx
    have ll:(GT.linesOf z).length<=400001:=by
     unfold GT.linesOf;split
     ·rw [List.length_dropLast];have ex:Txt.split z ⟨#[10]⟩=Txt.split z nl1:=rfl;rw [ex] at fw;omega
     ·exact yB _
    exact k2 _ _ ⟨_,l,rfl,s1,h1,lz,ll,(fun e=>by cases e),fun z' e=>by cases e;rfl⟩
  rintro σ H1 ⟨ls,l,rfl,s1,h1,lz,ll,bc,Y⟩;refine⟨l,ls,rfl,h1,ll,lz,fun H2 s2=>?_⟩;have b8:=s1.trans s2;have h2:=s2 _ _ h1;cases sh:J0 ls with
  |false=>refine⟨false,rfl,Ab ⟨by show 1<=sizeLine;decide,bad (fun⟨z,ez,gd⟩=>?_) _ b8⟩⟩;rw [Y z ez,gd.1] at sh;cases sh
  |true=>
  refine⟨true,rfl,ul ?_⟩;obtain⟨ne,n0,all⟩:=Tn sh;obtain⟨z,rfl⟩:∃z,g=.str z:=by
   cases g with
   |str z=>exact⟨z,rfl⟩
   |_=>exact absurd (bc rfl) ne
  obtain⟨rfl,hz⟩:=ag.str_inv;have Y:=Y z rfl;have no:¬GoodD z->¬GoodG (.str z):=fun n ⟨z',e,gd⟩=>by cases e;exact n gd
  obtain⟨x0,ay⟩:∃x0,ls[0]? = some x0:=⟨_,gA (qG.mpr ne)⟩
  have l0:=lz x0 (jA ay);have g0:ls.getD 0 emp=x0:=by rw [zA,ay];rfl
  have p0:1<=x0.length:=by
   rw [g0] at n0;refine cD fun y=>n0 ?_;have xl:x0.length=x0.cps.toList.length:=by simp [Str.length]
   exact str_ext (List.length_eq_zero_iff.mp (by omega))
  have be:atI (ls.map V.str) 0=some (V.str x0):=jg (j:=0) (by rw [fA,ay];rfl);refine⟨l,rfl,⟨_,uI h2⟩,fun acc ax=>?_⟩;refine j4 (K:=K) (a:=l) (xs:=ls.map V.str) (fun j σ1 H3=>∃(c1:Option V),σ1=[c1]/\Same H2 H3/\H3 acc=some (.lst (((ls.take j).map fun x=>(⟨#[x.cps.toList.getD 0 0]⟩:Str)).map V.str)))
   ⟨none,rfl,tI ax,qd⟩ (fun j σ1 H3 _ ⟨_,_,s3,_⟩=>uI (s3 _ _ h2)) ?_ ?_
  ·intro j y σ1 H3 hj hI;refine Dk hI fun c1 hJ=>?_;have eI:=hJ.1;have s3:=hJ.2.1;have h3:=hJ.2.2;clear hI hJ;subst eI;rw [fA] at hj;obtain⟨x,hx,rfl⟩:=qB.mp hj;have xm:=jA hx;have xl:=all x xm;rw [g0] at xl;obtain⟨c,hc,ec⟩:=code_at (x:=x) (k:=0) (by omega);dsimp only [jt];rw [kA rfl];refine⟨x,(0:Int),c,rfl,rfl,zx (by omega),jg (j:=0) hc,?_⟩;refine⟨_,h3,Ji (by rw [aA,aA,cB];omega),_,rfl,fun b o e=>?_,?_⟩
   ·rw [qu (qw e ax)];exact s3 _ _ e
   ·rw [qd,jw hx,lA,ec];rfl
  intro σ1 H3 hI;refine Dk hI fun c1 hJ=>?_;have s3:=hJ.2.1;have h3:=hJ.2.2;clear hI hJ;rw [aA,pC] at h3;refine⟨.ref acc,zn1 ls,rfl,.inl ⟨acc,rfl,h3⟩,by unfold zn1;rw [aA];exact ll,fun d H4 s4 h4=>?_⟩;have h4:H4 d=some (.lst (nv (An ls))):=h4;have l4:=s4 _ _ (s3 _ _ h2);refine⟨l,_,(0:Int),.str x0,rfl,rfl,uI l4,be,.str x0,wy x0,rfl,.inr ⟨_,rfl,rfl⟩,by rw [uw];omega,fun a H5 s5 h5=>?_⟩;have h5:H5 a=some (.lst (nv (Qf ls))):=by unfold Qf;rw [g0];exact h5
  have d5:=s5 _ _ h4;have l5:=s5 _ _ l4;have az:=((b8.trans s3).trans s4).trans s5;have b9:(nv (An ls)).length=(An ls).length:=aA ..;have ba:(nv (Qf ls)).length=(Qf ls).length:=aA ..;refine⟨d,_,rfl,.inl (uI d5),_,_,rfl,rfl,_,.int _,rfl,.int _,fun H6 s6=>?_⟩;rw [b9];cases e1:j9 (.int (((An ls).length:Int) - 1)) with
  |false=>refine⟨false,rfl,Ab (Ab ⟨by show 1<=sizeLine;decide,bad (no fun gd=>?_) _ (az.trans s6)⟩)⟩;obtain⟨_,R,C,cs,a1,_,_,a2,a3,_⟩:=gd;rw [←Y] at a1;exact qe2 e1 a1 a2 a3
  |true=>
  refine⟨true,rfl,ul ?_⟩;obtain⟨R,hR,R1,R2⟩:=Yp e1;refine⟨a,_,rfl,.inl (uI (s6 _ _ h5)),_,_,rfl,rfl,_,.int _,rfl,.int _,fun H7 s7=>?_⟩;rw [ba];cases e2:j9 (.int (((Qf ls).length:Int) - 1)) with
  |false=>refine⟨false,rfl,Ab ⟨by show 1<=sizeLine;decide,bad (no fun gd=>?_) _ ((az.trans s6).trans s7)⟩⟩;obtain⟨_,R,C,cs,_,a1,_,_,_,a2,a3,_⟩:=gd;rw [←Y] at a1;exact qe2 e2 a1 a2 a3
  |true=>
  refine⟨true,rfl,ul ?_⟩;obtain⟨C,hC,C1,C2⟩:=Yp e2;have S:=ze8 hz Y sh hR hC R2 C2;have ao:=s6.trans s7;have bf:=az.trans ao;have eR:(((nv (An ls)).length:Nat):Int) - 1=(R:Int):=by rw [b9,hR];omega
  have eC:(((nv (Qf ls)).length:Nat):Int) - 1=(C:Int):=by rw [ba,hC];omega
  refine⟨d,_,rfl,.inl (uI (ao _ _ d5)),_,_,rfl,rfl,a,_,rfl,.inl (uI (ao _ _ h5)),_,_,rfl,rfl,l,d,a,R,C,An ls,Qf ls,ls,_,rfl,ao _ _ l5,ao _ _ d5,ao _ _ h5,S,fun cl zs H8 s8 h8 bg a8=>⟨by show 3<=sizeLine;decide,fun p hp=>?_⟩⟩
  try dsimp only
  rw [eR,eC];have s9:=tI (o:=.tup [.int (R:Int),.int (C:Int),.ref cl]) hp;have k9:=qd (H:=H8) (a:=p) (o:=.tup [.int (R:Int),.int (C:Int),.ref cl]);generalize hH9:upd H8 p (.tup [.int (R:Int),.int (C:Int),.ref cl])=H9 at *;have a9:=zv3 (M8 k9 (s9 _ _ h8) (a8.mono s9)) bg;have b2:=(bf.trans s8).trans s9;have b3:((upF R C (An ls) (Qf ls) ls R 0).map Cell.G).length<=500000:=by
   rw [aA]
   have:=qx6 R C (An ls) (Qf ls) ls 0 R
   have:R * C<=16 * 16:=dG R2 C2;omega
  refine⟨.ref p,_,rfl,a9,?_⟩;by_cases gd:GoodD z
  ·obtain⟨_,R',C',cs,a1,a2,tl,_,_,_,_,eu,ep⟩:=gd;rw [←Y] at a1 a2 eu;obtain rfl:R'=R:=by omega
   obtain rfl:C'=C:=by omega
   rw [eu] at b3 ⊢;refine .inr ⟨R',C',cs,_,rfl,R1,R2,C1,C2,b3,tl.toPart,tl.ord,.inr ⟨rfl,.inr ⟨tl.all,fun p2 l2 bh H10 b4 _ b5 b6 b7=>?_⟩⟩⟩;have a10:At H10 (O9 R' C' cs) (.ref p2):=M8 b5 b6 b7;refine⟨.ref p2,R',C',cs,rfl,a10,tl.toPart,R2,C2,fun bb aw=>⟨rfl,_,rfl,zi8 (by rw [←ep];rfl) ?_⟩⟩;exact (q z R' C' cs _ bb rfl tl R1 R2 C1 C2 ep ((b2.trans b4).trans aw) (a10.mono aw) ⟨z,rfl,by rw [←Y];exact sh,R',C',cs,by rw [←Y];exact hR,by rw [←Y];exact hC,tl,R1,R2,C1,C2,by rw [←Y];exact eu,ep⟩)
  ·have ar:∀(dx:Addr) (H':Hp),Same H9 H'->PySem.W.exmOne K (.ref J) (.ref J)=some true/\(some dx)≠none/\(fun (us:List V) H3=>us.length<=sizeLine/\E (.ref O) none H3) [V.str (Str.ofString "what is drawn is no table")] H':=fun dx H' s'=>⟨a4.m,by simp,by show 1<=sizeLine;decide,bad (no gd) _ (b2.trans s')⟩
   obtain⟨cs,pt,od,h⟩:=classify R C ((upF R C (An ls) (Qf ls) ls R 0).map Cell.G);refine .inr ⟨R,C,cs,_,rfl,R1,R2,C1,C2,b3,pt,od,?_⟩;rcases h with ⟨x,hx,ht,hw⟩ |e
   ·exact .inl ⟨x,hx,ht,hw,fun dx H' s' _=>ar dx H' s'⟩
   ·refine .inr ⟨e,?_⟩;have e:=(List.map_inj_right fun x y=>kj).mp e;by_cases au:∀r c,r < R->c < C->GT.cov cs r c
    ·refine .inr ⟨au,fun p2 l2 bh H10 b4 _ b5 b6 b7=>?_⟩;have tl:Tiles R C cs:=⟨pt,au,od⟩
     have a10:At H10 (O9 R C cs) (.ref p2):=M8 b5 b6 b7;refine⟨.ref p2,R,C,cs,rfl,a10,pt,R2,C2,fun bb aw=>?_⟩;refine⟨rfl,_,rfl,?_⟩;by_cases ez:Df R C cs=z
     ·exact absurd ⟨by rw [←Y];exact sh,R,C,cs,by rw [←Y];exact hR,by rw [←Y];exact hC,tl,R1,R2,C1,C2,by rw [←Y];exact e,ez⟩ gd
     ·rw [dB (fun y=>ez (by injection y))];exact Ab ⟨by show 1<=sizeLine;decide,bad (no gd) _ ((b2.trans b4).trans aw)⟩
    ·refine .inl ⟨?_,fun dx H' s' _=>ar dx H' s'⟩;refine cD fun z=>au fun r c hr hc=>cD fun y=>z ⟨r,c,hr,hc,y⟩
end
noncomputable def Qa (m:Nat) (f:Nat->Str):Str:=Av (Str.ofString "") ((List.range m).map f)
noncomputable def cd (x:Str):Nat:=x.cps.toList.getD 0 0
theorem zi6 {x:Str} (h:x.length=1):x.cps.toList=[cd x]:=by
 have j:x.cps.toList.length=1:=by simpa [Str.length] using h
 match e:x.cps.toList,j with
 | [c],_=>unfold cd;rw [e];rfl
theorem J3 {α β:Type} (g:α->β):∀l:List α,(l.map fun a=>[g a]).flatten=l.map g
 | []=>rfl
 |a::l=>by rw [aC,jD,J3 g l];rfl
theorem Gs {m:Nat} {f:Nat->Str} (one:∀j,(f j).length=1):(Qa m f).cps.toList=(List.range m).map fun j=>cd (f j):=by unfold Qa;rw [Us,gD,←J3 fun j=>cd (f j)];congr 1;exact pG fun j _=>zi6 (one j)
theorem ql1 {m:Nat} {f:Nat->Str} (one:∀j,(f j).length=1):(Qa m f).length=m:=by
 have e:(Qa m f).length=(Qa m f).cps.toList.length:=by simp [Str.length]
 rw [e,Gs one,aA,mC]
noncomputable def Mv (n m:Nat) (G:Gd):List Str:=(List.range n).map fun i=>Qa m (G i)
theorem qf5 {n m i:Nat} {G:Gd} (h:i < n):(Mv n m G)[i]? = some (Qa m (G i)):=by unfold Mv;rw [fA,fD h];rfl
theorem qo6 (n m:Nat) (G:Gd):qc4 n m G=Wb (Mv n m G):=by unfold qc4 Wb Mv;rw [gD,Jc,Ik];show _=Av emp ((List.range n).map fun i=>Av (Str.ofString "") ((List.range m).map (G i))++nl1);rw [Ik]
theorem gap {ns:List Nat} (h:∀n∈ns,1<=n) {k:Nat} (hk:k < ns.length):ln ns k+1 < ln ns (k+1):=by
 rw [qj1 hk]
 have:=h ns[k] (vH hk);omega
theorem qg6 {ns:List Int} (h:∀z∈ns,(1:Int)<=z):∀n∈natL ns,1<=n:=fun n hn=>by
 obtain⟨z,j,rfl⟩:=xA.mp hn
 have:=h z j;omega
theorem zi2:∀c∈GT.signs.cps.toList,c≠45/\c≠124:=by decide +kernel
theorem zd5 {ws:List Nat} {x:Cell} (ok:WordsOk x.words) (k:Nat):∀y∈(TW ws x).getD k [],y≠Oj/\y≠qq0:=by
 intro y j;rw [zA] at j;cases e:(TW ws x)[k]? with
 |none=>rw [e] at j;cases j
 |some row=>
  rw [e] at j;have j:y∈row:=j;unfold TW at e;rw [fA] at e;obtain⟨g,F,rfl⟩:=qB.mp e;obtain⟨c,D,rfl⟩:=xA.mp j;have G:∀w∈g,w∈x.words:=fun w hw=>by
   have:=uv (ln ws (x.left+x.w) - ln ws x.left - 1) x.words [];have z:w∈([]:List Str)++x.words:=by rw [←this];exact xH.mpr ⟨g,jA F,hw⟩
   simpa using z
  unfold v6 sp1 at D;rw [ue] at D;have ne:c≠45/\c≠124:=by
   rcases Jz D with z |⟨w,hw,z⟩
   ·rw [z];exact⟨by decide,by decide⟩
   ·obtain⟨v,J,rfl⟩:=xA.mp hw;exact zi2 c ((ok.each v (G v J)).all c z)
  exact⟨fun z=>ne.1 (one_eq.mp z),fun z=>ne.2 (one_eq.mp z)⟩
section
variable {R C:Nat} {cs:List Cell}
theorem Nt (tl:Tiles R C cs) (R1:1<=R) (C1:1<=C):Sheet R C cs (HS R C cs) (WS C cs) (TW (WS C cs)) where
  tl:=tl
  hR:=Bu R C cs
  hC:=G4 C cs
  R1:=R1
  C1:=C1
  room:=fun x hx=>qm4 tl.toPart hx
  gH:=fun k hk=>gap (qg6 (gR R C cs)) (by rw [Bu];exact hk)
  gW:=fun k hk=>gap (qg6 (gC C cs)) (by rw [G4];exact hk)
  sgn:=fun x hx k=>zd5 (tl.fit x hx).words k
theorem Jy (hs ws:List Nat) (i j:Nat):(Gf hs ws (TW ws) cs i j).length=1:=N8 hs ws i j cs _ rfl
theorem zc2 (tl:Part R C cs) (hC:C<=16):ln (WS C cs) C<=208:=by
 have:=Iz (gC C cs) (ql8 _ (fun s hs=>⟨(Ja tl s hs).1,by
  obtain⟨x,hx,rfl⟩:=xA.mp hs;exact qy2 (fun y j=>((tl.fit x hx).words.each y j).hi)⟩) _) (by rw [show (qb0 C cs).length=C from Al _ _];exact hC)
 rw [G4] at this;exact this
theorem zg2 (tl:Part R C cs) (hR:R<=16):ln (HS R C cs) R<=208:=by
 have:=Iz (gR R C cs) (ql8 _ (fun s hs=>⟨(Im tl _ s hs).1,by
  obtain⟨x,hx,rfl⟩:=xA.mp hs;exact aD Y5 (tl.fit x hx).words.few⟩) _) (by rw [show (ze7 R C cs).length=R from Al _ _];exact hR)
 rw [Bu] at this;exact this
end
theorem qh7:∀c∈GT.signs.cps.toList,c≠9/\c≠10:=by decide +kernel
theorem zb8 {b:Nat} (hb:b=9\/b=10) {ws:List Nat} {x:Cell} (ok:WordsOk x.words) (k:Nat):∀y∈(TW ws x).getD k [],cd y≠b:=by
 intro y j;rw [zA] at j;cases e:(TW ws x)[k]? with
 |none=>rw [e] at j;cases j
 |some row=>
  rw [e] at j;have j:y∈row:=j;unfold TW at e;rw [fA] at e;obtain⟨g,F,rfl⟩:=qB.mp e;obtain⟨c,D,rfl⟩:=xA.mp j;have G:∀w∈g,w∈x.words:=fun w hw=>by
   have:=uv (ln ws (x.left+x.w) - ln ws x.left - 1) x.words [];have z:w∈([]:List Str)++x.words:=by rw [←this];exact xH.mpr ⟨g,jA F,hw⟩
   simpa using z
  unfold v6 sp1 at D;rw [ue] at D;show c≠b;rcases Jz D with z |⟨w,hw,z⟩
  ·rcases hb with rfl |rfl<;>(rw [z];decide)
  ·obtain⟨v,J,rfl⟩:=xA.mp hw
   have:=qh7 c ((ok.each v (G v J)).all c z);omega
theorem Uc {b:Nat} (hb:b=9\/b=10) (hs ws:List Nat) (i j:Nat):∀(cs:List Cell) (G:Gd),(∀x∈cs,WordsOk x.words)->cd (G i j)≠b->cd ((cs.foldl (fun G x=>vq hs ws (TW ws) x (TW ws x).length (Jf hs ws x G)) G) i j)≠b
 | [],G,_,h=>h
 |x::cs,G,ok,h=>by
  rw [zC];refine Uc hb hs ws i j cs _ (fun y D=>ok y (vA _ D)) ?_;unfold vq;split
  ·rw [zA];cases e:((TW ws x).getD (i - (ln hs x.top+1)) [])[j - (ln ws x.left+1)]? with
   |none=>rcases hb with rfl |rfl<;>(show cd vy≠_;decide)
   |some y=>exact zb8 hb (ok x uA) _ y (jA e)
  ·unfold Jf;split
   ·unfold kindS;split
    ·split
     ·rcases hb with rfl |rfl<;>decide
     ·rcases hb with rfl |rfl<;>decide
    ·rcases hb with rfl |rfl<;>decide
   ·exact h
noncomputable def LT (R C:Nat) (cs:List Cell):List Str:=Mv (ln (HS R C cs) R+1) (ln (WS C cs) C+1) (Gf (HS R C cs) (WS C cs) (TW (WS C cs)) cs)
noncomputable def IsD (z:Str):Prop:=∃(R C:Nat) (cs:List Cell),Tiles R C cs/\1<=R/\R<=16/\1<=C/\C<=16/\Df R C cs=z
theorem GoodD.is {z:Str} (g:GoodD z):IsD z:=by obtain⟨_,R,C,cs,_,_,tl,R1,R2,C1,C2,_,e⟩:=g;exact⟨R,C,cs,tl,R1,R2,C1,C2,e⟩
section
variable {R C:Nat} {cs:List Cell}
theorem xq (R C:Nat) (cs:List Cell):Df R C cs=Wb (LT R C cs):=qo6 _ _ _
theorem Mf (R C:Nat) (cs:List Cell):(LT R C cs).length=ln (HS R C cs) R+1:=by unfold LT Mv;rw [aA,mC]
theorem qp6 {i:Nat} (h:i < ln (HS R C cs) R+1):(LT R C cs)[i]? = some (Qa (ln (WS C cs) C+1) (Gf (HS R C cs) (WS C cs) (TW (WS C cs)) cs i)):=qf5 h
theorem zq4:∀x∈LT R C cs,x.length=ln (WS C cs) C+1:=fun x hx=>by obtain⟨i,_,rfl⟩:=xA.mp hx;exact ql1 (Jy _ _ i)
theorem qm6 {b:Nat} (hb:b=9\/b=10) (p:Part R C cs):∀x∈LT R C cs,b∉x.cps.toList:=fun x hx=>by obtain⟨i,_,rfl⟩:=xA.mp hx;rw [Gs (Jy _ _ i)];intro z;obtain⟨j,_,e⟩:=xA.mp z;exact Uc hb _ _ i j cs _ (fun x hx=>(p.fit x hx).words) (by rcases hb with rfl |rfl<;>(show cd vy≠_;decide)) e
theorem zj1 (tl:Tiles R C cs) (R1:1<=R) (C1:1<=C):2<=ln (HS R C cs) R/\2<=ln (WS C cs) C:=by have S:=Nt tl R1 C1;have a:=S.gH 0 (by omega);have b:=S.gW 0 (by omega);have c:=Ao (ns:=HS R C cs) (a:=0+1) (b:=R) R1;have d:=Ao (ns:=WS C cs) (a:=0+1) (b:=C) C1;rw [Dc] at a b;exact⟨by omega,by omega⟩
theorem Xc (tl:Tiles R C cs) (R1:1<=R) (C1:1<=C) {i:Nat} (hi:i<=ln (HS R C cs) R):∃r,(Qa (ln (WS C cs) C+1) (Gf (HS R C cs) (WS C cs) (TW (WS C cs)) cs i)).cps.toList=(if onL (HS R C cs) i=true then 43 else 124)::r:=by
 have e:=zw2 (Nt tl R1 C1) hi;rw [Gs (Jy _ _ i),List.range_succ_eq_map,aC,e];refine⟨_,vD (·::_) ?_⟩
 split<;>rfl
theorem Mt (p:Part R C cs):Txt.split (Df R C cs) ⟨#[10]⟩=LT R C cs++[emp]:=by rw [xq];exact Jm (qm6 (.inr rfl) p)
theorem zc3 (tl:Tiles R C cs) (R2:R<=16) (C2:C<=16):(∀x∈LT R C cs++[emp],x.length<=209)/\(LT R C cs).length<=209/\(Df R C cs).length<=65000:=by
 have a:=zg2 tl.toPart R2;have b:=zc2 tl.toPart C2;refine⟨fun x hx=>?_,by rw [Mf];omega,?_⟩
 ·rcases rB.mp hx with hx |hx
  ·rw [zq4 x hx];omega
  ·rw [lF.mp hx];exact yB _
 ·rw [xq];unfold Wb;rw [zc0]
  have:=GT.sum_le (g:=(LT R C cs).map fun x=>x++nl1) (k:=210) fun y j=>by obtain⟨x,hx,rfl⟩:=xA.mp j;rw [len_app,zq4 x hx];show _+1<=210;omega
  rw [aA,Mf] at this;omega
end
theorem Qc {z:Str} (g:IsD z):∃r,z.cps.toList=43::r:=by
 obtain⟨R,C,cs,tl,R1,R2,C1,C2,rfl⟩:=g;obtain⟨r,e⟩:=Xc tl R1 C1 (i:=0) (yB _);have e0:=qp6 (R:=R) (C:=C) (cs:=cs) (i:=0) (by omega);rw [kA (onL_iff.mpr ⟨0,yB _,(Dc _).symm⟩)] at e;rw [xq];cases h:LT R C cs with
 |nil=>rw [h] at e0;cases e0
 |cons x xs=>
  rw [h] at e0
  have:x=_:=nB e0;unfold Wb;rw [Aq,aC,aC,jD,Dl,this,e];exact⟨_,rfl⟩
theorem qh1 {z:Str} (g:IsD z):∃p a,z.cps.toList=p++[a,10]/\a≠10:=by
 obtain⟨R,C,cs,tl,R1,R2,C1,C2,rfl⟩:=g;have j:LT R C cs≠[]:=fun z=>by have:=Mf R C cs;rw [z] at this;cases this
 obtain⟨D,q,e⟩:∃D q,LT R C cs=D++[q]:=⟨_,_,(dE j).symm⟩
 have F:q∈LT R C cs:=by rw [e];simp
 have no:=qm6 (.inr rfl) tl.toPart q F;have ne:q.cps.toList≠[]:=fun z=>by
  have:=zq4 q F;have G:q.length=q.cps.toList.length:=by simp [Str.length]
  rw [G,z] at this;cases this
 rw [xq,e];unfold Wb;rw [lA,Aq,lA,List.flatten_append];refine⟨(((D.map fun x=>x++nl1).map fun w=>w.cps.toList).flatten)++q.cps.toList.dropLast,q.cps.toList.getLast ne,?_,fun z=>no (by rw [←z];exact List.getLast_mem _)⟩;rw [iB];congr 1;show (q++nl1).cps.toList++[]=_;rw [Dl,xC]
 conv=>lhs;rw [(dE ne).symm]
 show _++[10]=_;rw [iB];rfl
theorem zp7 {z:Str} (g:IsD z):9∉z.cps.toList:=fun h=>by
 obtain⟨R,C,cs,tl,R1,R2,C1,C2,rfl⟩:=g;rw [xq] at h;unfold Wb at h;rw [Aq] at h;obtain⟨l,hl,j⟩:=xH.mp h;obtain⟨y,D,rfl⟩:=xA.mp hl;obtain⟨x,hx,rfl⟩:=xA.mp D;rw [Dl] at j;rcases rB.mp j with j |j
 ·exact qm6 (.inl rfl) tl.toPart x hx j
 ·have:(9:Nat)∈[10]:=j;simp at this
theorem qt2 {z:Str} (g:IsD z):¬IsD (z++z):=fun b=>by
 obtain⟨R,C,cs,tl,R1,R2,C1,C2,rfl⟩:=g;obtain⟨F,J,D,G,O,R2',S,C2',e⟩:=b;rw [xq,xq,zb6] at e;have e:=zd9 (qm6 (.inr rfl) G.toPart) (fun x hx=>qm6 (.inr rfl) tl.toPart x ((rB.mp hx).elim id id)) e;have n:=Mf R C cs;have U:=Mf F J D;have big:=(zj1 tl R1 C1).1;have ll:=vD List.length e;rw [wA,n,U] at ll;have on:∀i,i<=ln (HS F J D) F->∀j,j<=ln (HS R C cs) R->(LT R C cs++LT R C cs)[i]? = (LT R C cs)[j]?->onL (HS R C cs) j=true->onL (HS F J D) i=true:=fun i hi j Y e2 on=>by rw [←e,qp6 (by omega),qp6 (by omega)] at e2;obtain⟨r,h1⟩:=Xc tl R1 C1 Y;obtain⟨r',h2⟩:=Xc G O S hi;rw [nB e2,h1,kA on] at h2;refine cD fun z=>?_;rw [oA z] at h2;injection h2 with h2;cases h2
 have a1:=on (ln (HS R C cs) R) (by omega) (ln (HS R C cs) R) (dA _) (aE (by omega)) (onL_iff.mpr ⟨R,by rw [Bu];exact dA _,rfl⟩);have a2:=on (ln (HS R C cs) R+1) (by omega) 0 (yB _) (by rw [kD (by omega),n,Nat.sub_self]) (onL_iff.mpr ⟨0,yB _,(Dc _).symm⟩);obtain⟨p,hp,ep⟩:=onL_iff.mp a1;obtain⟨q,Z,eq⟩:=onL_iff.mp a2;rw [Bu] at hp Z;have lt:p < q:=ln_lt_iff.mp (show ln (HS F J D) p < ln (HS F J D) q by omega);have g1:=(Nt G O S).gH p (by omega);have g2:=Ao (ns:=HS F J D) (a:=p+1) (b:=q) (by omega);omega
end KL
namespace KL
open PySem L2 GT PyProof.Rows
inductive spRefG (vs:List V) (H:Hp) (Q:VK) (e3:XK):Prop
 |mk (v:V) (g:Thg) (_:vs=[v]) (_:AtG H g v) (_:(GoodG g->∀H',Same H H'->Q (.bl false) H')) (_:(¬GoodG g->∀H',Same H H'->Q (.bl true) H'))
inductive spBaseG (vs:List V) (H:Hp) (Q:VK) (e3:XK):Prop
 |mk (v:V) (g:Thg) (_:vs=[v]) (_:AtG H g v) (_:¬GoodG g) (_:∀H',Same H H'->Q (.bl true) H')
section
variable {P:Program} {w:World} {K:PySem.W.Frag} {mg:Str->Option Value} {base:Heap}
theorem Lb:FnScope ["_law_text"] ["_law_text"] (qm (top 63)):=fsc
theorem Ln (T:Txt mg) {D:Addr} (J:ExcC K mg base "BadDrawing" D) (G:PySem.W.exmOne K (.ref D) (.ref D)=some true) (S:Cal1 P w K mg base 7 "read" ["text"] (spReadD D)) (f:Addr) (fd:FuncData) (F:Fun K "_law_refused" "_law_refused" (top 63) f fd):FnOk P w K mg base CX0 8 f fd ["_law_text"] spRefG:=by
 refine F.ok Lb (fun vs H Q E h=>?_) (fun cdv A outer s H vs Q E U h=>?_)
 ·obtain⟨v,g,rfl,_⟩:=h;rfl
 ·obtain⟨v,g,rfl,Y,q1,q2⟩:=h;have O:=U.mono (j:=7) (by decide);refine⟨_,(qj (ze9 S O rfl rfl rfl rfl J.mg (fun XE=>(qb (pv 0) qi)) (fun ea oe=>(qp (zb wz))))
   (qp (zb wz))),?_⟩
  refine ?_;dsimp only [qr0];exact⟨v,g,rfl,Y,fun z R C cs v' H' ez tl R1 R2 C1 C2 ep s' a' Z=>q1 Z _ s',fun no H' s'=>⟨G,q2 no _ s'⟩⟩
theorem sc__law_by_base:FnScope ["_law_text", "e"] ["_law_text"] (qm (top 64)):=fsc
theorem Lj (T:Txt mg) {D:Addr} (x_BadDrawing:ExcC K mg base "BadDrawing" D) {G:Addr} (S:ExcC K mg base "GridError" G) (J:PySem.W.exmOne K (.ref D) (.ref G)=some true) (O:PySem.W.kitOne K (.ref D) (.type "ValueError")=some true) (Y:Cal1 P w K mg base 7 "read" ["text"] (spReadD D)) (f:Addr) (fd:FuncData) (F:Fun K "_law_by_base" "_law_by_base" (top 64) f fd):FnOk P w K mg base CX0 8 f fd ["_law_text"] spBaseG:=by
 refine F.ok sc__law_by_base (fun vs H Q E h=>?_) (fun cdv A outer s H vs Q E Z h=>?_)
 ·obtain⟨v,g,rfl,_⟩:=h;rfl
 ·obtain⟨v,g,rfl,ag,no,q⟩:=h;have U:=Z.mono (j:=7) (by decide);refine⟨_,(qj (qo9 (i:=1) Y U rfl rfl rfl rfl S.mg (fun XE=>(qb (pv 0) qi)) sc__law_by_base.nd rfl rfl rfl T.isinstance rfl T.ValueError)
   (qp (zb wz))),?_⟩
  refine ?_;dsimp only [qr0];exact⟨v,g,rfl,ag,fun z R C cs v' H' ez tl R1 R2 C1 C2 ep s' a' gd=>absurd gd no,fun _ H' s'=>⟨J,rfl,O,q _ s'⟩⟩
end
inductive spWider (vs:List V) (H:Hp) (Q:VK) (e3:XK):Prop
 |mk (R C:Nat) (cs:List Cell) (n:Int) (_:vs=[.str (Df R C cs),.int n]) (_:Tiles R C cs) (_:1<=R) (_:R<=16) (_:1<=C) (_:C<=16) (_:∀z H',Same H H'->z.length<=200000->Q (.str z) H')
inductive spSpoiltD (vs:List V) (H:Hp) (Q:VK) (e3:XK):Prop
 |mk (R C:Nat) (cs:List Cell) (way n sg:Int) (_:vs=[.str (Df R C cs),.int way,.int n,.int sg]) (_:Tiles R C cs) (_:1<=R) (_:R<=16) (_:1<=C) (_:C<=16) (_:∀z H',Same H H'->z.length<=200000->Q (.str z) H')
theorem zr2 (sg:Int):∃c,atI (Str.ofString "+-| ab0\nA").cps.toList (sg % 9)=some c:=by
 obtain⟨j,D,hj⟩:∃j:Nat,sg % 9=(j:Int)/\j < 9:=⟨(sg % 9).toNat,by omega,by omega⟩
 have l:(Str.ofString "+-| ab0\nA").cps.toList.length=9:=by decide +kernel
 obtain⟨c,F⟩:∃c,(Str.ofString "+-| ab0\nA").cps.toList[j]? = some c:=⟨_,gA (by omega)⟩
 rw [D];exact⟨c,jg F⟩
theorem Yb {ls:List Str} {k:Nat} (h:∀x∈ls,x.length<=k) (hk:k<=430) (n:ls.length<=430):(ls.map (·.length)).sum+ls.length * nl1.length<=16777216/\(Av nl1 ls).length<=199000:=by have sm:=GT.sum_le h;have e1:nl1.length=1:=rfl;have d:(Av nl1 ls).length=(ls.map (·.length)).sum+(ls.length - 1) * nl1.length:=size_glued nl1 ls;have sk:k * ls.length<=430 * 430:=dG hk n;rw [e1] at d ⊢;exact⟨by omega,by omega⟩
theorem Yt {K:PySem.W.Frag} {H H4:Hp} {u:Addr} {L a b:List Str} {Q:VK} (ll:∀x∈L,x.length<=209) (few:L.length<=210) (la:a.length<=L.length) (lb:b.length<=L.length) (ia:∀x∈a,x∈L) (ib:∀x∈b,x∈L)
  (k:H4 u=some (.lst (a.map V.str++b.map V.str))) (s:Same H H4) (q:∀z H',Same H H'->z.length<=200000->Q (.str z) H'):rJoin K (.str nl1) [.ref u] H4 Q:=by
 rw [←lA] at k;have jl:=Yb (ls:=a++b) (k:=209) (fun v j=>(rB.mp j).elim (fun z=>ll v (ia v z)) fun z=>ll v (ib v z)) (by omega) (by rw [wA];omega);exact⟨_,u,_,rfl,rfl,uI k,jl.1,q _ _ s (by have:=jl.2;omega)⟩
section
variable {P:Program} {w:World} {K:PySem.W.Frag} {mg:Str->Option Value} {base:Heap}
theorem zo9:(["_law_row", "_law_at"]:List Str).Nodup:=by decide +kernel
noncomputable abbrev qq7:Scope:=jh (Gr (zn2 (yc (nth (zy (top 66)) 2))) 0)
theorem sc__law_wider:FnScope ["_law_text", "_law_place", "_law_rows", "_law_at"] ["_law_text", "_law_place"] (qm (top 66)):=fsc
theorem N5 (T:Txt mg) (f:Addr) (fd:FuncData) (F:Fun K "_law_wider" "_law_wider" (top 66) f fd):FnOk P w K mg base CX0 1 f fd ["_law_text", "_law_place"] spWider:=by
 refine F.ok sc__law_wider (fun vs H Q E h=>?_) (fun cdv A outer s H vs Q E hr h=>?_)
 ·obtain⟨R,C,cs,n,rfl,_⟩:=h;rfl
 ·obtain⟨R,C,cs,n,rfl,tl,R1,R2,C1,C2,q⟩:=h;have J:=Bg (X:=(vz CX0 P w K mg base ["_law_text", "_law_place", "_law_rows", "_law_at"] "_law_wider" (qm (top 66)) f cdv A outer s H E).nox) (N:=["_law_text", "_law_place", "_law_rows", "_law_at"]) (N1:=["_law_row", "_law_at"]) (cap:=[none,some 3]) (scope:=qq7) (sc:=qm (top 66)) (s.heap.objs.size+1);have sp:=Mt tl.toPart;have lt:=zc3 tl R2 C2;have ll:=lt.1;have few:=lt.2.1;have tle:=lt.2.2;have hm:∀x∈LT R C cs,1<=x.length:=fun x hx=>by rw [zq4 x hx];omega
  obtain⟨x0,S⟩:∃x0,(LT R C cs)[0]? = some x0:=⟨_,qp6 (by omega)⟩
  generalize LT R C cs=L at *;generalize Df R C cs=z at *;have m0:=hm x0 (jA S);have b0:=ll x0 (vE _ (jA S));refine⟨_,(qj (psS (i:=2) sc__law_wider.nd (zm (jo (K:=K) rfl) (xn (K:=K) rfl vC pE cH Nf (pv 0) (qb zz qi)) jk (zj (uo ym qg))))
   (qj (psS (i:=3) sc__law_wider.nd (qx ud (pv 1) (q8 (ji (K:=K) rfl) (by rfl) T.len vB (qb (qz (zc (K:=K) rfl) (pv 2) qg (fun _ _=>rfl)) qi))))
   (qp (zb (qx zu (xn (K:=K) rfl vC rE sE (De (K:=K) rfl) zz (qb (jx J rfl (jq (K:=K) rfl (pv 2)) (fun _ _ _ _=>(pgC (i:=0) zo9)) (fun _ _ _ _=>jy) (fun _ _ _ _=>(qx zu (zm (Ad (K:=K) rfl) (pv 0) jk (zj (qx zg (pv 1) qg))) (zm (Ad (K:=K) rfl) (pv 0) (zj (pv 1)) jk)))) qi)) zz))))),?_⟩
  refine⟨rfl,?_⟩;unfold Zz tC qr0;rw [Jc];refine Gy (c:=10) (by decide) (by omega) fun l hl=>?_;rw [sp,lA];refine⟨_,rfl,_,rfl,l,_,rfl,uI qd,fun u hu=>?_⟩;rw [show Ax (L.map V.str++[emp].map V.str) none (some (-1))=L.map V.str from Gg _ _];have s1:=(tI (o:=.lst (L.map V.str++[emp].map V.str)) hl).trans (tI (o:=.lst (L.map V.str)) hu);have k1:=qd (H:=upd H l (.lst (L.map V.str++[emp].map V.str))) (a:=u) (o:=.lst (L.map V.str));generalize hH1:upd (upd H l (.lst (L.map V.str++[emp].map V.str))) u (.lst (L.map V.str))=H1 at *;refine⟨u,_,(0:Int),.str x0,rfl,rfl,uI k1,jg (j:=0) (by rw [fA,S];rfl),x0,rfl,zx (by omega),_,_,rfl,rfl,by show (0:Int) < (x0.length:Int);omega,?_⟩;dsimp only [jt];generalize n % (x0.length:Int)=G;refine⟨rfl,u,rfl,⟨_,uI k1⟩,fun acc O=>?_⟩;refine j4 (K:=K) (a:=u) (xs:=L.map V.str) (fun j σ1 H3=>∃(c1:Option V) (ys:List Str),σ1=[c1,some (.int G)]/\Same H1 H3/\H3 acc=some (.lst (ys.map V.str))/\ys.length=j/\j<=L.length/\∀y∈ys,y.length<=418)
   ⟨none,[],rfl,tI O,qd,rfl,yB _,fun y U=>by cases U⟩ (fun j σ1 H3 _ ⟨_,_,_,s3,_⟩=>uI (s3 _ _ k1)) ?_ ?_
  ·intro j y σ1 H3 hj Y;refine Mm Y fun c1 ys D=>?_;have eI:=D.1;have s3:=D.2.1;have Z:=D.2.2.1;have l3:=D.2.2.2.1;have b3:=D.2.2.2.2.2;clear Y D;subst eI;rw [fA] at hj;obtain⟨x,hx,rfl⟩:=qB.mp hj;have a3:=(bA.mp hx).1;have xl:=ll x (vE _ (jA hx));have sl:∀lo hi,(PySem.Txt.slice x lo hi).length<=209:=fun lo hi=>aD (lI x lo hi) xl;have a1:=sl none (some (G+1));have a2:=sl (some G) none;dsimp only [jt];rw [kA rfl];refine⟨_,_,rfl,rfl,_,rfl,x,rfl,zx (by omega),_,rfl,x,rfl,zx (by omega),_,_,rfl,rfl,zx (by omega),?_⟩;refine⟨_,Z,zf (by rw [aA];omega),_,ys++[PySem.Txt.slice x none (some (G+1))++PySem.Txt.slice x (some G) none],rfl,fun b o e=>?_,?_,by rw [wA,l3];rfl,a3,fun y U=>?_⟩
   ·rw [qu (qw e O)];exact s3 _ _ e
   ·rw [lA];exact qd
   ·rcases rB.mp U with U |U
    ·exact b3 y U
    ·rw [lF.mp U,len_app];omega
  intro σ1 H3 Y;refine Mm Y fun c1 ys D=>?_;have s3:=D.2.1;have Z:=D.2.2.1;have l3:=D.2.2.2.1;have b3:=D.2.2.2.2.2;clear Y D;rw [aA] at l3;have jl:=Yb b3 (by omega) (by omega);have e1:nl1.length=1:=rfl;refine⟨_,acc,ys,rfl,rfl,uI Z,jl.1,_,_,rfl,rfl,zx (by have:=jl.2;omega),q _ _ (s1.trans s3) (by rw [len_app];have:=jl.2;omega)⟩
theorem sc__law_spoilt:FnScope ["_law_text", "_law_way", "_law_place", "_law_sign", "_law_rows", "_law_at"] ["_law_text", "_law_way", "_law_place", "_law_sign"] (qm (top 67)):=fsc
theorem Lx (T:Txt mg) (G:Cal P w K mg base 1 "_law_wider" ["_law_text", "_law_place"] spWider) (f:Addr) (fd:FuncData) (F:Fun K "_law_spoilt" "_law_spoilt" (top 67) f fd):FnOk P w K mg base CX0 2 f fd ["_law_text", "_law_way", "_law_place", "_law_sign"] spSpoiltD:=by
 refine F.ok sc__law_spoilt (fun vs H Q E h=>?_) (fun cdv A outer s H vs Q E hr h=>?_)
 ·obtain⟨R,C,cs,way,n,sg,rfl,_⟩:=h;rfl
 ·obtain⟨R,C,cs,way,n,sg,rfl,tl,R1,R2,C1,C2,q⟩:=h;have D:=hr.mono (j:=1) (by decide);have sp:=Mt tl.toPart;have lt:=zc3 tl R2 C2;have ll:=lt.1;have few:=lt.2.1;have a5:=lt.2.2;have l1:1<=(LT R C cs).length:=by rw [Mf];omega
  have ge:1<=(Df R C cs).length:=by obtain⟨r,e⟩:=Qc ⟨R,C,cs,tl,R1,R2,C1,C2,rfl⟩;show 1<=(Df R C cs).cps.size;rw [←pB,e];simp
  have wd:∀(H1:Hp) (n:Int),Same H H1->spWider [.str (Df R C cs),.int n] H1 Q (fun _ _ _=>False):=fun H1 n s1=>⟨R,C,cs,n,rfl,tl,R1,R2,C1,C2,fun z H' s'=>q z H' (s1.trans s')⟩
  have rl:(LT R C cs++[emp]).length=(LT R C cs).length+1:=by rw [wA];rfl
  generalize hz:Df R C cs=z at *;refine⟨_,(qj (j6 (zp Qj (pv 1) qg (zr _)) (qj (psS (i:=4) sc__law_spoilt.nd (xn (K:=K) rfl vC pE cH Nf (pv 0) (qb zz qi)))
   (qj (psS (i:=5) sc__law_spoilt.nd (qx ud (pv 2) (qx uc (q8 (je (K:=K) rfl) (by rfl) T.len vB (qb (pv 4) qi)) qg)))
   (qj (j6 (zp Bb (pv 1) qg (zr _)) (qp (zb (xn (K:=K) rfl vC rE sE (De (K:=K) rfl) zz (qb (qx Tw (zm (jo (K:=K) rfl) (pv 4) jk (zj (pv 5))) (zm (jo (K:=K) rfl) (pv 4) (zj (qx zg (pv 5) qg)) jk)) qi)))) zq)
   (qp (zb (xn (K:=K) rfl vC rE sE (De (K:=K) rfl) zz (qb (qx Tw (zm (jo (K:=K) rfl) (pv 4) jk (zj (qx zg (pv 5) qg))) (zm (jo (K:=K) rfl) (pv 4) (zj (pv 5)) jk)) qi))))))) zq)
   (qj (j6 (zp Bb (pv 1) qg (zr _)) (qp (zb (qy G D rfl (qb (pv 0) (qb (pv 2) qi))))) zq)
   (qj (psS (i:=5) sc__law_spoilt.nd (qx ud (pv 2) (q8 (ji (K:=K) rfl) (by rfl) T.len vB (qb (pv 0) qi))))
   (qj (j6 (zp Bb (pv 1) qg (zr _)) (qp (zb (qx zu (zm (Ad (K:=K) rfl) (pv 0) jk (zj (pv 5))) (zm (Ad (K:=K) rfl) (pv 0) (zj (qx zg (pv 5) qg)) jk)))) zq)
   (qj (j6 (zp Bb (pv 1) qg (zr _)) (qp (zb (qx zu (zm (Ad (K:=K) rfl) (pv 0) jk (zj (qx zg (pv 5) qg))) (zm (Ad (K:=K) rfl) (pv 0) (zj (pv 5)) jk)))) zq)
   (qp (zb (qx zu (qx zu (zm (Ad (K:=K) rfl) (pv 0) jk (zj (pv 5))) (qz (Ut) zz (qx ud (pv 3) qg) (fun _ _=>rfl))) (zm (Ad (K:=K) rfl) (pv 0) (zj (qx zg (pv 5) qg)) jk))))))))),?_⟩
  refine⟨_,_,rfl,rfl,_,rfl,kh (fun _=>?_) (fun _=>?_)⟩
  ·refine⟨rfl,?_⟩;unfold Zz tC qr0;rw [Jc];refine Gy (c:=10) (by decide) (by omega) fun l hl=>?_;rw [sp];generalize hL:LT R C cs++[emp]=L at *;have s1:=tI (o:=.lst (L.map V.str)) hl;have k1:=qd (H:=H) (a:=l) (o:=.lst (L.map V.str));generalize hH1:upd H l (.lst (L.map V.str))=H1 at *;have pos:(0:Int) < ((L.map V.str).length:Int) - 1:=by rw [aA];omega
   refine⟨l,_,rfl,.inl (uI k1),_,_,rfl,rfl,_,_,rfl,rfl,pos,?_⟩;dsimp only [jt];generalize n % (((L.map V.str).length:Int) - 1)=J;refine⟨rfl,_,rfl,kh (fun _=>?_) (fun _=>?_)⟩
   ·refine⟨rfl,_,rfl,l,_,rfl,uI k1,fun S U=>?_⟩;obtain⟨Y,e2,n2,i2⟩:=Jb L none (some J);rw [e2];have s2:=tI (o:=.lst (Y.map V.str)) U;have k2:=qd (H:=H1) (a:=S) (o:=.lst (Y.map V.str));generalize a6:upd H1 S (.lst (Y.map V.str))=H2 at *;refine⟨_,_,rfl,rfl,_,rfl,l,_,rfl,uI (s2 _ _ k1),fun Z a3=>?_⟩;obtain⟨m3,e3,n3,i3⟩:=Jb L (some (J+1)) none;rw [e3];have s3:=tI (o:=.lst (m3.map V.str)) a3;have k3:=qd (H:=H2) (a:=Z) (o:=.lst (m3.map V.str));generalize a7:upd H2 Z (.lst (m3.map V.str))=H3 at *;refine⟨S,Z,_,_,rfl,rfl,s3 _ _ k2,k3,zx (by rw [aA,aA];omega),fun u4 a4=>?_⟩;exact Yt ll (by omega) n2 n3 i2 i3 qd (((s1.trans s2).trans s3).trans (tI a4)) q
   ·refine⟨rfl,_,_,rfl,rfl,_,rfl,l,_,rfl,uI k1,fun S U=>?_⟩;obtain⟨Y,e2,n2,i2⟩:=Jb L none (some (J+1));rw [e2];have s2:=tI (o:=.lst (Y.map V.str)) U;have k2:=qd (H:=H1) (a:=S) (o:=.lst (Y.map V.str));generalize a6:upd H1 S (.lst (Y.map V.str))=H2 at *;refine⟨_,rfl,l,_,rfl,uI (s2 _ _ k1),fun Z a3=>?_⟩;obtain⟨m3,e3,n3,i3⟩:=Jb L (some J) none;rw [e3];have s3:=tI (o:=.lst (m3.map V.str)) a3;have k3:=qd (H:=H2) (a:=Z) (o:=.lst (m3.map V.str));generalize a7:upd H2 Z (.lst (m3.map V.str))=H3 at *;refine⟨S,Z,_,_,rfl,rfl,s3 _ _ k2,k3,zx (by rw [aA,aA];omega),fun u4 a4=>?_⟩;exact Yt ll (by omega) n2 n3 i2 i3 qd (((s1.trans s2).trans s3).trans (tI a4)) q
  refine⟨rfl,_,rfl,kh (fun _=>?_) (fun _=>?_)⟩
  ·exact (wd H n fun _ _ z=>z)
  have zl:z.length<=sizeLine:=zx (by omega);have sl:∀lo hi,(PySem.Txt.slice z lo hi).length<=65000:=fun lo hi=>aD (lI z lo hi) a5;have two:∀a b c d,(PySem.Txt.slice z a b).length+(PySem.Txt.slice z c d).length<=sizeLine:=fun a b c d=>zx (by have:=sl a b;have:=sl c d;omega);have here:∀y:Str,y.length<=200000->Q (.str y) H:=fun y hy=>q y H (fun _ _ z=>z) hy;have O:∀a b c d,Q (.str (PySem.Txt.slice z a b++PySem.Txt.slice z c d)) H:=fun a b c d=>here _ (by rw [len_app];have:=sl a b;have:=sl c d;omega);refine⟨z,rfl,zl,_,_,rfl,rfl,(by show (0:Int) < (z.length:Int);omega),?_⟩;dsimp only [jt];generalize n % (z.length:Int)=J;refine⟨rfl,_,rfl,kh (fun _=>?_) (fun _=>?_)⟩
  ·exact⟨_,rfl,z,rfl,zl,_,_,rfl,rfl,_,rfl,z,rfl,zl,_,_,rfl,rfl,two _ _ _ _,O _ _ _ _⟩
  refine⟨rfl,_,rfl,kh (fun _=>?_) (fun _=>?_)⟩
  ·exact⟨_,_,rfl,rfl,_,rfl,z,rfl,zl,_,rfl,z,rfl,zl,_,_,rfl,rfl,two _ _ _ _,O _ _ _ _⟩
  ·obtain⟨c,hc⟩:=zr2 sg;have e1:(⟨#[c]⟩:Str).length=1:=rfl;refine⟨_,rfl,z,rfl,zl,_,_,rfl,rfl,(by show (0:Int) < 9;decide),_,_,c,rfl,rfl,zx (by decide +kernel),hc,_,_,rfl,rfl,zx ?_,_,_,rfl,rfl,_,rfl,z,rfl,zl,_,_,rfl,rfl,zx ?_,here _ ?_⟩
   ·have:=sl none (some J);omega
   ·rw [len_app]
    have:=sl none (some J)
    have:=sl (some (J+1)) none;omega
   ·rw [len_app,len_app]
    have:=sl none (some J)
    have:=sl (some (J+1)) none;omega
end
inductive spNoneD (vs:List V) (H:Hp) (Q:VK) (e3:XK):Prop
 |mk (z:Str) (n:Int) (_:vs=[.str z,.int n]) (_:IsD z) (_:z.length<=65000) (_:∀v g H',Same H H'->AtG H' g v->¬GoodG g->Q v H')
noncomputable def Ud (n:Nat) (x:Str):Str:=⟨(List.replicate n x.cps).foldl (·++·) #[]⟩
noncomputable def zi0:Str:=Ud 17 (Str.ofString "+-+\n|a|\n")++Str.ofString "+-+\n"
noncomputable def zc7:Str:=Ud 17 (Str.ofString "+-")++Str.ofString "+\n" ++ Ud 17 (Str.ofString "| ")++Str.ofString "|\n" ++ Ud 17 (Str.ofString "+-")++Str.ofString "+\n"
noncomputable def Xj:Str:=Str.ofString "+-+\n" ++ Ud 13 (Str.ofString "|a|\n")++Str.ofString "+-+\n"
noncomputable def Jx:Str:=Str.ofString "+-+\n|A|\n+-+\n"
theorem qt7:¬GoodD zi0:=fun⟨_,R,C,cs,a,_,_,_,R2,_⟩=>by rw [show (An (GT.linesOf zi0)).length=18 by decide +kernel] at a;omega
theorem qs1:¬GoodD zc7:=fun⟨_,R,C,cs,_,a,_,_,_,_,C2,_⟩=>by rw [show (Qf (GT.linesOf zc7)).length=18 by decide +kernel] at a;omega
theorem qw4:¬GoodD Xj:=fun⟨_,R,C,cs,a,b,tl,_,_,_,_,e,_⟩=>by
 rw [show (An (GT.linesOf Xj)).length=2 by decide +kernel] at a;rw [show (Qf (GT.linesOf Xj)).length=2 by decide +kernel] at b;obtain rfl:R=1:=by omega
 obtain rfl:C=1:=by omega
 have h:(upF 1 1 (An (GT.linesOf Xj)) (Qf (GT.linesOf Xj)) (GT.linesOf Xj) 1 0).map (fun x=>x.words.length)=[13]:=by decide +kernel
 rw [e] at h;obtain⟨x,r,rfl,ex,_⟩:=List.map_eq_cons_iff.mp h
 have:=(tl.fit x uA).words.few;omega
theorem qn2:¬GoodD Jx:=fun⟨_,R,C,cs,a,b,tl,_,_,_,_,e,_⟩=>by
 rw [show (An (GT.linesOf Jx)).length=2 by decide +kernel] at a;rw [show (Qf (GT.linesOf Jx)).length=2 by decide +kernel] at b;obtain rfl:R=1:=by omega
 obtain rfl:C=1:=by omega
 have h:(upF 1 1 (An (GT.linesOf Jx)) (Qf (GT.linesOf Jx)) (GT.linesOf Jx) 1 0).map (fun x=>x.words)=[[⟨#[65]⟩]]:=by decide +kernel
 rw [e] at h;obtain⟨x,r,rfl,ex,_⟩:=List.map_eq_cons_iff.mp h;have w:=(tl.fit x uA).words.each ⟨#[65]⟩ (by rw [ex];exact uA)
 have:=w.all 65 uA;exact absurd this (by decide +kernel)
noncomputable def Bs (z:Str):Nat->Str
 |0=>Str.ofString ""
 |1=>Str.ofString "\n"
 |2=>Txt.slice z none (some (-1))
 |3=>z++Str.ofString "\n"
 |4=>Str.ofString " " ++ z
 |5=>Txt.replace z (Str.ofString "+") (Str.ofString "-")
 |6=>z++z
 |_=>Txt.replace z (Str.ofString "\n") (Str.ofString "\t\n")
theorem qu6 {z:Str} (g:IsD z) (k:Nat):¬IsD (Bs z k):=fun b=>by
 obtain⟨p,a,D,na⟩:=qh1 g;obtain⟨p2,a2,j,na2⟩:=qh1 b;obtain⟨F,f1⟩:=Qc g;obtain⟨J,f2⟩:=Qc b;match k with
 |0=>have e:(Bs z 0).cps.toList=[]:=zt6;rw [e] at f2;cases f2
 |1=>have e:(Bs z 1).cps.toList=[10]:=zu8;rw [e] at f2;injection f2 with f2;cases f2
 |2=>
  have e:(Bs z 2).cps.toList=p++[a]:=by show (Txt.slice z none (some (-1))).cps.toList=_;rw [Zd (by show 1<=z.cps.size;rw [←pB,D];simp),D];rw [List.dropLast_append_of_ne_nil (by simp)];rfl
  rw [e] at j;have e3:p++[a]=(p2++[a2])++[10]:=by rw [j,iB];rfl
  have:=List.append_inj_right' e3 rfl;exact na (by injection this)
 |3=>
  have e:(Bs z 3).cps.toList=p++[a,10]++[10]:=by show (z ++ "\n" : Str).cps.toList=_;rw [Dl,D,zu8]
  rw [e] at j;have e3:(p++[a])++[10,10]=p2++[a2,10]:=by rw [←j];simp
  have:=List.append_inj_right' e3 rfl;injection this with this;exact na2 this.symm
 |4=>
  have e:(Bs z 4).cps.toList=32::z.cps.toList:=by show (" " ++ z:Str).cps.toList=_;rw [Dl,zx3];rfl
  rw [e] at f2;injection f2 with f2;cases f2
 |5=>
  have e:Bs z 5=Txt.replace z ⟨#[43]⟩ ⟨#[45]⟩:=by show Txt.replace z (Str.ofString "+") (Str.ofString "-")=_;rw [show Str.ofString "+" = ⟨#[43]⟩ by decide +kernel,show Str.ofString "-" = ⟨#[45]⟩ by decide +kernel]
  have sp:=Ar z (c:=43) (by decide);obtain⟨h,t,e2⟩:=wk 43 F;have e3:yd 43 (43::F)=[]::h::t:=by unfold yd;rw [e2];rfl
  rw [f1,e3] at sp;have O:(Av ⟨#[45]⟩ (Txt.split z ⟨#[43]⟩)).cps.toList=45::xg 45 (h::t):=by rw [ue,sp];rfl
  rw [e,PySem.StrLaws.replace_one,←bF] at f2;have f2:(Av ⟨#[45]⟩ (Txt.split z ⟨#[43]⟩)).cps.toList=43::J:=f2;rw [O] at f2;injection f2 with f2;cases f2
 |6=>exact qt2 g b
 |k+7=>have G:9∉(Txt.replace z "\n" "\t\n").cps.toList:=zp7 b;rw [zw6] at G;exact G (Xb (by rw [D];simp) (by rw [zv7];simp))
theorem qm2 {x z:Str} {c:Nat} (j:c < 256) (D:z.length<=2):(PySem.Txt.replace x ⟨#[c]⟩ z).length<=2 * x.length:=by rw [PySem.StrLaws.replace_one];have a:=PySem.StrLaws.join_split x ⟨#[c]⟩;have b:=size_glued z (PySem.Txt.split x ⟨#[c]⟩);have d:=size_glued ⟨#[c]⟩ (PySem.Txt.split x ⟨#[c]⟩);rw [bF] at b d;rw [a] at d;have e1:(⟨#[c]⟩:Str).length=1:=rfl;rw [e1] at d;have f:=Dp (x:=x) j;have g:((PySem.Txt.split x ⟨#[c]⟩).length - 1) * z.length<=((PySem.Txt.split x ⟨#[c]⟩).length - 1) * 2:=Nat.mul_le_mul_left _ D;omega
theorem vo {H:Hp} {x:Str} (h:x.length<=400000) (b:¬GoodD x):∃g,AtG H g (.str x)/\¬GoodG g:=⟨.str x,.str x h,fun⟨z,e,g⟩=>by cases e;exact b g⟩
theorem zr5 {x:Str} (h:¬IsD x):¬GoodD x:=fun g=>h g.is
noncomputable def Uj (z:Str) (u:Addr):List V:=[.str (Bs z 0),.str (Bs z 1),.str (Bs z 2),.str (Bs z 3),.str (Bs z 4),.str (Bs z 5),.non,.int 7,.ref u,.str (Bs z 6)]
noncomputable def Q0:List V:=[.str zi0,.str zc7]
noncomputable def W4 (z:Str):List V:=[.str Xj,.str Jx,.str (Bs z 7)]
theorem qw1 {H:Hp} {z:Str} {u:Addr} (g:IsD z) (zl:z.length<=65000) (D:H u=some (.lst [.str z])):∀v∈Uj z u++Q0++W4 z,∃g,AtG H g v/\¬GoodG g:=by
 have e1:(Str.ofString "\n").length=1:=by decide +kernel
 have e2:(Str.ofString " ").length=1:=by decide +kernel
 have F:Str.ofString "\n" = ⟨#[10]⟩:=by decide +kernel
 have G:Str.ofString "+" = ⟨#[43]⟩:=by decide +kernel
 intro v j;unfold Uj Q0 W4 at j;simp only [jF,uF,gB,List.not_mem_nil,or_false] at j;have bd:∀k,¬GoodD (Bs z k):=fun k=>zr5 (qu6 g k);rcases j with rfl |rfl |rfl |rfl |rfl |rfl |rfl |rfl |rfl |rfl |rfl |rfl |rfl |rfl |rfl
 ·exact vo (by show (Str.ofString "").length<=_;decide +kernel) (bd 0)
 ·exact vo (by show (Str.ofString "\n").length<=_;decide +kernel) (bd 1)
 ·exact vo (aD (lI z _ _) (by omega)) (bd 2)
 ·exact vo (by show (z++Str.ofString "\n").length<=_;rw [len_app];omega) (bd 3)
 ·exact vo (by show (Str.ofString " " ++ z).length<=_;rw [len_app];omega) (bd 4)
 ·refine vo ?_ (bd 5);show (Txt.replace z (Str.ofString "+") (Str.ofString "-")).length<=_;rw [G];exact aD (qm2 (by decide) (by decide +kernel)) (by omega)
 ·exact⟨.non,.non,fun⟨z,e,_⟩=>by cases e⟩
 ·exact⟨.int 7,.int 7,fun⟨z,e,_⟩=>by cases e⟩
 ·exact⟨.lst [.str z],.lst D (.cons (.str z (by omega)) .nil),fun⟨z,e,_⟩=>by cases e⟩
 ·exact vo (by show (z++z).length<=_;rw [len_app];omega) (bd 6)
 ·exact vo (by decide +kernel) qt7
 ·exact vo (by decide +kernel) qs1
 ·exact vo (by decide +kernel) qw4
 ·exact vo (by decide +kernel) qn2
 ·refine vo ?_ (bd 7);show (Txt.replace z (Str.ofString "\n") (Str.ofString "\t\n")).length<=_;rw [F];exact aD (qm2 (by decide) (by decide +kernel)) (by omega)
section
variable {P:Program} {w:World} {K:PySem.W.Frag} {mg:Str->Option Value} {base:Heap}
theorem sc__law_none:FnScope ["_law_text", "_law_way", "_law_some"] ["_law_text", "_law_way"] (qm (top 65)):=fsc
theorem U8 (T:Txt mg) (f:Addr) (fd:FuncData) (F:Fun K "_law_none" "_law_none" (top 65) f fd):FnOk P w K mg base CX0 1 f fd ["_law_text", "_law_way"] spNoneD:=by
 refine F.ok sc__law_none (fun vs H Q E h=>?_) (fun cdv A outer s H vs Q E hr h=>?_)
 ·obtain⟨z,n,rfl,_⟩:=h;rfl
 ·obtain⟨z,n,rfl,good,S,q⟩:=h;have zl:z.length<=sizeLine:=zx (by omega);have e1:(Str.ofString "\n").length=1:=by decide +kernel
  have e2:(Str.ofString " ").length=1:=by decide +kernel
  have e3:(Str.ofString "-").length=1:=by decide +kernel
  have t1:(Str.ofString "\t\n").length=2:=by decide +kernel
  refine⟨_,(qj3 (zc9 (i:=2) sc__law_none.nd rfl (by first |exact Or.inl rfl |exact Or.inr rfl) (zc8 (qo5 (yp (PE.tk zz) (yp (PE.tk (zm (Ad (K:=K) rfl) (pv 0) jk (zj (uo ym qg)))) (yp (PE.tk (qx zu (pv 0) zz)) (yp (PE.tk (qx zu zz (pv 0))) (yp (J1 (K:=K) (by decide +kernel) (pv 0)) (yp (PE.tk qi2) (yp (PE.tk qg) (yp (PE.tk (vf (qb (pv 0) qi))) (yp (PE.tk (qx zu (pv 0) (pv 0))) (PA.tk qi)))))))))))))
   (Qs (PS.tk (psS (i:=2) sc__law_none.nd (qx Tw (pv 2) (vf (qb (qx zu (qx Lh zz qg) zz) (qb (qx zu (qx zu (qx zu (qx zu (qx zu (qx Lh zz qg) zz) (qx Lh zz qg)) zz) (qx Lh zz qg)) zz) qi))))))
   (Qs (zh0 (i:=2) sc__law_none.nd rfl (by first |exact Or.inl rfl |exact Or.inr rfl) (zp0 Tw (PE.tk (pv 2)) (zg7 (yp (PE.tk (qx zu (qx zu zz (qx Lh zz qg)) zz)) (yp (PE.tk zz) (yp (J1 (K:=K) (by decide +kernel) (pv 0)) (PA.tk qi)))))))
   (qs3 (PS.tk (zb (qz (zc (K:=K) rfl) (pv 2) (qx ud (pv 1) qg) (fun _ _=>rfl)))))))),?_⟩
  dsimp only [zi1];refine zb7 (T:=qp4 _ _) (P:=fun σ H2=>∃D G:Addr,σ=[some (.str z),some (.int n),some (.ref G)]/\Same H H2/\H2 D=some (.lst [.str z])/\H2 G=some (.lst (Uj z D))) (fun N2 k2=>?_) ?_
  ·refine⟨_,rfl,_,rfl,z,rfl,zl,_,_,rfl,rfl,zx (by omega),_,_,rfl,rfl,zx (by omega),z,rfl,by rw [e3];omega,by show 1<=sizeLine;decide,fun D U=>?_⟩;have s1:=tI (o:=.lst [.str z]) U;have k1:=qd (H:=H) (a:=D) (o:=.lst [.str z]);generalize hH1:upd H D (.lst [.str z])=H1 at *;refine⟨_,_,rfl,rfl,zx (by omega),by show 10<=sizeLine;decide,fun G O=>?_⟩;exact k2 _ _ ⟨D,G,rfl,s1.trans (tI O),tI O _ _ k1,qd⟩
  rintro σ H2 ⟨D,G,rfl,s2,k1,k2⟩;dsimp only [zi1];refine zb7 (T:=qp4 _ _) (P:=fun σ H4=>∃J:Addr,σ=[some (.str z),some (.int n),some (.ref J)]/\Same H2 H4/\H4 J=some (.lst (Uj z D++Q0))) (fun N2 Y=>?_) ?_
  ·refine⟨_,17,rfl,rfl,by decide,by decide +kernel,by decide +kernel,_,_,rfl,rfl,zx (by decide +kernel),_,17,rfl,rfl,by decide,by decide +kernel,by decide +kernel,_,_,rfl,rfl,zx (by decide +kernel),_,17,rfl,rfl,by decide,by decide +kernel,by decide +kernel,_,_,rfl,rfl,zx (by decide +kernel),_,_,rfl,rfl,zx (by decide +kernel),_,17,rfl,rfl,by decide,by decide +kernel,by decide +kernel,_,_,rfl,rfl,zx (by decide +kernel),_,_,rfl,rfl,zx (by decide +kernel),by show 2<=sizeLine;decide,fun u3 Z=>?_⟩;have s4:=tI (o:=.lst Q0) Z;refine⟨G,u3,_,_,rfl,rfl,s4 _ _ k2,qd,by show 10+2<=sizeLine;decide,fun J a3=>?_⟩;exact Y _ _ ⟨J,rfl,s4.trans (tI a3),qd⟩
  rintro σ H4 ⟨J,rfl,s4,Y⟩;replace k1:=s4 _ _ k1;obtain⟨j,ej,hj⟩:∃j:Nat,n % 15=(j:Int)/\j < 15:=⟨(n % 15).toNat,by omega,by omega⟩
  obtain⟨v,hv⟩:∃v,(Uj z D++Q0++W4 z)[j]? = some v:=⟨_,gA (by show j < 15;omega)⟩
  refine⟨_,13,rfl,rfl,by decide,by decide +kernel,by decide +kernel,_,_,rfl,rfl,zx (by decide +kernel),_,_,rfl,rfl,zx (by decide +kernel),z,rfl,by rw [t1];omega,by show 3<=sizeLine;decide,fun u5 a4=>?_⟩;have s5:=tI (o:=.lst (W4 z)) a4;refine⟨J,u5,_,_,rfl,rfl,s5 _ _ Y,qd,by show 12+3<=sizeLine;decide,fun u6 a5=>?_⟩;have s6:=s5.trans (tI (o:=.lst (Uj z D++Q0++W4 z)) a5);obtain⟨g,ag,ng⟩:=qw1 (H:=upd _ u6 (.lst (Uj z D++Q0++W4 z))) good S (s6 _ _ k1) v (jA hv);refine⟨_,_,rfl,rfl,(by show (0:Int) < 15;decide),u6,Uj z D++Q0++W4 z,_,v,rfl,rfl,uI qd,(by rw [ej];exact jg hv),?_⟩;exact q v g _ ((s2.trans s4).trans s6) ag ng
end
theorem qp3 {R C:Nat} {cs:List Cell} (p:Part R C cs):Short cs:=fun x hx=>(p.fit x hx).words.small
inductive spLaw (K:PySem.W.Frag) (vs:List V) (H:Hp) (Q:VK) (e3:XK):Prop
 |mk (a:Addr) (ns:List Int) (_:vs=[.ref a]) (_:SqL K H a (ns.map V.int)) (_:ns.length<=63) (_:∀H',Q (.bl true) H')
section
variable {P:Program} {w:World} {K:PySem.W.Frag} {mg:Str->Option Value} {base:Heap}
theorem sc_law:FnScope ["_law_script", "_law_table_here", "_law_text", "_law_way", "_law_bad", "_law_found"] ["_law_script"] (qm (top 68)):=fsc
theorem zn5 {ah:Addr} {a7:Addr} (T:Txt mg) (ai:Cal P w K mg base 5 "_law_made" ["_law_script"] (spMade K)) (G:Cal P w K mg base 1 "_law_cell" ["_law_script", "_law_k"] (spCell K)) (Z:Cal P w K mg base 1 "_law_copy" ["_law_table_here"] spCopy) (ar:Cal1 P w K mg base 5 "checked" ["table"] (spChecked ah)) (ak:Cal P w K mg base 4 "drawn" ["table"] spDrawn) (aw:Cal1 P w K mg base 7 "read" ["text"] (spReadD a7)) (a4:Cal P w K mg base 3 "_law_is_table" ["_law_table_here"] spIsT) (S:Cal P w K mg base 8 "_law_refused" ["_law_text"] spRefG) (U:Cal P w K mg base 8 "_law_by_base" ["_law_text"] spBaseG) (aj:Cal P w K mg base 1 "_law_none" ["_law_text", "_law_way"] spNoneD) (aa:Cal P w K mg base 2 "_law_spoilt" ["_law_text", "_law_way", "_law_place", "_law_sign"] spSpoiltD) (f:Addr) (fd:FuncData) (F:Fun K "law" "law" (top 68) f fd):FnOk P w K mg base CX0 9 f fd ["_law_script"] (spLaw K):=by
 refine F.ok sc_law (fun vs H Q E h=>?_) (fun cdv A outer s H vs Q E hr h=>?_)
 ·obtain⟨a,ns,rfl,_⟩:=h;rfl
 ·obtain⟨a,ns,rfl,hs,hlen,q⟩:=h;have ae:=hr.mono (j:=5) (by decide);have D:=hr.mono (j:=1) (by decide);have Y:=hr.mono (j:=1) (by decide);have ao:=hr.mono (j:=5) (by decide);have hr_drawn:=hr.mono (j:=4) (by decide);have av:=hr.mono (j:=7) (by decide);have a3:=hr.mono (j:=3) (by decide);have J:=hr.mono (j:=8) (by decide);have O:=hr.mono (j:=8) (by decide);have af:=hr.mono (j:=1) (by decide);have a5:=hr.mono (j:=2) (by decide);have b5:(A.deeper (envOfC "law" (qm (top 68)) s.heap.objs.size f cdv)).units+4+1 < cLine:=by have:=hr.units;omega
  refine⟨_,(qj (psS (i:=1) sc_law.nd (qy ai ae rfl (qb (pv 0) qi)))
   (qj (psS (i:=2) sc_law.nd (qy ak hr_drawn rfl (qb (qy Z Y rfl (qb (pv 1) qi)) qi)))
   (qj (psS (i:=3) sc_law.nd (qx ud (qy G D rfl (qb (pv 0) (qb qg qi))) qg))
   (qj (j6 (zp Bb (pv 3) qg (zr _)) (qj (psS (i:=4) sc_law.nd (qy aj af rfl (qb (pv 2) (qb (qy G D rfl (qb (pv 0) (qb qg qi))) qi))))
   (qp (zb (Bf (qy S J rfl (qb (pv 4) qi)) (G3 (qy U O rfl (qb (pv 4) qi))))))) zq)
   (qj (psS (i:=4) sc_law.nd (qy aa a5 rfl (qb (pv 2) (qb (pv 3) (qb (qy G D rfl (qb (pv 0) (qb qg qi))) (qb (qy G D rfl (qb (pv 0) (qb qg qi))) qi))))))
   (qj (j6 (jz (qy S J rfl (qb (pv 4) qi))) (qp (zb (qy U O rfl (qb (pv 4) qi)))) zq)
   (qj (psS (i:=5) sc_law.nd (ql6 aw av rfl (qb (pv 4) qi)))
   (qp (zb (Bf (qy a4 a3 rfl (qb (pv 5) qi)) (Bf (xf (Xm (n:=4) b5) (ql6 ar ao rfl (qb (qy Z Y rfl (qb (pv 5) qi)) qi)) (pv 5) (zr _)) (G3 (xf Bb (qy ak hr_drawn rfl (qb (pv 5) qi)) (pv 4) (zr _)))))))))))))),?_⟩
  refine⟨a,ns,rfl,hs,hlen,fun v R C cs H1 s1 R1 R2 C1 C2 tl a1=>?_⟩;refine⟨v,R,C,cs,rfl,a1,fun v2 H2 s2 a2=>⟨v2,R,C,cs,rfl,a2,tl.toPart,R2,C2,fun H3 s3=>?_⟩⟩;rw [show qc4 (ln (HS R C cs) R+1) (ln (WS C cs) C+1) (Gf (HS R C cs) (WS C cs) (TW (WS C cs)) cs)=Df R C cs from rfl];have ax:=((s1.trans s2).trans s3).seq hs;refine⟨a,ns,3,rfl,ax,_,_,rfl,rfl,by show (0:Int) < 8;decide,?_⟩;dsimp only [jt,zi1];generalize ns.getD 3 0 % 8=way;have b6:=(zc3 tl R2 C2).2.2;refine⟨rfl,_,rfl,kh (fun _=>?_) (fun _=>?_)⟩
  ·refine⟨a,ns,4,rfl,ax,_,_,rfl,⟨R,C,cs,tl,R1,R2,C1,C2,rfl⟩,b6,fun v g H4 s4 ag no=>?_⟩;refine⟨v,g,rfl,ag,(fun y=>absurd y no),fun _ H5 s5=>⟨true,rfl,Ab ?_⟩⟩;exact⟨v,g,rfl,ag.mono s5,no,fun H6 s6=>q _⟩
  refine⟨a,ns,4,rfl,ax,a,ns,5,rfl,ax,R,C,cs,_,_,_,rfl,tl,R1,R2,C1,C2,fun z H4 s4 zl=>?_⟩;refine⟨.str z,.str z,rfl,.str z (by omega),(fun g H5 s5=>⟨false,rfl,ul ?_⟩),fun ng H5 s5=>⟨true,rfl,Ab ?_⟩⟩
  ·refine ?_;dsimp only [qr0];refine⟨.str z,.str z,rfl,.str z (by omega),fun z' R' C' aq v' H6 ez au b2 ay b3 C2' ep s6 a6 _=>?_,fun no=>absurd g no⟩;injection ez with ez;subst ez;refine⟨v',R',C',aq,rfl,a6,au,b2,ay,b3,C2',fun H7 s7=>⟨true,rfl,Ab ?_⟩⟩;have few:=qt3 au.toPart ay C2';refine⟨v',R',C',aq,rfl,a6.mono s7,fun v8 H8 s8 a8=>?_⟩;refine⟨v8,_,rfl,zv3 a8 (qp3 au.toPart),.inr ⟨R',C',aq,_,rfl,b2,ay,b3,C2',by rw [aA];omega,au.toPart,au.ord,.inr ⟨rfl,.inr ⟨au.all,fun p l zs H9 s9 hl hp b7 az=>?_⟩⟩⟩⟩;have a9:At H9 (O9 R' C' aq) (.ref p):=M8 hp b7 az;have b4:=a6.mono ((s7.trans s8).trans s9);refine⟨O9 R' C' aq,O9 R' C' aq,qn0 R' C' aq 1,trivial,a9,b4,fun _=>⟨true,rfl,Ab ?_⟩,fun z=>absurd rfl z⟩;refine⟨v',R',C',aq,rfl,b4,au.toPart,ay,C2',fun H10 s10=>⟨rfl,?_⟩⟩;rw [eA (by rw [←ep];rfl)];exact q _
  ·exact⟨.str z,.str z,rfl,.str z (by omega),ng,fun H6 s6=>q _⟩
end
theorem Gu {α:Type} {P:List α->Prop} (h:∀a,P [a]):∀us:List α,us.length=1->P us
 | [a],_=>h a
theorem Wt {α:Type} {P:List α->Prop} (h:∀a b,P [a,b]):∀us:List α,us.length=2->P us
 | [a,b],_=>h a b
theorem ze4 {α:Type} {P:List α->Prop} (h:∀a b c,P [a,b,c]):∀us:List α,us.length=3->P us
 | [a,b,c],_=>h a b c
theorem zq2 {α:Type} {P:List α->Prop} (h:∀a b c d,P [a,b,c,d]):∀us:List α,us.length=4->P us
 | [a,b,c,d],_=>h a b c d
theorem all_ok {l:PySem.W.OpenLaw} {w:World} {K:PySem.W.Frag} {h:Heap} {mg:Str->Option Value} {fa:Addr} (X:K.In h) (G:h.Ns mainGlobals mg) (cy:mg "law" = some (.ref fa))
  (a0:At0 K "_law_cell" (top 49))
  (a1:At0 K "_law_mix" (top 50))
  (a2:At0 K "_law_large" (top 51))
  (a3:At0 K "_law_word" (top 52))
  (a4:At0 K "_law_words" (top 53))
  (a5:At0 K "_law_block" (top 55))
  (a6:At0 K "_law_free" (top 54))
  (a7:At0 K "_law_table" (top 56))
  (a8:At0 K "_law_size" (top 57))
  (a9:At0 K "_law_made" (top 58))
  (a10:At0 K "_law_copy" (top 59))
  (a11:At0 K "filled" (top 5))
  (a12:At0 K "lack" (top 3))
  (a13:At0 K "ending" (top 2))
  (a14:At0 K "sizes" (top 1))
  (a15:At0 K "longest" (top 9))
  (a16:At0 K "width_of" (top 10))
  (a17:At0 K "column_spans" (top 6))
  (a18:At0 K "row_spans" (top 7))
  (a19:At0 K "layout" (top 8))
  (a20:At0 K "line_places" (top 13))
  (a21:At0 K "put" (top 17))
  (a22:At0 K "border" (top 15))
  (a23:At0 K "draw_border" (top 14))
  (a24:At0 K "draw_words" (top 16))
  (a25:At0 K "drawn" (top 12))
  (a26:At0 K "is_number" (top 30))
  (a27:At0 K "is_side" (top 29))
  (a28:At0 K "has_frame" (top 28))
  (a29:At0 K "is_word" (top 33))
  (a30:At0 K "are_words" (top 32))
  (a31:At0 K "is_cell" (top 31))
  (a32:At0 K "sticks_out" (top 34))
  (a33:At0 K "first_place" (top 35))
  (a34:At0 K "places" (top 36))
  (a35:At0 K "checked" (top 27))
  (a36:At0 K "_law_is_word" (top 60))
  (a37:At0 K "_law_is_cell" (top 61))
  (a38:At0 K "_law_is_table" (top 62))
  (a39:At0 K "ended_rows" (top 38))
  (a40:At0 K "is_sheet" (top 41))
  (a41:At0 K "crossings" (top 42))
  (a42:At0 K "borders_above" (top 44))
  (a43:At0 K "borders_left" (top 45))
  (a44:At0 K "run" (top 46))
  (a45:At0 K "words_seen" (top 47))
  (a46:At0 K "cells_seen" (top 43))
  (a47:At0 K "read" (top 40))
  (a48:At0 K "_law_refused" (top 63))
  (a49:At0 K "_law_by_base" (top 64))
  (a50:At0 K "_law_wider" (top 66))
  (a51:At0 K "_law_spoilt" (top 67))
  (a52:At0 K "_law_none" (top 65))
  (a53:At0 K "law" (top 68))
  (z0:PySem.W.nsIn K mainGlobals "len" = some none)
  (z1:PySem.W.nsIn K mainGlobals "range" = some none)
  (z2:PySem.W.nsIn K mainGlobals "isinstance" = some none)
  (z3:PySem.W.nsIn K mainGlobals "int" = some none)
  (z4:PySem.W.nsIn K mainGlobals "bool" = some none)
  (z5:PySem.W.nsIn K mainGlobals "tuple" = some none)
  (z6:PySem.W.nsIn K mainGlobals "list" = some none)
  (z7:PySem.W.nsIn K mainGlobals "sorted" = some none)
  (z8:PySem.W.nsIn K mainGlobals "enumerate" = some none)
  (z9:PySem.W.nsIn K mainGlobals "zip" = some none)
  (z10:PySem.W.nsIn K mainGlobals "str" = some none)
  (z11:PySem.W.nsIn K mainGlobals "all" = some none)
  (z12:PySem.W.nsIn K mainGlobals "min" = some none)
  (z13:PySem.W.nsIn K mainGlobals "max" = some none)
  (z14:PySem.W.nsIn K mainGlobals "sum" = some none)
  (z15:PySem.W.nsIn K mainGlobals "ValueError" = some none)
  (z16:PySem.W.nsIn K mainGlobals "any" = some none)
  (z17:PySem.W.nsIn K mainGlobals "reversed" = some none)
  {cz:Tok} (y0:PySem.W.nsIn K mainGlobals "LONGEST_SIDE" = some (some (.int 16 cz)))
  {d0:Tok} (y1:PySem.W.nsIn K mainGlobals "LONGEST_WORD" = some (some (.int 12 d0)))
  {d1:Tok} (y2:PySem.W.nsIn K mainGlobals "SIGNS" = some (some (.str (Str.ofString "abcdefghijklmnopqrstuvwxyz0123456789") d1)))
  {d2:Tok} (y3:PySem.W.nsIn K mainGlobals "MOST_WORDS" = some (some (.int 12 d2)))
  {j:Addr} {cu:List Value} {cv B0 d3:String} (e0:PySem.W.nsIn K mainGlobals "BadDrawing" = some (some (.ref j))) (FB0:ExcBaseFacts B0 cv d3 cu) (q0:PySem.W.excIn K j cu cv=true)
  {J:Addr} {cw:List Value} {cx B1 d4:String} (e1:PySem.W.nsIn K mainGlobals "GridError" = some (some (.ref J))) (FB1:ExcBaseFacts B1 cx d4 cw) (q1:PySem.W.excIn K J cw cx=true)
  {U:Addr} (j0:JX K "BadTable" "BadTable.__init__" Bc U)
  (Z:PySem.W.exmOne K (.ref j) (.ref j)=some true)
  (aa:PySem.W.exmOne K (.ref j) (.ref J)=some true)
  (ae:PySem.W.kitOne K (.ref j) (.type "ValueError")=some true)
  : ∃fd:FuncData,(∀(s:Shared) (v:Value),BindsTo s fd ⟨[v],[]⟩ [("_law_script",v)])/\∀base:Heap,K.In base->base.Ns mainGlobals mg->FnOk l.prog w K mg base CX0 9 fa fd ["_law_script"] (spLaw K):=by
 have T:Txt mg:=⟨iC X G z0,iC X G z1,iC X G z2,iC X G z3,iC X G z4,iC X G z5,iC X G z6,iC X G z7,iC X G z8,iC X G z9,iC X G z10,iC X G z11,iC X G z12,iC X G z13,iC X G z14,iC X G z15,iC X G z16,iC X G z17⟩
 obtain⟨f,fd,F,e⟩:=a53.ex;have e0:=cy.symm.trans (cF X G e);cases e0;refine⟨fd,?_,fun base cm cn=>?_⟩
 ·obtain⟨oc,od,kV,doc,pm,an,cdv,ct,osl,rfl,lk,hcd⟩:=F.ex;exact fun s v=>.of_eq rfl
 ·have ai:∃t,mg "LONGEST_SIDE" = some (.int 16 t):=⟨_,cF X G y0⟩
  have aj:∃t,mg "LONGEST_WORD" = some (.int 12 t):=⟨_,cF X G y1⟩
  have cc:∃t,mg "SIGNS" = some (.str (Str.ofString "abcdefghijklmnopqrstuvwxyz0123456789") t):=⟨_,cF X G y2⟩
  have b4:∃t,mg "MOST_WORDS" = some (.int 12 t):=⟨_,cF X G y3⟩
  have S:ExcC K mg base "BadDrawing" j:=⟨⟨_,_,_,_,FB0,qz9 cm cn e0 q0⟩,cF X G e0⟩
  have bh:ExcC K mg base "GridError" J:=⟨⟨_,_,_,_,FB1,qz9 cm cn e1 q1⟩,cF X G e1⟩
  have ah:ExcJ l.prog w K mg base "BadTable" U:=Z8 cm cn j0;have D:Cal l.prog w K mg base 1 "_law_cell" ["_law_script", "_law_k"] (spCell K):=a0.cal X G (fun _ _ _ _ _ _=>Wt fun _ _=>rfl) (Tg T);have O:Cal l.prog w K mg base 1 "_law_mix" ["_law_cell_here", "_law_prime", "_law_many"] spMix:=a1.cal X G (fun _ _ _ _ _ _=>ze4 fun _ _ _=>rfl) W3;have b5:Cal l.prog w K mg base 2 "_law_large" ["_law_script"] (spLarge K):=a2.cal X G (fun _ _ _ _ _ _=>Gu fun _=>rfl) (O8 T D O);have bj:Cal l.prog w K mg base 2 "_law_word" ["_law_seed", "_law_size_here"] spWord:=a3.cal X G (fun _ _ _ _ _ _=>Wt fun _ _=>rfl) (Tf T O);have b6:Cal l.prog w K mg base 3 "_law_words" ["_law_seed"] spWords:=a4.cal X G (fun _ _ _ _ _ _=>Gu fun _=>rfl) (O3 T O bj);have b7:Cal l.prog w K mg base 2 "_law_block" ["_law_cell_here", "_law_rows", "_law_columns"] spBlock:=a5.cal X G (fun _ _ _ _ _ _=>ze4 fun _ _ _=>rfl) (Ob T O);have bo:Cal l.prog w K mg base 1 "_law_free" ["_law_block_here", "_law_rows", "_law_columns", "_law_taken"] spFree:=a6.cal X G (fun _ _ _ _ _ _=>zq2 fun _ _ _ _=>rfl) (Tz T);have b8:Cal l.prog w K mg base 4 "_law_table" ["_law_script", "_law_rows", "_law_columns"] (spTable K):=a7.cal X G (fun _ _ _ _ _ _=>ze4 fun _ _ _=>rfl) (Np T D b6 b7 bo);have bp:Cal l.prog w K mg base 3 "_law_size" ["_law_script", "_law_k"] (spSize K):=a8.cal X G (fun _ _ _ _ _ _=>Wt fun _ _=>rfl) (Q6 T D b5);have bq:Cal l.prog w K mg base 5 "_law_made" ["_law_script"] (spMade K):=a9.cal X G (fun _ _ _ _ _ _=>Gu fun _=>rfl) (T6 T D b8 bp);have br:Cal l.prog w K mg base 1 "_law_copy" ["_law_table_here"] spCopy:=a10.cal X G (fun _ _ _ _ _ _=>Gu fun _=>rfl) (Qt T);have bg:Cal l.prog w K mg base 1 "filled" ["words", "width"] (spFilled K):=a11.cal X G (fun _ _ _ _ _ _=>Wt fun _ _=>rfl) (qk0 T);have ck:Cal l.prog w K mg base 1 "lack" ["span", "told"] spLack:=a12.cal X G (fun _ _ _ _ _ _=>Wt fun _ _=>rfl) (zf0 T);have c7:Cal l.prog w K mg base 1 "ending" ["spans", "slot"] spEnding:=a13.cal X G (fun _ _ _ _ _ _=>Wt fun _ _=>rfl) (qg2 T);have cf:Cal l.prog w K mg base 2 "sizes" ["spans", "many"] spSizes:=a14.cal X G (fun _ _ _ _ _ _=>Wt fun _ _=>rfl) (qr7 T c7 ck);have c4:Cal l.prog w K mg base 1 "longest" ["words"] spLongest:=a15.cal X G (fun _ _ _ _ _ _=>Gu fun _=>rfl) (Z1 T);have c1:Cal l.prog w K mg base 1 "width_of" ["cell", "widths"] spWidthOf:=a16.cal X G (fun _ _ _ _ _ _=>Wt fun _ _=>rfl) (W2 T);have ak:Cal l.prog w K mg base 2 "column_spans" ["table"] spColSpans:=a17.cal X G (fun _ _ _ _ _ _=>Gu fun _=>rfl) (Li T c4);have bt:Cal l.prog w K mg base 2 "row_spans" ["table", "widths"] spRowSpans:=a18.cal X G (fun _ _ _ _ _ _=>Wt fun _ _=>rfl) (Q9 T bg c1);have c8:Cal l.prog w K mg base 3 "layout" ["table"] spLayout:=a19.cal X G (fun _ _ _ _ _ _=>Gu fun _=>rfl) (qc7 cf ak bt);have aw:Cal l.prog w K mg base 1 "line_places" ["told"] spLines:=a20.cal X G (fun _ _ _ _ _ _=>Gu fun _=>rfl) (Lq T);have cj:Cal l.prog w K mg base 1 "put" ["signs", "row", "column", "some"] (spPut K):=a21.cal X G (fun _ _ _ _ _ _=>zq2 fun _ _ _ _=>rfl) (zn8 T);have c9:Cal l.prog w K mg base 1 "border" ["lines", "sign"] spBorder:=a22.cal X G (fun _ _ _ _ _ _=>Wt fun _ _=>rfl) (qd3 T);have ax:Cal l.prog w K mg base 2 "draw_border" ["signs", "down", "across"] spDrawB:=a23.cal X G (fun _ _ _ _ _ _=>ze4 fun _ _ _=>rfl) (Lw T cj c9);have b9:Cal l.prog w K mg base 2 "draw_words" ["signs", "down", "across", "words"] (spDrawW K):=a24.cal X G (fun _ _ _ _ _ _=>zq2 fun _ _ _ _=>rfl) (Oa T cj bg);have c2:Cal l.prog w K mg base 4 "drawn" ["table"] spDrawn:=a25.cal X G (fun _ _ _ _ _ _=>Gu fun _=>rfl) (qs0 T c8 aw ax b9);have Y:Cal l.prog w K mg base 1 "is_number" ["thing"] (spG Bt):=a26.cal X G (fun _ _ _ _ _ _=>Gu fun _=>rfl) (Ua T);have ay:Cal l.prog w K mg base 2 "is_side" ["thing"] (spG j9):=a27.cal X G (fun _ _ _ _ _ _=>Gu fun _=>rfl) (Zk ai Y);have bu:Cal l.prog w K mg base 3 "has_frame" ["thing"] (spG xu):=a28.cal X G (fun _ _ _ _ _ _=>Gu fun _=>rfl) (Ug T ay);have c5:Cal l.prog w K mg base 1 "is_word" ["thing"] (spG xj):=a29.cal X G (fun _ _ _ _ _ _=>Gu fun _=>rfl) (Ze T aj cc);have bw:Cal l.prog w K mg base 2 "are_words" ["thing"] (spG wg):=a30.cal X G (fun _ _ _ _ _ _=>Gu fun _=>rfl) (Uq T b4 c5);have c6:Cal l.prog w K mg base 3 "is_cell" ["thing"] (spG yj):=a31.cal X G (fun _ _ _ _ _ _=>Gu fun _=>rfl) (Zj T Y bw);have ba:Cal l.prog w K mg base 1 "sticks_out" ["cell", "rows", "columns"] spSticks:=a32.cal X G (fun _ _ _ _ _ _=>ze4 fun _ _ _=>rfl) N7;have az:Cal l.prog w K mg base 1 "first_place" ["cell"] spFirst:=a33.cal X G (fun _ _ _ _ _ _=>Gu fun _=>rfl) Ls;have cb:Cal l.prog w K mg base 1 "places" ["cell"] spPlaces:=a34.cal X G (fun _ _ _ _ _ _=>Gu fun _=>rfl) (qf2 T);have b2:Cal1 l.prog w K mg base 5 "checked" ["table"] (spChecked U):=a35.cal1 X G (fun _ _ _ _ _ _=>Gu fun _=>rfl) (Zb T ah bu c6 ba az cb);have ao:Cal l.prog w K mg base 1 "_law_is_word" ["_law_word_here"] spIsW:=a36.cal X G (fun _ _ _ _ _ _=>Gu fun _=>rfl) (La T);have aq:Cal l.prog w K mg base 2 "_law_is_cell" ["_law_cell_here"] spIsC:=a37.cal X G (fun _ _ _ _ _ _=>Gu fun _=>rfl) (Ld T ao);have af:Cal l.prog w K mg base 3 "_law_is_table" ["_law_table_here"] spIsT:=a38.cal X G (fun _ _ _ _ _ _=>Gu fun _=>rfl) (Ii T aq);have bb:Cal l.prog w K mg base 1 "ended_rows" ["thing"] spEndG:=a39.cal X G (fun _ _ _ _ _ _=>Gu fun _=>rfl) (O6 T);have c3:Cal l.prog w K mg base 1 "is_sheet" ["signs"] spSheet:=a40.cal X G (fun _ _ _ _ _ _=>Gu fun _=>rfl) (W8 T);have bx:Cal l.prog w K mg base 1 "crossings" ["signs"] spCross:=a41.cal X G (fun _ _ _ _ _ _=>Gu fun _=>rfl) (Tt T);have ag:Cal l.prog w K mg base 1 "borders_above" ["row", "across"] spAbove:=a42.cal X G (fun _ _ _ _ _ _=>Wt fun _ _=>rfl) (Ig T);have ar:Cal l.prog w K mg base 1 "borders_left" ["row", "across"] spLeftOf:=a43.cal X G (fun _ _ _ _ _ _=>Wt fun _ _=>rfl) (Jj T);have cq:Cal l.prog w K mg base 1 "run" ["borders", "first"] spRun:=a44.cal X G (fun _ _ _ _ _ _=>Wt fun _ _=>rfl) (zk7 T);have bc:Cal l.prog w K mg base 1 "words_seen" ["signs", "down", "across"] spWordsSeen:=a45.cal X G (fun _ _ _ _ _ _=>ze4 fun _ _ _=>rfl) (Nj T);have be:Cal l.prog w K mg base 2 "cells_seen" ["signs", "down", "across"] spSeen:=a46.cal X G (fun _ _ _ _ _ _=>ze4 fun _ _ _=>rfl) (Qg T ag ar cq bc);have bz:Cal1 l.prog w K mg base 7 "read" ["text"] (spReadD j):=a47.cal1 X G (fun _ _ _ _ _ _=>Gu fun _=>rfl) (ze1 T ah S b2 c2 bb c3 bx ay be);have au:Cal l.prog w K mg base 8 "_law_refused" ["_law_text"] spRefG:=a48.cal X G (fun _ _ _ _ _ _=>Gu fun _=>rfl) (Ln T S Z bz);have av:Cal l.prog w K mg base 8 "_law_by_base" ["_law_text"] spBaseG:=a49.cal X G (fun _ _ _ _ _ _=>Gu fun _=>rfl) (Lj T S bh aa ae bz);have bf:Cal l.prog w K mg base 1 "_law_wider" ["_law_text", "_law_place"] spWider:=a50.cal X G (fun _ _ _ _ _ _=>Wt fun _ _=>rfl) (N5 T);have b3:Cal l.prog w K mg base 2 "_law_spoilt" ["_law_text", "_law_way", "_law_place", "_law_sign"] spSpoiltD:=a51.cal X G (fun _ _ _ _ _ _=>zq2 fun _ _ _ _=>rfl) (Lx T bf);have c0:Cal l.prog w K mg base 1 "_law_none" ["_law_text", "_law_way"] spNoneD:=a52.cal X G (fun _ _ _ _ _ _=>Wt fun _ _=>rfl) (U8 T);exact zn5 T bq D br b2 c2 bz af au av c0 b3 _ fd F
theorem walk {l:PySem.W.OpenLaw} {q:Program} {loose:List Str} {J:(Str->Option Value)->Heap->Prop} {D:World->Heap->Prop} {d:DefRec} {K:Params->PySem.W.Frag} (hn:l.most=some 63) (j:d.params.defaults=[])
  (O:∀(w:World) (h:Heap),D w h->(K w.params).In h)
  (F:∀(w:World) (mg:Str->Option Value) (G:Addr) (h:Heap),(K w.params).In h->h.Ns mainGlobals mg->mg d.name=some (.ref G) ->
   ∃fd:FuncData,(∀(s:Shared) (u:Value),BindsTo s fd ⟨[u],[]⟩ [("_law_script",u)])/\∀base:Heap,(K w.params).In base->base.Ns mainGlobals mg->FnOk l.prog w (K w.params) mg base CX0 9 G fd ["_law_script"] (spLaw (K w.params))) :
  PySem.W.WalkO q loose J D l.row.toRowW d [] (fun f vs=>PySem.call f vs):=
 L2.walk_of (n:=63) (k:=9) (x := "_law_script") (CX:=fun _=>CX0) (sp:=fun w=>spLaw (K w.params)) hn (by decide) j ⟨rfl,by decide,by decide⟩ O F (fun _ _ a ns hl _ S=>⟨a,ns,rfl,S,hl,fun _=>rfl⟩) fun _ _ _ _ _ z=>z
end KL
noncomputable def PySem.W.Fast.tw2021469302921293095:PySem.Program:=PySem.Challenge.pw_gridframe_k25_spoilt_drawings
theorem PySem.W.Fast.te2021469302921293095:PySem.Challenge.pw_gridframe_k25_spoilt_drawings=PySem.W.Fast.tw2021469302921293095:=rfl
namespace PySem.W.Fast
theorem te14653478037468747086:True:=⟨⟩
theorem te16341146550623301270:True:=⟨⟩
theorem te9057320889997642097:True:=⟨⟩
theorem te4560675853474324025:True:=⟨⟩
theorem te6723141288549450236:True:=⟨⟩
theorem te4526609078937571858:True:=⟨⟩
theorem te16888540585291082730:True:=⟨⟩
theorem te4834490340641933688:True:=⟨⟩
theorem te2436970854722805327:True:=⟨⟩
theorem te4529039801651758589:True:=⟨⟩
theorem te16213153106840410282:True:=⟨⟩
theorem te7628788533900990193:True:=⟨⟩
theorem te10365121523555332355:True:=⟨⟩
theorem te15005556780014068463:True:=⟨⟩
theorem te807312286143789694:True:=⟨⟩
theorem te7181883007885685949:True:=⟨⟩
theorem te15390409173919880622:True:=⟨⟩
theorem te12215386405149515799:True:=⟨⟩
theorem te16475298804198638135:True:=⟨⟩
theorem te2566383614433616938:True:=⟨⟩
theorem te3876528252245634988:True:=⟨⟩
theorem te18149833730085935659:True:=⟨⟩
theorem te14260912515034589170:True:=⟨⟩
theorem te12584621071104984300:True:=⟨⟩
theorem te16348883114889930339:True:=⟨⟩
theorem te14859570835064577475:True:=⟨⟩
theorem te11055132220411073678:True:=⟨⟩
theorem te6310169615700151564:True:=⟨⟩
theorem te3816770035119841301:True:=⟨⟩
theorem te14229212646887153193:True:=⟨⟩
theorem te13693806768536114230:True:=⟨⟩
theorem te4931994226200449179:True:=⟨⟩
theorem te2506225539212997199:True:=⟨⟩
theorem te6920686704622946914:True:=⟨⟩
theorem te16704030962033598330:True:=⟨⟩
theorem te8876695010045541940:True:=⟨⟩
theorem te17436873919903602827:True:=⟨⟩
theorem te606142912018636494:True:=⟨⟩
theorem te7281919312732362006:True:=⟨⟩
theorem te2625734551531411403:True:=⟨⟩
theorem te8337491758010576848:True:=⟨⟩
theorem te4377912625310686856:True:=⟨⟩
theorem te15362301684387022347:True:=⟨⟩
theorem te11309104886315132257:True:=⟨⟩
theorem te16243377850414890321:True:=⟨⟩
theorem te13301586696912656155:True:=⟨⟩
theorem te9666993911728737830:True:=⟨⟩
theorem te3323622618970769615:True:=⟨⟩
theorem te7008761865956503651:True:=⟨⟩
theorem te365185191405594159:True:=⟨⟩
theorem te337261019569061328:True:=⟨⟩
theorem te1378738521262897877:True:=⟨⟩
theorem te11025143025063500335:True:=⟨⟩
theorem te2858435163505412534:True:=⟨⟩
theorem te8064424253271574650:True:=⟨⟩
theorem te9608105404073011376:True:=⟨⟩
theorem te11196726542639965777:True:=⟨⟩
theorem te10925237810200617573:True:=⟨⟩
theorem te16294409480351906691:True:=⟨⟩
theorem te15550097664234315525:True:=⟨⟩
theorem te1972368807219578602:True:=⟨⟩
theorem te18350243380037653441:True:=⟨⟩
theorem te9984872925501322449:True:=⟨⟩
theorem te18397771778194510499:True:=⟨⟩
theorem te3252712317656946928:True:=⟨⟩
theorem te1308316239627862475:True:=⟨⟩
theorem te2077753078074169289:True:=⟨⟩
theorem te2387971495206950249:True:=⟨⟩
theorem te3262827951829515685:True:=⟨⟩
theorem te16510570152476252827:True:=⟨⟩
theorem te17330332980992721870:True:=⟨⟩
theorem te7955366170787112036:True:=⟨⟩
theorem te15977083696705302261:True:=⟨⟩
theorem te3837678726516650633:True:=⟨⟩
theorem te16797873510748433428:True:=⟨⟩
theorem te11231992199757125730:True:=⟨⟩
theorem te9432875544049489584:True:=⟨⟩
theorem te16891129329399042901:True:=⟨⟩
theorem te17914638750011246022:True:=⟨⟩
theorem te17150919085956523703:True:=⟨⟩
theorem te13459287456930323027:True:=⟨⟩
theorem te1579406896343965347:True:=⟨⟩
theorem te3004925065021859221:True:=⟨⟩
theorem te4213288033860569219:True:=⟨⟩
theorem te5917822488893044436:True:=⟨⟩
theorem te14455212125625134275:True:=⟨⟩
theorem te4449572171016159752:True:=⟨⟩
theorem te14064346689126515211:True:=⟨⟩
theorem te10052451876042872123:True:=⟨⟩
theorem te6546851088358948413:True:=⟨⟩
theorem te9064329065440329390:True:=⟨⟩
theorem te16211579863779484738:True:=⟨⟩
theorem te477441890586156495:True:=⟨⟩
theorem te4554342353443803837:True:=⟨⟩
theorem te11910203659777663322:True:=⟨⟩
theorem te8300988654250627556:True:=⟨⟩
theorem te5273777747566961039:True:=⟨⟩
theorem te11952874747356321822:True:=⟨⟩
theorem te8010739000993452456:True:=⟨⟩
theorem te681074955439024608:True:=⟨⟩
theorem te16379168894654559817:True:=⟨⟩
theorem te17761908503051731623:True:=⟨⟩
theorem te11814868379362412519:True:=⟨⟩
theorem te4479434568498998531:True:=⟨⟩
theorem te11401090883640846264:True:=⟨⟩
theorem te17354370834249527068:True:=⟨⟩
theorem te8016885534652965876:True:=⟨⟩
theorem te9486048690158978298:True:=⟨⟩
theorem te18324236254770237074:True:=⟨⟩
theorem te17920447549239367655:True:=⟨⟩
theorem te15157722671156293161:True:=⟨⟩
theorem te18045163424814703445:True:=⟨⟩
theorem te12354767127382713057:True:=⟨⟩
theorem te7110676263554442782:True:=⟨⟩
theorem te12879087471656410629:True:=⟨⟩
theorem te14491945874849057605:True:=⟨⟩
theorem te13438005859676049469:True:=⟨⟩
theorem te17118061905305733658:True:=⟨⟩
theorem te16350073694126240401:True:=⟨⟩
theorem te17582840306033716583:True:=⟨⟩
theorem te15399933991231582510:True:=⟨⟩
theorem te15945333179772204902:True:=⟨⟩
theorem te1963747654517408510:True:=⟨⟩
theorem te4787768968188545399:True:=⟨⟩
theorem te4637239100535488051:True:=⟨⟩
theorem te16219467808845451792:True:=⟨⟩
theorem te9566534760340903478:True:=⟨⟩
theorem te14191003981941199801:True:=⟨⟩
theorem te15555484569718371942:True:=⟨⟩
theorem te17830843465147059255:True:=⟨⟩
theorem te17358151219273668885:True:=⟨⟩
theorem te5073859995647420076:True:=⟨⟩
theorem te11554225567871836933:True:=⟨⟩
theorem te1967834806873546902:True:=⟨⟩
theorem te1072513418927949238:True:=⟨⟩
theorem te17163522047029650014:True:=⟨⟩
theorem te6950270791205736603:True:=⟨⟩
theorem te12065749056105988427:True:=⟨⟩
theorem te1100108444869788551:True:=⟨⟩
theorem te13409988427638261706:True:=⟨⟩
theorem te12211362907119736304:True:=⟨⟩
theorem te3912281311201322197:True:=⟨⟩
theorem te11187042489084639016:True:=⟨⟩
theorem te17556291682703968476:True:=⟨⟩
theorem te8939821271560637650:True:=⟨⟩
theorem te6022908491378579101:True:=⟨⟩
theorem te11683189286804084715:True:=⟨⟩
theorem te188648743356972556:True:=⟨⟩
theorem te13888965877512267122:True:=⟨⟩
theorem te14386598793318244598:True:=⟨⟩
theorem te18319867261279892048:True:=⟨⟩
theorem te6814402732744290495:True:=⟨⟩
theorem te2774072288450275475:True:=⟨⟩
theorem te5298442445080711899:True:=⟨⟩
theorem te10838740836930381426:True:=⟨⟩
theorem te16696713533027070769:True:=⟨⟩
theorem te4530274738246868336:True:=⟨⟩
theorem te7656686681005498740:True:=⟨⟩
theorem te7434648521020884182:True:=⟨⟩
theorem te5625825470623846088:True:=⟨⟩
theorem te5424580559851951311:True:=⟨⟩
theorem te4650855902048850846:True:=⟨⟩
theorem te2504091804561969499:True:=⟨⟩
theorem te10802092582499591374:True:=⟨⟩
theorem te4617867140178281649:True:=⟨⟩
theorem te14678949515009109896:True:=⟨⟩
theorem te14031593722068721886:True:=⟨⟩
theorem te454510059131613588:True:=⟨⟩
theorem te14792974119508929218:True:=⟨⟩
theorem te14083875223483384434:True:=⟨⟩
theorem te11846196564082093178:True:=⟨⟩
theorem te3821763085685813579:True:=⟨⟩
theorem te5102060129847128482:True:=⟨⟩
theorem te9830309994837960806:True:=⟨⟩
theorem te6262668167339531285:True:=⟨⟩
theorem te15455010477864783650:True:=⟨⟩
theorem te17638473721630785248:True:=⟨⟩
theorem te13075817985097810188:True:=⟨⟩
theorem te17243614370217694611:True:=⟨⟩
theorem te11281186114348259797:True:=⟨⟩
theorem te2940547025339514531:True:=⟨⟩
theorem te8583924195724235835:True:=⟨⟩
theorem te1720761137180256635:True:=⟨⟩
theorem te15422695364796548412:True:=⟨⟩
theorem te4620722872742837338:True:=⟨⟩
theorem te1996307949097835654:True:=⟨⟩
theorem te12108767427369469140:True:=⟨⟩
theorem te1345973916262528560:True:=⟨⟩
theorem te1438866968414689633:True:=⟨⟩
theorem te1905658586874954319:True:=⟨⟩
theorem te597319044189474650:True:=⟨⟩
theorem te17506227917927946435:True:=⟨⟩
theorem te16762908469390302322:True:=⟨⟩
theorem te14135925753053786874:True:=⟨⟩
theorem te7354368369630329621:True:=⟨⟩
theorem te12775382599017429145:True:=⟨⟩
theorem te2452327884075493634:True:=⟨⟩
theorem te9519639311805843540:True:=⟨⟩
theorem te12370534816638736196:True:=⟨⟩
theorem te10648537044297289589:True:=⟨⟩
theorem te11217336413824405274:True:=⟨⟩
theorem te10525496199341083967:True:=⟨⟩
theorem te11217222302782734890:True:=⟨⟩
theorem te10143099124957434921:True:=⟨⟩
theorem te16094901382814025217:True:=⟨⟩
theorem te17676694878106039864:True:=⟨⟩
theorem te7983813932195507541:True:=⟨⟩
theorem te4607621818022992771:True:=⟨⟩
theorem te2325841499107249738:True:=⟨⟩
theorem te11322990005079745650:True:=⟨⟩
theorem te6442002645055824834:True:=⟨⟩
theorem te3524790921981004622:True:=⟨⟩
theorem te116459545936010111:True:=⟨⟩
theorem te7982954024590939913:True:=⟨⟩
theorem te17156516087199405836:True:=⟨⟩
theorem te15771208993875169961:True:=⟨⟩
theorem te1368568833557528591:True:=⟨⟩
theorem te5079765548152135385:True:=⟨⟩
theorem te8879967385186346725:True:=⟨⟩
theorem te17945226940116176464:True:=⟨⟩
theorem te12855532010725129125:True:=⟨⟩
theorem te6987499412583939321:True:=⟨⟩
theorem te18353027665141955344:True:=⟨⟩
theorem te4607826706745167843:True:=⟨⟩
theorem te14288793588311929317:True:=⟨⟩
theorem te575124952271875947:True:=⟨⟩
theorem te757913048422544537:True:=⟨⟩
theorem te9950791178857556357:True:=⟨⟩
theorem te9031808963997361347:True:=⟨⟩
theorem te3465463928473037041:True:=⟨⟩
theorem te9832974945744835917:True:=⟨⟩
theorem te1724281940816534747:True:=⟨⟩
theorem te10236162418669626317:True:=⟨⟩
theorem te7763987871530969784:True:=⟨⟩
theorem te16116799866594319091:True:=⟨⟩
theorem te16487077294410571292:True:=⟨⟩
theorem te12777627595177736214:True:=⟨⟩
theorem te4322318734946008208:True:=⟨⟩
theorem te16131612810445715738:True:=⟨⟩
theorem te5821481260148203117:True:=⟨⟩
theorem te774155925683898161:True:=⟨⟩
theorem te2405814252045640970:True:=⟨⟩
theorem te5947610488916374749:True:=⟨⟩
theorem te13033798964047600290:True:=⟨⟩
theorem te14216891822766147722:True:=⟨⟩
theorem te2783301791345861414:True:=⟨⟩
theorem te8393000468168924971:True:=⟨⟩
theorem te3805797925254310127:True:=⟨⟩
theorem te12149653054654575101:True:=⟨⟩
theorem te4306393913505899368:True:=⟨⟩
theorem te5890042446697396738:True:=⟨⟩
theorem te3214089936064544209:True:=⟨⟩
theorem te17516484360376635771:True:=⟨⟩
theorem te5533888842933176368:True:=⟨⟩
theorem te1324840979396662051:True:=⟨⟩
theorem te5725881455144047935:True:=⟨⟩
theorem te11953347917406426466:True:=⟨⟩
theorem te14835009344632580693:True:=⟨⟩
theorem te11605521714030815203:True:=⟨⟩
theorem te12397559171997334008:True:=⟨⟩
theorem te1245331784613094357:True:=⟨⟩
theorem te6211386933172865294:True:=⟨⟩
theorem te6858988087306034275:True:=⟨⟩
theorem te17745785852959571171:True:=⟨⟩
theorem te12360593075929112876:True:=⟨⟩
theorem te10679996580712546397:True:=⟨⟩
theorem te9388307297365360545:True:=⟨⟩
theorem te8241228250734961747:True:=⟨⟩
theorem te9263179974127224502:True:=⟨⟩
theorem te1740631780246400699:True:=⟨⟩
theorem te13031635236280972460:True:=⟨⟩
theorem te4305572645655621460:True:=⟨⟩
theorem te568023729553151087:True:=⟨⟩
theorem te14356097425107946929:True:=⟨⟩
theorem te16003307695900707117:True:=⟨⟩
theorem te5419135063780310470:True:=⟨⟩
theorem te11179919281766453407:True:=⟨⟩
theorem te7725279738437473746:True:=⟨⟩
theorem te17723909732838941803:True:=⟨⟩
theorem te11833141111937468773:True:=⟨⟩
theorem te6824059199052763482:True:=⟨⟩
theorem te12635866544217147699:True:=⟨⟩
theorem te14574220140218155160:True:=⟨⟩
theorem te9630986798019188842:True:=⟨⟩
theorem te5867157886061368689:True:=⟨⟩
theorem te711169303570764174:True:=⟨⟩
theorem te10462042959186944719:True:=⟨⟩
theorem te1735193265958180414:True:=⟨⟩
theorem te4290736223920410058:True:=⟨⟩
theorem te15916282452725958130:True:=⟨⟩
theorem te5380001992087849709:True:=⟨⟩
theorem te4273403514166441981:True:=⟨⟩
theorem te6417475087104496099:True:=⟨⟩
theorem te12625103639835401368:True:=⟨⟩
theorem te856130201611231028:True:=⟨⟩
theorem te1296670189155099868:True:=⟨⟩
theorem te17711078230156981664:True:=⟨⟩
theorem te7828453949025607157:True:=⟨⟩
theorem te17900502382932624418:True:=⟨⟩
theorem te11839939495934225602:True:=⟨⟩
theorem te7482066691357645923:True:=⟨⟩
theorem te11958601093242265347:True:=⟨⟩
theorem te4099452985757319395:True:=⟨⟩
theorem te13297497431309599888:True:=⟨⟩
theorem te13169812646490138164:True:=⟨⟩
theorem te4751293130270703299:True:=⟨⟩
theorem te16711124316698784600:True:=⟨⟩
theorem te8455956680718653246:True:=⟨⟩
theorem te14075020474796617306:True:=⟨⟩
theorem te18219839290896526673:True:=⟨⟩
theorem te10911392946315404301:True:=⟨⟩
theorem te9745980518487297006:True:=⟨⟩
theorem te14670487410777972833:True:=⟨⟩
theorem te4017780757224721979:True:=⟨⟩
theorem te17066954778750148334:True:=⟨⟩
theorem te6742527000397919986:True:=⟨⟩
theorem te5666698130074310844:True:=⟨⟩
theorem te11504814104567961309:True:=⟨⟩
theorem te3532317683229274229:True:=⟨⟩
theorem te12251801023310018125:True:=⟨⟩
theorem te16692621777393628224:True:=⟨⟩
theorem te7947364953987708770:True:=⟨⟩
theorem te17148305026073175859:True:=⟨⟩
theorem te172676429774809798:True:=⟨⟩
theorem te2993471876945332254:True:=⟨⟩
theorem te703080667032951531:True:=⟨⟩
theorem te9502815270571752720:True:=⟨⟩
theorem te15138813656279860088:True:=⟨⟩
theorem te7870755561515472963:True:=⟨⟩
theorem te168403427879106629:True:=⟨⟩
theorem te13969847837917788017:True:=⟨⟩
theorem te6149626004498403857:True:=⟨⟩
theorem te13641981345099217692:True:=⟨⟩
theorem tw412850476759625377:True:=⟨⟩
theorem tw6054854662617527362:True:=⟨⟩
theorem tw16932991749907957602:True:=⟨⟩
theorem tw3328059293597403401:True:=⟨⟩
theorem tw8371080873207814543:True:=⟨⟩
theorem tw1694254497851427635:True:=⟨⟩
theorem tw6810779731094107990:True:=⟨⟩
theorem tw15909413023162157499:True:=⟨⟩
end PySem.W.Fast
open PySem PySem.W PyProof.Rows
set_option maxRecDepth 100000 in
set_option maxHeartbeats 0 in
theorem PySem.Challenge.cw_gridframe_k25_spoilt_drawings_holds : PySem.Challenge.rw_gridframe_k25_spoilt_drawings.Holds := by
 w_on; o_law; k_head; (case hw => w_witness2)
 k_fill
 refine KL.walk (l := PySem.Challenge.rw_gridframe_k25_spoilt_drawings) rfl rfl (fun w h Y => PySem.W.kIn_of Y) ?F
 case F =>
  intro w mg fa h KX G hmg
  refine' KL.all_ok KX G hmg ?a0 ?a1 ?a2 ?a3 ?a4 ?a5 ?a6 ?a7 ?a8 ?a9 ?a10 ?a11 ?a12 ?a13 ?a14 ?a15 ?a16 ?a17 ?a18 ?a19 ?a20 ?a21 ?a22 ?a23 ?a24 ?a25 ?a26 ?a27 ?a28 ?a29 ?a30 ?a31 ?a32 ?a33 ?a34 ?a35 ?a36 ?a37 ?a38 ?a39 ?a40 ?a41 ?a42 ?a43 ?a44 ?a45 ?a46 ?a47 ?a48 ?a49 ?a50 ?a51 ?a52 ?a53 ?z0 ?z1 ?z2 ?z3 ?z4 ?z5 ?z6 ?z7 ?z8 ?z9 ?z10 ?z11 ?z12 ?z13 ?z14 ?z15 ?z16 ?z17 ?y0 ?y1 ?y2 ?y3 ?e0 ?FB0 ?q0 ?e1 ?FB1 ?q1 ?j0 ?f0 ?f1 ?f2
  (case a0|a1|a2|a3|a4|a5|a6|a7|a8|a9|a10|a11|a12|a13|a14|a15|a16|a17|a18|a19|a20|a21|a22|a23|a24|a25|a26|a27|a28|a29|a30|a31|a32|a33|a34|a35|a36|a37|a38|a39|a40|a41|a42|a43|a44|a45|a46|a47|a48|a49|a50|a51|a52|a53=>refine' L2.at0_mk ?na ?lk ?co ?kp;(case na|lk|co|kp=>k_is))
  (case z0|z1|z2|z3|z4|z5|z6|z7|z8|z9|z10|z11|z12|z13|z14|z15|z16|z17|y0|y1|y2|y3|e0|e1=>k_is)
  (case FB0 => exact PySem.F.excBase_ValueError); (case q0 => k_exc)
  (case FB1 => exact PySem.F.excBase_ValueError); (case q1 => k_exc)
  (case j0 => refine' L2.jx_mk ?j0e ?j0c ?j0i ?j0q ?j0l ?j0co ?j0kp ?j0k1 ?j0k2 ?j0k3 ?j0k4 ?j0k5 ?j0n ?j0m ?j0g0 ?j0g1 ?j0g2 ?j0g3; (case j0e => k_is); (case j0c => k_is); (case j0i => k_is); (case j0q => kernel_rfl); (case j0l => k_is); (case j0co => k_is); (case j0kp => k_is); (case j0k1 => k_is); (case j0k2 => kernel_rfl); (case j0k3 => k_is); (case j0k4 => k_is); (case j0k5 => k_is); (case j0n => k_is); (case j0m => kts_exm); (case j0g0 => k_is); (case j0g1 => k_is); (case j0g2 => k_is); (case j0g3 => k_is))
  (case f0 => kts_exm)
  (case f1 => kts_exm)
  (case f2 => kit_is)
#print axioms PySem.Challenge.cw_gridframe_k25_spoilt_drawings_holds
