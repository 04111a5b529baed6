/-
  errors.As: what it does to memory.
-/
import Derived.Test.YtnjijmphmgihiaaDoorFltAs
namespace Go.Proofs.YtnjijmphmgihiaaDoor
set_option linter.unusedVariables false
set_option linter.unusedSimpArgs false
open Go.RowKit Go.Extern.Stop Go.Stop Go.Extern

theorem As.partsFF (a : Addr) (w : World) : (ReflectliteValue.parts (rval 44 a 150)).run Tryd.prog w = .ok (some (44, a, 150)) w := by kernel_rfl
theorem As.partsNN (a : Addr) (w : World) : (ReflectliteValue.parts (rval 50 a 150)).run Tryd.prog w = .ok (some (50, a, 150)) w := by kernel_rfl
theorem As.isNilF (a p : Addr) (W : World) (ha : W.cell? a = some (.pointer (some p))) :
    (ReflectliteValue.method (ReflectliteValue.valueError "reflectlite.Value.IsNil" 0) ReflectliteValue.isNil #[rval 44 a 150]).run Tryd.prog W = .ok (.bool false) W := by
  change Sem.run Tryd.prog (ReflectliteValue.parts (rval 44 a 150) >>= fun p => _) W = _
  simp only [Sem.run_bind, As.partsFF, Result.andThen]
  simp [ReflectliteValue.isNil, loadVar, isAgg, underlying, Tryd.underlying44, ha, Result.andThen]
theorem As.isNilN (a p : Addr) (W : World) (ha : W.cell? a = some (.pointer (some p))) :
    (ReflectliteValue.method (ReflectliteValue.valueError "reflectlite.Value.IsNil" 0) ReflectliteValue.isNil #[rval 50 a 150]).run Tryd.prog W = .ok (.bool false) W := by
  change Sem.run Tryd.prog (ReflectliteValue.parts (rval 50 a 150) >>= fun p => _) W = _
  simp only [Sem.run_bind, As.partsNN, Result.andThen]
  simp [ReflectliteValue.isNil, loadVar, isAgg, underlying, Tryd.underlying50, ha, Result.andThen]
theorem As.elemOfF (w : World) : (Rtype.elem? 44).run Tryd.prog w = .ok (some 42) w := by kernel_rfl
theorem As.elemOfN (w : World) : (Rtype.elem? 50).run Tryd.prog w = .ok (some 28) w := by kernel_rfl
theorem As.mkF (p : Addr) (w : World) : (ReflectliteValue.mk 42 p ReflectliteValue.flagAddr).run Tryd.prog w = .ok (rval 42 p 406) w := by kernel_rfl
theorem As.mkN (p : Addr) (w : World) : (ReflectliteValue.mk 28 p ReflectliteValue.flagAddr).run Tryd.prog w = .ok (rval 28 p 386) w := by kernel_rfl
theorem As.elemVF (a p : Addr) (W : World) (ha : W.cell? a = some (.pointer (some p))) :
    (ReflectliteValue.method (ReflectliteValue.valueError "reflectlite.Value.Elem" 0) ReflectliteValue.elem #[rval 44 a 150]).run Tryd.prog W = .ok (rval 42 p 406) W := by
  change Sem.run Tryd.prog (ReflectliteValue.parts (rval 44 a 150) >>= fun p => _) W = _
  simp only [Sem.run_bind, As.partsFF, Result.andThen]
  simp [ReflectliteValue.elem, loadVar, isAgg, underlying, Tryd.underlying44, ha, Result.andThen, As.elemOfF, As.mkF]
theorem As.elemVN (a p : Addr) (W : World) (ha : W.cell? a = some (.pointer (some p))) :
    (ReflectliteValue.method (ReflectliteValue.valueError "reflectlite.Value.Elem" 0) ReflectliteValue.elem #[rval 50 a 150]).run Tryd.prog W = .ok (rval 28 p 386) W := by
  change Sem.run Tryd.prog (ReflectliteValue.parts (rval 50 a 150) >>= fun p => _) W = _
  simp only [Sem.run_bind, As.partsNN, Result.andThen]
  simp [ReflectliteValue.elem, loadVar, isAgg, underlying, Tryd.underlying50, ha, Result.andThen, As.elemOfN, As.mkN]
theorem As.partsFa (a : Addr) (w : World) : (ReflectliteValue.parts (rval 42 a 406)).run Tryd.prog w = .ok (some (42, a, 406)) w := by kernel_rfl
theorem As.partsF (a : Addr) (w : World) : (ReflectliteValue.parts (rval 42 a 150)).run Tryd.prog w = .ok (some (42, a, 150)) w := by kernel_rfl
theorem As.partsNa (a : Addr) (w : World) : (ReflectliteValue.parts (rval 28 a 386)).run Tryd.prog w = .ok (some (28, a, 386)) w := by kernel_rfl
theorem As.partsN (a : Addr) (w : World) : (ReflectliteValue.parts (rval 28 a 130)).run Tryd.prog w = .ok (some (28, a, 130)) w := by kernel_rfl
theorem As.directF (w : World) : (Rtype.directlyAssignable 42 42).run Tryd.prog w = .ok true w := by kernel_rfl
theorem As.directN (w : World) : (Rtype.directlyAssignable 28 28).run Tryd.prog w = .ok true w := by kernel_rfl
theorem As.setF (ta b : Addr) (o : Option Addr) (old : Value) (W : World) (hb : W.cell? b = some (.pointer o)) (ht : W.cell? ta = some old) (hf : W.frozen? ta = false) :
    (ReflectliteValue.set #[rval 42 ta 406, rval 42 b 150]).run Tryd.prog W = .ok (.tuple #[]) (W.setCell ta (.pointer o)) := by
  change Sem.run Tryd.prog (ReflectliteValue.parts (rval 42 ta 406) >>= fun p => ReflectliteValue.parts (rval 42 b 150) >>= fun q => _) W = _
  simp only [Sem.run_bind, As.partsFa, As.partsF, Result.andThen]
  simp [ReflectliteValue.flagAddr, loadVar, isAgg, underlying, Tryd.underlying42, hb, Result.andThen, As.directF, storeVar, Value.cells, storeCells, Addr.add]
  rw [run_store Tryd.prog W ta _ _ (by rfl)]
  simp [ht, hf]
theorem As.setN (ta b : Addr) (n : Int) (old : Value) (W : World) (hb : W.cell? b = some (.int .i64 n)) (ht : W.cell? ta = some old) (hf : W.frozen? ta = false) :
    (ReflectliteValue.set #[rval 28 ta 386, rval 28 b 130]).run Tryd.prog W = .ok (.tuple #[]) (W.setCell ta (.int .i64 n)) := by
  change Sem.run Tryd.prog (ReflectliteValue.parts (rval 28 ta 386) >>= fun p => ReflectliteValue.parts (rval 28 b 130) >>= fun q => _) W = _
  simp only [Sem.run_bind, As.partsNa, As.partsN, Result.andThen]
  simp [ReflectliteValue.flagAddr, loadVar, isAgg, underlying, Tryd.underlying28, hb, Result.andThen, As.directN, storeVar, Value.cells, storeCells, Addr.add]
  rw [run_store Tryd.prog W ta _ _ (by rfl)]
  simp [ht, hf]

theorem newAlloc {w u : World} (h : New w u) (o : Obj) : New w (u.alloc o) := h.alloc h.size o
theorem newRefl (w : World) : New w w := Below.refl _ _

/-- a block of one cell -/
def At1 (w : World) (g : Nat) (t : TypeId) (x : Value) : Prop := w.heap[g]? = some (.cells #[x] t)

theorem At1.cell {w : World} {g : Nat} {t : TypeId} {x : Value} (h : At1 w g t x) : w.cell? ⟨g, 0, none⟩ = some x := by rw [cell_of_row w g 0 _ _ _ h]; rfl
theorem At1.frozen {w : World} {g : Nat} {t : TypeId} {x : Value} (h : At1 w g t x) : w.frozen? ⟨g, 0, none⟩ = false := frozen_of_row w g 0 _ _ h
theorem At1.new {w w' : World} {g : Nat} {t : TypeId} {x : Value} (h : At1 w g t x) (hn : New w w') : At1 w' g t x := (hn.block _ (lt_of_block h)).trans h
theorem At1.lt {w : World} {g : Nat} {t : TypeId} {x : Value} (h : At1 w g t x) : g < w.heap.size := lt_of_block h

/-- what errors.As leaves where it has found one -/
def AsTo (w : World) (t : Nat) (ty : TypeId) (b : Bool) (x : Value) (e : Ending) (w' : World) : Prop :=
  e = .returned (.bool b) ∧ At1 w' t ty x ∧ Only (fun k => k = t) w w'

theorem asTo_set {w : World} {t : Nat} {ty : TypeId} {x y : Value} (os : List Obj) (h : At1 w t ty x) : At1 ((os.foldl World.alloc w).setCell ⟨t, 0, none⟩ y) t ty y ∧ Only (fun k => k = t) w ((os.foldl World.alloc w).setCell ⟨t, 0, none⟩ y) := by
  have hN : New w (os.foldl World.alloc w) := by
    clear h
    suffices ∀ (os : List Obj) (u : World), New w u → New w (os.foldl World.alloc u) from this os w (Below.refl _ _)
    intro os
    induction os with
    | nil => exact fun u h => h
    | cons o r ih => exact fun u h => ih _ (newAlloc h _)
  refine ⟨?_, Only.setCell (F := fun k => k = t) (New.only hN) (p := ⟨t, 0, none⟩) (fun _ => rfl) _⟩
  unfold At1
  rw [heap_setCell_same _ _ _ _ _ _ (h.new hN)]
  rfl

set_option maxHeartbeats 4000000 in
theorem asHitF (o : Option Addr) (t : Nat) (x : Value) (w : World) (hg : HasErr w) (ht : At1 w t 42 x) :
    Calls Tryd.prog 17 #[.iface 42 (.pointer o), .iface 44 (.pointer (some ⟨t, 0, none⟩))] w (AsTo w t 42 true (.pointer o)) := by
  have hA := asTo_set (y := .pointer o) [.cells #[.pointer (some ⟨t, 0, none⟩)] 44, .cells #[hndl 44, .pointer (some ⟨w.heap.size, 0, none⟩), .int .u64 150] 66, .cells #[hndl 44, .pointer (some ⟨w.heap.size, 0, none⟩), .int .u64 150] 66, .cells #[.pointer o] 42] ht
  have HA := Lib.hid hA
  clear hA
  have hVO := @run_callFunc_extern Tryd.prog 29 _ (fun args => ReflectliteValue.unpack (args.getD 0 (.tuple #[]))) Tryd.func29 (by kernel_rfl) (by kernel_rfl) (by kernel_rfl) (by kernel_rfl)
  have hVT := @run_callFunc_extern Tryd.prog 30 _ (ReflectliteValue.methodAny (ReflectliteValue.valueError "reflectlite.Value.Type" 0) (fun t _ _ _ => ReflectliteType.toType t)) Tryd.func30 (by kernel_rfl) (by kernel_rfl) (by kernel_rfl) (by kernel_rfl)
  have hIN := @run_callFunc_extern Tryd.prog 31 _ (ReflectliteValue.method (ReflectliteValue.valueError "reflectlite.Value.IsNil" 0) ReflectliteValue.isNil) Tryd.func31 (by kernel_rfl) (by kernel_rfl) (by kernel_rfl) (by kernel_rfl)
  have hKI := @run_callFunc_extern Tryd.prog 71 _ (ReflectliteType.abiMethod fun t => do pure (.int .u8 (← Rtype.kind t))) Tryd.func71 (by kernel_rfl) (by kernel_rfl) (by kernel_rfl) (by kernel_rfl)
  have hTE := @run_callFunc_extern Tryd.prog 82 _ (ReflectliteType.method ReflectliteType.elem) Tryd.func82 (by kernel_rfl) (by kernel_rfl) (by kernel_rfl) (by kernel_rfl)
  have hTI := @run_callFunc_extern Tryd.prog 83 _ (ReflectliteType.relation "Implements" ReflectliteType.implements_) Tryd.func83 (by kernel_rfl) (by kernel_rfl) (by kernel_rfl) (by kernel_rfl)
  have hTO := @run_callFunc_extern Tryd.prog 27 _ ReflectliteType.typeOf Tryd.func27 (by kernel_rfl) (by kernel_rfl) (by kernel_rfl) (by kernel_rfl)
  have hTA := @run_callFunc_extern Tryd.prog 80 _ (ReflectliteType.relation "AssignableTo" ReflectliteType.assignableTo) Tryd.func80 (by kernel_rfl) (by kernel_rfl) (by kernel_rfl) (by kernel_rfl)
  have hVE := @run_callFunc_extern Tryd.prog 39 _ (ReflectliteValue.method (ReflectliteValue.valueError "reflectlite.Value.Elem" 0) ReflectliteValue.elem) Tryd.func39 (by kernel_rfl) (by kernel_rfl) (by kernel_rfl) (by kernel_rfl)
  have hVS := @run_callFunc_extern Tryd.prog 40 _ ReflectliteValue.set Tryd.func40 (by kernel_rfl) (by kernel_rfl) (by kernel_rfl) (by kernel_rfl)
  have q1 := As.typeOfF
  have q2 := As.methodAssignableTo
  have q3 := As.assFF
  have q4 := As.valF
  have q5 := As.valueOfF
  have q6 := As.typeF
  have q7 := As.methodKind
  have q8 := As.methodElem
  have q9 := As.methodImplements
  have q10 := As.kindFF
  have q11 := As.kindF
  have q12 := As.elemFF
  have q13 := As.implF
  have n8 := As.isNilF ⟨w.heap.size, 0, none⟩ ⟨t, 0, none⟩ ((w.alloc (.cells #[.pointer (some ⟨t, 0, none⟩)] 44)).alloc (.cells #[hndl 44, .pointer (some ⟨w.heap.size, 0, none⟩), .int .u64 150] 66)) (by simp)
  have hg2 : ((w.alloc (.cells #[.pointer (some ⟨t, 0, none⟩)] 44)).alloc (.cells #[hndl 44, .pointer (some ⟨w.heap.size, 0, none⟩), .int .u64 150] 66)).cell? ⟨0, 0, none⟩ = some (.iface 84 (.agg #[hndl 26])) :=
    hg.new (newAlloc (newAlloc (newRefl _) _) _)
  have hlt := ht.lt
  have ht0 := ht.cell
  have hf0 := ht.frozen
  have el := As.elemVF ⟨w.heap.size, 0, none⟩ ⟨t, 0, none⟩ (((w.alloc (.cells #[.pointer (some ⟨t, 0, none⟩)] 44)).alloc (.cells #[hndl 44, .pointer (some ⟨w.heap.size, 0, none⟩), .int .u64 150] 66)).alloc (.cells #[hndl 44, .pointer (some ⟨w.heap.size, 0, none⟩), .int .u64 150] 66)) (by rw [World.cell?_alloc_lt _ _ ⟨w.heap.size, 0, none⟩ (by simp; omega)]; simp)
  have st := As.setF ⟨t, 0, none⟩ ⟨w.heap.size + 1 + 1 + 1, 0, none⟩ o x ((((w.alloc (.cells #[.pointer (some ⟨t, 0, none⟩)] 44)).alloc (.cells #[hndl 44, .pointer (some ⟨w.heap.size, 0, none⟩), .int .u64 150] 66)).alloc (.cells #[hndl 44, .pointer (some ⟨w.heap.size, 0, none⟩), .int .u64 150] 66)).alloc (.cells #[.pointer o] 42))
    (by rw [World.cell?_alloc_at _ _ _ _ (by simp)]; rfl)
    (by rw [World.cell?_alloc_lt _ _ ⟨t, 0, none⟩ (by simp; omega), World.cell?_alloc_lt _ _ ⟨t, 0, none⟩ (by simp; omega), World.cell?_alloc_lt _ _ ⟨t, 0, none⟩ (by simp; omega), World.cell?_alloc_lt _ _ ⟨t, 0, none⟩ hlt]; exact ht0)
    (by rw [World.frozen?_alloc_old _ _ ⟨t, 0, none⟩ (by simp; omega), World.frozen?_alloc_old _ _ ⟨t, 0, none⟩ (by simp; omega), World.frozen?_alloc_old _ _ ⟨t, 0, none⟩ (by simp; omega), World.frozen?_alloc_old _ _ ⟨t, 0, none⟩ (Nat.ne_of_lt hlt)]; exact hf0)
  clear hg ht ht0 hf0 hlt
  go_enter Tryd.func17, Tryd.ntmps17
  go_wp2
  refine wp_loop_rounds 1 ?_
  rw [rounds_succ]
  go_wp2
  go_ret
  exact ⟨rfl, HA.out.1, HA.out.2⟩

set_option maxHeartbeats 4000000 in
theorem asHitN (n : Int) (t : Nat) (x : Value) (w : World) (hg : HasErr w) (ht : At1 w t 28 x) :
    Calls Tryd.prog 17 #[.iface 28 (.int .i64 n), .iface 50 (.pointer (some ⟨t, 0, none⟩))] w (AsTo w t 28 true (.int .i64 n)) := by
  have hA := asTo_set (y := .int .i64 n) [.cells #[.pointer (some ⟨t, 0, none⟩)] 50, .cells #[hndl 50, .pointer (some ⟨w.heap.size, 0, none⟩), .int .u64 150] 66, .cells #[hndl 50, .pointer (some ⟨w.heap.size, 0, none⟩), .int .u64 150] 66, .cells #[.int .i64 n] 28] ht
  have HA := Lib.hid hA
  clear hA
  have hVO := @run_callFunc_extern Tryd.prog 29 _ (fun args => ReflectliteValue.unpack (args.getD 0 (.tuple #[]))) Tryd.func29 (by kernel_rfl) (by kernel_rfl) (by kernel_rfl) (by kernel_rfl)
  have hVT := @run_callFunc_extern Tryd.prog 30 _ (ReflectliteValue.methodAny (ReflectliteValue.valueError "reflectlite.Value.Type" 0) (fun t _ _ _ => ReflectliteType.toType t)) Tryd.func30 (by kernel_rfl) (by kernel_rfl) (by kernel_rfl) (by kernel_rfl)
  have hIN := @run_callFunc_extern Tryd.prog 31 _ (ReflectliteValue.method (ReflectliteValue.valueError "reflectlite.Value.IsNil" 0) ReflectliteValue.isNil) Tryd.func31 (by kernel_rfl) (by kernel_rfl) (by kernel_rfl) (by kernel_rfl)
  have hKI := @run_callFunc_extern Tryd.prog 71 _ (ReflectliteType.abiMethod fun t => do pure (.int .u8 (← Rtype.kind t))) Tryd.func71 (by kernel_rfl) (by kernel_rfl) (by kernel_rfl) (by kernel_rfl)
  have hTE := @run_callFunc_extern Tryd.prog 82 _ (ReflectliteType.method ReflectliteType.elem) Tryd.func82 (by kernel_rfl) (by kernel_rfl) (by kernel_rfl) (by kernel_rfl)
  have hTI := @run_callFunc_extern Tryd.prog 83 _ (ReflectliteType.relation "Implements" ReflectliteType.implements_) Tryd.func83 (by kernel_rfl) (by kernel_rfl) (by kernel_rfl) (by kernel_rfl)
  have hTO := @run_callFunc_extern Tryd.prog 27 _ ReflectliteType.typeOf Tryd.func27 (by kernel_rfl) (by kernel_rfl) (by kernel_rfl) (by kernel_rfl)
  have hTA := @run_callFunc_extern Tryd.prog 80 _ (ReflectliteType.relation "AssignableTo" ReflectliteType.assignableTo) Tryd.func80 (by kernel_rfl) (by kernel_rfl) (by kernel_rfl) (by kernel_rfl)
  have hVE := @run_callFunc_extern Tryd.prog 39 _ (ReflectliteValue.method (ReflectliteValue.valueError "reflectlite.Value.Elem" 0) ReflectliteValue.elem) Tryd.func39 (by kernel_rfl) (by kernel_rfl) (by kernel_rfl) (by kernel_rfl)
  have hVS := @run_callFunc_extern Tryd.prog 40 _ ReflectliteValue.set Tryd.func40 (by kernel_rfl) (by kernel_rfl) (by kernel_rfl) (by kernel_rfl)
  have q1 := As.typeOfN
  have q2 := As.methodAssignableTo
  have q3 := As.assNN
  have q4 := As.valN
  have q5 := As.valueOfN
  have q6 := As.typeN
  have q7 := As.methodKind
  have q8 := As.methodElem
  have q9 := As.methodImplements
  have q10 := As.kindNN
  have q11 := As.kindN
  have q12 := As.elemNN
  have q13 := As.implN
  have n8 := As.isNilN ⟨w.heap.size, 0, none⟩ ⟨t, 0, none⟩ ((w.alloc (.cells #[.pointer (some ⟨t, 0, none⟩)] 50)).alloc (.cells #[hndl 50, .pointer (some ⟨w.heap.size, 0, none⟩), .int .u64 150] 66)) (by simp)
  have hg2 : ((w.alloc (.cells #[.pointer (some ⟨t, 0, none⟩)] 50)).alloc (.cells #[hndl 50, .pointer (some ⟨w.heap.size, 0, none⟩), .int .u64 150] 66)).cell? ⟨0, 0, none⟩ = some (.iface 84 (.agg #[hndl 26])) :=
    hg.new (newAlloc (newAlloc (newRefl _) _) _)
  have hlt := ht.lt
  have ht0 := ht.cell
  have hf0 := ht.frozen
  have el := As.elemVN ⟨w.heap.size, 0, none⟩ ⟨t, 0, none⟩ (((w.alloc (.cells #[.pointer (some ⟨t, 0, none⟩)] 50)).alloc (.cells #[hndl 50, .pointer (some ⟨w.heap.size, 0, none⟩), .int .u64 150] 66)).alloc (.cells #[hndl 50, .pointer (some ⟨w.heap.size, 0, none⟩), .int .u64 150] 66)) (by rw [World.cell?_alloc_lt _ _ ⟨w.heap.size, 0, none⟩ (by simp; omega)]; simp)
  have st := As.setN ⟨t, 0, none⟩ ⟨w.heap.size + 1 + 1 + 1, 0, none⟩ n x ((((w.alloc (.cells #[.pointer (some ⟨t, 0, none⟩)] 50)).alloc (.cells #[hndl 50, .pointer (some ⟨w.heap.size, 0, none⟩), .int .u64 150] 66)).alloc (.cells #[hndl 50, .pointer (some ⟨w.heap.size, 0, none⟩), .int .u64 150] 66)).alloc (.cells #[.int .i64 n] 28))
    (by rw [World.cell?_alloc_at _ _ _ _ (by simp)]; rfl)
    (by rw [World.cell?_alloc_lt _ _ ⟨t, 0, none⟩ (by simp; omega), World.cell?_alloc_lt _ _ ⟨t, 0, none⟩ (by simp; omega), World.cell?_alloc_lt _ _ ⟨t, 0, none⟩ (by simp; omega), World.cell?_alloc_lt _ _ ⟨t, 0, none⟩ hlt]; exact ht0)
    (by rw [World.frozen?_alloc_old _ _ ⟨t, 0, none⟩ (by simp; omega), World.frozen?_alloc_old _ _ ⟨t, 0, none⟩ (by simp; omega), World.frozen?_alloc_old _ _ ⟨t, 0, none⟩ (by simp; omega), World.frozen?_alloc_old _ _ ⟨t, 0, none⟩ (Nat.ne_of_lt hlt)]; exact hf0)
  clear hg ht ht0 hf0 hlt
  go_enter Tryd.func17, Tryd.ntmps17
  go_wp2
  refine wp_loop_rounds 1 ?_
  rw [rounds_succ]
  go_wp2
  go_ret
  exact ⟨rfl, HA.out.1, HA.out.2⟩

/-! a number is no fault -/
theorem As.noAs (v : Value) (xT : TypeId) (w : World) : (Instr.typeAssert (.iface 28 v) xT 95 true).run Tryd.prog w = .ok (.tuple #[.nilIface, .bool false]) w := run_typeAssert_lacksB Tryd.underlying95 (by kernel_rfl) (by kernel_rfl) v xT w
theorem As.noIs (v : Value) (xT : TypeId) (w : World) : (Instr.typeAssert (.iface 28 v) xT 86 true).run Tryd.prog w = .ok (.tuple #[.nilIface, .bool false]) w := run_typeAssert_lacksB Tryd.underlying86 (by kernel_rfl) (by kernel_rfl) v xT w
theorem As.noUnwrap (v : Value) (xT : TypeId) (w : World) : (Instr.typeAssert (.iface 28 v) xT 89 true).run Tryd.prog w = .ok (.tuple #[.nilIface, .bool false]) w := run_typeAssert_lacksB Tryd.underlying89 (by kernel_rfl) (by kernel_rfl) v xT w
theorem As.noUnwraps (v : Value) (xT : TypeId) (w : World) : (Instr.typeAssert (.iface 28 v) xT 90 true).run Tryd.prog w = .ok (.tuple #[.nilIface, .bool false]) w := run_typeAssert_lacksB Tryd.underlying90 (by kernel_rfl) (by kernel_rfl) v xT w

set_option maxHeartbeats 4000000 in
theorem asMiss (n : Int) (t : Nat) (x : Value) (w : World) (hg : HasErr w) (ht : At1 w t 42 x) :
    Calls Tryd.prog 17 #[.iface 28 (.int .i64 n), .iface 44 (.pointer (some ⟨t, 0, none⟩))] w (AsTo w t 42 false x) := by
  have hA : New w (((w.alloc (.cells #[.pointer (some ⟨t, 0, none⟩)] 44)).alloc (.cells #[hndl 44, .pointer (some ⟨w.heap.size, 0, none⟩), .int .u64 150] 66)).alloc (.cells #[hndl 44, .pointer (some ⟨w.heap.size, 0, none⟩), .int .u64 150] 66)) :=
    newAlloc (newAlloc (newAlloc (newRefl _) _) _) _
  have HA := Lib.hid hA
  have HT := Lib.hid ht
  clear hA
  have hVO := @run_callFunc_extern Tryd.prog 29 _ (fun args => ReflectliteValue.unpack (args.getD 0 (.tuple #[]))) Tryd.func29 (by kernel_rfl) (by kernel_rfl) (by kernel_rfl) (by kernel_rfl)
  have hVT := @run_callFunc_extern Tryd.prog 30 _ (ReflectliteValue.methodAny (ReflectliteValue.valueError "reflectlite.Value.Type" 0) (fun t _ _ _ => ReflectliteType.toType t)) Tryd.func30 (by kernel_rfl) (by kernel_rfl) (by kernel_rfl) (by kernel_rfl)
  have hIN := @run_callFunc_extern Tryd.prog 31 _ (ReflectliteValue.method (ReflectliteValue.valueError "reflectlite.Value.IsNil" 0) ReflectliteValue.isNil) Tryd.func31 (by kernel_rfl) (by kernel_rfl) (by kernel_rfl) (by kernel_rfl)
  have hKI := @run_callFunc_extern Tryd.prog 71 _ (ReflectliteType.abiMethod fun t => do pure (.int .u8 (← Rtype.kind t))) Tryd.func71 (by kernel_rfl) (by kernel_rfl) (by kernel_rfl) (by kernel_rfl)
  have hTE := @run_callFunc_extern Tryd.prog 82 _ (ReflectliteType.method ReflectliteType.elem) Tryd.func82 (by kernel_rfl) (by kernel_rfl) (by kernel_rfl) (by kernel_rfl)
  have hTI := @run_callFunc_extern Tryd.prog 83 _ (ReflectliteType.relation "Implements" ReflectliteType.implements_) Tryd.func83 (by kernel_rfl) (by kernel_rfl) (by kernel_rfl) (by kernel_rfl)
  have hTO := @run_callFunc_extern Tryd.prog 27 _ ReflectliteType.typeOf Tryd.func27 (by kernel_rfl) (by kernel_rfl) (by kernel_rfl) (by kernel_rfl)
  have hTA := @run_callFunc_extern Tryd.prog 80 _ (ReflectliteType.relation "AssignableTo" ReflectliteType.assignableTo) Tryd.func80 (by kernel_rfl) (by kernel_rfl) (by kernel_rfl) (by kernel_rfl)
  have q1 := As.typeOfN
  have q2 := As.methodAssignableTo
  have q3 := As.assNF
  have q5 := As.valueOfF
  have q6 := As.typeF
  have q7 := As.methodKind
  have q8 := As.methodElem
  have q9 := As.methodImplements
  have q10 := As.kindFF
  have q11 := As.kindF
  have q12 := As.elemFF
  have q13 := As.implF
  have q14 := As.noAs
  have q15 := As.noUnwrap
  have q16 := As.noUnwraps
  have n8 := As.isNilF ⟨w.heap.size, 0, none⟩ ⟨t, 0, none⟩ ((w.alloc (.cells #[.pointer (some ⟨t, 0, none⟩)] 44)).alloc (.cells #[hndl 44, .pointer (some ⟨w.heap.size, 0, none⟩), .int .u64 150] 66)) (by simp)
  have hg2 : ((w.alloc (.cells #[.pointer (some ⟨t, 0, none⟩)] 44)).alloc (.cells #[hndl 44, .pointer (some ⟨w.heap.size, 0, none⟩), .int .u64 150] 66)).cell? ⟨0, 0, none⟩ = some (.iface 84 (.agg #[hndl 26])) :=
    hg.new (newAlloc (newAlloc (newRefl _) _) _)
  clear hg ht
  go_enter Tryd.func17, Tryd.ntmps17
  go_wp2
  refine wp_loop_rounds 1 ?_
  rw [rounds_succ]
  go_wp2
  go_ret
  exact ⟨rfl, HT.out.new HA.out, New.only HA.out⟩
end Go.Proofs.YtnjijmphmgihiaaDoor
