/-
  AesBlocks: the walk, and the law with its arguments as the row has them.
-/
import Derived.Test.YtapoelmhnbgidaaLaw05
import Derived.Test.YtapoelmhnbgidaaRefOne5
import Derived.Test.YtapoelmhnbgidaaArg05
import Derived.Test.YtapoelmhnbgidaaBase
namespace Go.Proofs.Ytapoelmhnbgidaa
set_option linter.unusedVariables false
set_option linter.unusedSimpArgs false
open Go.RowKit

/-- what the loads of the region read -/
def Two5 (p : Nat) (k b : List UInt8) (w' : World) : Prop :=
  (loadVar 22 ⟨p, 0, none⟩).run Try.prog w' = .ok (.agg (k.map bv).toArray) w' ∧ (loadVar 22 ⟨p + 1, 0, none⟩).run Try.prog w' = .ok (.agg (b.map bv).toArray) w'

structure In2 (w : World) (A B : List UInt8) (wr : World) : Prop where
  a : wr.heap[w.heap.size]? = some (.cells (A.map bv).toArray 22)
  b : wr.heap[w.heap.size + 1]? = some (.cells (B.map bv).toArray 22)
  new : New w wr

theorem In2.next {w wr w' : World} {A B : List UInt8} (h : In2 w A B wr) (hn : New wr w') : In2 w A B w' :=
  ⟨(hn.block _ (lt_of_block h.a)).trans h.a, (hn.block _ (lt_of_block h.b)).trans h.b, New.trans h.new hn⟩

theorem load16' {w : World} {g : Nat} {l : List UInt8} (h : w.heap[g]? = some (.cells (l.map bv).toArray 22)) (hl : l.length = 16) : (loadVar 22 ⟨g, 0, none⟩).run Try.prog w = .ok (.agg (l.map bv).toArray) w :=
  run_loadVar_row w g 22 22 _ _ _ h Try.underlying22 rfl (by rw [size16 hl]; exact info16)

theorem exec_load16' {a : Act} {o : Oper} {x : Operand} {p : Nat} {l : List UInt8} {w : World} (ho : o.op = .load 22 x) (hx : a.eval x = .pointer (some ⟨p, 0, none⟩)) (h : (loadVar 22 ⟨p, 0, none⟩).run Try.prog w = .ok (.agg (l.map bv).toArray) w) :
    (execOp a.eval o).run Try.prog w = .ok (.value (.agg (l.map bv).toArray)) w := by
  unfold execOp
  simp only [ho, hx, Instr.loadAt, Instr.sureAddr, Sem.run_bind, Sem.run_pure, Result.andThen_ok, h]

set_option maxRecDepth 100000 in
set_option maxHeartbeats 2000000 in
theorem blocksWalk (w : World) (k b : List UInt8) (hk : k.length = 16) (hb : b.length = 16) :
    Calls Try.prog 3 #[.agg (k.map bv).toArray, .agg (b.map bv).toArray] w fun e w' => e = .returned (.bool true) ∧ New w w' := by
  have HT : Hid (∀ w', In2 w k b w' → Two5 w.heap.size k b w') := Lib.hid (fun w' h => ⟨load16' h.a hk, load16' h.b hb⟩)
  have C1 : Hid (∀ wx : World, Calls Try.prog 9 #[.agg (k.map bv).toArray, .agg (b.map bv).toArray] wx fun e w' => e = .returned (.agg ((enc k b 10).map bv).toArray) ∧ New wx w') := Lib.hid (fun wx => aesBlock wx k b hk hb)
  have C2 : Hid (∀ wx : World, Calls Try.prog 10 #[.string (bstr k), .string (bstr b)] wx fun e w' => e = .returned (.string (bstr (enc k b 10))) ∧ New wx w') := Lib.hid (fun wx => refOne5 wx k b hk hb)
  have T1 : Hid (∀ wx : World, Calls Try.prog 8 #[.agg ((enc k b 10).map bv).toArray] wx fun e w' => e = .returned (.string (bstr (enc k b 10))) ∧ New wx w') := Lib.hid (fun wx => lawText wx _ (enc_length k b hb 10))
  have T2 : Hid (∀ wx : World, Calls Try.prog 8 #[.agg (k.map bv).toArray] wx fun e w' => e = .returned (.string (bstr k)) ∧ New wx w') := Lib.hid (fun wx => lawText wx _ hk)
  have T3 : Hid (∀ wx : World, Calls Try.prog 8 #[.agg (b.map bv).toArray] wx fun e w' => e = .returned (.string (bstr b)) ∧ New wx w') := Lib.hid (fun wx => lawText wx _ hb)
  clear hk hb
  generalize enc k b 10 = R at *
  go_enter Try.func3, Try.ntmps3
  go_upto_region 1 with fail
  have HI1 : Hid (In2 w k b ((w.alloc (.cells (k.map bv).toArray 22)).alloc (.cells (b.map bv).toArray 22))) := Lib.hid ⟨heap_alloc2_old _ _ _, heap_alloc2_new _ _ _, ((Below.refl _ _).alloc (Nat.le_refl _) _).alloc (by simp) _⟩
  generalize World.alloc (World.alloc w _) _ = w1 at *
  go_wp2_with fail
  refine (awake05 w1).mono ?_
  rintro e w2 ⟨rfl, N2⟩
  have HI : Hid (In2 w k b w2.drew) := Lib.hid (HI1.out.next N2.drew)
  clear HI1 N2
  go_wp2_with fail
  refine region_ord (Two5 w.heap.size k b) [(0, true), (1, true), (4, true), (6, true), (2, false), (3, false), (5, false), (7, false), (8, false), (9, true), (10, true)] (by kernel_rfl) (by kernel_rfl) (HT.out _ HI.out) (fun _ => ?_)
  generalize w2.drew = wd at *
  unfold Two5
  (apply ord_take; (simp only [List.getElem?_toArray, List.getElem?_cons_succ, List.getElem?_cons_zero]; rfl); rfl; (intro w hSw; exact exec_load16' rfl rfl hSw.1); intro _; try simp only [Act.put, List.setIfInBounds_toArray, List.set_cons_zero, List.set_cons_succ])
  (apply ord_take; (simp only [List.getElem?_toArray, List.getElem?_cons_succ, List.getElem?_cons_zero]; rfl); rfl; (intro w hSw; exact exec_load16' rfl rfl hSw.2); intro _; try simp only [Act.put, List.setIfInBounds_toArray, List.set_cons_zero, List.set_cons_succ])
  (apply ord_take; (simp only [List.getElem?_toArray, List.getElem?_cons_succ, List.getElem?_cons_zero]; rfl); rfl; (intro w hSw; exact exec_load16' rfl rfl hSw.1); intro _; try simp only [Act.put, List.setIfInBounds_toArray, List.set_cons_zero, List.set_cons_succ])
  (apply ord_take; (simp only [List.getElem?_toArray, List.getElem?_cons_succ, List.getElem?_cons_zero]; rfl); rfl; (intro w hSw; exact exec_load16' rfl rfl hSw.2); intro _; try simp only [Act.put, List.setIfInBounds_toArray, List.set_cons_zero, List.set_cons_succ])
  (apply ord_only; (simp only [List.getElem?_toArray, List.getElem?_cons_succ, List.getElem?_cons_zero]; rfl); rfl; intro K hK)
  go_simp
  refine (C1.out wd).mono ?_
  rintro e w3 ⟨rfl, N3⟩
  have HI3 := Lib.hid (HI.out.next N3)
  clear HI N3
  refine hK.out _ _ (HT.out _ HI3.out) (fun _ => ?_)
  clear hK K
  try simp only [Act.put, List.setIfInBounds_toArray, List.set_cons_zero, List.set_cons_succ]
  (apply ord_only; (simp only [List.getElem?_toArray, List.getElem?_cons_succ, List.getElem?_cons_zero]; rfl); rfl; intro K hK)
  go_simp
  refine (T1.out w3).mono ?_
  rintro e w4 ⟨rfl, N4⟩
  have HI4 := Lib.hid (HI3.out.next N4)
  clear HI3 N4
  refine hK.out _ _ (HT.out _ HI4.out) (fun _ => ?_)
  clear hK K
  try simp only [Act.put, List.setIfInBounds_toArray, List.set_cons_zero, List.set_cons_succ]
  (apply ord_only; (simp only [List.getElem?_toArray, List.getElem?_cons_succ, List.getElem?_cons_zero]; rfl); rfl; intro K hK)
  go_simp
  refine (T2.out w4).mono ?_
  rintro e w5 ⟨rfl, N5⟩
  have HI5 := Lib.hid (HI4.out.next N5)
  clear HI4 N5
  refine hK.out _ _ (HT.out _ HI5.out) (fun _ => ?_)
  clear hK K
  try simp only [Act.put, List.setIfInBounds_toArray, List.set_cons_zero, List.set_cons_succ]
  (apply ord_only; (simp only [List.getElem?_toArray, List.getElem?_cons_succ, List.getElem?_cons_zero]; rfl); rfl; intro K hK)
  go_simp
  refine (T3.out w5).mono ?_
  rintro e w6 ⟨rfl, N6⟩
  have HI6 := Lib.hid (HI5.out.next N6)
  clear HI5 N6
  refine hK.out _ _ (HT.out _ HI6.out) (fun _ => ?_)
  clear hK K
  try simp only [Act.put, List.setIfInBounds_toArray, List.set_cons_zero, List.set_cons_succ]
  (apply ord_only; (simp only [List.getElem?_toArray, List.getElem?_cons_succ, List.getElem?_cons_zero]; rfl); rfl; intro K hK)
  go_simp
  refine (C2.out w6).mono ?_
  rintro e w7 ⟨rfl, N7⟩
  have HI7 := Lib.hid (HI6.out.next N7)
  clear HI6 N7
  refine hK.out _ _ (HT.out _ HI7.out) (fun _ => ?_)
  clear hK K
  try simp only [Act.put, List.setIfInBounds_toArray, List.set_cons_zero, List.set_cons_succ]
  iterate 2 (apply ord_take; (simp only [List.getElem?_toArray, List.getElem?_cons_succ, List.getElem?_cons_zero]; rfl); rfl; (intro w hSw; (try dsimp only at hSw); go_simp; try with_reducible rfl); intro _; try simp only [Act.put, List.setIfInBounds_toArray, List.set_cons_zero, List.set_cons_succ])
  apply ord_done
  go_wp2
  go_ret
  exact ⟨rfl, HI7.out.new⟩

theorem blocksLaw (w : World) (x : List Int) (hx : x.length = 16) (wx : ∀ z ∈ x, (Lit.int .u8 z).wf = true) (y : List Int) (hy : y.length = 16) (wy : ∀ z ∈ y, (Lit.int .u8 z).wf = true) :
    Calls Try.prog 3 #[.agg (x.map (Value.int .u8)).toArray, .agg (y.map (Value.int .u8)).toArray] w fun e w' => e = .returned (.bool true) ∧ New w w' := by
  obtain ⟨k, ek, lk⟩ := bytes_of_wf x wx
  obtain ⟨a, ea, la⟩ := bytes_of_wf y wy
  rw [ek, ea]
  exact blocksWalk w k a (by omega) (by omega)

end Go.Proofs.Ytapoelmhnbgidaa
