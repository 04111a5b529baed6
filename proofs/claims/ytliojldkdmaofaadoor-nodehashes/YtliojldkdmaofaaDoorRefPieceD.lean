/-
  The reference's Sum, one round: a word is added up.
-/
import Derived.Test.YtliojldkdmaofaaDoorRefCut
namespace Go.Proofs.YtliojldkdmaofaaDoor
set_option linter.unusedVariables false
set_option linter.unusedSimpArgs false
open Go.RowKit

attribute [local go_sem] u32_bxor u32_band u32_bnot u32_add u32_add' shr3_of shr10_of

set_option maxRecDepth 100000 in
set_option maxHeartbeats 20000000 in
theorem refPieceD : refCut.2.2.2.1 := by
  conv => whnf
  unhygienic intros
  rename World => wr
  have hc1 : wr.cell? ⟨w.heap.size, j, none⟩ = some (wv (s.list.getD j 0)) := by
    rw [cell_of_row _ _ _ _ _ _ hin.h, List.getElem?_toArray, List.getElem?_map, hm_get s r j hj8]; rfl
  have hc2 : wr.cell? ⟨bvv, j, none⟩ = some (wv (r.list.getD j 0)) := by
    obtain ⟨b', c', e', _, _, _, h3⟩ := hv
    cases e'
    exact h3 j _ (by rw [List.getD_eq_getElem?_getD, List.getElem?_eq_getElem (by show j < 8; omega)]; rfl)
  obtain ⟨y1, HY1⟩ : ∃ y, Hid (s.list.getD j 0 = y) := ⟨_, Lib.hid rfl⟩
  obtain ⟨y2, HY2⟩ : ∃ y, Hid (r.list.getD j 0 = y) := ⟨_, Lib.hid rfl⟩
  rw [HY1.out] at hc1
  rw [HY2.out] at hc2
  have HIN := Lib.hid hin
  have HV := Lib.hid hv
  have hj8' : (j : Int) < 8 := by omega
  clear hin hv
  go_wp2_with fail
  refine wp_region_still_tail 12 (by kernel_rfl) (by kernel_rfl) ?_
  simp only [List.take_succ_cons, List.take_zero, List.drop_succ_cons, List.drop_zero]
  change wpStill _ _ wr.drew (fun a' => wpList _ _ _ _ a' wr.drew) _ _
  have d1 : wr.drew.cell? ⟨w.heap.size, j, none⟩ = some (wv y1) := hc1
  have d2 : wr.drew.cell? ⟨bvv, j, none⟩ = some (wv y2) := hc2
  have HID := Lib.hid (HIN.out.of_new ((Below.refl _ _).drew : New wr wr.drew))
  have HVD := Lib.hid (HV.out.new ((Below.refl _ _).drew : New wr wr.drew))
  have hszd : w3.heap.size ≤ wr.drew.heap.size := hsz
  clear hc1 hc2 HIN HV hsz
  generalize wr.drew = wd at *
  have hdf : wd.frozen? ⟨w.heap.size, j, none⟩ = false := frozen_of_row _ _ _ _ _ HID.out.h
  repeat still_step
  refine wpStill_nil ?_
  go_wp2
  go_roundw
  case rel =>
    refine ⟨j + 1, by omega, by go_num, ?_, ?_, ?_⟩
    · have h := HID.out.add hj8 (by omega) (by omega) (Nat.le_refl _)
      rw [HY1.out, HY2.out] at h
      exact h
    · exact HVD.out.only (F := fun k => k = w.heap.size) (Only.setCell (F := fun k => k = w.heap.size) (p := ⟨w.heap.size, j, none⟩) (Only.refl _ _) (fun _ => rfl) _) (fun k e => by omega)
    · simpa using hszd
  case measure => simp [intOf]; omega

end Go.Proofs.YtliojldkdmaofaaDoor
