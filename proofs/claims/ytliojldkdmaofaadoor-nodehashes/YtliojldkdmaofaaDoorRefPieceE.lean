/-
  The reference's Sum, one round: a word of the digest is written.
-/
import Derived.Test.YtliojldkdmaofaaDoorRefCut
namespace Go.Proofs.YtliojldkdmaofaaDoor
set_option linter.unusedVariables false
set_option linter.unusedSimpArgs false
open Go.RowKit

attribute [local go_sem] u32_bxor u32_band u32_bnot u32_add u32_add' shr3_of shr10_of

set_option maxRecDepth 100000 in
set_option maxHeartbeats 20000000 in
theorem refPieceE : refCut.2.2.2.2.1 := by
  conv => whnf
  unhygienic intros
  rename World => wr
  have hc1 : wr.cell? ⟨w.heap.size, j, none⟩ = some (wv (s.list.getD j 0)) := by
    rw [cell_of_row _ _ _ _ _ _ hin.h, List.getElem?_toArray, List.getElem?_map, List.getD_eq_getElem?_getD, List.getElem?_eq_getElem (by show j < 8; omega)]; rfl
  have hlen : (wsbytes (s.list.take j)).length ≤ 32 := by rw [wsbytes_length, List.length_take]; omega
  obtain ⟨x, HX⟩ : ∃ x, Hid (s.list.getD j 0 = x) := ⟨_, Lib.hid rfl⟩
  rw [HX.out] at hc1
  obtain ⟨L, HLL⟩ : ∃ L, Hid (wsbytes (s.list.take j) = L) := ⟨_, Lib.hid rfl⟩
  rw [HLL.out] at hown hlen
  have HIN := Lib.hid hin
  have hj8' : (j : Int) < 8 := by omega
  clear hin
  go_wp2_with fail
  refine region_ord (fun w' => w'.cell? ⟨w.heap.size, j, none⟩ = some (wv x)) [(0, true), (1, true), (2, true), (3, true), (4, true), (5, true), (6, true), (7, true), (8, true), (9, true), (10, true), (11, true), (12, true), (13, true), (14, true), (15, true), (16, true), (17, true), (18, true), (19, true), (20, true), (21, true), (22, true), (23, true), (24, false), (25, false), (26, true)] (by kernel_rfl) (by kernel_rfl) (by exact hc1) (fun _ => ?_)
  have HID := Lib.hid (HIN.out.of_new ((Below.refl _ _).drew : New wr wr.drew))
  have hownd : wr.drew.ownsRow w3.heap.size 5 1 u18 L.length (L.map bv) := hown.drew
  have hszd : w3.heap.size ≤ wr.drew.heap.size := hsz
  have hcd : wr.drew.cell? ⟨w.heap.size, j, none⟩ = some (wv x) := hc1
  clear hc1 HIN hown hsz
  generalize wr.drew = wd at *
  iterate 24 (apply ord_take; (simp only [List.getElem?_toArray, List.getElem?_cons_succ, List.getElem?_cons_zero]; rfl); rfl; (intro w hSw; (try dsimp only at hSw); go_simp; try with_reducible rfl); intro _; try simp only [Act.put, List.setIfInBounds_toArray, List.set_cons_zero, List.set_cons_succ])
  (apply ord_only; (simp only [List.getElem?_toArray, List.getElem?_cons_succ, List.getElem?_cons_zero]; rfl); rfl; intro K hK)
  go_simp
  refine hK.out _ _ ((World.cell?_alloc_lt _ _ _ (by show w.heap.size < _; omega)).trans hcd) (fun _ => ?_)
  clear hK K
  try simp only [Act.put, List.setIfInBounds_toArray, List.set_cons_zero, List.set_cons_succ]
  (apply ord_only; (simp only [List.getElem?_toArray, List.getElem?_cons_succ, List.getElem?_cons_zero]; rfl); rfl; intro K hK)
  obtain ⟨v', w', hr, hown', hgrow, _⟩ := run_append_bytes (P := Tryd.prog) _ w3.heap.size 22 22 5 i0 _ Tryd.underlying22 hi0 hz0 hz1 hz2 rfl u18 _ _ (hownd.alloc _) _ (wbytes x) (rd_word wd x) (by show L.length + 4 ≤ _; omega) (by simp; omega)
  refine oper_append (.tmp 254) (.tmp 278) 22 rfl _ _ rfl rfl hr (hK.out _ _ ?_ (fun _ => ?_))
  · have hb : Below w3.heap.size wd w' := Below.grown ((Below.refl _ _).alloc hszd _) hgrow (by simp; omega) (fun j hj => own_from hownd j (by rw [blk_own]; exact hj))
    exact (hb.cell (p := ⟨w.heap.size, j, none⟩) (by show w.heap.size < _; omega)).trans hcd
  · clear hK K hr
    try simp only [Act.put, List.setIfInBounds_toArray, List.set_cons_zero, List.set_cons_succ]
    (apply ord_take; (simp only [List.getElem?_toArray, List.getElem?_cons_succ, List.getElem?_cons_zero]; rfl); rfl; (intro w hSw; (try dsimp only at hSw); go_simp; try with_reducible rfl); intro _; try simp only [Act.put, List.setIfInBounds_toArray, List.set_cons_zero, List.set_cons_succ])
    apply ord_done
    have HO : Hid (w'.ownsRow w3.heap.size 5 1 v' (L ++ wbytes x).length ((L ++ wbytes x).map bv)) := by
      show w'.ownsRow _ _ _ _ _ _
      rw [List.length_append, List.map_append]; exact hown'
    have hbel : Below w3.heap.size wd w' := Below.grown ((Below.refl _ _).alloc hszd _) hgrow (by simp; omega) (fun j hj => own_from hownd j (by rw [blk_own]; exact hj))
    clear hown'
    go_wp2
    go_roundw
    case rel =>
      refine ⟨j + 1, by omega, by go_num, ?_, ?_, Nat.le_trans hszd hbel.size⟩
      · rw [wsbytes_take _ _ (by show j < 8; omega), HX.out, HLL.out]
        exact HO.out
      · exact HID.out.of_only (F := fun k => w3.heap.size ≤ k) (Only.of_below hbel (fun k h _ => h)) (by omega) (by omega) (by omega) (fun k h => by omega)
    case measure => simp [intOf]; omega

end Go.Proofs.YtliojldkdmaofaaDoor
