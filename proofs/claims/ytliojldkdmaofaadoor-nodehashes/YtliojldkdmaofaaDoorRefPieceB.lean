/-
  The reference's Sum, one round: a word of the schedule is made.
-/
import Derived.Test.YtliojldkdmaofaaDoorRefCut
namespace Go.Proofs.YtliojldkdmaofaaDoor
set_option linter.unusedVariables false
set_option linter.unusedSimpArgs false
open Go.RowKit

attribute [local go_sem] u32_bxor u32_band u32_bnot u32_add u32_add' shr3_of shr10_of

set_option maxRecDepth 100000 in
set_option maxHeartbeats 20000000 in
theorem refPieceB : refCut.2.1 := by
  conv => whnf
  unhygienic intros
  rename World => wr
  have hl := ext_length (chunk A k) (t - 16)
  obtain ⟨x15, hx15⟩ := HIN.out.word (i := t - 15) (by omega)
  obtain ⟨x2, hx2⟩ := HIN.out.word (i := t - 2) (by omega)
  obtain ⟨x7, hx7⟩ := HIN.out.word (i := t - 7) (by omega)
  obtain ⟨x16, hx16⟩ := HIN.out.word (i := t - 16) (by omega)
  have HXX : Hid (ext (chunk A k) (t + 1 - 16) = ext (chunk A k) (t - 16) ++ [wadd (wadd (wadd (s1 x2) x7) (s0 x15)) x16]) := by
    show _ = _
    rw [show t + 1 - 16 = t - 16 + 1 by omega]
    rw [ext_succ]
    unfold nextW
    rw [show t - 16 + 14 = t - 2 by omega, show t - 16 + 9 = t - 7 by omega, show t - 16 + 1 = t - 15 by omega, hx15.1, hx2.1, hx7.1, hx16.1]
  have hc15 := hx15.2
  have hc2 := hx2.2
  have hc7 := hx7.2
  have hc16 := hx16.2
  have hdf : wr.frozen? ⟨bw, t, none⟩ = false := frozen_of_row _ _ _ _ _ HIN.out.words
  have hdw : wr.cell? ⟨bw, t, none⟩ = some (wv 0) := by
    rw [cell_of_row _ _ _ _ _ _ HIN.out.words]
    exact row64_zero _ _ (by omega) (by omega)
  have HLEN : Hid ((ext (chunk A k) (t - 16)).length = t) := by show _ = _; omega
  have h64 : (t : Int) < 64 := by omega
  clear hx15 hx2 hx7 hx16 hl
  go_wp2
  go_quiet (fail)
  go_wp2_with fail
  have i1 : IntKind.i64.wrap ((t : Int) - 7) = (t : Int) - 7 := IntWalk.i64_in _ (by omega)
  have i2 : IntKind.i64.wrap ((t : Int) - 16) = (t : Int) - 16 := IntWalk.i64_in _ (by omega)
  have i3 : 0 ≤ (t : Int) - 7 := by omega
  have i4 : 0 ≤ (t : Int) - 16 := by omega
  have i5 : ((t : Int) - 7).toNat = t - 7 := by omega
  have i6 : ((t : Int) - 16).toNat = t - 16 := by omega
  have i7 : (t : Int) - 7 < 64 := by omega
  have i8 : (t : Int) - 16 < 64 := by omega
  have j3 : 7 ≤ (t : Int) := by omega
  have j4 : 16 ≤ (t : Int) := by omega
  have j7 : (t : Int) < 64 + 7 := by omega
  have j8 : (t : Int) < 64 + 16 := by omega
  refine region_ord (fun w' => w'.cell? ⟨bw, t - 7, none⟩ = some (wv x7) ∧ w'.cell? ⟨bw, t - 16, none⟩ = some (wv x16)) [(0, true), (1, true), (2, true), (4, true), (7, true), (8, true), (10, true), (11, true), (12, true), (13, true), (14, true), (16, true), (18, true), (21, true), (22, true), (25, true), (26, true), (27, true), (28, true), (29, true), (3, false), (5, false), (6, true), (9, true), (15, true), (17, false), (19, false), (20, true), (23, true), (24, true), (30, true), (31, true), (32, false)] (by kernel_rfl) (by kernel_rfl) (And.intro hc7 hc16) (fun _ => ?_)
  iterate 20 (apply ord_take; (simp only [List.getElem?_toArray, List.getElem?_cons_succ, List.getElem?_cons_zero]; rfl); rfl; (intro w hSw; (try dsimp only at hSw); go_simp; try with_reducible rfl); intro _; try simp only [Act.put, List.setIfInBounds_toArray, List.set_cons_zero, List.set_cons_succ])
  (apply ord_only; (simp only [List.getElem?_toArray, List.getElem?_cons_succ, List.getElem?_cons_zero]; rfl); rfl; intro K hK)
  go_simp
  refine (refRightI _ _ _ (by decide) (by decide)).mono ?_
  rintro e w3 ⟨rfl, q3, rfl⟩
  refine hK.out _ _ (And.intro hc7 hc16) (fun _ => ?_)
  clear hK K
  try simp only [Act.put, List.setIfInBounds_toArray, List.set_cons_zero, List.set_cons_succ]
  (apply ord_only; (simp only [List.getElem?_toArray, List.getElem?_cons_succ, List.getElem?_cons_zero]; rfl); rfl; intro K hK)
  go_simp
  refine (refRightI _ _ _ (by decide) (by decide)).mono ?_
  rintro e w5 ⟨rfl, q5, rfl⟩
  refine hK.out _ _ (And.intro hc7 hc16) (fun _ => ?_)
  clear hK K
  try simp only [Act.put, List.setIfInBounds_toArray, List.set_cons_zero, List.set_cons_succ]
  iterate 3 (apply ord_take; (simp only [List.getElem?_toArray, List.getElem?_cons_succ, List.getElem?_cons_zero]; rfl); rfl; (intro w hSw; (try dsimp only at hSw); go_simp; try with_reducible rfl); intro _; try simp only [Act.put, List.setIfInBounds_toArray, List.set_cons_zero, List.set_cons_succ])
  (apply ord_only; (simp only [List.getElem?_toArray, List.getElem?_cons_succ, List.getElem?_cons_zero]; rfl); rfl; intro K hK)
  go_simp
  refine (refRightI _ _ _ (by decide) (by decide)).mono ?_
  rintro e w17 ⟨rfl, q17, rfl⟩
  refine hK.out _ _ (And.intro hc7 hc16) (fun _ => ?_)
  clear hK K
  try simp only [Act.put, List.setIfInBounds_toArray, List.set_cons_zero, List.set_cons_succ]
  (apply ord_only; (simp only [List.getElem?_toArray, List.getElem?_cons_succ, List.getElem?_cons_zero]; rfl); rfl; intro K hK)
  go_simp
  refine (refRightI _ _ _ (by decide) (by decide)).mono ?_
  rintro e w19 ⟨rfl, q19, rfl⟩
  refine hK.out _ _ (And.intro hc7 hc16) (fun _ => ?_)
  clear hK K
  try simp only [Act.put, List.setIfInBounds_toArray, List.set_cons_zero, List.set_cons_succ]
  iterate 5 (apply ord_take; (simp only [List.getElem?_toArray, List.getElem?_cons_succ, List.getElem?_cons_zero]; rfl); rfl; (intro w hSw; (try dsimp only at hSw); go_simp; try with_reducible rfl); intro _; try simp only [Act.put, List.setIfInBounds_toArray, List.set_cons_zero, List.set_cons_succ])
  (apply ord_only; (simp only [List.getElem?_toArray, List.getElem?_cons_succ, List.getElem?_cons_zero]; rfl); rfl; intro K hK)
  go_simp
  refine hK.out _ _ (And.intro ((World.cell?_setCell_other _ _ _ _ (by intro e; have := congrArg Addr.off e; simp at this; omega)).trans hc7) ((World.cell?_setCell_other _ _ _ _ (by intro e; have := congrArg Addr.off e; simp at this; omega)).trans hc16)) (fun _ => ?_)
  clear hK K
  try simp only [Act.put, List.setIfInBounds_toArray, List.set_cons_zero, List.set_cons_succ]
  apply ord_done
  clear i1 i2 i3 i4 i5 i6 i7 i8 j3 j4 j7 j8
  go_wp2
  go_roundw
  case rel =>
    refine ⟨t + 1, by omega, by omega, by go_num, ?_, ?_⟩
    · rw [HXX.out]
      exact (HIN.out.drewN _).put HLEN.out (by omega) (by omega) (by omega) (by omega) (by omega)
    · simpa using hsz
  case measure => simp [intOf]; omega

end Go.Proofs.YtliojldkdmaofaaDoor
