/-
  The reference's Sum, one round: a word of a block is read.
-/
import Derived.Test.YtliojldkdmaofaaDoorRefCut
namespace Go.Proofs.YtliojldkdmaofaaDoor
set_option linter.unusedVariables false
set_option linter.unusedSimpArgs false
open Go.RowKit

attribute [local go_sem] u32_bxor u32_band u32_bnot u32_add u32_add' shr3_of shr10_of

set_option maxRecDepth 100000 in
set_option maxHeartbeats 20000000 in
theorem refPieceA : refCut.1 := by
  conv => whnf
  unhygienic intros
  rename World => wr
  obtain ⟨r, hr⟩ : ∃ r, r = p + 4 * t := ⟨_, rfl⟩
  have he : (p : Int) + 4 * (t : Int) = (r : Int) := by omega
  have hr4 : r + 4 ≤ A.length := by have := HN.out; have := HP.out; omega
  obtain ⟨x0, hx0⟩ := HIN.out.byte (i := r) (by omega)
  obtain ⟨x1, hx1⟩ := HIN.out.byte (i := r + 1) (by omega)
  obtain ⟨x2, hx2⟩ := HIN.out.byte (i := r + 2) (by omega)
  obtain ⟨x3, hx3⟩ := HIN.out.byte (i := r + 3) (by omega)
  have HXX : Hid (head16 (chunk A k) (t + 1) = head16 (chunk A k) t ++ [word4 x0 x1 x2 x3]) := by
    show _ = _
    have h1 := HP.out
    rw [head16_succ, chunk_getD _ _ _ (by omega), chunk_getD _ _ _ (by omega), chunk_getD _ _ _ (by omega), chunk_getD _ _ _ (by omega)]
    rw [show 64 * k + 4 * t = r by omega, show 64 * k + (4 * t + 1) = r + 1 by omega, show 64 * k + (4 * t + 2) = r + 2 by omega, show 64 * k + (4 * t + 3) = r + 3 by omega, hx0.1, hx1.1, hx2.1, hx3.1]
  have c0 := hx0.2
  have c1 := hx1.2
  have c2 := hx2.2
  have c3 := hx3.2
  have h64 : (t : Int) < 64 := by omega
  clear hx0 hx1 hx2 hx3 hr
  go_wp2
  clear he
  refine wp_region_still_tail 32 (by kernel_rfl) (by kernel_rfl) ?_
  simp only [List.take_succ_cons, List.take_zero, List.drop_succ_cons, List.drop_zero]
  change wpStill _ _ wr.drew (fun a' => wpList _ _ _ _ a' wr.drew) _ _
  have d0 : wr.drew.cell? ⟨ba, off + r, none⟩ = some (bv x0) := c0
  have d1 : wr.drew.cell? ⟨ba, off + (r + 1), none⟩ = some (bv x1) := c1
  have d2 : wr.drew.cell? ⟨ba, off + (r + 2), none⟩ = some (bv x2) := c2
  have d3 : wr.drew.cell? ⟨ba, off + (r + 3), none⟩ = some (bv x3) := c3
  have HD := Lib.hid HIN.out.drew
  have hszd : w3.heap.size ≤ wr.drew.heap.size := hsz
  clear c0 c1 c2 c3 HIN hsz
  generalize wr.drew = wd at *
  have hdf : wd.frozen? ⟨bw, t, none⟩ = false := frozen_of_row _ _ _ _ _ HD.out.words
  have hdw : wd.cell? ⟨bw, t, none⟩ = some (wv 0) := by
    rw [cell_of_row _ _ _ _ _ _ HD.out.words]
    exact row64_zero _ _ (by rw [head16_length]; exact Nat.le_refl _) (by omega)
  have i1 : IntKind.i64.wrap ((r : Int) + 1) = (r : Int) + 1 := IntWalk.i64_in _ (by omega)
  have i2 : IntKind.i64.wrap ((r : Int) + 2) = (r : Int) + 2 := IntWalk.i64_in _ (by omega)
  have i3 : IntKind.i64.wrap ((r : Int) + 3) = (r : Int) + 3 := IntWalk.i64_in _ (by omega)
  have j0 : (r : Int) < (A.length : Int) := by omega
  have j1 : (r : Int) + 1 < (A.length : Int) := by omega
  have j2 : (r : Int) + 2 < (A.length : Int) := by omega
  have j3 : (r : Int) + 3 < (A.length : Int) := by omega
  have k0 : r < A.length := by omega
  have k1 : 0 ≤ (r : Int) + 1 := by omega
  have k2 : 0 ≤ (r : Int) + 2 := by omega
  have k3 : 0 ≤ (r : Int) + 3 := by omega
  have l1 : ((r : Int) + 1).toNat = r + 1 := by omega
  have l2 : ((r : Int) + 2).toNat = r + 2 := by omega
  have l3 : ((r : Int) + 3).toNat = r + 3 := by omega
  repeat still_step
  refine wpStill_nil ?_
  clear i1 i2 i3 j0 j1 j2 j3 k0 k1 k2 k3 l1 l2 l3
  go_wp2
  go_roundw
  case rel =>
    refine ⟨t + 1, by omega, by go_num, ?_, ?_⟩
    · rw [word4_of', HXX.out]
      exact HD.out.put (head16_length _ _) (by omega) (by omega) (by omega) (by omega) (by omega)
    · simpa using hszd
  case measure => simp [intOf]; omega

end Go.Proofs.YtliojldkdmaofaaDoor
