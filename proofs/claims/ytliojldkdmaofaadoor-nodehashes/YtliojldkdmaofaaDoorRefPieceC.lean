/-
  The reference's Sum, one round: a round of the compression.
-/
import Derived.Test.YtliojldkdmaofaaDoorRefCut
namespace Go.Proofs.YtliojldkdmaofaaDoor
set_option linter.unusedVariables false
set_option linter.unusedSimpArgs false
open Go.RowKit

attribute [local go_sem] u32_bxor u32_band u32_bnot u32_add u32_add' shr3_of shr10_of

set_option maxRecDepth 100000 in
set_option maxHeartbeats 20000000 in
theorem refPieceC : refCut.2.2.1 := by
  conv => whnf
  unhygienic intros
  rename World => wr
  obtain ⟨bvv, cv, rfl, hcv0, hcv1, hcv2, hvc⟩ := hv
  have HRR : Hid ((hashTo A k).rounds (ext (chunk A k) 48) (t + 1) = ((hashTo A k).rounds (ext (chunk A k) 48) t).rnd (kTab.getD t 0) ((ext (chunk A k) 48).getD t 0)) := rfl
  obtain ⟨xw, hxw⟩ := HIN.out.word (i := t) (by rw [ext_length]; omega)
  have hkc : wr.cell? ⟨w.heap.size + 1, t, none⟩ = some (wv (kTab.getD t 0)) := by
    rw [cell_of_row _ _ _ _ _ _ HIN.out.ref.kt, List.getElem?_toArray, List.getElem?_map, List.getD_eq_getElem?_getD, List.getElem?_eq_getElem (by show t < 64; omega)]; rfl
  have hwc := hxw.2
  rw [hxw.1] at HRR
  clear hxw
  obtain ⟨r, HR⟩ : ∃ r, Hid ((hashTo A k).rounds (ext (chunk A k) 48) t = r) := ⟨_, Lib.hid rfl⟩
  rw [HR.out] at hvc HRR
  generalize kTab.getD t 0 = kt at hkc HRR
  have e0 := hvc 0 r.a rfl
  have e1 := hvc 1 r.b rfl
  have e2 := hvc 2 r.c rfl
  have e3 := hvc 3 r.d rfl
  have e4 := hvc 4 r.e rfl
  have e5 := hvc 5 r.f rfl
  have e6 := hvc 6 r.g rfl
  have e7 := hvc 7 r.h rfl
  clear hvc hcv2
  have h64 : (t : Int) < 64 := by omega
  go_wp2_with fail
  go_quiet ((go_at_call 45; exact Calls.quiet_of (refRightI _ _ _ (by decide) (by decide))))
  go_wp2_with fail
  have f0 : (wr.drewN nq).cell? ⟨bvv, 0, none⟩ = some (wv r.a) := e0
  have f1 : (wr.drewN nq).cell? ⟨bvv, 1, none⟩ = some (wv r.b) := e1
  have f2 : (wr.drewN nq).cell? ⟨bvv, 2, none⟩ = some (wv r.c) := e2
  have f3 : (wr.drewN nq).cell? ⟨bvv, 3, none⟩ = some (wv r.d) := e3
  have f4 : (wr.drewN nq).cell? ⟨bvv, 4, none⟩ = some (wv r.e) := e4
  have f5 : (wr.drewN nq).cell? ⟨bvv, 5, none⟩ = some (wv r.f) := e5
  have f6 : (wr.drewN nq).cell? ⟨bvv, 6, none⟩ = some (wv r.g) := e6
  have f7 : (wr.drewN nq).cell? ⟨bvv, 7, none⟩ = some (wv r.h) := e7
  have HIQ := Lib.hid (HIN.out.drewN nq)
  have hszq : w3.heap.size ≤ (wr.drewN nq).heap.size := hsz
  clear e0 e1 e2 e3 e4 e5 e6 e7 hkc hwc HIN hsz
  generalize wr.drewN nq = wq at *
  go_quiet ((go_at_call 45; exact Calls.quiet_of (refRightI _ _ _ (by decide) (by decide))))
  go_wp2_with fail
  refine wp_region_still_tail 26 (by kernel_rfl) (by kernel_rfl) ?_
  simp only [List.take_succ_cons, List.take_zero, List.drop_succ_cons, List.drop_zero]
  change wpStill _ _ (wq.drewN nq).drew (fun a' => wpList _ _ _ _ a' (wq.drewN nq).drew) _ _
  have g0 : (wq.drewN nq).drew.cell? ⟨bvv, 0, none⟩ = some (wv r.a) := f0
  have g1 : (wq.drewN nq).drew.cell? ⟨bvv, 1, none⟩ = some (wv r.b) := f1
  have g2 : (wq.drewN nq).drew.cell? ⟨bvv, 2, none⟩ = some (wv r.c) := f2
  have g3 : (wq.drewN nq).drew.cell? ⟨bvv, 3, none⟩ = some (wv r.d) := f3
  have g4 : (wq.drewN nq).drew.cell? ⟨bvv, 4, none⟩ = some (wv r.e) := f4
  have g5 : (wq.drewN nq).drew.cell? ⟨bvv, 5, none⟩ = some (wv r.f) := f5
  have g6 : (wq.drewN nq).drew.cell? ⟨bvv, 6, none⟩ = some (wv r.g) := f6
  have g7 : (wq.drewN nq).drew.cell? ⟨bvv, 7, none⟩ = some (wv r.h) := f7
  have HID := Lib.hid (HIQ.out.drewN nq).drew
  have hszd : w3.heap.size ≤ (wq.drewN nq).drew.heap.size := hszq
  clear f0 f1 f2 f3 f4 f5 f6 f7 HIQ hszq
  generalize (wq.drewN nq).drew = wd at *
  repeat still_step
  refine wpStill_nil ?_
  go_wp2
  go_roundw
  case rel =>
    refine ⟨t + 1, by omega, by go_num, ?_, ?_, ?_⟩
    · rw [HRR.out]
      exact (V8.made wd _).mono hszd
    · exact ⟨HID.out.ref.of_new ((Below.refl _ _).alloc (Nat.le_refl _) _), (heap_old _ _ _ (lt_of_block HID.out.words)).trans HID.out.words⟩
    · simp; omega
  case measure => simp [intOf]; omega

end Go.Proofs.YtliojldkdmaofaaDoor
