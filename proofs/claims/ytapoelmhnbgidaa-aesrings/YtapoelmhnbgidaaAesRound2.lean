/-
  aes: mixed, next.
-/
import Derived.Test.YtapoelmhnbgidaaAesRound
namespace Go.Proofs.Ytapoelmhnbgidaa
set_option linter.unusedVariables false
set_option linter.unusedSimpArgs false
open Go.RowKit

attribute [local go_sem] u8_bxor

theorem arr16 : Try.prog.underlying 22 = some (.array (Try.prog.arrayLen 22) (Try.prog.elem 22)) := by kernel_rfl
theorem arr16_len : Try.prog.arrayLen 22 = 16 := by kernel_rfl
theorem arr16_size (w : World) : (sizeOf (Try.prog.elem 22)).run Try.prog w = .ok 1 w := by kernel_rfl

/-- block[l:h] of an array behind a pointer -/
theorem run_slice16 (wx : World) (p l h : Nat) (hl : l ≤ h) (hh : h ≤ 16) (hl' : l < 16) :
    (Instr.sliceAt 22 (.pointer (some ⟨p, 0, none⟩)) (some (.int .i64 (l : Int))) (some (.int .i64 (h : Int))) none).run Try.prog wx = .ok (.slice (some ⟨p, l, none⟩) (h - l) (16 - l)) wx := by
  rw [run_sliceAt_array_lh wx _ _ arr16 .i64 .i64 _ _ (by omega) (by omega) (by rw [arr16_len]; omega), arr16_size, arr16_len]
  simp only [Result.andThen_ok, slicedAt, Int.toNat_natCast, Nat.mul_one]
  rw [if_neg (by omega), Addr.add_lit, Nat.zero_add]

set_option maxRecDepth 100000 in
set_option maxHeartbeats 1000000 in
theorem aesMixed (w : World) (b : List UInt8) (hb : b.length = 16) :
    Calls Try.prog 21 #[.agg (b.map bv).toArray] w fun e w' => e = .returned (.agg ((mixB b).map bv).toArray) ∧ New w w' := by
  have HB := Lib.hid hb
  clear hb
  go_enter Try.func21, Try.ntmps21
  go_wp2
  go_loopw [11] (fun i wr => ∃ j : Nat, j ≤ 16 ∧ i = .int .i64 j ∧ In3 w b 22 zeros16 22 (fillTo (mixAt b) zeros16 j) 22 wr) (fun i _ => 16 - (intOf i).toNat)
  case atStart => exact ⟨0, by omega, rfl, In3.made _ _ _ _ _ _ _⟩
  case round =>
    obtain ⟨j, hj, rfl, hin⟩ := hrel
    by_cases hlt : j < 16
    · obtain ⟨r, Hr⟩ : ∃ r, Hid (j % 4 = r) := ⟨_, Lib.hid rfl⟩
      have hr : (j : Int) % 4 = (r : Int) := by rw [← Hr.out]; omega
      have hr4 : r < 4 := by rw [← Hr.out]; omega
      obtain ⟨q, Hq⟩ : ∃ q, Hid (j - r = q) := ⟨_, Lib.hid rfl⟩
      have hrj : r ≤ j := by rw [← Hr.out]; omega
      have hq12 : q ≤ 12 := by have := Hr.out; have := Hq.out; omega
      have hq : (j : Int) - (r : Int) = (q : Int) := by rw [← Hq.out]; omega
      obtain ⟨r1, Hr1⟩ : ∃ m, Hid ((r + 1) % 4 = m) := ⟨_, Lib.hid rfl⟩
      obtain ⟨r2, Hr2⟩ : ∃ m, Hid ((r + 2) % 4 = m) := ⟨_, Lib.hid rfl⟩
      obtain ⟨r3, Hr3⟩ : ∃ m, Hid ((r + 3) % 4 = m) := ⟨_, Lib.hid rfl⟩
      have e1 : ((r : Int) + 1) % 4 = (r1 : Int) := by rw [← Hr1.out]; omega
      have e2 : ((r : Int) + 2) % 4 = (r2 : Int) := by rw [← Hr2.out]; omega
      have e3 : ((r : Int) + 3) % 4 = (r3 : Int) := by rw [← Hr3.out]; omega
      have l1 : r1 < 4 := by rw [← Hr1.out]; exact Nat.mod_lt _ (by decide)
      have l2 : r2 < 4 := by rw [← Hr2.out]; exact Nat.mod_lt _ (by decide)
      have l3 : r3 < 4 := by rw [← Hr3.out]; exact Nat.mod_lt _ (by decide)
      have hsl := fun wx => run_slice16 wx w.heap.size q (q + 4) (by omega) (by omega) (by omega)
      rw [show ((q + 4 : Nat) : Int) = (q : Int) + 4 by omega, show q + 4 - q = 4 by omega] at hsl
      have hc0 := byte_cell (i := q + r) hin.a (by rw [HB.out]; omega)
      have hc1 := byte_cell (i := q + r1) hin.a (by rw [HB.out]; omega)
      have hc2 := byte_cell (i := q + r2) hin.a (by rw [HB.out]; omega)
      have hc3 := byte_cell (i := q + r3) hin.a (by rw [HB.out]; omega)
      have HIN := Lib.hid hin
      have h16 : (j : Int) < 16 := by omega
      have HM : Hid (mixAt b j = mix4 (b.getD (q + r) 0) (b.getD (q + r1) 0) (b.getD (q + r2) 0) (b.getD (q + r3) 0)) := by
        show _ = _; unfold mixAt; rw [Hr.out, Hq.out, Hr1.out, Hr2.out, Hr3.out]
      generalize b.getD (q + r) 0 = x0 at hc0 HM
      generalize b.getD (q + r1) 0 = x1 at hc1 HM
      generalize b.getD (q + r2) 0 = x2 at hc2 HM
      generalize b.getD (q + r3) 0 = x3 at hc3 HM
      clear hin
      go_wp2
      go_quiet (fail)
      go_upto_region 8 with fail
      generalize hwn : World.drewN wr _ = wn
      have hin : In3 w b 22 zeros16 22 (fillTo (mixAt b) zeros16 j) 22 wn := by rw [← hwn]; exact HIN.out.drewN _
      clear hwn HIN hc0 hc1 hc2 hc3 hsl e1 e2 e3 l1 l2 l3
      have hcz := byte_cell (i := j) hin.c (by rw [fillTo_length]; exact hlt)
      have hf := frozen_of_row _ _ j _ _ hin.c
      generalize List.getD (fillTo _ zeros16 j) j 0 = z at hcz
      have HP := Lib.hid (hin.setC j (mix4 x0 x1 x2 x3))
      clear hin
      go_wp2_with (go_at_call 23; refine (aesDoubled _ _).mono ?_; rintro e w' ⟨rfl, rfl⟩)
      go_roundw
      case rel =>
        refine ⟨j + 1, by omega, by go_num, ?_⟩
        rw [fillTo, HM.out]
        exact HP.out
      case measure => simp [intOf]; omega
    · obtain rfl : j = 16 := by omega
      rw [show ((16 : Nat) : Int) = 16 from rfl]
      have HL := Lib.hid (mixB_length b)
      change In3 w _ _ _ _ (mixB b) _ _ at hin
      obtain ⟨R, HR⟩ : ∃ R, Hid (mixB b = R) := ⟨_, Lib.hid rfl⟩
      rw [HR.out] at hin HL
      have hlen : (R.map bv).toArray.size = 16 := by rw [List.size_toArray, List.length_map, HL.out]
      have HI := Lib.hid hin
      clear hin
      go_upto_region 10 with fail
      refine wp_region_lit ?_
      refine wpList_load_row rfl 22 _ rfl (w.heap.size + 1 + 1) rfl _ _ _ _ HI.out.c Try.underlying22 rfl (by rw [hlen]; kernel_rfl) ?_
      refine wpList_store_row rfl 22 _ _ rfl (w.heap.size + 1) (R.map bv).toArray rfl rfl _ _ HI.out.b (by rw [hlen]; kernel_rfl) (by rw [hlen]; rfl) (allOneB _) ?_
      go_wp2
      refine bodyPost_ret (v := .agg (R.map bv).toArray) (results_cell_row rfl _ _ (w.heap.size + 1) _ _ _ _ rfl (setRow_heap _ _ _ _ _ _ HI.out.b) Try.underlying22 rfl (by rw [hlen]; kernel_rfl)) rfl ⟨by rw [HR.out], ?_⟩
      exact below_setRow HI.out.new (by show w.heap.size ≤ w.heap.size + 1; omega) _

set_option maxRecDepth 100000 in
set_option maxHeartbeats 1000000 in
theorem aesNext (w : World) (k : List UInt8) (p : UInt8) (hk : k.length = 16) :
    Calls Try.prog 22 #[.agg (k.map bv).toArray, bv p, .agg (boxTab.map bv).toArray] w fun e w' => e = .returned (.agg ((nextK k p).map bv).toArray) ∧ New w w' := by
  have HK := Lib.hid hk
  clear hk
  have HT : Hid (∀ x : UInt8, boxTab.getD x.toNat 0 = gbox x) := Lib.hid (fun _ => rfl)
  have HTL := Lib.hid boxTab_length
  generalize boxTab = T at HT HTL ⊢
  go_enter Try.func22, Try.ntmps22
  go_upto_region 1 with fail
  generalize hw1 : World.alloc (World.alloc (World.alloc w _) _) _ = w1
  have hin : In3 w k 22 T 39 zeros16 22 w1 := by rw [← hw1]; exact In3.made _ _ _ _ _ _ _
  clear hw1
  have hc0 := byte_cell (i := 0) hin.a (by rw [HK.out]; decide)
  have hf0 := frozen_of_row _ _ 0 _ _ hin.a
  have HA : Hid (In3 w (keyA k p) 22 T 39 zeros16 22 (w1.setCell ⟨w.heap.size, 0, none⟩ (bv (bxor (k.getD 0 0) p)))) := Lib.hid (hin.setA 0 _)
  have HKA : Hid ((keyA k p).length = 16) := by show _ = _; unfold keyA; rw [List.length_set, HK.out]
  have HE : Hid (nextK k p = keyC (keyB (keyA k p) 4) 12) := Lib.hid rfl
  generalize keyA k p = A at HA HKA HE
  generalize k.getD 0 0 = x0 at hc0 HA
  clear hin
  go_wp2
  go_loopw [14] (fun i wr => ∃ j : Nat, j ≤ 4 ∧ i = .int .i64 j ∧ In3 w (keyB A j) 22 T 39 zeros16 22 wr) (fun i _ => 4 - (intOf i).toNat)
  case atStart => exact ⟨0, by omega, rfl, HA.out⟩
  case round =>
    clear HA hc0 hf0
    obtain ⟨j, hj, rfl, hin⟩ := hrel
    by_cases hlt : j < 4
    · have hd := hin.drew
      obtain ⟨r, Hr⟩ : ∃ m, Hid ((j + 1) % 4 = m) := ⟨_, Lib.hid rfl⟩
      have e1 : ((j : Int) + 1).tmod 4 = (r : Int) := by rw [Int.tmod_eq_emod_of_nonneg (by omega), ← Hr.out]; omega
      have l1 : r < 4 := by rw [← Hr.out]; exact Nat.mod_lt _ (by decide)
      have hc1 := byte_cell (i := j) hd.a (by rw [keyB_length, HKA.out]; omega)
      have hc2 := byte_cell (i := 12 + r) hd.a (by rw [keyB_length, HKA.out]; omega)
      unfold keyB at hc1 hc2
      rw [fillTo_ge _ _ _ _ (Nat.le_refl _)] at hc1
      rw [fillTo_ge _ _ _ _ (by omega)] at hc2
      obtain ⟨x, HX⟩ : ∃ x, Hid (A.getD j 0 = x) := ⟨_, Lib.hid rfl⟩
      obtain ⟨y, HY⟩ : ∃ y, Hid (A.getD (12 + r) 0 = y) := ⟨_, Lib.hid rfl⟩
      rw [HX.out] at hc1
      rw [HY.out] at hc2
      have hy := u8_lt y
      have hc3 := byte_cell (i := y.toNat) hd.b (by rw [HTL.out]; exact hy)
      rw [HT.out] at hc3
      obtain ⟨z, HZ⟩ : ∃ z, Hid (gbox y = z) := ⟨_, Lib.hid rfl⟩
      rw [HZ.out] at hc3
      have hf := frozen_of_row _ _ j _ _ hd.a
      have HP := Lib.hid (hd.setA j (bxor x z))
      have h16 : (j : Int) < 16 := by omega
      have h4 : (j : Int) < 4 := by omega
      have hr16 : 12 + (r : Int) < 16 := by omega
      have hy16 : (y.toNat : Int) < 256 := by omega
      have hrn : (12 + (r : Int)).toNat = 12 + r := by omega
      have hr0 : 0 ≤ 12 + (r : Int) := by omega
      have w1' : IntKind.i64.wrap ((j : Int) + 1) = (j : Int) + 1 := IntWalk.i64_in _ (by omega)
      have w2' : IntKind.i64.wrap (12 + (r : Int)) = 12 + (r : Int) := IntWalk.i64_in _ (by omega)
      have hj0 : 0 ≤ (j : Int) + 1 := by omega
      clear hin hd
      go_wp2
      refine wp_region_still_tail 13 (by kernel_rfl) (by kernel_rfl) ?_
      simp only [List.take_succ_cons, List.take_zero, List.drop_succ_cons, List.drop_zero]
      change wpStill _ _ wr.drew (fun a' => wpList _ _ _ _ a' wr.drew) _ _
      generalize wr.drew = wd at *
      repeat still_step
      refine wpStill_nil ?_
      clear e1 w1' w2' hj0 hr0 hrn
      go_wp2
      go_roundw
      case rel =>
        refine ⟨j + 1, by omega, by go_num, ?_⟩
        rw [show keyB A (j + 1) = (keyB A j).set j (bxor (A.getD j 0) (gbox (A.getD (12 + (j + 1) % 4) 0))) from rfl, Hr.out, HX.out, HY.out, HZ.out]
        exact HP.out
      case measure => simp [intOf]; omega
    · obtain rfl : j = 4 := by omega
      rw [show ((4 : Nat) : Int) = 4 from rfl]
      have HB0 : Hid ((keyB A 4).length = 16) := by show _ = _; rw [keyB_length, HKA.out]
      generalize keyB A 4 = B at *
      go_wp2
      go_loopw [8] (fun i wr => ∃ j : Nat, j ≤ 12 ∧ i = .int .i64 ((j + 4 : Nat) : Int) ∧ In3 w (keyC B j) 22 T 39 zeros16 22 wr) (fun i _ => 16 - (intOf i).toNat)
      case atStart => exact ⟨0, by omega, rfl, hin⟩
      case round =>
        clear hin
        obtain ⟨j, hj, rfl, hin⟩ := hrel
        by_cases hlt : j < 12
        · have hd := hin.drew
          have hc1 := byte_cell (i := j + 4) hd.a (by rw [keyC_length, HB0.out]; omega)
          have hc2 := byte_cell (i := j) hd.a (by rw [keyC_length, HB0.out]; omega)
          have hf := frozen_of_row _ _ (j + 4) _ _ hd.a
          have HP := Lib.hid (hd.setA (j + 4) (bxor ((keyC B j).getD (j + 4) 0) ((keyC B j).getD j 0)))
          have HS : Hid (keyC B (j + 1) = (keyC B j).set (j + 4) (bxor ((keyC B j).getD (j + 4) 0) ((keyC B j).getD j 0))) := Lib.hid rfl
          generalize (keyC B j).getD (j + 4) 0 = x at hc1 HP HS
          generalize (keyC B j).getD j 0 = y at hc2 HP HS
          obtain ⟨m, Hm⟩ : ∃ m, Hid (j + 4 = m) := ⟨_, Lib.hid rfl⟩
          have hm : (m : Int) - 4 = (j : Int) := by rw [← Hm.out]; omega
          rw [Hm.out] at hc1 hf HP HS ⊢
          have h16 : (m : Int) < 16 := by rw [← Hm.out]; omega
          have hm4 : 4 ≤ m := by rw [← Hm.out]; omega
          have hj16 : (j : Int) < 16 := by omega
          have w1' : IntKind.i64.wrap ((m : Int) - 4) = (j : Int) := by rw [hm]; exact IntWalk.i64_in _ (by omega)
          have w2' : IntKind.i64.wrap (j : Int) = (j : Int) := IntWalk.i64_in _ (by omega)
          have h4m : (4 : Int) ≤ m := by omega
          have hmt : ((m : Int) - 4).toNat = j := by omega
          clear hin hd
          go_wp2
          refine wp_region_still_tail 9 (by kernel_rfl) (by kernel_rfl) ?_
          simp only [List.take_succ_cons, List.take_zero, List.drop_succ_cons, List.drop_zero]
          change wpStill _ _ wr.drew (fun a' => wpList _ _ _ _ a' wr.drew) _ _
          generalize wr.drew = wd at *
          repeat still_step
          refine wpStill_nil ?_
          clear w1' w2' hm hmt
          go_wp2
          go_roundw
          case rel =>
            refine ⟨j + 1, by omega, by rw [← Hm.out]; go_num, ?_⟩
            rw [HS.out]
            exact HP.out
          case measure => simp [intOf]; omega
        · obtain rfl : j = 12 := by omega
          rw [show ((12 + 4 : Nat) : Int) = 16 from rfl]
          have HL : Hid ((keyC B 12).length = 16) := by show _ = _; rw [keyC_length, HB0.out]
          generalize keyC B 12 = R at *
          have hlen : (R.map bv).toArray.size = 16 := by rw [List.size_toArray, List.length_map, HL.out]
          have HI := Lib.hid hin
          clear hin
          go_upto_region 11 with fail
          refine wp_region_lit ?_
          refine wpList_load_row rfl 22 _ rfl w.heap.size rfl _ _ _ _ HI.out.a Try.underlying22 rfl (by rw [hlen]; kernel_rfl) ?_
          refine wpList_store_row rfl 22 _ _ rfl (w.heap.size + 1 + 1) (R.map bv).toArray rfl rfl _ _ HI.out.c (by rw [hlen]; kernel_rfl) (by rw [hlen]; rfl) (allOneB _) ?_
          go_wp2
          refine bodyPost_ret (v := .agg (R.map bv).toArray) (results_cell_row rfl _ _ (w.heap.size + 1 + 1) _ _ _ _ rfl (setRow_heap _ _ _ _ _ _ HI.out.c) Try.underlying22 rfl (by rw [hlen]; kernel_rfl)) rfl ⟨by rw [HE.out], ?_⟩
          exact below_setRow HI.out.new (by show w.heap.size ≤ w.heap.size + 1 + 1; omega) _

end Go.Proofs.Ytapoelmhnbgidaa
