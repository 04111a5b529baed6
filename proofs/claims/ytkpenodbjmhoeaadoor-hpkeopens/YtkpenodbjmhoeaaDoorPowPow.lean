/-
  power.Pow; the reference's Mul, Pow of layer 7.
-/
import Derived.Test.YtkpenodbjmhoeaaDoorPowMul
namespace Go.Proofs.YtkpenodbjmhoeaaDoor
set_option linter.unusedVariables false
set_option linter.unusedSimpArgs false
open Go.RowKit

theorem and1_u64 (m : Nat) (hm : m < 18446744073709551616) : bits .and .u64 (m : Int) 1 = ((m % 2 : Nat) : Int) := by
  have h := bits_and_u64_nat m 1 hm (by omega)
  rw [Nat.and_one_is_mod] at h
  exact h

theorem pow_end (a n k : Nat) (h : n / 2 ^ k = 0) : powP a (n % 2 ^ k) = powP a n := by
  have := Nat.div_add_mod n (2 ^ k)
  rw [h, Nat.mul_zero, Nat.zero_add] at this
  rw [this]

set_option maxRecDepth 100000 in
set_option maxHeartbeats 1000000 in
theorem powPow (w : World) (a n : Nat) (ha : a < 18446744073709551616) (hn : n < 18446744073709551616) :
    Calls Tryd.prog 51 #[.int .u64 (a : Int), .int .u64 (n : Int)] w fun e w' => e = .returned (.int .u64 (powP a n : Int)) ∧ New w w' := by
  go_enter Tryd.func51, Tryd.ntmps51
  go_wp2
  go_loopw [1, 5, 6] (fun v o s wr => ∃ k x : Nat, v = .int .u64 ((n / 2 ^ k : Nat) : Int) ∧ o = .int .u64 (powP a (n % 2 ^ k) : Int) ∧ s = .int .u64 (x : Int) ∧ x < 18446744073709551616 ∧ Hid (x % 2305843009213693951 = powP a (2 ^ k)) ∧ New w wr) (fun v _ _ _ => (intOf v).toNat)
  case atStart => exact ⟨0, a, by simp, by rw [Nat.pow_zero, Nat.mod_one]; rfl, rfl, ha, by show _ = _; unfold powP; rw [Nat.pow_zero, Nat.pow_one], Below.refl _ _⟩
  case round =>
    obtain ⟨k, x, rfl, rfl, rfl, hx, HX, NW⟩ := hrel
    have hm : n / 2 ^ k < 18446744073709551616 := Nat.lt_of_le_of_lt (Nat.div_le_self _ _) hn
    have hpl := powP_lt a (n % 2 ^ k)
    have HH := Lib.hid (half_step n k)
    by_cases h0 : n / 2 ^ k = 0
    · have HE := Lib.hid (pow_end a n k h0)
      rw [h0, show ((0 : Nat) : Int) = 0 from rfl]
      clear hpl
      generalize powP a (n % 2 ^ k) = r at HE ⊢
      go_wp2
      go_ret
      exact ⟨by rw [← HE.out]; rfl, NW⟩
    · have C2 : Hid (∀ wx, Calls Tryd.prog 71 #[.int .u64 (x : Int), .int .u64 (x : Int)] wx fun e w' => e = .returned (.int .u64 (mulP x x : Int)) ∧ New wx w') := Lib.hid (fun wx => powMul wx x x hx hx)
      have HX2 : Hid (mulP x x % 2305843009213693951 = powP a (2 ^ (k + 1))) := by
        show _ = _
        rw [Nat.mod_eq_of_lt (mulP_lt _ _), ← mulP_mod, HX.out, pow_sq]
      have hx2 := mulP_lt x x
      have ha1 := and1_u64 _ hm
      by_cases hbit : n / 2 ^ k % 2 = 1
      · have C1 : Hid (∀ wx, Calls Tryd.prog 71 #[.int .u64 (powP a (n % 2 ^ k) : Int), .int .u64 (x : Int)] wx fun e w' => e = .returned (.int .u64 (powP a (n % 2 ^ (k + 1)) : Int)) ∧ New wx w') := by
          refine Lib.hid fun wx => ?_
          have h := powMul wx (powP a (n % 2 ^ k)) x (by omega) hx
          rw [← mulP_mod_r, HX.out, pow_step1 a n k hbit] at h
          exact h
        rw [hbit] at ha1
        generalize mulP x x = y at *
        generalize powP a (n % 2 ^ k) = o at *
        generalize hq : powP a (n % 2 ^ (k + 1)) = o2 at *
        have HQ := Lib.hid hq
        clear hq
        generalize n / 2 ^ k = m at *
        clear hbit
        have hm0 : 0 < (m : Int) := by omega
        go_wp2_with fail
        refine (C1.out _).mono ?_
        rintro e w1 ⟨rfl, N1⟩
        go_wp2_with fail
        refine (C2.out _).mono ?_
        rintro e w2 ⟨rfl, N2⟩
        go_wp2
        go_roundw
        case rel => exact ⟨k + 1, y, by rw [← HH.out]; rfl, by rw [HQ.out], rfl, by omega, HX2, New.trans (New.trans NW N1) N2⟩
        case measure => simp [intOf]; omega
      · have hbit0 : n / 2 ^ k % 2 = 0 := by omega
        have HQ := Lib.hid (pow_step0 a n k hbit0)
        rw [hbit0] at ha1
        clear hbit
        generalize mulP x x = y at *
        generalize powP a (n % 2 ^ k) = o at *
        generalize n / 2 ^ k = m at *
        clear hbit0
        have hm0 : 0 < (m : Int) := by omega
        go_wp2_with fail
        refine (C2.out _).mono ?_
        rintro e w2 ⟨rfl, N2⟩
        go_wp2
        go_roundw
        case rel => exact ⟨k + 1, y, by rw [← HH.out]; rfl, by rw [← HQ.out], rfl, by omega, HX2, New.trans NW N2⟩
        case measure => simp [intOf]; omega

theorem mul_dbl (A k : Nat) : (A * 2 ^ k % 2305843009213693951 + A * 2 ^ k % 2305843009213693951) % 2305843009213693951 = A * 2 ^ (k + 1) % 2305843009213693951 := by
  rw [← Nat.add_mod, Nat.pow_succ, ← Nat.mul_assoc, Nat.mul_two]
theorem mul_step1 (A B k : Nat) (h : B / 2 ^ k % 2 = 1) : (A * (B % 2 ^ k) % 2305843009213693951 + A * 2 ^ k % 2305843009213693951) % 2305843009213693951 = A * (B % 2 ^ (k + 1)) % 2305843009213693951 := by
  rw [← Nat.add_mod, Nat.mod_pow_succ, h, Nat.mul_one, Nat.mul_add]
theorem mul_step0 (A B k : Nat) (h : B / 2 ^ k % 2 = 0) : A * (B % 2 ^ k) % 2305843009213693951 = A * (B % 2 ^ (k + 1)) % 2305843009213693951 := by
  rw [Nat.mod_pow_succ, h, Nat.mul_zero, Nat.add_zero]
theorem mul_end (A B k : Nat) (h : B / 2 ^ k = 0) : A * (B % 2 ^ k) % 2305843009213693951 = A * B % 2305843009213693951 := by
  have := Nat.div_add_mod B (2 ^ k)
  rw [h, Nat.mul_zero, Nat.zero_add] at this
  rw [this]

set_option maxRecDepth 100000 in
set_option maxHeartbeats 1000000 in
theorem refMul7 (w : World) (a b : Nat) (ha : a < 18446744073709551616) (hb : b < 18446744073709551616) :
    Calls Tryd.prog 64 #[.int .u64 (a : Int), .int .u64 (b : Int)] w fun e w' => e = .returned (.int .u64 (mulP a b : Int)) ∧ w = w' := by
  obtain ⟨A, HA⟩ : ∃ A : Nat, Hid (a % 2305843009213693951 = A) := ⟨_, Lib.hid rfl⟩
  obtain ⟨B, HB⟩ : ∃ B : Nat, Hid (b % 2305843009213693951 = B) := ⟨_, Lib.hid rfl⟩
  have hA : (a : Int) % 2305843009213693951 = (A : Int) := by have := HA.out; omega
  have hB : (b : Int) % 2305843009213693951 = (B : Int) := by have := HB.out; omega
  have HBl : Hid (B < 18446744073709551616) := by have := HB.out; show _ < _; omega
  have HAl : Hid (A < 2305843009213693951) := by have := HA.out; show _ < _; omega
  have HM : Hid (mulP a b = A * B % 2305843009213693951) := by show _ = _; rw [← HA.out, ← HB.out]; exact (mulP_mod a b).symm
  go_enter Tryd.func64, Tryd.ntmps64
  go_wp2
  have HA2 := Lib.hid hA
  have HB2 := Lib.hid hB
  clear hA hB
  go_loop [0, 1, 5] (fun x v s => ∃ k y z : Nat, v = .int .u64 ((B / 2 ^ k : Nat) : Int) ∧ x = .int .u64 (y : Int) ∧ s = .int .u64 (z : Int) ∧ Hid (A * 2 ^ k % 2305843009213693951 = y) ∧ Hid (A * (B % 2 ^ k) % 2305843009213693951 = z)) (fun _ v _ => (intOf v).toNat)
  case atStart => exact ⟨0, A, 0, by rw [HB2.out, Nat.pow_zero, Nat.div_one], by rw [HA2.out], rfl, by show _ = _; rw [Nat.pow_zero, Nat.mul_one]; exact Nat.mod_eq_of_lt HAl.out, by show _ = _; rw [Nat.pow_zero, Nat.mod_one]; rfl⟩
  case round =>
    obtain ⟨k, y, z, rfl, rfl, rfl, HY, HZ⟩ := hrel
    have hy : y < 2305843009213693951 := by have := HY.out; omega
    have hz : z < 2305843009213693951 := by have := HZ.out; omega
    have hm : B / 2 ^ k < 18446744073709551616 := Nat.lt_of_le_of_lt (Nat.div_le_self _ _) HBl.out
    have HH := Lib.hid (half_step B k)
    by_cases h0 : B / 2 ^ k = 0
    · have HE : Hid (z = mulP a b) := by show _ = _; rw [HM.out, ← HZ.out, mul_end A B k h0]
      rw [h0, show ((0 : Nat) : Int) = 0 from rfl]
      go_wp2
      go_ret
      exact ⟨by rw [← HE.out]; rfl, rfl⟩
    · have HD : Hid (A * 2 ^ (k + 1) % 2305843009213693951 = (y + y) % 2305843009213693951) := by show _ = _; rw [← mul_dbl, HY.out]
      obtain ⟨y2, Hy2⟩ : ∃ y2 : Nat, Hid ((y + y) % 2305843009213693951 = y2) := ⟨_, Lib.hid rfl⟩
      have hyy : Hid (((y : Int) + (y : Int)) % 2305843009213693951 = (y2 : Int)) := by have := Hy2.out; show _ = _; omega
      by_cases hbit : B / 2 ^ k % 2 = 1
      · have HS : Hid (A * (B % 2 ^ (k + 1)) % 2305843009213693951 = (z + y) % 2305843009213693951) := by show _ = _; rw [← mul_step1 A B k hbit, HZ.out, HY.out]
        obtain ⟨z2, Hz2⟩ : ∃ z2 : Nat, Hid ((z + y) % 2305843009213693951 = z2) := ⟨_, Lib.hid rfl⟩
        have hzy : Hid (((z : Int) + (y : Int)) % 2305843009213693951 = (z2 : Int)) := by have := Hz2.out; show _ = _; omega
        generalize B / 2 ^ k = m at *
        have hm0 : 0 < (m : Int) := by omega
        have hm1 : (m : Int) % 2 = 1 := by omega
        go_wp2
        go_round
        case rel => exact ⟨k + 1, y2, z2, by rw [← HH.out]; rfl, by rw [hyy.out], by rw [hzy.out], by show _ = _; rw [HD.out, Hy2.out], by show _ = _; rw [HS.out, Hz2.out]⟩
        case measure => simp [intOf]; omega
      · have hbit0 : B / 2 ^ k % 2 = 0 := by omega
        have HS : Hid (A * (B % 2 ^ (k + 1)) % 2305843009213693951 = z) := by show _ = _; rw [← mul_step0 A B k hbit0, HZ.out]
        generalize B / 2 ^ k = m at *
        have hm0 : 0 < (m : Int) := by omega
        have hm1 : (m : Int) % 2 = 0 := by omega
        go_wp2
        go_round
        case rel => exact ⟨k + 1, y2, z, by rw [← HH.out]; rfl, by rw [hyy.out], rfl, by show _ = _; rw [HD.out, Hy2.out], HS⟩
        case measure => simp [intOf]; omega

set_option maxRecDepth 100000 in
set_option maxHeartbeats 1000000 in
theorem refPow7 (w : World) (a n : Nat) (ha : a < 18446744073709551616) (hn : n < 18446744073709551616) :
    Calls Tryd.prog 38 #[.int .u64 (a : Int), .int .u64 (n : Int)] w fun e w' => e = .returned (.int .u64 (powP a n : Int)) ∧ w = w' := by
  have HA2 : Hid ((a : Int) % 2305843009213693951 = (powP a (2 ^ 0) : Int)) := by show _ = _; unfold powP; rw [Nat.pow_zero, Nat.pow_one]; omega
  go_enter Tryd.func38, Tryd.ntmps38
  go_wp2
  go_loop [0, 1, 5] (fun x v o => ∃ k : Nat, v = .int .u64 ((n / 2 ^ k : Nat) : Int) ∧ o = .int .u64 (powP a (n % 2 ^ k) : Int) ∧ x = .int .u64 (powP a (2 ^ k) : Int)) (fun _ v _ => (intOf v).toNat)
  case atStart => exact ⟨0, by simp, by rw [Nat.pow_zero, Nat.mod_one]; rfl, by rw [HA2.out]⟩
  case round =>
    clear HA2
    obtain ⟨k, rfl, rfl, rfl⟩ := hrel
    have hm : n / 2 ^ k < 18446744073709551616 := Nat.lt_of_le_of_lt (Nat.div_le_self _ _) hn
    have hpl := powP_lt a (n % 2 ^ k)
    have hxl := powP_lt a (2 ^ k)
    have HH := Lib.hid (half_step n k)
    by_cases h0 : n / 2 ^ k = 0
    · have HE := Lib.hid (pow_end a n k h0)
      rw [h0, show ((0 : Nat) : Int) = 0 from rfl]
      clear hpl hxl
      generalize powP a (n % 2 ^ k) = r at HE ⊢
      generalize powP a (2 ^ k) = x at *
      go_wp2
      go_ret
      exact ⟨by rw [← HE.out]; rfl, rfl⟩
    · have C2 : Hid (∀ wx, Calls Tryd.prog 64 #[.int .u64 (powP a (2 ^ k) : Int), .int .u64 (powP a (2 ^ k) : Int)] wx fun e w' => e = .returned (.int .u64 (powP a (2 ^ (k + 1)) : Int)) ∧ wx = w') := by
        refine Lib.hid fun wx => ?_
        have h := refMul7 wx (powP a (2 ^ k)) (powP a (2 ^ k)) (by omega) (by omega)
        rw [pow_sq] at h
        exact h
      by_cases hbit : n / 2 ^ k % 2 = 1
      · have C1 : Hid (∀ wx, Calls Tryd.prog 64 #[.int .u64 (powP a (n % 2 ^ k) : Int), .int .u64 (powP a (2 ^ k) : Int)] wx fun e w' => e = .returned (.int .u64 (powP a (n % 2 ^ (k + 1)) : Int)) ∧ wx = w') := by
          refine Lib.hid fun wx => ?_
          have h := refMul7 wx (powP a (n % 2 ^ k)) (powP a (2 ^ k)) (by omega) (by omega)
          rw [pow_step1 a n k hbit] at h
          exact h
        obtain ⟨o2, HQ⟩ : ∃ o2, Hid (powP a (n % 2 ^ (k + 1)) = o2) := ⟨_, Lib.hid rfl⟩
        obtain ⟨x2, HX⟩ : ∃ x2, Hid (powP a (2 ^ (k + 1)) = x2) := ⟨_, Lib.hid rfl⟩
        rw [HQ.out] at C1
        rw [HX.out] at C2
        generalize powP a (n % 2 ^ k) = o at *
        generalize powP a (2 ^ k) = x at *
        generalize n / 2 ^ k = m at *
        have hm0 : 0 < (m : Int) := by omega
        have hm1 : (m : Int) % 2 = 1 := by omega
        go_wp2_with fail
        refine (C1.out _).mono ?_
        rintro e w1 ⟨rfl, rfl⟩
        go_wp2_with fail
        refine (C2.out _).mono ?_
        rintro e w1 ⟨rfl, rfl⟩
        go_wp2
        go_round
        case rel => exact ⟨k + 1, by rw [← HH.out]; rfl, by rw [HQ.out], by rw [HX.out]⟩
        case measure => simp [intOf]; omega
      · have hbit0 : n / 2 ^ k % 2 = 0 := by omega
        have HQ := Lib.hid (pow_step0 a n k hbit0)
        obtain ⟨x2, HX⟩ : ∃ x2, Hid (powP a (2 ^ (k + 1)) = x2) := ⟨_, Lib.hid rfl⟩
        rw [HX.out] at C2
        generalize powP a (n % 2 ^ k) = o at *
        generalize powP a (2 ^ k) = x at *
        generalize n / 2 ^ k = m at *
        have hm0 : 0 < (m : Int) := by omega
        have hm1 : (m : Int) % 2 = 0 := by omega
        go_wp2_with fail
        refine (C2.out _).mono ?_
        rintro e w1 ⟨rfl, rfl⟩
        go_wp2
        go_round
        case rel => exact ⟨k + 1, by rw [← HH.out]; rfl, by rw [← HQ.out], by rw [HX.out]⟩
        case measure => simp [intOf]; omega

end Go.Proofs.YtkpenodbjmhoeaaDoor
