/-
  power.Mul, Pow, Public: products and powers modulo 2^61 - 1.
-/
import Derived.Test.YtkpenodbjmhoeaaDoorBitsDiv
namespace Go.Proofs.YtkpenodbjmhoeaaDoor
set_option linter.unusedVariables false
set_option linter.unusedSimpArgs false
open Go.RowKit

/-- a product -/
def mulP (a b : Nat) : Nat := a * b % 2305843009213693951
/-- a power -/
def powP (a n : Nat) : Nat := a ^ n % 2305843009213693951

theorem mulP_lt (a b : Nat) : mulP a b < 2305843009213693951 := Nat.mod_lt _ (by decide)
theorem powP_lt (a n : Nat) : powP a n < 2305843009213693951 := Nat.mod_lt _ (by decide)
theorem mulP_comm (a b : Nat) : mulP a b = mulP b a := by unfold mulP; rw [Nat.mul_comm]
theorem mulP_mod (a b : Nat) : mulP (a % 2305843009213693951) (b % 2305843009213693951) = mulP a b := by unfold mulP; rw [← Nat.mul_mod]
theorem mulP_mod_l (a b : Nat) : mulP (a % 2305843009213693951) b = mulP a b := by unfold mulP; rw [Nat.mod_mul_mod]
theorem mulP_mod_r (a b : Nat) : mulP a (b % 2305843009213693951) = mulP a b := by rw [mulP_comm, mulP_mod_l, mulP_comm]
theorem powP_add (a n m : Nat) : mulP (powP a n) (powP a m) = powP a (n + m) := by unfold powP; rw [mulP_mod, Nat.pow_add]; rfl
theorem powP_mod (a n : Nat) : powP (a % 2305843009213693951) n = powP a n := by unfold powP; rw [← Nat.pow_mod]
theorem powP_mul (a n m : Nat) : powP (powP a n) m = powP a (n * m) := by
  show powP (a ^ n % 2305843009213693951) m = _
  rw [powP_mod]; unfold powP; rw [← Nat.pow_mul]
theorem powP_0 (a : Nat) : powP a 0 = 1 := rfl
theorem mulP_pow (s x : Nat) : mulP (s % 2305843009213693951) (x % 2305843009213693951) = s * x % 2305843009213693951 := mulP_mod s x

theorem rem_mod (hi lo : Nat) : (hi % 2305843009213693951 * 18446744073709551616 + lo) % 2305843009213693951 = (hi * 18446744073709551616 + lo) % 2305843009213693951 := by
  rw [Nat.add_mod, Nat.mod_mul_mod, ← Nat.add_mod]

theorem bitsDiv64 (w : World) (hi lo : Nat) (hhi : hi < 2305843009213693951) (hlo : lo < 18446744073709551616) :
    Calls Tryd.prog 103 #[.int .u64 (hi : Int), .int .u64 (lo : Int), .int .u64 2305843009213693951] w fun e w' => (∃ q : Int, e = .returned (.tuple #[.int .u64 q, .int .u64 (((hi * 18446744073709551616 + lo) % 2305843009213693951 : Nat) : Int)])) ∧ New w w' := by
  by_cases h : hi = 0
  · subst h
    rw [Nat.zero_mul, Nat.zero_add]
    exact bitsDiv64_0 w lo hlo
  · exact bitsDiv64_1 w hi lo (by omega) hhi hlo

set_option maxHeartbeats 400000 in
theorem bitsRem64 (w : World) (hi lo : Nat) (hhi : hi < 18446744073709551616) (hlo : lo < 18446744073709551616) :
    Calls Tryd.prog 87 #[.int .u64 (hi : Int), .int .u64 (lo : Int), .int .u64 2305843009213693951] w fun e w' => e = .returned (.int .u64 (((hi * 18446744073709551616 + lo) % 2305843009213693951 : Nat) : Int)) ∧ New w w' := by
  have C : Hid (∀ wx, Calls Tryd.prog 103 #[.int .u64 ((hi : Int) % 2305843009213693951), .int .u64 (lo : Int), .int .u64 2305843009213693951] wx fun e w' => (∃ q : Int, e = .returned (.tuple #[.int .u64 q, .int .u64 (((hi * 18446744073709551616 + lo) % 2305843009213693951 : Nat) : Int)])) ∧ New wx w') := by
    refine Lib.hid fun wx => ?_
    have h := bitsDiv64 wx (hi % 2305843009213693951) lo (Nat.mod_lt _ (by decide)) hlo
    rw [rem_mod, Int.natCast_emod] at h
    exact h
  generalize (hi * 18446744073709551616 + lo) % 2305843009213693951 = r at C ⊢
  go_enter Tryd.func87, Tryd.ntmps87
  go_wp2_with fail
  refine (C.out w).mono ?_
  rintro e w1 ⟨⟨q, rfl⟩, N1⟩
  go_wp2
  go_ret
  exact ⟨rfl, N1⟩

set_option maxHeartbeats 400000 in
theorem powMul (w : World) (a b : Nat) (ha : a < 18446744073709551616) (hb : b < 18446744073709551616) :
    Calls Tryd.prog 71 #[.int .u64 (a : Int), .int .u64 (b : Int)] w fun e w' => e = .returned (.int .u64 (mulP a b : Int)) ∧ New w w' := by
  have C1 := Lib.hid (fun wx => bitsMul64 wx a b ha hb)
  have hl : a * b < 18446744073709551616 * 18446744073709551616 := Nat.mul_lt_mul'' ha hb
  have C2 : Hid (∀ wx, Calls Tryd.prog 87 #[.int .u64 ((a * b / 18446744073709551616 : Nat) : Int), .int .u64 ((a * b % 18446744073709551616 : Nat) : Int), .int .u64 2305843009213693951] wx fun e w' => e = .returned (.int .u64 (mulP a b : Int)) ∧ New wx w') := by
    refine Lib.hid fun wx => ?_
    have h := bitsRem64 wx (a * b / 18446744073709551616) (a * b % 18446744073709551616) (Nat.div_lt_of_lt_mul hl) (Nat.mod_lt _ (by decide))
    rw [Nat.div_add_mod'] at h
    exact h
  obtain ⟨h, Hh⟩ : ∃ h, Hid (a * b / 18446744073709551616 = h) := ⟨_, Lib.hid rfl⟩
  obtain ⟨l, Hl⟩ : ∃ l, Hid (a * b % 18446744073709551616 = l) := ⟨_, Lib.hid rfl⟩
  rw [Hh.out, Hl.out] at C1 C2
  generalize mulP a b = r at C2 ⊢
  clear hl
  go_enter Tryd.func71, Tryd.ntmps71
  go_wp2_with fail
  refine (C1.out w).mono ?_
  rintro e w1 ⟨rfl, rfl⟩
  go_wp2_with fail
  refine (C2.out w).mono ?_
  rintro e w1 ⟨rfl, N1⟩
  go_wp2
  go_ret
  exact ⟨rfl, N1⟩

/-- what is left of an exponent behind k bits: n / 2^k; what is gathered: a to the power n % 2^k -/
theorem pow_step1 (a n k : Nat) (h : n / 2 ^ k % 2 = 1) : mulP (powP a (n % 2 ^ k)) (powP a (2 ^ k)) = powP a (n % 2 ^ (k + 1)) := by
  rw [powP_add, Nat.mod_pow_succ, h, Nat.mul_one]
theorem pow_step0 (a n k : Nat) (h : n / 2 ^ k % 2 = 0) : powP a (n % 2 ^ k) = powP a (n % 2 ^ (k + 1)) := by
  rw [Nat.mod_pow_succ, h, Nat.mul_zero, Nat.add_zero]
theorem pow_sq (a k : Nat) : mulP (powP a (2 ^ k)) (powP a (2 ^ k)) = powP a (2 ^ (k + 1)) := by
  rw [powP_add, Nat.pow_succ, Nat.mul_two]
theorem half_step (n k : Nat) : n / 2 ^ k / 2 = n / 2 ^ (k + 1) := by rw [Nat.pow_succ, Nat.div_div_eq_div_mul]

end Go.Proofs.YtkpenodbjmhoeaaDoor
