/-
  sha.right, engrosserref02.right: a word turned right.
-/
import Derived.Test.YtoooemlcackepaaDoorProg
import Derived.Test.YtoooemlcackepaaDoorU32
import Derived.KernelRfl
import Derived.Deep.QuietTactic
import Derived.BigQuiet
import Derived.IntWalk
namespace Go.Proofs.YtoooemlcackepaaDoor
set_option linter.unusedVariables false
set_option linter.unusedSimpArgs false
open Go.RowKit

theorem and31 (n : Nat) (h1 : 1 ≤ n) (h2 : n ≤ 31) : bits .and .u64 (IntKind.u64.wrap (-(n : Int))) 31 = ((32 - n : Nat) : Int) := by
  have h : n = 1 ∨ n = 2 ∨ n = 3 ∨ n = 4 ∨ n = 5 ∨ n = 6 ∨ n = 7 ∨ n = 8 ∨ n = 9 ∨ n = 10 ∨ n = 11 ∨ n = 12 ∨ n = 13 ∨ n = 14 ∨ n = 15 ∨ n = 16 ∨ n = 17 ∨ n = 18 ∨ n = 19 ∨ n = 20 ∨ n = 21 ∨ n = 22 ∨ n = 23 ∨ n = 24 ∨ n = 25 ∨ n = 26 ∨ n = 27 ∨ n = 28 ∨ n = 29 ∨ n = 30 ∨ n = 31 := by omega
  rcases h with rfl | rfl | rfl | rfl | rfl | rfl | rfl | rfl | rfl | rfl | rfl | rfl | rfl | rfl | rfl | rfl | rfl | rfl | rfl | rfl | rfl | rfl | rfl | rfl | rfl | rfl | rfl | rfl | rfl | rfl | rfl <;> (clear h1 h2; decide)

theorem shl_of (x : UInt32) (m : Nat) (h : m ≤ 32) : IntKind.u32.wrap ((x.toNat : Int) * 2 ^ m) = ((x.toNat * 2 ^ m % 4294967296 : Nat) : Int) := by
  rw [IntKind.wrap_u32', Int.natCast_emod, Int.natCast_mul, Int.natCast_pow]
  rfl

theorem shr_of (x : UInt32) (m : Nat) : (x.toNat : Int) / 2 ^ m = ((x.toNat / 2 ^ m : Nat) : Int) := by
  rw [Int.natCast_ediv, Int.natCast_pow]
  rfl

theorem rot_of (x : UInt32) (n : Nat) : bits .or .u32 ((x.toNat / 2 ^ n : Nat) : Int) ((x.toNat * 2 ^ (32 - n) % 4294967296 : Nat) : Int) = ((rotr x n).toNat : Int) := by
  rw [u32_or_nat _ _ (Nat.lt_of_le_of_lt (Nat.div_le_self _ _) (u32_lt x)) (Nat.mod_lt _ (by decide)), rotr_toNat]

theorem rot_of' (x : UInt32) (n : Nat) : bits .or .u32 ((x.toNat * 2 ^ (32 - n) % 4294967296 : Nat) : Int) ((x.toNat / 2 ^ n : Nat) : Int) = ((rotr x n).toNat : Int) := by
  rw [u32_or_nat _ _ (Nat.mod_lt _ (by decide)) (Nat.lt_of_le_of_lt (Nat.div_le_self _ _) (u32_lt x)), rotr_toNat, Nat.or_comm]

theorem ret_u32 {a b : Int} (h : a = b) : Ending.returned (.int .u32 a) = .returned (.int .u32 b) := by rw [h]

set_option maxHeartbeats 400000 in
theorem rotateLeft32 (w : World) (x : UInt32) (n : Nat) (h1 : 1 ≤ n) (h2 : n ≤ 31) :
    Calls Tryd.prog 26 #[wv x, .int .i64 (-(n : Int))] w fun e w' => e = .returned (wv (rotr x n)) ∧ w = w' := by
  have hb := and31 n h1 h2
  have HR := Lib.hid (rot_of' x n)
  have HN : Hid (n = 32 - (32 - n)) := by show _ = _; omega
  have hm : 32 - n ≤ 31 := by omega
  have hm' : 1 ≤ 32 - n := by omega
  rw [HN.out] at HR
  rw [show 32 - (32 - (32 - n)) = 32 - n by omega] at HR
  generalize 32 - n = m at hb HR hm hm' HN
  go_enter Tryd.func26, Tryd.ntmps26
  go_wp2
  go_ret
  refine ⟨ret_u32 ?_, rfl⟩
  rw [HN.out, ← HR.out, Int.natCast_ediv, Int.natCast_emod, Int.natCast_mul, Int.natCast_pow, Int.natCast_pow]
  rfl

set_option maxHeartbeats 400000 in
theorem shaRight (w : World) (x : UInt32) (n : Nat) (h1 : 1 ≤ n) (h2 : n ≤ 31) :
    Calls Tryd.prog 25 #[wv x, .int .i64 n] w fun e w' => e = .returned (wv (rotr x n)) ∧ w = w' := by
  go_enter Tryd.func25, Tryd.ntmps25
  go_wp2_with fail
  refine (rotateLeft32 w x n h1 h2).mono ?_
  rintro e w' ⟨rfl, rfl⟩
  go_wp2
  go_ret
  exact ⟨rfl, rfl⟩

/-- the same, at an integer -/
theorem shaRightI (w : World) (x : UInt32) (n : Int) (h1 : 1 ≤ n) (h2 : n ≤ 31) :
    Calls Tryd.prog 25 #[wv x, .int .i64 n] w fun e w' => e = .returned (wv (rotr x n.toNat)) ∧ w = w' := by
  have h := shaRight w x n.toNat (by omega) (by omega)
  rwa [Int.toNat_of_nonneg (by omega)] at h

set_option maxHeartbeats 400000 in
theorem refRight (w : World) (x : UInt32) (n : Nat) (h1 : 1 ≤ n) (h2 : n ≤ 31) :
    Calls Tryd.prog 18 #[wv x, .int .i64 n] w fun e w' => e = .returned (wv (rotr x n)) ∧ ∃ k, w' = w.drewN k := by
  have HR := Lib.hid (rot_of x n)
  have h3 : (n : Int) ≤ 32 := by omega
  have h4 : 0 ≤ 32 - (n : Int) := by omega
  have h5 : (32 - (n : Int)).toNat = 32 - n := by omega
  have h6 : (32 - n) ≤ 32 := by omega
  have h7 : IntKind.i64.wrap (32 - (n : Int)) = 32 - (n : Int) := IntWalk.i64_in _ (by omega)
  go_enter Tryd.func18, Tryd.ntmps18
  go_wp2_with fail
  go_quiet (fail)
  go_wp2
  go_ret
  refine ⟨ret_u32 ?_, _, rfl⟩
  rw [← HR.out, Int.natCast_ediv, Int.natCast_emod, Int.natCast_mul, Int.natCast_pow, Int.natCast_pow]
  rfl

/-- the same, at an integer -/
theorem refRightI (w : World) (x : UInt32) (n : Int) (h1 : 1 ≤ n) (h2 : n ≤ 31) :
    Calls Tryd.prog 18 #[wv x, .int .i64 n] w fun e w' => e = .returned (wv (rotr x n.toNat)) ∧ ∃ k, w' = w.drewN k := by
  have h := refRight w x n.toNat (by omega) (by omega)
  rwa [Int.toNat_of_nonneg (by omega)] at h

end Go.Proofs.YtoooemlcackepaaDoor
