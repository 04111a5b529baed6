/-
  power.Right, and the reference's: a public number is valid.
-/
import Derived.Test.YtliojldkdmaofaaDoorProg
import Derived.Test.YtliojldkdmaofaaDoorBase
import Derived.KernelRfl
namespace Go.Proofs.YtliojldkdmaofaaDoor
set_option linter.unusedVariables false
set_option linter.unusedSimpArgs false
open Go.RowKit

/-- is a public number valid? -/
def rightP (n : Nat) : Bool := decide (2 ≤ n ∧ n ≤ 2305843009213693949)

set_option maxHeartbeats 400000 in
theorem powRight (w : World) (n : Nat) (hn : n < 18446744073709551616) :
    Calls Tryd.prog 54 #[.int .u64 (n : Int)] w fun e w' => e = .returned (.bool (rightP n)) ∧ w = w' := by
  by_cases h1 : 2 ≤ n
  · by_cases h2 : n ≤ 2305843009213693949
    · have e : rightP n = true := decide_eq_true ⟨h1, h2⟩
      have k1 : 2 ≤ (n : Int) := by omega
      have k2 : (n : Int) ≤ 2305843009213693949 := by omega
      rw [e]
      go_enter Tryd.func54, Tryd.ntmps54
      go_wp2
      go_ret
      exact ⟨rfl, rfl⟩
    · have e : rightP n = false := decide_eq_false fun h => h2 h.2
      have k1 : 2 ≤ (n : Int) := by omega
      have k2 : ¬ (n : Int) ≤ 2305843009213693949 := by omega
      rw [e]
      go_enter Tryd.func54, Tryd.ntmps54
      go_wp2
      go_ret
      exact ⟨rfl, rfl⟩
  · have e : rightP n = false := decide_eq_false fun h => h1 h.1
    have k1 : ¬ 2 ≤ (n : Int) := by omega
    rw [e]
    go_enter Tryd.func54, Tryd.ntmps54
    go_wp2
    go_ret
    exact ⟨rfl, rfl⟩

set_option maxHeartbeats 400000 in
theorem refRight7 (w : World) (n : Nat) (hn : n < 18446744073709551616) :
    Calls Tryd.prog 26 #[.int .u64 (n : Int)] w fun e w' => e = .returned (.bool (rightP n)) ∧ w = w' := by
  by_cases h1 : 2 ≤ n
  · by_cases h2 : n ≤ 2305843009213693949
    · have e : rightP n = true := decide_eq_true ⟨h1, h2⟩
      have k1 : 2 ≤ (n : Int) := by omega
      have k2 : (n : Int) ≤ 2305843009213693949 := by omega
      rw [e]
      go_enter Tryd.func26, Tryd.ntmps26
      go_wp2
      go_ret
      exact ⟨rfl, rfl⟩
    · have e : rightP n = false := decide_eq_false fun h => h2 h.2
      have k1 : 2 ≤ (n : Int) := by omega
      have k2 : ¬ (n : Int) ≤ 2305843009213693949 := by omega
      rw [e]
      go_enter Tryd.func26, Tryd.ntmps26
      go_wp2
      go_ret
      exact ⟨rfl, rfl⟩
  · have e : rightP n = false := decide_eq_false fun h => h1 h.1
    have k1 : ¬ 2 ≤ (n : Int) := by omega
    rw [e]
    go_enter Tryd.func26, Tryd.ntmps26
    go_wp2
    go_ret
    exact ⟨rfl, rfl⟩

end Go.Proofs.YtliojldkdmaofaaDoor
