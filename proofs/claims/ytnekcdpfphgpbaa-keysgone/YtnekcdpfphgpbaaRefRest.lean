/-
  The reference's Rest, by any number.
-/
import Derived.Test.YtnekcdpfphgpbaaProg
import Derived.Test.YtnekcdpfphgpbaaBase
import Derived.IntWalk
namespace Go.Proofs.Ytnekcdpfphgpbaa
set_option linter.unusedVariables false
set_option linter.unusedSimpArgs false
open Go.RowKit

/-- Rest: the remainder, not negative -/
theorem rest_eq (a m : Int) (hm : 0 < m) (hm2 : m ≤ 4611686018427387904) : (wrap64 (a.tmod m + m)).tmod m = a % m := by
  have h1 : -m < a.tmod m ∧ a.tmod m < m := by
    have := Int.tmod_lt_of_pos a hm
    have := Int.lt_tmod_of_pos a hm
    omega
  have h2 : wrap64 (a.tmod m + m) = a.tmod m + m := Go.IntWalk.wrap64_in _ (by omega)
  rw [h2, Int.tmod_eq_emod_of_nonneg (by omega)]
  rw [Int.tmod_eq_emod]
  split
  · simp
  · rw [show a % m - (m.natAbs : Int) + m = a % m by omega]; simp

set_option maxHeartbeats 400000 in
theorem refRest2 (w : World) (a m : Int) (hm : 0 < m) (hm2 : m ≤ 4611686018427387904) :
    Calls Try.prog 9 #[.int .i64 a, .int .i64 m] w fun e w' => e = .returned (.int .i64 (a % m)) ∧ w = w' := by
  have HR := Lib.hid (rest_eq a m hm hm2)
  have hm3 : (m == 0) = false := by simp; omega
  go_enter Try.func9, Try.ntmps9
  go_wp2
  go_ret
  exact ⟨by rw [← HR.out]; rfl, rfl⟩

end Go.Proofs.Ytnekcdpfphgpbaa
