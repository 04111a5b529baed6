/-
  The statements of layer 7: their own helper.
-/
import Derived.Test.YtfilimhjhaokkaaDoorPowOct
namespace Go.Proofs.YtfilimhjhaokkaaDoor
set_option linter.unusedVariables false
set_option linter.unusedSimpArgs false
open Go.RowKit

theorem nat_of_u64 {a : Int} (h : (Lit.int .u64 a).wf = true) : ∃ n : Nat, a = (n : Int) ∧ n < 18446744073709551616 := by
  have h' : IntKind.u64.min ≤ a ∧ a ≤ IntKind.u64.max := by simpa [Lit.wf] using h
  rw [show IntKind.u64.min = 0 from rfl, show IntKind.u64.max = 18446744073709551615 from rfl] at h'
  exact ⟨a.toNat, by omega, by omega⟩

theorem nat_of_u32 {a : Int} (h : (Lit.int .u32 a).wf = true) : ∃ n : Nat, a = (n : Int) ∧ n < 4294967296 := by
  have h' : IntKind.u32.min ≤ a ∧ a ≤ IntKind.u32.max := by simpa [Lit.wf] using h
  rw [show IntKind.u32.min = 0 from rfl, show IntKind.u32.max = 4294967295 from rfl] at h'
  exact ⟨a.toNat, by omega, by omega⟩

theorem wakeMul : mulP 2305843009213693950 2305843009213693950 = 1 := by decide +kernel
theorem wakePow : powP 3 4 = 81 := by decide +kernel
theorem wakeOne : powP 5 0 = 1 := by decide +kernel

set_option maxHeartbeats 400000 in
theorem awake07 (w : World) : Calls Tryd.prog 5 #[] w fun e w' => e = .returned (.bool true) ∧ New w w' := by
  have C1 : Hid (∀ wx, Calls Tryd.prog 16 #[.int .u64 2305843009213693950, .int .u64 2305843009213693950] wx fun e w' => e = .returned (.int .u64 1) ∧ New wx w') := by
    refine Lib.hid fun wx => ?_
    have h := powMul wx 2305843009213693950 2305843009213693950 (by omega) (by omega)
    rw [wakeMul] at h
    exact h
  have C2 : Hid (∀ wx, Calls Tryd.prog 17 #[.int .u64 3, .int .u64 4] wx fun e w' => e = .returned (.int .u64 81) ∧ New wx w') := by
    refine Lib.hid fun wx => ?_
    have h := powPow wx 3 4 (by omega) (by omega)
    rw [wakePow] at h
    exact h
  have C3 : Hid (∀ wx, Calls Tryd.prog 17 #[.int .u64 5, .int .u64 0] wx fun e w' => e = .returned (.int .u64 1) ∧ New wx w') := by
    refine Lib.hid fun wx => ?_
    have h := powPow wx 5 0 (by omega) (by omega)
    rw [wakeOne] at h
    exact h
  have C4 : Hid (∀ wx, Calls Tryd.prog 12 #[.int .u64 7] wx (OctTo wx (be 8 7))) := Lib.hid (fun wx => powOctets wx 7 (by omega))
  go_enter Tryd.func5, Tryd.ntmps5
  go_wp2_with fail
  refine (C1.out w).mono ?_
  rintro e w1 ⟨rfl, N1⟩
  go_wp2_with fail
  refine (C2.out w1).mono ?_
  rintro e w2 ⟨rfl, N2⟩
  go_wp2_with fail
  refine (C3.out w2).mono ?_
  rintro e w3 ⟨rfl, N3⟩
  go_wp2_with fail
  refine (C4.out w3).mono ?_
  rintro e w4 ⟨a, c, rfl, R4, O4, N4⟩
  clear R4 O4
  rw [be_length]
  go_wp2
  go_ret
  exact ⟨rfl, New.trans (New.trans (New.trans N1 N2) N3) N4⟩

end Go.Proofs.YtfilimhjhaokkaaDoor
