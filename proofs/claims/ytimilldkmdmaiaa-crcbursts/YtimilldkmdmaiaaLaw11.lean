/-
  The statements of layer 11: their own helper.
-/
import Derived.Test.YtimilldkmdmaiaaRefCrc
import Derived.Lib.SlBytesConst
namespace Go.Proofs.Ytimilldkmdmaiaa
set_option linter.unusedVariables false
set_option linter.unusedSimpArgs false
open Go.RowKit

def digits9 : List UInt8 := [49, 50, 51, 52, 53, 54, 55, 56, 57]

set_option maxRecDepth 100000 in
set_option maxHeartbeats 400000 in
theorem awake11 (w : World) : Calls Try.prog 6 #[] w fun e w' => e = .returned (.bool true) ∧ New w w' := by
  have kc := fun (w : World) (C : Array Value) (n c : Nat) => Lib.run_convert_bytes_const (P := Try.prog) w 22 5 C n c Try.underlying22 Try.underlying5
  have hr := Rd.made w digits9 5 (9, 10) (by decide)
  have hn := (Below.refl w.heap.size w).alloc (Nat.le_refl _) (.cells (digits9.map bv).toArray 5 (9, 10))
  have hs := crcSum1 _ (w.heap.size + 1) _ digits9 (by simp) hr
  have HC : Hid (crc digits9 = 3421780262) := Lib.hid crc_wake
  rw [HC.out] at hs
  have HS := Lib.hid hs
  have HN := Lib.hid (hn.alloc hn.size (.cells #[.slice (some ⟨w.heap.size, 0, none⟩) 9 9] 22))
  clear hs hn hr
  go_enter Try.func6, Try.ntmps6
  go_wp2_with fail
  refine HS.out.mono ?_
  rintro e w1 ⟨rfl, rfl⟩
  go_wp2
  go_ret
  exact ⟨rfl, HN.out⟩

end Go.Proofs.Ytimilldkmdmaiaa
