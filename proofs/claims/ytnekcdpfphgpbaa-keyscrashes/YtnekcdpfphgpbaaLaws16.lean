/-
  Layer 16: both statements' walks, over the program.
-/
import Derived.Test.YtnekcdpfphgpbaaKeyOpn
import Derived.Test.YtnekcdpfphgpbaaCrashes16
import Derived.Test.YtnekcdpfphgpbaaGoneW16
import Derived.Test.YtnekcdpfphgpbaaAwake16
import Derived.Test.YtnekcdpfphgpbaaOpen
import Derived.Test.YtnekcdpfphgpbaaArg16
import Derived.Test.YtnekcdpfphgpbaaArgInts
namespace Go.Proofs.Ytnekcdpfphgpbaa
set_option linter.unusedVariables false
open Go.RowKit

theorem pair_of16 {zs : List Int} (hl : zs.length = 2) (hw : ∀ z ∈ zs, (Lit.int .i64 z).wf = true) : ∃ a c, zs = [a, c] ∧ (-9223372036854775808 ≤ a ∧ a ≤ 9223372036854775807) ∧ (-9223372036854775808 ≤ c ∧ c ≤ 9223372036854775807) := by
  match zs, hl with
  | [a, c], _ => exact ⟨a, c, rfl, wf_i64_lt (hw a (by simp)), wf_i64_lt (hw c (by simp))⟩

theorem crashesWalk16 (w : World) (z : Value) (l : List ActK) (hz : RdActK w z l) (cv : Int) (hcv : (Lit.int .u8 cv).wf = true) (y : Value) (keep : List Int) (hy : RdV w y (keep.map (Value.int .i64))) :
    Calls Try.prog 3 #[z, .int .u8 cv, y] w fun e w' => e = .returned (.bool true) ∧ New w w' :=
  crashLaw16 keyApi (awake16 keyApi) w z l hz cv (wf_u8_lt hcv) y keep hy

theorem goneWalk16 (w : World) (z : Value) (l : List ActK) (hz : RdActK w z l) (y : Value) (k : List UInt8) (hy : Rd w y k) (zs : List Int) (hl : zs.length = 2) (hw : ∀ z ∈ zs, (Lit.int .i64 z).wf = true) :
    Calls Try.prog 4 #[z, y, .agg (zs.map (Value.int .i64)).toArray] w fun e w' => e = .returned (.bool true) ∧ New w w' := by
  obtain ⟨a, c, rfl, ha, hc⟩ := pair_of16 hl hw
  exact goneLaw16 keyApi (awake16 keyApi) w z l hz y k hy a c ha hc

end Go.Proofs.Ytnekcdpfphgpbaa
