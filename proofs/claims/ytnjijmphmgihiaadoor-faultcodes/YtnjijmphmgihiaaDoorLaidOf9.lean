/-
  From the rows' condition on the listed variables to what the walks of layer 9 ask; a heap that meets it.
-/
import Derived.Test.YtnjijmphmgihiaaDoorRows
import Derived.Test.YtnjijmphmgihiaaDoorLaw09
import Derived.LaidMore
import Derived.LaidHandle
import Derived.Lib.LaidTab
import Derived.Stop.LaidErr
import Derived.ProofKit
import Derived.OpenShut
import Derived.Stop.Joined
namespace Go.Proofs.YtnjijmphmgihiaaDoor
set_option linter.unusedVariables false
set_option linter.unusedSimpArgs false
open Go.RowKit

def laid9 : List (String × DataW Unit) := [("math/bits.deBruijn32tab", Rows.laid_math_bits_deBruijn32tab), ("math/bits.deBruijn64tab", Rows.laid_math_bits_deBruijn64tab), ("internal/strconv.uint64pow10", Rows.laid_internal_strconv_uint64pow10), ("errors.errorType", Rows.laid_errors_errorType)]

theorem laid10_eq : (Rows.laid_internal_strconv_uint64pow10 : DataW Unit) = Lib.tabData .u64 Lib.pow10Tab := by kernel_rfl
theorem g10 : Tryd.prog.globalNamed "internal/strconv.uint64pow10" = some 1 := by kernel_rfl
theorem tg10 : (Tryd.prog.globals[1]?).map (·.type) = some 109 := by kernel_rfl
theorem u20w : Tryd.prog.underlying 109 = some (.array 20 102) := by kernel_rfl
theorem c20a : Tryd.prog.cellsOf 102 = 1 := by kernel_rfl
theorem c20b : Tryd.prog.cellsOf 109 = 20 := by kernel_rfl
theorem et9 : Tryd.prog.globalNamed "errors.errorType" = some 0 := by kernel_rfl
theorem rt9 : (Tryd.prog.cutTypes.find? (·.1 == "internal/reflectlite.rtype")).map (·.2) = some 84 := by kernel_rfl
theorem oneRow9 : ((List.range 145).filter fun t => Tryd.prog.rowNamed t [101, 114, 114, 111, 114]) = [26] := by kernel_rfl
theorem size9 : Tryd.prog.types.size = 145 := by kernel_rfl

theorem laid9_of {W : World} (h : laidMetH Tryd.prog laid9 W) : Laid9 W := by
  have h' : laidMet Tryd.prog [("math/bits.deBruijn32tab", Rows.laid_math_bits_deBruijn32tab), ("math/bits.deBruijn64tab", Rows.laid_math_bits_deBruijn64tab), ("internal/strconv.uint64pow10", Rows.laid_internal_strconv_uint64pow10)] W ∧ handlesMet Tryd.prog [("errors.errorType", Rows.laid_errors_errorType)] W := h
  refine ⟨?_, ?_⟩
  · obtain ⟨name, u, ty, e1, e2, e3, e4, e5⟩ := h'.2 _ (List.mem_singleton.2 rfl)
    have en : name = [101, 114, 114, 111, 114] := (Option.some.inj e1).symm
    subst en
    obtain rfl := Option.some.inj (rt9.symm.trans e2)
    have hm : ty ∈ (List.range 145).filter fun t => Tryd.prog.rowNamed t [101, 114, 114, 111, 114] := List.mem_filter.2 ⟨List.mem_range.2 (by rw [← size9]; exact e3), e4⟩
    rw [oneRow9] at hm
    obtain rfl := List.mem_singleton.1 hm
    have hh : typeHandle Tryd.prog 26 = .pointer (some ⟨4, 26, none⟩) := by kernel_rfl
    rw [hh] at e5
    simpa [HasErr] using World.var?_cell et9 e5 0
  · have hc : laidMet Tryd.prog (("internal/strconv.uint64pow10", Lib.tabData .u64 Lib.pow10Tab) :: []) W := by
      rw [← laid10_eq]; exact laidMet.tail (laidMet.tail h'.1)
    exact Lib.tabIs_of_head g10 tg10 u20w Tryd.underlying102 c20a c20b hc

/-- The door's own heap meets the condition. -/
theorem door_met9 (os : Os) (args : Array Value) : laidMetH Tryd.prog laid9 ((World.doorLaid Tryd.prog 31 os).forCall (fun _ _ => 0) ⟨#[], args, []⟩).memory :=
  laidMetH_of_parts3 (fuel := 8) (laidMet_of_run' 8 (by kernel_rfl) (by kernel_rfl)) (by kernel_rfl) (by kernel_rfl)

end Go.Proofs.YtnjijmphmgihiaaDoor
