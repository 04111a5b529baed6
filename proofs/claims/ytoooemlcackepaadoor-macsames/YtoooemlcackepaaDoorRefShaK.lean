/-
  The reference's table of constants.
-/
import Derived.Test.YtoooemlcackepaaDoorProg
import Derived.Test.YtoooemlcackepaaDoorShaSpec
import Derived.Test.YtoooemlcackepaaDoorMem
namespace Go.Proofs.YtoooemlcackepaaDoor
set_option linter.unusedVariables false
set_option linter.unusedSimpArgs false
open Go.RowKit

set_option maxRecDepth 100000 in
set_option maxHeartbeats 400000 in
theorem refK (w : World) : Calls Tryd.prog 16 #[] w fun e w' => e = .returned (.slice (some ⟨w.heap.size, 0, none⟩) 64 64) ∧ w' = w.alloc (.cells (kTab.map wv).toArray 36) := by
  go_enter Tryd.func16, Tryd.ntmps16
  go_wp2
  go_ret
  exact ⟨rfl, rfl⟩

end Go.Proofs.YtoooemlcackepaaDoor
