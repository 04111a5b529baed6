/-
  The reference's table of constants.
-/
import Derived.Test.YtcdmomkljgoafaaDoorProg
import Derived.Test.YtcdmomkljgoafaaDoorShaSpec
import Derived.Test.YtcdmomkljgoafaaDoorMem
namespace Go.Proofs.YtcdmomkljgoafaaDoor
set_option linter.unusedVariables false
set_option linter.unusedSimpArgs false
open Go.RowKit

set_option maxRecDepth 100000 in
set_option maxHeartbeats 400000 in
theorem refK (w : World) : Calls Tryd.prog 15 #[] w fun e w' => e = .returned (.slice (some ⟨w.heap.size, 0, none⟩) 64 64) ∧ w' = w.alloc (.cells (kTab.map wv).toArray 32) := by
  go_enter Tryd.func15, Tryd.ntmps15
  go_wp2
  go_ret
  exact ⟨rfl, rfl⟩

end Go.Proofs.YtcdmomkljgoafaaDoor
