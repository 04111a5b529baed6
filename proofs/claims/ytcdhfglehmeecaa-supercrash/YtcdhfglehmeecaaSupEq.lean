/-
  '==' of superblocks.
-/
import Derived.Test.YtcdhfglehmeecaaSupA
namespace Go.Proofs.Ytcdhfglehmeecaa
set_option linter.unusedVariables false
set_option linter.unusedSimpArgs false
open Go.RowKit

def SupN.same (X Y : SupN) : Bool := (X.gen == Y.gen) && ((X.boot == Y.boot) && ((X.slots == Y.slots) && ((X.segs == Y.segs) && (X.size == Y.size))))

theorem eq_sup (X Y : SupN) (w : World) : (binOp .eql 23 X.val Y.val).run Try.prog w = .ok (.bool (X.same Y)) w := by
  unfold SupN.val SupN.same
  go_simp
  by_cases h1 : X.gen = Y.gen
  · by_cases h2 : X.boot = Y.boot
    · by_cases h3 : X.slots = Y.slots
      · by_cases h4 : X.segs = Y.segs
        · by_cases h5 : X.size = Y.size
          · simp [h1, h2, h3, h4, h5]
          · simp [h1, h2, h3, h4, h5]
        · simp [h1, h2, h3, h4]
      · simp [h1, h2, h3]
    · simp [h1, h2]
  · simp [h1]

theorem SupN.same_self (X : SupN) : X.same X = true := by simp [SupN.same]

theorem SupN.same_iff (X Y : SupN) : X.same Y = true ↔ X = Y := by
  obtain ⟨a, b, c, d, e⟩ := X
  obtain ⟨a', b', c', d', e'⟩ := Y
  simp [SupN.same, and_assoc]

end Go.Proofs.Ytcdhfglehmeecaa
