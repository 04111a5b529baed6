/-
  The reference's Sum: it returns the digest.
-/
import Derived.Test.YtijkmpcgkhijgaaGreatDoorRefPieceA
import Derived.Test.YtijkmpcgkhijgaaGreatDoorRefPieceB
import Derived.Test.YtijkmpcgkhijgaaGreatDoorRefPieceC
import Derived.Test.YtijkmpcgkhijgaaGreatDoorRefPieceD
import Derived.Test.YtijkmpcgkhijgaaGreatDoorRefPieceE
namespace Go.Proofs.YtijkmpcgkhijgaaGreatDoor
open Go.RowKit

theorem refSum (w : World) (l : List UInt8) (hl : l.length ≤ 1099511627776) : Calls Tryz.prog 111 #[.string (bstr l)] w fun e w' => e = .returned (.string (bstr (sha256 l))) ∧ New w w' :=
  refCut.2.2.2.2.2 (Lib.hid refPieceA) (Lib.hid refPieceB) (Lib.hid refPieceC) (Lib.hid refPieceD) (Lib.hid refPieceE) w l hl

end Go.Proofs.YtijkmpcgkhijgaaGreatDoor
