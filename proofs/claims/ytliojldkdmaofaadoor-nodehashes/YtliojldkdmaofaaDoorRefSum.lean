/-
  The reference's Sum: it returns the digest.
-/
import Derived.Test.YtliojldkdmaofaaDoorRefPieceA
import Derived.Test.YtliojldkdmaofaaDoorRefPieceB
import Derived.Test.YtliojldkdmaofaaDoorRefPieceC
import Derived.Test.YtliojldkdmaofaaDoorRefPieceD
import Derived.Test.YtliojldkdmaofaaDoorRefPieceE
namespace Go.Proofs.YtliojldkdmaofaaDoor
open Go.RowKit

theorem refSum (w : World) (l : List UInt8) (hl : l.length ≤ 1099511627776) : Calls Tryd.prog 27 #[.string (bstr l)] w fun e w' => e = .returned (.string (bstr (sha256 l))) ∧ New w w' :=
  refCut.2.2.2.2.2 (Lib.hid refPieceA) (Lib.hid refPieceB) (Lib.hid refPieceC) (Lib.hid refPieceD) (Lib.hid refPieceE) w l hl

end Go.Proofs.YtliojldkdmaofaaDoor
