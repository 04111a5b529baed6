/-
  The reference's Sum: it returns the digest.
-/
import Derived.Test.YtjekbolfaakmbaaDoorRefPieceA
import Derived.Test.YtjekbolfaakmbaaDoorRefPieceB
import Derived.Test.YtjekbolfaakmbaaDoorRefPieceC
import Derived.Test.YtjekbolfaakmbaaDoorRefPieceD
import Derived.Test.YtjekbolfaakmbaaDoorRefPieceE
namespace Go.Proofs.YtjekbolfaakmbaaDoor
open Go.RowKit

theorem refSum (w : World) (l : List UInt8) (hl : l.length ≤ 1099511627776) : Calls Tryd.prog 14 #[.string (bstr l)] w fun e w' => e = .returned (.string (bstr (sha256 l))) ∧ New w w' :=
  refCut.2.2.2.2.2 (Lib.hid refPieceA) (Lib.hid refPieceB) (Lib.hid refPieceC) (Lib.hid refPieceD) (Lib.hid refPieceE) w l hl

end Go.Proofs.YtjekbolfaakmbaaDoor
