/-
  ShaSums, ShaLengths: the laws, with the reference's contract in its place.
-/
import Derived.Test.YtcdmomkljgoafaaDoorRefSum
import Derived.Test.YtcdmomkljgoafaaDoorLen02
namespace Go.Proofs.YtcdmomkljgoafaaDoor
open Go.RowKit

theorem refSumOk : RefSumOk := fun w l h => refSum w l h

theorem sumsLaw (w : World) (x : Value) (b : List UInt8) (hx : Rd w x b) (hL : Laid w) :
    Calls Tryd.prog 3 #[x] w fun e w' => e = .returned (.bool true) ∧ New w w' := sumsWalk refSumOk w x b hx hL

theorem lengthsLaw (w : World) (n : Int) (h1 : (Lit.int .u16 n).wf = true) (c : Int) (h2 : (Lit.int .u8 c).wf = true) (hL : Laid w) :
    Calls Tryd.prog 5 #[.int .u16 n, .int .u8 c] w fun e w' => e = .returned (.bool true) ∧ New w w' := lenLaw refSumOk w n h1 c h2 hL

end Go.Proofs.YtcdmomkljgoafaaDoor
