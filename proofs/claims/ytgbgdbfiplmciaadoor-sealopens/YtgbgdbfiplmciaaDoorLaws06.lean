/-
  Layer 6's laws, as the frames call them.
-/
import Derived.Test.YtgbgdbfiplmciaaDoorMakes06
import Derived.Test.YtgbgdbfiplmciaaDoorOpens06
import Derived.Test.YtgbgdbfiplmciaaDoorTurned06
import Derived.Test.YtgbgdbfiplmciaaDoorArg06
import Derived.Test.YtgbgdbfiplmciaaDoorArg05
namespace Go.Proofs.YtgbgdbfiplmciaaDoor
set_option linter.unusedVariables false
open Go.RowKit

theorem turnedLaw (w : World) (x y z v : Value) (key nonce beside t : List UInt8) (hx : Rd w x key) (hy : Rd w y nonce) (hz : Rd w z beside) (hv : Rd w v t) (at_ : Int) (wa : (Lit.int .i64 at_).wf = true) (b : Int) (wb : (Lit.int .u8 b).wf = true) (hL : Laid w) :
    Calls Tryd.prog 5 #[.agg #[x, y, z, v], .int .i64 at_, .int .u8 b] w fun e w' => e = .returned (.bool true) ∧ New w w' := by
  obtain ⟨c, rfl⟩ := byte_of_wf wb
  exact turnedWalk w x y z v key nonce beside t hx hy hz hv at_ c hL

end Go.Proofs.YtgbgdbfiplmciaaDoor
