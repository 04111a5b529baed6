/-
  AesRings: the law, its arguments as the row has them.
-/
import Derived.Test.YtapoelmhnbgidaaRings05
import Derived.Test.YtapoelmhnbgidaaArg05
namespace Go.Proofs.Ytapoelmhnbgidaa
open Go.RowKit

theorem ringsLaw (w : World) (a : Int) (ha : (Lit.int .u8 a).wf = true) (b : Int) (hb : (Lit.int .u8 b).wf = true) (c : Int) (hc : (Lit.int .u8 c).wf = true) :
    Calls Try.prog 6 #[.int .u8 a, .int .u8 b, .int .u8 c] w fun e w' => e = .returned (.bool true) ∧ New w w' := by
  obtain ⟨x, rfl⟩ := byte_of_wf ha
  obtain ⟨y, rfl⟩ := byte_of_wf hb
  obtain ⟨z, rfl⟩ := byte_of_wf hc
  exact ringsWalk w x y z

end Go.Proofs.Ytapoelmhnbgidaa
