/-
  AesApart: the law, its arguments as the row has them.
-/
import Derived.Test.YtapoelmhnbgidaaApart05
import Derived.Test.YtapoelmhnbgidaaArg05
namespace Go.Proofs.Ytapoelmhnbgidaa
open Go.RowKit

theorem apartLaw (w : World) (x : List Int) (hx : x.length = 16) (wx : ∀ z ∈ x, (Lit.int .u8 z).wf = true) (y : List Int) (hy : y.length = 16) (wy : ∀ z ∈ y, (Lit.int .u8 z).wf = true) (z : List Int) (hz : z.length = 16) (wz : ∀ u ∈ z, (Lit.int .u8 u).wf = true) :
    Calls Try.prog 5 #[.agg (x.map (Value.int .u8)).toArray, .agg (y.map (Value.int .u8)).toArray, .agg (z.map (Value.int .u8)).toArray] w fun e w' => e = .returned (.bool true) ∧ New w w' := by
  obtain ⟨k, ek, lk⟩ := bytes_of_wf x wx
  obtain ⟨a, ea, la⟩ := bytes_of_wf y wy
  obtain ⟨b, eb, lb⟩ := bytes_of_wf z wz
  rw [ek, ea, eb]
  exact apartWalk w k a b (by omega) (by omega) (by omega)

end Go.Proofs.Ytapoelmhnbgidaa
