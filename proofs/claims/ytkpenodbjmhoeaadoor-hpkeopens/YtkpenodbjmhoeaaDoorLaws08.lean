/-
  Layer 8's laws, as the frames call them: HpkeSeals, HpkeOpens.
-/
import Derived.Test.YtkpenodbjmhoeaaDoorSeals08
import Derived.Test.YtkpenodbjmhoeaaDoorOpens08
import Derived.Test.YtkpenodbjmhoeaaDoorArg08
namespace Go.Proofs.YtkpenodbjmhoeaaDoor
set_option linter.unusedVariables false
open Go.RowKit

theorem sealsLaw (w : World) (p : Int) (wp : (Lit.int .u64 p).wf = true) (x y z v : Value) (info beside t draw : List UInt8) (hx : Rd w x info) (hy : Rd w y beside) (hz : Rd w z t) (hv : Rd w v draw) (hL : Laid w) :
    Calls Tryd.prog 3 #[.int .u64 p, .agg #[x, y, z, v]] w fun e w' => e = .returned (.bool true) ∧ New w w' := by
  obtain ⟨m, rfl, hm⟩ := nat_of_w64 wp
  exact sealsWalk w m hm x y z v info beside t draw hx hy hz hv hL

theorem opensLaw (w : World) (k : Int) (wk : (Lit.int .u64 k).wf = true) (f : Int) (wf : (Lit.int .u64 f).wf = true) (u : Value) (s : List UInt8) (hu : Rd w u s) (x y z v : Value) (info beside t draw : List UInt8) (hx : Rd w x info) (hy : Rd w y beside) (hz : Rd w z t) (hv : Rd w v draw) (hL : Laid w) :
    Calls Tryd.prog 4 #[.int .u64 k, .agg #[.int .u64 f, u], .agg #[x, y, z, v]] w fun e w' => e = .returned (.bool true) ∧ New w w' := by
  obtain ⟨m, rfl, hm⟩ := nat_of_w64 wk
  obtain ⟨n, rfl, hn⟩ := nat_of_w64 wf
  exact opensWalk w m hm n hn u s hu x y z v info beside t draw hx hy hz hv hL

end Go.Proofs.YtkpenodbjmhoeaaDoor
