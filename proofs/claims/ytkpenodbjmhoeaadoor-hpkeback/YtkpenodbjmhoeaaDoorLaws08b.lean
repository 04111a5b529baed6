/-
  Layer 8's laws, as the frames call them: HpkeBack, HpkeReads.
-/
import Derived.Test.YtkpenodbjmhoeaaDoorBack08
import Derived.Test.YtkpenodbjmhoeaaDoorReads08
import Derived.Test.YtkpenodbjmhoeaaDoorArg08
namespace Go.Proofs.YtkpenodbjmhoeaaDoor
set_option linter.unusedVariables false
open Go.RowKit

theorem readsLaw (w : World) (f : Int) (wf : (Lit.int .u64 f).wf = true) (u : Value) (l : List UInt8) (hu : Rd w u l) (x : Value) (b : List UInt8) (hx : Rd w x b) (most : Int) (wm : (Lit.int .i64 most).wf = true) (hL : Laid w) :
    Calls Tryd.prog 6 #[.agg #[.int .u64 f, u], x, .int .i64 most] w fun e w' => e = .returned (.bool true) ∧ New w w' := by
  obtain ⟨m, rfl, hm⟩ := nat_of_w64 wf
  exact readsWalk w m hm u l hu x b hx most hL

end Go.Proofs.YtkpenodbjmhoeaaDoor
