/-
  Layer 17: the three statements' walks, over the program, as the frames call them.
-/
import Derived.Test.YtgfljldegodpgaaDoorVltFns
import Derived.Test.YtgfljldegodpgaaDoorWraps17
import Derived.Test.YtgfljldegodpgaaDoorContexts17
import Derived.Test.YtgfljldegodpgaaDoorArg17
import Derived.Test.YtgfljldegodpgaaDoorOpen
namespace Go.Proofs.YtgfljldegodpgaaDoor
set_option linter.unusedVariables false
open Go.RowKit

theorem pair_of17 {zs : List Int} (hl : zs.length = 2) (hw : ∀ z ∈ zs, (Lit.int .i64 z).wf = true) : ∃ a c, zs = [a, c] ∧ i64In a ∧ i64In c := by
  match zs, hl with
  | [a, c], _ => exact ⟨a, c, rfl, wf_i64_lt (hw a (by simp)), wf_i64_lt (hw c (by simp))⟩

theorem wrapsLaw17 (w : World) (x y z : Value) (k g s : List UInt8) (e : Int) (hx : Rd w x k) (hy : Rd w y g) (hz : Rd w z s) (he : (Lit.int .i64 e).wf = true) (hL : Laid w) :
    Calls Tryd.prog 3 #[.agg #[x, y, z, .int .i64 e]] w fun en w' => en = .returned (.bool true) ∧ New w w' :=
  wrapsWalk vltApi w x y z k g s e hx hy hz (wf_i64_lt he) hL

theorem unwrapsLaw17 (w : World) (x y z : Value) (k g s : List UInt8) (e : Int) (hx : Rd w x k) (hy : Rd w y g) (hz : Rd w z s) (he : (Lit.int .i64 e).wf = true) (hL : Laid w) :
    Calls Tryd.prog 4 #[.agg #[x, y, z, .int .i64 e]] w fun en w' => en = .returned (.bool true) ∧ New w w' :=
  unwrapsWalk vltApi w x y z k g s e hx hy hz (wf_i64_lt he) hL

theorem contextsLaw17 (w : World) (x y z : Value) (k g s : List UInt8) (e : Int) (hx : Rd w x k) (hy : Rd w y g) (hz : Rd w z s) (he : (Lit.int .i64 e).wf = true) (xb yb zb : Value) (kb gb sb : List UInt8) (eb : Int) (hxb : Rd w xb kb) (hyb : Rd w yb gb) (hzb : Rd w zb sb) (heb : (Lit.int .i64 eb).wf = true) (zs : List Int) (hl : zs.length = 2) (hw : ∀ z ∈ zs, (Lit.int .i64 z).wf = true) (hL : Laid w) :
    Calls Tryd.prog 5 #[.agg #[x, y, z, .int .i64 e], .agg #[xb, yb, zb, .int .i64 eb], .agg (zs.map (Value.int .i64)).toArray] w fun en w' => en = .returned (.bool true) ∧ New w w' := by
  obtain ⟨a, c, rfl, ha, hc⟩ := pair_of17 hl hw
  exact contextsWalk vltApi w x y z k g s e hx hy hz (wf_i64_lt he) xb yb zb kb gb sb eb hxb hyb hzb (wf_i64_lt heb) a c ha hc hL

end Go.Proofs.YtgfljldegodpgaaDoor
