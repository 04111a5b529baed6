/-
  PowerKeys, PowerShares: the laws, their arguments in the rows' order.
-/
import Derived.Test.YtfilimhjhaokkaaDoorKeys07
namespace Go.Proofs.YtfilimhjhaokkaaDoor
open Go.RowKit

theorem keysLaw (w : World) (x : Value) (s : List UInt8) (hx : Rd w x s) (n : Int) (hn : (Lit.int .u64 n).wf = true) (hL : Laid w) :
    Calls Tryd.prog 3 #[x, .int .u64 n] w fun e w' => e = .returned (.bool true) ∧ New w w' := by
  obtain ⟨m, rfl, hm⟩ := nat_of_u64 hn
  exact keysWalk w x s m hm hx hL

theorem sharesLaw (w : World) (x : Value) (s : List UInt8) (hx : Rd w x s) (y : Value) (t : List UInt8) (hy : Rd w y t) (hL : Laid w) :
    Calls Tryd.prog 4 #[x, y] w fun e w' => e = .returned (.bool true) ∧ New w w' := sharesWalk w x y s t hx hy hL

end Go.Proofs.YtfilimhjhaokkaaDoor
