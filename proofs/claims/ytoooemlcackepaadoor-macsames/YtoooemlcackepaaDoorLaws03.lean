/-
  MacTags, MacNoughts, MacSames: the laws, their arguments in the rows' order.
-/
import Derived.Test.YtoooemlcackepaaDoorTags03
import Derived.Test.YtoooemlcackepaaDoorNoughts03
import Derived.Test.YtoooemlcackepaaDoorSames03
namespace Go.Proofs.YtoooemlcackepaaDoor
open Go.RowKit

theorem tagsLaw (w : World) (x : Value) (k : List UInt8) (hx : Rd w x k) (hkb : k.length < 140737488355328) (y : Value) (a : List UInt8) (hy : Rd w y a) (hab : a.length < 140737488355328) (z : Value) (b : List UInt8) (hz : Rd w z b) (hbb : b.length < 140737488355328) (hL : Laid w) :
    Calls Tryd.prog 3 #[x, y, z] w fun e w' => e = .returned (.bool true) ∧ New w w' := tagsWalk w x y z k a b hx hkb hy hab hz hbb hL

theorem noughtsLaw (w : World) (x : Value) (k : List UInt8) (hx : Rd w x k) (y : Value) (l : List UInt8) (hy : Rd w y l) (n : Int) (hn : (Lit.int .u8 n).wf = true) (hL : Laid w) :
    Calls Tryd.prog 4 #[x, y, .int .u8 n] w fun e w' => e = .returned (.bool true) ∧ New w w' := by
  have e : 0 ≤ n ∧ n ≤ 255 := by simpa [Lit.wf, IntKind.min, IntKind.max, IntKind.signed, IntKind.bits] using hn
  exact noughtsWalk w x y k l hx hy n e.1 e.2 hL

theorem samesLaw (w : World) (x : Value) (a : List UInt8) (hx : Rd w x a) (y : Value) (b : List UInt8) (hy : Rd w y b) (hL : Laid w) :
    Calls Tryd.prog 5 #[x, y] w fun e w' => e = .returned (.bool true) ∧ New w w' := samesWalk w x y a b hx hy hL

end Go.Proofs.YtoooemlcackepaaDoor
