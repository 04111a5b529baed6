/-
  Layer 17: what the statements' walks want of the program. (A structure of facts, to be proved of the code that landed.)
-/
import Derived.Test.YtgfljldegodpgaaDoorVltSpec
import Derived.Test.YtgfljldegodpgaaDoorShaB
namespace Go.Proofs.YtgfljldegodpgaaDoor
set_option linter.unusedVariables false
open Go.RowKit

def i64In (e : Int) : Prop := -9223372036854775808 ≤ e ∧ e ≤ 9223372036854775807

structure VltApi : Prop where
  ctx : ∀ (w : World) (x : Value) (g : List UInt8) (e : Int), Rd w x g → g.length ≤ 1000 → i64In e →
    Calls Tryd.prog 12 #[x, .int .i64 e] w fun en w' => ∃ a n c, en = .returned (.slice a n c) ∧ Rd w' (.slice a n c) (vCx g e) ∧ New w w'
  wrap : ∀ (w : World) (x y z : Value) (k g s : List UInt8) (e : Int), Rd w x k → k.length ≤ 1000 → Rd w y g → g.length ≤ 1000 → i64In e → Rd w z s → s.length ≤ 1000 → Laid w →
    Calls Tryd.prog 8 #[x, y, .int .i64 e, z] w fun en w' => ∃ a n c, en = .returned (.tuple #[.slice a n c, .int .i64 (vwErr k g e s)]) ∧ Rd w' (.slice a n c) (vwText k g e s) ∧ New w w'
  unwrap : ∀ (w : World) (x y z : Value) (k g s : List UInt8) (e : Int), Rd w x k → k.length ≤ 1000 → Rd w y g → g.length ≤ 1000 → i64In e → Rd w z s → s.length ≤ 1000 → Laid w →
    Calls Tryd.prog 10 #[x, y, .int .i64 e, z] w fun en w' => ∃ a n c, en = .returned (.tuple #[.slice a n c, .int .i64 (vuErr k g e s)]) ∧ Rd w' (.slice a n c) (vuText k g e s) ∧ New w w'
  bucket : ∀ (w : World) (t p : Int), i64In t → i64In p → Calls Tryd.prog 14 #[.int .i64 t, .int .i64 p] w fun en w' => en = .returned (.int .i64 (vBucket t p)) ∧ w = w'

end Go.Proofs.YtgfljldegodpgaaDoor
