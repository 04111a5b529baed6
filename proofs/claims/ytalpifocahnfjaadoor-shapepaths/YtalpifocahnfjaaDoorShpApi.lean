/-
  Layer 18: what the statements' walks want of the program. (A structure of facts, to be proved of the code that landed.)
-/
import Derived.Test.YtalpifocahnfjaaDoorRefShp3
namespace Go.Proofs.YtalpifocahnfjaaDoor
set_option linter.unusedVariables false
open Go.RowKit

def in64 (e : Int) : Prop := -9223372036854775808 ≤ e ∧ e ≤ 9223372036854775807

structure ShpApi (La : World → Prop) : Prop where
  keep : ∀ {w w' : World}, La w → New w w' → La w'
  fits : ∀ (w : World) (n : Int), in64 n → Calls Tryd.prog 15 #[.int .i64 n] w fun e w' => e = .returned (.bool (shFits n)) ∧ New w w'
  width : ∀ (w : World) (n : Int), in64 n → Calls Tryd.prog 16 #[.int .i64 n] w fun e w' => e = .returned (.int .i64 (shWidth n)) ∧ New w w'
  level : ∀ (w : World) (n : Int), La w → in64 n → Calls Tryd.prog 12 #[.int .i64 n] w fun e w' => e = .returned (.int .i64 (shLevel n)) ∧ New w w'
  left : ∀ (w : World) (n : Int), La w → in64 n → Calls Tryd.prog 7 #[.int .i64 n] w fun e w' => e = .returned (.tuple #[.int .i64 (shLeft n), .bool (shKid n)]) ∧ New w w'
  right : ∀ (w : World) (n : Int), La w → in64 n → Calls Tryd.prog 8 #[.int .i64 n] w fun e w' => e = .returned (.tuple #[.int .i64 (shRight n), .bool (shKid n)]) ∧ New w w'
  under : ∀ (w : World) (n : Int), La w → in64 n → Calls Tryd.prog 10 #[.int .i64 n] w fun e w' => e = .returned (.tuple #[.int .i64 (shFirst n), .int .i64 (shLast n)]) ∧ New w w'
  above : ∀ (w : World) (n m : Int), La w → in64 n → in64 m → Calls Tryd.prog 17 #[.int .i64 n, .int .i64 m] w fun e w' => e = .returned (.tuple #[.int .i64 (shAbove n m), .bool (decide (shUp n m))]) ∧ New w w'
  beside : ∀ (w : World) (n m : Int), La w → in64 n → in64 m → Calls Tryd.prog 19 #[.int .i64 n, .int .i64 m] w fun e w' => e = .returned (.tuple #[.int .i64 (shBeside n m), .bool (decide (shUp n m))]) ∧ New w w'
  path : ∀ (w : World) (n m : Int), La w → in64 n → in64 m → Calls Tryd.prog 21 #[.int .i64 n, .int .i64 m] w (PathTo18 w (shPath n m))

end Go.Proofs.YtalpifocahnfjaaDoor
