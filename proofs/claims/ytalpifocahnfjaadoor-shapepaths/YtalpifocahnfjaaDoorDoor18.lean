/-
  From the rows' condition on math/bits' two tables to what the walks ask; a heap that meets it. The walks as the frames call them.
-/
import Derived.Test.YtalpifocahnfjaaDoorRows
import Derived.Test.YtalpifocahnfjaaDoorShpFns
import Derived.Test.YtalpifocahnfjaaDoorPaths18
import Derived.Test.YtalpifocahnfjaaDoorOpen
import Derived.LaidMore
import Derived.Lib.LaidTab
import Derived.Stop.LaidErr
import Derived.ProofKit
import Derived.OpenShut
import Derived.Stop.Joined
namespace Go.Proofs.YtalpifocahnfjaaDoor
set_option linter.unusedVariables false
set_option linter.unusedSimpArgs false
open Go.RowKit

def laid18 : List (String × DataW Unit) := [("math/bits.deBruijn32tab", Rows.laid_math_bits_deBruijn32tab), ("math/bits.deBruijn64tab", Rows.laid_math_bits_deBruijn64tab)]

def zs18 : List Int := deb.map fun x : Nat => (x : Int)

theorem laid64_eq : (Rows.laid_math_bits_deBruijn64tab : DataW Unit) = Lib.tabData .u8 zs18 := by kernel_rfl
theorem g64 : Tryd.prog.globalNamed "math/bits.deBruijn64tab" = some 1 := by kernel_rfl
theorem tg64 : (Tryd.prog.globals[1]?).map (·.type) = some 43 := by kernel_rfl
theorem u64b : Tryd.prog.underlying 43 = some (.array 64 5) := by kernel_rfl
theorem c1b : Tryd.prog.cellsOf 5 = 1 := by kernel_rfl
theorem c64b : Tryd.prog.cellsOf 43 = 64 := by kernel_rfl

theorem laid18_of {W : World} (h : laidMetH Tryd.prog laid18 W) : La18 W := by
  rw [MakeChecks.laidMetH_plain _ _ _ (by kernel_rfl)] at h
  have hb : laidMet Tryd.prog (("math/bits.deBruijn64tab", Lib.tabData .u8 zs18) :: []) W := by
    rw [← laid64_eq]; exact laidMet.tail h
  have t1 := Lib.tabIs_of_head g64 tg64 u64b Tryd.underlying5 c1b c64b hb
  intro i hi
  rw [t1.cell g64 i (by simpa [zs18, deb] using hi)]
  have e : zs18.getD i 0 = ((deb.getD i 0 : Nat) : Int) := by
    unfold zs18
    rw [List.getD_eq_getElem?_getD, List.getElem?_map, List.getD_eq_getElem?_getD]
    cases deb[i]? <;> rfl
  rw [e]

/-- The door's own heap meets the condition. -/
theorem door_met18 (os : Os) (args : Array Value) : laidMetH Tryd.prog laid18 ((World.doorLaid Tryd.prog 19 os).forCall (fun _ _ => 0) ⟨#[], args, []⟩).memory :=
  laidMetH_of_parts3 (fuel := 8) (laidMet_of_run' 8 (by kernel_rfl) (by kernel_rfl)) (by kernel_rfl) (by kernel_rfl)

theorem in64_wf {n : Int} (h : (Lit.int .i64 n).wf = true) : in64 n := by
  have := wf_i64_lt h
  unfold in64
  first | exact this | omega

theorem nodesLaw18 (w : World) (n : Int) (hn : (Lit.int .i64 n).wf = true) (m : Int) (hm : (Lit.int .i64 m).wf = true) (hL : La18 w) :
    Calls Tryd.prog 3 #[.int .i64 n, .int .i64 m] w fun e w' => e = .returned (.bool true) ∧ New w w' :=
  nodesWalk18 shpApi w hL n m (in64_wf hn) (in64_wf hm)

theorem aboveLaw18 (w : World) (n : Int) (hn : (Lit.int .i64 n).wf = true) (m : Int) (hm : (Lit.int .i64 m).wf = true) (hL : La18 w) :
    Calls Tryd.prog 4 #[.int .i64 n, .int .i64 m] w fun e w' => e = .returned (.bool true) ∧ New w w' :=
  aboveWalk18 shpApi w hL n m (in64_wf hn) (in64_wf hm)

theorem pathsLaw18 (w : World) (n : Int) (hn : (Lit.int .i64 n).wf = true) (m : Int) (hm : (Lit.int .i64 m).wf = true) (hL : La18 w) :
    Calls Tryd.prog 5 #[.int .i64 n, .int .i64 m] w fun e w' => e = .returned (.bool true) ∧ New w w' :=
  pathsWalk18 shpApi w hL n m (in64_wf hn) (in64_wf hm)

end Go.Proofs.YtalpifocahnfjaaDoor
