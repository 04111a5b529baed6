/-
  From the rows' condition on the two tables of package sha to what the walks ask; a heap that meets it.
-/
import Derived.Test.YtliojldkdmaofaaDoorRows
import Derived.Test.YtliojldkdmaofaaDoorShaB
import Derived.LaidMore
import Derived.Lib.LaidTab
import Derived.Stop.LaidErr
import Derived.ProofKit
import Derived.OpenShut
import Derived.Stop.Joined
namespace Go.Proofs.YtliojldkdmaofaaDoor
set_option linter.unusedVariables false
set_option linter.unusedSimpArgs false
open Go.RowKit

def laid2 : List (String × DataW Unit) := [("engrosser/sha.initial", Rows.laid_engrosser_sha_initial), ("engrosser/sha.constants", Rows.laid_engrosser_sha_constants)]

def zs0 : List Int := [1779033703, 3144134277, 1013904242, 2773480762, 1359893119, 2600822924, 528734635, 1541459225]
def zs1 : List Int := kTab.map fun x => (x.toNat : Int)

theorem laid0_eq : (Rows.laid_engrosser_sha_initial : DataW Unit) = Lib.tabData .u32 zs0 := by kernel_rfl
theorem laid1_eq : (Rows.laid_engrosser_sha_constants : DataW Unit) = Lib.tabData .u32 zs1 := by kernel_rfl
theorem zs0_eq : (zs0.map fun z => Value.int .u32 z).toArray = (h0.list.map wv).toArray := by kernel_rfl
theorem g0 : Tryd.prog.globalNamed "engrosser/sha.initial" = some 0 := by kernel_rfl
theorem g1 : Tryd.prog.globalNamed "engrosser/sha.constants" = some 1 := by kernel_rfl
theorem tg0 : (Tryd.prog.globals[0]?).map (·.type) = some 70 := by kernel_rfl
theorem tg1 : (Tryd.prog.globals[1]?).map (·.type) = some 77 := by kernel_rfl
theorem u8w : Tryd.prog.underlying 70 = some (.array 8 62) := by kernel_rfl
theorem u64w : Tryd.prog.underlying 77 = some (.array 64 62) := by kernel_rfl
theorem c1w : Tryd.prog.cellsOf 62 = 1 := by kernel_rfl
theorem c8w : Tryd.prog.cellsOf 70 = 8 := by kernel_rfl
theorem c64w : Tryd.prog.cellsOf 77 = 64 := by kernel_rfl

theorem laid_of {W : World} (h : laidMetH Tryd.prog laid2 W) : Laid W := by
  rw [MakeChecks.laidMetH_plain _ _ _ (by kernel_rfl)] at h
  have ha : laidMet Tryd.prog (("engrosser/sha.initial", Lib.tabData .u32 zs0) :: [("engrosser/sha.constants", Rows.laid_engrosser_sha_constants)]) W := by
    rw [← laid0_eq]; exact h
  have hb : laidMet Tryd.prog (("engrosser/sha.constants", Lib.tabData .u32 zs1) :: []) W := by
    rw [← laid1_eq]; exact laidMet.tail ha
  have t0 := Lib.tabIs_of_head g0 tg0 u8w Tryd.underlying62 c1w c8w ha
  have t1 := Lib.tabIs_of_head g1 tg1 u64w Tryd.underlying62 c1w c64w hb
  refine ⟨?_, fun i hi => ?_⟩
  · unfold Lib.TabIs World.var? at t0
    rw [g0] at t0
    simp only [Option.bind_some] at t0
    cases ho : W.heap[0]? with
    | none => rw [ho] at t0; cases t0
    | some o =>
      rw [ho] at t0
      cases o with
      | cells cs t fr =>
        simp only [Option.some.injEq] at t0
        rw [t0, zs0_eq]
        exact ⟨t, fr, rfl⟩
      | _ => cases t0
  · rw [t1.cell g1 i (by simpa [zs1, kTab] using hi)]
    have e : zs1.getD i 0 = ((kTab.getD i 0).toNat : Int) := by
      unfold zs1
      rw [List.getD_eq_getElem?_getD, List.getElem?_map, List.getD_eq_getElem?_getD]
      cases kTab[i]? <;> rfl
    rw [e]

/-- The door's own heap meets the condition. -/
theorem door_met (os : Os) (args : Array Value) : laidMetH Tryd.prog laid2 ((World.doorLaid Tryd.prog 19 os).forCall (fun _ _ => 0) ⟨#[], args, []⟩).memory :=
  laidMetH_of_parts3 (fuel := 8) (laidMet_of_run' 8 (by kernel_rfl) (by kernel_rfl)) (by kernel_rfl) (by kernel_rfl)

end Go.Proofs.YtliojldkdmaofaaDoor
