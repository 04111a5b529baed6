/-
  A struct of two cells: kept in a block of its own, returned from there.
-/
import Derived.Test.YtkpenodbjmhoeaaDoorBase
import Derived.Laws.Rows
namespace Go.Proofs.YtkpenodbjmhoeaaDoor
set_option linter.unusedVariables false
set_option linter.unusedSimpArgs false
open Go.RowKit

theorem set2 {w : World} {g : Nat} {x y : Value} {t : TypeId} (u v : Value) (hg : w.heap[g]? = some (.cells #[x, y] t)) : ((w.setCell ⟨g, 0, none⟩ u).setCell ⟨g, 1, none⟩ v).heap[g]? = some (.cells #[u, v] t) := by
  rw [heap_setCell_same _ _ _ _ _ _ (heap_setCell_same _ _ _ _ _ _ hg)]
  rfl

theorem set2_only (w : World) (g : Nat) (u v : Value) : Only (fun k => k = g) w ((w.setCell ⟨g, 0, none⟩ u).setCell ⟨g, 1, none⟩ v) :=
  ((Only.refl (fun k => k = g) w).setCell (p := ⟨g, 0, none⟩) (fun _ => rfl) _).setCell (p := ⟨g, 1, none⟩) (fun _ => rfl) _

theorem set2_new {w0 w : World} {g : Nat} (u v : Value) (hn : New w0 w) (hg : w0.heap.size ≤ g) : New w0 ((w.setCell ⟨g, 0, none⟩ u).setCell ⟨g, 1, none⟩ v) :=
  (hn.setCell (p := ⟨g, 0, none⟩) (by exact hg) _).setCell (p := ⟨g, 1, none⟩) (by exact hg) _

/-- a block of two cells -/
def At2 (w : World) (g : Nat) (t : TypeId) (x y : Value) : Prop := w.heap[g]? = some (.cells #[x, y] t)

theorem At2.new {w w' : World} {g : Nat} {t : TypeId} {x y : Value} (h : At2 w g t x y) (hn : New w w') : At2 w' g t x y := (hn.block _ (lt_of_block h)).trans h

theorem At2.only {F : Nat → Prop} {w w' : World} {g : Nat} {t : TypeId} {x y : Value} (h : At2 w g t x y) (hn : Only F w w') (hg : ¬ F g) : At2 w' g t x y := (hn.block g (lt_of_block h) hg).trans h

theorem At2.cells {w : World} {g : Nat} {t : TypeId} {x y : Value} (h : At2 w g t x y) : w.cell? ⟨g, 0, none⟩ = some x ∧ w.cell? ⟨g, 1, none⟩ = some y :=
  ⟨by rw [cell_of_row w g 0 _ _ _ h]; rfl, by rw [cell_of_row w g 1 _ _ _ h]; rfl⟩

theorem At2.frozen {w : World} {g : Nat} {t : TypeId} {x y : Value} (h : At2 w g t x y) : w.frozen? ⟨g, 0, none⟩ = false ∧ w.frozen? ⟨g, 1, none⟩ = false :=
  ⟨frozen_of_row w g 0 _ _ h, frozen_of_row w g 1 _ _ h⟩

theorem results_cell_tmp {P : Program} {fn : Func} {p u : Tmp} {ty : TypeId} (h : fn.results = #[.cell p ty, .tmp u]) (tmps : Array Value) (w : World) (g : Nat) (t : TypeId) (cs : Array Value) (fr : Nat × Nat) (d : TypeDesc)
    (hp : tmps.getD p undef = .pointer (some ⟨g, 0, none⟩)) (hg : w.heap[g]? = some (.cells cs t fr))
    (hu : P.underlying ty = some d) (hd : (match d with | .struct _ | .array _ _ => true | _ => false) = true) (hi : (P.info? ty).map (·.size) = some cs.size) :
    (results fn tmps).run P w = .ok (.tuple #[.agg cs, tmps.getD u undef]) w := by
  have hp' : tmps[p]?.getD undef = .pointer (some ⟨g, 0, none⟩) := by simpa using hp
  simp [results, h, hp', asAddr, run_loadVar_row w g t ty cs fr d hg hu hd hi]

end Go.Proofs.YtkpenodbjmhoeaaDoor
