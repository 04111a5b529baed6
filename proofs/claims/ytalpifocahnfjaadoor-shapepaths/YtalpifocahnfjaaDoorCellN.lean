/-
  A block of any number of cells, as a list.
-/
import Derived.Test.YtalpifocahnfjaaDoorBase
namespace Go.Proofs.YtalpifocahnfjaaDoor
set_option linter.unusedVariables false
set_option linter.unusedSimpArgs false
open Go.RowKit

def AtN (w : World) (g : Nat) (t : TypeId) (cs : List Value) : Prop := w.heap[g]? = some (.cells cs.toArray t)

section
variable {w w' : World} {g : Nat} {t : TypeId} {cs : List Value}
theorem AtN.lt (k : AtN w g t cs) : g < w.heap.size := lt_of_block k
theorem AtN.new (k : AtN w g t cs) (hn : New w w') : AtN w' g t cs := (hn.block _ (lt_of_block k)).trans k
theorem AtN.only {F : Nat → Prop} (k : AtN w g t cs) (hn : Only F w w') (hg : ¬ F g) : AtN w' g t cs := (hn.block g (lt_of_block k) hg).trans k
theorem AtN.cell (k : AtN w g t cs) (i : Nat) {v : Value} (h : cs[i]? = some v) : w.cell? ⟨g, i, none⟩ = some v := by
  rw [cell_of_row w g i _ _ _ k]; simpa using h
theorem AtN.frozen (k : AtN w g t cs) (i : Nat) : w.frozen? ⟨g, i, none⟩ = false := frozen_of_row w g i _ _ k
theorem AtN.set (k : AtN w g t cs) (i : Nat) (u : Value) : AtN (w.setCell ⟨g, i, none⟩ u) g t (cs.set i u) := by
  unfold AtN; rw [heap_setCell_same _ _ _ _ _ _ k]; simp
theorem AtN.drew (k : AtN w g t cs) : AtN w.drew g t cs := k
end

theorem AtN.made (w : World) (t : TypeId) (cs : List Value) : AtN (w.alloc (.cells cs.toArray t)) w.heap.size t cs := heap_alloc_new w _

end Go.Proofs.YtalpifocahnfjaaDoor
