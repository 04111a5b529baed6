/-
  A block of four cells.
-/
import Derived.Test.YtjkhklbeimgggaaDoorBase
namespace Go.Proofs.YtjkhklbeimgggaaDoor
set_option linter.unusedVariables false
set_option linter.unusedSimpArgs false
open Go.RowKit

def At4 (w : World) (g : Nat) (t : TypeId) (a b c d : Value) : Prop := w.heap[g]? = some (.cells #[a, b, c, d] t)

section
variable {w w' : World} {g : Nat} {t : TypeId} {a b c d : Value}
theorem At4.lt (k : At4 w g t a b c d) : g < w.heap.size := lt_of_block k
theorem At4.new (k : At4 w g t a b c d) (hn : New w w') : At4 w' g t a b c d := (hn.block _ (lt_of_block k)).trans k
theorem At4.only {F : Nat → Prop} (k : At4 w g t a b c d) (hn : Only F w w') (hg : ¬ F g) : At4 w' g t a b c d := (hn.block g (lt_of_block k) hg).trans k
theorem At4.cells (k : At4 w g t a b c d) : w.cell? ⟨g, 0, none⟩ = some a ∧ w.cell? ⟨g, 1, none⟩ = some b ∧ w.cell? ⟨g, 2, none⟩ = some c ∧ w.cell? ⟨g, 3, none⟩ = some d :=
  ⟨by rw [cell_of_row w g 0 _ _ _ k]; rfl, by rw [cell_of_row w g 1 _ _ _ k]; rfl, by rw [cell_of_row w g 2 _ _ _ k]; rfl, by rw [cell_of_row w g 3 _ _ _ k]; rfl⟩
theorem At4.frozen (k : At4 w g t a b c d) : w.frozen? ⟨g, 0, none⟩ = false ∧ w.frozen? ⟨g, 1, none⟩ = false ∧ w.frozen? ⟨g, 2, none⟩ = false ∧ w.frozen? ⟨g, 3, none⟩ = false :=
  ⟨frozen_of_row w g 0 _ _ k, frozen_of_row w g 1 _ _ k, frozen_of_row w g 2 _ _ k, frozen_of_row w g 3 _ _ k⟩
theorem At4.set0 (k : At4 w g t a b c d) (u : Value) : At4 (w.setCell ⟨g, 0, none⟩ u) g t u b c d := by
  unfold At4; rw [heap_setCell_same _ _ _ _ _ _ k]; rfl
theorem At4.set1 (k : At4 w g t a b c d) (u : Value) : At4 (w.setCell ⟨g, 1, none⟩ u) g t a u c d := by
  unfold At4; rw [heap_setCell_same _ _ _ _ _ _ k]; rfl
theorem At4.set2 (k : At4 w g t a b c d) (u : Value) : At4 (w.setCell ⟨g, 2, none⟩ u) g t a b u d := by
  unfold At4; rw [heap_setCell_same _ _ _ _ _ _ k]; rfl
theorem At4.set3 (k : At4 w g t a b c d) (u : Value) : At4 (w.setCell ⟨g, 3, none⟩ u) g t a b c u := by
  unfold At4; rw [heap_setCell_same _ _ _ _ _ _ k]; rfl
theorem At4.put (k : At4 w g t a b c d) (a' b' c' d' : Value) : At4 ((((w.setCell ⟨g, 0, none⟩ a').setCell ⟨g, 1, none⟩ b').setCell ⟨g, 2, none⟩ c').setCell ⟨g, 3, none⟩ d') g t a' b' c' d' := (((k.set0 a').set1 b').set2 c').set3 d'
end

theorem only_cell (w : World) (g i : Nat) (u : Value) : Only (fun k => k = g) w (w.setCell ⟨g, i, none⟩ u) := (Only.refl (fun k => k = g) w).setCell (fun _ => rfl) u

theorem At4.put_only (w : World) (g : Nat) (a b c d : Value) : Only (fun k => k = g) w ((((w.setCell ⟨g, 0, none⟩ a).setCell ⟨g, 1, none⟩ b).setCell ⟨g, 2, none⟩ c).setCell ⟨g, 3, none⟩ d) :=
  ((((Only.refl (fun k => k = g) w).setCell (p := ⟨g, 0, none⟩) (fun _ => rfl) a).setCell (p := ⟨g, 1, none⟩) (fun _ => rfl) b).setCell (p := ⟨g, 2, none⟩) (fun _ => rfl) c).setCell (p := ⟨g, 3, none⟩) (fun _ => rfl) d

theorem At4.made (w : World) (t : TypeId) (a b c d : Value) : At4 (w.alloc (.cells #[a, b, c, d] t)) w.heap.size t a b c d := heap_alloc_new w _

end Go.Proofs.YtjkhklbeimgggaaDoor
