/-
  Cells set one behind the other in a row; clear of a whole row of bytes.
-/
import Derived.Test.YtnekcdpfphgpbaaBase
import Derived.Lib.SliceRun
namespace Go.Proofs.Ytnekcdpfphgpbaa
set_option linter.unusedVariables false
set_option linter.unusedSimpArgs false
set_option maxRecDepth 100000
open Go.RowKit

theorem setCells_row (k : Nat) (e : TypeId) : ∀ (vs : List Value) (o : Nat) (w : World) (xs : List Value), w.heap[k]? = some (.cells xs.toArray e (0, 0)) → o + vs.length ≤ xs.length →
    (∃ ys : List Value, (w.setCells k o vs).heap[k]? = some (.cells ys.toArray e (0, 0)) ∧ ys.length = xs.length ∧ ∀ j, ys[j]? = if o ≤ j ∧ j < o + vs.length then vs[j - o]? else xs[j]?) ∧ Only (fun i => i = k) w (w.setCells k o vs) := by
  intro vs
  induction vs with
  | nil =>
    intro o w xs h _
    refine ⟨⟨xs, h, rfl, fun j => ?_⟩, Only.refl _ _⟩
    rw [if_neg (by simp only [List.length_nil]; omega)]
  | cons v r ih =>
    intro o w xs h hl
    rw [List.length_cons] at hl
    have h1 : (w.setCell ⟨k, o, none⟩ v).heap[k]? = some (.cells (xs.set o v).toArray e (0, 0)) := by rw [heap_setCell_same _ _ _ _ _ _ h]; simp
    obtain ⟨⟨ys, h2, h3, h4⟩, h5⟩ := ih (o + 1) _ (xs.set o v) h1 (by rw [List.length_set]; omega)
    refine ⟨⟨ys, h2, by rw [h3, List.length_set], fun j => ?_⟩, (only_cell w k o v).trans h5 (fun _ _ h => h)⟩
    rw [h4, List.length_cons]
    by_cases hj : j = o
    · subst hj
      rw [if_neg (by omega), if_pos (by omega), Nat.sub_self, List.getElem?_cons_zero, List.getElem?_set_self (by omega)]
    · by_cases hj2 : o + 1 ≤ j ∧ j < o + 1 + r.length
      · rw [if_pos hj2, if_pos (by omega), show j - o = (j - (o + 1)) + 1 by omega, List.getElem?_cons_succ]
      · rw [if_neg hj2, if_neg (by omega), List.getElem?_set_ne (fun e => hj e.symm)]

end Go.Proofs.Ytnekcdpfphgpbaa
