/-
  A block of five cells; a struct of one's own, returned from its block.
-/
import Derived.Test.YtliojldkdmaofaaDoorBase
namespace Go.Proofs.YtliojldkdmaofaaDoor
set_option linter.unusedVariables false
set_option linter.unusedSimpArgs false
open Go.RowKit

def At5 (w : World) (g : Nat) (t : TypeId) (a b c d e : Value) : Prop := w.heap[g]? = some (.cells #[a, b, c, d, e] t)

section
variable {w w' : World} {g : Nat} {t : TypeId} {a b c d e : Value}
theorem At5.lt (k : At5 w g t a b c d e) : g < w.heap.size := lt_of_block k
theorem At5.new (k : At5 w g t a b c d e) (hn : New w w') : At5 w' g t a b c d e := (hn.block _ (lt_of_block k)).trans k
theorem At5.only {F : Nat → Prop} (k : At5 w g t a b c d e) (hn : Only F w w') (hg : ¬ F g) : At5 w' g t a b c d e := (hn.block g (lt_of_block k) hg).trans k
theorem At5.cells (k : At5 w g t a b c d e) : w.cell? ⟨g, 0, none⟩ = some a ∧ w.cell? ⟨g, 1, none⟩ = some b ∧ w.cell? ⟨g, 2, none⟩ = some c ∧ w.cell? ⟨g, 3, none⟩ = some d ∧ w.cell? ⟨g, 4, none⟩ = some e :=
  ⟨by rw [cell_of_row w g 0 _ _ _ k]; rfl, by rw [cell_of_row w g 1 _ _ _ k]; rfl, by rw [cell_of_row w g 2 _ _ _ k]; rfl, by rw [cell_of_row w g 3 _ _ _ k]; rfl, by rw [cell_of_row w g 4 _ _ _ k]; rfl⟩
theorem At5.frozen (k : At5 w g t a b c d e) : w.frozen? ⟨g, 0, none⟩ = false ∧ w.frozen? ⟨g, 1, none⟩ = false ∧ w.frozen? ⟨g, 2, none⟩ = false ∧ w.frozen? ⟨g, 3, none⟩ = false ∧ w.frozen? ⟨g, 4, none⟩ = false :=
  ⟨frozen_of_row w g 0 _ _ k, frozen_of_row w g 1 _ _ k, frozen_of_row w g 2 _ _ k, frozen_of_row w g 3 _ _ k, frozen_of_row w g 4 _ _ k⟩
theorem At5.set0 (k : At5 w g t a b c d e) (u : Value) : At5 (w.setCell ⟨g, 0, none⟩ u) g t u b c d e := by
  unfold At5; rw [heap_setCell_same _ _ _ _ _ _ k]; rfl
theorem At5.set1 (k : At5 w g t a b c d e) (u : Value) : At5 (w.setCell ⟨g, 1, none⟩ u) g t a u c d e := by
  unfold At5; rw [heap_setCell_same _ _ _ _ _ _ k]; rfl
theorem At5.set2 (k : At5 w g t a b c d e) (u : Value) : At5 (w.setCell ⟨g, 2, none⟩ u) g t a b u d e := by
  unfold At5; rw [heap_setCell_same _ _ _ _ _ _ k]; rfl
theorem At5.set3 (k : At5 w g t a b c d e) (u : Value) : At5 (w.setCell ⟨g, 3, none⟩ u) g t a b c u e := by
  unfold At5; rw [heap_setCell_same _ _ _ _ _ _ k]; rfl
theorem At5.set4 (k : At5 w g t a b c d e) (u : Value) : At5 (w.setCell ⟨g, 4, none⟩ u) g t a b c d u := by
  unfold At5; rw [heap_setCell_same _ _ _ _ _ _ k]; rfl
end

/-- all five cells written -/
def put5 (w : World) (g : Nat) (a b c d e : Value) : World := ((((w.setCell ⟨g, 0, none⟩ a).setCell ⟨g, 1, none⟩ b).setCell ⟨g, 2, none⟩ c).setCell ⟨g, 3, none⟩ d).setCell ⟨g, 4, none⟩ e

theorem At5.put {w : World} {g : Nat} {t : TypeId} {a b c d e : Value} (k : At5 w g t a b c d e) (a' b' c' d' e' : Value) : At5 (put5 w g a' b' c' d' e') g t a' b' c' d' e' := ((((k.set0 a').set1 b').set2 c').set3 d').set4 e'

theorem put5_only (w : World) (g : Nat) (a b c d e : Value) : Only (fun k => k = g) w (put5 w g a b c d e) :=
  (((((Only.refl (fun k => k = g) w).setCell (p := ⟨g, 0, none⟩) (fun _ => rfl) a).setCell (p := ⟨g, 1, none⟩) (fun _ => rfl) b).setCell (p := ⟨g, 2, none⟩) (fun _ => rfl) c).setCell (p := ⟨g, 3, none⟩) (fun _ => rfl) d).setCell (p := ⟨g, 4, none⟩) (fun _ => rfl) e

theorem put5_new {w0 w : World} {g : Nat} (hn : New w0 w) (hg : w0.heap.size ≤ g) (a b c d e : Value) : New w0 (put5 w g a b c d e) :=
  Below.trans hn ((put5_only w g a b c d e).below hn.size (fun k hk => by omega))

theorem At5.made (w : World) (t : TypeId) (a b c d e : Value) : At5 (w.alloc (.cells #[a, b, c, d, e] t)) w.heap.size t a b c d e := heap_alloc_new w _

theorem results_cell1 {P : Program} {fn : Func} {p : Tmp} {ty : TypeId} (h : fn.results = #[.cell p ty]) (tmps : Array Value) (w : World) (g : Nat) (t : TypeId) (cs : Array Value) (fr : Nat × Nat) (d : TypeDesc)
    (hp : tmps.getD p undef = .pointer (some ⟨g, 0, none⟩)) (hg : w.heap[g]? = some (.cells cs t fr))
    (hu : P.underlying ty = some d) (hd : (match d with | .struct _ | .array _ _ => true | _ => false) = true) (hi : (P.info? ty).map (·.size) = some cs.size) :
    (results fn tmps).run P w = .ok (.agg cs) w := by
  have hp' : tmps[p]?.getD undef = .pointer (some ⟨g, 0, none⟩) := by simpa using hp
  simp [results, h, hp', asAddr, run_loadVar_row w g t ty cs fr d hg hu hd hi]

end Go.Proofs.YtliojldkdmaofaaDoor
