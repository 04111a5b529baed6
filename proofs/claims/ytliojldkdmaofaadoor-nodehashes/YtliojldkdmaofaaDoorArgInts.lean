/-
  A slice of integers, opened.
-/
import Derived.Test.YtliojldkdmaofaaDoorOpen
namespace Go.Proofs.YtliojldkdmaofaaDoor
set_option linter.unusedVariables false
set_option linter.unusedSimpArgs false
open Go.ChangeShapes Go.WideShapes Go.ChangeAt Go.RowKit

theorem ints_open {H : Type} {enc : TypeId × Value → H} {W : World} {base : Nat} {spare : Nat → Bool} {held : Bool} {a : Option Addr} {n c : Nat} {d : DataW H} {p : List MemPlace} (h : DataW.Trod enc Tryd.prog W base spare held 24 (.slice a n c) d p) :
    ∃ l : List Int, RdV W (.slice a n c) (l.map (Value.int .i64)) := by
  obtain ⟨fuel, hf⟩ := h
  rcases open_ints Tryd.underlying24 Tryd.underlying3 (by kernel_rfl) hf with ⟨hcs, _⟩ | ⟨a, l, c, zs, hcs, _, hl, hm, hz, _, hcell, _⟩
  · cases hcs; exact ⟨[], RdV.nil _⟩
  · cases hcs
    have hzl : n ≤ zs.length := by rw [hz]; split <;> omega
    refine ⟨zs.take n, _, _, _, rfl, by simp; omega, hl, hm, (fun h => by cases h), fun ad had i u hu => ?_⟩
    cases had
    rw [List.getElem?_map, List.getElem?_take] at hu
    split at hu
    · cases hg : zs[i]? with
      | none => rw [hg] at hu; cases hu
      | some m =>
        rw [hg] at hu
        cases hu
        have hi : i < zs.length := by omega
        rw [hcell i hi]
        have hn : zs.getD i 0 = m := by simp [List.getD, hg]
        rw [hn]
    · cases hu

end Go.Proofs.YtliojldkdmaofaaDoor
