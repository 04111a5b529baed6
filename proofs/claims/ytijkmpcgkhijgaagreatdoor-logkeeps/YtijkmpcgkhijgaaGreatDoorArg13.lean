/-
  The argument '[][]byte' of statements.
-/
import Derived.Test.YtijkmpcgkhijgaaGreatDoorOpen
import Derived.Test.YtijkmpcgkhijgaaGreatDoorBase
namespace Go.Proofs.YtijkmpcgkhijgaaGreatDoor
set_option linter.unusedVariables false
set_option linter.unusedSimpArgs false
open Go.RowKit

theorem texts_open {H : Type} {enc : TypeId × Value → H} {W : World} {base : Nat} {spare : Nat → Bool} {held : Bool} {a : Option Addr} {n c : Nat} {d : DataW H} {p : List MemPlace} (h : DataW.Trod enc Tryz.prog W base spare held 52 (.slice a n c) d p) :
    ∃ ps, RdL W (.slice a n c) ps := by
  obtain ⟨fuel, hf⟩ := h
  obtain ⟨css, m, h1, h2⟩ := rdn_of_trod (v := .slice a n c) Tryz.underlying52 (e := 42) (size := 1) (by kernel_rfl) hf
  have key : ∀ css : List (List Value), (∀ cs ∈ css, cs.length = 1 ∧ ∃ y, DataW.trod enc Tryz.prog W base spare held m 42 cs = some y) → ∃ ps : List (Value × List UInt8), css = ps.map (fun p => [p.1]) ∧ ∀ p ∈ ps, Rd W p.1 p.2 := by
    intro css
    induction css with
    | nil => intro _; exact ⟨[], rfl, by simp⟩
    | cons cs r ih =>
      intro hh
      obtain ⟨ps, e, hr⟩ := ih (fun x hx => hh x (by simp [hx]))
      obtain ⟨hl, y, hy⟩ := hh cs (by simp)
      match cs, hl with
      | [v], _ =>
        obtain ⟨l, hv⟩ := rd_of_trod hy
        exact ⟨(v, l) :: ps, by simp [e], fun p hp => by
          rcases List.mem_cons.1 hp with rfl | hp
          · exact hv
          · exact hr p hp⟩
  obtain ⟨ps, e, hr⟩ := key css h2
  refine ⟨ps, ?_, hr⟩
  obtain ⟨a', n', c', e', g1, g2, g3, g4, g5⟩ := h1
  cases e'
  refine ⟨a, n, c, rfl, by rw [List.length_map, ← g1, e, List.length_map], g2, g3, g4, fun ad had i u hu => ?_⟩
  have := g5 ad had i [u] (by
    rw [e, List.getElem?_map]
    rw [List.getElem?_map] at hu
    cases hp : ps[i]? with
    | none => rw [hp] at hu; cases hu
    | some p => rw [hp] at hu; cases hu; rfl) 0 u rfl
  rwa [Nat.mul_one, Nat.add_zero] at this

end Go.Proofs.YtijkmpcgkhijgaaGreatDoor
