/-
  The argument 'Node' of layer 19's statements: five fields, by value.
-/
import Derived.Test.YtliojldkdmaofaaDoorOpen
import Derived.Test.YtliojldkdmaofaaDoorArgInts
import Derived.Test.YtliojldkdmaofaaDoorRefNode
namespace Go.Proofs.YtliojldkdmaofaaDoor
set_option linter.unusedVariables false
set_option linter.unusedSimpArgs false
set_option maxRecDepth 100000
open Go.ChangeShapes Go.WideShapes Go.ChangeAt Go.RowKit

theorem array5n {α : Type} {cs : Array α} (h : cs.size = 5) : ∃ c0 c1 c2 c3 c4, cs = #[c0, c1, c2, c3, c4] := by
  obtain ⟨l⟩ := cs
  match l, h with
  | [c0, c1, c2, c3, c4], _ => exact ⟨c0, c1, c2, c3, c4, rfl⟩

theorem trod_struct5n {H : Type} {enc : TypeId × Value → H} {w : World} {base : Nat} {spare : Nat → Bool} {held : Bool} {P : Program} {t : TypeId} {f0 f1 f2 f3 f4 : Field} {fuel : Nat} {cs : List Value} {x : DataW H × List MemPlace} (ht : P.underlying t = some (.struct #[f0, f1, f2, f3, f4])) (h : DataW.trod enc P w base spare held fuel t cs = some x) :
    ∃ y0 y1 y2 y3 y4 n, DataW.trod enc P w base spare held n f0.type ((cs.drop f0.offset).take (P.cellsOf f0.type)) = some y0 ∧ DataW.trod enc P w base spare held n f1.type ((cs.drop f1.offset).take (P.cellsOf f1.type)) = some y1 ∧ DataW.trod enc P w base spare held n f2.type ((cs.drop f2.offset).take (P.cellsOf f2.type)) = some y2 ∧ DataW.trod enc P w base spare held n f3.type ((cs.drop f3.offset).take (P.cellsOf f3.type)) = some y3 ∧ DataW.trod enc P w base spare held n f4.type ((cs.drop f4.offset).take (P.cellsOf f4.type)) = some y4 := by
  obtain ⟨xs, n, _, rfl, hl, hlen, hf⟩ := DataW.trod_struct ht h
  match xs, hlen with
  | [y0, y1, y2, y3, y4], _ => exact ⟨y0, y1, y2, y3, y4, n, by simpa using hf 0 f0 rfl, by simpa using hf 1 f1 rfl, by simpa using hf 2 f2 rfl, by simpa using hf 3 f3 rfl, by simpa using hf 4 f4 rfl⟩

/-- a slice's own value -/
theorem slice_of_trod19 {H : Type} {enc : TypeId × Value → H} {W : World} {base fuel : Nat} {spare : Nat → Bool} {held : Bool} {v : Value} {t e : TypeId} (ht : Tryd.prog.underlying t = some (.slice e)) {x : DataW H × List MemPlace} (h : DataW.trod enc Tryd.prog W base spare held fuel t [v] = some x) : ∃ a n c, v = .slice a n c := by
  rcases Deep.open_slice ht h with ⟨hcs, _⟩ | ⟨a, len, cap, m, n, D, Pl, hcs, _, hl, hm, hmm, _, hx⟩
  · cases hcs; exact ⟨none, 0, 0, rfl⟩
  · cases hcs; exact ⟨_, _, _, rfl⟩

/-- a struct of a node's five fields, by value -/
theorem five19_open {H : Type} {enc : TypeId × Value → H} {W : World} {base b0 : Nat} {r : Reach} {spare : Nat → Bool} {held : Bool} {v : Value} {d : DataW H} {p : List MemPlace} {t : TypeId} {f0 f1 f2 f3 f4 : Field} (ht : Tryd.prog.underlying t = some (.struct #[f0, f1, f2, f3, f4]))
    (e0 : f0.type = 3 ∧ f0.offset = 0) (e1 : f1.type = 22 ∧ f1.offset = 1) (e2 : f2.type = 23 ∧ f2.offset = 2) (e3 : f3.type = 22 ∧ f3.offset = 3) (e4 : f4.type = 24 ∧ f4.offset = 4) (hct : Tryd.prog.cellsOf t = 5)
    (hv : Value.okWide Tryd.prog W r b0 t v) (h : DataW.Trod enc Tryd.prog W base spare held t v d p) : ∃ (u : NodeV) (N : NodeL), v = u.val N ∧ NodeR W u N := by
  simp only [Value.okWide, ht] at hv
  obtain ⟨cs, rfl, hsz, _⟩ := hv
  rw [hct] at hsz
  obtain ⟨c0, c1, c2, c3, c4, rfl⟩ := array5n hsz
  obtain ⟨fuel, hf⟩ := h
  obtain ⟨y0, y1, y2, y3, y4, n, h0, h1, h2, h3, h4⟩ := trod_struct5n ht hf
  rw [e0.1, e0.2] at h0
  rw [e1.1, e1.2] at h1
  rw [e2.1, e2.2] at h2
  rw [e3.1, e3.2] at h3
  rw [e4.1, e4.2] at h4
  have hc : Tryd.prog.cellsOf 22 = 1 := by kernel_rfl
  have hi : Tryd.prog.cellsOf 3 = 1 := by kernel_rfl
  have hu : Tryd.prog.cellsOf 23 = 1 := by kernel_rfl
  have hs : Tryd.prog.cellsOf 24 = 1 := by kernel_rfl
  rw [hi] at h0
  rw [hc] at h1 h3
  rw [hu] at h2
  rw [hs] at h4
  obtain ⟨m0, q0, w0⟩ := int_of_trod (v := c0) Tryd.underlying3 h0
  subst q0
  obtain ⟨l1, r1⟩ := rd_of_trod (v := c1) h1
  obtain ⟨m2, q2, w2⟩ := int_of_trod (v := c2) Tryd.underlying23 h2
  subst q2
  obtain ⟨l3, r3⟩ := rd_of_trod (v := c3) h3
  obtain ⟨a4, n4, c4, q4⟩ := slice_of_trod19 (v := c4) Tryd.underlying24 h4
  subst q4
  obtain ⟨l4, r4⟩ := ints_open (d := y4.1) (p := y4.2) ⟨_, h4⟩
  obtain ⟨k1, k2⟩ := wf_u64_lt w2
  obtain ⟨m, rfl⟩ := Int.eq_ofNat_of_zero_le k1
  exact ⟨⟨c1, c3, .slice a4 n4 c4⟩, ⟨m0, l1, m, l3, l4⟩, rfl, ⟨r1, r3, r4, by show m < _; omega⟩⟩

theorem node_open {H : Type} {enc : TypeId × Value → H} {W : World} {base b0 : Nat} {r : Reach} {spare : Nat → Bool} {held : Bool} {v : Value} {d : DataW H} {p : List MemPlace}
    (hv : Value.okWide Tryd.prog W r b0 26 v) (h : DataW.Trod enc Tryd.prog W base spare held 26 v d p) : ∃ (u : NodeV) (N : NodeL), v = u.val N ∧ NodeR W u N :=
  five19_open Tryd.underlying26 ⟨rfl, rfl⟩ ⟨rfl, rfl⟩ ⟨rfl, rfl⟩ ⟨rfl, rfl⟩ ⟨rfl, rfl⟩ (by kernel_rfl) hv h

end Go.Proofs.YtliojldkdmaofaaDoor
