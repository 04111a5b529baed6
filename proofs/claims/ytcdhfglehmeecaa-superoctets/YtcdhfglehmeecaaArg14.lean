/-
  The argument 'Super' of statements: five numbers, by value; the walks as the frames call them.
-/
import Derived.Test.YtcdhfglehmeecaaOpen
import Derived.Test.YtcdhfglehmeecaaSupA
import Derived.Lib.SmallJoins
namespace Go.Proofs.Ytcdhfglehmeecaa
set_option linter.unusedVariables false
set_option linter.unusedSimpArgs false
open Go.ChangeShapes Go.WideShapes Go.ChangeAt Go.RowKit

theorem array5 {α : Type} {cs : Array α} (h : cs.size = 5) : ∃ c0 c1 c2 c3 c4, cs = #[c0, c1, c2, c3, c4] := by
  obtain ⟨l⟩ := cs
  match l, h with
  | [c0, c1, c2, c3, c4], _ => exact ⟨c0, c1, c2, c3, c4, rfl⟩

theorem trod_struct5 {H : Type} {enc : TypeId × Value → H} {w : World} {base : Nat} {spare : Nat → Bool} {held : Bool} {P : Program} {t : TypeId} {f0 f1 f2 f3 f4 : Field} {fuel : Nat} {cs : List Value} {x : DataW H × List MemPlace} (ht : P.underlying t = some (.struct #[f0, f1, f2, f3, f4])) (h : DataW.trod enc P w base spare held fuel t cs = some x) :
    ∃ y0 y1 y2 y3 y4 n, x.1 = .agg [y0.1, y1.1, y2.1, y3.1, y4.1] ∧ DataW.trod enc P w base spare held n f0.type ((cs.drop f0.offset).take (P.cellsOf f0.type)) = some y0 ∧ DataW.trod enc P w base spare held n f1.type ((cs.drop f1.offset).take (P.cellsOf f1.type)) = some y1 ∧ DataW.trod enc P w base spare held n f2.type ((cs.drop f2.offset).take (P.cellsOf f2.type)) = some y2 ∧ DataW.trod enc P w base spare held n f3.type ((cs.drop f3.offset).take (P.cellsOf f3.type)) = some y3 ∧ DataW.trod enc P w base spare held n f4.type ((cs.drop f4.offset).take (P.cellsOf f4.type)) = some y4 := by
  obtain ⟨xs, n, _, rfl, hl, hlen, hf⟩ := DataW.trod_struct ht h
  match xs, hlen with
  | [y0, y1, y2, y3, y4], _ => exact ⟨y0, y1, y2, y3, y4, n, by simp, by simpa using hf 0 f0 rfl, by simpa using hf 1 f1 rfl, by simpa using hf 2 f2 rfl, by simpa using hf 3 f3 rfl, by simpa using hf 4 f4 rfl⟩

set_option maxRecDepth 100000 in
/-- a struct of five ints, by value -/
theorem five_open {H : Type} {enc : TypeId × Value → H} {W : World} {base b0 : Nat} {r : Reach} {spare : Nat → Bool} {held : Bool} {v : Value} {d : DataW H} {p : List MemPlace} {t : TypeId} {f0 f1 f2 f3 f4 : Field} (ht : Try.prog.underlying t = some (.struct #[f0, f1, f2, f3, f4]))
    (e0 : f0.type = 3 ∧ f0.offset = 0) (e1 : f1.type = 3 ∧ f1.offset = 1) (e2 : f2.type = 3 ∧ f2.offset = 2) (e3 : f3.type = 3 ∧ f3.offset = 3) (e4 : f4.type = 3 ∧ f4.offset = 4) (hct : Try.prog.cellsOf t = 5)
    (hv : Value.okWide Try.prog W r b0 t v) (h : DataW.Trod enc Try.prog W base spare held t v d p) : ∃ s : SupN, v = s.val ∧ s.nums := by
  simp only [Value.okWide, ht] at hv
  obtain ⟨cs, rfl, hsz, _⟩ := hv
  rw [hct] at hsz
  obtain ⟨c0, c1, c2, c3, c4, rfl⟩ := array5 hsz
  obtain ⟨fuel, hf⟩ := h
  obtain ⟨y0, y1, y2, y3, y4, n, hx, h0, h1, h2, h3, h4⟩ := trod_struct5 ht hf
  rw [e0.1, e0.2] at h0
  rw [e1.1, e1.2] at h1
  rw [e2.1, e2.2] at h2
  rw [e3.1, e3.2] at h3
  rw [e4.1, e4.2] at h4
  have hi : Try.prog.cellsOf 3 = 1 := by kernel_rfl
  rw [hi] at h0
  obtain ⟨m0, q0, w0⟩ := int_of_trod (v := c0) Try.underlying3 h0
  subst q0
  rw [hi] at h1
  obtain ⟨m1, q1, w1⟩ := int_of_trod (v := c1) Try.underlying3 h1
  subst q1
  rw [hi] at h2
  obtain ⟨m2, q2, w2⟩ := int_of_trod (v := c2) Try.underlying3 h2
  subst q2
  rw [hi] at h3
  obtain ⟨m3, q3, w3⟩ := int_of_trod (v := c3) Try.underlying3 h3
  subst q3
  rw [hi] at h4
  obtain ⟨m4, q4, w4⟩ := int_of_trod (v := c4) Try.underlying3 h4
  subst q4
  exact ⟨⟨m0, m1, m2, m3, m4⟩, rfl, wf_i64_lt w0, wf_i64_lt w1, wf_i64_lt w2, wf_i64_lt w3, wf_i64_lt w4⟩

set_option maxRecDepth 100000 in
theorem sup_open {H : Type} {enc : TypeId × Value → H} {W : World} {base b0 : Nat} {r : Reach} {spare : Nat → Bool} {held : Bool} {v : Value} {d : DataW H} {p : List MemPlace}
    (hv : Value.okWide Try.prog W r b0 23 v) (h : DataW.Trod enc Try.prog W base spare held 23 v d p) : ∃ s : SupN, v = s.val ∧ s.nums :=
  five_open Try.underlying23 ⟨rfl, rfl⟩ ⟨rfl, rfl⟩ ⟨rfl, rfl⟩ ⟨rfl, rfl⟩ ⟨rfl, rfl⟩ (by kernel_rfl) hv h

end Go.Proofs.Ytcdhfglehmeecaa
