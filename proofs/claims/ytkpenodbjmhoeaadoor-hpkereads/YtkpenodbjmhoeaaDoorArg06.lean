/-
  The argument 'Case' of statements: four slices of bytes.
-/
import Derived.Test.YtkpenodbjmhoeaaDoorOpen
import Derived.Lib.SmallJoins
namespace Go.Proofs.YtkpenodbjmhoeaaDoor
set_option linter.unusedVariables false
set_option linter.unusedSimpArgs false
open Go.ChangeShapes Go.WideShapes Go.ChangeAt Go.RowKit

set_option maxRecDepth 100000 in
/-- a struct of four slices of bytes, by value -/
theorem four_open {H : Type} {enc : TypeId × Value → H} {W : World} {base b0 : Nat} {r : Reach} {spare : Nat → Bool} {held : Bool} {v : Value} {d : DataW H} {p : List MemPlace} {t : TypeId} {f0 f1 f2 f3 : Field} (ht : Tryd.prog.underlying t = some (.struct #[f0, f1, f2, f3]))
    (e0 : f0.type = 23 ∧ f0.offset = 0) (e1 : f1.type = 23 ∧ f1.offset = 1) (e2 : f2.type = 23 ∧ f2.offset = 2) (e3 : f3.type = 23 ∧ f3.offset = 3) (hct : Tryd.prog.cellsOf t = 4)
    (hv : Value.okWide Tryd.prog W r b0 t v) (h : DataW.Trod enc Tryd.prog W base spare held t v d p) : ∃ x y z u k n b s, v = .agg #[x, y, z, u] ∧ Rd W x k ∧ Rd W y n ∧ Rd W z b ∧ Rd W u s := by
  simp only [Value.okWide, ht] at hv
  obtain ⟨cs, rfl, hsz, _⟩ := hv
  rw [hct] at hsz
  obtain ⟨c0, c1, c2, c3, rfl⟩ := Joins.array4 hsz
  obtain ⟨fuel, hf⟩ := h
  obtain ⟨y0, y1, y2, y3, n, _, _, h0, h1, h2, h3⟩ := Joins.trod_struct4 ht hf
  rw [e0.1, e0.2] at h0
  rw [e1.1, e1.2] at h1
  rw [e2.1, e2.2] at h2
  rw [e3.1, e3.2] at h3
  have hc : Tryd.prog.cellsOf 23 = 1 := by kernel_rfl
  rw [hc] at h0 h1 h2 h3
  obtain ⟨l0, r0⟩ := rd_of_trod (v := c0) h0
  obtain ⟨l1, r1⟩ := rd_of_trod (v := c1) h1
  obtain ⟨l2, r2⟩ := rd_of_trod (v := c2) h2
  obtain ⟨l3, r3⟩ := rd_of_trod (v := c3) h3
  exact ⟨c0, c1, c2, c3, l0, l1, l2, l3, rfl, r0, r1, r2, r3⟩


end Go.Proofs.YtkpenodbjmhoeaaDoor
