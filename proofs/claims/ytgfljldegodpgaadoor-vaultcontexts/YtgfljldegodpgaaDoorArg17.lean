/-
  The argument 'Case' of layer 17's statements: three slices of bytes and an int, by value.
-/
import Derived.Test.YtgfljldegodpgaaDoorOpen
import Derived.Lib.SmallJoins
namespace Go.Proofs.YtgfljldegodpgaaDoor
set_option linter.unusedVariables false
set_option linter.unusedSimpArgs false
set_option maxRecDepth 100000
open Go.ChangeShapes Go.WideShapes Go.ChangeAt Go.RowKit

set_option maxRecDepth 100000 in
/-- a struct of three slices of bytes and an int, by value -/
theorem three1_open {H : Type} {enc : TypeId × Value → H} {W : World} {base b0 : Nat} {r : Reach} {spare : Nat → Bool} {held : Bool} {v : Value} {d : DataW H} {p : List MemPlace} {t : TypeId} {f0 f1 f2 f3 : Field} (ht : Tryd.prog.underlying t = some (.struct #[f0, f1, f2, f3]))
    (e0 : f0.type = 22 ∧ f0.offset = 0) (e1 : f1.type = 22 ∧ f1.offset = 1) (e2 : f2.type = 22 ∧ f2.offset = 2) (e3 : f3.type = 3 ∧ f3.offset = 3) (hct : Tryd.prog.cellsOf t = 4)
    (hv : Value.okWide Tryd.prog W r b0 t v) (h : DataW.Trod enc Tryd.prog W base spare held t v d p) : ∃ x y z k n b e, v = .agg #[x, y, z, .int .i64 e] ∧ Rd W x k ∧ Rd W y n ∧ Rd W z b ∧ (Lit.int .i64 e).wf = true := by
  simp only [Value.okWide, ht] at hv
  obtain ⟨cs, rfl, hsz, _⟩ := hv
  rw [hct] at hsz
  obtain ⟨c0, c1, c2, c3, rfl⟩ := Joins.array4 hsz
  obtain ⟨fuel, hf⟩ := h
  obtain ⟨y0, y1, y2, y3, n, _, _, h0, h1, h2, h3⟩ := Joins.trod_struct4 ht hf
  rw [e0.1, e0.2] at h0
  rw [e1.1, e1.2] at h1
  rw [e2.1, e2.2] at h2
  rw [e3.1, e3.2] at h3
  have hc : Tryd.prog.cellsOf 22 = 1 := by kernel_rfl
  have hi : Tryd.prog.cellsOf 3 = 1 := by kernel_rfl
  rw [hc] at h0 h1 h2
  rw [hi] at h3
  obtain ⟨l0, r0⟩ := rd_of_trod (v := c0) h0
  obtain ⟨l1, r1⟩ := rd_of_trod (v := c1) h1
  obtain ⟨l2, r2⟩ := rd_of_trod (v := c2) h2
  obtain ⟨m, rfl, hw⟩ := int_of_trod (v := c3) Tryd.underlying3 h3
  exact ⟨c0, c1, c2, l0, l1, l2, m, rfl, r0, r1, r2, hw⟩

theorem case17_open {H : Type} {enc : TypeId × Value → H} {W : World} {base b0 : Nat} {r : Reach} {spare : Nat → Bool} {held : Bool} {v : Value} {d : DataW H} {p : List MemPlace}
    (hv : Value.okWide Tryd.prog W r b0 24 v) (h : DataW.Trod enc Tryd.prog W base spare held 24 v d p) : ∃ x y z k n b e, v = .agg #[x, y, z, .int .i64 e] ∧ Rd W x k ∧ Rd W y n ∧ Rd W z b ∧ (Lit.int .i64 e).wf = true :=
  three1_open Tryd.underlying24 ⟨rfl, rfl⟩ ⟨rfl, rfl⟩ ⟨rfl, rfl⟩ ⟨rfl, rfl⟩ (by kernel_rfl) hv h

end Go.Proofs.YtgfljldegodpgaaDoor
