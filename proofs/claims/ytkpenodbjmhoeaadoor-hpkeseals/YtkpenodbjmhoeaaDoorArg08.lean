/-
  The arguments of layer 8's statements: a Case, and what is sealed (a number and a slice of bytes).
-/
import Derived.Test.YtkpenodbjmhoeaaDoorArg06
namespace Go.Proofs.YtkpenodbjmhoeaaDoor
set_option linter.unusedVariables false
set_option linter.unusedSimpArgs false
open Go.ChangeShapes Go.WideShapes Go.ChangeAt Go.RowKit

set_option maxRecDepth 100000 in
theorem case8_open {H : Type} {enc : TypeId × Value → H} {W : World} {base b0 : Nat} {r : Reach} {spare : Nat → Bool} {held : Bool} {v : Value} {d : DataW H} {p : List MemPlace}
    (hv : Value.okWide Tryd.prog W r b0 25 v) (h : DataW.Trod enc Tryd.prog W base spare held 25 v d p) : ∃ x y z u k n b s, v = .agg #[x, y, z, u] ∧ Rd W x k ∧ Rd W y n ∧ Rd W z b ∧ Rd W u s :=
  four_open Tryd.underlying25 ⟨rfl, rfl⟩ ⟨rfl, rfl⟩ ⟨rfl, rfl⟩ ⟨rfl, rfl⟩ (by kernel_rfl) hv h

set_option maxRecDepth 100000 in
/-- a struct of a number and a slice of bytes, by value -/
theorem two_open {H : Type} {enc : TypeId × Value → H} {W : World} {base b0 : Nat} {r : Reach} {spare : Nat → Bool} {held : Bool} {v : Value} {d : DataW H} {p : List MemPlace} {t : TypeId} {f0 f1 : Field} (ht : Tryd.prog.underlying t = some (.struct #[f0, f1]))
    (e0 : f0.type = 22 ∧ f0.offset = 0) (e1 : f1.type = 23 ∧ f1.offset = 1) (hct : Tryd.prog.cellsOf t = 2)
    (hv : Value.okWide Tryd.prog W r b0 t v) (h : DataW.Trod enc Tryd.prog W base spare held t v d p) : ∃ n u l, v = .agg #[.int .u64 n, u] ∧ (Lit.int .u64 n).wf = true ∧ Rd W u l := by
  simp only [Value.okWide, ht] at hv
  obtain ⟨cs, rfl, hsz, _⟩ := hv
  rw [hct] at hsz
  obtain ⟨c0, c1, rfl⟩ := Joins.array2 hsz
  obtain ⟨fuel, hf⟩ := h
  obtain ⟨y0, y1, n, _, _, h0, h1⟩ := trod_struct2 ht hf
  rw [e0.1, e0.2] at h0
  rw [e1.1, e1.2] at h1
  have hc0 : Tryd.prog.cellsOf 22 = 1 := by kernel_rfl
  have hc1 : Tryd.prog.cellsOf 23 = 1 := by kernel_rfl
  rw [hc0] at h0
  rw [hc1] at h1
  obtain ⟨m, rfl, hw⟩ := int_of_trod (v := c0) Tryd.underlying22 h0
  obtain ⟨l1, r1⟩ := rd_of_trod (v := c1) h1
  exact ⟨m, c1, l1, rfl, hw, r1⟩

set_option maxRecDepth 100000 in
theorem sealed_open {H : Type} {enc : TypeId × Value → H} {W : World} {base b0 : Nat} {r : Reach} {spare : Nat → Bool} {held : Bool} {v : Value} {d : DataW H} {p : List MemPlace}
    (hv : Value.okWide Tryd.prog W r b0 29 v) (h : DataW.Trod enc Tryd.prog W base spare held 29 v d p) : ∃ n u l, v = .agg #[.int .u64 n, u] ∧ (Lit.int .u64 n).wf = true ∧ Rd W u l :=
  two_open Tryd.underlying29 ⟨rfl, rfl⟩ ⟨rfl, rfl⟩ (by kernel_rfl) hv h

theorem nat_of_w64 {n : Int} (h : (Lit.int .u64 n).wf = true) : ∃ m : Nat, n = (m : Int) ∧ m < 18446744073709551616 := by
  have := wf_u64_lt h
  exact ⟨n.toNat, by omega, by omega⟩

end Go.Proofs.YtkpenodbjmhoeaaDoor
