/-
  The argument 'kids' of NodeHashes: two slices of bytes, by value; the walk as the frame calls it.
-/
import Derived.Test.YtliojldkdmaofaaDoorArg19
import Derived.Test.YtliojldkdmaofaaDoorHashes19
namespace Go.Proofs.YtliojldkdmaofaaDoor
set_option linter.unusedVariables false
set_option linter.unusedSimpArgs false
set_option maxRecDepth 100000
open Go.ChangeShapes Go.WideShapes Go.ChangeAt Go.RowKit

theorem array2k {α : Type} {cs : Array α} (h : cs.size = 2) : ∃ c0 c1, cs = #[c0, c1] := by
  obtain ⟨l⟩ := cs
  match l, h with
  | [c0, c1], _ => exact ⟨c0, c1, rfl⟩

theorem kids19_open {H : Type} {enc : TypeId × Value → H} {W : World} {base b0 : Nat} {r : Reach} {spare : Nat → Bool} {held : Bool} {v : Value} {d : DataW H} {p : List MemPlace}
    (hv : Value.okWide Tryd.prog W r b0 27 v) (h : DataW.Trod enc Tryd.prog W base spare held 27 v d p) : ∃ x y k n, v = .agg #[x, y] ∧ Rd W x k ∧ Rd W y n := by
  have ht : Tryd.prog.underlying 27 = some (.array 2 22) := Tryd.underlying27
  simp only [Value.okWide, ht] at hv
  obtain ⟨cs, rfl, hsz, _⟩ := hv
  have hct : Tryd.prog.cellsOf 27 = 2 := by kernel_rfl
  have hce : Tryd.prog.cellsOf 22 = 1 := by kernel_rfl
  rw [hct] at hsz
  obtain ⟨c0, c1, rfl⟩ := array2k hsz
  obtain ⟨fuel, hf⟩ := h
  obtain ⟨xs, m, _, _, _, hl, hx⟩ := DataW.trod_array ht hf
  rw [hce] at hx
  have h0 := hx 0 (by omega)
  have h1 := hx 1 (by omega)
  rw [List.getElem?_eq_getElem (by omega)] at h0 h1
  obtain ⟨l0, r0⟩ := rd_of_trod (v := c0) h0
  obtain ⟨l1, r1⟩ := rd_of_trod (v := c1) h1
  exact ⟨c0, c1, l0, l1, rfl, r0, r1⟩

theorem hashesDoor19 (w : World) (u : NodeV) (N : NodeL) (hu : NodeR w u N) (number : Int) (hn : (Lit.int .i64 number).wf = true) (x y : Value) (l r : List UInt8) (hx : Rd w x l) (hy : Rd w y r) (hL : Laid w) :
    Calls Tryd.prog 3 #[u.val N, .int .i64 number, .agg #[x, y]] w fun e w' => e = .returned (.bool true) ∧ New w w' :=
  hashesLaw19 w u N hu number (bounds_i64 hn) x y l r hx hy hL

end Go.Proofs.YtliojldkdmaofaaDoor
