/-
  The argument 'Record' of statements: nine fields, by value.
-/
import Derived.Test.YtjekbolfaakmbaaDoorOpen
import Derived.Test.YtjekbolfaakmbaaDoorRec9
import Derived.Lib.SmallJoins
namespace Go.Proofs.YtjekbolfaakmbaaDoor
set_option linter.unusedVariables false
set_option linter.unusedSimpArgs false
open Go.ChangeShapes Go.WideShapes Go.ChangeAt Go.RowKit

theorem array9 {α : Type} {cs : Array α} (h : cs.size = 9) : ∃ c0 c1 c2 c3 c4 c5 c6 c7 c8, cs = #[c0, c1, c2, c3, c4, c5, c6, c7, c8] := by
  obtain ⟨l⟩ := cs
  match l, h with
  | [c0, c1, c2, c3, c4, c5, c6, c7, c8], _ => exact ⟨c0, c1, c2, c3, c4, c5, c6, c7, c8, rfl⟩

theorem trod_struct9 {H : Type} {enc : TypeId × Value → H} {w : World} {base : Nat} {spare : Nat → Bool} {held : Bool} {P : Program} {t : TypeId} {f0 f1 f2 f3 f4 f5 f6 f7 f8 : Field} {fuel : Nat} {cs : List Value} {x : DataW H × List MemPlace} (ht : P.underlying t = some (.struct #[f0, f1, f2, f3, f4, f5, f6, f7, f8])) (h : DataW.trod enc P w base spare held fuel t cs = some x) :
    ∃ y0 y1 y2 y3 y4 y5 y6 y7 y8 n, x.1 = .agg [y0.1, y1.1, y2.1, y3.1, y4.1, y5.1, y6.1, y7.1, y8.1] ∧ DataW.trod enc P w base spare held n f0.type ((cs.drop f0.offset).take (P.cellsOf f0.type)) = some y0 ∧ DataW.trod enc P w base spare held n f1.type ((cs.drop f1.offset).take (P.cellsOf f1.type)) = some y1 ∧ DataW.trod enc P w base spare held n f2.type ((cs.drop f2.offset).take (P.cellsOf f2.type)) = some y2 ∧ DataW.trod enc P w base spare held n f3.type ((cs.drop f3.offset).take (P.cellsOf f3.type)) = some y3 ∧ DataW.trod enc P w base spare held n f4.type ((cs.drop f4.offset).take (P.cellsOf f4.type)) = some y4 ∧ DataW.trod enc P w base spare held n f5.type ((cs.drop f5.offset).take (P.cellsOf f5.type)) = some y5 ∧ DataW.trod enc P w base spare held n f6.type ((cs.drop f6.offset).take (P.cellsOf f6.type)) = some y6 ∧ DataW.trod enc P w base spare held n f7.type ((cs.drop f7.offset).take (P.cellsOf f7.type)) = some y7 ∧ DataW.trod enc P w base spare held n f8.type ((cs.drop f8.offset).take (P.cellsOf f8.type)) = some y8 := by
  obtain ⟨xs, n, _, rfl, hl, hlen, hf⟩ := DataW.trod_struct ht h
  match xs, hlen with
  | [y0, y1, y2, y3, y4, y5, y6, y7, y8], _ => exact ⟨y0, y1, y2, y3, y4, y5, y6, y7, y8, n, by simp, by simpa using hf 0 f0 rfl, by simpa using hf 1 f1 rfl, by simpa using hf 2 f2 rfl, by simpa using hf 3 f3 rfl, by simpa using hf 4 f4 rfl, by simpa using hf 5 f5 rfl, by simpa using hf 6 f6 rfl, by simpa using hf 7 f7 rfl, by simpa using hf 8 f8 rfl⟩

/-- a field's slice of bytes, with the row's bound -/
theorem rd_sized_trod {H : Type} {enc : TypeId × Value → H} {W : World} {base fuel : Nat} {spare : Nat → Bool} {held : Bool} {v : Value} {y : DataW H × List MemPlace} (h : DataW.trod enc Tryd.prog W base spare held fuel 22 [v] = some y)
    {ts : List TypeId} {ds : List (DataW H)} (hs : (DataW.weightsEach Tryd.prog ts ds).all (· ≤ reachBytes) = true) {j : Nat} (ht : ts[j]? = some 22) (hd : ds[j]? = some y.1) : ∃ l, Rd W v l ∧ l.length < 140737488355328 := by
  obtain ⟨l, hl⟩ := rd_of_trod h
  obtain ⟨a, n, c, rfl, -⟩ := hl
  exact rd_open_sized (p := y.2) ⟨fuel, h⟩ hs ht hd

set_option maxRecDepth 100000 in
/-- a struct of the nine fields' types, by value -/
theorem nine_open {H : Type} {enc : TypeId × Value → H} {W : World} {base b0 : Nat} {r : Reach} {spare : Nat → Bool} {held : Bool} {v : Value} {d : DataW H} {p : List MemPlace} {t : TypeId} {f0 f1 f2 f3 f4 f5 f6 f7 f8 : Field} (ht : Tryd.prog.underlying t = some (.struct #[f0, f1, f2, f3, f4, f5, f6, f7, f8]))
    (e0 : f0.type = 3 ∧ f0.offset = 0) (e1 : f1.type = 22 ∧ f1.offset = 1) (e2 : f2.type = 3 ∧ f2.offset = 2) (e3 : f3.type = 3 ∧ f3.offset = 3) (e4 : f4.type = 3 ∧ f4.offset = 4) (e5 : f5.type = 22 ∧ f5.offset = 5) (e6 : f6.type = 22 ∧ f6.offset = 6) (e7 : f7.type = 22 ∧ f7.offset = 7) (e8 : f8.type = 22 ∧ f8.offset = 8) (hct : Tryd.prog.cellsOf t = 9)
    {ts : List TypeId} {ds : List (DataW H)} (hs : (DataW.weightsEach Tryd.prog ts ds).all (· ≤ reachBytes) = true) {j : Nat} (htj : ts[j]? = some t) (hdj : ds[j]? = some d)
    (hv : Value.okWide Tryd.prog W r b0 t v) (h : DataW.Trod enc Tryd.prog W base spare held t v d p) : ∃ (u : RecV) (s : RecL), v = u.val s ∧ RecR W u s ∧ (s.group.length < 140737488355328 ∧ s.body.length < 140737488355328 ∧ s.tree.length < 140737488355328 ∧ s.script.length < 140737488355328 ∧ s.wrapped.length < 140737488355328) := by
  simp only [Value.okWide, ht] at hv
  obtain ⟨cs, rfl, hsz, _⟩ := hv
  rw [hct] at hsz
  obtain ⟨c0, c1, c2, c3, c4, c5, c6, c7, c8, rfl⟩ := array9 hsz
  obtain ⟨fuel, hf⟩ := h
  obtain ⟨y0, y1, y2, y3, y4, y5, y6, y7, y8, n, hx, h0, h1, h2, h3, h4, h5, h6, h7, h8⟩ := trod_struct9 ht hf
  have hw : ∀ m ∈ DataW.weightsEach Tryd.prog [f0.type, f1.type, f2.type, f3.type, f4.type, f5.type, f6.type, f7.type, f8.type] [y0.1, y1.1, y2.1, y3.1, y4.1, y5.1, y6.1, y7.1, y8.1], m ≤ reachBytes := by
    intro m hm
    have h1 := List.all_eq_true.1 hs m (DataW.weights_mem_each htj hdj m (by
      rw [show d = .agg [y0.1, y1.1, y2.1, y3.1, y4.1, y5.1, y6.1, y7.1, y8.1] from hx]
      simpa [DataW.weights, ht] using hm))
    simpa using h1
  have hw' : (DataW.weightsEach Tryd.prog [f0.type, f1.type, f2.type, f3.type, f4.type, f5.type, f6.type, f7.type, f8.type] [y0.1, y1.1, y2.1, y3.1, y4.1, y5.1, y6.1, y7.1, y8.1]).all (· ≤ reachBytes) = true := List.all_eq_true.2 fun m hm => by simpa using hw m hm
  clear hw
  rw [e0.1, e0.2] at h0
  rw [e1.1, e1.2] at h1
  rw [e2.1, e2.2] at h2
  rw [e3.1, e3.2] at h3
  rw [e4.1, e4.2] at h4
  rw [e5.1, e5.2] at h5
  rw [e6.1, e6.2] at h6
  rw [e7.1, e7.2] at h7
  rw [e8.1, e8.2] at h8
  rw [e0.1, e1.1, e2.1, e3.1, e4.1, e5.1, e6.1, e7.1, e8.1] at hw'
  have hc : Tryd.prog.cellsOf 22 = 1 := by kernel_rfl
  have hi : Tryd.prog.cellsOf 3 = 1 := by kernel_rfl
  rw [hi] at h0
  obtain ⟨m0, e0', w0⟩ := int_of_trod (v := c0) Tryd.underlying3 h0
  subst e0'
  rw [hc] at h1
  obtain ⟨l1, r1, b1⟩ := rd_sized_trod (v := c1) h1 hw' (j := 1) rfl rfl
  rw [hi] at h2
  obtain ⟨m2, e2', w2⟩ := int_of_trod (v := c2) Tryd.underlying3 h2
  subst e2'
  rw [hi] at h3
  obtain ⟨m3, e3', w3⟩ := int_of_trod (v := c3) Tryd.underlying3 h3
  subst e3'
  rw [hi] at h4
  obtain ⟨m4, e4', w4⟩ := int_of_trod (v := c4) Tryd.underlying3 h4
  subst e4'
  rw [hc] at h5
  obtain ⟨l5, r5, b5⟩ := rd_sized_trod (v := c5) h5 hw' (j := 5) rfl rfl
  rw [hc] at h6
  obtain ⟨l6, r6, b6⟩ := rd_sized_trod (v := c6) h6 hw' (j := 6) rfl rfl
  rw [hc] at h7
  obtain ⟨l7, r7, b7⟩ := rd_sized_trod (v := c7) h7 hw' (j := 7) rfl rfl
  rw [hc] at h8
  obtain ⟨l8, r8, b8⟩ := rd_sized_trod (v := c8) h8 hw' (j := 8) rfl rfl
  exact ⟨⟨c1, c5, c6, c7, c8⟩, ⟨m0, l1, m2, m3, m4, l5, l6, l7, l8⟩, rfl, ⟨r1, r5, r6, r7, r8⟩, b1, b5, b6, b7, b8⟩

set_option maxRecDepth 100000 in
theorem rec_open {H : Type} {enc : TypeId × Value → H} {W : World} {base b0 : Nat} {r : Reach} {spare : Nat → Bool} {held : Bool} {v : Value} {d : DataW H} {p : List MemPlace}
    {ts : List TypeId} {ds : List (DataW H)} (hs : (DataW.weightsEach Tryd.prog ts ds).all (· ≤ reachBytes) = true) {j : Nat} (htj : ts[j]? = some 24) (hdj : ds[j]? = some d)
    (hv : Value.okWide Tryd.prog W r b0 24 v) (h : DataW.Trod enc Tryd.prog W base spare held 24 v d p) : ∃ (u : RecV) (s : RecL), v = u.val s ∧ RecR W u s ∧ (s.group.length < 140737488355328 ∧ s.body.length < 140737488355328 ∧ s.tree.length < 140737488355328 ∧ s.script.length < 140737488355328 ∧ s.wrapped.length < 140737488355328) :=
  nine_open Tryd.underlying24 ⟨rfl, rfl⟩ ⟨rfl, rfl⟩ ⟨rfl, rfl⟩ ⟨rfl, rfl⟩ ⟨rfl, rfl⟩ ⟨rfl, rfl⟩ ⟨rfl, rfl⟩ ⟨rfl, rfl⟩ ⟨rfl, rfl⟩ (by kernel_rfl) hs htj hdj hv h

end Go.Proofs.YtjekbolfaakmbaaDoor
