/-
  From the row's readings of arguments to what the walks ask.
-/
import Derived.Test.YtliojldkdmaofaaDoorRows
import Derived.Test.YtliojldkdmaofaaDoorBase
import Derived.WalkKit
import Derived.ProofKit
import Derived.OpenShut
import Derived.ShutString
import Derived.ChangeOld
import Derived.Below
import Derived.Deep.Slices
import Derived.Deep.Strs
import Derived.SizedLaws
namespace Go.Proofs.YtliojldkdmaofaaDoor
set_option linter.unusedVariables false
set_option linter.unusedSimpArgs false
open Go.ChangeShapes Go.WideShapes Go.ChangeAt Go.RowKit

theorem wf_u8_lt {n : Int} (h : (Lit.int .u8 n).wf = true) : 0 ≤ n ∧ n ≤ 255 := by simpa [Lit.wf, IntKind.min, IntKind.max, IntKind.signed, IntKind.bits] using h
theorem wf_u16_lt {n : Int} (h : (Lit.int .u16 n).wf = true) : 0 ≤ n ∧ n ≤ 65535 := by simpa [Lit.wf, IntKind.min, IntKind.max, IntKind.signed, IntKind.bits] using h
theorem wf_u32_lt {n : Int} (h : (Lit.int .u32 n).wf = true) : 0 ≤ n ∧ n ≤ 4294967295 := by simpa [Lit.wf, IntKind.min, IntKind.max, IntKind.signed, IntKind.bits] using h
theorem wf_u64_lt {n : Int} (h : (Lit.int .u64 n).wf = true) : 0 ≤ n ∧ n ≤ 18446744073709551615 := by simpa [Lit.wf, IntKind.min, IntKind.max, IntKind.signed, IntKind.bits] using h
theorem wf_i64_lt {n : Int} (h : (Lit.int .i64 n).wf = true) : -9223372036854775808 ≤ n ∧ n ≤ 9223372036854775807 := by simpa [Lit.wf, IntKind.min, IntKind.max, IntKind.signed, IntKind.bits] using h

theorem ofNat_u8 {n : Int} (h : 0 ≤ n ∧ n ≤ 255) : ((UInt8.ofNat n.toNat).toNat : Int) = n := by
  rw [UInt8.toNat_ofNat']
  omega

/-- a slice of bytes, read as a list of cells' values -/
theorem rd_of_trod {H : Type} {enc : TypeId × Value → H} {W : World} {base fuel : Nat} {spare : Nat → Bool} {held : Bool} {v : Value} {x : DataW H × List MemPlace} (h : DataW.trod enc Tryd.prog W base spare held fuel 22 [v] = some x) : ∃ l, Rd W v l := by
  rcases open_ints Tryd.underlying22 Tryd.underlying5 (by kernel_rfl) h with ⟨hcs, _⟩ | ⟨a, l, c, zs, hcs, _, hl, hm, hz, _, hcell, hwz⟩
  · cases hcs; exact ⟨[], Rd.nil _⟩
  · cases hcs
    have hzl : l ≤ zs.length := by rw [hz]; split <;> omega
    refine ⟨(zs.take l).map fun n => UInt8.ofNat n.toNat, _, _, _, rfl, by simp; omega, hl, hm, (fun h => by cases h), fun ad had i u hu => ?_⟩
    cases had
    rw [List.getElem?_map, List.getElem?_take] at hu
    split at hu
    · cases hg : zs[i]? with
      | none => rw [hg] at hu; cases hu
      | some n =>
        rw [hg] at hu
        cases hu
        have hi : i < zs.length := by omega
        rw [hcell i hi]
        have hn : zs.getD i 0 = n := by simp [List.getD, hg]
        rw [hn]
        have hw := wf_u8_lt (hwz n (List.mem_of_getElem? hg))
        show _ = some (Value.int .u8 _)
        rw [ofNat_u8 hw]
    · cases hu

theorem rd_open {H : Type} {enc : TypeId × Value → H} {W : World} {base : Nat} {spare : Nat → Bool} {held : Bool} {a : Option Addr} {n c : Nat} {d : DataW H} {p : List MemPlace} (h : DataW.Trod enc Tryd.prog W base spare held 22 (.slice a n c) d p) : ∃ l, Rd W (.slice a n c) l := by
  obtain ⟨fuel, hf⟩ := h
  exact rd_of_trod hf

/-- the same, with the row's bound on what a slice takes -/
theorem rd_open_sized {H : Type} {enc : TypeId × Value → H} {W : World} {base : Nat} {spare : Nat → Bool} {held : Bool} {a : Option Addr} {n c : Nat} {d : DataW H} {p : List MemPlace} (h : DataW.Trod enc Tryd.prog W base spare held 22 (.slice a n c) d p)
    {ts : List TypeId} {ds : List (DataW H)} (hs : (DataW.weightsEach Tryd.prog ts ds).all (· ≤ reachBytes) = true) {j : Nat} (ht : ts[j]? = some 22) (hd : ds[j]? = some d) : ∃ l, Rd W (.slice a n c) l ∧ l.length < 140737488355328 := by
  obtain ⟨l, hl⟩ := rd_open h
  refine ⟨l, hl, ?_⟩
  rw [hl.len]
  obtain ⟨fuel, hf⟩ := h
  rcases open_ints Tryd.underlying22 Tryd.underlying5 (by kernel_rfl) hf with ⟨hcs, _⟩ | ⟨a', l', c', zs, hcs, _, hl', _, hz, hx, _, _⟩
  · cases hcs; omega
  · cases hcs
    cases hx
    have hzl : n ≤ zs.length := by rw [hz]; split <;> omega
    have h1 := sized_slice hs ht hd Tryd.underlying22
    rw [show Tryd.prog.bytesOf 5 = 1 by kernel_rfl, Nat.mul_one] at h1
    have h2 := reachBytes_lt
    simp only [ChangeShapes.lits, List.length_map, List.length_take, List.length_drop] at h1
    omega

theorem cells_of_cells? {w : World} {base n : Nat} {a : Addr} {cs : List Value} (h : w.cells? base a n = some cs) : cs.length = n ∧ ∀ j u, cs[j]? = some u → w.cell? (a.add j) = some u := by
  obtain ⟨h1, h2, h3⟩ := World.cells?_some h
  refine ⟨h2, fun j u hj => ?_⟩
  have hlt : j < cs.length := by
    rcases Nat.lt_or_ge j cs.length with hh | hh
    · exact hh
    · rw [List.getElem?_eq_none hh] at hj; cases hj
  rw [h3 j (by omega), hj]

/-- a slice of whatever elements: the elements' cells, each with its own reading -/
theorem rdn_of_trod {H : Type} {enc : TypeId × Value → H} {W : World} {base fuel : Nat} {spare : Nat → Bool} {held : Bool} {v : Value} {x : DataW H × List MemPlace} {t e : TypeId} {size : Nat} (ht : Tryd.prog.underlying t = some (.slice e)) (hc : Tryd.prog.cellsOf e = size)
    (h : DataW.trod enc Tryd.prog W base spare held fuel t [v] = some x) : ∃ css m, RdN W size v css ∧ ∀ cs ∈ css, cs.length = size ∧ ∃ y, DataW.trod enc Tryd.prog W base spare held m e cs = some y := by
  rcases Deep.open_slice ht h with ⟨hcs, _⟩ | ⟨a, len, cap, m, n, D, Pl, hcs, _, hl, hm, hmm, _, hx⟩
  · cases hcs
    exact ⟨[], 0, ⟨none, 0, 0, rfl, rfl, Nat.le_refl _, by simp [maxLen], fun _ => ⟨rfl, rfl⟩, by simp⟩, by simp⟩
  · cases hcs
    rw [hc] at hx
    obtain ⟨C, hC⟩ := Deep.choose_lt (α := List Value) hx
    have hlm : len ≤ m := by rw [hmm]; split <;> omega
    refine ⟨(List.range len).map C, n, ⟨_, _, _, rfl, by simp, hl, hm, (fun h => by cases h), fun ad had i y hy j u hu => ?_⟩, ?_⟩
    · cases had
      rw [List.getElem?_map] at hy
      cases hr : (List.range len)[i]? with
      | none => rw [hr] at hy; cases hy
      | some k =>
        rw [hr] at hy
        cases hy
        obtain ⟨hi, hk⟩ := List.getElem?_eq_some_iff.1 hr
        simp at hi hk
        subst hk
        have := (cells_of_cells? (hC i (by omega)).1).2 j u hu
        rwa [Deep.add_add] at this
    · intro cs hcs
      obtain ⟨i, hi, rfl⟩ := List.mem_map.1 hcs
      have hi' : i < len := by simpa using hi
      exact ⟨(cells_of_cells? (hC i (by omega)).1).1, _, (hC i (by omega)).2⟩

theorem int_of_trod {H : Type} {enc : TypeId × Value → H} {W : World} {base fuel : Nat} {spare : Nat → Bool} {held : Bool} {v : Value} {x : DataW H × List MemPlace} {t : TypeId} {k : IntKind} (ht : Tryd.prog.underlying t = some (.int k))
    (h : DataW.trod enc Tryd.prog W base spare held fuel t [v] = some x) : ∃ n, v = .int k n ∧ (Lit.int k n).wf = true := by
  obtain ⟨n, e, _, hw⟩ := DataW.trod_int ht h
  cases e
  exact ⟨n, rfl, hw⟩

set_option maxRecDepth 100000 in
/-- an array of integers, by value -/
theorem open_intarr {H : Type} {enc : TypeId × Value → H} {W : World} {base b0 : Nat} {r : Reach} {spare : Nat → Bool} {held : Bool} {v : Value} {d : DataW H} {p : List MemPlace} {t e : TypeId} {k : IntKind} {n : Nat} (ht : Tryd.prog.underlying t = some (.array n e)) (he : Tryd.prog.underlying e = some (.int k)) (hce : Tryd.prog.cellsOf e = 1) (hct : Tryd.prog.cellsOf t = n)
    (hv : Value.okWide Tryd.prog W r b0 t v) (h : DataW.Trod enc Tryd.prog W base spare held t v d p) : ∃ zs : List Int, v = .agg (zs.map (Value.int k)).toArray ∧ zs.length = n ∧ ∀ z ∈ zs, (Lit.int k z).wf = true := by
  simp only [Value.okWide, ht] at hv
  obtain ⟨cs, rfl, hsz, _⟩ := hv
  rw [hct] at hsz
  obtain ⟨fuel, hf⟩ := h
  obtain ⟨xs, m, _, _, _, hl, hx⟩ := DataW.trod_array ht hf
  rw [hce] at hx
  have key : ∀ i, i < n → ∃ z, cs[i]? = some (.int k z) ∧ (Lit.int k z).wf = true := by
    intro i hi
    have h1 := hx i hi
    rw [List.getElem?_eq_getElem (by omega), Nat.mul_one] at h1
    have hi2 : i < cs.size := by omega
    have e1 : (cs.toList.drop i).take 1 = [cs[i]] := by
      rw [List.drop_eq_getElem_cons (by simpa using hi2)]
      rfl
    have h2 : DataW.trod enc Tryd.prog W base spare held m e [cs[i]] = some xs[i] := by
      rw [← e1]; exact h1
    obtain ⟨z, hz, hw⟩ := int_of_trod he h2
    exact ⟨z, by rw [Array.getElem?_eq_getElem hi2, hz], hw⟩
  refine ⟨cs.toList.map fun c => match c with | .int _ z => z | _ => 0, ?_, by simp [hsz], ?_⟩
  · congr 1
    apply Array.ext
    · simp
    · intro i h1 h2
      obtain ⟨z, hz, _⟩ := key i (by omega)
      rw [Array.getElem?_eq_getElem h1] at hz
      simp only [Option.some.injEq] at hz
      simp [hz]
  · intro z hz
    obtain ⟨c, hc, rfl⟩ := List.mem_map.1 hz
    obtain ⟨i, hi, rfl⟩ := List.getElem_of_mem hc
    obtain ⟨z, h1, h2⟩ := key i (by simpa [hsz] using hi)
    have h3 : i < cs.size := by simpa using hi
    rw [Array.getElem?_eq_getElem h3] at h1
    simp only [Option.some.injEq] at h1
    simp only [Array.getElem_toList, h1]
    exact h2

end Go.Proofs.YtliojldkdmaofaaDoor
