/-
  A copy into a new row of zeros; zeros as a string; bytes.Equal; numbers that are not wrapped.
-/
import Derived.Test.YtliojldkdmaofaaDoorBase
import Derived.Test.YtliojldkdmaofaaDoorProg
import Derived.Deep.Cut
namespace Go.Proofs.YtliojldkdmaofaaDoor
set_option linter.unusedVariables false
set_option linter.unusedSimpArgs false
open Go.RowKit

theorem wrap64_i64 (n : Int) : wrap64 n = IntKind.i64.wrap n := (Go.IntWalk.i64_left n).symm

theorem wrap_small (n : Nat) (h : n < 9223372036854775808) : wrap64 (n : Int) = n := by
  rw [wrap64_i64, IntKind.wrap_i64]; omega

/-- copy into the beginning of a new row of zeros -/
theorem run_copy_zero {w : World} {g m : Nat} {a : Option Addr} {n c : Nat} {l : List UInt8} (hg : w.heap[g]? = some (.cells (List.replicate m (bv 0)).toArray 5)) (h : Rd w (.slice a n c) l) (hl : l.length = n) (h64 : n ≤ m) (h0 : 0 < n) :
    ∃ w', (Builtin.copy_ #[22, 22] 3 #[.slice (some ⟨g, 0, none⟩) m m, .slice a n c]).run Tryd.prog w = .ok (.int .i64 n) w' ∧ w'.heap[g]? = some (.cells ((l ++ List.replicate (m - l.length) 0).map bv).toArray 5) ∧ Only (fun k => k = g) w w' := by
  obtain ⟨a', n', c', e, h1, h2, h3, h4, h5⟩ := h
  cases e
  cases a with
  | none => have := (h4 rfl).1; omega
  | some ad =>
    have hr := run_copy_row (P := Tryd.prog) w 22 22 3 5 g 0 m m ad n c _ _ (l.map bv) Tryd.underlying22 (by kernel_rfl) hg (by rw [List.length_map, hl]; exact (Nat.min_eq_left h64).symm)
      (fun j v hj => by
        rw [List.getElem?_map] at hj
        cases hbb : l[j]? with
        | none => rw [hbb] at hj; cases hj
        | some x => rw [hbb] at hj; cases hj; exact h5 ad rfl j x hbb)
      (by simp; omega) (oneCell_bv l)
    rw [List.length_map, hl] at hr
    refine ⟨_, hr, ?_, ⟨rfl, rfl, rfl, by simp, fun k _ hk => setRow_other w g k _ hk⟩⟩
    rw [setRow_heap _ _ _ _ _ _ hg]
    simp [hl]

/-- a whole row of one's own -/
theorem own_of_full {w : World} {base g : Nat} {l : List UInt8} {e : TypeId} (hg : w.heap[g]? = some (.cells (l.map bv).toArray e)) (hb : base ≤ g) (hl : l.length ≤ 9223372036854775807) :
    w.ownsRow base e 1 (.slice (some ⟨g, 0, none⟩) l.length l.length) l.length (l.map bv) :=
  ⟨by simp, .inr ⟨g, l.length, (l.map bv).toArray, rfl, hb, hg, Nat.le_refl _, by simpa [maxLen] using hl, by simp, by simp [List.take_of_length_le]⟩⟩

/-- make([]byte, n), as a string -/
theorem zeroStr (n : Nat) (hn : n ≤ 1000) (wx : World) : (convert 22 9 (.slice (some ⟨wx.heap.size, 0, none⟩) n n)).run Tryd.prog (wx.alloc (.cells (List.replicate n (bv 0)).toArray 5)) = .ok (.string (bstr (List.replicate n 0))) (wx.alloc (.cells (List.replicate n (bv 0)).toArray 5)) := by
  have h := rd_of_row (w := wx.alloc (.cells (List.replicate n (bv 0)).toArray 5)) (g := wx.heap.size) (l := List.replicate n 0) (t := 5) (fr := (0, 0)) (by rw [List.map_replicate]; exact heap_alloc_new _ _) (by simp; omega)
  rw [List.length_replicate] at h
  exact run_str (P := Tryd.prog) Tryd.underlying22 Tryd.underlying5 Tryd.underlying9 h

theorem bytesEqual (w : World) (x y : Value) (l m : List UInt8) (hx : Rd w x l) (hy : Rd w y m) : Calls Tryd.prog 52 #[x, y] w fun e w' => e = .returned (.bool ((bstr l).toList == (bstr m).toList)) ∧ w = w' := by
  have k1 := run_str (P := Tryd.prog) Tryd.underlying22 Tryd.underlying5 Tryd.underlying9 hx
  have k2 := run_str (P := Tryd.prog) Tryd.underlying22 Tryd.underlying5 Tryd.underlying9 hy
  obtain ⟨a1, n1, c1, rfl, -⟩ := hx
  obtain ⟨a2, n2, c2, rfl, -⟩ := hy
  go_enter Tryd.func52, Tryd.ntmps52
  go_wp2
  go_ret
  exact ⟨rfl, rfl⟩

theorem bytesEq (w : World) (x y : Value) (l m : List UInt8) (hx : Rd w x l) (hy : Rd w y m) : Calls Tryd.prog 52 #[x, y] w fun e w' => e = .returned (.bool (decide (l = m))) ∧ w = w' := by
  refine (bytesEqual w x y l m hx hy).mono ?_
  rintro e w' ⟨rfl, rfl⟩
  rw [bstr_list, bstr_list]
  exact ⟨by congr 2; rw [Bool.eq_iff_iff]; simp, rfl⟩

end Go.Proofs.YtliojldkdmaofaaDoor
