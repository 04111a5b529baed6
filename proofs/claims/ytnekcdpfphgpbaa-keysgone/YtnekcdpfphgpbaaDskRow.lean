/-
  disk: Read of some sectors, a new row.
-/
import Derived.Test.YtnekcdpfphgpbaaDskA
namespace Go.Proofs.Ytnekcdpfphgpbaa
set_option linter.unusedVariables false
set_option linter.unusedSimpArgs false
set_option maxRecDepth 100000
open Go.RowKit

set_option maxHeartbeats 1000000 in
/-- Read of some sectors: a new row -/
theorem devReadRow {q : Int} {w : World} {n g : Nat} {G : Nat → Prop} {D L : List UInt8} {P : List Wr} (hD : Dvc q w n g G D L P) (hq : q ≠ 0) (s m : Nat) (hs : s + m ≤ n) (hm : 0 < m) :
    Calls Try.prog 40 #[.pointer (some ⟨g, 0, none⟩), .int .i64 (s : Int), .int .i64 (m : Int)] w fun e w' =>
      ∃ k c, e = .returned (.tuple #[.slice (some ⟨k, 0, none⟩) (128 * m) c, .int .i64 0]) ∧ RowB w' k (secs L s m) ∧ 128 * m ≤ c ∧ c ≤ maxLen ∧ w.heap.size ≤ k ∧ Dvc (nextQ q) w' n g (fun i => (G i ∨ w.heap.size ≤ i) ∧ i ≠ k) D L P ∧ Only G w w' := by
  obtain ⟨gd, gl, cd, cl, vp, h0, f1, f2, f3, f4⟩ := hD
  have hfew := h0.few
  have HH : Hid (Calls Try.prog 54 #[.pointer (some ⟨g, 0, none⟩), .int .i64 (s : Int), .int .i64 (m : Int)] w fun e w' => e = .returned (.bool true) ∧ w = w') := by
    have := diskHasN h0 (s : Int) (m : Int) (by omega)
    rw [show decide (0 ≤ (s : Int) ∧ 0 ≤ (m : Int) ∧ (m : Int) ≤ (n : Int) - (s : Int)) = true by simp; omega] at this
    exact Lib.hid this
  have HX : Hid (Calls Try.prog 55 #[.pointer (some ⟨g, 0, none⟩)] w fun e w' => e = .returned (.bool true) ∧ Dsk (nextQ q) w' n g gd gl cd cl vp D L P ∧ Only (fun k => k = g) w w') := by
    have := diskCall h0
    rw [show decide (q ≠ 0) = true by simpa using hq] at this
    exact Lib.hid this
  clear h0 hq
  go_enter Try.func40, Try.ntmps40
  go_wp2_with fail
  refine HH.out.mono ?_
  rintro e w1 ⟨rfl, rfl⟩
  go_wp2_with fail
  refine HX.out.mono ?_
  rintro e w1 ⟨rfl, hd1, ho1⟩
  obtain ⟨-, c1, -, -⟩ := hd1.cells
  have hcap := hd1.capL
  have hlen := hd1.lenL
  have HD1 := Lib.hid hd1
  have HO1 := Lib.hid ho1
  have HPI := Lib.hid (diskPieceN w1 gl 0 (128 * n) cl s m (by omega) (by omega))
  have hsl : (secs L s m).length = 128 * m := secs_length (by omega)
  have hrp : Rd w1 (.slice (pieceAt gl 0 cl s) (128 * m) (cl - 128 * s)) (secs L s m) := by
    rw [pieceAt_pos (m := m) (by omega) hm, Nat.zero_add]
    exact hd1.rowL.rdSecs hsl (by omega) (by omega) (by omega)
  have HC := Lib.hid (bytesClone w1 _ (secs L s m) hrp (by intro e; rw [e] at hsl; simp at hsl; omega) (by omega))
  have HSL := Lib.hid hsl
  clear HH HX hd1 ho1 hrp hsl hlen
  generalize cl - 128 * s = t1 at *
  generalize pieceAt gl 0 cl s = A1 at *
  generalize 128 * n = t2 at c1 HPI
  go_wp2_with fail
  refine HPI.out.mono ?_
  rintro e w2 ⟨rfl, rfl⟩
  go_wp2_with fail
  refine HC.out.mono ?_
  rintro e w2 ⟨k, c2, rfl, r2, r3, r4, r5, N2⟩
  rw [HSL.out] at r3 ⊢
  have HR := Lib.hid r2
  have HN := Lib.hid N2
  have HB := Lib.hid (And.intro r3 (And.intro r4 r5))
  clear r2 r3 r4 r5 N2
  generalize hM : 128 * m = M at *
  have HM := Lib.hid hM
  clear hM
  go_wp2
  go_ret2
  have hM := HM.out
  subst hM
  have hg1 : Only G w w1 := HO1.out.mono (fun i _ hi => by rw [show i = g from hi]; exact f1)
  have hsz := hg1.size
  have hv : Dvc (nextQ q) w1 n g (fun i => (G i ∨ w.heap.size ≤ i) ∧ i ≠ k) D L P :=
    Dvc.narrow (F := fun i => G i) ⟨gd, gl, cd, cl, vp, HD1.out, f1, f2, f3, f4⟩ (fun i hi hF => ⟨.inl hF, by have := HB.out.2.2; omega⟩)
  exact ⟨k, c2, rfl, HR.out, HB.out.1, HB.out.2.1, by have := HB.out.2.2; omega, hv.new HN.out, hg1.trans (HN.out.only (F := G)) (fun _ _ h => h)⟩

end Go.Proofs.Ytnekcdpfphgpbaa
