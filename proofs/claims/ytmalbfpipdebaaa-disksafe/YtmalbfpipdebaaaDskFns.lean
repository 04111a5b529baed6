/-
  disk: sectors, allowed, piece, has, call, Size, Waiting; bytes.Clone; Image.
-/
import Derived.Test.YtmalbfpipdebaaaDskMem
namespace Go.Proofs.Ytmalbfpipdebaaa
set_option linter.unusedVariables false
set_option linter.unusedSimpArgs false
open Go.RowKit

set_option maxHeartbeats 400000 in
theorem diskSectors (w : World) (a : Option Addr) (m c : Nat) (hm : m ≤ 9223372036854775807) :
    Calls Try.prog 16 #[.slice a m c] w fun e w' => e = .returned (.tuple #[.int .i64 ((m / 128 : Nat) : Int), .bool (decide (m % 128 = 0))]) ∧ w = w' := by
  have h1 : (m : Int).tdiv 128 = ((m / 128 : Nat) : Int) := by rw [Int.tdiv_eq_ediv_of_nonneg (by omega)]; omega
  have h2 : (m : Int) % 128 = ((m % 128 : Nat) : Int) := by omega
  have h3 : (((m % 128 : Nat) : Int) == 0) = decide (m % 128 = 0) := by
    by_cases h : m % 128 = 0
    · simp [h]
    · simp [h]; omega
  have h4 : IntKind.i64.wrap ((m / 128 : Nat) : Int) = ((m / 128 : Nat) : Int) := IntWalk.i64_in _ (by omega)
  generalize decide (m % 128 = 0) = z at *
  generalize m / 128 = q at *
  generalize m % 128 = r at *
  go_enter Try.func16, Try.ntmps16
  go_wp2
  go_ret2
  exact ⟨rfl, rfl⟩

set_option maxHeartbeats 400000 in
theorem diskAllowed (w : World) (n : Int) :
    Calls Try.prog 17 #[.int .i64 n] w fun e w' => e = .returned (.bool (decide (1 ≤ n ∧ n ≤ 65536))) ∧ w = w' := by
  by_cases h1 : 1 ≤ n
  · by_cases h2 : n ≤ 65536
    · have d : decide (1 ≤ n ∧ n ≤ 65536) = true := by simp [h1, h2]
      rw [d]
      have d1 : decide (1 ≤ n) = true := by simp [h1]
      have d2 : decide (n ≤ 65536) = true := by simp [h2]
      clear d
      go_enter Try.func17, Try.ntmps17
      go_wp2
      go_ret
      exact ⟨rfl, rfl⟩
    · have d : decide (1 ≤ n ∧ n ≤ 65536) = false := by simp [h1, h2]
      rw [d]
      have d1 : decide (1 ≤ n) = true := by simp [h1]
      have d2 : decide (n ≤ 65536) = false := by simp [h2]
      clear d
      go_enter Try.func17, Try.ntmps17
      go_wp2
      go_ret
      exact ⟨rfl, rfl⟩
  · have d : decide (1 ≤ n ∧ n ≤ 65536) = false := by simp [h1]
    rw [d]
    have d1 : decide (1 ≤ n) = false := by simp [h1]
    clear d
    go_enter Try.func17, Try.ntmps17
    go_wp2
    go_ret
    exact ⟨rfl, rfl⟩

/-- piece(b, s, 1) -/
theorem diskPiece (w : World) (b n c s : Nat) (h : 128 * s + 128 ≤ c) (hs : s ≤ 1000000) :
    Calls Try.prog 21 #[.slice (some ⟨b, 0, none⟩) n c, .int .i64 (s : Int), .int .i64 1] w fun e w' => e = .returned (.slice (some ⟨b, 128 * s, none⟩) 128 (c - 128 * s)) ∧ w = w' := by
  have h1 : (s : Int) * 128 = ((128 * s : Nat) : Int) := by omega
  have h2 : ((s : Int) + 1) * 128 = ((128 * s + 128 : Nat) : Int) := by omega
  have hr : ∀ wx : World, (Instr.slice 22 (.slice (some ⟨b, 0, none⟩) n c) (some (.int .i64 ((128 * s : Nat) : Int))) (some (.int .i64 ((128 * s + 128 : Nat) : Int))) none).run Try.prog wx = .ok (.slice (some ⟨b, 128 * s, none⟩) 128 (c - 128 * s)) wx := by
    intro wx
    rw [run_slice_lh wx 22 (some ⟨b, 0, none⟩) n c Try.underlying22 .i64 .i64 _ _ (by omega) (by omega) (by omega)]
    have hz : (sizeOf (Try.prog.elem 22)).run Try.prog wx = .ok 1 wx := by kernel_rfl
    rw [hz]
    simp only [Result.andThen_ok, sliced, Int.toNat_natCast, Nat.mul_one]
    rw [if_neg (by omega), show 128 * s + 128 - 128 * s = 128 by omega, Option.map_some, Addr.add_mid, Nat.zero_add]
  generalize (128 * s + 128 : Nat) = q at *
  generalize hp : (128 * s : Nat) = p at *
  clear hp
  go_enter Try.func21, Try.ntmps21
  go_wp2
  go_ret
  exact ⟨rfl, rfl⟩

set_option maxHeartbeats 400000 in
theorem diskSize {q : Int} {w : World} {n g gd gl cd cl : Nat} {vp : Value} {D L : List UInt8} {P : List Wr} (h : Dsk q w n g gd gl cd cl vp D L P) :
    Calls Try.prog 8 #[.pointer (some ⟨g, 0, none⟩)] w fun e w' => e = .returned (.int .i64 (n : Int)) ∧ w = w' := by
  obtain ⟨c0, -, -, -⟩ := h.cells
  have hf := h.few
  have h1 : ((128 * n : Nat) : Int).tdiv 128 = (n : Int) := by rw [Int.tdiv_eq_ediv_of_nonneg (by omega)]; omega
  have h4 : IntKind.i64.wrap (n : Int) = (n : Int) := IntWalk.i64_in _ (by omega)
  clear h
  generalize 128 * n = m at *
  go_enter Try.func8, Try.ntmps8
  go_wp2
  go_ret
  exact ⟨rfl, rfl⟩

set_option maxHeartbeats 400000 in
theorem diskWaiting {q : Int} {w : World} {n g gd gl cd cl : Nat} {vp : Value} {D L : List UInt8} {P : List Wr} (h : Dsk q w n g gd gl cd cl vp D L P) :
    Calls Try.prog 10 #[.pointer (some ⟨g, 0, none⟩)] w fun e w' => e = .returned (.int .i64 (P.length : Int)) ∧ w = w' := by
  obtain ⟨a, c, rfl⟩ := h.vp_slice
  obtain ⟨-, -, c2, -⟩ := h.cells
  clear h
  generalize P.length = m at *
  go_enter Try.func10, Try.ntmps10
  go_wp2
  go_ret
  exact ⟨rfl, rfl⟩

set_option maxHeartbeats 400000 in
theorem diskCall {q : Int} {w : World} {n g gd gl cd cl : Nat} {vp : Value} {D L : List UInt8} {P : List Wr} (h : Dsk q w n g gd gl cd cl vp D L P) :
    Calls Try.prog 20 #[.pointer (some ⟨g, 0, none⟩)] w fun e w' => e = .returned (.bool (decide (q ≠ 0))) ∧ Dsk (nextQ q) w' n g gd gl cd cl vp D L P ∧ Only (fun k => k = g) w w' := by
  obtain ⟨-, -, -, c3⟩ := h.cells
  have z3 := h.free 3
  have hq := h.left
  have HD := Lib.hid h
  clear h
  by_cases h0 : q = 0
  · subst h0
    go_enter Try.func20, Try.ntmps20
    go_wp2
    go_ret
    exact ⟨rfl, HD.out, Only.refl _ _⟩
  · have d0 : (q == 0) = false := by simpa using h0
    rw [show decide (q ≠ 0) = true by simpa using h0]
    by_cases h1 : 0 < q
    · have d1 : decide (0 < q) = true := by simp [h1]
      have hn : nextQ q = q - 1 := by unfold nextQ; rw [if_pos h1]
      have HS := Lib.hid (HD.out.setLeft (q - 1) (by omega))
      rw [hn]
      clear hn h0
      go_enter Try.func20, Try.ntmps20
      go_wp2
      go_ret
      exact ⟨rfl, HS.out, (Only.refl (fun k => k = g) _).setCell (p := ⟨g, 3, none⟩) (fun _ => rfl) _⟩
    · have d1 : decide (0 < q) = false := by simp; omega
      have hn : nextQ q = q := by unfold nextQ; rw [if_neg h1]
      rw [hn]
      clear hn h0
      go_enter Try.func20, Try.ntmps20
      go_wp2
      go_ret
      exact ⟨rfl, HD.out, Only.refl _ _⟩

set_option maxHeartbeats 400000 in
theorem diskHasN {q : Int} {w : World} {n g gd gl cd cl : Nat} {vp : Value} {D L : List UInt8} {P : List Wr} (h : Dsk q w n g gd gl cd cl vp D L P) (a m : Int) (ha : a ≤ 9223372036854775807) :
    Calls Try.prog 19 #[.pointer (some ⟨g, 0, none⟩), .int .i64 a, .int .i64 m] w fun e w' => e = .returned (.bool (decide (0 ≤ a ∧ 0 ≤ m ∧ m ≤ (n : Int) - a))) ∧ w = w' := by
  have HS := Lib.hid (diskSize h)
  have hf := h.few
  clear h
  by_cases h1 : 0 ≤ a
  · have d1 : decide (0 ≤ a) = true := by simp [h1]
    by_cases h2 : 0 ≤ m
    · have d2 : decide (0 ≤ m) = true := by simp [h2]
      have e : decide (0 ≤ a ∧ 0 ≤ m ∧ m ≤ (n : Int) - a) = decide (m ≤ (n : Int) - a) := by simp [h1, h2]
      rw [e]
      clear e
      by_cases h3 : m ≤ (n : Int) - a
      · have d3 : decide (m ≤ (n : Int) - a) = true := by simp [h3]
        rw [d3]
        go_enter Try.func19, Try.ntmps19
        go_wp2_with fail
        refine HS.out.mono ?_
        rintro e w1 ⟨rfl, rfl⟩
        go_wp2
        go_ret
        exact ⟨rfl, rfl⟩
      · have d3 : decide (m ≤ (n : Int) - a) = false := by simpa using h3
        rw [d3]
        clear h3
        go_enter Try.func19, Try.ntmps19
        go_wp2_with fail
        refine HS.out.mono ?_
        rintro e w1 ⟨rfl, rfl⟩
        go_wp2
        go_ret
        exact ⟨rfl, rfl⟩
    · have d2 : decide (0 ≤ m) = false := by simp; omega
      have e : decide (0 ≤ a ∧ 0 ≤ m ∧ m ≤ (n : Int) - a) = false := by simp; omega
      rw [e]
      clear e
      go_enter Try.func19, Try.ntmps19
      go_wp2
      go_ret
      exact ⟨rfl, rfl⟩
  · have d1 : decide (0 ≤ a) = false := by simp; omega
    have e : decide (0 ≤ a ∧ 0 ≤ m ∧ m ≤ (n : Int) - a) = false := by simp; omega
    rw [e]
    clear e
    go_enter Try.func19, Try.ntmps19
    go_wp2
    go_ret
    exact ⟨rfl, rfl⟩

/-- where piece(b, s, m) begins -/
def pieceAt (b off c s : Nat) : Option Addr := if c = 128 * s then some ⟨b, off, none⟩ else some ⟨b, off + 128 * s, none⟩

theorem pieceAt_pos {b off c s m : Nat} (h : 128 * (s + m) ≤ c) (hm : 0 < m) : pieceAt b off c s = some ⟨b, off + 128 * s, none⟩ := by
  unfold pieceAt
  rw [if_neg (by omega)]

/-- piece(b, s, m) -/
theorem diskPieceN (w : World) (b off n c s m : Nat) (h : 128 * (s + m) ≤ c) (hs : s + m ≤ 1000000) :
    Calls Try.prog 21 #[.slice (some ⟨b, off, none⟩) n c, .int .i64 (s : Int), .int .i64 (m : Int)] w fun e w' => e = .returned (.slice (pieceAt b off c s) (128 * m) (c - 128 * s)) ∧ w = w' := by
  have h1 : (s : Int) * 128 = ((128 * s : Nat) : Int) := by omega
  have h2 : ((s : Int) + (m : Int)) * 128 = ((128 * s + 128 * m : Nat) : Int) := by omega
  have hr : ∀ wx : World, (Instr.slice 22 (.slice (some ⟨b, off, none⟩) n c) (some (.int .i64 ((128 * s : Nat) : Int))) (some (.int .i64 ((128 * s + 128 * m : Nat) : Int))) none).run Try.prog wx = .ok (.slice (pieceAt b off c s) (128 * m) (c - 128 * s)) wx := by
    intro wx
    rw [run_slice_lh wx 22 (some ⟨b, off, none⟩) n c Try.underlying22 .i64 .i64 _ _ (by omega) (by omega) (by omega)]
    have hz : (sizeOf (Try.prog.elem 22)).run Try.prog wx = .ok 1 wx := by kernel_rfl
    rw [hz]
    simp only [Result.andThen_ok, sliced, Int.toNat_natCast, Nat.mul_one]
    rw [show 128 * s + 128 * m - 128 * s = 128 * m by omega, Option.map_some, Addr.add_mid]
    rfl
  have h3 : 128 * s + 128 * m ≤ 128000000 := by omega
  generalize pieceAt b off c s = A at *
  generalize hq : (128 * s + 128 * m : Nat) = y at *
  generalize hp : (128 * s : Nat) = p at *
  generalize 128 * m = z at *
  go_enter Try.func21, Try.ntmps21
  go_wp2
  go_ret
  exact ⟨rfl, rfl⟩

set_option maxHeartbeats 400000 in
theorem diskHas {q : Int} {w : World} {n g gd gl cd cl : Nat} {vp : Value} {D L : List UInt8} {P : List Wr} (h : Dsk q w n g gd gl cd cl vp D L P) (s : Nat) (hs : s < n) :
    Calls Try.prog 19 #[.pointer (some ⟨g, 0, none⟩), .int .i64 (s : Int), .int .i64 1] w fun e w' => e = .returned (.bool true) ∧ w = w' := by
  have := diskHasN h (s : Int) 1 (by have := h.few; omega)
  rwa [show decide (0 ≤ (s : Int) ∧ 0 ≤ (1 : Int) ∧ (1 : Int) ≤ (n : Int) - (s : Int)) = true by simp; omega] at this

/-- a new copy: its row, its value -/
def CopyTo (w : World) (l : List UInt8) (e : Ending) (w' : World) : Prop :=
  ∃ g c, e = .returned (.slice (some ⟨g, 0, none⟩) l.length c) ∧ RowB w' g l ∧ l.length ≤ c ∧ c ≤ maxLen ∧ w.heap.size ≤ g ∧ New w w'

theorem row_of_own {w : World} {base : Nat} {v : Value} {l : List UInt8} (h : w.ownsRow base 5 1 v l.length (l.map bv)) (hl : l ≠ []) :
    ∃ g c, v = .slice (some ⟨g, 0, none⟩) l.length c ∧ RowB w g l ∧ l.length ≤ c ∧ c ≤ maxLen ∧ base ≤ g := by
  rcases h.2 with ⟨-, h0⟩ | ⟨g, cap, cur, e, hb, hg, hn, hm, hs, ht⟩
  · exact absurd (List.eq_nil_of_length_eq_zero h0) hl
  · refine ⟨g, cap, e, ⟨cur.toList.drop l.length, ?_⟩, hn, hm, hb⟩
    rw [hg]
    congr 2
    rw [← ht, Nat.mul_one, List.take_append_drop]

set_option maxHeartbeats 400000 in
theorem bytesClone (w : World) (v : Value) (l : List UInt8) (h : Rd w v l) (hl : l ≠ []) (hn : l.length ≤ 140737488355328) : Calls Try.prog 18 #[v] w (CopyTo w l) := by
  obtain ⟨i0, hi0, hz0, hz1, hz2⟩ := info_parts infoB10
  have HV := Lib.hid h
  have h' := h
  obtain ⟨a, n, c, rfl, h1, h2, h3, h4, h5⟩ := h'
  cases a with
  | none => exact absurd (List.eq_nil_of_length_eq_zero (by rw [h1]; exact (h4 rfl).1)) hl
  | some ad =>
    have N1 : New w (w.alloc (.cells #[] 5)) := (Below.refl _ _).alloc (Nat.le_refl _) _
    have HX := Lib.hid (HV.out.new N1)
    have HL := Lib.hid hl
    have HN := Lib.hid hn
    have he : ∀ wx : World, (binOp .eql 22 (.slice (some ad) n c) (.slice none 0 0)).run Try.prog wx = .ok (.bool false) wx := fun _ => rfl
    clear h h1 h2 h3 h4 h5 hl hn
    go_enter Try.func18, Try.ntmps18
    go_wp2_with (at_builtin; (refine wpList_append_copy rfl (.tmp 5) (.tmp 6) 22 rfl 5 i0 _ Try.underlying22 hi0 hz0 hz1 hz2 rfl _ rfl _ l rfl HX.out HN.out ?_))
    intro v' w' h6 h7 h8
    have H8 := Lib.hid (h8 HL.out)
    have H7 := Lib.hid h7
    clear h6 h7 h8
    go_wp2
    go_ret
    obtain ⟨g, c', rfl, h9, h10, h11, h12⟩ := row_of_own H8.out HL.out
    exact ⟨g, c', rfl, h9, h10, h11, Nat.le_trans (by simp) h12, New.trans N1 H7.out⟩

/-- bytes.Clone of any slice -/
def CloneTo (w : World) (l : List UInt8) (e : Ending) (w' : World) : Prop :=
  ∃ a c, e = .returned (.slice a l.length c) ∧ Rd w' (.slice a l.length c) l ∧ New w w' ∧ (l ≠ [] → ∃ g, blk (.slice a l.length c) = some g ∧ w.heap.size ≤ g)

set_option maxHeartbeats 400000 in
theorem bytesCloneAny (w : World) (v : Value) (l : List UInt8) (h : Rd w v l) (hn : l.length ≤ 140737488355328) : Calls Try.prog 18 #[v] w (CloneTo w l) := by
  by_cases hl : l = []
  · subst hl
    obtain ⟨i0, hi0, hz0, hz1, hz2⟩ := info_parts infoB10
    have HV := Lib.hid h
    obtain ⟨a, n, c, rfl, h1, h2, h3, h4, h5⟩ := h
    simp only [List.length_nil] at h1
    subst h1
    cases a with
    | none =>
      obtain rfl : c = 0 := (h4 rfl).2
      have he : ∀ wx : World, (binOp .eql 22 (.slice none 0 0) (.slice none 0 0)).run Try.prog wx = .ok (.bool true) wx := fun _ => rfl
      clear h5
      go_enter Try.func18, Try.ntmps18
      go_wp2
      go_ret
      exact ⟨none, 0, rfl, Rd.nil _, Below.refl _ _, fun h => absurd rfl h⟩
    | some ad =>
      have N1 : New w (w.alloc (.cells #[] 5)) := (Below.refl _ _).alloc (Nat.le_refl _) _
      have HX := Lib.hid (HV.out.new N1)
      have he : ∀ wx : World, (binOp .eql 22 (.slice (some ad) 0 c) (.slice none 0 0)).run Try.prog wx = .ok (.bool false) wx := fun _ => rfl
      clear h2 h3 h4 h5 hn
      go_enter Try.func18, Try.ntmps18
      go_wp2_with (at_builtin; (refine wpList_append_copy rfl (.tmp 5) (.tmp 6) 22 rfl 5 i0 _ Try.underlying22 hi0 hz0 hz1 hz2 rfl _ rfl _ [] rfl HX.out (by decide) ?_))
      intro v' w' h6 h7
      obtain ⟨av, nv, cv, rfl, hnv⟩ : ∃ a n c, v' = .slice a n c ∧ n = 0 := by
        obtain ⟨a, n, c, e, h, -⟩ := h6; exact ⟨a, n, c, e, by simpa using h.symm⟩
      subst hnv
      have H6 := Lib.hid h6
      have H7 := Lib.hid h7
      clear h6 h7
      go_wp2
      go_ret
      exact ⟨av, cv, rfl, H6.out, New.trans N1 H7.out, fun h => absurd rfl h⟩
  · refine (bytesClone w v l h hl hn).mono fun e w' hh => ?_
    obtain ⟨g, c, rfl, h1, h2, h3, h4, h5⟩ := hh
    exact ⟨_, c, rfl, h1.rd h2 h3, h5, fun _ => ⟨g, rfl, h4⟩⟩

theorem Dsk.rdL {q : Int} {w : World} {n g gd gl cd cl : Nat} {vp : Value} {D L : List UInt8} {P : List Wr} (h : Dsk q w n g gd gl cd cl vp D L P) : Rd w (.slice (some ⟨gl, 0, none⟩) (128 * n) cl) L := by
  have := h.rowL.rd (c := cl) (by rw [h.lenL]; exact h.capL.1) h.capL.2
  rwa [h.lenL] at this

set_option maxHeartbeats 400000 in
theorem diskImage {q : Int} {w : World} {n g gd gl cd cl : Nat} {vp : Value} {D L : List UInt8} {P : List Wr} (h : Dsk q w n g gd gl cd cl vp D L P) :
    Calls Try.prog 9 #[.pointer (some ⟨g, 0, none⟩)] w (CopyTo w L) := by
  obtain ⟨-, c1, -, -⟩ := h.cells
  have HC := Lib.hid (bytesClone w _ L h.rdL (by intro e; have h1 := h.few; have h2 := h.lenL; rw [e] at h2; simp at h2; omega) (by have := h.lenL; have := h.few; omega))
  clear h
  generalize 128 * n = m at *
  go_enter Try.func9, Try.ntmps9
  go_wp2_with fail
  refine HC.out.mono ?_
  rintro e w1 ⟨g1, k1, rfl, h1⟩
  have H1 := Lib.hid h1
  clear h1
  go_wp2
  go_ret
  exact ⟨g1, k1, rfl, H1.out⟩

end Go.Proofs.Ytmalbfpipdebaaa
