/-
  The writer of package wire, its other functions.
-/
import Derived.Test.YtfnnicdlncgfkaaPen
namespace Go.Proofs.Ytfnnicdlncgfkaa
set_option linter.unusedVariables false
set_option linter.unusedSimpArgs false
open Go.RowKit

/-- a bounded text -/
def Fit (s : Option (List UInt8)) (k : Nat) : Prop := ∀ l, s = some l → l.length + k ≤ 140737488355328

theorem penNumberAny (w : World) (p : Nat) (g : Option Nat) (s : Option (List UInt8)) (n : Int) (size : Nat) (h : Pen w p g s) (hn : 0 ≤ n) (hn' : n < 18446744073709551616) (hs : size ≤ 8) (hb : Fit s 8) :
    Calls Try.prog 40 #[.pointer (some ⟨p, 0, none⟩), .int .u64 n, .int .i64 size] w (PenTo w p g (s.map (· ++ be size n.toNat))) := by
  cases s with
  | none => exact penNumberBad w p g n size h
  | some l => exact penNumber w p g l n size h hn hn' hs (hb l rfl)

/-- a number in a range, or the writer is bad -/
def wU (size : Nat) (n : Int) (s : Option (List UInt8)) : Option (List UInt8) := if 0 ≤ n ∧ n < 256 ^ size then s.map (· ++ be size n.toNat) else none

theorem penFail {w : World} {p : Nat} {g : Option Nat} {s : Option (List UInt8)} (h : Pen w p g s) : PenIn w p g none (w.setCell ⟨p, 1, none⟩ (.bool true)) := by
  obtain ⟨v, out, hp, hown, hg, hl⟩ := h
  exact ⟨(Only.refl _ _).setCell (fun _ => .inl rfl) _, g, ⟨v, out, two_setCell1 hp, ownsRow_setCell_other hown (own_ne hown hp (by decide)) _, hg, (fun l h => by cases h)⟩, .inl rfl⟩

theorem pow_8 (size : Nat) : (256 : Int) ^ size = 2 ^ (8 * size) := by rw [Int.pow_mul]; rfl

set_option maxHeartbeats 400000 in
theorem penRanged (w : World) (p : Nat) (g : Option Nat) (s : Option (List UInt8)) (n : Int) (size : Nat) (h : Pen w p g s) (hn : -9223372036854775808 ≤ n) (hn' : n ≤ 9223372036854775807) (hs : size ≤ 4) (hb : Fit s 8) :
    Calls Try.prog 39 #[.pointer (some ⟨p, 0, none⟩), .int .i64 n, .int .i64 size] w (PenTo w p g (wU size n s)) := by
  obtain ⟨v, out, _, hc1, _, hfz, hlp, _, _, _, _, _⟩ := h.cells
  by_cases h0 : n < 0
  · have e : wU size n s = none := by unfold wU; rw [if_neg (by omega)]
    rw [e]
    go_enter Try.func39, Try.ntmps39
    go_wp2
    go_end0
    exact ⟨rfl, penFail h⟩
  · by_cases h1 : n < 2 ^ (8 * size)
    · have e : wU size n s = s.map (· ++ be size n.toNat) := by unfold wU; rw [if_pos ⟨by omega, by rw [pow_8]; exact h1⟩]
      have hz : (n / 2 ^ (8 * size) != 0) = false := by
        rw [bne_eq_false_iff_eq]
        exact Int.ediv_eq_zero_of_lt (by omega) h1
      rw [e]
      clear h1 e
      go_enter Try.func39, Try.ntmps39
      go_wp2_with fail
      refine (penNumberAny w p g s n size h (by omega) (by omega) (by omega) hb).mono ?_
      rintro e w' ⟨rfl, hw⟩
      go_wp2
      go_end0
      exact ⟨rfl, hw⟩
    · have e : wU size n s = none := by unfold wU; rw [if_neg (by rw [pow_8]; exact fun hh => h1 hh.2)]
      have hz : (n / 2 ^ (8 * size) != 0) = true := by
        rw [bne_iff_ne]
        intro hh
        have hp : (0 : Int) < 2 ^ (8 * size) := Int.pow_pos (by decide)
        have := Int.lt_ediv_add_one_mul_self n hp
        rw [hh] at this
        omega
      rw [e]
      clear h1 e
      go_enter Try.func39, Try.ntmps39
      go_wp2
      go_end0
      exact ⟨rfl, penFail h⟩

theorem PenIn.trans {w w1 w2 : World} {p : Nat} {g g1 : Option Nat} {s1 s2 : Option (List UInt8)} (h : Only (fun k => k = p ∨ some k = g) w w1) (hg : g1 = g ∨ ∃ k, g1 = some k ∧ w.heap.size ≤ k) (k : PenIn w1 p g1 s2 w2) (_ : Pen w1 p g1 s1) : PenIn w p g s2 w2 := by
  obtain ⟨ho, g2, hp, hg2⟩ := k
  refine ⟨h.trans ho ?_, g2, hp, ?_⟩
  · rintro i hi (e | e)
    · exact .inl e
    · rcases hg with r | ⟨j, r, hj⟩
      · exact .inr (by rw [← r, e])
      · rw [r] at e; cases e; omega
  · rcases hg2 with r | ⟨j, r, hj⟩
    · rw [r]; exact hg
    · exact .inr ⟨j, r, Nat.le_trans h.size hj⟩

set_option maxHeartbeats 400000 in
theorem penU8 (w : World) (p : Nat) (g : Option Nat) (s : Option (List UInt8)) (n : Int) (h : Pen w p g s) (hn : -9223372036854775808 ≤ n) (hn' : n ≤ 9223372036854775807) (hb : Fit s 8) :
    Calls Try.prog 11 #[.pointer (some ⟨p, 0, none⟩), .int .i64 n] w (PenTo w p g (wU 1 n s)) := by
  go_enter Try.func11, Try.ntmps11
  go_wp2_with fail
  refine (penRanged w p g s n 1 h hn hn' (by omega) hb).mono ?_
  rintro e w' ⟨rfl, hw⟩
  go_wp2
  go_end0
  exact ⟨rfl, hw⟩

set_option maxHeartbeats 400000 in
theorem penU16 (w : World) (p : Nat) (g : Option Nat) (s : Option (List UInt8)) (n : Int) (h : Pen w p g s) (hn : -9223372036854775808 ≤ n) (hn' : n ≤ 9223372036854775807) (hb : Fit s 8) :
    Calls Try.prog 12 #[.pointer (some ⟨p, 0, none⟩), .int .i64 n] w (PenTo w p g (wU 2 n s)) := by
  go_enter Try.func12, Try.ntmps12
  go_wp2_with fail
  refine (penRanged w p g s n 2 h hn hn' (by omega) hb).mono ?_
  rintro e w' ⟨rfl, hw⟩
  go_wp2
  go_end0
  exact ⟨rfl, hw⟩

set_option maxHeartbeats 400000 in
theorem penU32 (w : World) (p : Nat) (g : Option Nat) (s : Option (List UInt8)) (n : Int) (h : Pen w p g s) (hn : -9223372036854775808 ≤ n) (hn' : n ≤ 9223372036854775807) (hb : Fit s 8) :
    Calls Try.prog 13 #[.pointer (some ⟨p, 0, none⟩), .int .i64 n] w (PenTo w p g (wU 4 n s)) := by
  go_enter Try.func13, Try.ntmps13
  go_wp2_with fail
  refine (penRanged w p g s n 4 h hn hn' (by omega) hb).mono ?_
  rintro e w' ⟨rfl, hw⟩
  go_wp2
  go_end0
  exact ⟨rfl, hw⟩

set_option maxHeartbeats 400000 in
theorem penU64 (w : World) (p : Nat) (g : Option Nat) (s : Option (List UInt8)) (n : Int) (h : Pen w p g s) (hn : 0 ≤ n) (hn' : n < 18446744073709551616) (hb : Fit s 8) :
    Calls Try.prog 14 #[.pointer (some ⟨p, 0, none⟩), .int .u64 n] w (PenTo w p g (s.map (· ++ be 8 n.toNat))) := by
  go_enter Try.func14, Try.ntmps14
  go_wp2_with fail
  refine (penNumberAny w p g s n 8 h hn hn' (by omega) hb).mono ?_
  rintro e w' ⟨rfl, hw⟩
  go_wp2
  go_end0
  exact ⟨rfl, hw⟩

theorem own_slice {w : World} {base : Nat} {e : TypeId} {size : Nat} {v : Value} {n : Nat} {xs : List Value} (h : w.ownsRow base e size v n xs) : ∃ a m c, v = .slice a m c := by
  rcases h.2 with ⟨rfl, _⟩ | ⟨q, cap, cur, rfl, _⟩
  · exact ⟨_, _, _, rfl⟩
  · exact ⟨_, _, _, rfl⟩

set_option maxHeartbeats 400000 in
theorem penRaw (w : World) (p : Nat) (g : Option Nat) (s : Option (List UInt8)) (x : Value) (l : List UInt8) (h : Pen w p g s) (hx : Rd w x l) (hb : Fit s l.length) :
    Calls Try.prog 15 #[.pointer (some ⟨p, 0, none⟩), x] w (PenTo w p g (s.map (· ++ l))) := by
  obtain ⟨v, out, hc0, hc1, hfz, _, hlp, hown, hg, hne, HL, HP⟩ := h.cells
  obtain ⟨i0, hi0, hz0, hz1, hz2⟩ := info_parts infoByte
  cases s with
  | none =>
    simp only [Option.isNone_none] at hc1
    go_enter Try.func15, Try.ntmps15
    go_wp2
    go_end0
    exact ⟨rfl, Only.refl _ _, g, h, .inl rfl⟩
  | some m =>
    obtain rfl := HL.out _ rfl
    simp only [Option.isNone_some] at hc1
    have hb1 := hb _ rfl
    have HG := Lib.hid hg
    clear hg
    go_enter Try.func15, Try.ntmps15
    go_wp2_with (at_builtin; refine wpList_append_bytes rfl (.tmp 13) (.tmp 14) 28 rfl 0 5 i0 _ Try.underlying28 hi0 hz0 hz1 hz2 rfl v _ _ rfl hown x l rfl hx hb1 (Nat.zero_le _) ?_)
    intro v' w1 hown1 hgrow hat
    obtain ⟨hk0, hk1⟩ := keep2 hgrow hlp hne ⟨hc0, hfz⟩
    obtain ⟨av, nv, cv, hv'⟩ := own_slice hown1
    rw [hv']
    go_wp2
    go_end0
    refine ⟨rfl, ?_⟩
    rw [← hv']
    exact penPut (wr := w) (v := v) (Only.refl _ _) HP.out HG.out (.inl rfl) (Below.refl _ _) hgrow (by simpa using hown1) (by rcases hat with e | e; exact .inl e; exact .inr ⟨_, e, Nat.le_refl _⟩) hne

theorem be_one_len (m : Option (List UInt8)) (size : Nat) (n : Int) (k j : Nat) (h : Fit m k) (hj : size + j ≤ k) : Fit (wU size n m) j := by
  intro l hl
  unfold wU at hl
  split at hl
  · cases m with
    | none => cases hl
    | some x => cases hl; have := h x rfl; simp [be_length]; omega
  · cases hl

/-- a text behind its length, or the writer is bad -/
def wText (size : Nat) (l : List UInt8) (s : Option (List UInt8)) : Option (List UInt8) := (wU size l.length s).map (· ++ l)

set_option maxHeartbeats 400000 in
theorem penShort (w : World) (p : Nat) (g : Option Nat) (s : Option (List UInt8)) (x : Value) (l : List UInt8) (h : Pen w p g s) (hx : Rd w x l) (hd : l ≠ [] → blk x ≠ some p ∧ (blk x ≠ none → blk x ≠ g)) (hb : Fit s (l.length + 8)) :
    Calls Try.prog 16 #[.pointer (some ⟨p, 0, none⟩), x] w (PenTo w p g (wText 1 l s)) := by
  have hx' := hx
  obtain ⟨a, n, c, rfl, h1, h2, h3, h4, h5⟩ := hx'
  have hn : (n : Int) ≤ 9223372036854775807 := by unfold maxLen at h3; omega
  have HX := Lib.hid hx
  have HN := Lib.hid h1
  clear h1 h5 h4 hx h3
  go_enter Try.func16, Try.ntmps16
  go_wp2_with fail
  refine (penU8 w p g s n h (by omega) (by omega) (fun m hm => by have := hb m hm; omega)).mono ?_
  rintro e w1 ⟨rfl, ho, g1, hp1, hg1⟩
  have hr1 : Rd w1 (.slice a n c) l := HX.out.only ho (by
    rintro k hk hne (e | e)
    · subst e; exact (hd hne).1 hk
    · exact (hd hne).2 (by rw [hk]; simp) (by rw [hk, e]))
  have HR := Lib.hid hr1
  have HG := Lib.hid hg1
  clear hr1 hg1
  go_wp2_with fail
  refine (penRaw w1 p g1 _ _ l hp1 HR.out (be_one_len s 1 n (l.length + 8) l.length hb (by omega))).mono ?_
  rintro e w2 ⟨rfl, hw⟩
  go_wp2
  go_end0
  refine ⟨rfl, ?_⟩
  have := PenIn.trans ho HG.out hw hp1
  unfold wText
  rw [HN.out]
  exact this

set_option maxHeartbeats 400000 in
theorem penLong (w : World) (p : Nat) (g : Option Nat) (s : Option (List UInt8)) (x : Value) (l : List UInt8) (h : Pen w p g s) (hx : Rd w x l) (hd : l ≠ [] → blk x ≠ some p ∧ (blk x ≠ none → blk x ≠ g)) (hb : Fit s (l.length + 8)) :
    Calls Try.prog 17 #[.pointer (some ⟨p, 0, none⟩), x] w (PenTo w p g (wText 2 l s)) := by
  have hx' := hx
  obtain ⟨a, n, c, rfl, h1, h2, h3, h4, h5⟩ := hx'
  have hn : (n : Int) ≤ 9223372036854775807 := by unfold maxLen at h3; omega
  have HX := Lib.hid hx
  have HN := Lib.hid h1
  clear h1 h5 h4 hx h3
  go_enter Try.func17, Try.ntmps17
  go_wp2_with fail
  refine (penU16 w p g s n h (by omega) (by omega) (fun m hm => by have := hb m hm; omega)).mono ?_
  rintro e w1 ⟨rfl, ho, g1, hp1, hg1⟩
  have hr1 : Rd w1 (.slice a n c) l := HX.out.only ho (by
    rintro k hk hne (e | e)
    · subst e; exact (hd hne).1 hk
    · exact (hd hne).2 (by rw [hk]; simp) (by rw [hk, e]))
  have HR := Lib.hid hr1
  have HG := Lib.hid hg1
  clear hr1 hg1
  go_wp2_with fail
  refine (penRaw w1 p g1 _ _ l hp1 HR.out (be_one_len s 2 n (l.length + 8) l.length hb (by omega))).mono ?_
  rintro e w2 ⟨rfl, hw⟩
  go_wp2
  go_end0
  refine ⟨rfl, ?_⟩
  have := PenIn.trans ho HG.out hw hp1
  unfold wText
  rw [HN.out]
  exact this

end Go.Proofs.Ytfnnicdlncgfkaa
