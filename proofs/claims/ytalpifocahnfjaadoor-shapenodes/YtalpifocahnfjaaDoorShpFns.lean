/-
  Layer 18: the landed program's functions, one by one: what ShpApi asks of them.
-/
import Derived.Test.YtalpifocahnfjaaDoorShpApi
import Derived.BigQuiet
import Derived.Deep.QuietTactic
import Derived.Lib.LaidTab
import Derived.KernelRfl
namespace Go.Proofs.YtalpifocahnfjaaDoor
set_option linter.unusedVariables false
set_option linter.unusedSimpArgs false
set_option maxRecDepth 100000
open Go.RowKit

/-- math/bits' table of places, as its text lays it -/
def deb : List Nat := [0, 1, 56, 2, 57, 49, 28, 3, 61, 58, 42, 50, 38, 29, 17, 4, 62, 47, 59, 36, 45, 43, 51, 22, 53, 39, 33, 30, 24, 18, 12, 5, 63, 55, 48, 27, 60, 41, 37, 16, 46, 35, 44, 21, 52, 32, 23, 11, 54, 26, 40, 15, 34, 20, 31, 10, 25, 14, 19, 9, 13, 8, 7, 6]

/-- the table lies where the program laid it -/
def La18 (w : World) : Prop := ∀ i, i < 64 → w.cell? ⟨1, i, none⟩ = some (.int .u8 ((deb.getD i 0 : Nat) : Int))

theorem La18.new {w w' : World} (h : La18 w) (hn : New w w') : La18 w' := fun i hi => by
  have h1 := h i hi
  exact (hn.cell (p := ⟨1, i, none⟩) (World.block_lt_of_cell? w _ h1)).trans h1

/-- the index that the walk computes -/
def debIx (n : Nat) : Int := IntKind.u64.wrap (bits .and .u64 ((18446744073709551615 - n : Nat) : Int) (IntKind.u64.wrap (-((18446744073709551615 - n : Nat) : Int))) * 285870213051353865) / 288230376151711744
theorem deb_lv : ∀ n, n < 63 → 0 ≤ debIx n ∧ debIx n < 64 ∧ (debIx n).toNat < 64 ∧ deb.getD (debIx n).toNat 0 = lv n := by decide +kernel

set_option maxHeartbeats 1000000 in
theorem tz64 (w : World) (hL : La18 w) (n : Nat) (hn : n < 63) : Calls Tryd.prog 30 #[.int .u64 ((18446744073709551615 - n : Nat) : Int)] w fun e w' => e = .returned (.int .i64 (lv n : Nat)) ∧ w = w' := by
  have h0 : ¬ (((18446744073709551615 - n : Nat) : Int) = 0) := by omega
  obtain ⟨d1, d2, d3, d4⟩ := deb_lv n hn
  have hc := hL (debIx n).toNat d3
  rw [d4] at hc
  have h5 := lv_le n hn
  unfold debIx at *
  clear d3 d4 hL
  go_enter Tryd.func30, Tryd.ntmps30
  go_wp2
  go_ret
  exact ⟨rfl, rfl⟩

theorem tz (w : World) (hL : La18 w) (n : Nat) (hn : n < 63) : Calls Tryd.prog 26 #[.int .u64 ((18446744073709551615 - n : Nat) : Int)] w fun e w' => e = .returned (.int .i64 (lv n : Nat)) ∧ w = w' := by
  have HT := Lib.hid (tz64 w hL n hn)
  go_enter Tryd.func26, Tryd.ntmps26
  go_wp2_with fail
  refine HT.out.mono ?_
  rintro _ w1 ⟨rfl, rfl⟩
  go_wp2
  go_ret
  exact ⟨rfl, rfl⟩

theorem known18 (w : World) (n : Int) (hn : in64 n) : Calls Tryd.prog 25 #[.int .i64 n] w fun e w' => e = .returned (.bool (decide (shNode n))) ∧ w = w' := by
  by_cases h0 : 0 ≤ n
  · by_cases h1 : n ≤ 62
    · rw [decide_eq_true (p := shNode n) ⟨h0, h1⟩]
      go_enter Tryd.func25, Tryd.ntmps25
      go_wp2
      go_ret
      exact ⟨rfl, rfl⟩
    · rw [decide_eq_false (p := shNode n) (fun h => h1 h.2)]
      go_enter Tryd.func25, Tryd.ntmps25
      go_wp2
      go_ret
      exact ⟨rfl, rfl⟩
  · rw [decide_eq_false (p := shNode n) (fun h => h0 h.1)]
    go_enter Tryd.func25, Tryd.ntmps25
    go_wp2
    go_ret
    exact ⟨rfl, rfl⟩

theorem xor_fact : ∀ n : Nat, n < 63 → bits .xor .u64 IntKind.u64.max (n : Int) = ((18446744073709551615 - n : Nat) : Int) := by decide +kernel

theorem level18 (w : World) (n : Int) (hL : La18 w) (hn : in64 n) : Calls Tryd.prog 12 #[.int .i64 n] w fun e w' => e = .returned (.int .i64 (shLevel n)) ∧ w = w' := by
  have HK := Lib.hid (known18 w n hn)
  by_cases h : shNode n
  · rw [decide_eq_true h] at HK
    rw [show shLevel n = (lv n.toNat : Int) by unfold shLevel; rw [if_pos h]]
    obtain ⟨m, rfl⟩ := Int.eq_ofNat_of_zero_le h.1
    have hm : m < 63 := by have := h.2; omega
    have HT := Lib.hid (tz w hL m hm)
    rw [← xor_fact m hm] at HT
    rw [Int.toNat_natCast]
    clear h hL hn
    go_enter Tryd.func12, Tryd.ntmps12
    go_wp2_with fail
    refine HK.out.mono ?_
    rintro _ w1 ⟨rfl, rfl⟩
    go_wp2_with fail
    refine HT.out.mono ?_
    rintro _ w1 ⟨rfl, rfl⟩
    go_wp2
    go_ret
    exact ⟨rfl, rfl⟩
  · rw [decide_eq_false h] at HK
    rw [show shLevel n = 0 by unfold shLevel; rw [if_neg h]]
    clear h hL hn
    go_enter Tryd.func12, Tryd.ntmps12
    go_wp2_with fail
    refine HK.out.mono ?_
    rintro _ w1 ⟨rfl, rfl⟩
    go_wp2
    go_ret
    exact ⟨rfl, rfl⟩

theorem root18 (w : World) (n : Int) (h : -9223372036854775807 ≤ n ∧ n ≤ 9223372036854775807) : Calls Tryd.prog 27 #[.int .i64 n] w fun e w' => e = .returned (.int .i64 (n - 1)) ∧ w = w' := by
  go_enter Tryd.func27, Tryd.ntmps27
  go_wp2
  go_ret
  exact ⟨rfl, rfl⟩

theorem and_fact : ∀ n : Nat, n < 33 → 1 ≤ n → (bits .and .i64 (n : Int) ((n : Int) - 1) = 0 ↔ shFits (n : Int) = true) := by decide +kernel
theorem fits_big {n : Int} (h : ¬ (1 ≤ n ∧ n ≤ 32)) : shFits n = false := by
  cases hf : shFits n with
  | false => rfl
  | true => exact absurd (by obtain ⟨m, hm, rfl⟩ := fits_mem hf; have := fits_le hm; omega) h

theorem fits18 (w : World) (n : Int) (hn : in64 n) : Calls Tryd.prog 15 #[.int .i64 n] w fun e w' => e = .returned (.bool (shFits n)) ∧ w = w' := by
  by_cases h0 : 1 ≤ n
  · by_cases h1 : n ≤ 32
    · obtain ⟨m, rfl⟩ := Int.eq_ofNat_of_zero_le (show 0 ≤ n by omega)
      have hf := and_fact m (by omega) (by omega)
      cases hs : shFits (m : Int) with
      | true =>
        have hz := hf.2 hs
        clear hf hs
        go_enter Tryd.func15, Tryd.ntmps15
        go_wp2
        go_ret
        exact ⟨rfl, rfl⟩
      | false =>
        have hz : ¬ bits .and .i64 (m : Int) ((m : Int) - 1) = 0 := fun h => by rw [hf.1 h] at hs; cases hs
        have hz' : (bits .and .i64 (m : Int) ((m : Int) - 1) == 0) = false := by simpa using hz
        clear hf hs
        go_enter Tryd.func15, Tryd.ntmps15
        go_wp2
        go_ret
        exact ⟨rfl, rfl⟩
    · rw [fits_big (fun h => h1 h.2)]
      go_enter Tryd.func15, Tryd.ntmps15
      go_wp2
      go_ret
      exact ⟨rfl, rfl⟩
  · rw [fits_big (fun h => h0 h.1)]
    go_enter Tryd.func15, Tryd.ntmps15
    go_wp2
    go_ret
    exact ⟨rfl, rfl⟩

theorem width18 (w : World) (n : Int) (hn : in64 n) : Calls Tryd.prog 16 #[.int .i64 n] w fun e w' => e = .returned (.int .i64 (shWidth n)) ∧ w = w' := by
  have HF := Lib.hid (fits18 w n hn)
  unfold shWidth
  cases hf : shFits n with
  | false =>
    rw [hf] at HF
    clear hf hn
    go_enter Tryd.func16, Tryd.ntmps16
    go_wp2_with fail
    refine HF.out.mono ?_
    rintro _ w1 ⟨rfl, rfl⟩
    go_wp2
    go_ret
    exact ⟨rfl, rfl⟩
  | true =>
    rw [hf] at HF
    obtain ⟨m, hm, rfl⟩ := fits_mem hf
    have h32 := fits_le hm
    clear hf hm hn
    go_enter Tryd.func16, Tryd.ntmps16
    go_wp2_with fail
    refine HF.out.mono ?_
    rintro _ w1 ⟨rfl, rfl⟩
    go_wp2
    go_ret
    exact ⟨rfl, rfl⟩

theorem left_fact : ∀ n : Nat, n < 63 → wrap64 ((n : Int) + wrap64 (-2 ^ (lv n - 1))) = (n : Int) - 2 ^ (lv n - 1) := by decide +kernel
theorem right_fact : ∀ n : Nat, n < 63 → wrap64 ((n : Int) + wrap64 (2 ^ (lv n - 1))) = (n : Int) + 2 ^ (lv n - 1) := by decide +kernel

theorem kidL18 (w : World) (n : Int) (hL : La18 w) (hn : in64 n) : Calls Tryd.prog 24 #[.int .i64 n, .int .i64 (-1)] w fun e w' => e = .returned (.tuple #[.int .i64 (shLeft n), .bool (shKid n)]) ∧ w = w' := by
  have HV := Lib.hid (level18 w n hL hn)
  by_cases hk : shLevel n = 0
  · have hkk : shKid n = false := by unfold shKid; rw [hk]; rfl
    rw [show shLeft n = 0 by unfold shLeft; rw [if_neg (by rw [hkk]; decide)], hkk]
    rw [hk] at HV
    clear hk hkk hn hL
    go_enter Tryd.func24, Tryd.ntmps24
    go_wp2_with fail
    refine HV.out.mono ?_
    rintro _ w1 ⟨rfl, rfl⟩
    go_wp2
    go_ret2
    exact ⟨rfl, rfl⟩
  · have hkk : shKid n = true := by unfold shKid; simpa using hk
    rw [show shLeft n = n - 2 ^ (lv n.toNat - 1) by unfold shLeft; rw [if_pos hkk], hkk]
    have hnd : shNode n := Decidable.by_contra fun h => hk (by unfold shLevel; rw [if_neg h])
    have hle : shLevel n = (lv n.toNat : Int) := by unfold shLevel; rw [if_pos hnd]
    rw [hle] at HV hk
    obtain ⟨m, rfl⟩ := Int.eq_ofNat_of_zero_le hnd.1
    rw [Int.toNat_natCast] at *
    have h63 : m < 63 := by have := hnd.2; omega
    have h5 := lv_le m h63
    have HE := Lib.hid (left_fact m h63)
    clear hkk hnd hle hn hL h63
    go_enter Tryd.func24, Tryd.ntmps24
    go_wp2_with fail
    refine HV.out.mono ?_
    rintro _ w1 ⟨rfl, rfl⟩
    go_wp2
    rw [HE.out]
    go_ret2
    exact ⟨rfl, rfl⟩

theorem kidR18 (w : World) (n : Int) (hL : La18 w) (hn : in64 n) : Calls Tryd.prog 24 #[.int .i64 n, .int .i64 1] w fun e w' => e = .returned (.tuple #[.int .i64 (shRight n), .bool (shKid n)]) ∧ w = w' := by
  have HV := Lib.hid (level18 w n hL hn)
  by_cases hk : shLevel n = 0
  · have hkk : shKid n = false := by unfold shKid; rw [hk]; rfl
    rw [show shRight n = 0 by unfold shRight; rw [if_neg (by rw [hkk]; decide)], hkk]
    rw [hk] at HV
    clear hk hkk hn hL
    go_enter Tryd.func24, Tryd.ntmps24
    go_wp2_with fail
    refine HV.out.mono ?_
    rintro _ w1 ⟨rfl, rfl⟩
    go_wp2
    go_ret2
    exact ⟨rfl, rfl⟩
  · have hkk : shKid n = true := by unfold shKid; simpa using hk
    rw [show shRight n = n + 2 ^ (lv n.toNat - 1) by unfold shRight; rw [if_pos hkk], hkk]
    have hnd : shNode n := Decidable.by_contra fun h => hk (by unfold shLevel; rw [if_neg h])
    have hle : shLevel n = (lv n.toNat : Int) := by unfold shLevel; rw [if_pos hnd]
    rw [hle] at HV hk
    obtain ⟨m, rfl⟩ := Int.eq_ofNat_of_zero_le hnd.1
    rw [Int.toNat_natCast] at *
    have h63 : m < 63 := by have := hnd.2; omega
    have h5 := lv_le m h63
    have HE := Lib.hid (right_fact m h63)
    clear hkk hnd hle hn hL h63
    go_enter Tryd.func24, Tryd.ntmps24
    go_wp2_with fail
    refine HV.out.mono ?_
    rintro _ w1 ⟨rfl, rfl⟩
    go_wp2
    rw [HE.out]
    go_ret2
    exact ⟨rfl, rfl⟩

theorem left18 (w : World) (n : Int) (hL : La18 w) (hn : in64 n) : Calls Tryd.prog 7 #[.int .i64 n] w fun e w' => e = .returned (.tuple #[.int .i64 (shLeft n), .bool (shKid n)]) ∧ w = w' := by
  have HK := Lib.hid (kidL18 w n hL hn)
  go_enter Tryd.func7, Tryd.ntmps7
  go_wp2_with fail
  refine HK.out.mono ?_
  rintro _ w1 ⟨rfl, rfl⟩
  go_wp2
  go_ret2
  exact ⟨rfl, rfl⟩

theorem right18 (w : World) (n : Int) (hL : La18 w) (hn : in64 n) : Calls Tryd.prog 8 #[.int .i64 n] w fun e w' => e = .returned (.tuple #[.int .i64 (shRight n), .bool (shKid n)]) ∧ w = w' := by
  have HK := Lib.hid (kidR18 w n hL hn)
  go_enter Tryd.func8, Tryd.ntmps8
  go_wp2_with fail
  refine HK.out.mono ?_
  rintro _ w1 ⟨rfl, rfl⟩
  go_wp2
  go_ret2
  exact ⟨rfl, rfl⟩

theorem under_fact : ∀ n : Nat, n < 63 → wrap64 ((wrap64 ((n : Int) - wrap64 (wrap64 (2 ^ lv n) - 1))).tdiv 2) = (lo n : Int) ∧ wrap64 ((wrap64 ((n : Int) + wrap64 (wrap64 (2 ^ lv n) - 1))).tdiv 2) = (hi n : Int) := by decide +kernel

theorem under18 (w : World) (n : Int) (hL : La18 w) (hn : in64 n) : Calls Tryd.prog 10 #[.int .i64 n] w fun e w' => e = .returned (.tuple #[.int .i64 (shFirst n), .int .i64 (shLast n)]) ∧ w = w' := by
  have HK := Lib.hid (known18 w n hn)
  have HV := Lib.hid (level18 w n hL hn)
  by_cases h : shNode n
  · rw [decide_eq_true h] at HK
    rw [show shFirst n = (lo n.toNat : Int) by unfold shFirst; rw [if_pos h], show shLast n = (hi n.toNat : Int) by unfold shLast; rw [if_pos h]]
    rw [show shLevel n = (lv n.toNat : Int) by unfold shLevel; rw [if_pos h]] at HV
    obtain ⟨m, rfl⟩ := Int.eq_ofNat_of_zero_le h.1
    have hm : m < 63 := by have := h.2; omega
    rw [Int.toNat_natCast] at *
    have h5 := lv_le m hm
    have HE := Lib.hid (under_fact m hm)
    clear h hL hn
    go_enter Tryd.func10, Tryd.ntmps10
    go_wp2_with fail
    refine HK.out.mono ?_
    rintro _ w1 ⟨rfl, rfl⟩
    go_wp2_with fail
    refine HV.out.mono ?_
    rintro _ w1 ⟨rfl, rfl⟩
    go_wp2
    rw [HE.out.1, HE.out.2]
    go_ret2
    exact ⟨rfl, rfl⟩
  · rw [decide_eq_false h] at HK
    rw [show shFirst n = 0 by unfold shFirst; rw [if_neg h], show shLast n = -1 by unfold shLast; rw [if_neg h]]
    clear h hL hn HV
    go_enter Tryd.func10, Tryd.ntmps10
    go_wp2_with fail
    refine HK.out.mono ?_
    rintro _ w1 ⟨rfl, rfl⟩
    go_wp2
    go_ret2
    exact ⟨rfl, rfl⟩

theorem up_fact : ∀ n : Nat, n < 63 → bits .andNot .i64 (bits .or .i64 (n : Int) (wrap64 (2 ^ lv n))) (wrap64 (2 * 2 ^ lv n)) = (up n : Int) := by decide +kernel
theorem sib_fact : ∀ n : Nat, n < 63 → 2 * (up n : Int) - (n : Int) = (sib n : Int) := by decide +kernel
theorem up_step : ∀ m ∈ fitsL, ∀ l, l < m → ∀ i, i < (pathL l m).length → up (nodeAt l m i) = nodeAt l m (i + 1) := by decide +kernel

theorem above18 (w : World) (n m : Int) (hL : La18 w) (hn : in64 n) (hm : in64 m) : Calls Tryd.prog 17 #[.int .i64 n, .int .i64 m] w fun e w' => e = .returned (.tuple #[.int .i64 (shAbove n m), .bool (decide (shUp n m))]) ∧ New w w' := by
  have HW := Lib.hid (width18 w m hm)
  have HV := Lib.hid (level18 w n hL hn)
  have hn' := hn
  have hm' := hm
  unfold in64 at hn' hm'
  by_cases h0 : n < 0
  · have hup : ¬ shUp n m := fun h => by have := h.2.1; omega
    rw [decide_eq_false hup, show shAbove n m = 0 by unfold shAbove; rw [if_neg hup]]
    clear hup HV HW
    go_enter Tryd.func17, Tryd.ntmps17
    go_wp2
    go_ret2
    exact ⟨rfl, Below.refl _ _⟩
  by_cases h1 : shWidth m ≤ n
  · have hup : ¬ shUp n m := fun h => by have := h.2.2.1; have := h.1; unfold shWidth at h1; rw [if_pos this] at h1; omega
    rw [decide_eq_false hup, show shAbove n m = 0 by unfold shAbove; rw [if_neg hup]]
    obtain ⟨W, hW⟩ : ∃ W, shWidth m = W := ⟨_, rfl⟩
    rw [hW] at HW h1
    have h1' : n ≥ W := h1
    clear hup HV hW
    go_enter Tryd.func17, Tryd.ntmps17
    go_wp2_with fail
    refine HW.out.mono ?_
    rintro _ w1 ⟨rfl, rfl⟩
    go_wp2
    go_ret2
    exact ⟨rfl, Below.refl _ _⟩
  have hf : shFits m = true := by
    cases hf : shFits m with
    | true => rfl
    | false => unfold shWidth at h1; rw [hf] at h1; simp at h1; omega
  have hwd : shWidth m = 2 * m - 1 := by unfold shWidth; rw [if_pos hf]
  rw [hwd] at HW h1
  obtain ⟨l, hl, rfl⟩ := fits_mem hf
  have h32 := fits_le hl
  have HR := Lib.hid (root18 w (l : Int) (by omega))
  obtain ⟨k, rfl⟩ := Int.eq_ofNat_of_zero_le (show 0 ≤ n by omega)
  have hge : decide ((2 * (l : Int) - 1) ≤ (k : Int)) = false := by simpa using h1
  by_cases h2 : (k : Int) = (l : Int) - 1
  · have hup : ¬ shUp (k : Int) (l : Int) := fun h => h.2.2.2 h2
    rw [decide_eq_false hup, show shAbove (k : Int) (l : Int) = 0 by unfold shAbove; rw [if_neg hup]]
    clear hup HV hf hl hwd hn hm hn' hm'
    go_enter Tryd.func17, Tryd.ntmps17
    go_wp2_with fail
    refine HW.out.mono ?_
    rintro _ w1 ⟨rfl, rfl⟩
    go_wp2_with fail
    refine HR.out.mono ?_
    rintro _ w1 ⟨rfl, rfl⟩
    go_wp2
    go_ret2
    exact ⟨rfl, Below.refl _ _⟩
  have hup : shUp (k : Int) (l : Int) := ⟨hf, by omega, by omega, h2⟩
  have hz : ((k : Int) == (l : Int) - 1) = false := by simpa using h2
  have hkn : shNode (k : Int) := ⟨by omega, by omega⟩
  rw [decide_eq_true hup, show shAbove (k : Int) (l : Int) = (up k : Int) by unfold shAbove; rw [if_pos hup, Int.toNat_natCast]]
  rw [show shLevel (k : Int) = (lv k : Int) by unfold shLevel; rw [if_pos hkn, Int.toNat_natCast]] at HV
  have h63 : k < 63 := by omega
  have h5 := lv_le k h63
  have HU := Lib.hid (up_fact k h63)
  clear hup hf hl hwd hn hm hn' hm' hkn h1
  go_enter Tryd.func17, Tryd.ntmps17
  go_wp2_with fail
  refine HW.out.mono ?_
  rintro _ w1 ⟨rfl, rfl⟩
  go_wp2_with fail
  refine HR.out.mono ?_
  rintro _ w1 ⟨rfl, rfl⟩
  go_wp2_with fail
  refine HV.out.mono ?_
  rintro _ w1 ⟨rfl, rfl⟩
  go_wp2_with fail
  go_quiet (fail)
  go_wp2
  go_ret2
  refine ⟨?_, below_drewN (Below.refl _ _) _⟩
  show Ending.returned (.tuple #[.int .i64 (bits .andNot .i64 (bits .or .i64 (k : Int) (wrap64 (2 ^ lv k))) (wrap64 (2 * 2 ^ lv k))), .bool true]) = _
  rw [HU.out]

theorem beside18 (w : World) (n m : Int) (hL : La18 w) (hn : in64 n) (hm : in64 m) : Calls Tryd.prog 19 #[.int .i64 n, .int .i64 m] w fun e w' => e = .returned (.tuple #[.int .i64 (shBeside n m), .bool (decide (shUp n m))]) ∧ New w w' := by
  have HA := Lib.hid (above18 w n m hL hn hm)
  by_cases h : shUp n m
  · rw [decide_eq_true h, show shAbove n m = (up n.toNat : Int) by unfold shAbove; rw [if_pos h]] at HA
    rw [decide_eq_true h, show shBeside n m = (sib n.toNat : Int) by unfold shBeside; rw [if_pos h]]
    obtain ⟨k, rfl⟩ := Int.eq_ofNat_of_zero_le h.2.1
    obtain ⟨l, hl, rfl⟩ := fits_mem h.1
    have h32 := fits_le hl
    obtain ⟨-, -, h3, h4⟩ := h
    have h62 := (up_facts l hl k (by omega) (by omega)).1
    have HS := Lib.hid (sib_fact k (by omega))
    rw [Int.toNat_natCast] at *
    clear hl hn hm hL
    go_enter Tryd.func19, Tryd.ntmps19
    go_wp2_with fail
    refine HA.out.mono ?_
    rintro _ w1 ⟨rfl, n1⟩
    go_wp2
    rw [HS.out]
    go_ret2
    exact ⟨rfl, n1⟩
  · rw [decide_eq_false h, show shAbove n m = 0 by unfold shAbove; rw [if_neg h]] at HA
    rw [decide_eq_false h, show shBeside n m = 0 by unfold shBeside; rw [if_neg h]]
    clear h hn hm hL
    go_enter Tryd.func19, Tryd.ntmps19
    go_wp2_with fail
    refine HA.out.mono ?_
    rintro _ w1 ⟨rfl, n1⟩
    go_wp2
    go_ret2
    exact ⟨rfl, n1⟩

theorem ups18 {m l : Nat} (hm : m ∈ fitsL) (hl : l < m) (i : Nat) (hi : i ≤ (pathL l m).length) :
    decide (shUp (nodeAt l m i : Nat) (m : Int)) = decide (i < (pathL l m).length) ∧ shAbove (nodeAt l m i : Nat) (m : Int) = if i < (pathL l m).length then ((nodeAt l m (i + 1) : Nat) : Int) else 0 := by
  by_cases h : i < (pathL l m).length
  · obtain ⟨g1, g2, -⟩ := step_facts m hm l hl i h
    have hup : shUp (nodeAt l m i : Nat) (m : Int) := ⟨fits_of hm, by omega, by omega, by omega⟩
    rw [if_pos h, decide_eq_true h, decide_eq_true hup]
    refine ⟨rfl, ?_⟩
    unfold shAbove
    rw [if_pos hup, Int.toNat_natCast, up_step m hm l hl i h]
  · obtain rfl : i = (pathL l m).length := by omega
    have hlast := (path_facts m hm l hl).2.2
    have hup : ¬ shUp (nodeAt l m (pathL l m).length : Nat) (m : Int) := fun h => by have := h.2.2.2; omega
    rw [if_neg h, decide_eq_false h, decide_eq_false hup]
    refine ⟨rfl, ?_⟩
    unfold shAbove
    rw [if_neg hup]

theorem nodeAt_le {m l : Nat} (hm : m ∈ fitsL) (hl : l < m) (i : Nat) (hi : i ≤ (pathL l m).length) : nodeAt l m i ≤ 62 := by
  have h32 := fits_le hm
  by_cases h : i < (pathL l m).length
  · obtain ⟨g1, -⟩ := step_facts m hm l hl i h
    omega
  · obtain rfl : i = (pathL l m).length := by omega
    have hlast := (path_facts m hm l hl).2.2
    omega

theorem OwnI18.step {w wr w' : World} {v : Value} {l : List Nat} (h : OwnI18 w v l wr) (hn : New wr w') : OwnI18 w v l w' := ⟨own_more h.own hn, New.trans h.new hn⟩

def lenSl : Value → Nat
  | .slice _ m _ => m
  | _ => 0

set_option maxHeartbeats 1000000 in
theorem path18 (w : World) (n m : Int) (hL : La18 w) (hn : in64 n) (hm : in64 m) : Calls Tryd.prog 21 #[.int .i64 n, .int .i64 m] w (PathTo18 w (shPath n m)) := by
  obtain ⟨i0, hi0, hz0, hz1, hz2⟩ := info_parts infoInt18
  obtain ⟨A, HA⟩ : ∃ A, Hid (shPath n m = A) := ⟨_, Lib.hid rfl⟩
  rw [HA.out]
  have NO : Hid (¬ shLeaf n m → ∀ w', New w w' → PathTo18 w A (.returned (.slice none 0 0)) w') := Lib.hid (fun h w' hw => ⟨none, 0, 0, rfl, by rw [← HA.out]; unfold shPath; rw [if_neg h]; exact RdV.nil w', hw⟩)
  have hn' := hn
  have hm' := hm
  unfold in64 at hn' hm'
  by_cases h0 : n < 0
  · have HE := Lib.hid (NO.out (fun h => by have := h.2.1; omega) w (Below.refl _ _))
    go_enter Tryd.func21, Tryd.ntmps21
    go_wp2
    go_ret
    exact HE.out
  by_cases h1 : n ≥ m
  · have HE := Lib.hid (NO.out (fun h => by have := h.2.2; omega) w (Below.refl _ _))
    go_enter Tryd.func21, Tryd.ntmps21
    go_wp2
    go_ret
    exact HE.out
  by_cases hf : shFits m = true
  rotate_left
  · have HE := Lib.hid (NO.out (fun h => hf h.1))
    have hw64 : in64 (wrap64 (2 * n)) := by unfold in64 wrap64; omega
    have HAb := Lib.hid (above18 w (wrap64 (2 * n)) m hL hw64 hm)
    have hup : ¬ shUp (wrap64 (2 * n)) m := fun h => hf h.1
    rw [decide_eq_false hup, show shAbove (wrap64 (2 * n)) m = 0 by unfold shAbove; rw [if_neg hup]] at HAb
    clear hf hup hw64 hL hn hm
    go_enter Tryd.func21, Tryd.ntmps21
    go_wp2_with fail
    refine HAb.out.mono ?_
    rintro _ w1 ⟨rfl, n1⟩
    have N1 := Lib.hid n1
    clear n1
    go_upto_region 5 with fail
    go_loopw [5, 6, 7] (fun v5 _ v7 wr => v5 = .slice none 0 0 ∧ v7 = .bool false ∧ w1 = wr) (fun _ _ _ _ => 0)
    case atStart => exact ⟨rfl, rfl, rfl⟩
    case round =>
      obtain ⟨rfl, rfl, rfl⟩ := hrel
      go_wp2
      go_ret
      exact HE.out w1 N1.out
  have hle : shLeaf n m := ⟨hf, by omega, by omega⟩
  obtain ⟨l, hl, rfl⟩ := fits_mem hf
  have h32 := fits_le hl
  obtain ⟨k, rfl⟩ := Int.eq_ofNat_of_zero_le (show 0 ≤ n by omega)
  have hkl : k < l := by omega
  have HE : Hid (A = (pathL k l).map (fun n : Nat => (n : Int))) := Lib.hid (by rw [← HA.out]; unfold shPath; rw [if_pos hle, Int.toNat_natCast, Int.toNat_natCast])
  have HUp := Lib.hid fun i hi => ups18 hl hkl i hi
  have HLe := Lib.hid fun i hi => nodeAt_le hl hkl i hi
  have HSt := Lib.hid fun i (hi : i < (pathL k l).length) => nodeAt_step hi
  have h5 := (path_facts l hl k hkl).1
  have HLa := Lib.hid hL
  obtain ⟨T, hT⟩ : ∃ T, pathL k l = T := ⟨_, rfl⟩
  rw [hT] at HUp HE HLe HSt h5
  have HAb := Lib.hid (above18 w (nodeAt k l 0 : Nat) (l : Int) hL (by unfold in64; have := HLe.out 0 (by omega); omega) hm)
  rw [(HUp.out 0 (Nat.zero_le _)).1, (HUp.out 0 (Nat.zero_le _)).2, show ((nodeAt k l 0 : Nat) : Int) = 2 * (k : Int) by unfold nodeAt; rw [if_pos rfl]; omega] at HAb
  obtain ⟨B0, hB0⟩ : ∃ B, decide (0 < T.length) = B := ⟨_, rfl⟩
  obtain ⟨X0, hX0⟩ : ∃ X, (if 0 < T.length then ((nodeAt k l (0 + 1) : Nat) : Int) else 0) = X := ⟨_, rfl⟩
  rw [hB0, hX0] at HAb
  have HB0 := Lib.hid hB0
  have HX0 := Lib.hid hX0
  clear hB0 hX0
  have HHm : Hid (in64 (l : Int)) := Lib.hid hm
  clear hf hle hl hL hn hm hT HA NO hn' hm'
  go_enter Tryd.func21, Tryd.ntmps21
  go_wp2_with fail
  refine HAb.out.mono ?_
  rintro _ w1 ⟨rfl, n1⟩
  have HS : Hid (OwnI18 w (.slice none 0 0) (T.take 0) w1) := Lib.hid ⟨⟨rfl, .inl ⟨rfl, rfl⟩⟩, n1⟩
  clear n1 HAb
  go_upto_region 5 with fail
  go_loopw [5, 6, 7] (fun v5 v6 v7 wr => ∃ i : Nat, i ≤ T.length ∧ v7 = .bool (decide (i < T.length)) ∧ v6 = .int .i64 (if i < T.length then ((nodeAt k l (i + 1) : Nat) : Int) else 0) ∧ OwnI18 w v5 (T.take i) wr) (fun v5 _ _ _ => T.length - lenSl v5)
  case atStart => exact ⟨0, Nat.zero_le _, by rw [HB0.out], by rw [HX0.out], HS.out⟩
  case round =>
    obtain ⟨i, hi, rfl, rfl, hin⟩ := hrel
    have HI := Lib.hid hin
    clear hin HS
    obtain ⟨ao, co, hv, hco, -⟩ := ownSl_form HI.out.own
    subst hv
    by_cases hlt : i < T.length
    · rw [if_pos hlt, decide_eq_true hlt]
      obtain ⟨x, hx⟩ : ∃ x, nodeAt k l (i + 1) = x := ⟨_, rfl⟩
      have hx62 := HLe.out (i + 1) hlt
      have hTi := HSt.out i hlt
      rw [hx] at hx62 hTi
      rw [hx]
      have hlen : (T.take i).length = i := by rw [List.length_take]; omega
      obtain ⟨v', wa, happ, hown', hO', hb', hlt'⟩ := run_append_u (P := Tryd.prog) w.heap.size wr 33 33 3 i0 _ 8 Tryd.underlying33 hi0 hz0 hz1 hz2 rfl _ (T.take i).length ((T.take i).map iv18) HI.out.own (iv18 x) rfl (by rw [hlen]; omega) (by rw [hlen]; omega) HI.out.new.size
      have HAPP := Lib.hid happ
      have htk : T.take (i + 1) = T.take i ++ [x] := by rw [List.take_add_one, hTi]; rfl
      have HN : Hid (OwnI18 w v' (T.take (i + 1)) wa) := Lib.hid ⟨by rw [htk, List.length_append, List.map_append]; exact hown', Below.trans HI.out.new (hO'.below HI.out.new.size (fun j hj => own_from HI.out.own j hj))⟩
      have HAb := Lib.hid (above18 wa (nodeAt k l (i + 1) : Nat) (l : Int) (HLa.out.new HN.out.new) (by unfold in64; omega) HHm.out)
      rw [(HUp.out (i + 1) hlt).1, (HUp.out (i + 1) hlt).2] at HAb
      rw [hx] at HAb
      obtain ⟨B1, hB1⟩ : ∃ B, decide (i + 1 < T.length) = B := ⟨_, rfl⟩
      obtain ⟨X1, hX1⟩ : ∃ X, (if i + 1 < T.length then ((nodeAt k l (i + 1 + 1) : Nat) : Int) else 0) = X := ⟨_, rfl⟩
      rw [hB1, hX1] at HAb
      have HB1 := Lib.hid hB1
      have HX1 := Lib.hid hX1
      clear hB1 hX1
      rw [hlen] at HAPP
      rw [hlen]
      clear happ hown' hO' hb' hlt' hTi hco htk hx
      go_wp2_with (at_builtin; refine wpList_app1 rfl _ _ 33 rfl _ _ rfl rfl HAPP.out ?_)
      refine HAb.out.mono ?_
      rintro _ w2 ⟨rfl, n2⟩
      have HN2 := Lib.hid (HN.out.step n2)
      clear n2 HAb HN HAPP
      obtain ⟨ao', co', hv', -, -⟩ := ownSl_form HN2.out.own
      rw [show (T.take (i + 1)).length = i + 1 by rw [List.length_take]; omega] at hv'
      subst hv'
      go_wp2_with fail
      go_roundw
      case rel => exact ⟨i + 1, hlt, by rw [HB1.out], by rw [HX1.out], HN2.out⟩
      case measure => simp only [lenSl]; omega
    · obtain rfl : i = T.length := by omega
      rw [if_neg hlt, decide_eq_false hlt]
      have HD : Hid (PathTo18 w A (.returned (.slice ao (T.take T.length).length co)) wr) := Lib.hid (by
        have h1 := RdV.of_own HI.out.own
        refine ⟨_, _, _, rfl, ?_, HI.out.new⟩
        rw [HE.out, List.map_map]
        rw [List.take_length] at h1 ⊢
        exact h1)
      obtain ⟨z, hz⟩ : ∃ z, (T.take T.length).length = z := ⟨_, rfl⟩
      rw [hz] at HD
      rw [hz]
      clear hz hco
      go_wp2
      go_ret
      exact HD.out

theorem shpApi : ShpApi La18 where
  keep := La18.new
  fits := fun w n hn => (fits18 w n hn).mono fun _ _ h => ⟨h.1, h.2 ▸ Below.refl _ _⟩
  width := fun w n hn => (width18 w n hn).mono fun _ _ h => ⟨h.1, h.2 ▸ Below.refl _ _⟩
  level := fun w n hL hn => (level18 w n hL hn).mono fun _ _ h => ⟨h.1, h.2 ▸ Below.refl _ _⟩
  left := fun w n hL hn => (left18 w n hL hn).mono fun _ _ h => ⟨h.1, h.2 ▸ Below.refl _ _⟩
  right := fun w n hL hn => (right18 w n hL hn).mono fun _ _ h => ⟨h.1, h.2 ▸ Below.refl _ _⟩
  under := fun w n hL hn => (under18 w n hL hn).mono fun _ _ h => ⟨h.1, h.2 ▸ Below.refl _ _⟩
  above := above18
  beside := beside18
  path := path18
end Go.Proofs.YtalpifocahnfjaaDoor
