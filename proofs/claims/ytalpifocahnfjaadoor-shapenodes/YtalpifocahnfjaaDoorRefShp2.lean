/-
  The reference of layer 18: Way, Above, Beside, Path; Ints.
-/
import Derived.Test.YtalpifocahnfjaaDoorRefShp
import Derived.Test.YtalpifocahnfjaaDoorBase
namespace Go.Proofs.YtalpifocahnfjaaDoor
set_option linter.unusedVariables false
set_option linter.unusedSimpArgs false
set_option maxRecDepth 100000
open Go.RowKit

abbrev iv18 (n : Nat) : Value := .int .i64 (n : Int)

theorem infoInt18 : (Tryd.prog.info? 3).map (fun i => (i.zero, i.size, i.bytes)) = some (some (.int .i64 0), 1, 8) := by kernel_rfl

/-- a list of ints in a row of the call's own -/
structure OwnI18 (w : World) (v : Value) (l : List Nat) (wr : World) : Prop where
  own : wr.ownsRow w.heap.size 3 1 v l.length (l.map iv18)
  new : New w wr

structure WyIn (w : World) (n m : Nat) (v : Value) (l : List Nat) (f a b : Nat) (wr : World) : Prop where
  own : OwnI18 w v l wr
  way : l ++ wayF f a b n = wayF 6 0 (2 * m - 2) n
  an : a ≤ n
  nb : n ≤ b
  fit : b - a + 1 < 2 ^ f
  b62 : b ≤ 62
  len : l.length + f = 6

set_option maxHeartbeats 1000000 in
theorem refWay18 (w : World) (n m : Nat) (hm : m ∈ fitsL) (hn : n < 2 * m - 1) : Calls Tryd.prog 28 #[.int .i64 (n : Int), .int .i64 (m : Int)] w fun e w' => ∃ v, e = .returned v ∧ OwnI18 w v (wayF 6 0 (2 * m - 2) n) w' := by
  obtain ⟨i0, hi0, hz0, hz1, hz2⟩ := info_parts infoInt18
  have h32 := fits_le hm
  have HM : Hid (1 ≤ m ∧ m ≤ 32 ∧ n < 2 * m - 1) := Lib.hid ⟨h32.1, h32.2, hn⟩
  obtain ⟨W, HW⟩ : ∃ W, Hid (wayF 6 0 (2 * m - 2) n = W) := ⟨_, Lib.hid rfl⟩
  have e0 : 2 * (m : Int) - 2 = ((2 * m - 2 : Nat) : Int) := by omega
  rw [HW.out]
  have HI0 : Hid (WyIn w n m (.slice none 0 0) [] 6 0 (2 * m - 2) w) := Lib.hid ⟨⟨⟨rfl, .inl ⟨rfl, rfl⟩⟩, Below.refl _ _⟩, rfl, Nat.zero_le _, by omega, by omega, by omega, rfl⟩
  obtain ⟨b0, hb0⟩ : ∃ x, 2 * m - 2 = x := ⟨_, rfl⟩
  rw [hb0] at HI0 e0
  clear hm hn hb0
  go_enter Tryd.func28, Tryd.ntmps28
  go_upto_region 3 with fail
  clear e0 h32
  go_loopw [5, 6, 7] (fun vo va vb wr => ∃ l f a b, va = .int .i64 (a : Nat) ∧ vb = .int .i64 (b : Nat) ∧ WyIn w n m vo l f a b wr) (fun _ va vb _ => (intOf vb).toNat + 1 - (intOf va).toNat)
  case atStart => exact ⟨[], 6, 0, b0, rfl, rfl, HI0.out⟩
  case round =>
    obtain ⟨l, f, a, b, rfl, rfl, hin⟩ := hrel
    have HI := Lib.hid hin
    clear hin HI0
    have hab : a ≤ 62 ∧ b ≤ 62 ∧ a ≤ b := by have := HI.out.an; have := HI.out.nb; have := HI.out.b62; omega
    obtain ⟨c, hc⟩ : ∃ c, (a + b) / 2 = c := ⟨_, rfl⟩
    have e1 : ((a : Int) + (b : Int)).tdiv 2 = (c : Int) := by rw [Int.tdiv_eq_ediv_of_nonneg (by omega)]; omega
    have hc62 : c ≤ 62 := by omega
    have HC := Lib.hid hc
    obtain ⟨g, hg⟩ : ∃ g, f = g + 1 := by
      cases f with
      | zero => have := HI.out.fit; simp at this
      | succ g => exact ⟨g, rfl⟩
    subst hg
    have hway := HI.out.way
    rw [wayF, HC.out] at hway
    have HWy := Lib.hid hway
    obtain ⟨ao, co, hv, hco, -⟩ := ownSl_form HI.out.own.own
    subst hv
    obtain ⟨v', wa, happ, hown', hO', hb', hlt'⟩ := run_append_u (P := Tryd.prog) w.heap.size wr 33 33 3 i0 _ 8 Tryd.underlying33 hi0 hz0 hz1 hz2 rfl _ l.length (l.map iv18) HI.out.own.own (iv18 c) rfl (by have := HI.out.len; omega) (by have := HI.out.len; omega) HI.out.own.new.size
    have HAPP := Lib.hid happ
    have HN : Hid (OwnI18 w v' (l ++ [c]) wa) := Lib.hid ⟨by rw [List.length_append, List.map_append]; exact hown', Below.trans HI.out.own.new (hO'.below HI.out.own.new.size (fun j hj => own_from HI.out.own.own j hj))⟩
    clear happ hown' hO' hb' hlt' hway hc
    by_cases h1 : n = c
    · have HE : Hid (W = l ++ [c]) := Lib.hid (by
        have h2 := HWy.out
        rw [if_pos h1] at h2
        rw [← HW.out]; exact h2.symm)
      subst h1
      go_wp2_with (at_builtin; refine wpList_app1 rfl _ _ 33 rfl _ _ rfl rfl HAPP.out ?_)
      go_ret
      exact ⟨_, rfl, by rw [HE.out]; exact HN.out⟩
    · have d1 : ((n : Int) == (c : Int)) = false := by rw [beq_eq_false_iff_ne]; omega
      by_cases h2 : n < c
      · have hlt : (n : Int) < (c : Int) := by omega
        have HX : Hid (WyIn w n m v' (l ++ [c]) g a (c - 1) wa) := Lib.hid (by
          have hw := HWy.out
          rw [if_neg h1, if_pos h2] at hw
          have hf := HI.out.fit
          rw [Nat.pow_succ] at hf
          refine ⟨HN.out, by rw [List.append_assoc]; exact hw, HI.out.an, by omega, ?_, by omega, by rw [List.length_append]; have := HI.out.len; simp; omega⟩
          have := HC.out; have := HI.out.an; omega)
        have e2 : (c : Int) - 1 = ((c - 1 : Nat) : Int) := by omega
        have hd : c - 1 + 1 - a < b + 1 - a := by have := HC.out; omega
        clear h1 h2
        go_wp2_with (at_builtin; refine wpList_app1 rfl _ _ 33 rfl _ _ rfl rfl HAPP.out ?_)
        go_roundw
        case rel => exact ⟨l ++ [c], g, a, c - 1, rfl, by go_num, HX.out⟩
        case measure => simp [intOf]; omega
      · have hge : ¬ (n : Int) < (c : Int) := by omega
        have HX : Hid (WyIn w n m v' (l ++ [c]) g (c + 1) b wa) := Lib.hid (by
          have hw := HWy.out
          rw [if_neg h1, if_neg h2] at hw
          have hf := HI.out.fit
          rw [Nat.pow_succ] at hf
          refine ⟨HN.out, by rw [List.append_assoc]; exact hw, by omega, HI.out.nb, ?_, HI.out.b62, by rw [List.length_append]; have := HI.out.len; simp; omega⟩
          have := HC.out; have := HI.out.nb; omega)
        have hd : a < c + 1 := by have := HC.out; omega
        have hcb : c < b := by have := HI.out.nb; omega
        clear h1 h2
        go_wp2_with (at_builtin; refine wpList_app1 rfl _ _ 33 rfl _ _ rfl rfl HAPP.out ?_)
        go_roundw
        case rel => exact ⟨l ++ [c], g, c + 1, b, by go_num, rfl, HX.out⟩
        case measure => simp [intOf]; omega

set_option maxHeartbeats 1000000 in
theorem refAbove18 (w : World) (node leaves : Int) : Calls Tryd.prog 18 #[.int .i64 node, .int .i64 leaves] w fun e w' => e = .returned (.tuple #[.int .i64 (shAbove node leaves), .bool (decide (shUp node leaves))]) ∧ New w w' := by
  have HF := Lib.hid (refFits18 w leaves)
  have NO : Hid (¬ shUp node leaves → shAbove node leaves = 0 ∧ decide (shUp node leaves) = false) := Lib.hid (fun h => ⟨if_neg h, decide_eq_false h⟩)
  obtain ⟨A, HA⟩ : ∃ A, Hid (shAbove node leaves = A) := ⟨_, Lib.hid rfl⟩
  obtain ⟨U, HU⟩ : ∃ U, Hid (decide (shUp node leaves) = U) := ⟨_, Lib.hid rfl⟩
  rw [HA.out, HU.out] at NO ⊢
  by_cases hf : shFits leaves = true
  rotate_left
  · obtain ⟨rfl, rfl⟩ := NO.out (fun h => hf h.1)
    rw [show shFits leaves = false by simpa using hf] at HF
    clear hf
    go_enter Tryd.func18, Tryd.ntmps18
    go_wp2_with fail
    refine HF.out.mono ?_
    rintro _ w1 ⟨rfl, rfl⟩
    go_wp2
    go_ret2
    exact ⟨rfl, Below.refl _ _⟩
  rw [hf] at HF
  obtain ⟨m, hm, rfl⟩ := fits_mem hf
  have h32 := fits_le hm
  by_cases h0 : node < 0
  · obtain ⟨rfl, rfl⟩ := NO.out (fun h => by have := h.2.1; omega)
    clear hf hm
    go_enter Tryd.func18, Tryd.ntmps18
    go_wp2_with fail
    refine HF.out.mono ?_
    rintro _ w1 ⟨rfl, rfl⟩
    go_wp2
    go_ret2
    exact ⟨rfl, Below.refl _ _⟩
  by_cases h1 : 2 * (m : Int) - 2 < node
  · obtain ⟨rfl, rfl⟩ := NO.out (fun h => by have := h.2.2.1; omega)
    clear hf hm
    go_enter Tryd.func18, Tryd.ntmps18
    go_wp2_with fail
    refine HF.out.mono ?_
    rintro _ w1 ⟨rfl, rfl⟩
    go_wp2
    go_ret2
    exact ⟨rfl, Below.refl _ _⟩
  by_cases h2 : node = (m : Int) - 1
  · obtain ⟨rfl, rfl⟩ := NO.out (fun h => h.2.2.2 h2)
    have d2 : (node == (m : Int) - 1) = true := by simpa using h2
    clear hf hm h2
    go_enter Tryd.func18, Tryd.ntmps18
    go_wp2_with fail
    refine HF.out.mono ?_
    rintro _ w1 ⟨rfl, rfl⟩
    go_wp2
    go_ret2
    exact ⟨rfl, Below.refl _ _⟩
  obtain ⟨n, rfl⟩ := Int.eq_ofNat_of_zero_le (show 0 ≤ node by omega)
  have hup : shUp (n : Int) (m : Int) := ⟨hf, by omega, by omega, h2⟩
  have HE : Hid (A = (up n : Int) ∧ U = true) := Lib.hid ⟨by rw [← HA.out]; unfold shAbove; rw [if_pos hup, Int.toNat_natCast], by rw [← HU.out]; exact decide_eq_true hup⟩
  obtain ⟨hw1, hw2⟩ := way_up m hm n (by omega) (by omega)
  have HW := Lib.hid (refWay18 w n m hm (by omega))
  have d2 : ((n : Int) == (m : Int) - 1) = false := by rw [beq_eq_false_iff_ne]; exact h2
  obtain ⟨W, hWe⟩ : ∃ W, wayF 6 0 (2 * m - 2) n = W := ⟨_, rfl⟩
  rw [hWe] at hw1 hw2 HW
  have HW2 := Lib.hid (And.intro hw1 hw2)
  have HWL : Hid (W.length ≤ 6) := Lib.hid (by rw [← hWe]; exact wayF_length _ _ _ _)
  rw [HE.out.1, HE.out.2]
  clear hup hw1 hw2 hWe h2 hf hm NO
  go_enter Tryd.func18, Tryd.ntmps18
  go_wp2_with fail
  refine HF.out.mono ?_
  rintro _ w1 ⟨rfl, rfl⟩
  go_wp2_with fail
  refine HW.out.mono ?_
  rintro _ w1 ⟨v, rfl, ho⟩
  have HO := Lib.hid ho
  obtain ⟨a, c, rfl, hc, hcell⟩ := ownSl_form ho.own
  have hl2 := HW2.out.1
  obtain ⟨gb, rfl, hcl⟩ := hcell (by omega)
  obtain ⟨L, hL⟩ : ∃ L, W.length = L := ⟨_, rfl⟩
  have hx := hcl (L - 2) (iv18 (up n)) (by rw [List.getElem?_map, ← hL, HW2.out.2]; rfl)
  have hL64 : L ≤ 6 := by rw [← hL]; exact HWL.out
  rw [hL] at hl2 ⊢
  have e1 : (L : Int) - 2 = ((L - 2 : Nat) : Int) := by omega
  have hlt : ((L - 2 : Nat) : Int) < (L : Int) := by omega
  clear hcell hcl ho hl2 hL hc
  go_wp2
  go_ret2
  exact ⟨rfl, HO.out.new⟩

end Go.Proofs.YtalpifocahnfjaaDoor
