/-
  The reference of layer 18: Fits, Level, Kids, Under.
-/
import Derived.Test.YtalpifocahnfjaaDoorShpSpec
import Derived.Test.YtalpifocahnfjaaDoorBase
import Derived.Test.YtalpifocahnfjaaDoorProg
import Derived.Deep.RegionHeld3
import Derived.Deep.DrawnRows
import Derived.Deep.MidRow
import Derived.Deep.Cut
import Derived.Maps.AppendAt
import Derived.KernelRfl
import Derived.LoopTactic
namespace Go.Proofs.YtalpifocahnfjaaDoor
set_option linter.unusedVariables false
set_option linter.unusedSimpArgs false
set_option maxRecDepth 100000
open Go.RowKit

theorem refFits18 (w : World) (n : Int) : Calls Tryd.prog 14 #[.int .i64 n] w fun e w' => e = .returned (.bool (shFits n)) ∧ w = w' := by
  unfold shFits
  obtain ⟨b1, d1⟩ : ∃ b, (n == 1) = b := ⟨_, rfl⟩
  obtain ⟨b2, d2⟩ : ∃ b, (n == 2) = b := ⟨_, rfl⟩
  obtain ⟨b3, d3⟩ : ∃ b, (n == 4) = b := ⟨_, rfl⟩
  obtain ⟨b4, d4⟩ : ∃ b, (n == 8) = b := ⟨_, rfl⟩
  obtain ⟨b5, d5⟩ : ∃ b, (n == 16) = b := ⟨_, rfl⟩
  obtain ⟨b6, d6⟩ : ∃ b, (n == 32) = b := ⟨_, rfl⟩
  rw [d1, d2, d3, d4, d5, d6]
  go_enter Tryd.func14, Tryd.ntmps14
  cases b1
  rotate_left
  · go_wp2
    go_ret
    exact ⟨rfl, rfl⟩
  cases b2
  rotate_left
  · go_wp2
    go_ret
    exact ⟨rfl, rfl⟩
  cases b3
  rotate_left
  · go_wp2
    go_ret
    exact ⟨rfl, rfl⟩
  cases b4
  rotate_left
  · go_wp2
    go_ret
    exact ⟨rfl, rfl⟩
  cases b5
  rotate_left
  · go_wp2
    go_ret
    exact ⟨rfl, rfl⟩
  go_wp2
  go_ret
  exact ⟨rfl, rfl⟩

theorem refLevel18 (w : World) (node : Int) : Calls Tryd.prog 13 #[.int .i64 node] w fun e w' => e = .returned (.int .i64 (shLevel node)) ∧ w = w' := by
  by_cases h0 : node < 0
  · have d0 : decide (node < 0) = true := by simpa using h0
    have HE : Hid (shLevel node = 0) := Lib.hid (if_neg (fun h => by have := h.1; omega))
    rw [HE.out]
    clear h0
    go_enter Tryd.func13, Tryd.ntmps13
    go_wp2
    go_ret
    exact ⟨rfl, rfl⟩
  by_cases h1 : 62 < node
  · have HE : Hid (shLevel node = 0) := Lib.hid (if_neg (fun h => by have := h.2; omega))
    rw [HE.out]
    go_enter Tryd.func13, Tryd.ntmps13
    go_wp2
    go_ret
    exact ⟨rfl, rfl⟩
  obtain ⟨N, rfl⟩ := Int.eq_ofNat_of_zero_le (show 0 ≤ node by omega)
  have HE : Hid (shLevel (N : Int) = (lv N : Int)) := Lib.hid (by unfold shLevel; rw [if_pos ⟨by omega, by omega⟩, Int.toNat_natCast])
  rw [HE.out]
  have HL := Lib.hid (show lv N = lvF 6 N from rfl)
  have HN : Hid (N ≤ 62) := Lib.hid (by omega)
  go_enter Tryd.func13, Tryd.ntmps13
  go_upto_region 5 with fail
  clear h0 h1
  go_loopw [3, 4] (fun vk vn wr => ∃ f n k : Nat, vk = .int .i64 k ∧ vn = .int .i64 n ∧ n < 2 ^ f ∧ f ≤ 6 ∧ k + lvF f n = lv N ∧ n ≤ 62 ∧ k ≤ 6 ∧ w = wr) (fun _ vn _ => (intOf vn).toNat)
  case atStart => exact ⟨6, N, 0, rfl, rfl, by have := HN.out; omega, Nat.le_refl _, by rw [HL.out, Nat.zero_add], HN.out, by omega, rfl⟩
  case round =>
    obtain ⟨f, n, k, rfl, rfl, hf, hf6, hk, hn, hk6, rfl⟩ := hrel
    have HK := Lib.hid hk
    have HF := Lib.hid (And.intro hf hf6)
    clear hk hf hf6
    have e1 : (n : Int).tmod 2 = ((n % 2 : Nat) : Int) := by rw [Int.tmod_eq_emod_of_nonneg (by omega)]; rfl
    have e2 : (n : Int).tdiv 2 = ((n / 2 : Nat) : Int) := by rw [Int.tdiv_eq_ediv_of_nonneg (by omega)]; rfl
    obtain ⟨r, hr⟩ : ∃ r, n % 2 = r := ⟨_, rfl⟩
    obtain ⟨q, hq⟩ : ∃ q, n / 2 = q := ⟨_, rfl⟩
    rw [hr] at e1
    rw [hq] at e2
    have hr2 : r = 0 ∨ r = 1 := by omega
    have HR := Lib.hid (And.intro hr hq)
    clear hr hq
    rcases hr2 with rfl | rfl
    · have HX : Hid (k = lv N) := Lib.hid (by
        rw [← HK.out]
        cases f with
        | zero => rfl
        | succ f => unfold lvF; rw [if_neg (by rw [HR.out.1]; decide)]; rfl)
      go_wp2
      go_ret
      exact ⟨by rw [← HX.out]; rfl, rfl⟩
    · have HX : Hid (∃ g, f = g + 1 ∧ k + 1 + lvF g q = lv N ∧ q < 2 ^ g) := Lib.hid (by
        have hf := HF.out.1
        have hk := HK.out
        cases f with
        | zero => have := HR.out.1; have h0 : n = 0 := by simpa using hf
                  subst h0; simp at this
        | succ g =>
          unfold lvF at hk
          rw [if_pos HR.out.1, HR.out.2] at hk
          exact ⟨g, rfl, by omega, by have := HR.out.2; rw [Nat.pow_succ] at hf; omega⟩)
      have hq62 : q ≤ 62 := by have := HR.out.2; omega
      have hk5 : k + 1 ≤ 6 := by
        obtain ⟨g, rfl, h1, h2⟩ := HX.out
        have := lv_le N (by have := HN.out; omega)
        omega
      have hqn : q < n := by have := HR.out; omega
      go_wp2_with fail
      go_roundw
      case rel =>
        obtain ⟨g, h1, h2, h3⟩ := HX.out
        exact ⟨g, q, k + 1, by go_num, rfl, h3, by have := HF.out.2; omega, h2, hq62, hk5, trivial⟩
      case measure => simp [intOf]; omega

theorem refKids18 (w : World) (node : Int) : Calls Tryd.prog 9 #[.int .i64 node] w fun e w' => e = .returned (.tuple #[.int .i64 (shLeft node), .int .i64 (shRight node), .bool (shKid node)]) ∧ w = w' := by
  have HLv := Lib.hid fun wx => refLevel18 wx node
  by_cases hk : shLevel node = 0
  · have hkid : shKid node = false := by unfold shKid; rw [hk]; rfl
    have HE : Hid (shLeft node = 0 ∧ shRight node = 0) := Lib.hid ⟨by unfold shLeft; rw [hkid]; rfl, by unfold shRight; rw [hkid]; rfl⟩
    rw [HE.out.1, HE.out.2, hkid]
    rw [hk] at HLv
    clear hk hkid
    go_enter Tryd.func9, Tryd.ntmps9
    go_wp2_with fail
    refine (HLv.out w).mono ?_
    rintro _ w1 ⟨rfl, rfl⟩
    go_wp2
    refine bodyPost_ret (results_tmp3 rfl _ _ _) rfl ?_
    exact ⟨rfl, rfl⟩
  · have hn : shNode node := by
      refine Decidable.by_contra fun h => hk ?_
      unfold shLevel; rw [if_neg h]
    obtain ⟨N, rfl⟩ := Int.eq_ofNat_of_zero_le hn.1
    have hN : N < 63 := by have := hn.2; omega
    have hlv : shLevel (N : Int) = (lv N : Int) := by unfold shLevel; rw [if_pos hn, Int.toNat_natCast]
    have hkid : shKid (N : Int) = true := by unfold shKid; simpa using hk
    have h0 : 0 < lv N := by rw [hlv] at hk; omega
    obtain ⟨f1, f2, -⟩ := kid_facts N hN h0
    have HE : Hid (shLeft (N : Int) = (N : Int) - ((2 ^ (lv N - 1) : Nat) : Int) ∧ shRight (N : Int) = (N : Int) + ((2 ^ (lv N - 1) : Nat) : Int)) := Lib.hid ⟨by unfold shLeft; rw [if_pos hkid, Int.toNat_natCast]; push_cast; rfl, by unfold shRight; rw [if_pos hkid, Int.toNat_natCast]; push_cast; rfl⟩
    rw [HE.out.1, HE.out.2, hkid]
    rw [hlv] at HLv
    have h5 := lv_le N hN
    obtain ⟨K, hK⟩ : ∃ K, lv N = K := ⟨_, rfl⟩
    rw [hK] at HLv h0 h5 f1 f2 ⊢
    obtain ⟨D, hD⟩ : ∃ D, 2 ^ (K - 1) = D := ⟨_, rfl⟩
    rw [hD] at f1 f2 ⊢
    have HD := Lib.hid hD
    have HB : Hid (0 < K ∧ K ≤ 5 ∧ D ≤ N ∧ N + D ≤ 62) := Lib.hid ⟨h0, h5, f1, f2⟩
    clear hk hn hkid hlv h5 hK hD hN HE
    go_enter Tryd.func9, Tryd.ntmps9
    go_wp2_with fail
    refine (HLv.out w).mono ?_
    rintro _ w1 ⟨rfl, rfl⟩
    have hK0 : ((K : Int) == 0) = false := by rw [beq_eq_false_iff_ne]; omega
    go_upto_region 5 with fail
    clear hK0 h0 f1 f2
    go_loopw [5, 6] (fun vd vi wr => ∃ i d : Nat, vd = .int .i64 d ∧ vi = .int .i64 i ∧ 1 ≤ i ∧ i ≤ K ∧ d = 2 ^ (i - 1) ∧ w = wr) (fun _ vi _ => K - (intOf vi).toNat)
    case atStart => exact ⟨1, 1, rfl, rfl, Nat.le_refl _, HB.out.1, rfl, rfl⟩
    case round =>
      obtain ⟨i, d, rfl, rfl, hi1, hiK, hd, rfl⟩ := hrel
      have hd31 : d ≤ 16 := by
        rw [hd]
        have : i - 1 ≤ 4 := by have := HB.out; omega
        calc 2 ^ (i - 1) ≤ 2 ^ 4 := Nat.pow_le_pow_right (by decide) this
          _ = 16 := rfl
      have HI : Hid (1 ≤ i ∧ i ≤ K ∧ d = 2 ^ (i - 1)) := Lib.hid ⟨hi1, hiK, hd⟩
      have hK5 := HB.out.2.1
      clear hd hi1
      by_cases hlt : i < K
      · have hl : (i : Int) < (K : Int) := by omega
        have HX : Hid (d * 2 = 2 ^ (i + 1 - 1)) := Lib.hid (by rw [HI.out.2.2, ← Nat.pow_succ]; congr 1; have := HI.out.1; omega)
        go_wp2_with fail
        refine (HLv.out w).mono ?_
        rintro _ w1 ⟨rfl, rfl⟩
        go_wp2_with fail
        go_roundw
        case rel => exact ⟨i + 1, d * 2, by go_num, by go_num, by omega, by omega, HX.out, trivial⟩
        case measure => simp [intOf]; omega
      · obtain rfl : i = K := by omega
        have hdD : d = D := by rw [HI.out.2.2, HD.out]
        subst hdD
        have HB2 := HB.out
        clear hlt hiK
        go_wp2_with fail
        refine (HLv.out w).mono ?_
        rintro _ w1 ⟨rfl, rfl⟩
        go_wp2
        refine bodyPost_ret (results_tmp3 rfl _ _ _) rfl ?_
        exact ⟨rfl, rfl⟩

theorem shKid_nat {n : Nat} (hn : n ≤ 62) : shLevel (n : Int) = (lv n : Int) ∧ shKid (n : Int) = decide (0 < lv n) ∧ (0 < lv n → shLeft (n : Int) = ((n - 2 ^ (lv n - 1) : Nat) : Int) ∧ shRight (n : Int) = ((n + 2 ^ (lv n - 1) : Nat) : Int)) := by
  have h1 : shLevel (n : Int) = (lv n : Int) := by unfold shLevel; rw [if_pos ⟨by omega, by omega⟩, Int.toNat_natCast]
  have h2 : shKid (n : Int) = decide (0 < lv n) := by
    unfold shKid; rw [h1, Bool.eq_iff_iff, bne_iff_ne, decide_eq_true_eq]; omega
  refine ⟨h1, h2, fun h0 => ?_⟩
  obtain ⟨f1, -⟩ := kid_facts n (by omega) h0
  unfold shLeft shRight
  rw [h2, decide_eq_true h0, if_pos rfl, if_pos rfl, Int.toNat_natCast]
  exact ⟨by rw [Int.ofNat_sub f1]; push_cast; rfl, by push_cast; rfl⟩

theorem refUnder18 (w : World) (node : Int) : Calls Tryd.prog 11 #[.int .i64 node] w fun e w' => e = .returned (.tuple #[.int .i64 (shFirst node), .int .i64 (shLast node)]) ∧ w = w' := by
  by_cases h0 : node < 0
  · have HE : Hid (shFirst node = 0 ∧ shLast node = -1) := Lib.hid ⟨if_neg (fun h => by have := h.1; omega), if_neg (fun h => by have := h.1; omega)⟩
    rw [HE.out.1, HE.out.2]
    go_enter Tryd.func11, Tryd.ntmps11
    go_wp2
    go_ret2
    exact ⟨rfl, rfl⟩
  by_cases h1 : 62 < node
  · have HE : Hid (shFirst node = 0 ∧ shLast node = -1) := Lib.hid ⟨if_neg (fun h => by have := h.2; omega), if_neg (fun h => by have := h.2; omega)⟩
    rw [HE.out.1, HE.out.2]
    go_enter Tryd.func11, Tryd.ntmps11
    go_wp2
    go_ret2
    exact ⟨rfl, rfl⟩
  obtain ⟨N, rfl⟩ := Int.eq_ofNat_of_zero_le (show 0 ≤ node by omega)
  have hn : shNode (N : Int) := ⟨by omega, by omega⟩
  have HE : Hid (shFirst (N : Int) = (lo N : Int) ∧ shLast (N : Int) = (hi N : Int)) := Lib.hid ⟨by unfold shFirst; rw [if_pos hn, Int.toNat_natCast], by unfold shLast; rw [if_pos hn, Int.toNat_natCast]⟩
  rw [HE.out.1, HE.out.2]
  have hN : N ≤ 62 := by omega
  have HNl := Lib.hid hN
  clear hn HE
  go_enter Tryd.func11, Tryd.ntmps11
  go_upto_region 4 with fail
  clear h0 h1 hN
  go_loopw [4] (fun v wr => ∃ l : Nat, v = .int .i64 l ∧ l ≤ 62 ∧ lo l = lo N ∧ w = wr) (fun v _ => (intOf v).toNat)
  case atStart => exact ⟨N, rfl, HNl.out, rfl, rfl⟩
  case round =>
    obtain ⟨l, rfl, hl, hlo, rfl⟩ := hrel
    obtain ⟨k1, k2, k3⟩ := shKid_nat hl
    have HLv := Lib.hid (refLevel18 w (l : Int))
    rw [k1] at HLv
    have HLo := Lib.hid hlo
    have HLl := Lib.hid hl
    clear hlo hl
    by_cases hp : 0 < lv l
    · obtain ⟨k4, -⟩ := k3 hp
      obtain ⟨f1, f2, -, -, f3, -⟩ := kid_facts l (by have := HLl.out; omega) hp
      have HK := Lib.hid (refKids18 w (l : Int))
      rw [k4] at HK
      obtain ⟨R, hR⟩ : ∃ R, shRight (l : Int) = R := ⟨_, rfl⟩
      obtain ⟨Bo, hBo⟩ : ∃ B, shKid (l : Int) = B := ⟨_, rfl⟩
      rw [hR, hBo] at HK
      obtain ⟨K, hK⟩ : ∃ K, lv l = K := ⟨_, rfl⟩
      rw [hK] at HLv hp f1 f3 HK
      have hpos : 0 < 2 ^ (K - 1) := Nat.two_pow_pos _
      obtain ⟨m, hm⟩ : ∃ m, l - 2 ^ (K - 1) = m := ⟨_, rfl⟩
      rw [hm] at f3 HK
      have HM : Hid (m ≤ 62 ∧ lo m = lo N ∧ m < l) := Lib.hid ⟨by have := HLl.out; omega, by rw [f3, HLo.out], by omega⟩
      have hKi : (0 : Int) < (K : Int) := by omega
      clear k1 k2 k3 k4 hR hBo hK hpos hm f1 f2 f3 hp
      go_wp2_with fail
      refine HLv.out.mono ?_
      rintro _ w1 ⟨rfl, rfl⟩
      go_wp2_with fail
      refine HK.out.mono ?_
      rintro _ w1 ⟨rfl, rfl⟩
      have hml := HM.out.2.2
      go_wp2_with fail
      go_roundw
      case rel => exact ⟨m, rfl, HM.out.1, HM.out.2.1, trivial⟩
      case measure => simp [intOf]; omega
    · have h0 : lv l = 0 := by omega
      obtain ⟨f1, -⟩ := leaf_facts l (by have := HLl.out; omega) h0
      have HF : Hid (l / 2 = lo N) := Lib.hid (by rw [← f1, HLo.out])
      rw [h0] at HLv
      clear k1 k2 k3 hp h0 f1 HLo
      go_wp2_with fail
      refine HLv.out.mono ?_
      rintro _ w1 ⟨rfl, rfl⟩
      clear HLv
      go_upto_region 6 with fail
      go_loopw [5] (fun v wr => ∃ l : Nat, v = .int .i64 l ∧ l ≤ 62 ∧ hi l = hi N ∧ w = wr) (fun v _ => 62 - (intOf v).toNat)
      case atStart => exact ⟨N, rfl, HNl.out, rfl, rfl⟩
      case round =>
        obtain ⟨h, rfl, hl, hhi, rfl⟩ := hrel
        obtain ⟨k1, k2, k3⟩ := shKid_nat hl
        have HLv := Lib.hid (refLevel18 w (h : Int))
        rw [k1] at HLv
        have HHi := Lib.hid hhi
        have HHl := Lib.hid hl
        clear hhi hl
        by_cases hp : 0 < lv h
        · obtain ⟨-, k4⟩ := k3 hp
          obtain ⟨f1, f2, -, -, -, f3⟩ := kid_facts h (by have := HHl.out; omega) hp
          have HK := Lib.hid (refKids18 w (h : Int))
          rw [k4] at HK
          obtain ⟨R, hR⟩ : ∃ R, shLeft (h : Int) = R := ⟨_, rfl⟩
          obtain ⟨Bo, hBo⟩ : ∃ B, shKid (h : Int) = B := ⟨_, rfl⟩
          rw [hR, hBo] at HK
          obtain ⟨K, hK⟩ : ∃ K, lv h = K := ⟨_, rfl⟩
          rw [hK] at HLv hp f2 f3 HK
          have hpos : 0 < 2 ^ (K - 1) := Nat.two_pow_pos _
          obtain ⟨m, hm⟩ : ∃ m, h + 2 ^ (K - 1) = m := ⟨_, rfl⟩
          rw [hm] at f2 f3 HK
          have HM : Hid (m ≤ 62 ∧ hi m = hi N ∧ h < m) := Lib.hid ⟨f2, by rw [f3, HHi.out], by omega⟩
          have hKi : (0 : Int) < (K : Int) := by omega
          clear k1 k2 k3 k4 hR hBo hK hpos hm f1 f2 f3 hp
          go_wp2_with fail
          refine HLv.out.mono ?_
          rintro _ w1 ⟨rfl, rfl⟩
          go_wp2_with fail
          refine HK.out.mono ?_
          rintro _ w1 ⟨rfl, rfl⟩
          have hml := HM.out
          clear HM
          go_wp2_with fail
          go_roundw
          case rel => exact ⟨m, rfl, hml.1, hml.2.1, trivial⟩
          case measure => have := hml.1; have := hml.2.2; simp [intOf]; omega
        · have h0 : lv h = 0 := by omega
          obtain ⟨-, f1⟩ := leaf_facts h (by have := HHl.out; omega) h0
          have HG : Hid (h / 2 = hi N) := Lib.hid (by rw [← f1, HHi.out])
          rw [h0] at HLv
          have e1 : (l : Int).tdiv 2 = ((l / 2 : Nat) : Int) := by rw [Int.tdiv_eq_ediv_of_nonneg (by omega)]; rfl
          have e2 : (h : Int).tdiv 2 = ((h / 2 : Nat) : Int) := by rw [Int.tdiv_eq_ediv_of_nonneg (by omega)]; rfl
          rw [HF.out] at e1
          rw [HG.out] at e2
          have b1 : lo N ≤ 62 := by have := HF.out; have := HLl.out; omega
          have b2 : hi N ≤ 62 := by have := HG.out; have := HHl.out; omega
          clear k1 k2 k3 hp h0 f1 HHi
          go_wp2_with fail
          refine HLv.out.mono ?_
          rintro _ w1 ⟨rfl, rfl⟩
          clear HLv
          go_wp2
          go_ret2
          exact ⟨rfl, rfl⟩

end Go.Proofs.YtalpifocahnfjaaDoor
