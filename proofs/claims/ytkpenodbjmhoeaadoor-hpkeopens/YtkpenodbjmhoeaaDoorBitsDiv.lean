/-
  math/bits.Div64, Rem64, where the divisor is 2^61 - 1.
-/
import Derived.Test.YtkpenodbjmhoeaaDoorBitsMul
import Derived.Deep.Cut
namespace Go.Proofs.YtkpenodbjmhoeaaDoor
set_option linter.unusedVariables false
set_option linter.unusedSimpArgs false
open Go.RowKit

set_option maxRecDepth 100000 in
set_option maxHeartbeats 400000 in
theorem bitsLen64 (w : World) : Calls Tryd.prog 114 #[.int .u64 2305843009213693951] w fun e w' => e = .returned (.int .i64 61) ∧ w = w' := by
  go_enter Tryd.func114, Tryd.ntmps114
  go_wp2
  go_ret
  exact ⟨by kernel_rfl, rfl⟩

theorem bitsLead64 (w : World) : Calls Tryd.prog 109 #[.int .u64 2305843009213693951] w fun e w' => e = .returned (.int .i64 3) ∧ w = w' := by
  go_enter Tryd.func109, Tryd.ntmps109
  go_wp2_with (go_at_call 114; refine (bitsLen64 _).mono ?_; rintro e w' ⟨rfl, rfl⟩)
  go_ret
  exact ⟨rfl, rfl⟩

theorem or8 (h l : Nat) (hh : h < 2305843009213693951) (hl : l < 18446744073709551616) : bits .or .u64 ((h : Int) * 8) ((l : Int) / 2305843009213693952) = ((h * 8 + l / 2305843009213693952 : Nat) : Int) := by
  have e := bits_or_u64_nat (h * 8) (l / 2305843009213693952) (by omega) (by omega)
  have e2 : h * 8 ||| l / 2305843009213693952 = h * 8 + l / 2305843009213693952 := by
    have := Nat.two_pow_add_eq_or_of_lt (i := 3) (b := l / 2305843009213693952) (by omega) h
    rw [Nat.mul_comm] at this
    exact this.symm
  rw [e2] at e
  rw [← e]
  congr 1 <;> omega

theorem tdivN (a : Nat) : (a : Int).tdiv 4294967295 = ((a / 4294967295 : Nat) : Int) := by
  rw [Int.tdiv_eq_ediv_of_nonneg (by omega)]; omega

/-- a digit q of the quotient of U and a digit M, and what is left -/
def Dv (U M q v : Nat) : Prop := U * 4294967296 + M = q * 18446744073709551608 + v ∧ v < 18446744073709551608 ∧ M < 4294967296 ∧ U < 18446744073709551608
/-- a guess q of that digit -/
def Sp (U q r : Nat) : Prop := q * 4294967295 + r = U

theorem dv_lt {U M q v : Nat} (h : Dv U M q v) : q < 4294967296 := by unfold Dv at h; omega

theorem dv_of (U M : Nat) (hU : U < 18446744073709551608) (hM : M < 4294967296) : ∃ q v, Dv U M q v :=
  ⟨(U * 4294967296 + M) / 18446744073709551608, (U * 4294967296 + M) % 18446744073709551608, by unfold Dv; omega⟩

theorem dTest {U M q v s r : Nat} (h : Dv U M q v) (hs : Sp U s r) : q < s ↔ 4294967296 * r + M < s * 4294967288 := by unfold Dv at h; unfold Sp at hs; omega

theorem dDown {U M q v s r z : Nat} (h : Dv U M q v) (hs : Sp U s r) (hr : ¬ r = 0) (hq : q < s) (hz : s = z + 1) (hs1 : s ≤ 4294967296) : q = z := by unfold Dv at h; unfold Sp at hs; omega

theorem dStep {U s r z t : Nat} (hs : Sp U s r) (hr : r = 0) (hz : s = z + 1) (ht : t = 4294967295) : Sp U z t := by
  unfold Sp at hs ⊢
  rw [← hs, hr, hz, ht, Nat.add_mul, Nat.one_mul]

/-- the two sides of the loop's test, under names -/
theorem dSides {U M q v s r : Nat} (h : Dv U M q v) (hs : Sp U s r) (h1 : s < 4294967296) (h2 : r < 4294967296) :
    ∃ A B : Nat, 4294967296 * (r : Int) = (A : Int) ∧ (s : Int) * 4294967288 = (B : Int) ∧ (A : Int) + (M : Int) ≤ 18446744073709551615 ∧ (B : Int) ≤ 18446744073709551615 ∧ (q < s → (A : Int) + (M : Int) < (B : Int)) ∧ (¬ q < s → (B : Int) ≤ (A : Int) + (M : Int)) := by
  have h3 := dTest h hs
  unfold Dv at h
  refine ⟨4294967296 * r, s * 4294967288, by omega, by omega, by omega, by omega, fun h => by have := h3.1 h; omega, fun h => ?_⟩
  have : ¬ 4294967296 * r + M < s * 4294967288 := fun h' => h (h3.2 h')
  omega

theorem dStart {U M q v : Nat} (h : Dv U M q v) : ∃ Q R : Nat, (U : Int).tdiv 4294967295 = (Q : Int) ∧ Q ≤ 4294967296 ∧ R < 4294967295 ∧ Sp U Q R ∧ q ≤ Q ∧ IntKind.u64.wrap ((U : Int) - (Q : Int) * 4294967295) = (R : Int) := by
  unfold Dv at h
  refine ⟨U / 4294967295, U % 4294967295, tdivN U, by omega, Nat.mod_lt _ (by decide), by unfold Sp; omega, by omega, ?_⟩
  simp only [IntKind.wrap_u64]; omega

theorem dRest {U M q v : Nat} (h : Dv U M q v) : IntKind.u64.wrap (IntKind.u64.wrap (IntKind.u64.wrap ((U : Int) * 4294967296) + (M : Int)) - IntKind.u64.wrap ((q : Int) * 18446744073709551608)) = (v : Int) := by
  unfold Dv at h
  simp only [IntKind.wrap_u64]; omega

theorem dFinal {U M q v ans : Nat} (h : Dv U M q v) (ha : v = ans * 8) : IntKind.u64.wrap (IntKind.u64.wrap (IntKind.u64.wrap ((U : Int) * 4294967296) + (M : Int)) - IntKind.u64.wrap ((q : Int) * 18446744073709551608)) / 8 = (ans : Int) := by
  rw [dRest h]; omega

theorem dLast {hi lo U L M N q1 v q0 t : Nat} (hU : U = hi * 8 + lo / 2305843009213693952) (hL : L = lo * 8 % 18446744073709551616) (hM : M = L / 4294967296) (hN : N = L % 4294967296) (hlo : lo < 18446744073709551616) (h1 : Dv U M q1 v) (h0 : Dv v N q0 t) :
    t = (hi * 18446744073709551616 + lo) % 2305843009213693951 * 8 := by
  unfold Dv at h1 h0
  omega

set_option maxRecDepth 100000 in
set_option maxHeartbeats 1000000 in
theorem bitsDiv64_0 (w : World) (lo : Nat) (hlo : lo < 18446744073709551616) :
    Calls Tryd.prog 103 #[.int .u64 0, .int .u64 (lo : Int), .int .u64 2305843009213693951] w fun e w' => (∃ q : Int, e = .returned (.tuple #[.int .u64 q, .int .u64 ((lo % 2305843009213693951 : Nat) : Int)])) ∧ New w w' := by
  have HD : Hid (New w w.drew) := Lib.hid (Below.refl _ _).drew
  go_enter Tryd.func103, Tryd.ntmps103
  go_wp2
  go_region
  go_wp2
  go_ret2
  exact ⟨⟨_, rfl⟩, HD.out⟩

set_option maxRecDepth 100000 in
set_option maxHeartbeats 2000000 in
theorem div64Walk (w : World) (hi lo U M N L q1 V q0 T ans : Nat) (h0 : 0 < hi) (hhi : hi < 2305843009213693951) (hlo : lo < 18446744073709551616) (hL : L < 18446744073709551616)
    (hor : bits .or .u64 ((hi : Int) * 8) ((lo : Int) / 2305843009213693952) = (U : Int)) (hwr : IntKind.u64.wrap ((lo : Int) * 8) = (L : Int)) (hlw : bits .and .u64 (L : Int) 4294967295 = (N : Int)) (hM' : (L : Int) / 4294967296 = (M : Int))
    (hM : M < 4294967296) (hN : N < 4294967296) (HD : Hid (Dv U M q1 V)) (GD : Hid (Dv V N q0 T)) (GA : Hid (T = ans * 8)) :
    Calls Tryd.prog 103 #[.int .u64 (hi : Int), .int .u64 (lo : Int), .int .u64 2305843009213693951] w fun e w' => (∃ q : Int, e = .returned (.tuple #[.int .u64 q, .int .u64 (ans : Int)])) ∧ New w w' := by
  have HN : Hid (New w w) := Lib.hid (Below.refl _ _)
  have hand : bits .and .u64 18446744073709551608 4294967295 = 4294967288 := by decide
  have e0 : ¬ ((hi : Int) = 0) := by omega
  have e1 : ¬ (2305843009213693951 ≤ (hi : Int)) := by omega
  have e2 : ((hi : Int) == 0) = false := by rw [beq_eq_false_iff_ne]; exact e0
  obtain ⟨Q, R, htd, hQl, hR, hQR, hqQ, hE⟩ := dStart HD.out
  have HQR := Lib.hid hQR
  have HQ := Lib.hid hqQ
  have HE := Lib.hid hE
  clear hQR hqQ hE
  go_enter Tryd.func103, Tryd.ntmps103
  go_wp2_with (go_at_call 109; refine (bitsLead64 _).mono ?_; rintro e w' ⟨rfl, rfl⟩)
  clear hor hwr hlw hM' htd e0 e1 e2 hand h0 hhi hlo hL
  go_loop [15, 16] (fun a b => ∃ q r : Nat, a = .int .u64 (q : Int) ∧ b = .int .u64 (r : Int) ∧ Hid (Sp U q r) ∧ Hid (q1 ≤ q) ∧ q ≤ 4294967296 ∧ r < 4294967296) (fun a _ => (intOf a).toNat)
  case atStart => exact ⟨Q, R, rfl, by rw [HE.out], HQR, HQ, hQl, by omega⟩
  case round =>
    clear HE HQR HQ hQl hR
    obtain ⟨q, r, rfl, rfl, H1, H2, hq, hr⟩ := hrel
    by_cases hc : q1 < q
    · have HC := Lib.hid hc
      clear hc
      have hq1 : 1 ≤ (q : Int) := by have := HC.out; omega
      obtain ⟨p, HP⟩ : ∃ p, Hid (q = p + 1) := ⟨q - 1, by have := HC.out; show _ = _; omega⟩
      have hpq : (q : Int) - 1 = (p : Int) := by have := HP.out; omega
      have hp : (p : Int) < 4294967296 := by omega
      by_cases hb : 4294967296 ≤ (q : Int)
      · by_cases hr0 : r = 0
        ·
          subst hr0
          go_wp2
          exact ⟨⟨p, 4294967295, rfl, rfl, dStep H1.out rfl HP.out rfl, by have h1 := HC.out; have h2 := HP.out; show _ ≤ _; omega, by omega, by omega⟩, by simp [intOf]; omega⟩
        · have hrt : 4294967296 ≤ (r : Int) + 4294967295 := by omega
          obtain rfl : q1 = p := dDown HD.out H1.out hr0 HC.out HP.out hq
          have hV := dRest HD.out
          obtain ⟨Q2, R2, htd2, hQ2, hR2, hQR2, hqQ2, hE2⟩ := dStart GD.out
          have HQR2 := Lib.hid hQR2
          have HQ2 := Lib.hid hqQ2
          have HE2 := Lib.hid hE2
          clear hQR2 hqQ2 hE2
          go_wp2
          clear hV htd2
          (try clear hrt)
          (try clear hp)
          (try clear hpq)
          (try clear hq1)
          (try clear hr0)
          (try clear hb)
          (try clear hq)
          (try clear hr)
          (try clear hM)
          go_loop [18, 16] (fun a b => ∃ q r : Nat, a = .int .u64 (q : Int) ∧ b = .int .u64 (r : Int) ∧ Hid (Sp V q r) ∧ Hid (q0 ≤ q) ∧ q ≤ 4294967296 ∧ r < 4294967296) (fun a _ => (intOf a).toNat)
          case atStart => exact ⟨Q2, R2, rfl, by rw [HE2.out], HQR2, HQ2, hQ2, by omega⟩
          case round =>
            clear HE2 HQR2 HQ2 hQ2 hR2
            obtain ⟨s, t, rfl, rfl, G1, G2, hs, ht⟩ := hrel
            by_cases hc2 : q0 < s
            · have GC := Lib.hid hc2
              clear hc2
              have hs1 : 1 ≤ (s : Int) := by have := GC.out; omega
              obtain ⟨z, GP⟩ : ∃ z, Hid (s = z + 1) := ⟨s - 1, by have := GC.out; show _ = _; omega⟩
              have hsz : (s : Int) - 1 = (z : Int) := by have := GP.out; omega
              have hz : (z : Int) < 4294967296 := by omega
              by_cases hb2 : 4294967296 ≤ (s : Int)
              · by_cases ht0 : t = 0
                ·
                  subst ht0
                  go_wp2
                  exact ⟨⟨z, 4294967295, rfl, rfl, dStep G1.out rfl GP.out rfl, by have h1 := GC.out; have h2 := GP.out; show _ ≤ _; omega, by omega, by omega⟩, by simp [intOf]; omega⟩
                · have ht1 : 4294967296 ≤ (t : Int) + 4294967295 := by omega
                  obtain rfl : q0 = z := dDown GD.out G1.out ht0 GC.out GP.out hs
                  have hf := dFinal GD.out GA.out
                  go_wp2
                  go_ret2
                  exact ⟨⟨_, rfl⟩, HN.out⟩
              · obtain ⟨A2, B2, ha2, hb3, hm1, hm2, hg1, _⟩ := dSides GD.out G1.out (by omega) ht
                replace hg1 := hg1 GC.out
                go_upto_region 25 with fail
                clear ha2 hb3 hm1 hm2 hg1
                by_cases ht0 : t = 0
                ·
                  subst ht0
                  go_wp2
                  exact ⟨⟨z, 4294967295, rfl, rfl, dStep G1.out rfl GP.out rfl, by have h1 := GC.out; have h2 := GP.out; show _ ≤ _; omega, by omega, by omega⟩, by simp [intOf]; omega⟩
                · have ht1 : 4294967296 ≤ (t : Int) + 4294967295 := by omega
                  obtain rfl : q0 = z := dDown GD.out G1.out ht0 GC.out GP.out hs
                  have hf := dFinal GD.out GA.out
                  go_wp2
                  go_ret2
                  exact ⟨⟨_, rfl⟩, HN.out⟩
            · obtain rfl : q0 = s := by have h1 := G2.out; omega
              have hs1 : ¬ 4294967296 ≤ (q0 : Int) := by have h1 := dv_lt GD.out; omega
              obtain ⟨A2, B2, ha2, hb3, hm1, hm2, _, hg1⟩ := dSides GD.out G1.out (by omega) ht
              replace hg1 := hg1 hc2
              clear hc2
              have hf := dFinal GD.out GA.out
              go_wp2
              go_ret2
              exact ⟨⟨_, rfl⟩, HN.out⟩
      · obtain ⟨A1, B1, ha1, hb1, hl1, hl2, hg1, _⟩ := dSides HD.out H1.out (by omega) hr
        replace hg1 := hg1 HC.out
        go_upto_region 18 with fail
        clear ha1 hb1 hl1 hl2 hg1
        by_cases hr0 : r = 0
        ·
          subst hr0
          go_wp2
          exact ⟨⟨p, 4294967295, rfl, rfl, dStep H1.out rfl HP.out rfl, by have h1 := HC.out; have h2 := HP.out; show _ ≤ _; omega, by omega, by omega⟩, by simp [intOf]; omega⟩
        · have hrt : 4294967296 ≤ (r : Int) + 4294967295 := by omega
          obtain rfl : q1 = p := dDown HD.out H1.out hr0 HC.out HP.out hq
          have hV := dRest HD.out
          obtain ⟨Q2, R2, htd2, hQ2, hR2, hQR2, hqQ2, hE2⟩ := dStart GD.out
          have HQR2 := Lib.hid hQR2
          have HQ2 := Lib.hid hqQ2
          have HE2 := Lib.hid hE2
          clear hQR2 hqQ2 hE2
          go_wp2
          clear hV htd2
          (try clear hrt)
          (try clear hp)
          (try clear hpq)
          (try clear hq1)
          (try clear hr0)
          (try clear hb)
          (try clear hq)
          (try clear hr)
          (try clear hM)
          go_loop [18, 16] (fun a b => ∃ q r : Nat, a = .int .u64 (q : Int) ∧ b = .int .u64 (r : Int) ∧ Hid (Sp V q r) ∧ Hid (q0 ≤ q) ∧ q ≤ 4294967296 ∧ r < 4294967296) (fun a _ => (intOf a).toNat)
          case atStart => exact ⟨Q2, R2, rfl, by rw [HE2.out], HQR2, HQ2, hQ2, by omega⟩
          case round =>
            clear HE2 HQR2 HQ2 hQ2 hR2
            obtain ⟨s, t, rfl, rfl, G1, G2, hs, ht⟩ := hrel
            by_cases hc2 : q0 < s
            · have GC := Lib.hid hc2
              clear hc2
              have hs1 : 1 ≤ (s : Int) := by have := GC.out; omega
              obtain ⟨z, GP⟩ : ∃ z, Hid (s = z + 1) := ⟨s - 1, by have := GC.out; show _ = _; omega⟩
              have hsz : (s : Int) - 1 = (z : Int) := by have := GP.out; omega
              have hz : (z : Int) < 4294967296 := by omega
              by_cases hb2 : 4294967296 ≤ (s : Int)
              · by_cases ht0 : t = 0
                ·
                  subst ht0
                  go_wp2
                  exact ⟨⟨z, 4294967295, rfl, rfl, dStep G1.out rfl GP.out rfl, by have h1 := GC.out; have h2 := GP.out; show _ ≤ _; omega, by omega, by omega⟩, by simp [intOf]; omega⟩
                · have ht1 : 4294967296 ≤ (t : Int) + 4294967295 := by omega
                  obtain rfl : q0 = z := dDown GD.out G1.out ht0 GC.out GP.out hs
                  have hf := dFinal GD.out GA.out
                  go_wp2
                  go_ret2
                  exact ⟨⟨_, rfl⟩, HN.out⟩
              · obtain ⟨A2, B2, ha2, hb3, hm1, hm2, hg1, _⟩ := dSides GD.out G1.out (by omega) ht
                replace hg1 := hg1 GC.out
                go_upto_region 25 with fail
                clear ha2 hb3 hm1 hm2 hg1
                by_cases ht0 : t = 0
                ·
                  subst ht0
                  go_wp2
                  exact ⟨⟨z, 4294967295, rfl, rfl, dStep G1.out rfl GP.out rfl, by have h1 := GC.out; have h2 := GP.out; show _ ≤ _; omega, by omega, by omega⟩, by simp [intOf]; omega⟩
                · have ht1 : 4294967296 ≤ (t : Int) + 4294967295 := by omega
                  obtain rfl : q0 = z := dDown GD.out G1.out ht0 GC.out GP.out hs
                  have hf := dFinal GD.out GA.out
                  go_wp2
                  go_ret2
                  exact ⟨⟨_, rfl⟩, HN.out⟩
            · obtain rfl : q0 = s := by have h1 := G2.out; omega
              have hs1 : ¬ 4294967296 ≤ (q0 : Int) := by have h1 := dv_lt GD.out; omega
              obtain ⟨A2, B2, ha2, hb3, hm1, hm2, _, hg1⟩ := dSides GD.out G1.out (by omega) ht
              replace hg1 := hg1 hc2
              clear hc2
              have hf := dFinal GD.out GA.out
              go_wp2
              go_ret2
              exact ⟨⟨_, rfl⟩, HN.out⟩
    · obtain rfl : q1 = q := by have h1 := H2.out; omega
      have hq1 : ¬ 4294967296 ≤ (q1 : Int) := by have h1 := dv_lt HD.out; omega
      obtain ⟨A1, B1, ha1, hb1, hl1, hl2, _, hg1⟩ := dSides HD.out H1.out (by omega) hr
      replace hg1 := hg1 hc
      clear hc
      go_upto_region 21 with fail
      clear ha1 hb1 hl1 hl2 hg1
      have hV := dRest HD.out
      obtain ⟨Q2, R2, htd2, hQ2, hR2, hQR2, hqQ2, hE2⟩ := dStart GD.out
      have HQR2 := Lib.hid hQR2
      have HQ2 := Lib.hid hqQ2
      have HE2 := Lib.hid hE2
      clear hQR2 hqQ2 hE2
      go_wp2
      clear hV htd2
      (try clear hrt)
      (try clear hp)
      (try clear hpq)
      (try clear hq1)
      (try clear hr0)
      (try clear hb)
      (try clear hq)
      (try clear hr)
      (try clear hM)
      go_loop [18, 16] (fun a b => ∃ q r : Nat, a = .int .u64 (q : Int) ∧ b = .int .u64 (r : Int) ∧ Hid (Sp V q r) ∧ Hid (q0 ≤ q) ∧ q ≤ 4294967296 ∧ r < 4294967296) (fun a _ => (intOf a).toNat)
      case atStart => exact ⟨Q2, R2, rfl, by rw [HE2.out], HQR2, HQ2, hQ2, by omega⟩
      case round =>
        clear HE2 HQR2 HQ2 hQ2 hR2
        obtain ⟨s, t, rfl, rfl, G1, G2, hs, ht⟩ := hrel
        by_cases hc2 : q0 < s
        · have GC := Lib.hid hc2
          clear hc2
          have hs1 : 1 ≤ (s : Int) := by have := GC.out; omega
          obtain ⟨z, GP⟩ : ∃ z, Hid (s = z + 1) := ⟨s - 1, by have := GC.out; show _ = _; omega⟩
          have hsz : (s : Int) - 1 = (z : Int) := by have := GP.out; omega
          have hz : (z : Int) < 4294967296 := by omega
          by_cases hb2 : 4294967296 ≤ (s : Int)
          · by_cases ht0 : t = 0
            ·
              subst ht0
              go_wp2
              exact ⟨⟨z, 4294967295, rfl, rfl, dStep G1.out rfl GP.out rfl, by have h1 := GC.out; have h2 := GP.out; show _ ≤ _; omega, by omega, by omega⟩, by simp [intOf]; omega⟩
            · have ht1 : 4294967296 ≤ (t : Int) + 4294967295 := by omega
              obtain rfl : q0 = z := dDown GD.out G1.out ht0 GC.out GP.out hs
              have hf := dFinal GD.out GA.out
              go_wp2
              go_ret2
              exact ⟨⟨_, rfl⟩, HN.out⟩
          · obtain ⟨A2, B2, ha2, hb3, hm1, hm2, hg1, _⟩ := dSides GD.out G1.out (by omega) ht
            replace hg1 := hg1 GC.out
            go_upto_region 25 with fail
            clear ha2 hb3 hm1 hm2 hg1
            by_cases ht0 : t = 0
            ·
              subst ht0
              go_wp2
              exact ⟨⟨z, 4294967295, rfl, rfl, dStep G1.out rfl GP.out rfl, by have h1 := GC.out; have h2 := GP.out; show _ ≤ _; omega, by omega, by omega⟩, by simp [intOf]; omega⟩
            · have ht1 : 4294967296 ≤ (t : Int) + 4294967295 := by omega
              obtain rfl : q0 = z := dDown GD.out G1.out ht0 GC.out GP.out hs
              have hf := dFinal GD.out GA.out
              go_wp2
              go_ret2
              exact ⟨⟨_, rfl⟩, HN.out⟩
        · obtain rfl : q0 = s := by have h1 := G2.out; omega
          have hs1 : ¬ 4294967296 ≤ (q0 : Int) := by have h1 := dv_lt GD.out; omega
          obtain ⟨A2, B2, ha2, hb3, hm1, hm2, _, hg1⟩ := dSides GD.out G1.out (by omega) ht
          replace hg1 := hg1 hc2
          clear hc2
          have hf := dFinal GD.out GA.out
          go_wp2
          go_ret2
          exact ⟨⟨_, rfl⟩, HN.out⟩

theorem bitsDiv64_1 (w : World) (hi lo : Nat) (h0 : 0 < hi) (hhi : hi < 2305843009213693951) (hlo : lo < 18446744073709551616) :
    Calls Tryd.prog 103 #[.int .u64 (hi : Int), .int .u64 (lo : Int), .int .u64 2305843009213693951] w fun e w' => (∃ q : Int, e = .returned (.tuple #[.int .u64 q, .int .u64 (((hi * 18446744073709551616 + lo) % 2305843009213693951 : Nat) : Int)])) ∧ New w w' := by
  obtain ⟨U, hU⟩ : ∃ U, U = hi * 8 + lo / 2305843009213693952 := ⟨_, rfl⟩
  obtain ⟨L, hL⟩ : ∃ L, L = lo * 8 % 18446744073709551616 := ⟨_, rfl⟩
  obtain ⟨M, hM⟩ : ∃ M, M = L / 4294967296 := ⟨_, rfl⟩
  obtain ⟨N, hN⟩ : ∃ N, N = L % 4294967296 := ⟨_, rfl⟩
  have hL1 : L < 18446744073709551616 := by omega
  obtain ⟨q1, V, hD⟩ := dv_of U M (by omega) (by omega)
  obtain ⟨q0, T, hG⟩ := dv_of V N hD.2.1 (by omega)
  have hT := dLast hU hL hM hN hlo hD hG
  have hor := or8 hi lo hhi hlo
  rw [← hU] at hor
  have hlw := low32 L hL1
  rw [← hN] at hlw
  exact div64Walk w hi lo U M N L q1 V q0 T _ h0 hhi hlo hL1 hor (by rw [IntKind.wrap_u64]; omega) hlw (by omega) (by omega) (by omega) (Lib.hid hD) (Lib.hid hG) (Lib.hid hT)

end Go.Proofs.YtkpenodbjmhoeaaDoor
