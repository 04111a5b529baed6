/-
  The reference's Box of layer 5.
-/
import Derived.Test.YtapoelmhnbgidaaRefAes0
namespace Go.Proofs.Ytapoelmhnbgidaa
set_option linter.unusedVariables false
set_option linter.unusedSimpArgs false
open Go.RowKit

/-- the inverse, as far as it is found below i -/
def invTo (c : UInt8) (i : Nat) : UInt8 := if c ≠ 0 ∧ (ginv c).toNat < i then ginv c else 0

theorem invTo_1 (c : UInt8) : invTo c 1 = 0 := by
  unfold invTo
  rw [if_neg]
  rintro ⟨h1, h2⟩
  exact ginv_ne c h1 (UInt8.toNat_inj.1 (by show _ = 0; omega))

theorem invTo_succ (c : UInt8) (i : Nat) (hi : i < 256) : invTo c (i + 1) = if gmul c (UInt8.ofNat i) = 1 then UInt8.ofNat i else invTo c i := by
  unfold invTo
  by_cases h : c = 0
  · subst h
    rw [gmul_0', if_neg (by simp), if_neg (by decide), if_neg (by simp)]
  · have e : UInt8.ofNat i = ginv c ↔ (ginv c).toNat = i := by
      constructor
      · intro e; rw [← e, UInt8.toNat_ofNat']; omega
      · intro e; rw [← e, UInt8.ofNat_toNat]
    have hb := (gmul_eq_1 c (UInt8.ofNat i) h).trans e
    by_cases e2 : (ginv c).toNat = i
    · rw [if_pos ⟨h, by omega⟩, if_pos (hb.2 e2), e.2 e2]
    · rw [if_neg (fun x => e2 (hb.1 x))]
      by_cases e3 : (ginv c).toNat < i
      · rw [if_pos ⟨h, by omega⟩, if_pos ⟨h, e3⟩]
      · rw [if_neg (fun x => by have := x.2; omega), if_neg (fun x => e3 x.2)]

theorem invTo_256 (c : UInt8) : invTo c 256 = ginv c := by
  unfold invTo
  by_cases h : c = 0
  · rw [if_neg (by simp [h]), h, ginv_0]
  · rw [if_pos ⟨h, u8_lt _⟩]

/-- a bit of the S-box value -/
def bitTo (v i : Nat) : Nat → Nat
  | 0 => 99 / 2 ^ i % 2
  | k + 1 => if k = 0 ∨ 4 ≤ k then bitTo v i k ^^^ (v / 2 ^ ((i + k) % 8) % 2) else bitTo v i k

def outTo (v : Nat) : Nat → Nat
  | 0 => 0
  | i + 1 => outTo v i + bitTo v i 8 * 2 ^ i

theorem bitTo_lt (v i k : Nat) : bitTo v i k < 2 := by
  induction k with
  | zero => exact Nat.mod_lt _ (by decide)
  | succ k ih =>
    unfold bitTo
    split
    · exact Nat.xor_lt_two_pow (n := 1) ih (Nat.mod_lt _ (by decide))
    · exact ih

theorem outTo_lt (v i : Nat) : outTo v i < 2 ^ i := by
  induction i with
  | zero => exact Nat.two_pow_pos 0
  | succ i ih =>
    unfold outTo
    have h1 := bitTo_lt v i 8
    have h2 : bitTo v i 8 * 2 ^ i ≤ 1 * 2 ^ i := Nat.mul_le_mul (by omega) (Nat.le_refl _)
    rw [Nat.pow_succ]
    omega

theorem outTo_box (c : UInt8) : outTo (ginv c).toNat 8 = (gbox c).toNat := by
  refine forall_u8 (P := fun c => outTo (ginv c).toNat 8 = (gbox c).toNat) ?_ c
  decide +kernel

set_option maxRecDepth 100000 in
set_option maxHeartbeats 1000000 in
theorem refBox5 (w : World) (c : UInt8) : Calls Try.prog 12 #[iv c] w fun e w' => e = .returned (iv (gbox c)) ∧ w = w' := by
  go_enter Try.func12, Try.ntmps12
  go_wp2
  go_loop [3, 4] (fun v i => ∃ k : Nat, 1 ≤ k ∧ k ≤ 256 ∧ i = .int .i64 k ∧ v = iv (invTo c k)) (fun _ i => 256 - (intOf i).toNat)
  case atStart => exact ⟨1, by omega, by omega, rfl, by rw [invTo_1]; rfl⟩
  case round =>
    obtain ⟨k, hk1, hk, rfl, rfl⟩ := hrel
    by_cases hlt : k < 256
    · have HS := Lib.hid (invTo_succ c k hlt)
      have E : Hid (((UInt8.ofNat k).toNat : Int) = (k : Int)) := by show _ = _; rw [UInt8.toNat_ofNat']; omega
      have HC : Hid (∀ wx : World, Calls Try.prog 15 #[iv c, .int .i64 (k : Int)] wx fun e w' => e = .returned (iv (gmul c (UInt8.ofNat k))) ∧ wx = w') := by
        have h := fun wx : World => refMul5 wx c (UInt8.ofNat k)
        unfold iv at h ⊢
        rw [E.out] at h
        exact Lib.hid h
      have h256 : (k : Int) < 256 := by omega
      generalize gmul c (UInt8.ofNat k) = x at HS HC
      by_cases hx : x = 1
      · subst hx
        rw [if_pos rfl] at HS
        go_wp2_with (go_at_call 15; refine (HC.out _).mono ?_; rintro e w' ⟨rfl, rfl⟩)
        go_round
        case rel => exact ⟨k + 1, by omega, by omega, by go_num, by rw [HS.out]; unfold iv; rw [E.out]⟩
        case measure => simp [intOf]; omega
      · rw [if_neg hx] at HS
        have hx2 : ¬ ((x.toNat : Int) = 1) := by
          intro e
          exact hx (UInt8.toNat_inj.1 (by show _ = 1; omega))
        go_wp2_with (go_at_call 15; refine (HC.out _).mono ?_; rintro e w' ⟨rfl, rfl⟩)
        go_round
        case rel => exact ⟨k + 1, by omega, by omega, by go_num, by rw [HS.out]⟩
        case measure => simp [intOf]; omega
    · obtain rfl : k = 256 := by omega
      rw [show ((256 : Nat) : Int) = 256 from rfl, invTo_256]
      have HB := Lib.hid (outTo_box c)
      have hv := u8_lt (ginv c)
      unfold iv
      generalize (ginv c).toNat = v at *
      go_wp2
      go_loop [5, 6] (fun o i => ∃ j : Nat, j ≤ 8 ∧ i = .int .i64 j ∧ o = .int .i64 (outTo v j : Nat)) (fun _ i => 8 - (intOf i).toNat)
      case atStart => exact ⟨0, by omega, rfl, rfl⟩
      case round =>
        obtain ⟨i, hi, rfl, rfl⟩ := hrel
        have HO := Lib.hid (outTo_lt v i)
        by_cases hlt2 : i < 8
        · have h8 : (i : Int) < 8 := by omega
          have HS : Hid (outTo v (i + 1) = outTo v i + bitTo v i 8 * 2 ^ i) := Lib.hid rfl
          have h99 : (99 : Int) / 2 ^ i % 2 = ((bitTo v i 0 : Nat) : Int) := by
            show _ = ((99 / 2 ^ i % 2 : Nat) : Int)
            rw [Int.natCast_emod, Int.natCast_ediv, Int.natCast_pow]; rfl
          have h990 : 0 ≤ (99 : Int) / 2 ^ i := Int.ediv_nonneg (by omega) (by exact Int.le_of_lt (Int.pow_pos (by decide)))
          have HB8 := Lib.hid (bitTo_lt v i 8)
          have HO2 : Hid (2 ^ i ≤ 128) := by
            show _ ≤ _
            calc 2 ^ i ≤ 2 ^ 7 := Nat.pow_le_pow_right (by decide) (by omega)
              _ = 128 := by decide
          go_wp2
          go_loop [7, 8] (fun b k => ∃ j : Nat, j ≤ 8 ∧ k = .int .i64 j ∧ b = .int .i64 (bitTo v i j : Nat)) (fun _ k => 8 - (intOf k).toNat)
          case atStart => exact ⟨0, by omega, rfl, rfl⟩
          case round =>
            clear h99 h990
            obtain ⟨k, hk, rfl, rfl⟩ := hrel
            by_cases hlt3 : k < 8
            · have hk8 : (k : Int) < 8 := by omega
              have HT : Hid (bitTo v i (k + 1) = if k = 0 ∨ 4 ≤ k then bitTo v i k ^^^ (v / 2 ^ ((i + k) % 8) % 2) else bitTo v i k) := Lib.hid rfl
              by_cases hk0 : k = 0
              · rw [if_pos (.inl hk0)] at HT
                subst hk0
                have hi8 : i % 8 = i := Nat.mod_eq_of_lt hlt2
                have hi8' : (i : Int) % 8 = (i : Int) := by omega
                rw [show (i + 0) % 8 = i from hi8] at HT
                have hp := bitTo_lt v i 0
                have hq : v / 2 ^ i % 2 < 2 := Nat.mod_lt _ (by decide)
                have hx := i64_xor_nat (bitTo v i 0) (v / 2 ^ i % 2) (by omega) (by omega)
                have hd : (v : Int) / 2 ^ i % 2 = ((v / 2 ^ i % 2 : Nat) : Int) := by
                  rw [Int.natCast_emod, Int.natCast_ediv, Int.natCast_pow]; rfl
                have hd0 : 0 ≤ (v : Int) / 2 ^ i := Int.ediv_nonneg (by omega) (by exact Int.le_of_lt (Int.pow_pos (by decide)))
                generalize v / 2 ^ i % 2 = u at *
                generalize bitTo v i 0 = b at *
                rw [show ((0 : Nat) : Int) = 0 from rfl]
                go_wp2
                go_round
                case rel => exact ⟨1, by omega, by go_num, by rw [HT.out]⟩
                case measure => simp [intOf]
              · have t0 : ((k : Int) == 0) = false := by rw [beq_eq_false_iff_ne]; omega
                by_cases hk4 : 4 ≤ k
                · rw [if_pos (.inr hk4)] at HT
                  have t4 : decide ((4 : Int) ≤ (k : Int)) = true := by rw [decide_eq_true_eq]; omega
                  have hp := bitTo_lt v i k
                  have hq : v / 2 ^ ((i + k) % 8) % 2 < 2 := Nat.mod_lt _ (by decide)
                  have hx := i64_xor_nat (bitTo v i k) (v / 2 ^ ((i + k) % 8) % 2) (by omega) (by omega)
                  obtain ⟨m, Hm⟩ : ∃ m, Hid ((i + k) % 8 = m) := ⟨_, Lib.hid rfl⟩
                  have hm : ((i : Int) + (k : Int)) % 8 = (m : Int) := by rw [← Hm.out]; omega
                  have hm8 : m < 8 := by rw [← Hm.out]; exact Nat.mod_lt _ (by decide)
                  rw [Hm.out] at HT hx hq
                  have hd : (v : Int) / 2 ^ m % 2 = ((v / 2 ^ m % 2 : Nat) : Int) := by
                    rw [Int.natCast_emod, Int.natCast_ediv, Int.natCast_pow]; rfl
                  have hd0 : 0 ≤ (v : Int) / 2 ^ m := Int.ediv_nonneg (by omega) (by exact Int.le_of_lt (Int.pow_pos (by decide)))
                  generalize v / 2 ^ m % 2 = u at *
                  generalize bitTo v i k = b at *
                  go_wp2
                  go_round
                  case rel => exact ⟨k + 1, by omega, by go_num, by rw [HT.out]⟩
                  case measure => simp [intOf]; omega
                · rw [if_neg (by omega)] at HT
                  have t4 : decide ((4 : Int) ≤ (k : Int)) = false := by rw [decide_eq_false_iff_not]; omega
                  generalize bitTo v i k = b at *
                  go_wp2
                  go_round
                  case rel => exact ⟨k + 1, by omega, by go_num, by rw [HT.out]⟩
                  case measure => simp [intOf]; omega
            · obtain rfl : k = 8 := by omega
              rw [show ((8 : Nat) : Int) = 8 from rfl]
              generalize bitTo v i 8 = b at *
              have hb2 := HB8.out
              have ho := HO.out
              have hi2 := HO2.out
              have hs : b * 2 ^ i ≤ 1 * 2 ^ i := Nat.mul_le_mul (by omega) (Nat.le_refl _)
              have e : ((b * 2 ^ i : Nat) : Int) = (b : Int) * 2 ^ i := by rw [Int.natCast_mul, Int.natCast_pow]; rfl
              have hw : IntKind.i64.wrap ((b : Int) * 2 ^ i) = ((b * 2 ^ i : Nat) : Int) := by
                rw [e]
                refine IntWalk.i64_in _ ?_
                omega
              clear e
              generalize b * 2 ^ i = q at *
              generalize outTo v i = o at *
              generalize 2 ^ i = pw at ho hi2 hs
              clear HO HO2
              go_wp2
              go_round
              case rel => exact ⟨i + 1, by omega, by go_num, by rw [HS.out]; go_num⟩
              case measure => simp [intOf]; omega
        · obtain rfl : i = 8 := by omega
          rw [show ((8 : Nat) : Int) = 8 from rfl, HB.out]
          obtain ⟨r, HR⟩ : ∃ r, Hid (gbox c = r) := ⟨_, Lib.hid rfl⟩
          rw [HR.out]
          go_wp2
          go_ret
          exact ⟨by rw [HR.out]; rfl, rfl⟩

end Go.Proofs.Ytapoelmhnbgidaa
