/-
  The reference's Mul of layer 5.
-/
import Derived.Test.YtapoelmhnbgidaaAesSpec
import Derived.Test.YtapoelmhnbgidaaBase
import Derived.Test.YtapoelmhnbgidaaProg
import Derived.KernelRfl
import Derived.Deep.QuietTactic
import Derived.BigQuiet
import Derived.IntWalk
import Derived.StillTailTactics
import Derived.Laws.Rows
import Derived.Laws.Slices
import Derived.Deep.Cut
namespace Go.Proofs.Ytapoelmhnbgidaa
set_option linter.unusedVariables false
set_option linter.unusedSimpArgs false
open Go.RowKit

theorem i64_xor_nat (a b : Nat) (ha : a < 9223372036854775808) (hb : b < 9223372036854775808) : bits .xor .i64 (a : Int) (b : Int) = ((a ^^^ b : Nat) : Int) := by
  have hx : a ^^^ b < 2 ^ 63 := Nat.xor_lt_two_pow (by omega) (by omega)
  show IntKind.i64.wrap ((BitVec.ofInt 64 (a : Int) ^^^ BitVec.ofInt 64 (b : Int)).toNat : Int) = _
  rw [BitVec.toNat_xor, ofInt_u64 a (by omega), ofInt_u64 b (by omega)]
  exact IntWalk.i64_in _ (by omega)

/-- a byte as an int -/
abbrev iv (b : UInt8) : Value := .int .i64 (b.toNat : Int)

theorem i64_bxor (x y : UInt8) : bits .xor .i64 (x.toNat : Int) (y.toNat : Int) = ((bxor x y).toNat : Int) := by
  have h1 := u8_lt x
  have h2 := u8_lt y
  unfold bxor; rw [i64_xor_nat _ _ (by omega) (by omega), UInt8.toNat_xor]

/-- the product, not yet reduced -/
def pTo (a b : Nat) : Nat → Nat
  | 0 => 0
  | k + 1 => if b / 2 ^ k % 2 = 1 then pTo a b k ^^^ (a * 2 ^ k) else pTo a b k

/-- reduced, j steps -/
def rTo (p : Nat) : Nat → Nat
  | 0 => p
  | j + 1 => if rTo p j / 2 ^ (14 - j) % 2 = 1 then rTo p j ^^^ (283 * 2 ^ (6 - j)) else rTo p j

theorem pTo_lt (a b : Nat) (ha : a < 256) (k : Nat) (hk : k ≤ 8) : pTo a b k < 2 ^ 16 := by
  induction k with
  | zero => exact Nat.two_pow_pos 16
  | succ k ih =>
    unfold pTo
    have h1 := ih (by omega)
    split
    · refine Nat.xor_lt_two_pow h1 ?_
      have : 2 ^ k ≤ 2 ^ 7 := Nat.pow_le_pow_right (by decide) (by omega)
      calc a * 2 ^ k ≤ 255 * 2 ^ 7 := Nat.mul_le_mul (by omega) this
        _ < 2 ^ 16 := by decide
    · exact h1

theorem rTo_lt (p : Nat) (hp : p < 2 ^ 16) (j : Nat) : rTo p j < 2 ^ 16 := by
  induction j with
  | zero => exact hp
  | succ j ih =>
    unfold rTo
    split
    · refine Nat.xor_lt_two_pow ih ?_
      have : 2 ^ (6 - j) ≤ 2 ^ 6 := Nat.pow_le_pow_right (by decide) (by omega)
      calc 283 * 2 ^ (6 - j) ≤ 283 * 2 ^ 6 := Nat.mul_le_mul (Nat.le_refl _) this
        _ < 2 ^ 16 := by decide
    · exact ih

theorem nat_xor4 (a b c d : Nat) : (a ^^^ b) ^^^ (c ^^^ d) = (a ^^^ c) ^^^ (b ^^^ d) := by
  rw [Nat.xor_assoc, Nat.xor_assoc, ← Nat.xor_assoc b, Nat.xor_comm b c, Nat.xor_assoc c]

theorem rTo_xor (x y : Nat) (j : Nat) : rTo (x ^^^ y) j = rTo x j ^^^ rTo y j := by
  induction j with
  | zero => rfl
  | succ j ih =>
    unfold rTo
    rw [ih, bit_xor]
    have e2 := Nat.mod_two_eq_zero_or_one (rTo x j / 2 ^ (14 - j))
    have e3 := Nat.mod_two_eq_zero_or_one (rTo y j / 2 ^ (14 - j))
    rcases e2 with e2 | e2 <;> rcases e3 with e3 | e3 <;> rw [e2, e3] <;> simp only [Nat.add_zero, Nat.zero_add, Nat.reduceAdd, Nat.reduceMod, if_true, if_false, Nat.zero_ne_one, reduceCtorEq]
    · rw [Nat.xor_assoc]
    · rw [Nat.xor_assoc, Nat.xor_comm (rTo y j), ← Nat.xor_assoc]
    · rw [nat_xor4, Nat.xor_self, Nat.xor_zero]

theorem rTo_dbls : ∀ a, a < 256 → ∀ i, i < 8 → rTo (a * 2 ^ i) 7 = (dbls (UInt8.ofNat a) i).toNat := by decide +kernel

theorem rTo_pTo (a b : UInt8) (k : Nat) (hk : k ≤ 8) : rTo (pTo a.toNat b.toNat k) 7 = (mulTo a b k).toNat := by
  induction k with
  | zero => show rTo 0 7 = (0 : UInt8).toNat; decide
  | succ k ih =>
    unfold pTo mulTo
    split
    · rw [rTo_xor, ih (by omega), rTo_dbls _ (u8_lt a) k (by omega), UInt8.ofNat_toNat]
      unfold bxor; rw [UInt8.toNat_xor]
    · exact ih (by omega)

theorem refMul_eq (a b : UInt8) : rTo (pTo a.toNat b.toNat 8) 7 = (gmul a b).toNat := rTo_pTo a b 8 (Nat.le_refl _)

set_option maxRecDepth 100000 in
set_option maxHeartbeats 1000000 in
theorem refMul5 (w : World) (a b : UInt8) : Calls Try.prog 15 #[iv a, iv b] w fun e w' => e = .returned (iv (gmul a b)) ∧ w = w' := by
  have ha := u8_lt a
  have hb := u8_lt b
  have HG := Lib.hid (refMul_eq a b)
  have HPL := Lib.hid (fun k hk => pTo_lt a.toNat b.toNat ha k hk)
  unfold iv at *
  generalize gmul a b = g at *
  generalize a.toNat = x at *
  generalize b.toNat = y at *
  go_enter Try.func15, Try.ntmps15
  go_wp2
  go_loop [5, 6] (fun p i => ∃ k : Nat, k ≤ 8 ∧ i = .int .i64 k ∧ p = .int .i64 (pTo x y k : Nat)) (fun _ i => 8 - (intOf i).toNat)
  case atStart => exact ⟨0, by omega, rfl, rfl⟩
  case round =>
    obtain ⟨k, hk, rfl, rfl⟩ := hrel
    by_cases hlt : k < 8
    · have h8 : (k : Int) < 8 := by omega
      have hp := HPL.out k hk
      have hq : x * 2 ^ k < 2 ^ 16 := by
        have : 2 ^ k ≤ 2 ^ 7 := Nat.pow_le_pow_right (by decide) (by omega)
        calc x * 2 ^ k ≤ 255 * 2 ^ 7 := Nat.mul_le_mul (by omega) this
          _ < 2 ^ 16 := by decide
      have HS : Hid (pTo x y (k + 1) = if y / 2 ^ k % 2 = 1 then pTo x y k ^^^ (x * 2 ^ k) else pTo x y k) := Lib.hid rfl
      have hx := i64_xor_nat (pTo x y k) (x * 2 ^ k) (by omega) (by omega)
      have hw : IntKind.i64.wrap ((x : Int) * 2 ^ k) = ((x * 2 ^ k : Nat) : Int) := by
        rw [Int.natCast_mul, Int.natCast_pow]
        refine IntWalk.i64_in _ ?_
        have e : ((x * 2 ^ k : Nat) : Int) = (x : Int) * 2 ^ k := by rw [Int.natCast_mul, Int.natCast_pow]; rfl
        omega
      have hd : (y : Int) / 2 ^ k % 2 = ((y / 2 ^ k % 2 : Nat) : Int) := by
        rw [Int.natCast_emod, Int.natCast_ediv, Int.natCast_pow]; rfl
      have hd0 : 0 ≤ (y : Int) / 2 ^ k := Int.ediv_nonneg (by omega) (by exact Int.le_of_lt (Int.pow_pos (by decide)))
      by_cases hbit : y / 2 ^ k % 2 = 1
      · rw [if_pos hbit] at HS
        rw [hbit] at hd
        clear hbit
        generalize pTo x y k = p at *
        generalize x * 2 ^ k = s at *
        go_wp2
        go_round
        case rel => exact ⟨k + 1, by omega, by go_num, by rw [HS.out]⟩
        case measure => simp [intOf]; omega
      · rw [if_neg hbit] at HS
        rw [show y / 2 ^ k % 2 = 0 by omega] at hd
        clear hbit hx hw hq
        generalize pTo x y k = p at *
        go_wp2
        go_round
        case rel => exact ⟨k + 1, by omega, by go_num, by rw [HS.out]⟩
        case measure => simp [intOf]; omega
    · obtain rfl : k = 8 := by omega
      rw [show ((8 : Nat) : Int) = 8 from rfl]
      have HP0 := Lib.hid (HPL.out 8 hk)
      clear hlt HPL
      generalize pTo x y 8 = P at *
      go_wp2
      go_loop [5, 7] (fun p i => ∃ j : Nat, j ≤ 7 ∧ i = .int .i64 ((14 - j : Nat) : Int) ∧ p = .int .i64 (rTo P j : Nat)) (fun _ i => (intOf i).toNat)
      case atStart => exact ⟨0, by omega, rfl, rfl⟩
      case round =>
        obtain ⟨j, hj, rfl, rfl⟩ := hrel
        have hp := rTo_lt P HP0.out j
        by_cases hlt : j < 7
        · have HS : Hid (rTo P (j + 1) = if rTo P j / 2 ^ (14 - j) % 2 = 1 then rTo P j ^^^ (283 * 2 ^ (6 - j)) else rTo P j) := Lib.hid rfl
          obtain ⟨m, Hm⟩ : ∃ m, Hid (14 - j = m) := ⟨_, Lib.hid rfl⟩
          have hm8 : 8 ≤ m := by rw [← Hm.out]; omega
          have hm14 : m ≤ 14 := by rw [← Hm.out]; omega
          rw [Hm.out, show 6 - j = m - 8 by have := Hm.out; omega] at HS
          rw [Hm.out]
          have hq : 283 * 2 ^ (m - 8) < 2 ^ 16 := by
            have : 2 ^ (m - 8) ≤ 2 ^ 6 := Nat.pow_le_pow_right (by decide) (by omega)
            calc 283 * 2 ^ (m - 8) ≤ 283 * 2 ^ 6 := Nat.mul_le_mul (Nat.le_refl _) this
              _ < 2 ^ 16 := by decide
          have hx := i64_xor_nat (rTo P j) (283 * 2 ^ (m - 8)) (by omega) (by omega)
          have hw : IntKind.i64.wrap (283 * 2 ^ (m - 8)) = ((283 * 2 ^ (m - 8) : Nat) : Int) := by
            have e : ((283 * 2 ^ (m - 8) : Nat) : Int) = 283 * 2 ^ (m - 8) := by rw [Int.natCast_mul, Int.natCast_pow]; rfl
            rw [e]
            refine IntWalk.i64_in _ ?_
            omega
          have hmt : ((m : Int) - 8).toNat = m - 8 := by omega
          have hm0 : 0 ≤ (m : Int) - 8 := by omega
          have hd : (rTo P j : Int) / 2 ^ m % 2 = ((rTo P j / 2 ^ m % 2 : Nat) : Int) := by
            rw [Int.natCast_emod, Int.natCast_ediv, Int.natCast_pow]; rfl
          have hd0 : 0 ≤ (rTo P j : Int) / 2 ^ m := Int.ediv_nonneg (by omega) (by exact Int.le_of_lt (Int.pow_pos (by decide)))
          by_cases hbit : rTo P j / 2 ^ m % 2 = 1
          · rw [if_pos hbit] at HS
            rw [hbit] at hd
            clear hbit
            generalize rTo P j = p at *
            generalize 283 * 2 ^ (m - 8) = s at *
            go_wp2
            go_round
            case rel => exact ⟨j + 1, by omega, by rw [show 14 - (j + 1) = m - 1 by have := Hm.out; omega]; go_num, by rw [HS.out]⟩
            case measure => simp [intOf]; omega
          · rw [if_neg hbit] at HS
            rw [show rTo P j / 2 ^ m % 2 = 0 by omega] at hd
            clear hbit hx hw hq
            generalize rTo P j = p at *
            go_wp2
            go_round
            case rel => exact ⟨j + 1, by omega, by rw [show 14 - (j + 1) = m - 1 by have := Hm.out; omega]; go_num, by rw [HS.out]⟩
            case measure => simp [intOf]; omega
        · obtain rfl : j = 7 := by omega
          rw [show ((14 - 7 : Nat) : Int) = 7 from rfl, HG.out]
          go_wp2
          go_ret
          exact ⟨rfl, rfl⟩

end Go.Proofs.Ytapoelmhnbgidaa
