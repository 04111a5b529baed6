/-
  AesRings: the walk.
-/
import Derived.Test.YtapoelmhnbgidaaLaw05
namespace Go.Proofs.Ytapoelmhnbgidaa
set_option linter.unusedVariables false
set_option linter.unusedSimpArgs false
open Go.RowKit

/-- how many of 1 .. i - 1 are inverses of a -/
def cntInv (a : UInt8) (i : Nat) : Nat := if a ≠ 0 ∧ (ginv a).toNat < i then 1 else 0

theorem cntInv_1 (a : UInt8) : cntInv a 1 = 0 := by
  unfold cntInv
  rw [if_neg]
  rintro ⟨h1, h2⟩
  exact ginv_ne a h1 (UInt8.toNat_inj.1 (by show _ = 0; omega))

theorem cntInv_succ (a : UInt8) (i : Nat) (hi : i < 256) : cntInv a (i + 1) = if gmul a (UInt8.ofNat i) = 1 then cntInv a i + 1 else cntInv a i := by
  unfold cntInv
  by_cases h : a = 0
  · subst h
    rw [gmul_0', if_neg (by simp), if_neg (by decide), if_neg (by simp)]
  · have hb : gmul a (UInt8.ofNat i) = 1 ↔ (ginv a).toNat = i := by
      rw [gmul_eq_1 a _ h]
      constructor
      · intro e; rw [← e, UInt8.toNat_ofNat']; omega
      · intro e; rw [← e, UInt8.ofNat_toNat]
    simp only [hb, ne_eq, h, not_false_eq_true, true_and]
    split <;> split <;> split <;> omega

theorem cntInv_256 (a : UInt8) : cntInv a 256 = if a = 0 then 0 else 1 := by
  unfold cntInv
  by_cases h : a = 0
  · rw [if_pos h, if_neg (by simp [h])]
  · rw [if_neg h, if_pos ⟨h, u8_lt _⟩]

theorem mulC (a b m : UInt8) (h : gmul a b = m) : Hid (∀ wx : World, Calls Try.prog 14 #[bv a, bv b] wx fun e w' => e = .returned (bv m) ∧ wx = w') := by
  subst h
  exact Lib.hid (fun wx => aesMul wx a b)

attribute [local go_sem] u8_bxor

set_option maxRecDepth 100000 in
set_option maxHeartbeats 2000000 in
theorem ringsWalk (w : World) (a b c : UInt8) :
    Calls Try.prog 6 #[bv a, bv b, bv c] w fun e w' => e = .returned (.bool true) ∧ New w w' := by
  have C1 := mulC a b _ rfl
  have C2 := mulC b a _ (gmul_comm b a)
  have C3 := mulC b c _ rfl
  have C4 := mulC a (gmul b c) _ (gmul_assoc a b c)
  have C5 := mulC (gmul a b) c _ rfl
  have C6 := mulC a (bxor b c) _ (gmul_xor' a b c)
  have C7 := mulC a c _ rfl
  have C8 := mulC a 1 _ (gmul_1 a)
  generalize gmul (gmul a b) c = q at C4 C5
  generalize gmul a b = m at C1 C2 C5 C6
  generalize gmul b c = n at C3 C4
  generalize gmul a c = t at C6 C7
  go_enter Try.func6, Try.ntmps6
  go_wp2_with fail
  refine (awake05 w).mono ?_
  rintro e w1 ⟨rfl, N1⟩
  go_wp2_with fail
  refine (C1.out _).mono ?_
  rintro e w' ⟨rfl, rfl⟩
  go_wp2_with fail
  refine (C2.out _).mono ?_
  rintro e w' ⟨rfl, rfl⟩
  go_wp2_with fail
  refine (C3.out _).mono ?_
  rintro e w' ⟨rfl, rfl⟩
  go_wp2_with fail
  refine (C4.out _).mono ?_
  rintro e w' ⟨rfl, rfl⟩
  go_wp2_with fail
  refine (C1.out _).mono ?_
  rintro e w' ⟨rfl, rfl⟩
  go_wp2_with fail
  refine (C5.out _).mono ?_
  rintro e w' ⟨rfl, rfl⟩
  go_wp2_with fail
  refine (C6.out _).mono ?_
  rintro e w' ⟨rfl, rfl⟩
  go_wp2_with fail
  refine (C1.out _).mono ?_
  rintro e w' ⟨rfl, rfl⟩
  go_wp2_with fail
  refine (C7.out _).mono ?_
  rintro e w' ⟨rfl, rfl⟩
  clear C1 C2 C3 C4 C5 C6 C7
  go_wp2
  go_loop [7, 8] (fun n i => ∃ k : Nat, 1 ≤ k ∧ k ≤ 256 ∧ i = .int .i64 k ∧ n = .int .i64 (cntInv a k : Nat)) (fun _ i => 256 - (intOf i).toNat)
  case atStart => exact ⟨1, by omega, by omega, rfl, by rw [cntInv_1]; rfl⟩
  case round =>
    obtain ⟨k, hk1, hk, rfl, rfl⟩ := hrel
    by_cases hlt : k < 256
    · have HS := Lib.hid (cntInv_succ a k hlt)
      have HC : Hid (∀ wx : World, Calls Try.prog 14 #[bv a, .int .u8 (k : Int)] wx fun e w' => e = .returned (bv (gmul a (UInt8.ofNat k))) ∧ wx = w') := by
        have h := (mulC a (UInt8.ofNat k) _ rfl).out
        unfold bv at h ⊢
        rw [show ((UInt8.ofNat k).toNat : Int) = (k : Int) by rw [UInt8.toNat_ofNat']; omega] at h
        exact Lib.hid h
      have h256 : (k : Int) < 256 := by omega
      have hcb : cntInv a k ≤ 1 := by unfold cntInv; split <;> omega
      generalize gmul a (UInt8.ofNat k) = x at HS HC
      by_cases hx : x = 1
      · subst hx
        have HS2 : Hid (cntInv a (k + 1) = cntInv a k + 1) := by show _ = _; rw [HS.out, if_pos rfl]
        generalize cntInv a k = y at *
        go_wp2_with (go_at_call 14; refine (HC.out _).mono ?_; rintro e w' ⟨rfl, rfl⟩)
        go_round
        case rel => exact ⟨k + 1, by omega, by omega, by go_num, by rw [HS2.out]; go_num⟩
        case measure => simp [intOf]; omega
      · have HS2 : Hid (cntInv a (k + 1) = cntInv a k) := by show _ = _; rw [HS.out, if_neg hx]
        have hx2 : ¬ ((x.toNat : Int) = 1) := by
          intro e
          exact hx (UInt8.toNat_inj.1 (by show _ = 1; omega))
        generalize cntInv a k = y at *
        go_wp2_with (go_at_call 14; refine (HC.out _).mono ?_; rintro e w' ⟨rfl, rfl⟩)
        go_round
        case rel => exact ⟨k + 1, by omega, by omega, by go_num, by rw [HS2.out]⟩
        case measure => simp [intOf]; omega
    · obtain rfl : k = 256 := by omega
      rw [show ((256 : Nat) : Int) = 256 from rfl, cntInv_256]
      by_cases h0 : a = 0
      · rw [if_pos h0]
        subst h0
        go_wp2_with (go_at_call 14; refine (C8.out _).mono ?_; rintro e w' ⟨rfl, rfl⟩)
        go_ret
        exact ⟨rfl, N1⟩
      · rw [if_neg h0]
        have hx2 : ((a.toNat : Int) != 0) = true := by
          rw [bne_iff_ne]
          intro e
          exact h0 (UInt8.toNat_inj.1 (by show _ = 0; omega))
        go_wp2_with (go_at_call 14; refine (C8.out _).mono ?_; rintro e w' ⟨rfl, rfl⟩)
        go_ret
        exact ⟨rfl, N1⟩

end Go.Proofs.Ytapoelmhnbgidaa
