/-
  The reference's functions of layer 1.
-/
import Derived.Test.YtliojldkdmaofaaDoorPenA
namespace Go.Proofs.YtliojldkdmaofaaDoor
set_option linter.unusedVariables false
set_option linter.unusedSimpArgs false
open Go.RowKit

theorem rest7 (a : Int) : (wrap64 (a.tmod 7 + 7)).tmod 7 = a % 7 := by
  have h1 : -7 < a.tmod 7 ∧ a.tmod 7 < 7 := by
    have := Int.tmod_lt_of_pos a (b := 7) (by omega)
    have := Int.lt_tmod_of_pos a (b := 7) (by omega)
    omega
  have h2 : wrap64 (a.tmod 7 + 7) = a.tmod 7 + 7 := Go.IntWalk.wrap64_in _ (by omega)
  rw [h2, Int.tmod_eq_emod_of_nonneg (by omega)]
  rw [Int.tmod_eq_emod]
  split <;> simp <;> omega


theorem bstr_append (a b : List UInt8) : bstr a ++ bstr b = bstr (a ++ b) := by
  unfold bstr
  rw [ByteArray.mk_append_mk]

theorem mod_byte (m : Nat) : ((m : Int) % 256) = ((UInt8.ofNat m).toNat : Int) := by rw [UInt8.toNat_ofNat']; omega

/-- string([]byte{b}) at the world as a walk has it -/
theorem run_str_one (w : World) (b : UInt8) : (convert 22 9 (.slice (some ⟨w.heap.size, 0, none⟩) 1 1)).run Tryd.prog (w.alloc (.cells #[bv b] 5)) = .ok (.string (bstr [b])) (w.alloc (.cells #[bv b] 5)) :=
  run_str (P := Tryd.prog) Tryd.underlying22 Tryd.underlying5 Tryd.underlying9 (Rd.made w [b] 5 (0, 0) (by simp))

set_option maxHeartbeats 400000 in
theorem refNumber (w : World) (n size : Nat) (hn : n < 18446744073709551616) (hs : size ≤ 8) :
    Calls Tryd.prog 28 #[.int .u64 n, .int .i64 size] w fun e w' => e = .returned (.string (bstr (be size n))) ∧ New w w' := by
  go_enter Tryd.func28, Tryd.ntmps28
  go_wp2
  go_loopw [0, 5, 6] (fun v s i wr => ∃ k : Nat, k ≤ size ∧ i = .int .i64 k ∧ v = .int .u64 ((n / 256 ^ k : Nat) : Int) ∧ s = .string (bstr (be k n)) ∧ New w wr) (fun _ _ i _ => size - (intOf i).toNat)
  case atStart => exact ⟨0, Nat.zero_le _, rfl, by simp, rfl, Below.refl _ _⟩
  case round =>
    obtain ⟨k, hk, rfl, rfl, rfl, hnw⟩ := hrel
    by_cases hlt : k < size
    · have hnk : n / 256 ^ k < 18446744073709551616 := Nat.lt_of_le_of_lt (Nat.div_le_self _ _) hn
      have HE : Hid (be (k + 1) n = [UInt8.ofNat (n / 256 ^ k)] ++ be k n) := rfl
      have HQ : Hid (n / 256 ^ (k + 1) = n / 256 ^ k / 256) := by show _ = _; rw [Nat.pow_succ, Nat.div_div_eq_div_mul]
      have hsz : (bstr (be k n)).size ≤ 8 := by rw [bstr_size, be_length]; omega
      generalize n / 256 ^ k = m at hnk HE HQ
      have ks := run_str_one wr (UInt8.ofNat m)
      have hs1 : (bstr [UInt8.ofNat m]).size ≤ 1 := by rw [bstr_size]; simp
      unfold bv at ks
      rw [← mod_byte m] at ks
      go_wp2
      go_roundw
      case rel =>
        refine ⟨k + 1, by omega, by go_num, ?_, ?_, hnw.alloc hnw.size _⟩
        · rw [HQ.out]; simp
        · rw [HE.out, ← bstr_append]
      case measure => simp [intOf]; omega
    · obtain rfl : k = size := by omega
      go_wp2
      go_ret
      exact ⟨rfl, hnw⟩

def fits (n : Int) (size : Nat) : Bool := decide (0 ≤ n ∧ n < 256 ^ size)


set_option maxHeartbeats 400000 in
theorem refText (w : World) (l : List UInt8) (size : Nat) (hl : l.length ≤ 1000000) (hs : size ≤ 8) :
    Calls Tryd.prog 30 #[.string (bstr l), .int .i64 size] w fun e w' => e = .returned (.string (bstr (be size l.length ++ l))) ∧ New w w' := by
  have hz : (bstr l).size = l.length := bstr_size l
  have hz2 : (bstr (be size l.length)).size = size := by rw [bstr_size, be_length]
  have HB := Lib.hid (bstr_append (be size l.length) l)
  go_enter Tryd.func30, Tryd.ntmps30
  go_wp2_with fail
  refine (refNumber w l.length size (by omega) hs).mono ?_
  rintro e w1 ⟨rfl, hn⟩
  go_wp2
  go_ret
  exact ⟨by rw [← HB.out]; rfl, hn⟩

end Go.Proofs.YtliojldkdmaofaaDoor
