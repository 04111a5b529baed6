/-
  The reference's Value of layer 1; cuts of a string.
-/
import Derived.Test.YtliojldkdmaofaaEyeA
import Derived.Test.YtliojldkdmaofaaRef01
import Derived.Lib.Strings
namespace Go.Proofs.Ytliojldkdmaofaa
set_option linter.unusedVariables false
set_option linter.unusedSimpArgs false
open Go.RowKit

theorem bstr_cut (l : List UInt8) (a b : Nat) : (bstr l).extract a b = bstr ((l.drop a).take (b - a)) := by
  apply ByteArray.ext
  apply Array.ext'
  rw [Lib.extract_data, bstr_toList, bstr_toList]

theorem bstr_to (l : List UInt8) (b : Nat) : (bstr l).extract 0 b = bstr (l.take b) := by rw [bstr_cut, List.drop_zero, Nat.sub_zero]

theorem bstr_from (l : List UInt8) (a b : Nat) (h : l.length = b) : (bstr l).extract a b = bstr (l.drop a) := by
  rw [bstr_cut, List.take_of_length_le (by rw [List.length_drop]; omega)]

theorem byte_at (l : List UInt8) (k : Nat) (h : k < l.length) (h' : k < (bstr l).size) : (bstr l)[k]'h' = l[k]'h := rfl

set_option maxHeartbeats 400000 in
theorem refValue (w : World) (l : List UInt8) (hl : l.length ≤ 8) :
    Calls Try.prog 50 #[.string (bstr l)] w fun e w' => e = .returned (.int .u64 (val l)) ∧ w = w' := by
  have hz : (bstr l).size = l.length := bstr_size l
  go_enter Try.func50, Try.ntmps50
  go_wp2
  go_loop [3, 4] (fun v i => ∃ k : Nat, k ≤ l.length ∧ i = .int .i64 k ∧ v = .int .u64 (val (l.take k))) (fun _ i => l.length - (intOf i).toNat)
  case atStart => exact ⟨0, Nat.zero_le _, rfl, rfl⟩
  case round =>
    obtain ⟨k, hk, rfl, rfl⟩ := hrel
    by_cases hlt : k < l.length
    · have hv := val_lt8 (l.take k) 7 (by rw [List.length_take]; omega) (by omega)
      have hkz : k < (bstr l).size := by rw [hz]; exact hlt
      have HB := Lib.hid (byte_at l k hlt hkz)
      have hb := ((bstr l)[k]).toNat_lt
      go_wp2
      go_round
      case rel =>
        refine ⟨k + 1, by omega, by go_num, ?_⟩
        rw [List.take_succ_eq_append_getElem hlt, val_snoc]
        have e : ((bstr l)[k]'hkz).toNat = (l[k]'hlt).toNat := by rw [HB.out]
        rw [← e]
        go_num
      case measure => simp [intOf]; omega
    · obtain rfl : k = l.length := by omega
      rw [List.take_length]
      go_wp2
      go_ret
      exact ⟨rfl, rfl⟩

end Go.Proofs.Ytliojldkdmaofaa
