/-
  The reference's Sum, With, Take of layer 11.
-/
import Derived.Test.YtnekcdpfphgpbaaCrcA
import Derived.Test.YtnekcdpfphgpbaaRef01
namespace Go.Proofs.Ytnekcdpfphgpbaa
set_option linter.unusedVariables false
set_option linter.unusedSimpArgs false
open Go.RowKit

set_option maxRecDepth 100000 in
set_option maxHeartbeats 800000 in
theorem refSum11 (w : World) (l : List UInt8) (hl : l.length ≤ 1000000000) : Calls Try.prog 53 #[.string (bstr l)] w fun e w' => e = .returned (wv (crc l)) ∧ w = w' := by
  have hz : (bstr l).size = l.length := bstr_size l
  go_enter Try.func53, Try.ntmps53
  go_wp2
  go_loop [3, 4, 5, 6] (fun x i _ _ => ∃ k : Nat, k ≤ l.length ∧ i = .int .i64 k ∧ x = wv (creg (l.take k))) (fun _ i _ _ => l.length - (intOf i).toNat)
  case atStart => exact ⟨0, Nat.zero_le _, rfl, rfl⟩
  case round =>
    obtain ⟨k, hk, rfl, rfl⟩ := hrel
    by_cases hlt : k < l.length
    · have hkz : k < (bstr l).size := by rw [hz]; exact hlt
      have HB := Lib.hid (byte_at l k hlt hkz)
      have hb := ((bstr l)[k]).toNat_lt
      have HS : Hid (creg (l.take (k + 1)) = cmix (creg (l.take k)) (l[k]'hlt)) := by
        have := creg_take [] l k hlt
        rw [List.nil_append, List.nil_append] at this
        exact this
      rw [← HB.out] at HS
      have HB0 := Lib.hid (byteIn (creg (l.take k)) (bstr l)[k])
      obtain ⟨y, HY⟩ : ∃ y, Hid (wxor (creg (l.take k)) (UInt32.ofNat (bstr l)[k].toNat) = y) := ⟨_, Lib.hid rfl⟩
      have HM : Hid (creg (l.take (k + 1)) = csteps y 8) := by show _ = _; rw [HS.out]; unfold cmix; rw [HY.out]
      rw [HY.out] at HB0
      have hb0 := HB0.out
      clear HS HY HB0 HB
      generalize creg (l.take k) = x at hb0 ⊢
      go_wp2
      go_loop [3, 5, 6] (fun v i _ => ∃ m : Nat, m ≤ 8 ∧ i = .int .i64 m ∧ v = wv (csteps y m)) (fun _ i _ => 8 - (intOf i).toNat)
      case atStart => exact ⟨0, by omega, rfl, rfl⟩
      case round =>
        obtain ⟨m, hm, rfl, rfl⟩ := hrel
        clear hb0
        by_cases hlt8 : m < 8
        · have h8 : (m : Int) < 8 := by omega
          have h1 := low1_of (csteps y m)
          have hxl := u32_lt (csteps y m)
          by_cases hbit : (csteps y m).toNat % 2 = 1
          · have HS := Lib.hid (cstep_odd y m hbit)
            rw [hbit] at h1
            clear hbit
            generalize csteps y m = z at h1 HS hxl ⊢
            go_wp2
            go_round
            case rel => exact ⟨m + 1, by omega, by go_num, congrArg (Value.int .u32) HS.out⟩
            case measure => simp [intOf]; omega
          · have h0 : (csteps y m).toNat % 2 = 0 := by omega
            have HS := Lib.hid (cstep_even y m h0)
            rw [h0] at h1
            clear hbit h0
            generalize csteps y m = z at h1 HS hxl ⊢
            go_wp2
            go_round
            case rel => exact ⟨m + 1, by omega, by go_num, congrArg (Value.int .u32) HS.out⟩
            case measure => simp [intOf]; omega
        · obtain rfl : m = 8 := by omega
          rw [show ((8 : Nat) : Int) = 8 from rfl, ← HM.out]
          go_wp2
          go_round
          case rel => exact ⟨k + 1, by omega, by go_num, rfl⟩
          case measure => simp [intOf]; omega
    · obtain rfl : k = l.length := by omega
      rw [List.take_length]
      have HC := Lib.hid (crc_creg l)
      have h1 := inv_of (creg l)
      generalize creg l = x at HC h1 ⊢
      go_wp2
      go_ret
      exact ⟨congrArg (fun z => Ending.returned (wv z)) HC.out.symm, rfl⟩

set_option maxRecDepth 100000 in
set_option maxHeartbeats 800000 in
theorem refWith11 (w : World) (l : List UInt8) (hl : l.length ≤ 1000000) : Calls Try.prog 34 #[.string (bstr l)] w fun e w' => e = .returned (.string (bstr (crcWith l))) ∧ New w w' := by
  have hz : (bstr l).size = l.length := bstr_size l
  have hz2 : (bstr (be 4 (crc l).toNat)).size = 4 := by rw [bstr_size, be_length]
  have HB : Hid (bstr (crcWith l) = bstr l ++ bstr (be 4 (crc l).toNat)) := by show _ = _; rw [bstr_append]; rfl
  have hc := crc_lt l
  have HN := Lib.hid (refNumber w (crc l).toNat 4 (by omega) (by omega))
  go_enter Try.func34, Try.ntmps34
  go_wp2_with fail
  refine (refSum11 w l (by omega)).mono ?_
  rintro e w1 ⟨rfl, rfl⟩
  go_wp2_with fail
  refine HN.out.mono ?_
  rintro e w1 ⟨rfl, hn⟩
  go_wp2
  go_ret
  exact ⟨by rw [HB.out]; rfl, hn⟩


end Go.Proofs.Ytnekcdpfphgpbaa
