/-
  The reference's Number, of layer 9.
-/
import Derived.Test.YtnjijmphmgihiaaDoorFltErr
import Derived.IntWalk
namespace Go.Proofs.YtnjijmphmgihiaaDoor
set_option linter.unusedVariables false
set_option linter.unusedSimpArgs false
open Go.RowKit

/-- the digits of a number; of 0 there are none -/
def digs (u : Nat) : List UInt8 := if u = 0 then [] else Lib.decDigits u

theorem digs_step (u : Nat) (h : u ≠ 0) : digs u = digs (u / 10) ++ [UInt8.ofNat (48 + u % 10)] := by
  unfold digs
  rw [if_neg h, Lib.decDigits]
  split
  · rw [if_pos (by omega)]; simp; congr 2; omega
  · rw [if_neg (by omega)]

theorem digs_len (u : Nat) (h : u < 18446744073709551616) : (digs u).length ≤ 20 := by
  unfold digs
  split
  · simp
  · have := dec_len u 19 (by omega); omega

theorem itoa_pos (n : Int) (h : 0 < n) : Lib.itoa n = digs n.natAbs := by
  unfold Lib.itoa digs
  rw [if_neg (by omega), if_neg (by omega), show n.toNat = n.natAbs by omega]
theorem itoa_neg (n : Int) (h : n < 0) : Lib.itoa n = 45 :: digs n.natAbs := by
  unfold Lib.itoa digs
  rw [if_pos h, if_neg (by omega)]
theorem itoa_zero : Lib.itoa 0 = [48] := by
  unfold Lib.itoa
  rw [if_neg (by omega), Lib.decDigits, dif_pos (by decide)]
  rfl

theorem run_str_one9 (w : World) (b : UInt8) : (convert 74 9 (.slice (some ⟨w.heap.size, 0, none⟩) 1 1)).run Tryd.prog (w.alloc (.cells #[bv b] 5)) = .ok (.string (bstr [b])) (w.alloc (.cells #[bv b] 5)) :=
  run_str (P := Tryd.prog) Tryd.underlying74 Tryd.underlying5 Tryd.underlying9 (Rd.made w [b] 5 (0, 0) (by simp))

set_option maxRecDepth 100000 in
set_option maxHeartbeats 1000000 in
theorem refNumber9 (w : World) (n : Int) (h0 : -9223372036854775808 ≤ n) (h1 : n ≤ 9223372036854775807) :
    Calls Tryd.prog 23 #[.int .i64 n] w fun e w' => e = .returned (.string (bstr (Lib.itoa n))) ∧ New w w' := by
  by_cases hz : n = 0
  · subst hz
    rw [itoa_zero]
    go_enter Tryd.func23, Tryd.ntmps23
    go_wp2
    go_ret
    exact ⟨rfl, newRefl _⟩
  · have hz2 : (n == 0) = false := beq_eq_false_iff_ne.2 hz
    go_enter Tryd.func23, Tryd.ntmps23
    go_wp2_with fail
    go_loopw [3, 4] (fun s m wr => ∃ (t : List UInt8) (k : Int), s = .string (bstr t) ∧ m = .int .i64 k ∧ (-9223372036854775808 ≤ k ∧ k ≤ 9223372036854775807) ∧ digs n.natAbs = digs k.natAbs ++ t ∧ New w wr) (fun _ m _ => (intOf m).natAbs)
    case atStart => exact ⟨[], n, rfl, rfl, ⟨h0, h1⟩, by simp, newRefl _⟩
    case round =>
      obtain ⟨t, k, rfl, rfl, hk, hd, N⟩ := hrel
      have HD := Lib.hid hd
      have HN := Lib.hid N
      have HTL : Hid (t.length ≤ 20) := by
        have h2 := digs_len n.natAbs (by omega)
        rw [hd, List.length_append] at h2
        exact Lib.hid (by omega)
      clear hd N
      by_cases hk0 : k = 0
      · subst hk0
        have HT : Hid (t = digs n.natAbs) := Lib.hid (by rw [HD.out]; simp [digs])
        have htz : (bstr t).size ≤ 20 := by rw [bstr_size]; exact HTL.out
        clear HD
        by_cases hn : n < 0
        · have HJ : Hid ((⟨#[45]⟩ : ByteArray) ++ bstr t = bstr (Lib.itoa n)) := by
            rw [itoa_neg n hn, ← HT.out]; exact Lib.hid (bstr_join9 [45] t)
          clear HT
          generalize bstr t = bt at *
          go_wp2
          go_ret
          exact ⟨by rw [← HJ.out]; rfl, HN.out⟩
        · have HJ : Hid (bstr t = bstr (Lib.itoa n)) := by rw [itoa_pos n (by omega), ← HT.out]; exact Lib.hid rfl
          clear HT
          generalize bstr t = bt at *
          go_wp2
          go_ret
          exact ⟨by rw [← HJ.out]; rfl, HN.out⟩
      · have hk2 : (k == 0) = false := beq_eq_false_iff_ne.2 hk0
        have HST := Lib.hid (digs_step k.natAbs (by omega))
        have hqn : (k.tdiv 10).natAbs = k.natAbs / 10 := Int.natAbs_tdiv k 10
        have hrn : (k.tmod 10).natAbs = k.natAbs % 10 := Int.natAbs_tmod k 10
        have HQ := Lib.hid hqn
        have hq1 : -9223372036854775808 ≤ k.tdiv 10 ∧ k.tdiv 10 ≤ 9223372036854775807 := by omega
        have hqw : wrap64 (k.tdiv 10) = k.tdiv 10 := Go.IntWalk.wrap64_in _ hq1
        have HKK : Hid (k.natAbs / 10 < k.natAbs) := Lib.hid (by omega)
        have hb8 : ((UInt8.ofNat (48 + k.natAbs % 10)).toNat : Int) = 48 + ((k.natAbs % 10 : Nat) : Int) := by rw [UInt8.toNat_ofNat']; omega
        have htz : (bstr t).size ≤ 20 := by rw [bstr_size]; exact HTL.out
        have HJ : Hid (bstr [UInt8.ofNat (48 + k.natAbs % 10)] ++ bstr t = bstr (UInt8.ofNat (48 + k.natAbs % 10) :: t)) := Lib.hid (bstr_join9 [UInt8.ofNat (48 + k.natAbs % 10)] t)
        have hb1 : (bstr [UInt8.ofNat (48 + k.natAbs % 10)]).size ≤ 1 := by rw [bstr_size]; simp
        by_cases hneg : k.tmod 10 < 0
        · have hw1 : wrap64 (-k.tmod 10) = -k.tmod 10 := Go.IntWalk.wrap64_in _ (by omega)
          have hw2 : wrap64 (48 + wrap64 (-k.tmod 10)) % 256 = ((UInt8.ofNat (48 + k.natAbs % 10)).toNat : Int) := by
            rw [hw1, Go.IntWalk.wrap64_in _ (by omega), hb8]; omega
          have hst : ∀ wx : World, (convert 74 9 (.slice (some ⟨wx.heap.size, 0, none⟩) 1 1)).run Tryd.prog (wx.alloc (.cells #[.int .u8 (wrap64 (48 + wrap64 (-k.tmod 10)) % 256)] 5)) = .ok (.string (bstr [UInt8.ofNat (48 + k.natAbs % 10)])) (wx.alloc (.cells #[.int .u8 (wrap64 (48 + wrap64 (-k.tmod 10)) % 256)] 5)) := fun wx => by
            rw [hw2]; exact run_str_one9 wx _
          have HN2 := Lib.hid (newAlloc HN.out (.cells #[.int .u8 (wrap64 (48 + wrap64 (-k.tmod 10)) % 256)] 5))
          clear hw1 hw2 hb8 hqn hrn
          generalize UInt8.ofNat (48 + k.natAbs % 10) = d at *
          go_wp2
          go_roundw
          case rel => exact ⟨d :: t, k.tdiv 10, by rw [← HJ.out], by first | rfl | go_num | rw [hqw], hq1, by rw [HD.out, HST.out, HQ.out, List.append_assoc]; rfl, HN2.out⟩
          case measure => simp only [intOf]; first | (rw [HQ.out]; exact HKK.out) | (rw [hqw, HQ.out]; exact HKK.out)
        · have hw2 : wrap64 (48 + k.tmod 10) % 256 = ((UInt8.ofNat (48 + k.natAbs % 10)).toNat : Int) := by
            rw [Go.IntWalk.wrap64_in _ (by omega), hb8]; omega
          have hst : ∀ wx : World, (convert 74 9 (.slice (some ⟨wx.heap.size, 0, none⟩) 1 1)).run Tryd.prog (wx.alloc (.cells #[.int .u8 (wrap64 (48 + k.tmod 10) % 256)] 5)) = .ok (.string (bstr [UInt8.ofNat (48 + k.natAbs % 10)])) (wx.alloc (.cells #[.int .u8 (wrap64 (48 + k.tmod 10) % 256)] 5)) := fun wx => by
            rw [hw2]; exact run_str_one9 wx _
          have HN2 := Lib.hid (newAlloc HN.out (.cells #[.int .u8 (wrap64 (48 + k.tmod 10) % 256)] 5))
          clear hw2 hb8 hqn hrn
          generalize UInt8.ofNat (48 + k.natAbs % 10) = d at *
          go_wp2
          go_roundw
          case rel => exact ⟨d :: t, k.tdiv 10, by rw [← HJ.out], by first | rfl | go_num | rw [hqw], hq1, by rw [HD.out, HST.out, HQ.out, List.append_assoc]; rfl, HN2.out⟩
          case measure => simp only [intOf]; first | (rw [HQ.out]; exact HKK.out) | (rw [hqw, HQ.out]; exact HKK.out)

end Go.Proofs.YtnjijmphmgihiaaDoor
