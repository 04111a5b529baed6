/-
  The reference of layer 16 as the statements use it: a key's encoding, Within.
-/
import Derived.Test.YtnekcdpfphgpbaaCrcA
import Derived.Test.YtnekcdpfphgpbaaKeySpec
import Derived.Test.YtnekcdpfphgpbaaRefCrc
import Derived.Test.YtnekcdpfphgpbaaRefVal
import Derived.Test.YtnekcdpfphgpbaaSlZero
import Derived.Test.YtnekcdpfphgpbaaDskA
namespace Go.Proofs.Ytnekcdpfphgpbaa
set_option linter.unusedVariables false
set_option linter.unusedSimpArgs false
set_option maxRecDepth 100000
open Go.RowKit

theorem refOctets16 (w : World) (b : Nat) (k : List UInt8) (hb : b < 9223372036854775808) (hk : k.length = 32) :
    Calls Try.prog 17 #[.int .i64 (b : Int), .string (bstr k)] w fun e w' => e = .returned (.string (bstr (keyEnc b k))) ∧ New w w' := by
  have hw1 : IntKind.u64.wrap (b : Int) = (b : Int) := IntWalk.u64_in _ (by omega)
  have HC1 := Lib.hid (fun wx => refNumber wx b 8 (by omega) (by omega))
  have HW := Lib.hid (fun wx => refWith11 wx (keyRaw b k) (by rw [keyRaw_length hk]; omega))
  have z0 : ({ data := #[101, 110, 103, 107] } : ByteArray).size = 4 := rfl
  have z1 : (bstr (be 8 b)).size = 8 := by rw [bstr_size, be_length]
  have z2 : (bstr k).size = 32 := by rw [bstr_size, hk]
  have j1 : ({ data := #[101, 110, 103, 107] } : ByteArray) ++ bstr (be 8 b) = bstr ([101, 110, 103, 107] ++ be 8 b) := bstr_append [101, 110, 103, 107] _
  have y1 : (bstr ([101, 110, 103, 107] ++ be 8 b)).size = 12 := by rw [bstr_size]; simp [be_length]
  have j2 : bstr ([101, 110, 103, 107] ++ be 8 b) ++ bstr k = bstr (keyRaw b k) := bstr_append _ _
  have z6 : (bstr (crcWith (keyRaw b k))).size = 48 := by rw [bstr_size, crcWith_length, keyRaw_length hk]
  have j6 : bstr (crcWith (keyRaw b k)) ++ bstr (List.replicate 80 0) = bstr (keyEnc b k) := by rw [bstr_append]; rfl
  have z7 : (bstr (List.replicate 80 0)).size = 80 := by rw [bstr_size]; simp
  have hmk : ∀ wx : World, (Instr.makeSlice 37 (.int .i64 80) (.int .i64 80)).run Try.prog wx = .ok (.slice (some ⟨wx.heap.size, 0, none⟩) 80 80) (wx.alloc (.cells (List.replicate 80 (bv 0)).toArray 5)) := fun wx => by
    have := run_make10 80 (by omega) wx
    rwa [List.map_replicate] at this
  have hst := zeroStr 80 (by omega)
  generalize keyEnc b k = L9 at *
  generalize crcWith (keyRaw b k) = L8 at *
  generalize keyRaw b k = L7 at *
  generalize ([101, 110, 103, 107] ++ be 8 b) = L1 at *
  generalize be 8 b = M1 at *
  generalize bstr (List.replicate 80 0) = BZ at *
  generalize hR : (List.replicate 80 (bv 0)).toArray = RZ at *
  clear hR hb hk
  go_enter Try.func17, Try.ntmps17
  go_wp2_with fail
  refine (HC1.out w).mono ?_
  rintro _ w2 ⟨rfl, n2⟩
  have HN2 := Lib.hid n2
  clear n2
  go_wp2_with fail
  refine (HW.out w2).mono ?_
  rintro _ w3 ⟨rfl, n3⟩
  have HN3 := Lib.hid (New.trans HN2.out n3)
  clear n3
  go_wp2
  go_ret
  exact ⟨rfl, HN3.out.alloc (HN3.out.size) _⟩

/-- is a text a part of another one? -/
def within16 (s l : List UInt8) : Bool := (List.range (l.length + 1)).any fun i => decide (i + s.length ≤ l.length ∧ (l.drop i).take s.length = s)

theorem within16_no {s l : List UInt8} (h : ∀ i, i + s.length ≤ l.length → (l.drop i).take s.length ≠ s) : within16 s l = false := by
  unfold within16
  rw [List.any_eq_false]
  intro i hi
  simp only [decide_eq_true_eq, not_and]
  exact h i

theorem within16_yes {s l : List UInt8} {i : Nat} (h1 : i + s.length ≤ l.length) (h2 : (l.drop i).take s.length = s) : within16 s l = true := by
  unfold within16
  rw [List.any_eq_true]
  exact ⟨i, List.mem_range.2 (by omega), by simp [h1, h2]⟩

set_option maxHeartbeats 1000000 in
theorem refWithin16 (w : World) (s l : List UInt8) (hs : s.length ≤ 1000000) (hl : l.length ≤ 1000000) :
    Calls Try.prog 16 #[.string (bstr s), .string (bstr l)] w fun e w' => e = .returned (.bool (within16 s l)) ∧ w = w' := by
  obtain ⟨ns, Hns⟩ : ∃ n, Hid (s.length = n) := ⟨_, Lib.hid rfl⟩
  obtain ⟨nl, Hnl⟩ : ∃ n, Hid (l.length = n) := ⟨_, Lib.hid rfl⟩
  have z0 : (bstr s).size = ns := by rw [bstr_size]; exact Hns.out
  have z1 : (bstr l).size = nl := by rw [bstr_size]; exact Hnl.out
  rw [Hns.out] at hs
  rw [Hnl.out] at hl
  go_enter Try.func16, Try.ntmps16
  go_wp2
  go_loop [5] (fun i => ∃ k : Nat, k ≤ nl + 1 ∧ i = .int .i64 k ∧ Hid (∀ j, j < k → j + ns ≤ nl → (l.drop j).take ns ≠ s)) (fun i => nl + 1 - (intOf i).toNat)
  case atStart => exact ⟨0, Nat.zero_le _, rfl, Lib.hid (fun j hj => absurd hj (Nat.not_lt_zero _))⟩
  case round =>
    obtain ⟨k, hk, rfl, HA⟩ := hrel
    by_cases hlt : k + ns ≤ nl
    · have hli : (k : Int) + (ns : Int) ≤ (nl : Int) := by omega
      have hcut : (bstr l).extract k (k + ns) = bstr ((l.drop k).take ns) := by rw [bstr_cut, Nat.add_sub_cancel_left]
      have hq : ((bstr ((l.drop k).take ns)).toList == (bstr s).toList) = decide ((l.drop k).take ns = s) := by
        rw [bstr_list, bstr_list, Bool.eq_iff_iff]; simp
      by_cases heq : (l.drop k).take ns = s
      · have HE : Hid (within16 s l = true) := Lib.hid (within16_yes (i := k) (by rw [Hns.out, Hnl.out]; exact hlt) (by rw [Hns.out]; exact heq))
        rw [decide_eq_true heq] at hq
        clear heq
        generalize bstr ((l.drop k).take ns) = S1 at *
        generalize bstr s = S2 at *
        generalize bstr l = S3 at *
        go_wp2
        go_ret
        exact ⟨by rw [HE.out]; rfl, rfl⟩
      · have HA2 : Hid (∀ j, j < k + 1 → j + ns ≤ nl → (l.drop j).take ns ≠ s) := Lib.hid (fun j hj hn => by
          rcases Nat.lt_succ_iff_lt_or_eq.1 hj with h | rfl
          · exact HA.out j h hn
          · exact heq)
        rw [decide_eq_false heq] at hq
        clear heq
        generalize bstr ((l.drop k).take ns) = S1 at *
        generalize bstr s = S2 at *
        generalize bstr l = S3 at *
        go_wp2
        go_round
        case rel => exact ⟨k + 1, by omega, by go_num, HA2⟩
        case measure => simp [intOf]; omega
    · have hli : ¬ (k : Int) + (ns : Int) ≤ (nl : Int) := by omega
      have HE : Hid (within16 s l = false) := Lib.hid (within16_no (fun j hj => by
        rw [Hns.out] at hj ⊢
        rw [Hnl.out] at hj
        exact HA.out j (by omega) hj))
      go_wp2
      go_ret
      exact ⟨by rw [HE.out]; rfl, rfl⟩

end Go.Proofs.Ytnekcdpfphgpbaa
