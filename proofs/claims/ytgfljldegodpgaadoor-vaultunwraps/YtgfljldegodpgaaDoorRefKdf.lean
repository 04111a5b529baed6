/-
  The reference's functions of layer 4.
-/
import Derived.Test.YtgfljldegodpgaaDoorRefMac
import Derived.Test.YtgfljldegodpgaaDoorRef01
import Derived.Test.YtgfljldegodpgaaDoorKdfA
namespace Go.Proofs.YtgfljldegodpgaaDoor
set_option linter.unusedVariables false
set_option linter.unusedSimpArgs false
open Go.RowKit

theorem bstr_extract (l : List UInt8) (n : Nat) : (bstr l).extract 0 n = bstr (l.take n) := by
  apply ByteArray.ext
  simp [bstr]

set_option maxRecDepth 100000 in
set_option maxHeartbeats 1000000 in
theorem refExpand (w : World) (s i : List UInt8) (m : Nat) (hsl : s.length ≤ 1099511627776) (hil : i.length ≤ 900000000) (hm : m ≤ 8160) :
    Calls Tryd.prog 36 #[.string (bstr s), .string (bstr i), .int .i64 m] w fun e w' => e = .returned (.string (bstr (hkdf s i m))) ∧ New w w' := by
  have h255 : tagsOf m ≤ 255 := by unfold tagsOf; omega
  have h31 : 32 * tagsOf m ≤ m + 31 ∧ m ≤ 32 * tagsOf m := by unfold tagsOf; omega
  have HH : Hid (hkdf s i m = (hkOut s i (tagsOf m)).take m) := rfl
  have hiz : (bstr i).size ≤ 900000000 := by rw [bstr_size]; exact hil
  generalize tagsOf m = T at *
  go_enter Tryd.func36, Tryd.ntmps36
  go_wp2
  go_loopw [7, 8, 9] (fun vt vo num wr => ∃ j : Nat, j ≤ T ∧ num = .int .i64 ((j + 1 : Nat) : Int) ∧ vt = .string (bstr (hkT s i j)) ∧ vo = .string (bstr (hkOut s i j)) ∧ New w wr) (fun _ _ i _ => 300 - (intOf i).toNat)
  case atStart => exact ⟨0, by omega, rfl, rfl, rfl, Below.refl _ _⟩
  case round =>
    obtain ⟨j, hj, rfl, rfl, rfl, N⟩ := hrel
    have hso : (bstr (hkOut s i j)).size = 32 * j := by rw [bstr_size, hkOut_length]
    have hst : (bstr (hkT s i j)).size ≤ 32 := by rw [bstr_size]; exact hkT_length s i j
    by_cases hlt : 32 * j < m
    · have hd2 : decide (32 * (j : Int) < (m : Int)) = true := by simp; omega
      have ks := run_str_one wr (UInt8.ofNat (j + 1))
      have hs1 : (bstr [UInt8.ofNat (j + 1)]).size ≤ 1 := by rw [bstr_size]; simp
      unfold bv at ks
      rw [show ((UInt8.ofNat (j + 1)).toNat : Int) = (j : Int) + 1 by rw [UInt8.toNat_ofNat']; omega] at ks
      have j1 := bstr_append (hkT s i j) i
      have hz2 : (bstr (hkT s i j ++ i)).size ≤ 900000032 := by rw [bstr_size, List.length_append]; have := hkT_length s i j; omega
      have j2 := bstr_append (hkT s i j ++ i) [UInt8.ofNat (j + 1)]
      rw [List.append_assoc] at j2
      have HT := Lib.hid (refTag (wr.alloc (.cells #[.int .u8 ((j : Int) + 1)] 5)) s (hkT s i j ++ (i ++ [UInt8.ofNat (j + 1)])) hsl (by have := hkT_length s i j; simp; omega))
      have j3 := Lib.hid (bstr_append (hkOut s i j) (hkT s i (j + 1)))
      have hst3 : (bstr (hkT s i (j + 1))).size ≤ 32 := by rw [bstr_size]; exact hkT_length s i (j + 1)
      rw [← hkT_succ] at HT
      have HE := Lib.hid (hkOut_succ s i j)
      obtain ⟨tn, HTN⟩ : ∃ t, Hid (hkT s i (j + 1) = t) := ⟨_, Lib.hid rfl⟩
      rw [HTN.out] at HT HE j3 hst3
      generalize UInt8.ofNat (j + 1) = x at *
      go_wp2_with fail
      refine HT.out.mono ?_
      rintro e w1 ⟨rfl, N1⟩
      go_wp2
      go_roundw
      case rel => exact ⟨j + 1, by omega, by go_num, by rw [HTN.out], by rw [HE.out, ← j3.out], New.trans N (New.trans ((Below.refl _ _).alloc (Nat.le_refl _) _) N1)⟩
      case measure => simp [intOf]; omega
    · have hd2 : decide (32 * (j : Int) < (m : Int)) = false := by simp; omega
      obtain rfl : j = T := by omega
      have hms : m ≤ (bstr (hkOut s i j)).size := by omega
      have hmi : (m : Int) ≤ ((bstr (hkOut s i j)).size : Int) := by omega
      go_wp2
      go_ret
      refine ⟨?_, N⟩
      rw [HH.out, ← bstr_extract]
      rfl


theorem mls_join (lab : List UInt8) : (⟨#[109, 108, 115, 32]⟩ : ByteArray) ++ bstr lab = bstr (mls ++ lab) := bstr_append mls lab

set_option maxRecDepth 100000 in
set_option maxHeartbeats 1000000 in
theorem refLabel04 (w : World) (s lab ctx : List UInt8) (n : Nat) (hsl : s.length ≤ 1099511627776) (hll : lab.length ≤ 100000) (hcl : ctx.length ≤ 100000) (hn : n ≤ 8160) :
    Calls Tryd.prog 21 #[.string (bstr s), .string (bstr lab), .string (bstr ctx), .int .i64 n] w fun e w' => e = .returned (.string (bstr (labelled s lab ctx n))) ∧ New w w' := by
  have z1 : (bstr lab).size ≤ 100000 := by rw [bstr_size]; exact hll
  have jm := mls_join lab
  have H1 := Lib.hid (refNumber w n 2 (by omega) (by omega))
  have H2 : Hid (∀ wx, Calls Tryd.prog 28 #[.string (bstr (mls ++ lab)), .int .i64 ((1 : Nat) : Int)] wx fun e w' => e = .returned (.string (bstr (be 1 (mls ++ lab).length ++ (mls ++ lab)))) ∧ New wx w') := fun wx => refText wx (mls ++ lab) 1 (by unfold mls; simp; omega) (by omega)
  have H3 : Hid (∀ wx, Calls Tryd.prog 28 #[.string (bstr ctx), .int .i64 ((2 : Nat) : Int)] wx fun e w' => e = .returned (.string (bstr (be 2 ctx.length ++ ctx))) ∧ New wx w') := fun wx => refText wx ctx 2 (by omega) (by omega)
  have H4 : Hid (∀ wx, Calls Tryd.prog 36 #[.string (bstr s), .string (bstr (labelInfo lab ctx n)), .int .i64 n] wx fun e w' => e = .returned (.string (bstr (labelled s lab ctx n))) ∧ New wx w') := fun wx => refExpand wx s (labelInfo lab ctx n) n hsl (by rw [labelInfo_length]; omega) hn
  have HI : Hid (labelInfo lab ctx n = (be 2 n ++ (be 1 (mls ++ lab).length ++ (mls ++ lab))) ++ (be 2 ctx.length ++ ctx)) := rfl
  have y1 : (bstr (be 2 n)).size ≤ 8 := by rw [bstr_size, be_length]; omega
  have y2 : (bstr (be 1 (mls ++ lab).length ++ (mls ++ lab))).size ≤ 200000 := by rw [bstr_size, List.length_append, be_length]; unfold mls; simp; omega
  have y3 : (bstr (be 2 ctx.length ++ ctx)).size ≤ 200000 := by rw [bstr_size, List.length_append, be_length]; omega
  have y4 : (bstr (be 2 n ++ (be 1 (mls ++ lab).length ++ (mls ++ lab)))).size ≤ 300000 := by rw [bstr_size, List.length_append, List.length_append, be_length, be_length]; unfold mls; simp; omega
  have J1 := bstr_append (be 2 n) (be 1 (mls ++ lab).length ++ (mls ++ lab))
  have J2 := bstr_append (be 2 n ++ (be 1 (mls ++ lab).length ++ (mls ++ lab))) (be 2 ctx.length ++ ctx)
  rw [← HI.out] at J2
  clear HI
  generalize be 2 n ++ (be 1 (mls ++ lab).length ++ (mls ++ lab)) = AB at *
  generalize be 1 (mls ++ lab).length ++ (mls ++ lab) = B at *
  generalize be 2 ctx.length ++ ctx = C at *
  generalize be 2 n = A at *
  generalize labelInfo lab ctx n = I at *
  generalize labelled s lab ctx n = R at *
  generalize mls ++ lab = ML at *
  go_enter Tryd.func21, Tryd.ntmps21
  go_wp2_with fail
  refine H1.out.mono ?_
  rintro e w1 ⟨rfl, N1⟩
  go_wp2_with fail
  refine (H2.out w1).mono ?_
  rintro e w2 ⟨rfl, N2⟩
  go_wp2_with fail
  refine (H3.out w2).mono ?_
  rintro e w3 ⟨rfl, N3⟩
  go_wp2_with fail
  refine (H4.out w3).mono ?_
  rintro e w4 ⟨rfl, N4⟩
  go_wp2
  go_ret
  exact ⟨rfl, New.trans N1 (New.trans N2 (New.trans N3 N4))⟩


end Go.Proofs.YtgfljldegodpgaaDoor
