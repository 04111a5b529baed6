/-
  power.Key, Right; the reference's Key, Public, Right, Octets, Shared of layer 7.
-/
import Derived.Test.YtkpenodbjmhoeaaDoorPowOct
import Derived.Test.YtkpenodbjmhoeaaDoorKdfA
import Derived.Test.YtkpenodbjmhoeaaDoorEyeA
import Derived.Test.YtkpenodbjmhoeaaDoorRefKdf
import Derived.Test.YtkpenodbjmhoeaaDoorRefVal
namespace Go.Proofs.YtkpenodbjmhoeaaDoor
set_option linter.unusedVariables false
set_option linter.unusedSimpArgs false
open Go.RowKit

def keyLab : List UInt8 := [107, 101, 121]
/-- the number of a secret -/
noncomputable def keyNum (s : List UInt8) : Nat := val (labelled s keyLab [] 8)
/-- its private key -/
noncomputable def keyOfSec (s : List UInt8) : Nat := 1 + keyNum s % 2305843009213693949

theorem keyNum_lt (s : List UInt8) : keyNum s < 18446744073709551616 := by
  have h := val_lt (labelled s keyLab [] 8)
  rw [labelled_length] at h
  exact h

theorem keyOfSec_le (s : List UInt8) : 1 ≤ keyOfSec s ∧ keyOfSec s ≤ 2305843009213693949 := by
  unfold keyOfSec
  have := Nat.mod_lt (keyNum s) (show 0 < 2305843009213693949 by decide)
  omega

theorem eNum_all (l : List UInt8) (h : l.length = 8) : eNum 8 l 0 = val l := by
  unfold eNum eTake
  rw [if_neg (by decide), if_neg (by decide), if_neg (by rw [h]; decide)]
  show val (l.take 8) = val l
  rw [List.take_of_length_le (by omega)]

theorem rd_nil (w : World) : Rd w (.slice none 0 0) [] := ⟨none, 0, 0, rfl, rfl, Nat.le_refl _, Nat.zero_le _, fun _ => ⟨rfl, rfl⟩, fun ad h => by cases h⟩

theorem key_lab : (.string (ByteArray.mk #[107, 101, 121]) : Value) = .string (bstr keyLab) := rfl

set_option maxHeartbeats 400000 in
theorem powKey (w : World) (x : Value) (s : List UInt8) (hx : Rd w x s) (hs : s.length ≤ 1099511627776) (hL : Laid w) :
    Calls Tryd.prog 26 #[x] w fun e w' => e = .returned (.int .u64 (keyOfSec s : Int)) ∧ New w w' := by
  have C : Hid (Calls Tryd.prog 50 #[x, .string (ByteArray.mk #[107, 101, 121]), .slice none 0 0, .int .i64 8] w (LabTo w s keyLab [] 8)) :=
    Lib.hid (kdfLabel w x (.slice none 0 0) s keyLab [] 8 (by omega) (by omega) hx hs (by decide) (rd_nil w) (by simp) hL)
  have HK : Hid (keyOfSec s = 1 + keyNum s % 2305843009213693949) := Lib.hid rfl
  have hk := keyNum_lt s
  obtain ⟨ax, nx, cx, rfl, -⟩ := hx
  go_enter Tryd.func26, Tryd.ntmps26
  go_wp2_with fail
  refine C.out.mono ?_
  rintro e w1 ⟨N1, h | ⟨_, a, c, rfl, R1⟩⟩
  · exact absurd (⟨by decide, by simp, by decide, by decide⟩ : labFits keyLab [] 8) h.1
  have HR1 : Hid (Rd w1 (.slice a 8 c) (labelled s keyLab [] 8)) := R1
  clear R1 C
  rw [show (8 : Int).toNat = 8 from rfl]
  go_wp2_with fail
  refine (eyeOpen w1 _ _ HR1.out (by rw [labelled_length]; decide)).mono ?_
  rintro e w2 ⟨p, d, rfl, hp, E2, hd, N2⟩
  have HE := Lib.hid E2
  have HD := Lib.hid hd
  clear E2 hd
  go_wp2_with fail
  refine (eyeU64 w2 p d _ 0 HE.out).mono ?_
  rintro e w3 ⟨rfl, E3⟩
  have HN : Hid (New w w3) := Lib.hid (New.trans N1 (New.eye N2 E3 hp))
  clear E3 HE HD
  rw [eNum_all _ (labelled_length _ _ _ _)]
  have HV : Hid (val (labelled s keyLab [] 8) = keyNum s) := Lib.hid rfl
  rw [HV.out]
  obtain ⟨m, Hm⟩ : ∃ m, Hid (keyNum s = m) := ⟨_, Lib.hid rfl⟩
  rw [Hm.out] at HK hk ⊢
  clear HV HR1
  go_wp2
  go_ret
  refine ⟨?_, HN.out⟩
  rw [HK.out]
  rfl

set_option maxHeartbeats 400000 in
theorem refKey7 (w : World) (s : List UInt8) (hs : s.length ≤ 1099511627776) :
    Calls Tryd.prog 13 #[.string (bstr s)] w fun e w' => e = .returned (.int .u64 (keyOfSec s : Int)) ∧ New w w' := by
  have C : Hid (Calls Tryd.prog 37 #[.string (bstr s), .string (ByteArray.mk #[107, 101, 121]), .string (ByteArray.mk #[]), .int .i64 8] w fun e w' => e = .returned (.string (bstr (labelled s keyLab [] 8))) ∧ New w w') :=
    Lib.hid (refLabel04 w s keyLab [] 8 hs (by decide) (by simp) (by decide))
  have C2 : Hid (∀ wx, Calls Tryd.prog 36 #[.string (bstr (labelled s keyLab [] 8))] wx fun e w' => e = .returned (.int .u64 (keyNum s)) ∧ wx = w') :=
    Lib.hid (fun wx => refValue wx (labelled s keyLab [] 8) (by rw [labelled_length]; decide))
  have HK : Hid (keyOfSec s = 1 + keyNum s % 2305843009213693949) := Lib.hid rfl
  have hk := keyNum_lt s
  obtain ⟨m, Hm⟩ : ∃ m, Hid (keyNum s = m) := ⟨_, Lib.hid rfl⟩
  rw [Hm.out] at HK hk C2
  generalize labelled s keyLab [] 8 = l at C C2
  go_enter Tryd.func13, Tryd.ntmps13
  go_wp2_with fail
  refine C.out.mono ?_
  rintro e w1 ⟨rfl, N1⟩
  go_wp2_with fail
  refine (C2.out w1).mono ?_
  rintro e w2 ⟨rfl, rfl⟩
  go_wp2
  go_ret
  refine ⟨?_, N1⟩
  rw [HK.out]
  rfl

set_option maxHeartbeats 400000 in
theorem refPublic7 (w : World) (n : Nat) (hn : n < 18446744073709551616) :
    Calls Tryd.prog 14 #[.int .u64 (n : Int)] w fun e w' => e = .returned (.int .u64 (powP 3 n : Int)) ∧ w = w' := by
  have C : Hid (∀ wx, Calls Tryd.prog 38 #[.int .u64 3, .int .u64 (n : Int)] wx fun e w' => e = .returned (.int .u64 (powP 3 n : Int)) ∧ wx = w') := Lib.hid (fun wx => refPow7 wx 3 n (by omega) hn)
  obtain ⟨r, HR⟩ : ∃ r, Hid (powP 3 n = r) := ⟨_, Lib.hid rfl⟩
  rw [HR.out] at C ⊢
  go_enter Tryd.func14, Tryd.ntmps14
  go_wp2_with fail
  refine (C.out w).mono ?_
  rintro e w1 ⟨rfl, rfl⟩
  go_wp2
  go_ret
  exact ⟨rfl, rfl⟩

set_option maxHeartbeats 400000 in
theorem refOctets7 (w : World) (n : Nat) (hn : n < 18446744073709551616) :
    Calls Tryd.prog 59 #[.int .u64 (n : Int)] w fun e w' => e = .returned (.string (bstr (be 8 n))) ∧ New w w' := by
  have C : Hid (Calls Tryd.prog 48 #[.int .u64 (n : Int), .int .i64 8] w fun e w' => e = .returned (.string (bstr (be 8 n))) ∧ New w w') := Lib.hid (refNumber w n 8 hn (by omega))
  generalize be 8 n = l at C ⊢
  go_enter Tryd.func59, Tryd.ntmps59
  go_wp2_with fail
  refine C.out.mono ?_
  rintro e w1 ⟨rfl, N1⟩
  go_wp2
  go_ret
  exact ⟨rfl, N1⟩

set_option maxHeartbeats 400000 in
theorem refShared7 (w : World) (k p : Nat) (hk : k < 18446744073709551616) (hp : p < 18446744073709551616) :
    Calls Tryd.prog 32 #[.int .u64 (k : Int), .int .u64 (p : Int)] w fun e w' => e = .returned (.string (bstr (be 8 (powP p k)))) ∧ New w w' := by
  have C := Lib.hid (fun wx => refPow7 wx p k hp hk)
  have hl := powP_lt p k
  obtain ⟨r, HR⟩ : ∃ r, Hid (powP p k = r) := ⟨_, Lib.hid rfl⟩
  rw [HR.out] at C hl ⊢
  have C2 := Lib.hid (refOctets7 w r (by omega))
  generalize be 8 r = l at C2 ⊢
  go_enter Tryd.func32, Tryd.ntmps32
  go_wp2_with fail
  refine (C.out w).mono ?_
  rintro e w1 ⟨rfl, rfl⟩
  go_wp2_with fail
  refine C2.out.mono ?_
  rintro e w2 ⟨rfl, N2⟩
  go_wp2
  go_ret
  exact ⟨rfl, N2⟩

/-- is a public number valid? -/
def rightP (n : Nat) : Bool := decide (2 ≤ n ∧ n ≤ 2305843009213693949)

set_option maxHeartbeats 400000 in
theorem powRight (w : World) (n : Nat) (hn : n < 18446744073709551616) :
    Calls Tryd.prog 25 #[.int .u64 (n : Int)] w fun e w' => e = .returned (.bool (rightP n)) ∧ w = w' := by
  by_cases h1 : 2 ≤ n
  · by_cases h2 : n ≤ 2305843009213693949
    · have e : rightP n = true := decide_eq_true ⟨h1, h2⟩
      have k1 : 2 ≤ (n : Int) := by omega
      have k2 : (n : Int) ≤ 2305843009213693949 := by omega
      rw [e]
      go_enter Tryd.func25, Tryd.ntmps25
      go_wp2
      go_ret
      exact ⟨rfl, rfl⟩
    · have e : rightP n = false := decide_eq_false fun h => h2 h.2
      have k1 : 2 ≤ (n : Int) := by omega
      have k2 : ¬ (n : Int) ≤ 2305843009213693949 := by omega
      rw [e]
      go_enter Tryd.func25, Tryd.ntmps25
      go_wp2
      go_ret
      exact ⟨rfl, rfl⟩
  · have e : rightP n = false := decide_eq_false fun h => h1 h.1
    have k1 : ¬ 2 ≤ (n : Int) := by omega
    rw [e]
    go_enter Tryd.func25, Tryd.ntmps25
    go_wp2
    go_ret
    exact ⟨rfl, rfl⟩

set_option maxHeartbeats 400000 in
theorem refRight7 (w : World) (n : Nat) (hn : n < 18446744073709551616) :
    Calls Tryd.prog 15 #[.int .u64 (n : Int)] w fun e w' => e = .returned (.bool (rightP n)) ∧ w = w' := by
  by_cases h1 : 2 ≤ n
  · by_cases h2 : n ≤ 2305843009213693949
    · have e : rightP n = true := decide_eq_true ⟨h1, h2⟩
      have k1 : 2 ≤ (n : Int) := by omega
      have k2 : (n : Int) ≤ 2305843009213693949 := by omega
      rw [e]
      go_enter Tryd.func15, Tryd.ntmps15
      go_wp2
      go_ret
      exact ⟨rfl, rfl⟩
    · have e : rightP n = false := decide_eq_false fun h => h2 h.2
      have k1 : 2 ≤ (n : Int) := by omega
      have k2 : ¬ (n : Int) ≤ 2305843009213693949 := by omega
      rw [e]
      go_enter Tryd.func15, Tryd.ntmps15
      go_wp2
      go_ret
      exact ⟨rfl, rfl⟩
  · have e : rightP n = false := decide_eq_false fun h => h1 h.1
    have k1 : ¬ 2 ≤ (n : Int) := by omega
    rw [e]
    go_enter Tryd.func15, Tryd.ntmps15
    go_wp2
    go_ret
    exact ⟨rfl, rfl⟩

end Go.Proofs.YtkpenodbjmhoeaaDoor
