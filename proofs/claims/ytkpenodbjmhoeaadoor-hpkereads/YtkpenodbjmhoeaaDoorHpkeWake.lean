/-
  What engrosserlaw08.awake needs of values. Written by bin/gen_wake08.py.
-/
import Derived.Test.YtkpenodbjmhoeaaDoorHpkeSpec
namespace Go.Proofs.YtkpenodbjmhoeaaDoor
set_option linter.unusedVariables false
set_option linter.unusedSimpArgs false
open Go.RowKit

/-- one step of a power, a bit of the exponent -/
def pmStep (a acc : Nat) (b : Bool) : Nat := cond b (acc ^ 2 * a % 2305843009213693951) (acc ^ 2 % 2305843009213693951)
def pmBits (bs : List Bool) : Nat := bs.foldl (fun n b => 2 * n + cond b 1 0) 0
def pm (a : Nat) (bs : List Bool) : Nat := bs.foldl (pmStep a) 1

theorem pmStep_eq (a n : Nat) (b : Bool) : pmStep a (powP a n) b = powP a (2 * n + cond b 1 0) := by
  have e2 : powP a n ^ 2 % 2305843009213693951 = powP a (2 * n) := by
    show powP (powP a n) 2 = _
    rw [powP_mul, Nat.mul_comm]
  cases b with
  | false => exact e2
  | true =>
    show powP a n ^ 2 * a % 2305843009213693951 = a ^ (2 * n + 1) % 2305843009213693951
    rw [Nat.mul_mod, e2, Nat.pow_succ, Nat.mul_mod (a ^ (2 * n)) a]
    rfl

theorem pm_from (a : Nat) (bs : List Bool) : ∀ n, bs.foldl (pmStep a) (powP a n) = powP a (bs.foldl (fun n b => 2 * n + cond b 1 0) n) := by
  induction bs with
  | nil => intro n; rfl
  | cons b bs ih => intro n; rw [List.foldl_cons, List.foldl_cons, pmStep_eq]; exact ih _

theorem pm_eq (a : Nat) (bs : List Bool) : powP a (pmBits bs) = pm a bs := (pm_from a bs 0).symm

theorem wkTA : hkT [97] (labelInfo keyLab [] 8) 1 = [117, 6, 33, 112, 191, 248, 206, 197, 236, 124, 203, 90, 14, 137, 33, 236, 229, 114, 203, 89, 197, 39, 128, 29, 189, 31, 70, 245, 204, 40, 104, 50] := by decide +kernel
theorem wkKA : keyOfSec [97] = 1514935092797558479 := by
  unfold keyOfSec keyNum labelled hkdf
  rw [show tagsOf 8 = 1 by decide, hkOut_succ, wkTA]; decide +kernel
theorem wkTD : hkT [100] (labelInfo keyLab [] 8) 1 = [58, 81, 223, 243, 45, 240, 153, 21, 157, 176, 201, 145, 113, 178, 212, 237, 155, 31, 166, 140, 185, 225, 15, 53, 113, 88, 242, 255, 251, 55, 173, 244] := by decide +kernel
theorem wkKD : keyOfSec [100] = 1896543153640479001 := by
  unfold keyOfSec keyNum labelled hkdf
  rw [show tagsOf 8 = 1 by decide, hkOut_succ, wkTD]; decide +kernel
theorem wkP : powP 3 1514935092797558479 = 1698461819911046417 := by
  rw [show 1514935092797558479 = pmBits [true, false, true, false, true, false, false, false, false, false, true, true, false, false, false, true, false, false, false, false, true, false, true, true, true, false, false, false, false, true, false, true, true, true, true, true, true, true, true, true, true, true, false, false, false, true, true, false, false, true, true, true, false, true, true, false, false, true, true, true, true] by decide +kernel, pm_eq]; decide +kernel
theorem wkF : powP 3 1896543153640479001 = 286126448538016316 := by
  rw [show 1896543153640479001 = pmBits [true, true, false, true, false, false, true, false, true, false, false, false, true, true, true, false, true, true, true, true, true, true, true, true, true, false, false, true, true, false, false, true, false, true, true, false, true, true, true, true, true, false, false, false, false, true, false, false, true, true, false, false, true, false, false, false, true, true, false, false, true] by decide +kernel, pm_eq]; decide +kernel
theorem wkS : powP 1698461819911046417 1896543153640479001 = 1257739691807743659 := by
  rw [show 1896543153640479001 = pmBits [true, true, false, true, false, false, true, false, true, false, false, false, true, true, true, false, true, true, true, true, true, true, true, true, true, false, false, true, true, false, false, true, false, true, true, false, true, true, true, true, true, false, false, false, false, true, false, false, true, true, false, false, true, false, false, false, true, true, false, false, true] by decide +kernel, pm_eq]; decide +kernel
theorem wkRP : rightP 1698461819911046417 = true := by decide +kernel
theorem wkRF : rightP 286126448538016316 = true := by decide +kernel
def wkSec : List UInt8 := [141, 119, 55, 123, 82, 51, 78, 165, 114, 29, 156, 35, 36, 0, 227, 205, 100, 62, 143, 51, 135, 236, 17, 17, 122, 93, 79, 192, 194, 220, 90, 18]
theorem wkSec_eq : hSec (be 8 1257739691807743659) 286126448538016316 1698461819911046417 = wkSec := by decide +kernel
def wkKeyi : List UInt8 := [6, 141, 179, 206, 59, 220, 75, 205, 198, 77, 58, 67, 99, 194, 233, 122, 153, 41, 163, 200, 98, 168, 177, 210, 181, 231, 29, 134, 148, 66, 107, 113, 124, 242, 131, 217, 24, 36, 134, 132, 77, 156, 59, 74, 50, 173, 130, 234]
theorem wkKeyi_1 : hkT wkSec (labelInfo keyLab [105] 48) 1 = [6, 141, 179, 206, 59, 220, 75, 205, 198, 77, 58, 67, 99, 194, 233, 122, 153, 41, 163, 200, 98, 168, 177, 210, 181, 231, 29, 134, 148, 66, 107, 113] := by decide +kernel
theorem wkKeyi_2 : hkT wkSec (labelInfo keyLab [105] 48) 2 = [124, 242, 131, 217, 24, 36, 134, 132, 77, 156, 59, 74, 50, 173, 130, 234, 62, 157, 109, 200, 25, 55, 88, 98, 152, 56, 191, 79, 83, 134, 218, 101] := by
  rw [hkT_succ, wkKeyi_1]; decide +kernel
theorem wkKeyi_eq : labelled wkSec keyLab [105] 48 = wkKeyi := by
  unfold labelled hkdf
  rw [show tagsOf 48 = 2 by decide, hkOut_succ, hkOut_succ, wkKeyi_1, wkKeyi_2]; decide +kernel
def wkNoni : List UInt8 := [136, 49, 255, 165, 101, 146, 196, 206, 247, 234, 220, 25, 136, 117, 153, 186]
theorem wkNoni_1 : hkT wkSec (labelInfo nonceLab [105] 16) 1 = [136, 49, 255, 165, 101, 146, 196, 206, 247, 234, 220, 25, 136, 117, 153, 186, 250, 13, 227, 152, 161, 153, 104, 231, 34, 48, 17, 115, 178, 148, 231, 159] := by decide +kernel
theorem wkNoni_eq : labelled wkSec nonceLab [105] 16 = wkNoni := by
  unfold labelled hkdf
  rw [show tagsOf 16 = 1 by decide, hkOut_succ, wkNoni_1]; decide +kernel
def wkKeyj : List UInt8 := [178, 92, 12, 87, 181, 133, 74, 247, 82, 175, 70, 248, 213, 1, 18, 57, 117, 10, 113, 240, 250, 18, 16, 170, 243, 28, 188, 27, 191, 52, 21, 68, 75, 255, 24, 136, 122, 14, 177, 142, 21, 94, 17, 187, 206, 91, 8, 122]
theorem wkKeyj_1 : hkT wkSec (labelInfo keyLab [106] 48) 1 = [178, 92, 12, 87, 181, 133, 74, 247, 82, 175, 70, 248, 213, 1, 18, 57, 117, 10, 113, 240, 250, 18, 16, 170, 243, 28, 188, 27, 191, 52, 21, 68] := by decide +kernel
theorem wkKeyj_2 : hkT wkSec (labelInfo keyLab [106] 48) 2 = [75, 255, 24, 136, 122, 14, 177, 142, 21, 94, 17, 187, 206, 91, 8, 122, 176, 130, 190, 221, 149, 43, 174, 21, 119, 251, 219, 30, 224, 208, 39, 244] := by
  rw [hkT_succ, wkKeyj_1]; decide +kernel
theorem wkKeyj_eq : labelled wkSec keyLab [106] 48 = wkKeyj := by
  unfold labelled hkdf
  rw [show tagsOf 48 = 2 by decide, hkOut_succ, hkOut_succ, wkKeyj_1, wkKeyj_2]; decide +kernel
def wkNonj : List UInt8 := [190, 237, 202, 75, 55, 209, 188, 106, 213, 169, 209, 64, 48, 110, 33, 23]
theorem wkNonj_1 : hkT wkSec (labelInfo nonceLab [106] 16) 1 = [190, 237, 202, 75, 55, 209, 188, 106, 213, 169, 209, 64, 48, 110, 33, 23, 142, 141, 241, 140, 9, 48, 168, 18, 32, 126, 197, 9, 230, 183, 222, 194] := by decide +kernel
theorem wkNonj_eq : labelled wkSec nonceLab [106] 16 = wkNonj := by
  unfold labelled hkdf
  rw [show tagsOf 16 = 1 by decide, hkOut_succ, wkNonj_1]; decide +kernel
def wkRk : List UInt8 := [6, 141, 179, 206, 59, 220, 75, 205, 198, 77, 58, 67, 99, 194, 233, 122]
def wkText : List UInt8 := [116, 101, 120, 116]
theorem wkRk0 : rk wkRk 0 = [6, 141, 179, 206, 59, 220, 75, 205, 198, 77, 58, 67, 99, 194, 233, 122] := rfl
theorem wkPw0 : dbls 1 0 = 1 := by decide +kernel
theorem wkRk1 : rk wkRk 1 = [34, 147, 105, 53, 25, 79, 34, 248, 223, 2, 24, 187, 188, 192, 241, 193] := by
  rw [rk, wkRk0, wkPw0]; decide +kernel
theorem wkPw1 : dbls 1 1 = 2 := by decide +kernel
theorem wkRk2 : rk wkRk 2 = [154, 50, 17, 80, 131, 125, 51, 168, 92, 127, 43, 19, 224, 191, 218, 210] := by
  rw [rk, wkRk1, wkPw1]; decide +kernel
theorem wkPw2 : dbls 1 2 = 4 := by decide +kernel
theorem wkRk3 : rk wkRk 3 = [150, 101, 164, 177, 21, 24, 151, 25, 73, 103, 188, 10, 169, 216, 102, 216] := by
  rw [rk, wkRk2, wkPw2]; decide +kernel
theorem wkPw3 : dbls 1 3 = 8 := by decide +kernel
theorem wkRk4 : rk wkRk 4 = [255, 86, 197, 98, 234, 78, 82, 123, 163, 41, 238, 113, 10, 241, 136, 169] := by
  rw [rk, wkRk3, wkPw3]; decide +kernel
theorem wkPw4 : dbls 1 4 = 16 := by decide +kernel
theorem wkRk5 : rk wkRk 5 = [78, 146, 22, 5, 164, 220, 68, 126, 7, 245, 170, 15, 13, 4, 34, 166] := by
  rw [rk, wkRk4, wkPw4]; decide +kernel
theorem wkPw5 : dbls 1 5 = 32 := by decide +kernel
theorem wkRk6 : rk wkRk 6 = [156, 1, 50, 210, 56, 221, 118, 172, 63, 40, 220, 163, 50, 44, 254, 5] := by
  rw [rk, wkRk5, wkPw5]; decide +kernel
theorem wkPw6 : dbls 1 6 = 64 := by decide +kernel
theorem wkRk7 : rk wkRk 7 = [173, 186, 89, 241, 149, 103, 47, 93, 170, 79, 243, 254, 152, 99, 13, 251] := by
  rw [rk, wkRk6, wkPw6]; decide +kernel
theorem wkPw7 : dbls 1 7 = 128 := by decide +kernel
theorem wkRk8 : rk wkRk 8 = [214, 109, 86, 183, 67, 10, 121, 234, 233, 69, 138, 20, 113, 38, 135, 239] := by
  rw [rk, wkRk7, wkPw7]; decide +kernel
theorem wkPw8 : dbls 1 8 = 27 := by decide +kernel
theorem wkRk9 : rk wkRk 9 = [58, 122, 137, 20, 121, 112, 240, 254, 144, 53, 122, 234, 225, 19, 253, 5] := by
  rw [rk, wkRk8, wkPw8]; decide +kernel
theorem wkPw9 : dbls 1 9 = 54 := by decide +kernel
theorem wkRk10 : rk wkRk 10 = [113, 46, 226, 236, 8, 94, 18, 18, 152, 107, 104, 248, 121, 120, 149, 253] := by
  rw [rk, wkRk9, wkPw9]; decide +kernel
theorem wkEnc0 : enc wkRk wkNoni 0 = [142, 188, 76, 107, 94, 78, 143, 3, 49, 167, 230, 90, 235, 183, 112, 192] := by decide +kernel
theorem wkEnc1 : enc wkRk wkNoni 1 = [85, 231, 141, 208, 99, 35, 5, 227, 248, 140, 169, 159, 23, 200, 66, 144] := by
  rw [enc, wkEnc0, wkRk1]; decide +kernel
theorem wkEnc2 : enc wkRk wkNoni 2 = [160, 140, 214, 122, 158, 74, 100, 22, 177, 3, 11, 71, 12, 26, 30, 139] := by
  rw [enc, wkEnc1, wkRk2]; decide +kernel
theorem wkEnc3 : enc wkRk wkNoni 3 = [58, 114, 131, 13, 38, 169, 118, 162, 142, 182, 232, 147, 1, 139, 129, 189] := by
  rw [enc, wkEnc2, wkRk3]; decide +kernel
theorem wkEnc4 : enc wkRk wkNoni 4 = [107, 167, 53, 69, 22, 230, 145, 142, 0, 95, 71, 255, 214, 153, 187, 246] := by
  rw [enc, wkEnc3, wkRk4]; decide +kernel
theorem wkEnc5 : enc wkRk wkNoni 5 = [219, 83, 122, 46, 228, 85, 177, 78, 103, 233, 59, 224, 137, 196, 171, 86] := by
  rw [enc, wkEnc4, wkRk5]; decide +kernel
theorem wkEnc6 : enc wkRk wkNoni 6 = [185, 215, 96, 101, 155, 31, 150, 9, 255, 207, 155, 175, 98, 232, 7, 11] := by
  rw [enc, wkEnc5, wkRk6]; decide +kernel
theorem wkEnc7 : enc wkRk wkNoni 7 = [101, 96, 154, 137, 176, 101, 247, 180, 225, 30, 198, 141, 44, 7, 25, 114] := by
  rw [enc, wkEnc6, wkRk7]; decide +kernel
theorem wkEnc8 : enc wkRk wkNoni 8 = [111, 61, 229, 25, 115, 201, 173, 43, 99, 114, 80, 123, 205, 9, 17, 126] := by
  rw [enc, wkEnc7, wkRk8]; decide +kernel
theorem wkEnc9 : enc wkRk wkNoni 9 = [173, 117, 84, 132, 234, 54, 71, 5, 86, 77, 33, 221, 93, 101, 53, 41] := by
  rw [enc, wkEnc8, wkRk9]; decide +kernel
theorem wkEnc10 : enc wkRk wkNoni 10 = [228, 43, 31, 73, 143, 189, 132, 77, 41, 38, 72, 147, 53, 229, 53, 60] := by
  rw [enc, wkEnc9, wkRk10]; decide +kernel

theorem wk_pad : padB wkKeyi wkNoni 0 = [228, 43, 31, 73, 143, 189, 132, 77, 41, 38, 72, 147, 53, 229, 53, 60] := by
  unfold padB
  rw [show wkKeyi.take 16 = wkRk by decide +kernel, show ctrB wkNoni 0 = wkNoni by decide +kernel, wkEnc10]

theorem wk_x (i : Nat) (h : i < 16) : xAt wkKeyi wkNoni wkText i = bxor (wkText.getD i 0) ([228, 43, 31, 73, 143, 189, 132, 77, 41, 38, 72, 147, 53, 229, 53, 60].getD i 0) := by
  unfold xAt padAt
  rw [show i / 16 = 0 by omega, wk_pad, show i % 16 = i by omega]

theorem wk_hidden : ctrX wkKeyi wkNoni wkText = [144, 78, 103, 61] := by
  refine ext_getD _ _ (by rw [ctrX_length]; rfl) fun i hi => ?_
  rw [ctrX_length] at hi
  rw [ctrX_get _ _ _ _ hi]
  have h4 : i < 4 := hi
  rw [wk_x i (by omega)]
  have : i = 0 ∨ i = 1 ∨ i = 2 ∨ i = 3 := by omega
  rcases this with rfl | rfl | rfl | rfl <;> decide +kernel

theorem wk_tag : stag wkKeyi wkNoni [] [144, 78, 103, 61] = [114, 25, 121, 18, 165, 57, 11, 147, 19, 26, 64, 233, 1, 176, 44, 69] := by decide +kernel
theorem wk_tag2 : stag wkKeyj wkNonj [] [144, 78, 103, 61] = [24, 119, 53, 129, 42, 33, 195, 255, 233, 7, 208, 238, 141, 71, 119, 245] := by decide +kernel

/-- another info does not open it -/
theorem wk_shut : openErr wkKeyj wkNonj [] (sealOf wkKeyi wkNoni [] wkText) = 14 := by
  unfold openErr
  rw [if_neg (by rw [sealOf_length]; omega), if_neg ?_]
  unfold rightTag
  rw [sealOf_take, sealOf_drop, wk_hidden, wk_tag, wk_tag2]
  decide +kernel

theorem wk_from : hFrom [100] = 286126448538016316 := by unfold hFrom; rw [wkKD, wkF]
theorem wk_sh : hSh 1698461819911046417 [100] = be 8 1257739691807743659 := by unfold hSh; rw [wkKD, wkS]
theorem wk_public : powP 3 (keyOfSec [97]) = 1698461819911046417 := by rw [wkKA, wkP]
theorem wk_right : rightP (powP 3 (keyOfSec [97])) = true := by rw [wk_public]; exact wkRP
theorem wk_right2 : rightP (hFrom [100]) = true := by rw [wk_from]; exact wkRF

theorem wk_text : hsText (powP 3 (keyOfSec [97])) [105] [] wkText [100] = sealOf wkKeyi wkNoni [] wkText := by
  unfold hsText
  rw [if_pos wk_right, wk_public]
  unfold hText hKey hNon
  rw [wk_from, wk_sh, wkSec_eq, wkKeyi_eq, wkNoni_eq]

theorem wk_err : hoErr (keyOfSec [97]) (hsFrom (powP 3 (keyOfSec [97])) [100]) (hsText (powP 3 (keyOfSec [97])) [105] [] wkText [100]) [106] [] = 14 := by
  have e1 : hsFrom (powP 3 (keyOfSec [97])) [100] = hFrom [100] := if_pos wk_right
  have e3 : hoRight (keyOfSec [97]) (hFrom [100]) = true := by unfold hoRight; rw [wk_right2, decide_eq_true (keyOfSec_le [97])]; rfl
  rw [e1, wk_text]
  unfold hoErr
  rw [if_pos e3, hSh_back, wk_public, wk_sh]
  unfold hKey hNon
  rw [wk_from, wkSec_eq, wkKeyj_eq, wkNonj_eq]
  exact wk_shut

theorem wk_back : hsErr (powP 3 (keyOfSec [97])) = 0 ∧ hoErr (keyOfSec [97]) (hsFrom (powP 3 (keyOfSec [97])) [100]) (hsText (powP 3 (keyOfSec [97])) [105] [] wkText [100]) [105] [] = 0 ∧ hoText (keyOfSec [97]) (hsFrom (powP 3 (keyOfSec [97])) [100]) (hsText (powP 3 (keyOfSec [97])) [105] [] wkText [100]) [105] [] = wkText :=
  hpke_back (keyOfSec [97]) [105] [] wkText [100] (keyOfSec_le [97]) wk_right wk_right2

end Go.Proofs.YtkpenodbjmhoeaaDoor
