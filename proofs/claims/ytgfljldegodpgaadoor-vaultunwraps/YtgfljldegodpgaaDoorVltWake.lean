/-
  What engrosserlaw17.awake needs of values. Written by bin/gen_wake17.py.
-/
import Derived.Test.YtgfljldegodpgaaDoorVltSpec
namespace Go.Proofs.YtgfljldegodpgaaDoor
set_option linter.unusedVariables false
set_option linter.unusedSimpArgs false
set_option maxRecDepth 100000
open Go.RowKit

def vkSec : List UInt8 := List.replicate 32 0
def vkText : List UInt8 := [97, 32, 115, 101, 99, 114, 101, 116, 32, 111, 102, 32, 116, 119, 111, 32, 97, 110, 100, 32, 116, 104, 105, 114, 116, 121, 32, 98, 121, 116, 101, 115]
def vkG : List UInt8 := [103]
def vkC3 : List UInt8 := [1, 103, 0, 0, 0, 0, 0, 0, 0, 3]
theorem vkC3_eq : vCtx vkG 3 = vkC3 := by decide +kernel
def vkC4 : List UInt8 := [1, 103, 0, 0, 0, 0, 0, 0, 0, 4]
theorem vkC4_eq : vCtx vkG 4 = vkC4 := by decide +kernel
def vkKey : List UInt8 := [169, 244, 63, 67, 64, 52, 17, 249, 117, 86, 100, 57, 122, 167, 125, 1, 230, 91, 103, 131, 115, 144, 199, 68, 248, 159, 166, 218, 250, 248, 1, 114, 135, 15, 162, 208, 108, 252, 211, 18, 83, 148, 90, 178, 179, 251, 67, 14]
theorem vkKey_1 : hkT vkSec (labelInfo wrapL [] 48) 1 = [169, 244, 63, 67, 64, 52, 17, 249, 117, 86, 100, 57, 122, 167, 125, 1, 230, 91, 103, 131, 115, 144, 199, 68, 248, 159, 166, 218, 250, 248, 1, 114] := by decide +kernel
theorem vkKey_2 : hkT vkSec (labelInfo wrapL [] 48) 2 = [135, 15, 162, 208, 108, 252, 211, 18, 83, 148, 90, 178, 179, 251, 67, 14, 155, 168, 124, 244, 93, 30, 15, 13, 163, 245, 138, 129, 142, 100, 104, 157] := by
  rw [hkT_succ, vkKey_1]; decide +kernel
theorem vkKey_eq : vKey vkSec = vkKey := by
  unfold vKey labelled hkdf
  rw [show tagsOf 48 = 2 by decide, hkOut_succ, hkOut_succ, vkKey_1, vkKey_2]; decide +kernel
def vkN3 : List UInt8 := [8, 190, 219, 198, 217, 21, 206, 227, 25, 6, 89, 27, 186, 224, 186, 54]
theorem vkN3_1 : hkT vkSec (labelInfo nonL17 vkC3 16) 1 = [8, 190, 219, 198, 217, 21, 206, 227, 25, 6, 89, 27, 186, 224, 186, 54, 149, 53, 38, 98, 114, 225, 250, 5, 238, 30, 12, 72, 2, 167, 17, 137] := by decide +kernel
theorem vkN3_eq : vNon vkSec vkC3 = vkN3 := by
  unfold vNon labelled hkdf
  rw [show tagsOf 16 = 1 by decide, hkOut_succ, vkN3_1]; decide +kernel
def vkN4 : List UInt8 := [184, 102, 163, 253, 77, 158, 128, 5, 108, 65, 104, 250, 253, 115, 180, 138]
theorem vkN4_1 : hkT vkSec (labelInfo nonL17 vkC4 16) 1 = [184, 102, 163, 253, 77, 158, 128, 5, 108, 65, 104, 250, 253, 115, 180, 138, 177, 81, 224, 97, 83, 90, 149, 136, 156, 246, 48, 251, 217, 90, 253, 129] := by decide +kernel
theorem vkN4_eq : vNon vkSec vkC4 = vkN4 := by
  unfold vNon labelled hkdf
  rw [show tagsOf 16 = 1 by decide, hkOut_succ, vkN4_1]; decide +kernel
def vkRk : List UInt8 := [169, 244, 63, 67, 64, 52, 17, 249, 117, 86, 100, 57, 122, 167, 125, 1]
theorem vkRk0 : rk vkRk 0 = [169, 244, 63, 67, 64, 52, 17, 249, 117, 86, 100, 57, 122, 167, 125, 1] := rfl
theorem vkPw0 : dbls 1 0 = 1 := by decide +kernel
theorem vkRk1 : rk vkRk 1 = [244, 11, 67, 153, 180, 63, 82, 96, 193, 105, 54, 89, 187, 206, 75, 88] := by
  rw [rk, vkRk0, vkPw0]; decide +kernel
theorem vkPw1 : dbls 1 1 = 2 := by decide +kernel
theorem vkRk2 : rk vkRk 2 = [125, 184, 41, 115, 201, 135, 123, 19, 8, 238, 77, 74, 179, 32, 6, 18] := by
  rw [rk, vkRk1, vkPw1]; decide +kernel
theorem vkPw2 : dbls 1 2 = 4 := by decide +kernel
theorem vkRk3 : rk vkRk 3 = [206, 215, 224, 30, 7, 80, 155, 13, 15, 190, 214, 71, 188, 158, 208, 85] := by
  rw [rk, vkRk2, vkPw2]; decide +kernel
theorem vkPw3 : dbls 1 3 = 8 := by decide +kernel
theorem vkRk4 : rk vkRk 4 = [205, 167, 28, 123, 202, 247, 135, 118, 197, 73, 81, 49, 121, 215, 129, 100] := by
  rw [rk, vkRk3, vkPw3]; decide +kernel
theorem vkPw4 : dbls 1 4 = 16 := by decide +kernel
theorem vkRk5 : rk vkRk 5 = [211, 171, 95, 205, 25, 92, 216, 187, 220, 21, 137, 138, 165, 194, 8, 238] := by
  rw [rk, vkRk4, vkPw4]; decide +kernel
theorem vkPw5 : dbls 1 5 = 32 := by decide +kernel
theorem vkRk6 : rk vkRk 6 = [214, 155, 119, 203, 207, 199, 175, 112, 19, 210, 38, 250, 182, 16, 46, 20] := by
  rw [rk, vkRk5, vkPw5]; decide +kernel
theorem vkPw6 : dbls 1 6 = 64 := by decide +kernel
theorem vkRk7 : rk vkRk 7 = [92, 170, 141, 133, 147, 109, 34, 245, 128, 191, 4, 15, 54, 175, 42, 27] := by
  rw [rk, vkRk6, vkPw6]; decide +kernel
theorem vkPw7 : dbls 1 7 = 128 := by decide +kernel
theorem vkRk8 : rk vkRk 8 = [165, 79, 34, 128, 54, 34, 0, 117, 182, 157, 4, 122, 128, 50, 46, 97] := by
  rw [rk, vkRk7, vkPw7]; decide +kernel
theorem vkPw8 : dbls 1 8 = 27 := by decide +kernel
theorem vkRk9 : rk vkRk 9 = [157, 126, 205, 77, 171, 92, 205, 56, 29, 193, 201, 66, 157, 243, 231, 35] := by
  rw [rk, vkRk8, vkPw8]; decide +kernel
theorem vkPw9 : dbls 1 9 = 54 := by decide +kernel
theorem vkRk10 : rk vkRk 10 = [166, 234, 235, 19, 13, 182, 38, 43, 16, 119, 239, 105, 141, 132, 8, 74] := by
  rw [rk, vkRk9, vkPw9]; decide +kernel
def vkB0 : List UInt8 := [8, 190, 219, 198, 217, 21, 206, 227, 25, 6, 89, 27, 186, 224, 186, 54]
theorem vkEnc0_0 : enc vkRk vkB0 0 = [161, 74, 228, 133, 153, 33, 223, 26, 108, 80, 61, 34, 192, 71, 199, 55] := by decide +kernel
theorem vkEnc0_1 : enc vkRk vkB0 1 = [49, 43, 119, 58, 215, 177, 218, 233, 81, 123, 233, 63, 184, 233, 174, 248] := by
  rw [enc, vkEnc0_0, vkRk1]; decide +kernel
theorem vkEnc0_2 : enc vkRk vkB0 2 = [244, 151, 217, 117, 210, 124, 28, 223, 120, 25, 81, 245, 65, 57, 170, 234] := by
  rw [enc, vkEnc0_1, vkRk2]; decide +kernel
theorem vkEnc0_3 : enc vkRk vkB0 3 = [205, 167, 100, 16, 32, 36, 5, 144, 241, 231, 171, 152, 88, 79, 201, 8] := by
  rw [enc, vkEnc0_2, vkRk3]; decide +kernel
theorem vkEnc0_4 : enc vkRk vkB0 4 = [164, 224, 3, 147, 15, 197, 64, 114, 40, 94, 82, 206, 100, 254, 171, 97] := by
  rw [enc, vkEnc0_3, vkRk4]; decide +kernel
theorem vkEnc0_5 : enc vkRk vkB0 5 = [95, 90, 154, 117, 163, 224, 77, 184, 89, 129, 48, 150, 153, 200, 62, 206] := by
  rw [enc, vkEnc0_4, vkRk5]; decide +kernel
theorem vkEnc0_6 : enc vkRk vkB0 6 = [228, 10, 215, 105, 224, 133, 106, 241, 105, 109, 218, 52, 219, 55, 8, 91] := by
  rw [enc, vkEnc0_5, vkRk6]; decide +kernel
theorem vkEnc0_7 : enc vkRk vkB0 7 = [66, 54, 150, 140, 199, 93, 143, 40, 115, 218, 131, 210, 236, 198, 216, 158] := by
  rw [enc, vkEnc0_6, vkRk7]; decide +kernel
theorem vkEnc0_8 : enc vkRk vkB0 8 = [206, 223, 156, 66, 93, 141, 255, 218, 208, 254, 88, 188, 206, 214, 199, 47] := by
  rw [enc, vkEnc0_7, vkRk8]; decide +kernel
theorem vkEnc0_9 : enc vkRk vkB0 9 = [8, 228, 240, 214, 15, 0, 217, 201, 117, 104, 17, 84, 90, 0, 113, 231] := by
  rw [enc, vkEnc0_8, vkRk9]; decide +kernel
theorem vkEnc0_10 : enc vkRk vkB0 10 = [150, 137, 105, 135, 123, 243, 133, 221, 141, 20, 99, 180, 51, 237, 61, 106] := by
  rw [enc, vkEnc0_9, vkRk10]; decide +kernel
theorem vk_pad0 : padB vkKey vkN3 0 = [150, 137, 105, 135, 123, 243, 133, 221, 141, 20, 99, 180, 51, 237, 61, 106] := by
  unfold padB
  rw [show vkKey.take 16 = vkRk by decide +kernel, show ctrB vkN3 0 = vkB0 by decide +kernel, vkEnc0_10]
theorem vk_x0 (i : Nat) (h : i < 16) : xAt vkKey vkN3 vkText (0 + i) = bxor (vkText.getD (0 + i) 0) ([150, 137, 105, 135, 123, 243, 133, 221, 141, 20, 99, 180, 51, 237, 61, 106].getD i 0) := by
  unfold xAt padAt
  rw [show (0 + i) / 16 = 0 by omega, vk_pad0, show (0 + i) % 16 = i by omega]
def vkB1 : List UInt8 := [8, 190, 219, 198, 217, 21, 206, 227, 25, 6, 89, 27, 186, 224, 186, 55]
theorem vkEnc1_0 : enc vkRk vkB1 0 = [161, 74, 228, 133, 153, 33, 223, 26, 108, 80, 61, 34, 192, 71, 199, 54] := by decide +kernel
theorem vkEnc1_1 : enc vkRk vkB1 1 = [174, 180, 205, 31, 215, 177, 218, 233, 81, 123, 233, 63, 184, 233, 174, 248] := by
  rw [enc, vkEnc1_0, vkRk1]; decide +kernel
theorem vkEnc1_2 : enc vkRk vkB1 2 = [178, 180, 250, 16, 146, 60, 220, 95, 48, 193, 193, 189, 197, 193, 214, 150] := by
  rw [enc, vkEnc1_1, vkRk2]; decide +kernel
theorem vkEnc1_3 : enc vkRk vkB1 3 = [110, 53, 103, 239, 45, 36, 30, 221, 109, 242, 186, 155, 155, 210, 98, 91] := by
  rw [enc, vkEnc1_2, vkRk3]; decide +kernel
theorem vkEnc1_4 : enc vkRk vkB1 4 = [127, 106, 13, 113, 148, 28, 227, 131, 61, 81, 145, 220, 150, 118, 219, 148] := by
  rw [enc, vkEnc1_3, vkRk4]; decide +kernel
theorem vkEnc1_5 : enc vkRk vkB1 5 = [112, 224, 110, 249, 47, 180, 188, 232, 225, 204, 12, 207, 15, 227, 41, 65] := by
  rw [enc, vkEnc1_4, vkRk5]; decide +kernel
theorem vkEnc1_6 : enc vkRk vkB1 6 = [133, 81, 210, 86, 4, 41, 16, 136, 207, 41, 92, 74, 141, 154, 246, 5] := by
  rw [enc, vkEnc1_5, vkRk6]; decide +kernel
theorem vkEnc1_7 : enc vkRk vkB1 7 = [188, 217, 150, 30, 107, 185, 57, 102, 45, 94, 16, 20, 248, 216, 72, 80] := by
  rw [enc, vkEnc1_6, vkRk7]; decide +kernel
theorem vkEnc1_8 : enc vkRk vkB1 8 = [12, 144, 107, 21, 0, 105, 21, 26, 29, 31, 211, 158, 181, 213, 107, 106] := by
  rw [enc, vkEnc1_7, vkRk8]; decide +kernel
theorem vkEnc1_9 : enc vkRk vkB1 9 = [14, 193, 0, 207, 16, 124, 123, 144, 150, 64, 109, 150, 222, 6, 253, 104] := by
  rw [enc, vkEnc1_8, vkRk9]; decide +kernel
theorem vkEnc1_10 : enc vkRk vkB1 10 = [13, 250, 215, 86, 199, 191, 114, 161, 128, 24, 140, 9, 144, 252, 41, 218] := by
  rw [enc, vkEnc1_9, vkRk10]; decide +kernel
theorem vk_pad1 : padB vkKey vkN3 1 = [13, 250, 215, 86, 199, 191, 114, 161, 128, 24, 140, 9, 144, 252, 41, 218] := by
  unfold padB
  rw [show vkKey.take 16 = vkRk by decide +kernel, show ctrB vkN3 1 = vkB1 by decide +kernel, vkEnc1_10]
theorem vk_x1 (i : Nat) (h : i < 16) : xAt vkKey vkN3 vkText (16 + i) = bxor (vkText.getD (16 + i) 0) ([13, 250, 215, 86, 199, 191, 114, 161, 128, 24, 140, 9, 144, 252, 41, 218].getD i 0) := by
  unfold xAt padAt
  rw [show (16 + i) / 16 = 1 by omega, vk_pad1, show (16 + i) % 16 = i by omega]
def vkX : List UInt8 := [247, 169, 26, 226, 24, 129, 224, 169, 173, 123, 5, 148, 71, 154, 82, 74, 108, 148, 179, 118, 179, 215, 27, 211, 244, 97, 172, 107, 233, 136, 76, 169]
theorem vk_lo : ∀ i, i < 16 → bxor (vkText.getD (0 + i) 0) ([150, 137, 105, 135, 123, 243, 133, 221, 141, 20, 99, 180, 51, 237, 61, 106].getD i 0) = vkX.getD (0 + i) 0 := by decide +kernel
theorem vk_hi : ∀ i, i < 16 → bxor (vkText.getD (16 + i) 0) ([13, 250, 215, 86, 199, 191, 114, 161, 128, 24, 140, 9, 144, 252, 41, 218].getD i 0) = vkX.getD (16 + i) 0 := by decide +kernel

theorem vk_hidden : ctrX vkKey vkN3 vkText = vkX := by
  refine ext_getD _ _ (by rw [ctrX_length]; rfl) fun i hi => ?_
  rw [ctrX_length] at hi
  rw [ctrX_get _ _ _ _ hi]
  have h32 : i < 32 := hi
  by_cases h16 : i < 16
  · have e : i = 0 + i := by omega
    rw [e, vk_x0 i h16, vk_lo i h16]
  · obtain ⟨j, rfl⟩ : ∃ j, i = 16 + j := ⟨i - 16, by omega⟩
    rw [vk_x1 j (by omega), vk_hi j (by omega)]

theorem vk_tag3 : stag vkKey vkN3 vkC3 vkX = [8, 206, 240, 108, 85, 27, 1, 138, 119, 108, 80, 208, 57, 159, 143, 149] := by decide +kernel
theorem vk_tag4 : stag vkKey vkN4 vkC4 vkX = [184, 241, 92, 143, 203, 75, 150, 168, 245, 250, 183, 19, 251, 36, 204, 181] := by decide +kernel

theorem vk_wrapped : vwText vkSec vkG 3 vkText = sealOf vkKey vkN3 vkC3 vkText := by
  unfold vwText
  rw [if_pos (by decide), vkC3_eq, vkKey_eq, vkN3_eq]

theorem vk_err : vwErr vkSec vkG 3 vkText = 0 := if_pos (by decide)

/-- another epoch does not open it -/
theorem vk_shut : vuErr vkSec vkG 4 (vwText vkSec vkG 3 vkText) = 14 := by
  rw [vk_wrapped]
  unfold vuErr
  have hl : (sealOf vkKey vkN3 vkC3 vkText).length = 48 := by rw [sealOf_length]; rfl
  rw [if_pos ⟨by decide, by decide, hl⟩, vkC4_eq, vkKey_eq, vkN4_eq]
  unfold openErr
  rw [if_neg (by rw [hl]; omega), if_neg ?_]
  unfold rightTag
  rw [sealOf_take, sealOf_drop, vk_hidden, vk_tag3, vk_tag4]
  decide +kernel

end Go.Proofs.YtgfljldegodpgaaDoor
