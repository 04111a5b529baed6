/-
  What engrosserlaw06.awake needs of values: AES of the zero block by the zero key, the two tags. Written by bin/gen_wake.py.
-/
import Derived.Test.YtgbgdbfiplmciaaDoorSealA
namespace Go.Proofs.YtgbgdbfiplmciaaDoor
set_option linter.unusedVariables false
set_option linter.unusedSimpArgs false
open Go.RowKit

def zed16 : List UInt8 := [0, 0, 0, 0, 0, 0, 0, 0, 0, 0, 0, 0, 0, 0, 0, 0]
def zed48 : List UInt8 := List.replicate 48 0
def zedKey : List UInt8 := zed48.set 47 1
def hello : List UInt8 := [104, 101, 108, 108, 111]

theorem zedRk0 : rk zed16 0 = [0, 0, 0, 0, 0, 0, 0, 0, 0, 0, 0, 0, 0, 0, 0, 0] := rfl
theorem zedPw0 : dbls 1 0 = 1 := by decide +kernel
theorem zedRk1 : rk zed16 1 = [98, 99, 99, 99, 98, 99, 99, 99, 98, 99, 99, 99, 98, 99, 99, 99] := by
  rw [rk, zedRk0, zedPw0]; decide +kernel
theorem zedPw1 : dbls 1 1 = 2 := by decide +kernel
theorem zedRk2 : rk zed16 2 = [155, 152, 152, 201, 249, 251, 251, 170, 155, 152, 152, 201, 249, 251, 251, 170] := by
  rw [rk, zedRk1, zedPw1]; decide +kernel
theorem zedPw2 : dbls 1 2 = 4 := by decide +kernel
theorem zedRk3 : rk zed16 3 = [144, 151, 52, 80, 105, 108, 207, 250, 242, 244, 87, 51, 11, 15, 172, 153] := by
  rw [rk, zedRk2, zedPw2]; decide +kernel
theorem zedPw3 : dbls 1 3 = 8 := by decide +kernel
theorem zedRk4 : rk zed16 4 = [238, 6, 218, 123, 135, 106, 21, 129, 117, 158, 66, 178, 126, 145, 238, 43] := by
  rw [rk, zedRk3, zedPw3]; decide +kernel
theorem zedPw4 : dbls 1 4 = 16 := by decide +kernel
theorem zedRk5 : rk zed16 5 = [127, 46, 43, 136, 248, 68, 62, 9, 141, 218, 124, 187, 243, 75, 146, 144] := by
  rw [rk, zedRk4, zedPw4]; decide +kernel
theorem zedPw5 : dbls 1 5 = 32 := by decide +kernel
theorem zedRk6 : rk zed16 6 = [236, 97, 75, 133, 20, 37, 117, 140, 153, 255, 9, 55, 106, 180, 155, 167] := by
  rw [rk, zedRk5, zedPw5]; decide +kernel
theorem zedPw6 : dbls 1 6 = 64 := by decide +kernel
theorem zedRk7 : rk zed16 7 = [33, 117, 23, 135, 53, 80, 98, 11, 172, 175, 107, 60, 198, 27, 240, 155] := by
  rw [rk, zedRk6, zedPw6]; decide +kernel
theorem zedPw7 : dbls 1 7 = 128 := by decide +kernel
theorem zedRk8 : rk zed16 8 = [14, 249, 3, 51, 59, 169, 97, 56, 151, 6, 10, 4, 81, 29, 250, 159] := by
  rw [rk, zedRk7, zedPw7]; decide +kernel
theorem zedPw8 : dbls 1 8 = 27 := by decide +kernel
theorem zedRk9 : rk zed16 9 = [177, 212, 216, 226, 138, 125, 185, 218, 29, 123, 179, 222, 76, 102, 73, 65] := by
  rw [rk, zedRk8, zedPw8]; decide +kernel
theorem zedPw9 : dbls 1 9 = 54 := by decide +kernel
theorem zedRk10 : rk zed16 10 = [180, 239, 91, 203, 62, 146, 226, 17, 35, 233, 81, 207, 111, 143, 24, 142] := by
  rw [rk, zedRk9, zedPw9]; decide +kernel
theorem zedEnc0 : enc zed16 zed16 0 = [0, 0, 0, 0, 0, 0, 0, 0, 0, 0, 0, 0, 0, 0, 0, 0] := by decide +kernel
theorem zedEnc1 : enc zed16 zed16 1 = [1, 0, 0, 0, 1, 0, 0, 0, 1, 0, 0, 0, 1, 0, 0, 0] := by
  rw [enc, zedEnc0, zedRk1]; decide +kernel
theorem zedEnc2 : enc zed16 zed16 2 = [198, 228, 228, 139, 164, 135, 135, 232, 198, 228, 228, 139, 164, 135, 135, 232] := by
  rw [enc, zedEnc1, zedRk2]; decide +kernel
theorem zedEnc3 : enc zed16 zed16 3 = [40, 45, 243, 196, 106, 243, 134, 37, 74, 78, 144, 167, 8, 144, 229, 70] := by
  rw [enc, zedEnc2, zedRk3]; decide +kernel
theorem zedEnc4 : enc zed16 zed16 4 = [171, 210, 205, 254, 55, 90, 181, 73, 80, 160, 175, 192, 117, 154, 106, 95] := by
  rw [enc, zedEnc3, zedRk4]; decide +kernel
theorem zedEnc5 : enc zed16 zed16 5 = [212, 111, 79, 108, 85, 184, 150, 51, 126, 5, 187, 61, 121, 121, 222, 35] := by
  rw [enc, zedEnc4, zedRk5]; decide +kernel
theorem zedEnc6 : enc zed16 zed16 6 = [4, 242, 202, 151, 7, 120, 40, 69, 226, 47, 1, 150, 73, 197, 215, 16] := by
  rw [enc, zedEnc5, zedRk6]; decide +kernel
theorem zedEnc7 : enc zed16 zed16 7 = [183, 170, 228, 197, 29, 37, 45, 79, 108, 146, 15, 129, 148, 229, 129, 80] := by
  rw [enc, zedEnc6, zedRk7]; decide +kernel
theorem zedEnc8 : enc zed16 zed16 8 = [35, 231, 140, 60, 19, 33, 99, 219, 170, 192, 198, 87, 46, 3, 203, 149] := by
  rw [enc, zedEnc7, zedRk8]; decide +kernel
theorem zedEnc9 : enc zed16 zed16 9 = [127, 254, 14, 149, 81, 165, 102, 53, 14, 52, 124, 71, 41, 41, 236, 203] := by
  rw [enc, zedEnc8, zedRk9]; decide +kernel
theorem zedEnc10 : enc zed16 zed16 10 = [102, 233, 75, 212, 239, 138, 44, 59, 136, 76, 250, 89, 202, 52, 43, 46] := by
  rw [enc, zedEnc9, zedRk10]; decide +kernel

theorem zed_pad : padB zed48 zed16 0 = [102, 233, 75, 212, 239, 138, 44, 59, 136, 76, 250, 89, 202, 52, 43, 46] := by
  unfold padB
  rw [show zed48.take 16 = zed16 by decide +kernel, show ctrB zed16 0 = zed16 by decide +kernel, zedEnc10]

theorem zed_x (i : Nat) (h : i < 16) : xAt zed48 zed16 hello i = bxor (hello.getD i 0) ([102, 233, 75, 212, 239, 138, 44, 59, 136, 76, 250, 89, 202, 52, 43, 46].getD i 0) := by
  unfold xAt padAt
  rw [show i / 16 = 0 by omega, zed_pad, show i % 16 = i by omega]

theorem zed_hidden : ctrX zed48 zed16 hello = [14, 140, 39, 184, 128] := by
  refine ext_getD _ _ (by rw [ctrX_length]; rfl) fun i hi => ?_
  rw [ctrX_length] at hi
  rw [ctrX_get _ _ _ _ hi]
  have h5 : i < 5 := hi
  rw [zed_x i (by omega)]
  have : i = 0 ∨ i = 1 ∨ i = 2 ∨ i = 3 ∨ i = 4 := by omega
  rcases this with rfl | rfl | rfl | rfl | rfl <;> decide +kernel

theorem zed_tag : stag zed48 zed16 [] [14, 140, 39, 184, 128] = [77, 186, 72, 253, 167, 184, 173, 162, 35, 199, 69, 102, 251, 129, 148, 238] := by decide +kernel
theorem zed_tag2 : stag zedKey zed16 [] [14, 140, 39, 184, 128] = [234, 21, 124, 21, 37, 225, 56, 121, 132, 14, 174, 136, 102, 249, 107, 222] := by decide +kernel

/-- another key does not open it -/
theorem zed_shut : openErr zedKey zed16 [] (sealOf zed48 zed16 [] hello) = 14 := by
  unfold openErr
  rw [if_neg (by rw [sealOf_length]; omega), if_neg ?_]
  unfold rightTag
  rw [sealOf_take, sealOf_drop, zed_hidden, zed_tag, zed_tag2]
  decide +kernel

end Go.Proofs.YtgbgdbfiplmciaaDoor
