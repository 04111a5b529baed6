/-
  The reference's tables of layer 5, as plain lists.
-/
import Derived.Test.YtapoelmhnbgidaaAesSpec
namespace Go.Proofs.Ytapoelmhnbgidaa
set_option linter.unusedVariables false
set_option linter.unusedSimpArgs false

def logTab : List UInt8 := [0, 0, 25, 1, 50, 2, 26, 198, 75, 199, 27, 104, 51, 238, 223, 3, 100, 4, 224, 14, 52, 141, 129, 239, 76, 113, 8, 200, 248, 105, 28, 193, 125, 194, 29, 181, 249, 185, 39, 106, 77, 228, 166, 114, 154, 201, 9, 120, 101, 47, 138, 5, 33, 15, 225, 36, 18, 240, 130, 69, 53, 147, 218, 142, 150, 143, 219, 189, 54, 208, 206, 148, 19, 92, 210, 241, 64, 70, 131, 56, 102, 221, 253, 48, 191, 6, 139, 98, 179, 37, 226, 152, 34, 136, 145, 16, 126, 110, 72, 195, 163, 182, 30, 66, 58, 107, 40, 84, 250, 133, 61, 186, 43, 121, 10, 21, 155, 159, 94, 202, 78, 212, 172, 229, 243, 115, 167, 87, 175, 88, 168, 80, 244, 234, 214, 116, 79, 174, 233, 213, 231, 230, 173, 232, 44, 215, 117, 122, 235, 22, 11, 245, 89, 203, 95, 176, 156, 169, 81, 160, 127, 12, 246, 111, 23, 196, 73, 236, 216, 67, 31, 45, 164, 118, 123, 183, 204, 187, 62, 90, 251, 96, 177, 134, 59, 82, 161, 108, 170, 85, 41, 157, 151, 178, 135, 144, 97, 190, 220, 252, 188, 149, 207, 205, 55, 63, 91, 209, 83, 57, 132, 60, 65, 162, 109, 71, 20, 42, 158, 93, 86, 242, 211, 171, 68, 17, 146, 217, 35, 32, 46, 137, 180, 124, 184, 38, 119, 153, 227, 165, 103, 74, 237, 222, 197, 49, 254, 24, 13, 99, 140, 128, 192, 247, 112, 7]

def logTo : Nat → List UInt8
  | 0 => List.replicate 256 0
  | i + 1 => (logTo i).set (pow3 i).toNat (UInt8.ofNat i)

theorem logTo_length (i : Nat) : (logTo i).length = 256 := by
  induction i with
  | zero => exact List.length_replicate
  | succ i ih => unfold logTo; rw [List.length_set, ih]

theorem logTo_all : logTo 255 = logTab := by decide +kernel
theorem logTab_lt : ∀ c, c < 256 → (logTab.getD c 0).toNat ≤ 254 := by decide +kernel
theorem logTab_inv : ∀ c, c < 256 → c ≠ 0 → pow3 ((255 - (logTab.getD c 0).toNat) % 255) = ginv (UInt8.ofNat c) := by decide +kernel

/-- turned left, one bit at a time -/
def rots (b : UInt8) : Nat → UInt8
  | 0 => b
  | k + 1 => UInt8.ofNat (((rots b k).toNat * 2 + (rots b k).toNat / 128) % 256)

def yTo (b : UInt8) : Nat → UInt8
  | 0 => bxor 99 b
  | k + 1 => bxor (yTo b k) (rots b (k + 1))

theorem yTo_box (c : UInt8) : yTo (ginv c) 4 = gbox c := by
  refine forall_u8 (P := fun c => yTo (ginv c) 4 = gbox c) ?_ c
  decide +kernel

theorem boxes_all : fillTo (fun n => gbox (UInt8.ofNat n)) (List.replicate 256 0) 256 = boxTab := by decide +kernel

end Go.Proofs.Ytapoelmhnbgidaa
