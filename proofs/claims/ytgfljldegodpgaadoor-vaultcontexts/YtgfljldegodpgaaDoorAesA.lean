/-
  AES-128 as plain functions over bytes: products, inverses, the S-box; what both the program and the reference compute.
  aes: doubled, Mul, boxed, boxes, Box.
  aes: added, replaced, rotated, mixed, next.
  aes: mixed, next.
  aes: Block.
-/
import Derived.Test.YtgfljldegodpgaaDoorBase
import Derived.Test.YtgfljldegodpgaaDoorProg
import Derived.KernelRfl
import Derived.Deep.QuietTactic
import Derived.BigQuiet
import Derived.IntWalk
import Derived.StillTailTactics
import Derived.Laws.Rows
import Derived.Laws.Slices
import Derived.Deep.Cut
namespace Go.Proofs.YtgfljldegodpgaaDoor
set_option linter.unusedVariables false
set_option linter.unusedSimpArgs false

theorem forall_u8 {P : UInt8 → Prop} (h : ∀ n, n < 256 → P (UInt8.ofNat n)) (a : UInt8) : P a := by
  have := h a.toNat (u8_lt a)
  rwa [UInt8.ofNat_toNat] at this

theorem bxor_comm (a b : UInt8) : bxor a b = bxor b a := UInt8.xor_comm a b
theorem bxor_assoc (a b c : UInt8) : bxor (bxor a b) c = bxor a (bxor b c) := UInt8.xor_assoc a b c
theorem bxor_left_comm (a b c : UInt8) : bxor a (bxor b c) = bxor b (bxor a c) := by rw [← bxor_assoc, bxor_comm a b, bxor_assoc]
theorem bxor_self (a : UInt8) : bxor a a = 0 := UInt8.xor_self
theorem bxor_0 (a : UInt8) : bxor a 0 = a := UInt8.xor_zero
theorem bxor_0' (a : UInt8) : bxor 0 a = a := UInt8.zero_xor
theorem bxor_cancel (a b : UInt8) : bxor a (bxor a b) = b := by rw [← bxor_assoc, bxor_self, bxor_0']
theorem bxor_inj (a b c : UInt8) (h : bxor a c = bxor b c) : a = b := by
  have := congrArg (fun x => bxor c x) h
  simp only [bxor_comm _ c, bxor_cancel] at this
  exact this

/-- the product of c and x -/
def dbl (c : UInt8) : UInt8 := ⟨(c.toBitVec <<< 1) ^^^ (if c.toBitVec.msb then 27#8 else 0#8)⟩

theorem dbl_lt : ∀ c : UInt8, c.toNat < 128 → dbl c = UInt8.ofNat (c.toNat * 2) := by
  intro c
  refine forall_u8 (P := fun c => c.toNat < 128 → dbl c = UInt8.ofNat (c.toNat * 2)) ?_ c
  decide +kernel

theorem dbl_ge : ∀ c : UInt8, ¬ c.toNat < 128 → dbl c = bxor (UInt8.ofNat (c.toNat * 2 - 256)) 27 := by
  intro c
  refine forall_u8 (P := fun c => ¬ c.toNat < 128 → dbl c = bxor (UInt8.ofNat (c.toNat * 2 - 256)) 27) ?_ c
  decide +kernel

theorem bv_xor4 (a b c d : BitVec 8) : (a ^^^ b) ^^^ (c ^^^ d) = (a ^^^ c) ^^^ (b ^^^ d) := by
  rw [BitVec.xor_assoc, BitVec.xor_assoc, ← BitVec.xor_assoc b, BitVec.xor_comm b c, BitVec.xor_assoc]

theorem dbl_xor (a b : UInt8) : dbl (bxor a b) = bxor (dbl a) (dbl b) := by
  unfold dbl bxor
  apply UInt8.eq_of_toBitVec_eq
  simp only [UInt8.toBitVec_xor, BitVec.msb_xor, BitVec.shiftLeft_xor_distrib]
  rw [bv_xor4]
  congr 1
  cases a.toBitVec.msb <;> cases b.toBitVec.msb <;> decide

/-- the product of a and x, k times -/
def dbls (a : UInt8) : Nat → UInt8
  | 0 => a
  | k + 1 => dbl (dbls a k)

/-- the products by the last k bits of b -/
def mulTo (a b : UInt8) : Nat → UInt8
  | 0 => 0
  | k + 1 => if b.toNat / 2 ^ k % 2 = 1 then bxor (mulTo a b k) (dbls a k) else mulTo a b k

/-- a product -/
def gmul (a b : UInt8) : UInt8 := mulTo a b 8

theorem dbls_xor (a b : UInt8) (k : Nat) : dbls (bxor a b) k = bxor (dbls a k) (dbls b k) := by
  induction k with
  | zero => rfl
  | succ k ih => unfold dbls; rw [ih, dbl_xor]

theorem bxor4 (a b c d : UInt8) : bxor (bxor a b) (bxor c d) = bxor (bxor a c) (bxor b d) := by
  rw [bxor_assoc, bxor_assoc, bxor_left_comm b c d]

theorem mulTo_xor (a a' b : UInt8) (k : Nat) : mulTo (bxor a a') b k = bxor (mulTo a b k) (mulTo a' b k) := by
  induction k with
  | zero => exact (bxor_self 0).symm
  | succ k ih =>
    unfold mulTo
    split
    · rw [ih, dbls_xor, bxor4]
    · exact ih

theorem bit_xor (a b k : Nat) : (a ^^^ b) / 2 ^ k % 2 = (a / 2 ^ k % 2 + b / 2 ^ k % 2) % 2 := by
  have h := Nat.testBit_xor a b k
  simp only [Nat.testBit_eq_decide_div_mod_eq] at h
  have e1 := Nat.mod_two_eq_zero_or_one ((a ^^^ b) / 2 ^ k)
  have e2 := Nat.mod_two_eq_zero_or_one (a / 2 ^ k)
  have e3 := Nat.mod_two_eq_zero_or_one (b / 2 ^ k)
  rcases e1 with e1 | e1 <;> rcases e2 with e2 | e2 <;> rcases e3 with e3 | e3 <;> rw [e1, e2, e3] at h ⊢ <;> simp at h

theorem mulTo_xor' (a b b' : UInt8) (k : Nat) : mulTo a (bxor b b') k = bxor (mulTo a b k) (mulTo a b' k) := by
  induction k with
  | zero => exact (bxor_self 0).symm
  | succ k ih =>
    have hb : (bxor b b').toNat / 2 ^ k % 2 = (b.toNat / 2 ^ k % 2 + b'.toNat / 2 ^ k % 2) % 2 := by
      unfold bxor; rw [UInt8.toNat_xor, bit_xor]
    unfold mulTo
    rw [hb, ih]
    have e2 := Nat.mod_two_eq_zero_or_one (b.toNat / 2 ^ k)
    have e3 := Nat.mod_two_eq_zero_or_one (b'.toNat / 2 ^ k)
    rcases e2 with e2 | e2 <;> rcases e3 with e3 | e3 <;> rw [e2, e3] <;> simp only [Nat.add_zero, Nat.zero_add, Nat.reduceAdd, Nat.reduceMod, if_true, if_false, Nat.zero_ne_one, reduceCtorEq]
    · rw [bxor_assoc]
    · rw [bxor_assoc, bxor_comm (mulTo a b' k), ← bxor_assoc]
    · rw [bxor4, bxor_self, bxor_0]

theorem gmul_xor (a a' b : UInt8) : gmul (bxor a a') b = bxor (gmul a b) (gmul a' b) := mulTo_xor a a' b 8
theorem gmul_xor' (a b b' : UInt8) : gmul a (bxor b b') = bxor (gmul a b) (gmul a b') := mulTo_xor' a b b' 8

/-- what holds of the eight bits and of sums holds of all bytes -/
theorem byte_ind {P : UInt8 → Prop} (h0 : P 0) (h1 : ∀ i, i < 8 → P (UInt8.ofNat (2 ^ i))) (h2 : ∀ a b, P a → P b → P (bxor a b)) (a : UInt8) : P a := by
  have key : ∀ n, n < 256 → UInt8.ofNat n = (List.range 8).foldl (fun x i => if n / 2 ^ i % 2 = 1 then bxor x (UInt8.ofNat (2 ^ i)) else x) 0 := by decide +kernel
  have fold : ∀ (n : Nat) (l : List Nat) (x : UInt8), (∀ i ∈ l, i < 8) → P x → P (l.foldl (fun x i => if n / 2 ^ i % 2 = 1 then bxor x (UInt8.ofNat (2 ^ i)) else x) x) := by
    intro n l
    induction l with
    | nil => intro x _ hx; exact hx
    | cons i l ih =>
      intro x hl hx
      rw [List.foldl_cons]
      apply ih _ (fun j hj => hl j (List.mem_cons_of_mem _ hj))
      split
      · exact h2 _ _ hx (h1 i (hl i List.mem_cons_self))
      · exact hx
  refine forall_u8 (fun n hn => ?_) a
  rw [key n hn]
  exact fold n _ _ (fun i hi => by simpa using hi) h0

theorem gmul_0 (a : UInt8) : gmul a 0 = 0 := by
  refine forall_u8 (P := fun a => gmul a 0 = 0) ?_ a
  decide +kernel
theorem gmul_0' (a : UInt8) : gmul 0 a = 0 := by
  refine forall_u8 (P := fun a => gmul 0 a = 0) ?_ a
  decide +kernel
theorem gmul_1 (a : UInt8) : gmul a 1 = a := by
  refine forall_u8 (P := fun a => gmul a 1 = a) ?_ a
  decide +kernel
theorem gmul_2 (a : UInt8) : gmul a 2 = dbl a := by
  refine forall_u8 (P := fun a => gmul a 2 = dbl a) ?_ a
  decide +kernel
theorem gmul_3 (a : UInt8) : gmul a 3 = bxor (dbl a) a := by
  refine forall_u8 (P := fun a => gmul a 3 = bxor (dbl a) a) ?_ a
  decide +kernel

theorem gmul_comm (a b : UInt8) : gmul a b = gmul b a := by
  refine byte_ind (P := fun a => ∀ b, gmul a b = gmul b a) (fun b => by rw [gmul_0, gmul_0']) (fun i hi b => ?_) (fun a a' h h' b => by rw [gmul_xor, gmul_xor', h, h']) a b
  refine byte_ind (P := fun b => gmul (UInt8.ofNat (2 ^ i)) b = gmul b (UInt8.ofNat (2 ^ i))) (by rw [gmul_0, gmul_0']) (fun j hj => ?_) (fun b b' h h' => by rw [gmul_xor, gmul_xor', h, h']) b
  have : ∀ i, i < 8 → ∀ j, j < 8 → gmul (UInt8.ofNat (2 ^ i)) (UInt8.ofNat (2 ^ j)) = gmul (UInt8.ofNat (2 ^ j)) (UInt8.ofNat (2 ^ i)) := by decide +kernel
  exact this i hi j hj

theorem gmul_assoc (a b c : UInt8) : gmul a (gmul b c) = gmul (gmul a b) c := by
  refine byte_ind (P := fun a => ∀ b c, gmul a (gmul b c) = gmul (gmul a b) c) (fun b c => by rw [gmul_0', gmul_0', gmul_0']) (fun i hi b c => ?_) (fun a a' h h' b c => by rw [gmul_xor, gmul_xor, gmul_xor, h, h']) a b c
  refine byte_ind (P := fun b => ∀ c, gmul (UInt8.ofNat (2 ^ i)) (gmul b c) = gmul (gmul (UInt8.ofNat (2 ^ i)) b) c) (fun c => by rw [gmul_0', gmul_0, gmul_0']) (fun j hj c => ?_) (fun b b' h h' c => by rw [gmul_xor, gmul_xor', gmul_xor', gmul_xor, h, h']) b c
  refine byte_ind (P := fun c => gmul (UInt8.ofNat (2 ^ i)) (gmul (UInt8.ofNat (2 ^ j)) c) = gmul (gmul (UInt8.ofNat (2 ^ i)) (UInt8.ofNat (2 ^ j))) c) (by rw [gmul_0, gmul_0, gmul_0]) (fun k hk => ?_) (fun c c' h h' => by rw [gmul_xor', gmul_xor', gmul_xor', h, h']) c
  have : ∀ i, i < 8 → ∀ j, j < 8 → ∀ k, k < 8 → gmul (UInt8.ofNat (2 ^ i)) (gmul (UInt8.ofNat (2 ^ j)) (UInt8.ofNat (2 ^ k))) = gmul (gmul (UInt8.ofNat (2 ^ i)) (UInt8.ofNat (2 ^ j))) (UInt8.ofNat (2 ^ k)) := by decide +kernel
  exact this i hi j hj k hk

/-- inverses; 0 for 0 -/
def invTab : List UInt8 := [0, 1, 141, 246, 203, 82, 123, 209, 232, 79, 41, 192, 176, 225, 229, 199, 116, 180, 170, 75, 153, 43, 96, 95, 88, 63, 253, 204, 255, 64, 238, 178, 58, 110, 90, 241, 85, 77, 168, 201, 193, 10, 152, 21, 48, 68, 162, 194, 44, 69, 146, 108, 243, 57, 102, 66, 242, 53, 32, 111, 119, 187, 89, 25, 29, 254, 55, 103, 45, 49, 245, 105, 167, 100, 171, 19, 84, 37, 233, 9, 237, 92, 5, 202, 76, 36, 135, 191, 24, 62, 34, 240, 81, 236, 97, 23, 22, 94, 175, 211, 73, 166, 54, 67, 244, 71, 145, 223, 51, 147, 33, 59, 121, 183, 151, 133, 16, 181, 186, 60, 182, 112, 208, 6, 161, 250, 129, 130, 131, 126, 127, 128, 150, 115, 190, 86, 155, 158, 149, 217, 247, 2, 185, 164, 222, 106, 50, 109, 216, 138, 132, 114, 42, 20, 159, 136, 249, 220, 137, 154, 251, 124, 46, 195, 143, 184, 101, 72, 38, 200, 18, 74, 206, 231, 210, 98, 12, 224, 31, 239, 17, 117, 120, 113, 165, 142, 118, 61, 189, 188, 134, 87, 11, 40, 47, 163, 218, 212, 228, 15, 169, 39, 83, 4, 27, 252, 172, 230, 122, 7, 174, 99, 197, 219, 226, 234, 148, 139, 196, 213, 157, 248, 144, 107, 177, 13, 214, 235, 198, 14, 207, 173, 8, 78, 215, 227, 93, 80, 30, 179, 91, 35, 56, 52, 104, 70, 3, 140, 221, 156, 125, 160, 205, 26, 65, 28]
def ginv (c : UInt8) : UInt8 := invTab.getD c.toNat 0

theorem gmul_inv (a : UInt8) (h : a ≠ 0) : gmul a (ginv a) = 1 := by
  refine forall_u8 (P := fun a => a ≠ 0 → gmul a (ginv a) = 1) ?_ a h
  decide +kernel

/-- the inverse is the one byte whose product is 1 -/
theorem gmul_eq_1 (a i : UInt8) (h : a ≠ 0) : gmul a i = 1 ↔ i = ginv a := by
  constructor
  · intro hi
    have e1 : i = gmul (gmul (ginv a) a) i := by rw [gmul_comm (ginv a), gmul_inv a h, gmul_comm, gmul_1]
    rw [← gmul_assoc, hi, gmul_1] at e1
    exact e1
  · rintro rfl; exact gmul_inv a h

theorem ginv_ne (a : UInt8) (h : a ≠ 0) : ginv a ≠ 0 := by
  intro h0
  have := gmul_inv a h
  rw [h0, gmul_0] at this
  exact absurd this (by decide)

theorem ginv_0 : ginv 0 = 0 := by decide +kernel

/-- turned left by n bits -/
def rotl8 (b : UInt8) (n : Nat) : UInt8 := UInt8.ofNat (b.toNat * 2 ^ n % 256 ||| b.toNat / 2 ^ (8 - n))

/-- the S-box value of the byte whose inverse is b, n turns taken in -/
def boxedTo (b : UInt8) : Nat → UInt8
  | 0 => bxor b 99
  | n + 1 => bxor (boxedTo b n) (rotl8 b (n + 1))

def boxTab : List UInt8 := [99, 124, 119, 123, 242, 107, 111, 197, 48, 1, 103, 43, 254, 215, 171, 118, 202, 130, 201, 125, 250, 89, 71, 240, 173, 212, 162, 175, 156, 164, 114, 192, 183, 253, 147, 38, 54, 63, 247, 204, 52, 165, 229, 241, 113, 216, 49, 21, 4, 199, 35, 195, 24, 150, 5, 154, 7, 18, 128, 226, 235, 39, 178, 117, 9, 131, 44, 26, 27, 110, 90, 160, 82, 59, 214, 179, 41, 227, 47, 132, 83, 209, 0, 237, 32, 252, 177, 91, 106, 203, 190, 57, 74, 76, 88, 207, 208, 239, 170, 251, 67, 77, 51, 133, 69, 249, 2, 127, 80, 60, 159, 168, 81, 163, 64, 143, 146, 157, 56, 245, 188, 182, 218, 33, 16, 255, 243, 210, 205, 12, 19, 236, 95, 151, 68, 23, 196, 167, 126, 61, 100, 93, 25, 115, 96, 129, 79, 220, 34, 42, 144, 136, 70, 238, 184, 20, 222, 94, 11, 219, 224, 50, 58, 10, 73, 6, 36, 92, 194, 211, 172, 98, 145, 149, 228, 121, 231, 200, 55, 109, 141, 213, 78, 169, 108, 86, 244, 234, 101, 122, 174, 8, 186, 120, 37, 46, 28, 166, 180, 198, 232, 221, 116, 31, 75, 189, 139, 138, 112, 62, 181, 102, 72, 3, 246, 14, 97, 53, 87, 185, 134, 193, 29, 158, 225, 248, 152, 17, 105, 217, 142, 148, 155, 30, 135, 233, 206, 85, 40, 223, 140, 161, 137, 13, 191, 230, 66, 104, 65, 153, 45, 15, 176, 84, 187, 22]
/-- the S-box value -/
def gbox (c : UInt8) : UInt8 := boxTab.getD c.toNat 0
def unboxTab : List UInt8 := [82, 9, 106, 213, 48, 54, 165, 56, 191, 64, 163, 158, 129, 243, 215, 251, 124, 227, 57, 130, 155, 47, 255, 135, 52, 142, 67, 68, 196, 222, 233, 203, 84, 123, 148, 50, 166, 194, 35, 61, 238, 76, 149, 11, 66, 250, 195, 78, 8, 46, 161, 102, 40, 217, 36, 178, 118, 91, 162, 73, 109, 139, 209, 37, 114, 248, 246, 100, 134, 104, 152, 22, 212, 164, 92, 204, 93, 101, 182, 146, 108, 112, 72, 80, 253, 237, 185, 218, 94, 21, 70, 87, 167, 141, 157, 132, 144, 216, 171, 0, 140, 188, 211, 10, 247, 228, 88, 5, 184, 179, 69, 6, 208, 44, 30, 143, 202, 63, 15, 2, 193, 175, 189, 3, 1, 19, 138, 107, 58, 145, 17, 65, 79, 103, 220, 234, 151, 242, 207, 206, 240, 180, 230, 115, 150, 172, 116, 34, 231, 173, 53, 133, 226, 249, 55, 232, 28, 117, 223, 110, 71, 241, 26, 113, 29, 41, 197, 137, 111, 183, 98, 14, 170, 24, 190, 27, 252, 86, 62, 75, 198, 210, 121, 32, 154, 219, 192, 254, 120, 205, 90, 244, 31, 221, 168, 51, 136, 7, 199, 49, 177, 18, 16, 89, 39, 128, 236, 95, 96, 81, 127, 169, 25, 181, 74, 13, 45, 229, 122, 159, 147, 201, 156, 239, 160, 224, 59, 77, 174, 42, 245, 176, 200, 235, 187, 60, 131, 83, 153, 97, 23, 43, 4, 126, 186, 119, 214, 38, 225, 105, 20, 99, 85, 33, 12, 125]
def gunbox (c : UInt8) : UInt8 := unboxTab.getD c.toNat 0

theorem boxTab_length : boxTab.length = 256 := by decide +kernel

theorem gbox_eq (c : UInt8) : gbox c = boxedTo (ginv c) 4 := by
  refine forall_u8 (P := fun c => gbox c = boxedTo (ginv c) 4) ?_ c
  decide +kernel

theorem gunbox_box (c : UInt8) : gunbox (gbox c) = c := by
  refine forall_u8 (P := fun c => gunbox (gbox c) = c) ?_ c
  decide +kernel

theorem gbox_inj (a b : UInt8) : gbox a = gbox b ↔ a = b :=
  ⟨fun h => by rw [← gunbox_box a, h, gunbox_box], fun h => by rw [h]⟩

/-- the powers of 3 -/
def powTab : List UInt8 := [1, 3, 5, 15, 17, 51, 85, 255, 26, 46, 114, 150, 161, 248, 19, 53, 95, 225, 56, 72, 216, 115, 149, 164, 247, 2, 6, 10, 30, 34, 102, 170, 229, 52, 92, 228, 55, 89, 235, 38, 106, 190, 217, 112, 144, 171, 230, 49, 83, 245, 4, 12, 20, 60, 68, 204, 79, 209, 104, 184, 211, 110, 178, 205, 76, 212, 103, 169, 224, 59, 77, 215, 98, 166, 241, 8, 24, 40, 120, 136, 131, 158, 185, 208, 107, 189, 220, 127, 129, 152, 179, 206, 73, 219, 118, 154, 181, 196, 87, 249, 16, 48, 80, 240, 11, 29, 39, 105, 187, 214, 97, 163, 254, 25, 43, 125, 135, 146, 173, 236, 47, 113, 147, 174, 233, 32, 96, 160, 251, 22, 58, 78, 210, 109, 183, 194, 93, 231, 50, 86, 250, 21, 63, 65, 195, 94, 226, 61, 71, 201, 64, 192, 91, 237, 44, 116, 156, 191, 218, 117, 159, 186, 213, 100, 172, 239, 42, 126, 130, 157, 188, 223, 122, 142, 137, 128, 155, 182, 193, 88, 232, 35, 101, 175, 234, 37, 111, 177, 200, 67, 197, 84, 252, 31, 33, 99, 165, 244, 7, 9, 27, 45, 119, 153, 176, 203, 70, 202, 69, 207, 74, 222, 121, 139, 134, 145, 168, 227, 62, 66, 198, 81, 243, 14, 18, 54, 90, 238, 41, 123, 141, 140, 143, 138, 133, 148, 167, 242, 13, 23, 57, 75, 221, 124, 132, 151, 162, 253, 28, 36, 108, 180, 199, 82, 246, 1]
def pow3 (k : Nat) : UInt8 := powTab.getD k 0

theorem pow3_succ : ∀ k, k < 255 → pow3 (k + 1) = bxor (pow3 k) (dbl (pow3 k)) := by decide +kernel
theorem pow3_gmul (k : Nat) (h : k < 255) : pow3 (k + 1) = gmul (pow3 k) 3 := by rw [gmul_3, bxor_comm, pow3_succ k h]

/-- l, whose first n places are filled -/
def fillTo (f : Nat → UInt8) (l : List UInt8) : Nat → List UInt8
  | 0 => l
  | n + 1 => (fillTo f l n).set n (f n)

theorem fillTo_length (f : Nat → UInt8) (l : List UInt8) (n : Nat) : (fillTo f l n).length = l.length := by
  induction n with
  | zero => rfl
  | succ n ih => unfold fillTo; rw [List.length_set, ih]

theorem fillTo_ge (f : Nat → UInt8) (l : List UInt8) (n i : Nat) (h : n ≤ i) : (fillTo f l n).getD i 0 = l.getD i 0 := by
  induction n with
  | zero => rfl
  | succ n ih =>
    unfold fillTo
    rw [List.getD_eq_getElem?_getD, List.getElem?_set_ne (by omega), ← List.getD_eq_getElem?_getD]
    exact ih (by omega)

theorem fillTo_lt (f : Nat → UInt8) (l : List UInt8) (n i : Nat) (h : i < n) (hi : i < l.length) : (fillTo f l n).getD i 0 = f i := by
  induction n with
  | zero => omega
  | succ n ih =>
    unfold fillTo
    by_cases e : i = n
    · subst e
      rw [List.getD_eq_getElem?_getD, List.getElem?_set_self (by rw [fillTo_length]; exact hi)]
      rfl
    · rw [List.getD_eq_getElem?_getD, List.getElem?_set_ne (by omega), ← List.getD_eq_getElem?_getD]
      exact ih (by omega)

/-- the table, with k powers' values -/
def tabTo : Nat → List UInt8
  | 0 => (List.replicate 256 0).set 0 (boxedTo 0 4)
  | k + 1 => (tabTo k).set (pow3 k).toNat (boxedTo (pow3 ((255 - k) % 255)) 4)

theorem tabTo_length (k : Nat) : (tabTo k).length = 256 := by
  induction k with
  | zero => unfold tabTo; rw [List.length_set, List.length_replicate]
  | succ k ih => unfold tabTo; rw [List.length_set, ih]

theorem tabTo_all : tabTo 255 = boxTab := by decide +kernel

end Go.Proofs.YtgfljldegodpgaaDoor

namespace Go.Proofs.YtgfljldegodpgaaDoor
set_option linter.unusedVariables false
set_option linter.unusedSimpArgs false
open Go.RowKit

attribute [local go_sem] u8_bxor

theorem ret_u8 {a b : Int} (h : a = b) : Ending.returned (.int .u8 a) = .returned (.int .u8 b) := by rw [h]

set_option maxHeartbeats 400000 in
theorem aesDoubled (w : World) (c : UInt8) : Calls Tryd.prog 62 #[bv c] w fun e w' => e = .returned (bv (dbl c)) ∧ w = w' := by
  have hc := u8_lt c
  by_cases h : c.toNat < 128
  · have h1 : (c.toNat : Int) < 128 := by omega
    have hd := dbl_lt c h
    go_enter Tryd.func62, Tryd.ntmps62
    go_wp2
    go_ret
    refine ⟨ret_u8 ?_, rfl⟩
    rw [hd, UInt8.toNat_ofNat']
    omega
  · have h1 : ¬ (c.toNat : Int) < 128 := by omega
    have HD := Lib.hid (dbl_ge c h)
    go_enter Tryd.func62, Tryd.ntmps62
    go_wp2
    go_ret
    refine ⟨ret_u8 ?_, rfl⟩
    rw [HD.out, ← u8_bxor, show ((UInt8.ofNat (c.toNat * 2 - 256)).toNat : Int) = (c.toNat : Int) * 2 % 256 by rw [UInt8.toNat_ofNat']; omega]
    rfl

theorem shr8_of (x : UInt8) (k : Nat) : ((x.toNat / 2 ^ k : Nat) : Int) / 2 = ((x.toNat / 2 ^ (k + 1) : Nat) : Int) := by
  rw [Nat.pow_succ, ← Nat.div_div_eq_div_mul]; omega

theorem and1_of (x : UInt8) (k : Nat) : bits .and .u8 ((x.toNat / 2 ^ k : Nat) : Int) 1 = ((x.toNat / 2 ^ k % 2 : Nat) : Int) := by
  rw [show (1 : Int) = ((1 : Nat) : Int) from rfl, u8_and_nat _ _ (Nat.lt_of_le_of_lt (Nat.div_le_self _ _) (u8_lt x)) (by decide), nat_mask1]


theorem and7 (n : Nat) (h1 : 1 ≤ n) (h2 : n ≤ 4) : bits .and .u64 (n : Int) 7 = (n : Int) := by
  have h : n = 1 ∨ n = 2 ∨ n = 3 ∨ n = 4 := by omega
  rcases h with rfl | rfl | rfl | rfl <;> (clear h1 h2; decide)

theorem rotl8_of (x : UInt8) (n : Nat) : bits .or .u8 ((x.toNat * 2 ^ n % 256 : Nat) : Int) ((x.toNat / 2 ^ (8 - n) : Nat) : Int) = ((rotl8 x n).toNat : Int) := by
  have l1 : x.toNat * 2 ^ n % 256 < 2 ^ 8 := Nat.mod_lt _ (by decide)
  have l2 : x.toNat / 2 ^ (8 - n) < 2 ^ 8 := Nat.lt_of_le_of_lt (Nat.div_le_self _ _) (u8_lt x)
  rw [u8_or_nat _ _ l1 l2]
  unfold rotl8
  rw [UInt8.toNat_ofNat_of_lt' (Nat.or_lt_two_pow l1 l2)]

set_option maxHeartbeats 400000 in
theorem rotateLeft8 (w : World) (x : UInt8) (n : Nat) (h1 : 1 ≤ n) (h2 : n ≤ 4) :
    Calls Tryd.prog 82 #[bv x, .int .i64 (n : Int)] w fun e w' => e = .returned (bv (rotl8 x n)) ∧ w = w' := by
  have hb := and7 n h1 h2
  have HR := Lib.hid (rotl8_of x n)
  have h3 : (8 - (n : Int)).toNat = 8 - n := by omega
  have h4 : (8 - (n : Int)) % 18446744073709551616 = 8 - (n : Int) := by omega
  have h5 : (n : Int) % 18446744073709551616 = (n : Int) := by omega
  go_enter Tryd.func82, Tryd.ntmps82
  go_wp2
  go_ret
  refine ⟨ret_u8 ?_, rfl⟩
  rw [← HR.out, Int.natCast_ediv, Int.natCast_emod, Int.natCast_mul, Int.natCast_pow, Int.natCast_pow]
  rfl

set_option maxRecDepth 100000 in
set_option maxHeartbeats 400000 in
theorem aesBoxed (w : World) (b : UInt8) : Calls Tryd.prog 72 #[bv b] w fun e w' => e = .returned (bv (boxedTo b 4)) ∧ w = w' := by
  have HZ : Hid (bits .xor .u8 (b.toNat : Int) 99 = ((boxedTo b 0).toNat : Int)) := Lib.hid (u8_bxor b 99)
  go_enter Tryd.func72, Tryd.ntmps72
  go_wp2
  go_loop [3, 4] (fun o i => ∃ k : Nat, k ≤ 4 ∧ i = .int .i64 ((k + 1 : Nat) : Int) ∧ o = bv (boxedTo b k)) (fun _ i => 5 - (intOf i).toNat)
  case atStart => exact ⟨0, by omega, rfl, congrArg (Value.int .u8) HZ.out⟩
  case round =>
    obtain ⟨k, hk, rfl, rfl⟩ := hrel
    by_cases hlt : k < 4
    · have HB : Hid (boxedTo b (k + 1) = bxor (boxedTo b k) (rotl8 b (k + 1))) := Lib.hid rfl
      have h4 : ((k + 1 : Nat) : Int) ≤ 4 := by omega
      have HR : Hid (∀ wx, Calls Tryd.prog 82 #[bv b, .int .i64 ((k + 1 : Nat) : Int)] wx fun e w' => e = .returned (bv (rotl8 b (k + 1))) ∧ wx = w') := Lib.hid (fun wx => rotateLeft8 wx b (k + 1) (by omega) (by omega))
      obtain ⟨m, Hm⟩ : ∃ m, Hid (m = k + 1) := ⟨_, Lib.hid rfl⟩
      rw [← Hm.out] at HB HR h4 ⊢
      generalize rotl8 b m = r at HB HR
      generalize boxedTo b k = o at HB ⊢
      go_wp2_with (go_at_call 82; refine (HR.out _).mono ?_; rintro e w' ⟨rfl, rfl⟩)
      go_round
      case rel => exact ⟨k + 1, by omega, by rw [Hm.out]; go_num, by rw [← Hm.out, HB.out]⟩
      case measure => have := Hm.out; simp [intOf]; omega
    · obtain rfl : k = 4 := by omega
      obtain ⟨o, HO⟩ : ∃ o, Hid (boxedTo b 4 = o) := ⟨_, Lib.hid rfl⟩
      rw [show ((4 + 1 : Nat) : Int) = 5 from rfl, HO.out]
      go_wp2
      go_ret
      exact ⟨by rw [HO.out]; rfl, rfl⟩

/-- b[t] of an array value of bytes -/
theorem run_indexB {n : Nat} {ty : TypeId} (hu : Tryd.prog.underlying ty = some (.array n 5)) (l : List UInt8) (hl : l.length = n) (kd : IntKind) (t : Nat) (ht : t < n) (wx : World) :
    (Instr.index ty (.agg (l.map bv).toArray) (.int kd (t : Int))).run Tryd.prog wx = .ok (bv (l.getD t 0)) wx := by
  have hs : (sizeOf 5).run Tryd.prog wx = .ok 1 wx := by kernel_rfl
  have ha : (isAgg 5).run Tryd.prog wx = .ok false wx := by kernel_rfl
  have hg : l[t]? = some (l.getD t 0) := by
    rw [List.getD_eq_getElem?_getD, List.getElem?_eq_getElem (by omega)]; rfl
  have h0 : (0 : Int) ≤ t ∧ (t : Int) < (n : Nat) := ⟨by omega, by omega⟩
  have hp : (part 5 (l.map bv).toArray t).run Tryd.prog wx = .ok (bv (l.getD t 0)) wx := by
    unfold part
    rw [Sem.run_bind, ha]
    simp only [Result.andThen_ok, Bool.false_eq_true, if_false, List.getElem?_toArray, List.getElem?_map, hg, Option.map_some, Sem.run_pure]
  unfold Instr.index
  rw [Sem.run_bind]
  simp only [asIntOf, Sem.run_pure, Result.andThen_ok]
  rw [Sem.run_bind, run_underlying hu]
  simp only [Result.andThen_ok, if_pos h0]
  rw [Sem.run_bind, hs]
  simp only [Result.andThen_ok, Int.toNat_natCast, Nat.mul_one]
  exact hp

structure PowIn (w : World) (k : Nat) (wr : World) : Prop where
  res : wr.heap[w.heap.size]? = some (.cells ((List.replicate 256 (0 : UInt8)).map bv).toArray 76)
  pow : wr.heap[w.heap.size + 1]? = some (.cells ((fillTo pow3 (List.replicate 255 0) k).map bv).toArray 93)
  size : wr.heap.size = w.heap.size + 1 + 1
  new : New w wr

theorem PowIn.put {w : World} {k : Nat} {wr : World} (h : PowIn w k wr) : PowIn w (k + 1) (wr.setCell ⟨w.heap.size + 1, k, none⟩ (bv (pow3 k))) := by
  refine ⟨?_, ?_, by simpa using h.size, h.new.setCell (by show w.heap.size ≤ w.heap.size + 1; omega) _⟩
  · rw [heap_setCell_other _ _ _ _ (by show _ ≠ w.heap.size + 1; omega)]; exact h.res
  · rw [heap_setCell_same _ _ _ _ _ _ h.pow, List.setIfInBounds_toArray, ← List.map_set]; rfl

structure TabIn (w : World) (k : Nat) (wr : World) : Prop where
  res : wr.heap[w.heap.size]? = some (.cells ((List.replicate 256 (0 : UInt8)).map bv).toArray 76)
  pow : wr.heap[w.heap.size + 1]? = some (.cells ((fillTo pow3 (List.replicate 255 0) 255).map bv).toArray 93)
  new : New w wr
  tab : wr.heap[w.heap.size + 1 + 1]? = some (.cells ((tabTo k).map bv).toArray 76)

theorem TabIn.put {w : World} {k : Nat} {wr : World} (h : TabIn w k wr) : TabIn w (k + 1) (wr.setCell ⟨w.heap.size + 1 + 1, (pow3 k).toNat, none⟩ (bv (boxedTo (pow3 ((255 - k) % 255)) 4))) := by
  refine ⟨?_, ?_, h.new.setCell (by show w.heap.size ≤ w.heap.size + 1 + 1; omega) _, ?_⟩
  · rw [heap_setCell_other _ _ _ _ (by show _ ≠ w.heap.size + 1 + 1; omega)]; exact h.res
  · rw [heap_setCell_other _ _ _ _ (by show _ ≠ w.heap.size + 1 + 1; omega)]; exact h.pow
  · rw [heap_setCell_same _ _ _ _ _ _ h.tab, List.setIfInBounds_toArray, ← List.map_set]; rfl

def zero256 : Array Value := ((List.replicate 256 (0 : UInt8)).map bv).toArray
def zero255 : Array Value := ((List.replicate 255 (0 : UInt8)).map bv).toArray
theorem zero256_run (wx : World) : (zeroValue 76).run Tryd.prog wx = .ok (.agg zero256) wx := by kernel_rfl
theorem zero255_run (wx : World) : (zeroValue 93).run Tryd.prog wx = .ok (.agg zero255) wx := by kernel_rfl

set_option maxRecDepth 100000 in
set_option maxHeartbeats 1000000 in
theorem aesBoxesF (w : World) : Calls Tryd.prog 56 #[] w fun e w' => e = .returned (.agg (boxTab.map bv).toArray) ∧ New w w' := by
  have z1 := zero256_run
  have z2 := zero255_run
  go_enter Tryd.func56, Tryd.ntmps56
  go_upto_region 2 with fail
  generalize hw1 : World.alloc (World.alloc w _) _ = w1
  have hin0 : PowIn w 0 w1 := by
    rw [← hw1]
    exact ⟨heap_alloc2_old _ _ _, heap_alloc2_new _ _ _, by simp, ((Below.refl _ _).alloc (Nat.le_refl _) _).alloc (by simp) _⟩
  clear hw1 z2
  go_wp2
  go_loopw [2, 7] (fun p i wr => ∃ k : Nat, k ≤ 255 ∧ i = .int .i64 k ∧ p = bv (pow3 k) ∧ PowIn w k wr) (fun _ i _ => 255 - (intOf i).toNat)
  case atStart => exact ⟨0, by omega, rfl, rfl, hin0⟩
  case round =>
    clear hin0
    obtain ⟨k, hk, rfl, rfl, hin⟩ := hrel
    by_cases hlt : k < 255
    · have hc := byte_cell (i := k) hin.pow (by rw [fillTo_length, List.length_replicate]; exact hlt)
      have hf := frozen_of_row _ _ k _ _ hin.pow
      have HP := Lib.hid hin.put
      have HS := Lib.hid (pow3_succ k hlt)
      have h8 : (k : Int) < 255 := by omega
      clear hin
      generalize pow3 k = x at HP HS ⊢
      generalize (fillTo pow3 (List.replicate 255 0) k).getD k 0 = y at hc
      go_wp2_with (go_at_call 62; refine (aesDoubled _ _).mono ?_; rintro e w' ⟨rfl, rfl⟩)
      go_roundw
      case rel => exact ⟨k + 1, by omega, by go_num, by rw [HS.out], HP.out⟩
      case measure => simp [intOf]; omega
    · obtain rfl : k = 255 := by omega
      rw [show ((255 : Nat) : Int) = 255 from rfl]
      have hsz := hin.size
      go_upto_region 10 with fail
      generalize hw2 : World.alloc wr _ = w2
      have hn2 : New wr w2 := by rw [← hw2]; exact (Below.refl _ _).alloc (Nat.le_refl _) _
      have hg2 : w2.heap[w.heap.size + 1 + 1]? = some (.cells ((List.replicate 256 (0 : UInt8)).map bv).toArray 76) := by
        rw [← hw2, ← hsz]; exact heap_alloc_new _ _
      have hg1 := (hn2.block _ (lt_of_block hin.pow)).trans hin.pow
      have hg0 := (hn2.block _ (lt_of_block hin.res)).trans hin.res
      have hN2 := New.trans hin.new hn2
      clear hw2 hn2 hsz hin
      have hc := byte_cell (i := 0) hg2 (by rw [List.length_replicate]; decide)
      have hf := frozen_of_row _ _ 0 _ _ hg2
      have HI : Hid (TabIn w 0 (w2.setCell ⟨w.heap.size + 1 + 1, 0, none⟩ (bv (boxedTo 0 4)))) := by
        refine ⟨?_, ?_, hN2.setCell (by show w.heap.size ≤ w.heap.size + 1 + 1; omega) _, ?_⟩
        · rw [heap_setCell_other _ _ _ _ (by show _ ≠ w.heap.size + 1 + 1; omega)]; exact hg0
        · rw [heap_setCell_other _ _ _ _ (by show _ ≠ w.heap.size + 1 + 1; omega)]; exact hg1
        · rw [heap_setCell_same _ _ _ _ _ _ hg2, List.setIfInBounds_toArray, ← List.map_set]; rfl
      clear hg0 hg1 hg2 hN2
      generalize (List.replicate 256 (0 : UInt8)).getD 0 0 = y at hc
      go_upto_region 11 with (go_at_call 72; refine (aesBoxed _ 0).mono ?_; rintro e w' ⟨rfl, rfl⟩)
      generalize hw3 : World.setCell w2 _ _ = w3
      have hin : TabIn w 0 w3 := by rw [← hw3]; exact HI.out
      clear hw3 HI hc hf
      have HPL : Hid (∀ i, i < 255 → (fillTo pow3 (List.replicate 255 0) 255).getD i 0 = pow3 i) := Lib.hid (fun i hi => fillTo_lt _ _ _ _ hi (by rw [List.length_replicate]; exact hi))
      have HLL : Hid ((fillTo pow3 (List.replicate 255 0) 255).length = 255) := by show _ = _; rw [fillTo_length, List.length_replicate]
      obtain ⟨PL, HPE⟩ : ∃ PL, Hid (fillTo pow3 (List.replicate 255 0) 255 = PL) := ⟨_, Lib.hid rfl⟩
      rw [HPE.out] at HPL HLL
      have hlen : (PL.map bv).toArray.size = 255 := by rw [List.size_toArray, List.length_map, HLL.out]
      have hp := hin.pow
      rw [HPE.out] at hp
      refine wp_region_lit ?_
      refine wpList_load_row rfl 93 _ rfl (w.heap.size + 1) rfl _ _ _ _ hp Tryd.underlying93 rfl (by rw [hlen]; kernel_rfl) ?_
      clear hlen hp
      go_wp2
      go_loopw [21] (fun i wr => ∃ k : Nat, k ≤ 255 ∧ i = .int .i64 k ∧ TabIn w k wr) (fun i _ => 255 - (intOf i).toNat)
      case atStart => exact ⟨0, by omega, rfl, hin⟩
      case round =>
        clear hin
        obtain ⟨k, hk, rfl, hin⟩ := hrel
        by_cases hlt : k < 255
        · have hix := fun wx => run_indexB Tryd.underlying93 PL HLL.out .i64 k hlt wx
          rw [HPL.out k hlt] at hix
          have hm : (255 - k) % 255 < 255 := Nat.mod_lt _ (by decide)
          have hc1 := byte_cell (i := (255 - k) % 255) hin.pow (by rw [fillTo_length, List.length_replicate]; exact hm)
          rw [HPE.out, HPL.out _ hm] at hc1
          have hx := u8_lt (pow3 k)
          have hc2 := byte_cell (i := (pow3 k).toNat) hin.tab (by rw [tabTo_length]; exact hx)
          have hf := frozen_of_row _ _ (pow3 k).toNat _ _ hin.tab
          have HP := Lib.hid hin.put
          have h8 : (k : Int) < 255 := by omega
          have h9 : 0 ≤ 255 - (k : Int) := by omega
          have h10 : ((255 - (k : Int)) % 255).toNat = (255 - k) % 255 := by omega
          have h11 : 0 ≤ (255 - (k : Int)) % 255 := by omega
          have h12 : (255 - (k : Int)) % 255 < 255 := by omega
          have h13 : ((pow3 k).toNat : Int) < 256 := by omega
          have h14 : (-(k : Int) % 255).toNat = (255 - k) % 255 := by omega
          have h15 : 0 ≤ -(k : Int) % 255 := by omega
          have h16 : -(k : Int) % 255 < 255 := by omega
          clear hin hm
          generalize (255 - k) % 255 = m at hc1 HP h10 h14
          generalize pow3 m = y at hc1 HP
          generalize pow3 k = x at *
          generalize (tabTo k).getD x.toNat 0 = z at hc2
          go_wp2_with (go_at_call 72; refine (aesBoxed _ _).mono ?_; rintro e w' ⟨rfl, rfl⟩)
          go_roundw
          case rel => exact ⟨k + 1, by omega, by go_num, HP.out⟩
          case measure => simp [intOf]; omega
        · obtain rfl : k = 255 := by omega
          rw [show ((255 : Nat) : Int) = 255 from rfl]
          have hlen : (boxTab.map bv).toArray.size = 256 := by rw [List.size_toArray, List.length_map, boxTab_length]
          have hw := hin.tab
          rw [tabTo_all] at hw
          have HN := Lib.hid hin.new
          have HR := Lib.hid hin.res
          clear hin
          go_upto_region 16 with fail
          refine wp_region_lit ?_
          refine wpList_load_row rfl 76 _ rfl (w.heap.size + 1 + 1) rfl _ _ _ _ hw Tryd.underlying76 rfl (by rw [hlen]; kernel_rfl) ?_
          refine wpList_store_row rfl 76 _ _ rfl w.heap.size (boxTab.map bv).toArray rfl rfl _ _ HR.out (by rw [hlen]; kernel_rfl) (by rw [hlen]; rfl) (allOneB _) ?_
          go_wp2
          refine bodyPost_ret (v := .agg (boxTab.map bv).toArray) (results_cell_row rfl _ _ w.heap.size _ _ _ _ rfl (setRow_heap _ _ _ _ _ _ HR.out) Tryd.underlying76 rfl (by rw [hlen]; kernel_rfl)) rfl ⟨rfl, ?_⟩
          exact below_setRow HN.out (Nat.le_refl _) _


end Go.Proofs.YtgfljldegodpgaaDoor

namespace Go.Proofs.YtgfljldegodpgaaDoor
set_option linter.unusedVariables false
set_option linter.unusedSimpArgs false
open Go.RowKit

attribute [local go_sem] u8_bxor

def zeros16 : List UInt8 := [0, 0, 0, 0, 0, 0, 0, 0, 0, 0, 0, 0, 0, 0, 0, 0]

def addB (b k : List UInt8) : List UInt8 := fillTo (fun n => bxor (b.getD n 0) (k.getD n 0)) b 16
def repB (b : List UInt8) : List UInt8 := fillTo (fun n => gbox (b.getD n 0)) b 16
def rotB (b : List UInt8) : List UInt8 := fillTo (fun n => b.getD ((n + 4 * (n % 4)) % 16) 0) zeros16 16
def mix4 (a b c d : UInt8) : UInt8 := bxor (bxor (bxor (bxor (dbl a) (dbl b)) b) c) d
def mixAt (b : List UInt8) (n : Nat) : UInt8 := mix4 (b.getD (n - n % 4 + n % 4) 0) (b.getD (n - n % 4 + (n % 4 + 1) % 4) 0) (b.getD (n - n % 4 + (n % 4 + 2) % 4) 0) (b.getD (n - n % 4 + (n % 4 + 3) % 4) 0)
def mixB (b : List UInt8) : List UInt8 := fillTo (mixAt b) zeros16 16
def keyA (k : List UInt8) (p : UInt8) : List UInt8 := k.set 0 (bxor (k.getD 0 0) p)
def keyB (k : List UInt8) (n : Nat) : List UInt8 := fillTo (fun r => bxor (k.getD r 0) (gbox (k.getD (12 + (r + 1) % 4) 0))) k n
def keyC (k : List UInt8) : Nat → List UInt8
  | 0 => k
  | n + 1 => (keyC k n).set (n + 4) (bxor ((keyC k n).getD (n + 4) 0) ((keyC k n).getD n 0))
def nextK (k : List UInt8) (p : UInt8) : List UInt8 := keyC (keyB (keyA k p) 4) 12

theorem addB_length (b k : List UInt8) : (addB b k).length = b.length := fillTo_length _ _ _
theorem repB_length (b : List UInt8) : (repB b).length = b.length := fillTo_length _ _ _
theorem rotB_length (b : List UInt8) : (rotB b).length = 16 := fillTo_length _ _ _
theorem mixB_length (b : List UInt8) : (mixB b).length = 16 := fillTo_length _ _ _
theorem keyB_length (k : List UInt8) (n : Nat) : (keyB k n).length = k.length := fillTo_length _ _ _
theorem keyC_length (k : List UInt8) (n : Nat) : (keyC k n).length = k.length := by
  induction n with
  | zero => rfl
  | succ n ih => unfold keyC; rw [List.length_set, ih]
theorem nextK_length (k : List UInt8) (p : UInt8) : (nextK k p).length = k.length := by
  unfold nextK keyA; rw [keyC_length, keyB_length, List.length_set]

/-- three rows that a call made -/
structure In3 (w : World) (A : List UInt8) (tA : TypeId) (B : List UInt8) (tB : TypeId) (C : List UInt8) (tC : TypeId) (wr : World) : Prop where
  a : wr.heap[w.heap.size]? = some (.cells (A.map bv).toArray tA)
  b : wr.heap[w.heap.size + 1]? = some (.cells (B.map bv).toArray tB)
  c : wr.heap[w.heap.size + 1 + 1]? = some (.cells (C.map bv).toArray tC)
  new : New w wr

section
variable {w wr : World} {A B C : List UInt8} {tA tB tC : TypeId}

theorem In3.made (w : World) (A B C : List UInt8) (tA tB tC : TypeId) : In3 w A tA B tB C tC (((w.alloc (.cells (A.map bv).toArray tA)).alloc (.cells (B.map bv).toArray tB)).alloc (.cells (C.map bv).toArray tC)) :=
  ⟨alloc3_0 _ _ _ _, alloc3_1 _ _ _ _, alloc3_2 _ _ _ _, (((Below.refl _ _).alloc (Nat.le_refl _) _).alloc (by simp) _).alloc (by simp; omega) _⟩

theorem In3.drew (h : In3 w A tA B tB C tC wr) : In3 w A tA B tB C tC wr.drew := ⟨h.a, h.b, h.c, h.new.drew⟩
theorem In3.drewN (h : In3 w A tA B tB C tC wr) (n : Nat) : In3 w A tA B tB C tC (wr.drewN n) := ⟨h.a, h.b, h.c, below_drewN h.new n⟩

theorem In3.setA (h : In3 w A tA B tB C tC wr) (i : Nat) (x : UInt8) : In3 w (A.set i x) tA B tB C tC (wr.setCell ⟨w.heap.size, i, none⟩ (bv x)) := by
  refine ⟨?_, ?_, ?_, h.new.setCell (Nat.le_refl _) _⟩
  · rw [heap_setCell_same _ _ _ _ _ _ h.a, List.setIfInBounds_toArray, ← List.map_set]
  · rw [heap_setCell_other _ _ _ _ (by show _ ≠ w.heap.size; omega)]; exact h.b
  · rw [heap_setCell_other _ _ _ _ (by show _ ≠ w.heap.size; omega)]; exact h.c

theorem In3.setC (h : In3 w A tA B tB C tC wr) (i : Nat) (x : UInt8) : In3 w A tA B tB (C.set i x) tC (wr.setCell ⟨w.heap.size + 1 + 1, i, none⟩ (bv x)) := by
  refine ⟨?_, ?_, ?_, h.new.setCell (by show w.heap.size ≤ w.heap.size + 1 + 1; omega) _⟩
  · rw [heap_setCell_other _ _ _ _ (by show _ ≠ w.heap.size + 1 + 1; omega)]; exact h.a
  · rw [heap_setCell_other _ _ _ _ (by show _ ≠ w.heap.size + 1 + 1; omega)]; exact h.b
  · rw [heap_setCell_same _ _ _ _ _ _ h.c, List.setIfInBounds_toArray, ← List.map_set]
end

set_option maxRecDepth 100000 in
set_option maxHeartbeats 400000 in
theorem aesAdded (w : World) (b k : List UInt8) (hb : b.length = 16) (hk : k.length = 16) :
    Calls Tryd.prog 57 #[.agg (b.map bv).toArray, .agg (k.map bv).toArray] w fun e w' => e = .returned (.agg ((addB b k).map bv).toArray) ∧ New w w' := by
  have HB := Lib.hid hb
  have HK := Lib.hid hk
  clear hb hk
  go_enter Tryd.func57, Tryd.ntmps57
  go_wp2
  go_loopw [6] (fun i wr => ∃ j : Nat, j ≤ 16 ∧ i = .int .i64 j ∧ In3 w (fillTo (fun n => bxor (b.getD n 0) (k.getD n 0)) b j) 64 k 64 zeros16 64 wr) (fun i _ => 16 - (intOf i).toNat)
  case atStart => exact ⟨0, by omega, rfl, In3.made _ _ _ _ _ _ _⟩
  case round =>
    obtain ⟨j, hj, rfl, hin⟩ := hrel
    by_cases hlt : j < 16
    · have hd := hin.drew
      have hc1 := byte_cell (i := j) hd.a (by rw [fillTo_length, HB.out]; exact hlt)
      rw [fillTo_ge _ _ _ _ (Nat.le_refl _)] at hc1
      have hc2 := byte_cell (i := j) hd.b (by rw [HK.out]; exact hlt)
      have hf := frozen_of_row _ _ j _ _ hd.a
      have HP := Lib.hid (hd.setA j (bxor (b.getD j 0) (k.getD j 0)))
      have h16 : (j : Int) < 16 := by omega
      clear hin hd
      obtain ⟨x, HX⟩ : ∃ x, Hid (b.getD j 0 = x) := ⟨_, Lib.hid rfl⟩
      obtain ⟨y, HY⟩ : ∃ y, Hid (k.getD j 0 = y) := ⟨_, Lib.hid rfl⟩
      rw [HX.out] at hc1
      rw [HY.out] at hc2
      rw [HX.out, HY.out] at HP
      go_wp2
      refine wp_region_still_tail 8 (by kernel_rfl) (by kernel_rfl) ?_
      simp only [List.take_succ_cons, List.take_zero, List.drop_succ_cons, List.drop_zero]
      change wpStill _ _ wr.drew (fun a' => wpList _ _ _ _ a' wr.drew) _ _
      generalize wr.drew = wd at *
      repeat still_step
      refine wpStill_nil ?_
      go_wp2
      go_roundw
      case rel =>
        refine ⟨j + 1, by omega, by go_num, ?_⟩
        rw [fillTo, HX.out, HY.out]
        exact HP.out
      case measure => simp [intOf]; omega
    · obtain rfl : j = 16 := by omega
      rw [show ((16 : Nat) : Int) = 16 from rfl]
      have HL : Hid ((addB b k).length = 16) := by show _ = _; rw [addB_length, HB.out]
      change In3 w (addB b k) _ _ _ _ _ _ at hin
      obtain ⟨R, HR⟩ : ∃ R, Hid (addB b k = R) := ⟨_, Lib.hid rfl⟩
      rw [HR.out] at hin HL
      have hlen : (R.map bv).toArray.size = 16 := by rw [List.size_toArray, List.length_map, HL.out]
      have HI := Lib.hid hin
      clear hin
      go_upto_region 6 with fail
      refine wp_region_lit ?_
      refine wpList_load_row rfl 64 _ rfl w.heap.size rfl _ _ _ _ HI.out.a Tryd.underlying64 rfl (by rw [hlen]; kernel_rfl) ?_
      refine wpList_store_row rfl 64 _ _ rfl (w.heap.size + 1 + 1) (R.map bv).toArray rfl rfl _ _ HI.out.c (by rw [hlen]; kernel_rfl) (by rw [hlen]; rfl) (allOneB _) ?_
      go_wp2
      refine bodyPost_ret (v := .agg (R.map bv).toArray) (results_cell_row rfl _ _ (w.heap.size + 1 + 1) _ _ _ _ rfl (setRow_heap _ _ _ _ _ _ HI.out.c) Tryd.underlying64 rfl (by rw [hlen]; kernel_rfl)) rfl ⟨by rw [HR.out], ?_⟩
      exact below_setRow HI.out.new (by show w.heap.size ≤ w.heap.size + 1 + 1; omega) _

set_option maxRecDepth 100000 in
set_option maxHeartbeats 400000 in
theorem aesReplaced (w : World) (b : List UInt8) (hb : b.length = 16) :
    Calls Tryd.prog 59 #[.agg (b.map bv).toArray, .agg (boxTab.map bv).toArray] w fun e w' => e = .returned (.agg ((repB b).map bv).toArray) ∧ New w w' := by
  have HB := Lib.hid hb
  clear hb
  have HT : Hid (∀ x : UInt8, boxTab.getD x.toNat 0 = gbox x) := Lib.hid (fun _ => rfl)
  have HTL := Lib.hid boxTab_length
  generalize boxTab = T at HT HTL ⊢
  go_enter Tryd.func59, Tryd.ntmps59
  go_upto_region 1 with fail
  generalize hw1 : World.alloc (World.alloc (World.alloc w _) _) _ = w1
  have hin : In3 w b 64 T 76 zeros16 64 w1 := by rw [← hw1]; exact In3.made _ _ _ _ _ _ _
  clear hw1
  have hlb : (b.map bv).toArray.size = 16 := by rw [List.size_toArray, List.length_map, HB.out]
  refine wp_region_lit ?_
  refine wpList_load_row rfl 64 _ rfl w.heap.size rfl _ _ _ _ hin.a Tryd.underlying64 rfl (by rw [hlb]; kernel_rfl) ?_
  clear hlb
  have HI0 := Lib.hid hin
  clear hin
  go_wp2
  go_loopw [8] (fun i wr => ∃ j : Nat, j ≤ 16 ∧ i = .int .i64 j ∧ In3 w (fillTo (fun n => gbox (b.getD n 0)) b j) 64 T 76 zeros16 64 wr) (fun i _ => 16 - (intOf i).toNat)
  case atStart => exact ⟨0, by omega, rfl, HI0.out⟩
  case round =>
    clear HI0
    obtain ⟨j, hj, rfl, hin⟩ := hrel
    by_cases hlt : j < 16
    · have hix := fun wx => run_indexB Tryd.underlying64 b HB.out .i64 j hlt wx
      have hc1 := byte_cell (i := j) hin.a (by rw [fillTo_length, HB.out]; exact hlt)
      rw [fillTo_ge _ _ _ _ (Nat.le_refl _)] at hc1
      have hf := frozen_of_row _ _ j _ _ hin.a
      obtain ⟨x, HX⟩ : ∃ x, Hid (b.getD j 0 = x) := ⟨_, Lib.hid rfl⟩
      rw [HX.out] at hc1
      have hx := u8_lt x
      have hc2 := byte_cell (i := x.toNat) hin.b (by rw [HTL.out]; exact hx)
      rw [HT.out] at hc2
      have HP := Lib.hid (hin.setA j (gbox x))
      have h16 : (j : Int) < 16 := by omega
      have h256 : (x.toNat : Int) < 256 := by omega
      simp only [HX.out] at hix
      obtain ⟨y, HG⟩ : ∃ y, Hid (gbox x = y) := ⟨_, Lib.hid rfl⟩
      rw [HG.out] at hc2 HP
      clear hin
      go_wp2
      go_roundw
      case rel =>
        refine ⟨j + 1, by omega, by go_num, ?_⟩
        rw [fillTo, HX.out, HG.out]
        exact HP.out
      case measure => simp [intOf]; omega
    · obtain rfl : j = 16 := by omega
      rw [show ((16 : Nat) : Int) = 16 from rfl]
      have HL : Hid ((repB b).length = 16) := by show _ = _; rw [repB_length, HB.out]
      change In3 w (repB b) _ _ _ _ _ _ at hin
      obtain ⟨R, HR⟩ : ∃ R, Hid (repB b = R) := ⟨_, Lib.hid rfl⟩
      rw [HR.out] at hin HL
      have hlen : (R.map bv).toArray.size = 16 := by rw [List.size_toArray, List.length_map, HL.out]
      have HI := Lib.hid hin
      clear hin
      go_upto_region 6 with fail
      refine wp_region_lit ?_
      refine wpList_load_row rfl 64 _ rfl w.heap.size rfl _ _ _ _ HI.out.a Tryd.underlying64 rfl (by rw [hlen]; kernel_rfl) ?_
      refine wpList_store_row rfl 64 _ _ rfl (w.heap.size + 1 + 1) (R.map bv).toArray rfl rfl _ _ HI.out.c (by rw [hlen]; kernel_rfl) (by rw [hlen]; rfl) (allOneB _) ?_
      go_wp2
      refine bodyPost_ret (v := .agg (R.map bv).toArray) (results_cell_row rfl _ _ (w.heap.size + 1 + 1) _ _ _ _ rfl (setRow_heap _ _ _ _ _ _ HI.out.c) Tryd.underlying64 rfl (by rw [hlen]; kernel_rfl)) rfl ⟨by rw [HR.out], ?_⟩
      exact below_setRow HI.out.new (by show w.heap.size ≤ w.heap.size + 1 + 1; omega) _

set_option maxRecDepth 100000 in
set_option maxHeartbeats 400000 in
theorem aesRotated (w : World) (b : List UInt8) (hb : b.length = 16) :
    Calls Tryd.prog 58 #[.agg (b.map bv).toArray] w fun e w' => e = .returned (.agg ((rotB b).map bv).toArray) ∧ New w w' := by
  have HB := Lib.hid hb
  clear hb
  go_enter Tryd.func58, Tryd.ntmps58
  go_wp2
  go_loopw [6] (fun i wr => ∃ j : Nat, j ≤ 16 ∧ i = .int .i64 j ∧ In3 w b 64 zeros16 64 (fillTo (fun n => b.getD ((n + 4 * (n % 4)) % 16) 0) zeros16 j) 64 wr) (fun i _ => 16 - (intOf i).toNat)
  case atStart => exact ⟨0, by omega, rfl, In3.made _ _ _ _ _ _ _⟩
  case round =>
    obtain ⟨j, hj, rfl, hin⟩ := hrel
    by_cases hlt : j < 16
    · have hm : (j + 4 * (j % 4)) % 16 < 16 := Nat.mod_lt _ (by decide)
      have hc1 := byte_cell (i := (j + 4 * (j % 4)) % 16) hin.a (by rw [HB.out]; exact hm)
      have hc2 := byte_cell (i := j) hin.c (by rw [fillTo_length]; exact hlt)
      have hf := frozen_of_row _ _ j _ _ hin.c
      have HP := Lib.hid (hin.setC j (b.getD ((j + 4 * (j % 4)) % 16) 0))
      have h16 : (j : Int) < 16 := by omega
      obtain ⟨r, Hr⟩ : ∃ r, Hid (j % 4 = r) := ⟨_, Lib.hid rfl⟩
      have hr : (j : Int) % 4 = (r : Int) := by rw [← Hr.out]; omega
      have hr4 : r < 4 := by rw [← Hr.out]; omega
      rw [Hr.out] at hc1 HP hm
      obtain ⟨m, Hm⟩ : ∃ m, Hid ((j + 4 * r) % 16 = m) := ⟨_, Lib.hid rfl⟩
      have hm2 : ((j : Int) + 4 * (r : Int)) % 16 = (m : Int) := by rw [← Hm.out]; omega
      rw [Hm.out] at hc1 HP hm
      have hm3 : (m : Int) < 16 := by omega
      obtain ⟨x, HX⟩ : ∃ x, Hid (b.getD m 0 = x) := ⟨_, Lib.hid rfl⟩
      rw [HX.out] at hc1 HP
      generalize List.getD (fillTo _ zeros16 j) j 0 = z at hc2
      clear hin
      go_wp2
      go_roundw
      case rel =>
        refine ⟨j + 1, by omega, by go_num, ?_⟩
        rw [fillTo, Hr.out, Hm.out, HX.out]
        exact HP.out
      case measure => simp [intOf]; omega
    · obtain rfl : j = 16 := by omega
      rw [show ((16 : Nat) : Int) = 16 from rfl]
      have HL := Lib.hid (rotB_length b)
      change In3 w _ _ _ _ (rotB b) _ _ at hin
      obtain ⟨R, HR⟩ : ∃ R, Hid (rotB b = R) := ⟨_, Lib.hid rfl⟩
      rw [HR.out] at hin HL
      have hlen : (R.map bv).toArray.size = 16 := by rw [List.size_toArray, List.length_map, HL.out]
      have HI := Lib.hid hin
      clear hin
      go_upto_region 8 with fail
      refine wp_region_lit ?_
      refine wpList_load_row rfl 64 _ rfl (w.heap.size + 1 + 1) rfl _ _ _ _ HI.out.c Tryd.underlying64 rfl (by rw [hlen]; kernel_rfl) ?_
      refine wpList_store_row rfl 64 _ _ rfl (w.heap.size + 1) (R.map bv).toArray rfl rfl _ _ HI.out.b (by rw [hlen]; kernel_rfl) (by rw [hlen]; rfl) (allOneB _) ?_
      go_wp2
      refine bodyPost_ret (v := .agg (R.map bv).toArray) (results_cell_row rfl _ _ (w.heap.size + 1) _ _ _ _ rfl (setRow_heap _ _ _ _ _ _ HI.out.b) Tryd.underlying64 rfl (by rw [hlen]; kernel_rfl)) rfl ⟨by rw [HR.out], ?_⟩
      exact below_setRow HI.out.new (by show w.heap.size ≤ w.heap.size + 1; omega) _

end Go.Proofs.YtgfljldegodpgaaDoor

namespace Go.Proofs.YtgfljldegodpgaaDoor
set_option linter.unusedVariables false
set_option linter.unusedSimpArgs false
open Go.RowKit

attribute [local go_sem] u8_bxor

theorem arr16 : Tryd.prog.underlying 64 = some (.array (Tryd.prog.arrayLen 64) (Tryd.prog.elem 64)) := by kernel_rfl
theorem arr16_len : Tryd.prog.arrayLen 64 = 16 := by kernel_rfl
theorem arr16_size (w : World) : (sizeOf (Tryd.prog.elem 64)).run Tryd.prog w = .ok 1 w := by kernel_rfl

/-- block[l:h] of an array behind a pointer -/
theorem run_slice16 (wx : World) (p l h : Nat) (hl : l ≤ h) (hh : h ≤ 16) (hl' : l < 16) :
    (Instr.sliceAt 64 (.pointer (some ⟨p, 0, none⟩)) (some (.int .i64 (l : Int))) (some (.int .i64 (h : Int))) none).run Tryd.prog wx = .ok (.slice (some ⟨p, l, none⟩) (h - l) (16 - l)) wx := by
  rw [run_sliceAt_array_lh wx _ _ arr16 .i64 .i64 _ _ (by omega) (by omega) (by rw [arr16_len]; omega), arr16_size, arr16_len]
  simp only [Result.andThen_ok, slicedAt, Int.toNat_natCast, Nat.mul_one]
  rw [if_neg (by omega), Addr.add_lit, Nat.zero_add]

set_option maxRecDepth 100000 in
set_option maxHeartbeats 1000000 in
theorem aesMixed (w : World) (b : List UInt8) (hb : b.length = 16) :
    Calls Tryd.prog 60 #[.agg (b.map bv).toArray] w fun e w' => e = .returned (.agg ((mixB b).map bv).toArray) ∧ New w w' := by
  have HB := Lib.hid hb
  clear hb
  go_enter Tryd.func60, Tryd.ntmps60
  go_wp2
  go_loopw [11] (fun i wr => ∃ j : Nat, j ≤ 16 ∧ i = .int .i64 j ∧ In3 w b 64 zeros16 64 (fillTo (mixAt b) zeros16 j) 64 wr) (fun i _ => 16 - (intOf i).toNat)
  case atStart => exact ⟨0, by omega, rfl, In3.made _ _ _ _ _ _ _⟩
  case round =>
    obtain ⟨j, hj, rfl, hin⟩ := hrel
    by_cases hlt : j < 16
    · obtain ⟨r, Hr⟩ : ∃ r, Hid (j % 4 = r) := ⟨_, Lib.hid rfl⟩
      have hr : (j : Int) % 4 = (r : Int) := by rw [← Hr.out]; omega
      have hr4 : r < 4 := by rw [← Hr.out]; omega
      obtain ⟨q, Hq⟩ : ∃ q, Hid (j - r = q) := ⟨_, Lib.hid rfl⟩
      have hrj : r ≤ j := by rw [← Hr.out]; omega
      have hq12 : q ≤ 12 := by have := Hr.out; have := Hq.out; omega
      have hq : (j : Int) - (r : Int) = (q : Int) := by rw [← Hq.out]; omega
      obtain ⟨r1, Hr1⟩ : ∃ m, Hid ((r + 1) % 4 = m) := ⟨_, Lib.hid rfl⟩
      obtain ⟨r2, Hr2⟩ : ∃ m, Hid ((r + 2) % 4 = m) := ⟨_, Lib.hid rfl⟩
      obtain ⟨r3, Hr3⟩ : ∃ m, Hid ((r + 3) % 4 = m) := ⟨_, Lib.hid rfl⟩
      have e1 : ((r : Int) + 1) % 4 = (r1 : Int) := by rw [← Hr1.out]; omega
      have e2 : ((r : Int) + 2) % 4 = (r2 : Int) := by rw [← Hr2.out]; omega
      have e3 : ((r : Int) + 3) % 4 = (r3 : Int) := by rw [← Hr3.out]; omega
      have l1 : r1 < 4 := by rw [← Hr1.out]; exact Nat.mod_lt _ (by decide)
      have l2 : r2 < 4 := by rw [← Hr2.out]; exact Nat.mod_lt _ (by decide)
      have l3 : r3 < 4 := by rw [← Hr3.out]; exact Nat.mod_lt _ (by decide)
      have hsl := fun wx => run_slice16 wx w.heap.size q (q + 4) (by omega) (by omega) (by omega)
      rw [show ((q + 4 : Nat) : Int) = (q : Int) + 4 by omega, show q + 4 - q = 4 by omega] at hsl
      have hc0 := byte_cell (i := q + r) hin.a (by rw [HB.out]; omega)
      have hc1 := byte_cell (i := q + r1) hin.a (by rw [HB.out]; omega)
      have hc2 := byte_cell (i := q + r2) hin.a (by rw [HB.out]; omega)
      have hc3 := byte_cell (i := q + r3) hin.a (by rw [HB.out]; omega)
      have HIN := Lib.hid hin
      have h16 : (j : Int) < 16 := by omega
      have HM : Hid (mixAt b j = mix4 (b.getD (q + r) 0) (b.getD (q + r1) 0) (b.getD (q + r2) 0) (b.getD (q + r3) 0)) := by
        show _ = _; unfold mixAt; rw [Hr.out, Hq.out, Hr1.out, Hr2.out, Hr3.out]
      generalize b.getD (q + r) 0 = x0 at hc0 HM
      generalize b.getD (q + r1) 0 = x1 at hc1 HM
      generalize b.getD (q + r2) 0 = x2 at hc2 HM
      generalize b.getD (q + r3) 0 = x3 at hc3 HM
      clear hin
      go_wp2
      go_quiet (fail)
      go_upto_region 8 with fail
      generalize hwn : World.drewN wr _ = wn
      have hin : In3 w b 64 zeros16 64 (fillTo (mixAt b) zeros16 j) 64 wn := by rw [← hwn]; exact HIN.out.drewN _
      clear hwn HIN hc0 hc1 hc2 hc3 hsl e1 e2 e3 l1 l2 l3
      have hcz := byte_cell (i := j) hin.c (by rw [fillTo_length]; exact hlt)
      have hf := frozen_of_row _ _ j _ _ hin.c
      generalize List.getD (fillTo _ zeros16 j) j 0 = z at hcz
      have HP := Lib.hid (hin.setC j (mix4 x0 x1 x2 x3))
      clear hin
      go_wp2_with (go_at_call 62; refine (aesDoubled _ _).mono ?_; rintro e w' ⟨rfl, rfl⟩)
      go_roundw
      case rel =>
        refine ⟨j + 1, by omega, by go_num, ?_⟩
        rw [fillTo, HM.out]
        exact HP.out
      case measure => simp [intOf]; omega
    · obtain rfl : j = 16 := by omega
      rw [show ((16 : Nat) : Int) = 16 from rfl]
      have HL := Lib.hid (mixB_length b)
      change In3 w _ _ _ _ (mixB b) _ _ at hin
      obtain ⟨R, HR⟩ : ∃ R, Hid (mixB b = R) := ⟨_, Lib.hid rfl⟩
      rw [HR.out] at hin HL
      have hlen : (R.map bv).toArray.size = 16 := by rw [List.size_toArray, List.length_map, HL.out]
      have HI := Lib.hid hin
      clear hin
      go_upto_region 10 with fail
      refine wp_region_lit ?_
      refine wpList_load_row rfl 64 _ rfl (w.heap.size + 1 + 1) rfl _ _ _ _ HI.out.c Tryd.underlying64 rfl (by rw [hlen]; kernel_rfl) ?_
      refine wpList_store_row rfl 64 _ _ rfl (w.heap.size + 1) (R.map bv).toArray rfl rfl _ _ HI.out.b (by rw [hlen]; kernel_rfl) (by rw [hlen]; rfl) (allOneB _) ?_
      go_wp2
      refine bodyPost_ret (v := .agg (R.map bv).toArray) (results_cell_row rfl _ _ (w.heap.size + 1) _ _ _ _ rfl (setRow_heap _ _ _ _ _ _ HI.out.b) Tryd.underlying64 rfl (by rw [hlen]; kernel_rfl)) rfl ⟨by rw [HR.out], ?_⟩
      exact below_setRow HI.out.new (by show w.heap.size ≤ w.heap.size + 1; omega) _

set_option maxRecDepth 100000 in
set_option maxHeartbeats 1000000 in
theorem aesNext (w : World) (k : List UInt8) (p : UInt8) (hk : k.length = 16) :
    Calls Tryd.prog 61 #[.agg (k.map bv).toArray, bv p, .agg (boxTab.map bv).toArray] w fun e w' => e = .returned (.agg ((nextK k p).map bv).toArray) ∧ New w w' := by
  have HK := Lib.hid hk
  clear hk
  have HT : Hid (∀ x : UInt8, boxTab.getD x.toNat 0 = gbox x) := Lib.hid (fun _ => rfl)
  have HTL := Lib.hid boxTab_length
  generalize boxTab = T at HT HTL ⊢
  go_enter Tryd.func61, Tryd.ntmps61
  go_upto_region 1 with fail
  generalize hw1 : World.alloc (World.alloc (World.alloc w _) _) _ = w1
  have hin : In3 w k 64 T 76 zeros16 64 w1 := by rw [← hw1]; exact In3.made _ _ _ _ _ _ _
  clear hw1
  have hc0 := byte_cell (i := 0) hin.a (by rw [HK.out]; decide)
  have hf0 := frozen_of_row _ _ 0 _ _ hin.a
  have HA : Hid (In3 w (keyA k p) 64 T 76 zeros16 64 (w1.setCell ⟨w.heap.size, 0, none⟩ (bv (bxor (k.getD 0 0) p)))) := Lib.hid (hin.setA 0 _)
  have HKA : Hid ((keyA k p).length = 16) := by show _ = _; unfold keyA; rw [List.length_set, HK.out]
  have HE : Hid (nextK k p = keyC (keyB (keyA k p) 4) 12) := Lib.hid rfl
  generalize keyA k p = A at HA HKA HE
  generalize k.getD 0 0 = x0 at hc0 HA
  clear hin
  go_wp2
  go_loopw [14] (fun i wr => ∃ j : Nat, j ≤ 4 ∧ i = .int .i64 j ∧ In3 w (keyB A j) 64 T 76 zeros16 64 wr) (fun i _ => 4 - (intOf i).toNat)
  case atStart => exact ⟨0, by omega, rfl, HA.out⟩
  case round =>
    clear HA hc0 hf0
    obtain ⟨j, hj, rfl, hin⟩ := hrel
    by_cases hlt : j < 4
    · have hd := hin.drew
      obtain ⟨r, Hr⟩ : ∃ m, Hid ((j + 1) % 4 = m) := ⟨_, Lib.hid rfl⟩
      have e1 : ((j : Int) + 1).tmod 4 = (r : Int) := by rw [Int.tmod_eq_emod_of_nonneg (by omega), ← Hr.out]; omega
      have l1 : r < 4 := by rw [← Hr.out]; exact Nat.mod_lt _ (by decide)
      have hc1 := byte_cell (i := j) hd.a (by rw [keyB_length, HKA.out]; omega)
      have hc2 := byte_cell (i := 12 + r) hd.a (by rw [keyB_length, HKA.out]; omega)
      unfold keyB at hc1 hc2
      rw [fillTo_ge _ _ _ _ (Nat.le_refl _)] at hc1
      rw [fillTo_ge _ _ _ _ (by omega)] at hc2
      obtain ⟨x, HX⟩ : ∃ x, Hid (A.getD j 0 = x) := ⟨_, Lib.hid rfl⟩
      obtain ⟨y, HY⟩ : ∃ y, Hid (A.getD (12 + r) 0 = y) := ⟨_, Lib.hid rfl⟩
      rw [HX.out] at hc1
      rw [HY.out] at hc2
      have hy := u8_lt y
      have hc3 := byte_cell (i := y.toNat) hd.b (by rw [HTL.out]; exact hy)
      rw [HT.out] at hc3
      obtain ⟨z, HZ⟩ : ∃ z, Hid (gbox y = z) := ⟨_, Lib.hid rfl⟩
      rw [HZ.out] at hc3
      have hf := frozen_of_row _ _ j _ _ hd.a
      have HP := Lib.hid (hd.setA j (bxor x z))
      have h16 : (j : Int) < 16 := by omega
      have h4 : (j : Int) < 4 := by omega
      have hr16 : 12 + (r : Int) < 16 := by omega
      have hy16 : (y.toNat : Int) < 256 := by omega
      have hrn : (12 + (r : Int)).toNat = 12 + r := by omega
      have hr0 : 0 ≤ 12 + (r : Int) := by omega
      have w1' : IntKind.i64.wrap ((j : Int) + 1) = (j : Int) + 1 := IntWalk.i64_in _ (by omega)
      have w2' : IntKind.i64.wrap (12 + (r : Int)) = 12 + (r : Int) := IntWalk.i64_in _ (by omega)
      have hj0 : 0 ≤ (j : Int) + 1 := by omega
      clear hin hd
      go_wp2
      refine wp_region_still_tail 13 (by kernel_rfl) (by kernel_rfl) ?_
      simp only [List.take_succ_cons, List.take_zero, List.drop_succ_cons, List.drop_zero]
      change wpStill _ _ wr.drew (fun a' => wpList _ _ _ _ a' wr.drew) _ _
      generalize wr.drew = wd at *
      repeat still_step
      refine wpStill_nil ?_
      clear e1 w1' w2' hj0 hr0 hrn
      go_wp2
      go_roundw
      case rel =>
        refine ⟨j + 1, by omega, by go_num, ?_⟩
        rw [show keyB A (j + 1) = (keyB A j).set j (bxor (A.getD j 0) (gbox (A.getD (12 + (j + 1) % 4) 0))) from rfl, Hr.out, HX.out, HY.out, HZ.out]
        exact HP.out
      case measure => simp [intOf]; omega
    · obtain rfl : j = 4 := by omega
      rw [show ((4 : Nat) : Int) = 4 from rfl]
      have HB0 : Hid ((keyB A 4).length = 16) := by show _ = _; rw [keyB_length, HKA.out]
      generalize keyB A 4 = B at *
      go_wp2
      go_loopw [8] (fun i wr => ∃ j : Nat, j ≤ 12 ∧ i = .int .i64 ((j + 4 : Nat) : Int) ∧ In3 w (keyC B j) 64 T 76 zeros16 64 wr) (fun i _ => 16 - (intOf i).toNat)
      case atStart => exact ⟨0, by omega, rfl, hin⟩
      case round =>
        clear hin
        obtain ⟨j, hj, rfl, hin⟩ := hrel
        by_cases hlt : j < 12
        · have hd := hin.drew
          have hc1 := byte_cell (i := j + 4) hd.a (by rw [keyC_length, HB0.out]; omega)
          have hc2 := byte_cell (i := j) hd.a (by rw [keyC_length, HB0.out]; omega)
          have hf := frozen_of_row _ _ (j + 4) _ _ hd.a
          have HP := Lib.hid (hd.setA (j + 4) (bxor ((keyC B j).getD (j + 4) 0) ((keyC B j).getD j 0)))
          have HS : Hid (keyC B (j + 1) = (keyC B j).set (j + 4) (bxor ((keyC B j).getD (j + 4) 0) ((keyC B j).getD j 0))) := Lib.hid rfl
          generalize (keyC B j).getD (j + 4) 0 = x at hc1 HP HS
          generalize (keyC B j).getD j 0 = y at hc2 HP HS
          obtain ⟨m, Hm⟩ : ∃ m, Hid (j + 4 = m) := ⟨_, Lib.hid rfl⟩
          have hm : (m : Int) - 4 = (j : Int) := by rw [← Hm.out]; omega
          rw [Hm.out] at hc1 hf HP HS ⊢
          have h16 : (m : Int) < 16 := by rw [← Hm.out]; omega
          have hm4 : 4 ≤ m := by rw [← Hm.out]; omega
          have hj16 : (j : Int) < 16 := by omega
          have w1' : IntKind.i64.wrap ((m : Int) - 4) = (j : Int) := by rw [hm]; exact IntWalk.i64_in _ (by omega)
          have w2' : IntKind.i64.wrap (j : Int) = (j : Int) := IntWalk.i64_in _ (by omega)
          have h4m : (4 : Int) ≤ m := by omega
          have hmt : ((m : Int) - 4).toNat = j := by omega
          clear hin hd
          go_wp2
          refine wp_region_still_tail 9 (by kernel_rfl) (by kernel_rfl) ?_
          simp only [List.take_succ_cons, List.take_zero, List.drop_succ_cons, List.drop_zero]
          change wpStill _ _ wr.drew (fun a' => wpList _ _ _ _ a' wr.drew) _ _
          generalize wr.drew = wd at *
          repeat still_step
          refine wpStill_nil ?_
          clear w1' w2' hm hmt
          go_wp2
          go_roundw
          case rel =>
            refine ⟨j + 1, by omega, by rw [← Hm.out]; go_num, ?_⟩
            rw [HS.out]
            exact HP.out
          case measure => simp [intOf]; omega
        · obtain rfl : j = 12 := by omega
          rw [show ((12 + 4 : Nat) : Int) = 16 from rfl]
          have HL : Hid ((keyC B 12).length = 16) := by show _ = _; rw [keyC_length, HB0.out]
          generalize keyC B 12 = R at *
          have hlen : (R.map bv).toArray.size = 16 := by rw [List.size_toArray, List.length_map, HL.out]
          have HI := Lib.hid hin
          clear hin
          go_upto_region 11 with fail
          refine wp_region_lit ?_
          refine wpList_load_row rfl 64 _ rfl w.heap.size rfl _ _ _ _ HI.out.a Tryd.underlying64 rfl (by rw [hlen]; kernel_rfl) ?_
          refine wpList_store_row rfl 64 _ _ rfl (w.heap.size + 1 + 1) (R.map bv).toArray rfl rfl _ _ HI.out.c (by rw [hlen]; kernel_rfl) (by rw [hlen]; rfl) (allOneB _) ?_
          go_wp2
          refine bodyPost_ret (v := .agg (R.map bv).toArray) (results_cell_row rfl _ _ (w.heap.size + 1 + 1) _ _ _ _ rfl (setRow_heap _ _ _ _ _ _ HI.out.c) Tryd.underlying64 rfl (by rw [hlen]; kernel_rfl)) rfl ⟨by rw [HE.out], ?_⟩
          exact below_setRow HI.out.new (by show w.heap.size ≤ w.heap.size + 1 + 1; omega) _

end Go.Proofs.YtgfljldegodpgaaDoor

namespace Go.Proofs.YtgfljldegodpgaaDoor
set_option linter.unusedVariables false
set_option linter.unusedSimpArgs false
open Go.RowKit

/-- the round keys -/
def rk (key : List UInt8) : Nat → List UInt8
  | 0 => key
  | r + 1 => nextK (rk key r) (dbls 1 r)

/-- a block behind r rounds -/
def enc (key b : List UInt8) : Nat → List UInt8
  | 0 => addB b key
  | r + 1 => addB (if r < 9 then mixB (rotB (repB (enc key b r))) else rotB (repB (enc key b r))) (rk key (r + 1))

theorem rk_length (key : List UInt8) (r : Nat) : (rk key r).length = key.length := by
  induction r with
  | zero => rfl
  | succ r ih => unfold rk; rw [nextK_length, ih]

theorem enc_length (key b : List UInt8) (hb : b.length = 16) (r : Nat) : (enc key b r).length = 16 := by
  cases r with
  | zero => unfold enc; rw [addB_length, hb]
  | succ r => unfold enc; rw [addB_length]; split; exact mixB_length _; exact rotB_length _

structure BlkIn (w : World) (g : Nat) (K B : List UInt8) (wr : World) : Prop where
  key : wr.heap[w.heap.size]? = some (.cells (K.map bv).toArray 64)
  blk : wr.heap[w.heap.size + 1]? = some (.cells (B.map bv).toArray 64)
  res : wr.heap[w.heap.size + 1 + 1]? = some (.cells (zeros16.map bv).toArray 64)
  tab : wr.heap[g]? = some (.cells (boxTab.map bv).toArray 76)
  far : w.heap.size + 1 + 1 < g
  new : New w wr

section
variable {w wr : World} {g : Nat} {K B : List UInt8}

theorem BlkIn.next (h : BlkIn w g K B wr) {w' : World} (hn : New wr w') : BlkIn w g K B w' :=
  ⟨(hn.block _ (lt_of_block h.key)).trans h.key, (hn.block _ (lt_of_block h.blk)).trans h.blk, (hn.block _ (lt_of_block h.res)).trans h.res, (hn.block _ (lt_of_block h.tab)).trans h.tab, h.far, New.trans h.new hn⟩

theorem BlkIn.setBlk (h : BlkIn w g K B wr) (R : List UInt8) : BlkIn w g K R (wr.setRow (w.heap.size + 1) (R.map bv).toArray) := by
  have hf := h.far
  exact ⟨(setRow_other _ _ _ _ (by omega)).trans h.key, setRow_heap _ _ _ _ _ _ h.blk, (setRow_other _ _ _ _ (by omega)).trans h.res, (setRow_other _ _ _ _ (by omega)).trans h.tab, hf, below_setRow h.new (by omega) _⟩

theorem BlkIn.setKey (h : BlkIn w g K B wr) (R : List UInt8) : BlkIn w g R B (wr.setRow w.heap.size (R.map bv).toArray) := by
  have hf := h.far
  exact ⟨setRow_heap _ _ _ _ _ _ h.key, (setRow_other _ _ _ _ (by omega)).trans h.blk, (setRow_other _ _ _ _ (by omega)).trans h.res, (setRow_other _ _ _ _ (by omega)).trans h.tab, hf, below_setRow h.new (by omega) _⟩
end

theorem size16 {l : List UInt8} (h : l.length = 16) : (l.map bv).toArray.size = 16 := by rw [List.size_toArray, List.length_map, h]
theorem info16 : (Tryd.prog.info? 64).map (·.size) = some 16 := by kernel_rfl
theorem size256 : (boxTab.map bv).toArray.size = 256 := by rw [List.size_toArray, List.length_map, boxTab_length]
theorem info256 : (Tryd.prog.info? 76).map (·.size) = some 256 := by kernel_rfl

set_option maxRecDepth 100000 in
set_option maxHeartbeats 2000000 in
theorem aesBlock (w : World) (key b : List UInt8) (hk : key.length = 16) (hb : b.length = 16) :
    Calls Tryd.prog 45 #[.agg (key.map bv).toArray, .agg (b.map bv).toArray] w fun e w' => e = .returned (.agg ((enc key b 10).map bv).toArray) ∧ New w w' := by
  have HK := Lib.hid hk
  have HB := Lib.hid hb
  clear hk hb
  have z1 := zero256_run
  go_enter Tryd.func45, Tryd.ntmps45
  go_upto_region 1 with fail
  generalize hw1 : World.alloc (World.alloc (World.alloc w _) _) _ = w1
  have hin : In3 w key 64 b 64 zeros16 64 w1 := by rw [← hw1]; exact In3.made _ _ _ _ _ _ _
  clear hw1
  go_wp2_with fail
  refine (aesBoxesF w1).mono ?_
  rintro e w2 ⟨rfl, N2⟩
  have N3 : New w2 (w2.alloc (.cells zero256 76)) := (Below.refl _ _).alloc (Nat.le_refl _) _
  have hlt2 : w.heap.size + 1 + 1 < w2.heap.size := Nat.lt_of_lt_of_le (lt_of_block hin.c) N2.size
  have HI : Hid (BlkIn w w2.heap.size key b ((w2.alloc (.cells zero256 76)).setRow w2.heap.size (boxTab.map bv).toArray)) := by
    have N4 := New.trans N2 N3
    have e1 := (N4.block _ (lt_of_block hin.a)).trans hin.a
    have e2 := (N4.block _ (lt_of_block hin.b)).trans hin.b
    have e3 := (N4.block _ (lt_of_block hin.c)).trans hin.c
    have hsz := lt_of_block hin.c
    exact ⟨(setRow_other _ _ _ _ (by omega)).trans e1, (setRow_other _ _ _ _ (by omega)).trans e2, (setRow_other _ _ _ _ (by omega)).trans e3, setRow_heap _ _ _ _ _ _ (heap_alloc_new _ _), hlt2, below_setRow (New.trans hin.new N4) (by omega) _⟩
  clear hin N3 hlt2
  go_upto_region 2 with (refine wpList_store_row rfl 76 _ _ rfl w2.heap.size (boxTab.map bv).toArray rfl rfl _ _ (heap_alloc_new _ _) (by rw [size256]; exact info256) (by rw [size256]; rfl) (allOneB _) ?_)
  generalize hw3 : World.setRow _ _ _ = w3
  have hin : BlkIn w w2.heap.size key b w3 := by rw [← hw3]; exact HI.out
  clear hw3 HI z1
  generalize w2.heap.size = g at *
  go_upto_region 3 with fail
  refine wp_region_lit ?_
  refine wpList_load_row rfl 64 _ rfl (w.heap.size + 1) rfl _ _ _ _ hin.blk Tryd.underlying64 rfl (by rw [size16 HB.out]; exact info16) ?_
  refine wpList_load_row rfl 64 _ rfl w.heap.size rfl _ _ _ _ hin.key Tryd.underlying64 rfl (by rw [size16 HK.out]; exact info16) ?_
  go_wp2_with fail
  refine (aesAdded w3 b key HB.out HK.out).mono ?_
  rintro e w4 ⟨rfl, N4⟩
  have HI := Lib.hid (hin.next N4)
  have HE0 : Hid ((addB b key).length = 16) := by show _ = _; rw [addB_length, HB.out]
  clear hin N4 N2
  go_upto_region 4 with (refine wpList_store_row rfl 64 _ _ rfl (w.heap.size + 1) ((addB b key).map bv).toArray rfl rfl _ _ HI.out.blk (by rw [size16 HE0.out]; exact info16) (by rw [size16 HB.out, size16 HE0.out]) (allOneB _) ?_)
  generalize hw5 : World.setRow _ _ _ = w5
  have hin : BlkIn w g key (addB b key) w5 := by rw [← hw5]; exact HI.out.setBlk _
  clear hw5 HI
  have HIN := Lib.hid hin
  clear hin HE0
  go_wp2
  go_loopw [6, 12] (fun p i wr => ∃ r : Nat, r ≤ 10 ∧ i = .int .i64 r ∧ p = bv (dbls 1 r) ∧ BlkIn w g (rk key r) (enc key b r) wr) (fun _ i _ => 10 - (intOf i).toNat)
  case atStart => exact ⟨0, by omega, rfl, rfl, HIN.out⟩
  case round =>
    clear HIN
    obtain ⟨r, hr, rfl, rfl, hin⟩ := hrel
    by_cases hlt : r < 10
    · have HKL : Hid ((rk key r).length = 16) := by show _ = _; rw [rk_length, HK.out]
      have HBL := Lib.hid (enc_length key b HB.out r)
      have HKS : Hid (rk key (r + 1) = nextK (rk key r) (dbls 1 r)) := Lib.hid rfl
      have HDS : Hid (dbls 1 (r + 1) = dbl (dbls 1 r)) := Lib.hid rfl
      have h10 : (r : Int) < 10 := by omega
      have HES : Hid (enc key b (r + 1) = addB (if r < 9 then mixB (rotB (repB (enc key b r))) else rotB (repB (enc key b r))) (rk key (r + 1))) := Lib.hid rfl
      rw [HKS.out] at HES
      generalize rk key r = K at *
      generalize enc key b r = B at *
      generalize dbls 1 r = p at *
      have HI := Lib.hid hin
      clear hin
      go_upto_region 7 with fail
      refine wp_region_lit ?_
      refine wpList_load_row rfl 64 _ rfl (w.heap.size + 1) rfl _ _ _ _ HI.out.blk Tryd.underlying64 rfl (by rw [size16 HBL.out]; exact info16) ?_
      refine wpList_load_row rfl 76 _ rfl g rfl _ _ _ _ HI.out.tab Tryd.underlying76 rfl (by rw [size256]; exact info256) ?_
      go_wp2_with fail
      refine (aesReplaced wr B HBL.out).mono ?_
      rintro e w6 ⟨rfl, N6⟩
      have HI6 := Lib.hid (HI.out.next N6)
      have HR6 : Hid ((repB B).length = 16) := by show _ = _; rw [repB_length, HBL.out]
      clear HI N6
      go_wp2_with fail
      refine (aesRotated w6 (repB B) HR6.out).mono ?_
      rintro e w7 ⟨rfl, N7⟩
      have HI7 := Lib.hid (HI6.out.next N7)
      have HR7 := Lib.hid (rotB_length (repB B))
      clear HI6 N7
      go_upto_region 8 with (refine wpList_store_row rfl 64 _ _ rfl (w.heap.size + 1) ((rotB (repB B)).map bv).toArray rfl rfl _ _ HI7.out.blk (by rw [size16 HR7.out]; exact info16) (by rw [size16 HBL.out, size16 HR7.out]) (allOneB _) ?_)
      generalize hw8 : World.setRow _ _ _ = w8
      have HI8 : Hid (BlkIn w g K (rotB (repB B)) w8) := by show BlkIn _ _ _ _ _; rw [← hw8]; exact HI7.out.setBlk _
      clear hw8 HI7
      generalize rotB (repB B) = S at *
      by_cases h9 : r < 9
      · have h9i : (r : Int) < 9 := by omega
        rw [if_pos h9] at HES
        have HM := Lib.hid (mixB_length S)
        go_upto_region 9 with fail
        refine wp_region_lit ?_
        refine wpList_load_row rfl 64 _ rfl (w.heap.size + 1) rfl _ _ _ _ HI8.out.blk Tryd.underlying64 rfl (by rw [size16 HR7.out]; exact info16) ?_
        go_wp2_with fail
        refine (aesMixed w8 S HR7.out).mono ?_
        rintro e wm ⟨rfl, Nm⟩
        have HIm := Lib.hid (HI8.out.next Nm)
        clear HI8 Nm
        go_upto_region 10 with (refine wpList_store_row rfl 64 _ _ rfl (w.heap.size + 1) ((mixB S).map bv).toArray rfl rfl _ _ HIm.out.blk (by rw [size16 HM.out]; exact info16) (by rw [size16 HR7.out, size16 HM.out]) (allOneB _) ?_)
        generalize hwx : World.setRow _ _ _ = wx
        have HIx : Hid (BlkIn w g K (mixB S) wx) := by show BlkIn _ _ _ _ _; rw [← hwx]; exact HIm.out.setBlk _
        clear hwx HIm
        generalize mixB S = M at *
        refine wp_region_lit ?_
        refine wpList_load_row rfl 64 _ rfl w.heap.size rfl _ _ _ _ HIx.out.key Tryd.underlying64 rfl (by rw [size16 HKL.out]; exact info16) ?_
        go_wp2_with (refine wpList_load_row rfl 76 _ rfl g rfl _ _ _ _ HIx.out.tab Tryd.underlying76 rfl (by rw [size256]; exact info256) ?_)
        refine (aesNext wx K p HKL.out).mono ?_
        rintro e w9 ⟨rfl, N9⟩
        have HI9 := Lib.hid (HIx.out.next N9)
        have HN9 : Hid ((nextK K p).length = 16) := by show _ = _; rw [nextK_length, HKL.out]
        clear HIx N9
        go_upto_region 11 with (refine wpList_store_row rfl 64 _ _ rfl w.heap.size ((nextK K p).map bv).toArray rfl rfl _ _ HI9.out.key (by rw [size16 HN9.out]; exact info16) (by rw [size16 HKL.out, size16 HN9.out]) (allOneB _) ?_)
        generalize hwa : World.setRow _ _ _ = wa
        have HIa : Hid (BlkIn w g (nextK K p) M wa) := by show BlkIn _ _ _ _ _; rw [← hwa]; exact HI9.out.setKey _
        clear hwa HI9
        generalize nextK K p = K' at *
        refine wp_region_lit ?_
        refine wpList_load_row rfl 64 _ rfl (w.heap.size + 1) rfl _ _ _ _ HIa.out.blk Tryd.underlying64 rfl (by rw [size16 HM.out]; exact info16) ?_
        refine wpList_load_row rfl 64 _ rfl w.heap.size rfl _ _ _ _ HIa.out.key Tryd.underlying64 rfl (by rw [size16 HN9.out]; exact info16) ?_
        go_wp2_with fail
        refine (aesAdded wa M K' HM.out HN9.out).mono ?_
        rintro e wb ⟨rfl, Nb⟩
        have HIb := Lib.hid (HIa.out.next Nb)
        have HXL : Hid ((addB M K').length = 16) := by show _ = _; rw [addB_length, HM.out]
        clear HIa Nb
        go_upto_region 12 with (refine wpList_store_row rfl 64 _ _ rfl (w.heap.size + 1) ((addB M K').map bv).toArray rfl rfl _ _ HIb.out.blk (by rw [size16 HXL.out]; exact info16) (by rw [size16 HM.out, size16 HXL.out]) (allOneB _) ?_)
        generalize hwc : World.setRow _ _ _ = wc
        have HIc : Hid (BlkIn w g K' (addB M K') wc) := by show BlkIn _ _ _ _ _; rw [← hwc]; exact HIb.out.setBlk _
        clear hwc HIb
        generalize addB M K' = Z at *
        go_wp2_with (go_at_call 62; refine (aesDoubled _ _).mono ?_; rintro e w' ⟨rfl, rfl⟩)
        go_roundw
        case rel => exact ⟨r + 1, by omega, by go_num, by rw [HDS.out], by rw [HKS.out, HES.out]; exact HIc.out⟩
        case measure => simp [intOf]; omega
      · have h9i : ¬ (r : Int) < 9 := by omega
        rw [if_neg h9] at HES
        go_upto_region 10 with fail
        refine wp_region_lit ?_
        refine wpList_load_row rfl 64 _ rfl w.heap.size rfl _ _ _ _ HI8.out.key Tryd.underlying64 rfl (by rw [size16 HKL.out]; exact info16) ?_
        go_wp2_with (refine wpList_load_row rfl 76 _ rfl g rfl _ _ _ _ HI8.out.tab Tryd.underlying76 rfl (by rw [size256]; exact info256) ?_)
        refine (aesNext w8 K p HKL.out).mono ?_
        rintro e w9 ⟨rfl, N9⟩
        have HI9 := Lib.hid (HI8.out.next N9)
        have HN9 : Hid ((nextK K p).length = 16) := by show _ = _; rw [nextK_length, HKL.out]
        clear HI8 N9
        go_upto_region 11 with (refine wpList_store_row rfl 64 _ _ rfl w.heap.size ((nextK K p).map bv).toArray rfl rfl _ _ HI9.out.key (by rw [size16 HN9.out]; exact info16) (by rw [size16 HKL.out, size16 HN9.out]) (allOneB _) ?_)
        generalize hwa : World.setRow _ _ _ = wa
        have HIa : Hid (BlkIn w g (nextK K p) S wa) := by show BlkIn _ _ _ _ _; rw [← hwa]; exact HI9.out.setKey _
        clear hwa HI9
        generalize nextK K p = K' at *
        refine wp_region_lit ?_
        refine wpList_load_row rfl 64 _ rfl (w.heap.size + 1) rfl _ _ _ _ HIa.out.blk Tryd.underlying64 rfl (by rw [size16 HR7.out]; exact info16) ?_
        refine wpList_load_row rfl 64 _ rfl w.heap.size rfl _ _ _ _ HIa.out.key Tryd.underlying64 rfl (by rw [size16 HN9.out]; exact info16) ?_
        go_wp2_with fail
        refine (aesAdded wa S K' HR7.out HN9.out).mono ?_
        rintro e wb ⟨rfl, Nb⟩
        have HIb := Lib.hid (HIa.out.next Nb)
        have HXL : Hid ((addB S K').length = 16) := by show _ = _; rw [addB_length, HR7.out]
        clear HIa Nb
        go_upto_region 12 with (refine wpList_store_row rfl 64 _ _ rfl (w.heap.size + 1) ((addB S K').map bv).toArray rfl rfl _ _ HIb.out.blk (by rw [size16 HXL.out]; exact info16) (by rw [size16 HR7.out, size16 HXL.out]) (allOneB _) ?_)
        generalize hwc : World.setRow _ _ _ = wc
        have HIc : Hid (BlkIn w g K' (addB S K') wc) := by show BlkIn _ _ _ _ _; rw [← hwc]; exact HIb.out.setBlk _
        clear hwc HIb
        generalize addB S K' = Z at *
        go_wp2_with (go_at_call 62; refine (aesDoubled _ _).mono ?_; rintro e w' ⟨rfl, rfl⟩)
        go_roundw
        case rel => exact ⟨r + 1, by omega, by go_num, by rw [HDS.out], by rw [HKS.out, HES.out]; exact HIc.out⟩
        case measure => simp [intOf]; omega
    · obtain rfl : r = 10 := by omega
      rw [show ((10 : Nat) : Int) = 10 from rfl]
      have HBL := Lib.hid (enc_length key b HB.out 10)
      have HI := Lib.hid hin
      clear hin
      obtain ⟨R, HR⟩ : ∃ R, Hid (enc key b 10 = R) := ⟨_, Lib.hid rfl⟩
      rw [HR.out] at HI HBL
      go_upto_region 14 with fail
      refine wp_region_lit ?_
      refine wpList_load_row rfl 64 _ rfl (w.heap.size + 1) rfl _ _ _ _ HI.out.blk Tryd.underlying64 rfl (by rw [size16 HBL.out]; exact info16) ?_
      refine wpList_store_row rfl 64 _ _ rfl (w.heap.size + 1 + 1) (R.map bv).toArray rfl rfl _ _ HI.out.res (by rw [size16 HBL.out]; exact info16) (by rw [size16 HBL.out]; rfl) (allOneB _) ?_
      go_wp2
      refine bodyPost_ret (v := .agg (R.map bv).toArray) (results_cell_row rfl _ _ (w.heap.size + 1 + 1) _ _ _ _ rfl (setRow_heap _ _ _ _ _ _ HI.out.res) Tryd.underlying64 rfl (by rw [size16 HBL.out]; exact info16)) rfl ⟨by rw [HR.out], ?_⟩
      exact below_setRow HI.out.new (by show w.heap.size ≤ w.heap.size + 1 + 1; omega) _

end Go.Proofs.YtgfljldegodpgaaDoor
