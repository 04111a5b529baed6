/-
  AES-128 as plain functions over bytes: products, inverses, the S-box; what both the program and the reference compute.
-/
import Derived.Test.YtapoelmhnbgidaaBase
import Derived.KernelRfl
namespace Go.Proofs.Ytapoelmhnbgidaa
set_option linter.unusedVariables false
set_option linter.unusedSimpArgs false

theorem forall_u8 {P : UInt8 → Prop} (h : ∀ n, n < 256 → P (UInt8.ofNat n)) (a : UInt8) : P a := by
  have := h a.toNat (u8_lt a)
  rwa [UInt8.ofNat_toNat] at this

theorem bxor_comm (a b : UInt8) : bxor a b = bxor b a := UInt8.xor_comm a b
theorem bxor_assoc (a b c : UInt8) : bxor (bxor a b) c = bxor a (bxor b c) := UInt8.xor_assoc a b c
theorem bxor_left_comm (a b c : UInt8) : bxor a (bxor b c) = bxor b (bxor a c) := by rw [← bxor_assoc, bxor_comm a b, bxor_assoc]
theorem bxor_self (a : UInt8) : bxor a a = 0 := UInt8.xor_self
theorem bxor_0 (a : UInt8) : bxor a 0 = a := UInt8.xor_zero
theorem bxor_0' (a : UInt8) : bxor 0 a = a := UInt8.zero_xor
theorem bxor_cancel (a b : UInt8) : bxor a (bxor a b) = b := by rw [← bxor_assoc, bxor_self, bxor_0']
theorem bxor_inj (a b c : UInt8) (h : bxor a c = bxor b c) : a = b := by
  have := congrArg (fun x => bxor c x) h
  simp only [bxor_comm _ c, bxor_cancel] at this
  exact this

/-- the product of c and x -/
def dbl (c : UInt8) : UInt8 := ⟨(c.toBitVec <<< 1) ^^^ (if c.toBitVec.msb then 27#8 else 0#8)⟩

theorem dbl_lt : ∀ c : UInt8, c.toNat < 128 → dbl c = UInt8.ofNat (c.toNat * 2) := by
  intro c
  refine forall_u8 (P := fun c => c.toNat < 128 → dbl c = UInt8.ofNat (c.toNat * 2)) ?_ c
  decide +kernel

theorem dbl_ge : ∀ c : UInt8, ¬ c.toNat < 128 → dbl c = bxor (UInt8.ofNat (c.toNat * 2 - 256)) 27 := by
  intro c
  refine forall_u8 (P := fun c => ¬ c.toNat < 128 → dbl c = bxor (UInt8.ofNat (c.toNat * 2 - 256)) 27) ?_ c
  decide +kernel

theorem bv_xor4 (a b c d : BitVec 8) : (a ^^^ b) ^^^ (c ^^^ d) = (a ^^^ c) ^^^ (b ^^^ d) := by
  rw [BitVec.xor_assoc, BitVec.xor_assoc, ← BitVec.xor_assoc b, BitVec.xor_comm b c, BitVec.xor_assoc]

theorem dbl_xor (a b : UInt8) : dbl (bxor a b) = bxor (dbl a) (dbl b) := by
  unfold dbl bxor
  apply UInt8.eq_of_toBitVec_eq
  simp only [UInt8.toBitVec_xor, BitVec.msb_xor, BitVec.shiftLeft_xor_distrib]
  rw [bv_xor4]
  congr 1
  cases a.toBitVec.msb <;> cases b.toBitVec.msb <;> decide

/-- the product of a and x, k times -/
def dbls (a : UInt8) : Nat → UInt8
  | 0 => a
  | k + 1 => dbl (dbls a k)

/-- the products by the last k bits of b -/
def mulTo (a b : UInt8) : Nat → UInt8
  | 0 => 0
  | k + 1 => if b.toNat / 2 ^ k % 2 = 1 then bxor (mulTo a b k) (dbls a k) else mulTo a b k

/-- a product -/
def gmul (a b : UInt8) : UInt8 := mulTo a b 8

theorem dbls_xor (a b : UInt8) (k : Nat) : dbls (bxor a b) k = bxor (dbls a k) (dbls b k) := by
  induction k with
  | zero => rfl
  | succ k ih => unfold dbls; rw [ih, dbl_xor]

theorem bxor4 (a b c d : UInt8) : bxor (bxor a b) (bxor c d) = bxor (bxor a c) (bxor b d) := by
  rw [bxor_assoc, bxor_assoc, bxor_left_comm b c d]

theorem mulTo_xor (a a' b : UInt8) (k : Nat) : mulTo (bxor a a') b k = bxor (mulTo a b k) (mulTo a' b k) := by
  induction k with
  | zero => exact (bxor_self 0).symm
  | succ k ih =>
    unfold mulTo
    split
    · rw [ih, dbls_xor, bxor4]
    · exact ih

theorem bit_xor (a b k : Nat) : (a ^^^ b) / 2 ^ k % 2 = (a / 2 ^ k % 2 + b / 2 ^ k % 2) % 2 := by
  have h := Nat.testBit_xor a b k
  simp only [Nat.testBit_eq_decide_div_mod_eq] at h
  have e1 := Nat.mod_two_eq_zero_or_one ((a ^^^ b) / 2 ^ k)
  have e2 := Nat.mod_two_eq_zero_or_one (a / 2 ^ k)
  have e3 := Nat.mod_two_eq_zero_or_one (b / 2 ^ k)
  rcases e1 with e1 | e1 <;> rcases e2 with e2 | e2 <;> rcases e3 with e3 | e3 <;> rw [e1, e2, e3] at h ⊢ <;> simp at h

theorem mulTo_xor' (a b b' : UInt8) (k : Nat) : mulTo a (bxor b b') k = bxor (mulTo a b k) (mulTo a b' k) := by
  induction k with
  | zero => exact (bxor_self 0).symm
  | succ k ih =>
    have hb : (bxor b b').toNat / 2 ^ k % 2 = (b.toNat / 2 ^ k % 2 + b'.toNat / 2 ^ k % 2) % 2 := by
      unfold bxor; rw [UInt8.toNat_xor, bit_xor]
    unfold mulTo
    rw [hb, ih]
    have e2 := Nat.mod_two_eq_zero_or_one (b.toNat / 2 ^ k)
    have e3 := Nat.mod_two_eq_zero_or_one (b'.toNat / 2 ^ k)
    rcases e2 with e2 | e2 <;> rcases e3 with e3 | e3 <;> rw [e2, e3] <;> simp only [Nat.add_zero, Nat.zero_add, Nat.reduceAdd, Nat.reduceMod, if_true, if_false, Nat.zero_ne_one, reduceCtorEq]
    · rw [bxor_assoc]
    · rw [bxor_assoc, bxor_comm (mulTo a b' k), ← bxor_assoc]
    · rw [bxor4, bxor_self, bxor_0]

theorem gmul_xor (a a' b : UInt8) : gmul (bxor a a') b = bxor (gmul a b) (gmul a' b) := mulTo_xor a a' b 8
theorem gmul_xor' (a b b' : UInt8) : gmul a (bxor b b') = bxor (gmul a b) (gmul a b') := mulTo_xor' a b b' 8

/-- what holds of the eight bits and of sums holds of all bytes -/
theorem byte_ind {P : UInt8 → Prop} (h0 : P 0) (h1 : ∀ i, i < 8 → P (UInt8.ofNat (2 ^ i))) (h2 : ∀ a b, P a → P b → P (bxor a b)) (a : UInt8) : P a := by
  have key : ∀ n, n < 256 → UInt8.ofNat n = (List.range 8).foldl (fun x i => if n / 2 ^ i % 2 = 1 then bxor x (UInt8.ofNat (2 ^ i)) else x) 0 := by decide +kernel
  have fold : ∀ (n : Nat) (l : List Nat) (x : UInt8), (∀ i ∈ l, i < 8) → P x → P (l.foldl (fun x i => if n / 2 ^ i % 2 = 1 then bxor x (UInt8.ofNat (2 ^ i)) else x) x) := by
    intro n l
    induction l with
    | nil => intro x _ hx; exact hx
    | cons i l ih =>
      intro x hl hx
      rw [List.foldl_cons]
      apply ih _ (fun j hj => hl j (List.mem_cons_of_mem _ hj))
      split
      · exact h2 _ _ hx (h1 i (hl i List.mem_cons_self))
      · exact hx
  refine forall_u8 (fun n hn => ?_) a
  rw [key n hn]
  exact fold n _ _ (fun i hi => by simpa using hi) h0

theorem gmul_0 (a : UInt8) : gmul a 0 = 0 := by
  refine forall_u8 (P := fun a => gmul a 0 = 0) ?_ a
  decide +kernel
theorem gmul_0' (a : UInt8) : gmul 0 a = 0 := by
  refine forall_u8 (P := fun a => gmul 0 a = 0) ?_ a
  decide +kernel
theorem gmul_1 (a : UInt8) : gmul a 1 = a := by
  refine forall_u8 (P := fun a => gmul a 1 = a) ?_ a
  decide +kernel
theorem gmul_2 (a : UInt8) : gmul a 2 = dbl a := by
  refine forall_u8 (P := fun a => gmul a 2 = dbl a) ?_ a
  decide +kernel
theorem gmul_3 (a : UInt8) : gmul a 3 = bxor (dbl a) a := by
  refine forall_u8 (P := fun a => gmul a 3 = bxor (dbl a) a) ?_ a
  decide +kernel

theorem gmul_comm (a b : UInt8) : gmul a b = gmul b a := by
  refine byte_ind (P := fun a => ∀ b, gmul a b = gmul b a) (fun b => by rw [gmul_0, gmul_0']) (fun i hi b => ?_) (fun a a' h h' b => by rw [gmul_xor, gmul_xor', h, h']) a b
  refine byte_ind (P := fun b => gmul (UInt8.ofNat (2 ^ i)) b = gmul b (UInt8.ofNat (2 ^ i))) (by rw [gmul_0, gmul_0']) (fun j hj => ?_) (fun b b' h h' => by rw [gmul_xor, gmul_xor', h, h']) b
  have : ∀ i, i < 8 → ∀ j, j < 8 → gmul (UInt8.ofNat (2 ^ i)) (UInt8.ofNat (2 ^ j)) = gmul (UInt8.ofNat (2 ^ j)) (UInt8.ofNat (2 ^ i)) := by decide +kernel
  exact this i hi j hj

theorem gmul_assoc (a b c : UInt8) : gmul a (gmul b c) = gmul (gmul a b) c := by
  refine byte_ind (P := fun a => ∀ b c, gmul a (gmul b c) = gmul (gmul a b) c) (fun b c => by rw [gmul_0', gmul_0', gmul_0']) (fun i hi b c => ?_) (fun a a' h h' b c => by rw [gmul_xor, gmul_xor, gmul_xor, h, h']) a b c
  refine byte_ind (P := fun b => ∀ c, gmul (UInt8.ofNat (2 ^ i)) (gmul b c) = gmul (gmul (UInt8.ofNat (2 ^ i)) b) c) (fun c => by rw [gmul_0', gmul_0, gmul_0']) (fun j hj c => ?_) (fun b b' h h' c => by rw [gmul_xor, gmul_xor', gmul_xor', gmul_xor, h, h']) b c
  refine byte_ind (P := fun c => gmul (UInt8.ofNat (2 ^ i)) (gmul (UInt8.ofNat (2 ^ j)) c) = gmul (gmul (UInt8.ofNat (2 ^ i)) (UInt8.ofNat (2 ^ j))) c) (by rw [gmul_0, gmul_0, gmul_0]) (fun k hk => ?_) (fun c c' h h' => by rw [gmul_xor', gmul_xor', gmul_xor', h, h']) c
  have : ∀ i, i < 8 → ∀ j, j < 8 → ∀ k, k < 8 → gmul (UInt8.ofNat (2 ^ i)) (gmul (UInt8.ofNat (2 ^ j)) (UInt8.ofNat (2 ^ k))) = gmul (gmul (UInt8.ofNat (2 ^ i)) (UInt8.ofNat (2 ^ j))) (UInt8.ofNat (2 ^ k)) := by decide +kernel
  exact this i hi j hj k hk

/-- inverses; 0 for 0 -/
def invTab : List UInt8 := [0, 1, 141, 246, 203, 82, 123, 209, 232, 79, 41, 192, 176, 225, 229, 199, 116, 180, 170, 75, 153, 43, 96, 95, 88, 63, 253, 204, 255, 64, 238, 178, 58, 110, 90, 241, 85, 77, 168, 201, 193, 10, 152, 21, 48, 68, 162, 194, 44, 69, 146, 108, 243, 57, 102, 66, 242, 53, 32, 111, 119, 187, 89, 25, 29, 254, 55, 103, 45, 49, 245, 105, 167, 100, 171, 19, 84, 37, 233, 9, 237, 92, 5, 202, 76, 36, 135, 191, 24, 62, 34, 240, 81, 236, 97, 23, 22, 94, 175, 211, 73, 166, 54, 67, 244, 71, 145, 223, 51, 147, 33, 59, 121, 183, 151, 133, 16, 181, 186, 60, 182, 112, 208, 6, 161, 250, 129, 130, 131, 126, 127, 128, 150, 115, 190, 86, 155, 158, 149, 217, 247, 2, 185, 164, 222, 106, 50, 109, 216, 138, 132, 114, 42, 20, 159, 136, 249, 220, 137, 154, 251, 124, 46, 195, 143, 184, 101, 72, 38, 200, 18, 74, 206, 231, 210, 98, 12, 224, 31, 239, 17, 117, 120, 113, 165, 142, 118, 61, 189, 188, 134, 87, 11, 40, 47, 163, 218, 212, 228, 15, 169, 39, 83, 4, 27, 252, 172, 230, 122, 7, 174, 99, 197, 219, 226, 234, 148, 139, 196, 213, 157, 248, 144, 107, 177, 13, 214, 235, 198, 14, 207, 173, 8, 78, 215, 227, 93, 80, 30, 179, 91, 35, 56, 52, 104, 70, 3, 140, 221, 156, 125, 160, 205, 26, 65, 28]
def ginv (c : UInt8) : UInt8 := invTab.getD c.toNat 0

theorem gmul_inv (a : UInt8) (h : a ≠ 0) : gmul a (ginv a) = 1 := by
  refine forall_u8 (P := fun a => a ≠ 0 → gmul a (ginv a) = 1) ?_ a h
  decide +kernel

/-- the inverse is the one byte whose product is 1 -/
theorem gmul_eq_1 (a i : UInt8) (h : a ≠ 0) : gmul a i = 1 ↔ i = ginv a := by
  constructor
  · intro hi
    have e1 : i = gmul (gmul (ginv a) a) i := by rw [gmul_comm (ginv a), gmul_inv a h, gmul_comm, gmul_1]
    rw [← gmul_assoc, hi, gmul_1] at e1
    exact e1
  · rintro rfl; exact gmul_inv a h

theorem ginv_ne (a : UInt8) (h : a ≠ 0) : ginv a ≠ 0 := by
  intro h0
  have := gmul_inv a h
  rw [h0, gmul_0] at this
  exact absurd this (by decide)

theorem ginv_0 : ginv 0 = 0 := by decide +kernel

/-- turned left by n bits -/
def rotl8 (b : UInt8) (n : Nat) : UInt8 := UInt8.ofNat (b.toNat * 2 ^ n % 256 ||| b.toNat / 2 ^ (8 - n))

/-- the S-box value of the byte whose inverse is b, n turns taken in -/
def boxedTo (b : UInt8) : Nat → UInt8
  | 0 => bxor b 99
  | n + 1 => bxor (boxedTo b n) (rotl8 b (n + 1))

def boxTab : List UInt8 := [99, 124, 119, 123, 242, 107, 111, 197, 48, 1, 103, 43, 254, 215, 171, 118, 202, 130, 201, 125, 250, 89, 71, 240, 173, 212, 162, 175, 156, 164, 114, 192, 183, 253, 147, 38, 54, 63, 247, 204, 52, 165, 229, 241, 113, 216, 49, 21, 4, 199, 35, 195, 24, 150, 5, 154, 7, 18, 128, 226, 235, 39, 178, 117, 9, 131, 44, 26, 27, 110, 90, 160, 82, 59, 214, 179, 41, 227, 47, 132, 83, 209, 0, 237, 32, 252, 177, 91, 106, 203, 190, 57, 74, 76, 88, 207, 208, 239, 170, 251, 67, 77, 51, 133, 69, 249, 2, 127, 80, 60, 159, 168, 81, 163, 64, 143, 146, 157, 56, 245, 188, 182, 218, 33, 16, 255, 243, 210, 205, 12, 19, 236, 95, 151, 68, 23, 196, 167, 126, 61, 100, 93, 25, 115, 96, 129, 79, 220, 34, 42, 144, 136, 70, 238, 184, 20, 222, 94, 11, 219, 224, 50, 58, 10, 73, 6, 36, 92, 194, 211, 172, 98, 145, 149, 228, 121, 231, 200, 55, 109, 141, 213, 78, 169, 108, 86, 244, 234, 101, 122, 174, 8, 186, 120, 37, 46, 28, 166, 180, 198, 232, 221, 116, 31, 75, 189, 139, 138, 112, 62, 181, 102, 72, 3, 246, 14, 97, 53, 87, 185, 134, 193, 29, 158, 225, 248, 152, 17, 105, 217, 142, 148, 155, 30, 135, 233, 206, 85, 40, 223, 140, 161, 137, 13, 191, 230, 66, 104, 65, 153, 45, 15, 176, 84, 187, 22]
/-- the S-box value -/
def gbox (c : UInt8) : UInt8 := boxTab.getD c.toNat 0
def unboxTab : List UInt8 := [82, 9, 106, 213, 48, 54, 165, 56, 191, 64, 163, 158, 129, 243, 215, 251, 124, 227, 57, 130, 155, 47, 255, 135, 52, 142, 67, 68, 196, 222, 233, 203, 84, 123, 148, 50, 166, 194, 35, 61, 238, 76, 149, 11, 66, 250, 195, 78, 8, 46, 161, 102, 40, 217, 36, 178, 118, 91, 162, 73, 109, 139, 209, 37, 114, 248, 246, 100, 134, 104, 152, 22, 212, 164, 92, 204, 93, 101, 182, 146, 108, 112, 72, 80, 253, 237, 185, 218, 94, 21, 70, 87, 167, 141, 157, 132, 144, 216, 171, 0, 140, 188, 211, 10, 247, 228, 88, 5, 184, 179, 69, 6, 208, 44, 30, 143, 202, 63, 15, 2, 193, 175, 189, 3, 1, 19, 138, 107, 58, 145, 17, 65, 79, 103, 220, 234, 151, 242, 207, 206, 240, 180, 230, 115, 150, 172, 116, 34, 231, 173, 53, 133, 226, 249, 55, 232, 28, 117, 223, 110, 71, 241, 26, 113, 29, 41, 197, 137, 111, 183, 98, 14, 170, 24, 190, 27, 252, 86, 62, 75, 198, 210, 121, 32, 154, 219, 192, 254, 120, 205, 90, 244, 31, 221, 168, 51, 136, 7, 199, 49, 177, 18, 16, 89, 39, 128, 236, 95, 96, 81, 127, 169, 25, 181, 74, 13, 45, 229, 122, 159, 147, 201, 156, 239, 160, 224, 59, 77, 174, 42, 245, 176, 200, 235, 187, 60, 131, 83, 153, 97, 23, 43, 4, 126, 186, 119, 214, 38, 225, 105, 20, 99, 85, 33, 12, 125]
def gunbox (c : UInt8) : UInt8 := unboxTab.getD c.toNat 0

theorem boxTab_length : boxTab.length = 256 := by decide +kernel

theorem gbox_eq (c : UInt8) : gbox c = boxedTo (ginv c) 4 := by
  refine forall_u8 (P := fun c => gbox c = boxedTo (ginv c) 4) ?_ c
  decide +kernel

theorem gunbox_box (c : UInt8) : gunbox (gbox c) = c := by
  refine forall_u8 (P := fun c => gunbox (gbox c) = c) ?_ c
  decide +kernel

theorem gbox_inj (a b : UInt8) : gbox a = gbox b ↔ a = b :=
  ⟨fun h => by rw [← gunbox_box a, h, gunbox_box], fun h => by rw [h]⟩

/-- the powers of 3 -/
def powTab : List UInt8 := [1, 3, 5, 15, 17, 51, 85, 255, 26, 46, 114, 150, 161, 248, 19, 53, 95, 225, 56, 72, 216, 115, 149, 164, 247, 2, 6, 10, 30, 34, 102, 170, 229, 52, 92, 228, 55, 89, 235, 38, 106, 190, 217, 112, 144, 171, 230, 49, 83, 245, 4, 12, 20, 60, 68, 204, 79, 209, 104, 184, 211, 110, 178, 205, 76, 212, 103, 169, 224, 59, 77, 215, 98, 166, 241, 8, 24, 40, 120, 136, 131, 158, 185, 208, 107, 189, 220, 127, 129, 152, 179, 206, 73, 219, 118, 154, 181, 196, 87, 249, 16, 48, 80, 240, 11, 29, 39, 105, 187, 214, 97, 163, 254, 25, 43, 125, 135, 146, 173, 236, 47, 113, 147, 174, 233, 32, 96, 160, 251, 22, 58, 78, 210, 109, 183, 194, 93, 231, 50, 86, 250, 21, 63, 65, 195, 94, 226, 61, 71, 201, 64, 192, 91, 237, 44, 116, 156, 191, 218, 117, 159, 186, 213, 100, 172, 239, 42, 126, 130, 157, 188, 223, 122, 142, 137, 128, 155, 182, 193, 88, 232, 35, 101, 175, 234, 37, 111, 177, 200, 67, 197, 84, 252, 31, 33, 99, 165, 244, 7, 9, 27, 45, 119, 153, 176, 203, 70, 202, 69, 207, 74, 222, 121, 139, 134, 145, 168, 227, 62, 66, 198, 81, 243, 14, 18, 54, 90, 238, 41, 123, 141, 140, 143, 138, 133, 148, 167, 242, 13, 23, 57, 75, 221, 124, 132, 151, 162, 253, 28, 36, 108, 180, 199, 82, 246, 1]
def pow3 (k : Nat) : UInt8 := powTab.getD k 0

theorem pow3_succ : ∀ k, k < 255 → pow3 (k + 1) = bxor (pow3 k) (dbl (pow3 k)) := by decide +kernel
theorem pow3_gmul (k : Nat) (h : k < 255) : pow3 (k + 1) = gmul (pow3 k) 3 := by rw [gmul_3, bxor_comm, pow3_succ k h]

/-- l, whose first n places are filled -/
def fillTo (f : Nat → UInt8) (l : List UInt8) : Nat → List UInt8
  | 0 => l
  | n + 1 => (fillTo f l n).set n (f n)

theorem fillTo_length (f : Nat → UInt8) (l : List UInt8) (n : Nat) : (fillTo f l n).length = l.length := by
  induction n with
  | zero => rfl
  | succ n ih => unfold fillTo; rw [List.length_set, ih]

theorem fillTo_ge (f : Nat → UInt8) (l : List UInt8) (n i : Nat) (h : n ≤ i) : (fillTo f l n).getD i 0 = l.getD i 0 := by
  induction n with
  | zero => rfl
  | succ n ih =>
    unfold fillTo
    rw [List.getD_eq_getElem?_getD, List.getElem?_set_ne (by omega), ← List.getD_eq_getElem?_getD]
    exact ih (by omega)

theorem fillTo_lt (f : Nat → UInt8) (l : List UInt8) (n i : Nat) (h : i < n) (hi : i < l.length) : (fillTo f l n).getD i 0 = f i := by
  induction n with
  | zero => omega
  | succ n ih =>
    unfold fillTo
    by_cases e : i = n
    · subst e
      rw [List.getD_eq_getElem?_getD, List.getElem?_set_self (by rw [fillTo_length]; exact hi)]
      rfl
    · rw [List.getD_eq_getElem?_getD, List.getElem?_set_ne (by omega), ← List.getD_eq_getElem?_getD]
      exact ih (by omega)

/-- the table, with k powers' values -/
def tabTo : Nat → List UInt8
  | 0 => (List.replicate 256 0).set 0 (boxedTo 0 4)
  | k + 1 => (tabTo k).set (pow3 k).toNat (boxedTo (pow3 ((255 - k) % 255)) 4)

theorem tabTo_length (k : Nat) : (tabTo k).length = 256 := by
  induction k with
  | zero => unfold tabTo; rw [List.length_set, List.length_replicate]
  | succ k ih => unfold tabTo; rw [List.length_set, ih]

theorem tabTo_all : tabTo 255 = boxTab := by decide +kernel

end Go.Proofs.Ytapoelmhnbgidaa
