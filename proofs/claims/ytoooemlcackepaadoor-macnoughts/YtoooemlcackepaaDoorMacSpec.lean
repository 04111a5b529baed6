/-
  HMAC-SHA-256 as a plain function over lists: what both the program and the reference compute.
-/
import Derived.Test.YtoooemlcackepaaDoorShaSpec
import Derived.Test.YtoooemlcackepaaDoorMem
namespace Go.Proofs.YtoooemlcackepaaDoor
set_option linter.unusedVariables false
set_option linter.unusedSimpArgs false
open Go.RowKit

/-- bytes: xor, or (names of our own: simp takes UInt8's apart) -/
def bxor (x y : UInt8) : UInt8 := x ^^^ y
def bor (x y : UInt8) : UInt8 := x ||| y

theorem u8_lt (x : UInt8) : x.toNat < 256 := x.toNat_lt

theorem u8_bxor (x y : UInt8) : bits .xor .u8 (x.toNat : Int) (y.toNat : Int) = ((bxor x y).toNat : Int) := by
  unfold bxor; rw [u8_xor_nat _ _ (u8_lt x) (u8_lt y), UInt8.toNat_xor]

theorem u8_bor (x y : UInt8) : bits .or .u8 (x.toNat : Int) (y.toNat : Int) = ((bor x y).toNat : Int) := by
  unfold bor; rw [u8_or_nat _ _ (u8_lt x) (u8_lt y), UInt8.toNat_or]

/-- zeros behind, up to 64 bytes -/
def pad64 (k : List UInt8) : List UInt8 := k ++ List.replicate (64 - k.length) 0

/-- a long key counts as its digest -/
def keyOf (k : List UInt8) : List UInt8 := if 64 < k.length then sha256 k else k

/-- each byte xored -/
def maskB (x : UInt8) (l : List UInt8) : List UInt8 := l.map fun b => bxor b x

def hmac (k m : List UInt8) : List UInt8 := sha256 (maskB 92 (pad64 (keyOf k)) ++ sha256 (maskB 54 (pad64 (keyOf k)) ++ m))

theorem keyOf_length (k : List UInt8) : (keyOf k).length ≤ 64 := by
  unfold keyOf
  split
  · rw [sha256_length]; omega
  · omega

theorem pad64_length (k : List UInt8) (h : k.length ≤ 64) : (pad64 k).length = 64 := by simp [pad64]; omega

theorem maskB_length (x : UInt8) (l : List UInt8) : (maskB x l).length = l.length := by simp [maskB]

theorem hmac_length (k m : List UInt8) : (hmac k m).length = 32 := sha256_length _

/-- zeros behind a short key change nothing -/
theorem pad64_zeros (k : List UInt8) (n : Nat) (h : k.length + n ≤ 64) : pad64 (k ++ List.replicate n 0) = pad64 k := by
  unfold pad64
  rw [List.append_assoc, List.replicate_append_replicate]
  congr 2
  simp; omega

theorem hmac_zeros (k m : List UInt8) (n : Nat) (h : k.length + n ≤ 64) : hmac (k ++ List.replicate n 0) m = hmac k m := by
  have e1 : keyOf (k ++ List.replicate n 0) = k ++ List.replicate n 0 := by unfold keyOf; rw [if_neg (by simp; omega)]
  have e2 : keyOf k = k := by unfold keyOf; rw [if_neg (by omega)]
  unfold hmac
  rw [e1, e2, pad64_zeros k n h]

/-- a long key counts as its digest -/
theorem hmac_long (k m : List UInt8) (h : 64 < k.length) : hmac (sha256 k) m = hmac k m := by
  have e1 : keyOf (sha256 k) = sha256 k := by unfold keyOf; rw [if_neg (by rw [sha256_length]; omega)]
  have e2 : keyOf k = sha256 k := by unfold keyOf; rw [if_pos h]
  unfold hmac
  rw [e1, e2]

/-- the document's example -/
theorem hmac_jefe : hmac [74, 101, 102, 101] [119, 104, 97, 116, 32, 100, 111, 32, 121, 97, 32, 119, 97, 110, 116, 32, 102, 111, 114, 32, 110, 111, 116, 104, 105, 110, 103, 63] = [91, 220, 193, 70, 191, 96, 117, 78, 106, 4, 36, 38, 8, 149, 117, 199, 90, 0, 63, 8, 157, 39, 57, 131, 157, 236, 88, 185, 100, 236, 56, 67] := by
  decide +kernel

/-- the differences of two texts, or-ed together, up to k -/
def diffTo (a b : List UInt8) : Nat → UInt8
  | 0 => 0
  | k + 1 => bor (diffTo a b k) (bxor (a.getD k 0) (b.getD k 0))

theorem bor_zero (x y : UInt8) : bor x y = 0 ↔ x = 0 ∧ y = 0 := by
  unfold bor
  constructor
  · intro h
    have h' : x.toNat ||| y.toNat = 0 := by rw [← UInt8.toNat_or, h]; rfl
    have h1 := Nat.or_eq_zero_iff.1 h'
    exact ⟨UInt8.toNat_inj.1 h1.1, UInt8.toNat_inj.1 h1.2⟩
  · rintro ⟨rfl, rfl⟩; rfl

theorem bxor_zero (x y : UInt8) : bxor x y = 0 ↔ x = y := by
  unfold bxor; exact UInt8.xor_eq_zero_iff

theorem diffTo_zero (a b : List UInt8) (k : Nat) : diffTo a b k = 0 ↔ ∀ i, i < k → a.getD i 0 = b.getD i 0 := by
  induction k with
  | zero => simp [diffTo]
  | succ k ih =>
    unfold diffTo
    rw [bor_zero, ih, bxor_zero]
    constructor
    · rintro ⟨h1, h2⟩ i hi
      rcases Nat.lt_succ_iff_lt_or_eq.1 hi with h | h
      · exact h1 i h
      · subst h; exact h2
    · intro h
      exact ⟨fun i hi => h i (by omega), h k (by omega)⟩

theorem diffTo_all (a b : List UInt8) (hl : a.length = b.length) : diffTo a b a.length = 0 ↔ a = b := by
  rw [diffTo_zero]
  constructor
  · intro h
    apply List.ext_getElem hl
    intro i h1 h2
    have := h i h1
    rwa [List.getD_eq_getElem?_getD, List.getD_eq_getElem?_getD, List.getElem?_eq_getElem h1, List.getElem?_eq_getElem h2] at this
  · rintro rfl i _; rfl

end Go.Proofs.YtoooemlcackepaaDoor
