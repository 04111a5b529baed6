/-
  Words of 32 bits: the model's operations on them as UInt32's own.
-/
import Derived.WalkKit
import Derived.WalkSpells
import Derived.WalkLawsBesides
import Derived.Laws.BitsAllLaws
import Derived.Lib.Hide
namespace Go.Proofs.YtoooemlcackepaaDoor
set_option linter.unusedVariables false
set_option linter.unusedSimpArgs false
open Go.RowKit

/-- a word as a value -/
abbrev wv (x : UInt32) : Value := .int .u32 (x.toNat : Int)

theorem u32_lt (x : UInt32) : x.toNat < 4294967296 := x.toNat_lt

/-- sum, xor, and, complement (names of our own: simp takes UInt32's apart) -/
def wadd (x y : UInt32) : UInt32 := x + y
def wxor (x y : UInt32) : UInt32 := x ^^^ y
def wand (x y : UInt32) : UInt32 := x &&& y
def wnot (x : UInt32) : UInt32 := ~~~x

theorem u32_add (x y : UInt32) : IntKind.u32.wrap ((x.toNat : Int) + (y.toNat : Int)) = ((wadd x y).toNat : Int) := by
  unfold wadd; rw [IntKind.wrap_u32', UInt32.toNat_add]; omega

theorem u32_add' (x y : UInt32) : ((x.toNat : Int) + (y.toNat : Int)) % 4294967296 = ((wadd x y).toNat : Int) := by
  have h := u32_add x y
  rwa [IntKind.wrap_u32'] at h

theorem u32_bxor (x y : UInt32) : bits .xor .u32 (x.toNat : Int) (y.toNat : Int) = ((wxor x y).toNat : Int) := by
  unfold wxor; rw [u32_xor_nat _ _ (u32_lt x) (u32_lt y), UInt32.toNat_xor]

theorem u32_band (x y : UInt32) : bits .and .u32 (x.toNat : Int) (y.toNat : Int) = ((wand x y).toNat : Int) := by
  unfold wand; rw [u32_and_nat _ _ (u32_lt x) (u32_lt y), UInt32.toNat_and]

theorem u32_bnot (x : UInt32) : bits .xor .u32 (if IntKind.u32.signed = true then -1 else IntKind.u32.max) (x.toNat : Int) = ((wnot x).toNat : Int) := by
  have e : (if IntKind.u32.signed = true then -1 else IntKind.u32.max : Int) = ((4294967295 : UInt32).toNat : Int) := by decide
  rw [e, u32_bxor]
  unfold wxor wnot
  have : (4294967295 : UInt32) ^^^ x = ~~~x := by
    rw [show (4294967295 : UInt32) = -1 by decide, UInt32.neg_one_xor]
  rw [this]

/-- x turned right by n bits -/
def rotr (x : UInt32) (n : Nat) : UInt32 := UInt32.ofNat (x.toNat / 2 ^ n ||| x.toNat * 2 ^ (32 - n) % 4294967296)

/-- x shifted right by n bits -/
def shr (x : UInt32) (n : Nat) : UInt32 := UInt32.ofNat (x.toNat / 2 ^ n)

theorem shr_toNat (x : UInt32) (n : Nat) : (shr x n).toNat = x.toNat / 2 ^ n := by
  unfold shr
  rw [UInt32.toNat_ofNat_of_lt']
  exact Nat.lt_of_le_of_lt (Nat.div_le_self _ _) (u32_lt x)

theorem rotr_toNat (x : UInt32) (n : Nat) : (rotr x n).toNat = (x.toNat / 2 ^ n ||| x.toNat * 2 ^ (32 - n) % 4294967296) := by
  unfold rotr
  rw [UInt32.toNat_ofNat_of_lt']
  exact Nat.or_lt_two_pow (n := 32) (Nat.lt_of_le_of_lt (Nat.div_le_self _ _) (u32_lt x)) (Nat.mod_lt _ (by decide))

theorem shr3_of (x : UInt32) : (x.toNat : Int) / 8 = ((shr x 3).toNat : Int) := by rw [shr_toNat]; omega
theorem shr10_of (x : UInt32) : (x.toNat : Int) / 1024 = ((shr x 10).toNat : Int) := by rw [shr_toNat]; omega

end Go.Proofs.YtoooemlcackepaaDoor
