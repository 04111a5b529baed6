/-
  CRC-32 by definition: the register, bit by bit; a change within 32 bits side by side changes it.
  crc.mixed, crc.Sum; the reference's Sum.
  crc.With, crc.Take; Sum as a caller writes it.
-/
import Derived.Test.YtnekcdpfphgpbaaBase
import Derived.Test.YtnekcdpfphgpbaaPenA
import Derived.Test.YtnekcdpfphgpbaaEyeA
import Derived.Test.YtnekcdpfphgpbaaRefVal
namespace Go.Proofs.Ytnekcdpfphgpbaa
set_option linter.unusedVariables false
set_option linter.unusedSimpArgs false
open Go.RowKit

/-- one shift of the register -/
def bstep (v : BitVec 32) : BitVec 32 := (v >>> 1) ^^^ (if v.getLsbD 0 then 0xedb88320#32 else 0#32)

def bsteps (v : BitVec 32) : Nat → BitVec 32
  | 0 => v
  | k + 1 => bstep (bsteps v k)

theorem bstep_zero : bstep 0#32 = 0#32 := by decide

theorem bstep_xor (a b : BitVec 32) : bstep (a ^^^ b) = bstep a ^^^ bstep b := by
  unfold bstep
  rw [BitVec.getLsbD_xor]
  apply BitVec.eq_of_getLsbD_eq
  intro i _
  cases a.getLsbD 0 <;> cases b.getLsbD 0 <;> simp only [Bool.xor_false, Bool.xor_true, Bool.false_xor, Bool.true_xor, Bool.not_true, Bool.not_false, Bool.false_eq_true, if_true, if_false, BitVec.getLsbD_xor, BitVec.getLsbD_ushiftRight] <;>
    cases a.getLsbD (1 + i) <;> cases b.getLsbD (1 + i) <;> cases BitVec.getLsbD 0xedb88320#32 i <;> simp

theorem bstep_ne (v : BitVec 32) (h : v ≠ 0#32) : bstep v ≠ 0#32 := by
  intro e
  apply h
  unfold bstep at e
  have hbit : ∀ i, ((v >>> 1) ^^^ (if v.getLsbD 0 then 0xedb88320#32 else 0#32)).getLsbD i = false := fun i => by rw [e]; simp
  cases h0 : v.getLsbD 0 with
  | true =>
    have := hbit 31
    rw [h0] at this
    simp at this
  | false =>
    apply BitVec.eq_of_getLsbD_eq
    intro i hi
    cases i with
    | zero => rw [h0]; simp
    | succ i =>
      have := hbit i
      rw [h0] at this
      simp only [Bool.false_eq_true, if_false, BitVec.xor_zero, BitVec.getLsbD_ushiftRight] at this
      rw [Nat.add_comm i 1, this]; simp

theorem bsteps_zero (k : Nat) : bsteps 0#32 k = 0#32 := by
  induction k with
  | zero => rfl
  | succ k ih => rw [bsteps, ih, bstep_zero]

theorem bsteps_xor (a b : BitVec 32) (k : Nat) : bsteps (a ^^^ b) k = bsteps a k ^^^ bsteps b k := by
  induction k with
  | zero => rfl
  | succ k ih => rw [bsteps, ih, bstep_xor]; rfl

theorem bsteps_ne (v : BitVec 32) (h : v ≠ 0#32) (k : Nat) : bsteps v k ≠ 0#32 := by
  induction k with
  | zero => exact h
  | succ k ih => exact bstep_ne _ ih

/-- a bit as a word -/
def bitw (b : Bool) : BitVec 32 := if b then 1#32 else 0#32

theorem bitw_xor (a b : Bool) : bitw (a ^^ b) = bitw a ^^^ bitw b := by cases a <;> cases b <;> decide

/-- the register behind the bits f a, f (a + 1) .. -/
def feed (v : BitVec 32) (f : Nat → Bool) (a : Nat) : Nat → BitVec 32
  | 0 => v
  | m + 1 => bstep (feed v f a m ^^^ bitw (f (a + m)))

theorem feed_add (v : BitVec 32) (f : Nat → Bool) (a m k : Nat) : feed v f a (m + k) = feed (feed v f a m) f (a + m) k := by
  induction k with
  | zero => rfl
  | succ k ih =>
    show bstep (feed v f a (m + k) ^^^ bitw (f (a + (m + k)))) = bstep (feed (feed v f a m) f (a + m) k ^^^ bitw (f (a + m + k)))
    rw [ih, Nat.add_assoc]

theorem feed_congr (v : BitVec 32) (f g : Nat → Bool) (a b m : Nat) (h : ∀ j, j < m → f (a + j) = g (b + j)) : feed v f a m = feed v g b m := by
  induction m with
  | zero => rfl
  | succ m ih => show bstep _ = bstep _; rw [ih (fun j hj => h j (by omega)), h m (by omega)]

theorem feed_xor (u v : BitVec 32) (f g : Nat → Bool) (a m : Nat) : feed (u ^^^ v) (fun j => f j ^^ g j) a m = feed u f a m ^^^ feed v g a m := by
  induction m with
  | zero => rfl
  | succ m ih =>
    show bstep _ = bstep _ ^^^ bstep _
    rw [ih, bitw_xor, ← bstep_xor]
    congr 1
    rw [BitVec.xor_assoc, BitVec.xor_assoc]
    congr 1
    rw [← BitVec.xor_assoc, ← BitVec.xor_assoc]
    congr 1
    exact BitVec.xor_comm _ _

theorem feed_zeros (v : BitVec 32) (a m : Nat) : feed v (fun _ => false) a m = bsteps v m := by
  induction m with
  | zero => rfl
  | succ m ih => show bstep _ = bstep _; rw [ih]; show bstep (_ ^^^ 0#32) = _; rw [BitVec.xor_zero]

/-- the word of the bits f 0 .. f (k - 1) -/
def low (f : Nat → Bool) : Nat → BitVec 32
  | 0 => 0#32
  | k + 1 => low f k ^^^ (if f k then 1#32 <<< k else 0#32)

theorem low_bit (f : Nat → Bool) (k : Nat) (hk : k ≤ 32) (i : Nat) : (low f k).getLsbD i = (decide (i < k) && f i) := by
  induction k with
  | zero => simp [low]
  | succ k ih =>
    have h1 : (if f k = true then 1#32 <<< k else 0#32).getLsbD i = (f k && decide (i = k)) := by
      cases f k with
      | false => simp
      | true =>
        simp only [if_true, Bool.true_and, BitVec.getLsbD_shiftLeft]
        by_cases e : i = k
        · subst e; simp; omega
        · have : ((1#32 : BitVec 32).getLsbD (i - k) = true) ↔ i - k = 0 := by
            rw [BitVec.getLsbD_one]; simp
          by_cases h2 : i < k
          · simp [h2, e]
          · have h3 : (1#32 : BitVec 32).getLsbD (i - k) = false := by
              cases hc : (1#32 : BitVec 32).getLsbD (i - k) with
              | false => rfl
              | true => have := this.1 hc; omega
            simp [h3, e]
    show (low f k ^^^ _).getLsbD i = _
    rw [BitVec.getLsbD_xor, ih (by omega), h1]
    by_cases e : i = k
    · subst e; simp
    · by_cases h2 : i < k
      · simp [h2, e, show i < k + 1 by omega]
      · simp [h2, e, show ¬ i < k + 1 by omega]

theorem unit_steps : ∀ k : Fin 32, bsteps (1#32 <<< k.val) k.val = 1#32 := by decide +kernel

theorem feed_low (v : BitVec 32) (f : Nat → Bool) (a k : Nat) (hk : k ≤ 32) : feed v f a k = bsteps (v ^^^ low (fun i => f (a + i)) k) k := by
  induction k with
  | zero => show v = v ^^^ 0#32; rw [BitVec.xor_zero]
  | succ k ih =>
    show bstep _ = bstep _
    rw [ih (by omega)]
    congr 1
    show _ = bsteps (v ^^^ (low (fun i => f (a + i)) k ^^^ if f (a + k) = true then 1#32 <<< k else 0#32)) k
    rw [← BitVec.xor_assoc, bsteps_xor (v ^^^ low (fun i => f (a + i)) k)]
    congr 1
    cases f (a + k) with
    | false => exact (bsteps_zero k).symm
    | true => exact (unit_steps ⟨k, by omega⟩).symm

/-- a byte through the register -/
def bmix (v : BitVec 32) (b : UInt8) : BitVec 32 := bsteps (v ^^^ b.toBitVec.setWidth 32) 8

def breg (v : BitVec 32) (l : List UInt8) : BitVec 32 := l.foldl bmix v

/-- bit j of a byte sequence, of each byte the lowest first -/
def bitAt (l : List UInt8) (j : Nat) : Bool := (l.getD (j / 8) 0).toBitVec.getLsbD (j % 8)

theorem bmix_feed (v : BitVec 32) (b : UInt8) (f : Nat → Bool) (a : Nat) (h : ∀ i, i < 8 → f (a + i) = b.toBitVec.getLsbD i) : feed v f a 8 = bmix v b := by
  rw [feed_low v f a 8 (by omega)]
  unfold bmix
  congr 2
  apply BitVec.eq_of_getLsbD_eq
  intro i hi
  rw [low_bit _ 8 (by omega), BitVec.getLsbD_setWidth]
  by_cases h8 : i < 8
  · simp [h8, hi, h i h8]
  · have : b.toBitVec.getLsbD i = false := BitVec.getLsbD_of_ge _ _ (by omega)
    simp [h8, this]

theorem breg_snoc (v : BitVec 32) (l : List UInt8) (b : UInt8) : breg v (l ++ [b]) = bmix (breg v l) b := by simp [breg, List.foldl_append]

theorem breg_feed_take (v : BitVec 32) (l : List UInt8) (k : Nat) (hk : k ≤ l.length) : breg v (l.take k) = feed v (bitAt l) 0 (8 * k) := by
  induction k with
  | zero => rfl
  | succ k ih =>
    have hlt : k < l.length := by omega
    rw [show 8 * (k + 1) = 8 * k + 8 by omega, feed_add, ← ih (by omega), Nat.zero_add]
    rw [List.take_add_one, List.getElem?_eq_getElem hlt, Option.toList_some, breg_snoc]
    refine (bmix_feed _ _ _ _ (fun i hi => ?_)).symm
    unfold bitAt
    rw [show (8 * k + i) / 8 = k by omega, show (8 * k + i) % 8 = i by omega, List.getD_eq_getElem?_getD, List.getElem?_eq_getElem hlt]
    rfl

theorem breg_feed (v : BitVec 32) (l : List UInt8) : breg v l = feed v (bitAt l) 0 (8 * l.length) := by
  rw [← breg_feed_take v l l.length (Nat.le_refl _), List.take_length]

/-- the checksum -/
def crc (l : List UInt8) : UInt32 := ⟨~~~ breg 4294967295#32 l⟩

theorem crc_lt (l : List UInt8) : (crc l).toNat < 4294967296 := (crc l).toNat_lt

/-- A CHANGE WITHIN 32 BITS CHANGES THE CHECKSUM -/
theorem crc_burst (l l' : List UInt8) (hl : l'.length = l.length) (at_ : Nat) (t : UInt32) (ht : t ≠ 0) (hat : at_ + 32 ≤ 8 * l.length)
    (h : ∀ j, j < 8 * l.length → bitAt l' j = (bitAt l j ^^ (decide (at_ ≤ j ∧ j < at_ + 32) && t.toBitVec.getLsbD (j - at_)))) : crc l' ≠ crc l := by
  have key : breg 4294967295#32 l' = breg 4294967295#32 l ^^^ feed 0#32 (fun j => decide (at_ ≤ j ∧ j < at_ + 32) && t.toBitVec.getLsbD (j - at_)) 0 (8 * l.length) := by
    rw [breg_feed, breg_feed, hl, ← feed_xor, BitVec.xor_zero]
    exact feed_congr _ _ _ _ _ _ (fun j hj => by rw [Nat.zero_add]; exact h j hj)
  have hn : feed 0#32 (fun j => decide (at_ ≤ j ∧ j < at_ + 32) && t.toBitVec.getLsbD (j - at_)) 0 (8 * l.length) ≠ 0#32 := by
    obtain ⟨r, hr⟩ : ∃ r, 8 * l.length = at_ + (32 + r) := ⟨8 * l.length - at_ - 32, by omega⟩
    rw [hr, feed_add, feed_add]
    have e1 : feed 0#32 (fun j => decide (at_ ≤ j ∧ j < at_ + 32) && t.toBitVec.getLsbD (j - at_)) 0 at_ = 0#32 := by
      rw [feed_congr _ _ (fun _ => false) _ 0 _ (fun j hj => by simp; intro h1; omega), feed_zeros, bsteps_zero]
    rw [e1]
    have e2 : feed 0#32 (fun j => decide (at_ ≤ j ∧ j < at_ + 32) && t.toBitVec.getLsbD (j - at_)) (0 + at_) 32 = bsteps t.toBitVec 32 := by
      rw [feed_low _ _ _ _ (by omega), BitVec.zero_xor]
      congr 1
      apply BitVec.eq_of_getLsbD_eq
      intro i hi
      rw [low_bit _ 32 (by omega)]
      simp [show 0 + at_ + i - at_ = i by omega]
      omega
    rw [e2]
    have e3 : ∀ v : BitVec 32, feed v (fun j => decide (at_ ≤ j ∧ j < at_ + 32) && t.toBitVec.getLsbD (j - at_)) (0 + at_ + 32) r = bsteps v r := by
      intro v
      rw [feed_congr _ _ (fun _ => false) _ 0 _ (fun j hj => by simp; intro h1 h2; omega), feed_zeros]
    rw [e3]
    refine bsteps_ne _ (bsteps_ne _ (fun e => ht ?_) 32) r
    exact UInt32.eq_of_toBitVec_eq e
  intro e
  apply hn
  have e' : (~~~ breg 4294967295#32 l') = ~~~ breg 4294967295#32 l := congrArg UInt32.toBitVec e
  have e2 := congrArg (fun x => ~~~ x) e'
  simp only [BitVec.not_not] at e2
  rw [key] at e2
  have := congrArg (fun x => breg 4294967295#32 l ^^^ x) e2
  simpa [← BitVec.xor_assoc] using this

/-- a bit turned -/
def flip1 (c : List UInt8) (j : Nat) : List UInt8 := c.set (j / 8) (bxor (c.getD (j / 8) 0) (UInt8.ofNat (2 ^ (j % 8))))

theorem flip1_length (c : List UInt8) (j : Nat) : (flip1 c j).length = c.length := by simp [flip1]

theorem unit_bit : ∀ a b : Fin 8, (UInt8.ofNat (2 ^ a.val)).toBitVec.getLsbD b.val = decide (b.val = a.val) := by decide +kernel

theorem flip1_bit (c : List UInt8) (j : Nat) (hj : j < 8 * c.length) (i : Nat) : bitAt (flip1 c j) i = (bitAt c i ^^ decide (i = j)) := by
  unfold bitAt flip1
  by_cases e : i / 8 = j / 8
  · have h1 : j / 8 < c.length := by omega
    rw [e, List.getD_eq_getElem?_getD, List.getElem?_set_self h1]
    have h2 : (bxor (c.getD (j / 8) 0) (UInt8.ofNat (2 ^ (j % 8)))).toBitVec = (c.getD (j / 8) 0).toBitVec ^^^ (UInt8.ofNat (2 ^ (j % 8))).toBitVec := rfl
    rw [Option.getD_some, h2, BitVec.getLsbD_xor]
    have h3 := unit_bit ⟨j % 8, by omega⟩ ⟨i % 8, by omega⟩
    simp only at h3
    rw [h3]
    congr 1
    rw [decide_eq_decide]
    omega
  · rw [List.getD_eq_getElem?_getD, List.getElem?_set_ne (by omega), ← List.getD_eq_getElem?_getD, decide_eq_false (by rintro rfl; exact e rfl)]
    simp

/-- the bits from at_ on turned where t has a one, k of them -/
def flips (c : List UInt8) (at_ : Nat) (t : UInt32) : Nat → List UInt8
  | 0 => c
  | k + 1 => if t.toNat / 2 ^ k % 2 = 1 then flip1 (flips c at_ t k) (at_ + k) else flips c at_ t k

theorem flips_length (c : List UInt8) (at_ : Nat) (t : UInt32) (k : Nat) : (flips c at_ t k).length = c.length := by
  induction k with
  | zero => rfl
  | succ k ih =>
    rw [flips]
    split
    · rw [flip1_length, ih]
    · exact ih

theorem word_bit (t : UInt32) (k : Nat) : t.toBitVec.getLsbD k = decide (t.toNat / 2 ^ k % 2 = 1) := by
  show t.toNat.testBit k = _
  rw [Nat.testBit_eq_decide_div_mod_eq]

theorem flips_bit (c : List UInt8) (at_ : Nat) (t : UInt32) (k : Nat) (hk : at_ + k ≤ 8 * c.length) (i : Nat) : bitAt (flips c at_ t k) i = (bitAt c i ^^ (decide (at_ ≤ i ∧ i < at_ + k) && t.toBitVec.getLsbD (i - at_))) := by
  induction k with
  | zero =>
    have : decide (at_ ≤ i ∧ i < at_ + 0) = false := decide_eq_false (by omega)
    rw [this]; simp [flips]
  | succ k ih =>
    have ih := ih (by omega)
    rw [flips]
    by_cases e : i = at_ + k
    · subst e
      have h1 : decide (at_ ≤ at_ + k ∧ at_ + k < at_ + k) = false := decide_eq_false (by omega)
      have h2 : decide (at_ ≤ at_ + k ∧ at_ + k < at_ + (k + 1)) = true := decide_eq_true (by omega)
      rw [h1, Bool.false_and, Bool.xor_false] at ih
      rw [h2, Bool.true_and, show at_ + k - at_ = k by omega, word_bit]
      split
      · rename_i h
        rw [flip1_bit _ _ (by rw [flips_length]; omega), ih, decide_eq_true h, decide_eq_true rfl]
      · rename_i h
        rw [ih, decide_eq_false h, Bool.xor_false]
    · have h1 : decide (at_ ≤ i ∧ i < at_ + k) = decide (at_ ≤ i ∧ i < at_ + (k + 1)) := by rw [decide_eq_decide]; omega
      rw [← h1, ← ih]
      split
      · rw [flip1_bit _ _ (by rw [flips_length]; omega), decide_eq_false e, Bool.xor_false]
      · rfl

theorem flips_drop (c : List UInt8) (at_ : Nat) (t : UInt32) (n : Nat) (k : Nat) (hk : at_ + k ≤ 8 * n) : (flips c at_ t k).drop n = c.drop n := by
  induction k with
  | zero => rfl
  | succ k ih =>
    have ih := ih (by omega)
    rw [flips]
    split
    · unfold flip1
      rw [List.drop_set_of_lt (by omega), ih]
    · exact ih

theorem bitAt_take (c : List UInt8) (n j : Nat) (hj : j < 8 * n) : bitAt (c.take n) j = bitAt c j := by
  unfold bitAt
  rw [List.getD_eq_getElem?_getD, List.getD_eq_getElem?_getD, List.getElem?_take_of_lt (by omega)]

/-- a byte sequence and its checksum -/
def crcWith (l : List UInt8) : List UInt8 := l ++ be 4 (crc l).toNat

theorem crcWith_length (l : List UInt8) : (crcWith l).length = l.length + 4 := by unfold crcWith; rw [List.length_append, be_length]

/-- is it a checked one? -/
def crcOk (c : List UInt8) : Bool := decide (4 ≤ c.length ∧ val (c.drop (c.length - 4)) = (crc (c.take (c.length - 4))).toNat)

def crcText (c : List UInt8) : List UInt8 := if crcOk c = true then c.take (c.length - 4) else []

theorem crc_back (l : List UInt8) : crcOk (crcWith l) = true ∧ crcText (crcWith l) = l := by
  have hl := crcWith_length l
  have h1 : (crcWith l).take ((crcWith l).length - 4) = l := by rw [hl]; unfold crcWith; simp
  have h2 : (crcWith l).drop ((crcWith l).length - 4) = be 4 (crc l).toNat := by rw [hl]; unfold crcWith; simp
  have h3 : crcOk (crcWith l) = true := by
    unfold crcOk
    rw [h1, h2, val_be_lt 4 _ (crc_lt l)]
    exact decide_eq_true ⟨by omega, rfl⟩
  exact ⟨h3, by unfold crcText; rw [if_pos h3, h1]⟩

/-- a checked sequence ends with its checksum's bytes -/
theorem crcOk_iff (c : List UInt8) (h : 4 ≤ c.length) : crcOk c = true ↔ c.drop (c.length - 4) = be 4 (crc (c.take (c.length - 4))).toNat := by
  unfold crcOk
  rw [decide_eq_true_iff]
  constructor
  · rintro ⟨-, e⟩
    rw [← e]
    have := be_val (c.drop (c.length - 4))
    rw [List.length_drop, show c.length - (c.length - 4) = 4 by omega] at this
    exact this.symm
  · intro e
    refine ⟨h, ?_⟩
    rw [e, val_be_lt 4 _ (crc_lt _)]

/-- WITHIN 32 BITS AHEAD OF THE CHECKSUM -/
theorem crc_flips (l : List UInt8) (at_ : Nat) (t : UInt32) (ht : t ≠ 0) (hat : at_ + 32 ≤ 8 * l.length) : crcOk (flips (crcWith l) at_ t 32) = false := by
  have hl := crcWith_length l
  have hl2 := flips_length (crcWith l) at_ t 32
  cases hc : crcOk (flips (crcWith l) at_ t 32) with
  | false => rfl
  | true =>
    exfalso
    rw [crcOk_iff _ (by omega)] at hc
    rw [hl2, hl, Nat.add_sub_cancel, flips_drop _ _ _ _ _ hat] at hc
    have h2 : (crcWith l).drop l.length = be 4 (crc l).toNat := by unfold crcWith; simp
    rw [h2] at hc
    have h3 := congrArg val hc
    rw [val_be_lt 4 _ (crc_lt _), val_be_lt 4 _ (crc_lt _)] at h3
    refine crc_burst l ((flips (crcWith l) at_ t 32).take l.length) ?_ at_ t ht hat (fun j hj => ?_) (UInt32.toNat_inj.1 h3).symm
    · rw [List.length_take, hl2, hl]; omega
    · rw [bitAt_take _ _ _ hj, flips_bit _ _ _ _ (by omega)]
      congr 1
      rw [← bitAt_take (crcWith l) _ _ hj]
      congr 1
      unfold crcWith; simp

/-- A BYTE OF THE CHECKSUM -/
theorem crc_byte (l : List UInt8) (k : Nat) (b : UInt8) (hk : l.length ≤ k) (hk2 : k < l.length + 4) (hb : b ≠ (crcWith l).getD k 0) : crcOk ((crcWith l).set k b) = false := by
  have hl := crcWith_length l
  cases hc : crcOk ((crcWith l).set k b) with
  | false => rfl
  | true =>
    exfalso
    rw [crcOk_iff _ (by rw [List.length_set]; omega)] at hc
    rw [List.length_set, hl, Nat.add_sub_cancel, List.take_set_of_le hk] at hc
    have h1 : (crcWith l).take l.length = l := by unfold crcWith; simp
    have h2 : (crcWith l).drop l.length = be 4 (crc l).toNat := by unfold crcWith; simp
    rw [h1, ← h2] at hc
    have h3 := congrArg (fun x => x[k - l.length]?) hc
    simp only [List.getElem?_drop, show l.length + (k - l.length) = k by omega] at h3
    rw [List.getElem?_set_self (by omega)] at h3
    apply hb
    rw [List.getD_eq_getElem?_getD, ← h3]; rfl

theorem xor_ne (a b : UInt8) (h : b ≠ 0) : bxor a b ≠ a := by
  intro e
  apply h
  have := congrArg (fun x => a ^^^ x) e
  unfold bxor at this
  simpa [← UInt8.xor_assoc] using this

/-! the code's words -/

/-- the register as a word -/
def csteps (x : UInt32) (k : Nat) : UInt32 := ⟨bsteps x.toBitVec k⟩
def cmix (x : UInt32) (b : UInt8) : UInt32 := csteps (wxor x (UInt32.ofNat b.toNat)) 8
def creg (l : List UInt8) : UInt32 := ⟨breg 4294967295#32 l⟩

theorem cmix_eq (x : UInt32) (b : UInt8) : cmix x b = ⟨bmix x.toBitVec b⟩ := by
  have e : (UInt32.ofNat b.toNat).toBitVec = b.toBitVec.setWidth 32 := by
    apply BitVec.eq_of_toNat_eq
    rw [BitVec.toNat_setWidth]
    show (UInt32.ofNat b.toNat).toNat = b.toNat % 2 ^ 32
    rw [UInt32.toNat_ofNat']
  show (⟨bsteps (x.toBitVec ^^^ (UInt32.ofNat b.toNat).toBitVec) 8⟩ : UInt32) = ⟨bsteps (x.toBitVec ^^^ b.toBitVec.setWidth 32) 8⟩
  rw [e]

theorem creg_nil : creg [] = 4294967295 := rfl
theorem creg_snoc (l : List UInt8) (b : UInt8) : creg (l ++ [b]) = cmix (creg l) b := by
  rw [cmix_eq]; unfold creg; rw [breg_snoc]
theorem crc_creg (l : List UInt8) : crc l = wnot (creg l) := rfl
theorem csteps_zero (x : UInt32) : csteps x 0 = x := rfl

theorem bstep_toNat (v : BitVec 32) : (bstep v).toNat = v.toNat / 2 ^^^ (if v.toNat % 2 = 1 then 3988292384 else 0) := by
  have h0 : v.getLsbD 0 = decide (v.toNat % 2 = 1) := by show v.toNat.testBit 0 = _; rw [Nat.testBit_zero]
  unfold bstep
  rw [h0, BitVec.toNat_xor, BitVec.toNat_ushiftRight, Nat.shiftRight_eq_div_pow, Nat.pow_one]
  congr 1
  by_cases h : v.toNat % 2 = 1
  · rw [if_pos (decide_eq_true h), if_pos h]; rfl
  · rw [if_neg (by rw [decide_eq_false h]; decide), if_neg h]; rfl

/-- a shift where the bit that goes out is 1 -/
theorem cstep_odd (x : UInt32) (k : Nat) (h : (csteps x k).toNat % 2 = 1) : bits .xor .u32 ((csteps x k).toNat / 2 : Int) 3988292384 = ((csteps x (k + 1)).toNat : Int) := by
  have e : (csteps x (k + 1)).toNat = (csteps x k).toNat / 2 ^^^ 3988292384 := by
    show (bstep (csteps x k).toBitVec).toNat = _
    rw [bstep_toNat]
    exact congrArg _ (if_pos h)
  rw [e]
  have := u32_xor_nat ((csteps x k).toNat / 2) 3988292384 (by have := u32_lt (csteps x k); omega) (by decide)
  rw [← this]
  rfl

theorem cstep_even (x : UInt32) (k : Nat) (h : (csteps x k).toNat % 2 = 0) : ((csteps x k).toNat / 2 : Int) = ((csteps x (k + 1)).toNat : Int) := by
  have e : (csteps x (k + 1)).toNat = (csteps x k).toNat / 2 ^^^ 0 := by
    show (bstep (csteps x k).toBitVec).toNat = _
    rw [bstep_toNat]
    exact congrArg _ (if_neg (by show ¬ (csteps x k).toNat % 2 = 1; omega))
  rw [e, Nat.xor_zero]
  rfl

theorem low1_of (x : UInt32) : bits .and .u32 (x.toNat : Int) 1 = ((x.toNat % 2 : Nat) : Int) := by
  rw [show (1 : Int) = ((1 : Nat) : Int) from rfl, u32_and_nat _ _ (u32_lt x) (by decide), nat_mask1]

theorem byteIn (x : UInt32) (b : UInt8) : bits .xor .u32 (x.toNat : Int) (b.toNat : Int) = ((csteps (wxor x (UInt32.ofNat b.toNat)) 0).toNat : Int) := by
  have e : (UInt32.ofNat b.toNat).toNat = b.toNat := by rw [UInt32.toNat_ofNat_of_lt' (by have := b.toNat_lt; show _ < 4294967296; omega)]
  have h := u32_bxor x (UInt32.ofNat b.toNat)
  rw [e] at h
  exact h

theorem inv_of (x : UInt32) : bits .xor .u32 (x.toNat : Int) 4294967295 = ((wnot x).toNat : Int) := by
  have h := u32_bxor x 4294967295
  have e : wxor x 4294967295 = wnot x := by
    unfold wxor wnot
    rw [show (4294967295 : UInt32) = -1 by decide, UInt32.xor_neg_one]
  rw [← e, ← h]
  rfl

/-- the document's example -/
theorem crc_wake : crc [49, 50, 51, 52, 53, 54, 55, 56, 57] = 3421780262 := by decide +kernel

end Go.Proofs.Ytnekcdpfphgpbaa

namespace Go.Proofs.Ytnekcdpfphgpbaa
set_option linter.unusedVariables false
set_option linter.unusedSimpArgs false
open Go.RowKit

set_option maxRecDepth 100000 in
set_option maxHeartbeats 400000 in
theorem crcMixed (w : World) (x : UInt32) (b : UInt8) : Calls Try.prog 66 #[wv x, bv b] w fun e w' => e = .returned (wv (cmix x b)) ∧ w = w' := by
  have hb0 := byteIn x b
  have hbl := b.toNat_lt
  obtain ⟨y, HY⟩ : ∃ y, Hid (wxor x (UInt32.ofNat b.toNat) = y) := ⟨_, Lib.hid rfl⟩
  have HM : Hid (cmix x b = csteps y 8) := by show _ = _; unfold cmix; rw [HY.out]
  rw [HY.out] at hb0
  go_enter Try.func66, Try.ntmps66
  go_wp2
  go_loop [0, 5, 10] (fun v _ i => ∃ k : Nat, k ≤ 8 ∧ i = .int .i64 k ∧ v = wv (csteps y k)) (fun _ _ i => 8 - (intOf i).toNat)
  case atStart => exact ⟨0, by omega, rfl, rfl⟩
  case round =>
    obtain ⟨k, hk, rfl, rfl⟩ := hrel
    clear hb0
    by_cases hlt : k < 8
    · have h8 : (k : Int) < 8 := by omega
      have h1 := low1_of (csteps y k)
      have hxl := u32_lt (csteps y k)
      have hb2 := Nat.mod_two_eq_zero_or_one (csteps y k).toNat
      by_cases hbit : (csteps y k).toNat % 2 = 1
      · have HS := Lib.hid (cstep_odd y k hbit)
        rw [hbit] at h1
        clear hbit hb2
        generalize csteps y k = z at h1 HS hxl ⊢
        go_wp2
        go_round
        case rel => exact ⟨k + 1, by omega, by go_num, congrArg (Value.int .u32) HS.out⟩
        case measure => simp [intOf]; omega
      · have h0 : (csteps y k).toNat % 2 = 0 := by omega
        have HS := Lib.hid (cstep_even y k h0)
        rw [h0] at h1
        clear hbit hb2 h0
        generalize csteps y k = z at h1 HS hxl ⊢
        go_wp2
        go_round
        case rel => exact ⟨k + 1, by omega, by go_num, congrArg (Value.int .u32) HS.out⟩
        case measure => simp [intOf]; omega
    · obtain rfl : k = 8 := by omega
      have HG := HM
      generalize csteps y 8 = p at HG ⊢
      rw [show ((8 : Nat) : Int) = 8 from rfl]
      go_wp2
      go_ret
      exact ⟨congrArg (fun z => Ending.returned (wv z)) HG.out.symm, rfl⟩

theorem creg_take (A l : List UInt8) (j : Nat) (h : j < l.length) : creg (A ++ l.take (j + 1)) = cmix (creg (A ++ l.take j)) l[j] := by
  rw [List.take_succ_eq_append_getElem h, ← List.append_assoc, creg_snoc]

set_option maxRecDepth 100000 in
set_option maxHeartbeats 800000 in
theorem crcSum (w : World) (v : Value) (ps : List (Value × List UInt8)) (hv : RdL w v ps) :
    Calls Try.prog 61 #[v] w fun e w' => e = .returned (wv (crc (allOf ps))) ∧ w = w' := by
  obtain ⟨hv1, hv2⟩ := hv
  have hv1' := hv1
  obtain ⟨a, n, c, rfl, hl, hnc, hcm, _, _⟩ := hv1'
  rw [List.length_map] at hl
  have HL := Lib.hid hl
  have HV1 := Lib.hid hv1
  have HV2 := Lib.hid hv2
  unfold maxLen at hcm
  clear hl hv1 hv2
  go_enter Try.func61, Try.ntmps61
  go_wp2
  go_loop [3, 5, 7, 10] (fun s _ _ i => ∃ k : Nat, k ≤ n ∧ i = .int .i64 k ∧ s = wv (creg (allOf (ps.take k)))) (fun _ _ _ i => n - (intOf i).toNat)
  case atStart => exact ⟨0, Nat.zero_le _, rfl, rfl⟩
  case round =>
    obtain ⟨k, hk, rfl, rfl⟩ := hrel
    by_cases hlt : k < n
    · obtain ⟨b, off, rfl, hcell⟩ := HV1.out.cell (by omega)
      obtain ⟨p, hp⟩ : ∃ p, ps[k]? = some p := ⟨_, List.getElem?_eq_getElem (by rw [HL.out]; exact hlt)⟩
      have hck := hcell k p.1 (by rw [List.getElem?_map, hp]; rfl)
      clear hcell
      have HR := Lib.hid (HV2.out p (List.mem_of_getElem? hp))
      have hr' := HR.out
      obtain ⟨ap, np, cp, ep, hpl, hnp, hcp, -⟩ := hr'
      unfold maxLen at hcp
      have HT := Lib.hid (allOf_take ps k p hp)
      rw [ep] at hck HR
      have HPL := Lib.hid hpl
      clear hpl hp ep
      obtain ⟨pv, pl⟩ := p
      simp only at HR HT HPL
      generalize allOf (ps.take k) = A at HT ⊢
      go_wp2
      go_loop [3, 7, 16] (fun s _ i => ∃ j : Nat, j ≤ np ∧ i = .int .i64 j ∧ s = wv (creg (A ++ pl.take j))) (fun _ _ i => np - (intOf i).toNat)
      case atStart => exact ⟨0, Nat.zero_le _, rfl, by simp⟩
      case round =>
        obtain ⟨j, hj, rfl, rfl⟩ := hrel
        by_cases hjlt : j < np
        · have hcell : ∃ ad, ap = some ad ∧ w.cell? (ad.add j) = some (bv (pl[j]'(by rw [HPL.out]; exact hjlt))) := by
            obtain ⟨a', n', c', e, h1, h2, h3, h4, h5⟩ := HR.out
            cases e
            cases ap with
            | none => have := (h4 rfl).1; omega
            | some ad => exact ⟨ad, rfl, h5 ad rfl j _ (List.getElem?_eq_getElem (by rw [HPL.out]; exact hjlt))⟩
          obtain ⟨ad, rfl, hc⟩ := hcell
          have HS := Lib.hid (creg_take A pl j (by rw [HPL.out]; exact hjlt))
          generalize pl[j]'(by rw [HPL.out]; exact hjlt) = y at hc HS
          generalize creg (A ++ pl.take j) = x at HS ⊢
          go_wp2_with fail
          refine (crcMixed w x y).mono ?_
          rintro e w' ⟨rfl, rfl⟩
          go_wp2
          go_round
          case rel => exact ⟨j + 1, by omega, by go_num, by rw [HS.out]⟩
          case measure => simp [intOf]; omega
        · obtain rfl : j = np := by omega
          have hE : pl.take j = pl := by rw [← HPL.out, List.take_length]
          rw [hE, ← HT.out]
          clear hE
          go_wp2
          go_round
          case rel => exact ⟨k + 1, by omega, by go_num, rfl⟩
          case measure => simp [intOf]; omega
    · obtain rfl : k = n := by omega
      have hE : allOf (ps.take k) = allOf ps := by rw [List.take_of_length_le (by rw [HL.out]; exact Nat.le_refl _)]
      rw [hE]
      clear hE
      have HC := Lib.hid (crc_creg (allOf ps))
      have h1 := u32_bnot (creg (allOf ps))
      generalize creg (allOf ps) = x at HC h1 ⊢
      go_wp2
      go_ret
      exact ⟨congrArg (fun z => Ending.returned (wv z)) HC.out.symm, rfl⟩

end Go.Proofs.Ytnekcdpfphgpbaa

namespace Go.Proofs.Ytnekcdpfphgpbaa
set_option linter.unusedVariables false
set_option linter.unusedSimpArgs false
open Go.RowKit

/-- an own row stays where its block is left alone -/
theorem ownsRow_only {F : Nat → Prop} {w w' : World} {base : Nat} {e : TypeId} {size : Nat} {v : Value} {n : Nat} {xs : List Value} (h : w.ownsRow base e size v n xs) (ho : Only F w w') (hF : ∀ k, blk v = some k → ¬ F k) : w'.ownsRow base e size v n xs := by
  refine ⟨h.1, ?_⟩
  rcases h.2 with h0 | ⟨g, cap, cur, e1, hb1, e3, rest⟩
  · exact .inl h0
  · subst e1
    exact .inr ⟨g, cap, cur, rfl, hb1, (ho.block g (lt_of_block e3) (hF g rfl)).trans e3, rest⟩

/-- one slice of bytes in a new block -/
theorem rdl_one (w : World) (v : Value) (l : List UInt8) (e : TypeId) (h : Rd w v l) : RdL (w.alloc (.cells #[v] e)) (.slice (some ⟨w.heap.size, 0, none⟩) 1 1) [(v, l)] :=
  ⟨RdV.made w [v] e (0, 0) (by simp), fun p hp => by rw [List.mem_singleton.1 hp]; exact h.new ((Below.refl _ _).alloc (Nat.le_refl _) _)⟩

/-- three of them -/
theorem rdl_three (w : World) (u v x : Value) (k l m : List UInt8) (e : TypeId) (hu : Rd w u k) (hv : Rd w v l) (hx : Rd w x m) : RdL (w.alloc (.cells #[u, v, x] e)) (.slice (some ⟨w.heap.size, 0, none⟩) 3 3) [(u, k), (v, l), (x, m)] :=
  ⟨RdV.made w [u, v, x] e (0, 0) (by simp), fun p hp => by
    have hn := (Below.refl w.heap.size w).alloc (Nat.le_refl _) (.cells #[u, v, x] e)
    rcases List.mem_cons.1 hp with rfl | hp
    · exact hu.new hn
    · rcases List.mem_cons.1 hp with rfl | hp
      · exact hv.new hn
      · rw [List.mem_singleton.1 hp]; exact hx.new hn⟩

/-- crc.Sum(v) as a caller writes it -/
theorem crcSum1 (w : World) (b : Nat) (v : Value) (l : List UInt8) (hb : b = w.heap.size) (h : Rd w v l) :
    Calls Try.prog 61 #[.slice (some ⟨b, 0, none⟩) 1 1] (w.alloc (.cells #[v] 37)) fun e w' => e = .returned (wv (crc l)) ∧ w' = w.alloc (.cells #[v] 37) := by
  subst hb
  refine (crcSum _ _ _ (rdl_one w v l 37 h)).mono ?_
  rintro e w' ⟨rfl, rfl⟩
  refine ⟨?_, rfl⟩
  simp only [allOf, List.flatMap_cons, List.flatMap_nil, List.append_nil]

def WithTo (w : World) (l : List UInt8) (e : Ending) (w' : World) : Prop := ∃ a n c, e = .returned (.slice a n c) ∧ Rd w' (.slice a n c) (crcWith l) ∧ New w w' ∧ w'.ownsRow w.heap.size 5 1 (.slice a n c) (crcWith l).length ((crcWith l).map bv)

set_option maxRecDepth 100000 in
set_option maxHeartbeats 1000000 in
theorem crcWith_calls (w : World) (x : Value) (l : List UInt8) (hx : Rd w x l) (hb : l.length ≤ 140737488355000) :
    Calls Try.prog 52 #[x] w (WithTo w l) := by
  have hx' := hx
  obtain ⟨ax, nx, cx, rfl, -⟩ := hx'
  have HX := Lib.hid hx
  clear hx
  have HW : Hid (wU 4 ((crc l).toNat : Int) (some l) = some (crcWith l)) := by show _ = _; rw [wU_in 4 _ _ (crc_lt l)]; rfl
  have hc := crc_lt l
  have HLen := Lib.hid (crcWith_length l)
  go_enter Try.func52, Try.ntmps52
  go_wp2_with fail
  refine (penNew w).mono ?_
  rintro e w1 ⟨rfl, hp1, N1, -⟩
  have P1 := Lib.hid (Pend.start hp1 N1)
  clear hp1
  go_wp2_with fail
  refine (pendRaw P1.out _ l (HX.out.new N1) (fun m h => by cases h; simp; omega)).mono ?_
  rintro e w2 ⟨rfl, p2⟩
  have P2 : Hid (Pend w w.heap.size (some l) w2) := p2
  have N2 := p2.1
  clear p2 P1
  go_wp2_with fail
  refine (crcSum1 w2 _ _ l rfl (HX.out.new N2)).mono ?_
  rintro e w3 ⟨rfl, rfl⟩
  have P3 := Lib.hid (P2.out.later ((Below.refl _ _).alloc (Nat.le_refl _) (.cells #[.slice ax nx cx] 37)))
  generalize World.alloc w2 _ = w3 at P3 ⊢
  have HP := Lib.hid (pendU32 P3.out ((crc l).toNat : Int) (by omega) (by omega) (fun m h => by cases h; omega))
  rw [HW.out] at HP
  go_wp2_with fail
  refine HP.out.mono ?_
  rintro e w4 ⟨rfl, p4⟩
  have P4 := Lib.hid p4
  clear p4 P3 HP
  go_wp2_with fail
  refine (pendBytes P4.out (fun m h => by cases h; rw [HLen.out]; omega)).mono ?_
  rintro e w5 ⟨⟨a5, n5, c5, rfl, r5, N5, o5⟩, p5⟩
  have N5w := p5.1
  have O5 : Hid (w5.ownsRow w.heap.size 5 1 (.slice a5 n5 c5) (crcWith l).length ((crcWith l).map bv)) := own_base (o5 (fun e => by
    have h2 := HLen.out
    have e' : crcWith l = [] := e
    rw [e'] at h2
    simp at h2)) P4.out.1.size
  have R5 := Lib.hid r5
  clear p5 r5 o5
  simp only [Option.getD_some, Option.isSome_some] at R5 ⊢
  go_wp2
  go_ret
  exact ⟨a5, n5, c5, rfl, R5.out, N5w, O5.out⟩

def CTakeTo (w : World) (l : List UInt8) (e : Ending) (w' : World) : Prop := ∃ a n c, e = .returned (.tuple #[.slice a n c, .bool (crcOk l)]) ∧ Rd w' (.slice a n c) (crcText l) ∧ New w w' ∧ (crcText l ≠ [] → w'.ownsRow w.heap.size 5 1 (.slice a n c) (crcText l).length ((crcText l).map bv))

theorem crcTake_no {w w' : World} {l : List UInt8} (h : crcOk l = false) (hn : New w w') : CTakeTo w l (.returned (.tuple #[.slice none 0 0, .bool false])) w' := by
  have e : crcText l = [] := by unfold crcText; rw [h]; rfl
  refine ⟨none, 0, 0, by rw [h], by rw [e]; exact Rd.nil _, hn, fun h => absurd e h⟩


end Go.Proofs.Ytnekcdpfphgpbaa
