/-
  CRC-32 by definition: the register, bit by bit; a change within 32 bits side by side changes it.
-/
import Derived.Test.YtjkhklbeimgggaaDoorBase
import Derived.Test.YtjkhklbeimgggaaDoorPenA
import Derived.Test.YtjkhklbeimgggaaDoorEyeA
namespace Go.Proofs.YtjkhklbeimgggaaDoor
set_option linter.unusedVariables false
set_option linter.unusedSimpArgs false
open Go.RowKit

/-- one shift of the register -/
def bstep (v : BitVec 32) : BitVec 32 := (v >>> 1) ^^^ (if v.getLsbD 0 then 0xedb88320#32 else 0#32)

def bsteps (v : BitVec 32) : Nat → BitVec 32
  | 0 => v
  | k + 1 => bstep (bsteps v k)

theorem bstep_zero : bstep 0#32 = 0#32 := by decide

theorem bstep_xor (a b : BitVec 32) : bstep (a ^^^ b) = bstep a ^^^ bstep b := by
  unfold bstep
  rw [BitVec.getLsbD_xor]
  apply BitVec.eq_of_getLsbD_eq
  intro i _
  cases a.getLsbD 0 <;> cases b.getLsbD 0 <;> simp only [Bool.xor_false, Bool.xor_true, Bool.false_xor, Bool.true_xor, Bool.not_true, Bool.not_false, Bool.false_eq_true, if_true, if_false, BitVec.getLsbD_xor, BitVec.getLsbD_ushiftRight] <;>
    cases a.getLsbD (1 + i) <;> cases b.getLsbD (1 + i) <;> cases BitVec.getLsbD 0xedb88320#32 i <;> simp

theorem bstep_ne (v : BitVec 32) (h : v ≠ 0#32) : bstep v ≠ 0#32 := by
  intro e
  apply h
  unfold bstep at e
  have hbit : ∀ i, ((v >>> 1) ^^^ (if v.getLsbD 0 then 0xedb88320#32 else 0#32)).getLsbD i = false := fun i => by rw [e]; simp
  cases h0 : v.getLsbD 0 with
  | true =>
    have := hbit 31
    rw [h0] at this
    simp at this
  | false =>
    apply BitVec.eq_of_getLsbD_eq
    intro i hi
    cases i with
    | zero => rw [h0]; simp
    | succ i =>
      have := hbit i
      rw [h0] at this
      simp only [Bool.false_eq_true, if_false, BitVec.xor_zero, BitVec.getLsbD_ushiftRight] at this
      rw [Nat.add_comm i 1, this]; simp

theorem bsteps_zero (k : Nat) : bsteps 0#32 k = 0#32 := by
  induction k with
  | zero => rfl
  | succ k ih => rw [bsteps, ih, bstep_zero]

theorem bsteps_xor (a b : BitVec 32) (k : Nat) : bsteps (a ^^^ b) k = bsteps a k ^^^ bsteps b k := by
  induction k with
  | zero => rfl
  | succ k ih => rw [bsteps, ih, bstep_xor]; rfl

theorem bsteps_ne (v : BitVec 32) (h : v ≠ 0#32) (k : Nat) : bsteps v k ≠ 0#32 := by
  induction k with
  | zero => exact h
  | succ k ih => exact bstep_ne _ ih

/-- a bit as a word -/
def bitw (b : Bool) : BitVec 32 := if b then 1#32 else 0#32

theorem bitw_xor (a b : Bool) : bitw (a ^^ b) = bitw a ^^^ bitw b := by cases a <;> cases b <;> decide

/-- the register behind the bits f a, f (a + 1) .. -/
def feed (v : BitVec 32) (f : Nat → Bool) (a : Nat) : Nat → BitVec 32
  | 0 => v
  | m + 1 => bstep (feed v f a m ^^^ bitw (f (a + m)))

theorem feed_add (v : BitVec 32) (f : Nat → Bool) (a m k : Nat) : feed v f a (m + k) = feed (feed v f a m) f (a + m) k := by
  induction k with
  | zero => rfl
  | succ k ih =>
    show bstep (feed v f a (m + k) ^^^ bitw (f (a + (m + k)))) = bstep (feed (feed v f a m) f (a + m) k ^^^ bitw (f (a + m + k)))
    rw [ih, Nat.add_assoc]

theorem feed_congr (v : BitVec 32) (f g : Nat → Bool) (a b m : Nat) (h : ∀ j, j < m → f (a + j) = g (b + j)) : feed v f a m = feed v g b m := by
  induction m with
  | zero => rfl
  | succ m ih => show bstep _ = bstep _; rw [ih (fun j hj => h j (by omega)), h m (by omega)]

theorem feed_xor (u v : BitVec 32) (f g : Nat → Bool) (a m : Nat) : feed (u ^^^ v) (fun j => f j ^^ g j) a m = feed u f a m ^^^ feed v g a m := by
  induction m with
  | zero => rfl
  | succ m ih =>
    show bstep _ = bstep _ ^^^ bstep _
    rw [ih, bitw_xor, ← bstep_xor]
    congr 1
    rw [BitVec.xor_assoc, BitVec.xor_assoc]
    congr 1
    rw [← BitVec.xor_assoc, ← BitVec.xor_assoc]
    congr 1
    exact BitVec.xor_comm _ _

theorem feed_zeros (v : BitVec 32) (a m : Nat) : feed v (fun _ => false) a m = bsteps v m := by
  induction m with
  | zero => rfl
  | succ m ih => show bstep _ = bstep _; rw [ih]; show bstep (_ ^^^ 0#32) = _; rw [BitVec.xor_zero]

/-- the word of the bits f 0 .. f (k - 1) -/
def low (f : Nat → Bool) : Nat → BitVec 32
  | 0 => 0#32
  | k + 1 => low f k ^^^ (if f k then 1#32 <<< k else 0#32)

theorem low_bit (f : Nat → Bool) (k : Nat) (hk : k ≤ 32) (i : Nat) : (low f k).getLsbD i = (decide (i < k) && f i) := by
  induction k with
  | zero => simp [low]
  | succ k ih =>
    have h1 : (if f k = true then 1#32 <<< k else 0#32).getLsbD i = (f k && decide (i = k)) := by
      cases f k with
      | false => simp
      | true =>
        simp only [if_true, Bool.true_and, BitVec.getLsbD_shiftLeft]
        by_cases e : i = k
        · subst e; simp; omega
        · have : ((1#32 : BitVec 32).getLsbD (i - k) = true) ↔ i - k = 0 := by
            rw [BitVec.getLsbD_one]; simp
          by_cases h2 : i < k
          · simp [h2, e]
          · have h3 : (1#32 : BitVec 32).getLsbD (i - k) = false := by
              cases hc : (1#32 : BitVec 32).getLsbD (i - k) with
              | false => rfl
              | true => have := this.1 hc; omega
            simp [h3, e]
    show (low f k ^^^ _).getLsbD i = _
    rw [BitVec.getLsbD_xor, ih (by omega), h1]
    by_cases e : i = k
    · subst e; simp
    · by_cases h2 : i < k
      · simp [h2, e, show i < k + 1 by omega]
      · simp [h2, e, show ¬ i < k + 1 by omega]

theorem unit_steps : ∀ k : Fin 32, bsteps (1#32 <<< k.val) k.val = 1#32 := by decide +kernel

theorem feed_low (v : BitVec 32) (f : Nat → Bool) (a k : Nat) (hk : k ≤ 32) : feed v f a k = bsteps (v ^^^ low (fun i => f (a + i)) k) k := by
  induction k with
  | zero => show v = v ^^^ 0#32; rw [BitVec.xor_zero]
  | succ k ih =>
    show bstep _ = bstep _
    rw [ih (by omega)]
    congr 1
    show _ = bsteps (v ^^^ (low (fun i => f (a + i)) k ^^^ if f (a + k) = true then 1#32 <<< k else 0#32)) k
    rw [← BitVec.xor_assoc, bsteps_xor (v ^^^ low (fun i => f (a + i)) k)]
    congr 1
    cases f (a + k) with
    | false => exact (bsteps_zero k).symm
    | true => exact (unit_steps ⟨k, by omega⟩).symm

/-- a byte through the register -/
def bmix (v : BitVec 32) (b : UInt8) : BitVec 32 := bsteps (v ^^^ b.toBitVec.setWidth 32) 8

def breg (v : BitVec 32) (l : List UInt8) : BitVec 32 := l.foldl bmix v

/-- bit j of a byte sequence, of each byte the lowest first -/
def bitAt (l : List UInt8) (j : Nat) : Bool := (l.getD (j / 8) 0).toBitVec.getLsbD (j % 8)

theorem bmix_feed (v : BitVec 32) (b : UInt8) (f : Nat → Bool) (a : Nat) (h : ∀ i, i < 8 → f (a + i) = b.toBitVec.getLsbD i) : feed v f a 8 = bmix v b := by
  rw [feed_low v f a 8 (by omega)]
  unfold bmix
  congr 2
  apply BitVec.eq_of_getLsbD_eq
  intro i hi
  rw [low_bit _ 8 (by omega), BitVec.getLsbD_setWidth]
  by_cases h8 : i < 8
  · simp [h8, hi, h i h8]
  · have : b.toBitVec.getLsbD i = false := BitVec.getLsbD_of_ge _ _ (by omega)
    simp [h8, this]

theorem breg_snoc (v : BitVec 32) (l : List UInt8) (b : UInt8) : breg v (l ++ [b]) = bmix (breg v l) b := by simp [breg, List.foldl_append]

theorem breg_feed_take (v : BitVec 32) (l : List UInt8) (k : Nat) (hk : k ≤ l.length) : breg v (l.take k) = feed v (bitAt l) 0 (8 * k) := by
  induction k with
  | zero => rfl
  | succ k ih =>
    have hlt : k < l.length := by omega
    rw [show 8 * (k + 1) = 8 * k + 8 by omega, feed_add, ← ih (by omega), Nat.zero_add]
    rw [List.take_add_one, List.getElem?_eq_getElem hlt, Option.toList_some, breg_snoc]
    refine (bmix_feed _ _ _ _ (fun i hi => ?_)).symm
    unfold bitAt
    rw [show (8 * k + i) / 8 = k by omega, show (8 * k + i) % 8 = i by omega, List.getD_eq_getElem?_getD, List.getElem?_eq_getElem hlt]
    rfl

theorem breg_feed (v : BitVec 32) (l : List UInt8) : breg v l = feed v (bitAt l) 0 (8 * l.length) := by
  rw [← breg_feed_take v l l.length (Nat.le_refl _), List.take_length]

/-- the checksum -/
def crc (l : List UInt8) : UInt32 := ⟨~~~ breg 4294967295#32 l⟩

theorem crc_lt (l : List UInt8) : (crc l).toNat < 4294967296 := (crc l).toNat_lt

/-- A CHANGE WITHIN 32 BITS CHANGES THE CHECKSUM -/
theorem crc_burst (l l' : List UInt8) (hl : l'.length = l.length) (at_ : Nat) (t : UInt32) (ht : t ≠ 0) (hat : at_ + 32 ≤ 8 * l.length)
    (h : ∀ j, j < 8 * l.length → bitAt l' j = (bitAt l j ^^ (decide (at_ ≤ j ∧ j < at_ + 32) && t.toBitVec.getLsbD (j - at_)))) : crc l' ≠ crc l := by
  have key : breg 4294967295#32 l' = breg 4294967295#32 l ^^^ feed 0#32 (fun j => decide (at_ ≤ j ∧ j < at_ + 32) && t.toBitVec.getLsbD (j - at_)) 0 (8 * l.length) := by
    rw [breg_feed, breg_feed, hl, ← feed_xor, BitVec.xor_zero]
    exact feed_congr _ _ _ _ _ _ (fun j hj => by rw [Nat.zero_add]; exact h j hj)
  have hn : feed 0#32 (fun j => decide (at_ ≤ j ∧ j < at_ + 32) && t.toBitVec.getLsbD (j - at_)) 0 (8 * l.length) ≠ 0#32 := by
    obtain ⟨r, hr⟩ : ∃ r, 8 * l.length = at_ + (32 + r) := ⟨8 * l.length - at_ - 32, by omega⟩
    rw [hr, feed_add, feed_add]
    have e1 : feed 0#32 (fun j => decide (at_ ≤ j ∧ j < at_ + 32) && t.toBitVec.getLsbD (j - at_)) 0 at_ = 0#32 := by
      rw [feed_congr _ _ (fun _ => false) _ 0 _ (fun j hj => by simp; intro h1; omega), feed_zeros, bsteps_zero]
    rw [e1]
    have e2 : feed 0#32 (fun j => decide (at_ ≤ j ∧ j < at_ + 32) && t.toBitVec.getLsbD (j - at_)) (0 + at_) 32 = bsteps t.toBitVec 32 := by
      rw [feed_low _ _ _ _ (by omega), BitVec.zero_xor]
      congr 1
      apply BitVec.eq_of_getLsbD_eq
      intro i hi
      rw [low_bit _ 32 (by omega)]
      simp [show 0 + at_ + i - at_ = i by omega]
      omega
    rw [e2]
    have e3 : ∀ v : BitVec 32, feed v (fun j => decide (at_ ≤ j ∧ j < at_ + 32) && t.toBitVec.getLsbD (j - at_)) (0 + at_ + 32) r = bsteps v r := by
      intro v
      rw [feed_congr _ _ (fun _ => false) _ 0 _ (fun j hj => by simp; intro h1 h2; omega), feed_zeros]
    rw [e3]
    refine bsteps_ne _ (bsteps_ne _ (fun e => ht ?_) 32) r
    exact UInt32.eq_of_toBitVec_eq e
  intro e
  apply hn
  have e' : (~~~ breg 4294967295#32 l') = ~~~ breg 4294967295#32 l := congrArg UInt32.toBitVec e
  have e2 := congrArg (fun x => ~~~ x) e'
  simp only [BitVec.not_not] at e2
  rw [key] at e2
  have := congrArg (fun x => breg 4294967295#32 l ^^^ x) e2
  simpa [← BitVec.xor_assoc] using this

/-- a bit turned -/
def flip1 (c : List UInt8) (j : Nat) : List UInt8 := c.set (j / 8) (bxor (c.getD (j / 8) 0) (UInt8.ofNat (2 ^ (j % 8))))

theorem flip1_length (c : List UInt8) (j : Nat) : (flip1 c j).length = c.length := by simp [flip1]

theorem unit_bit : ∀ a b : Fin 8, (UInt8.ofNat (2 ^ a.val)).toBitVec.getLsbD b.val = decide (b.val = a.val) := by decide +kernel

theorem flip1_bit (c : List UInt8) (j : Nat) (hj : j < 8 * c.length) (i : Nat) : bitAt (flip1 c j) i = (bitAt c i ^^ decide (i = j)) := by
  unfold bitAt flip1
  by_cases e : i / 8 = j / 8
  · have h1 : j / 8 < c.length := by omega
    rw [e, List.getD_eq_getElem?_getD, List.getElem?_set_self h1]
    have h2 : (bxor (c.getD (j / 8) 0) (UInt8.ofNat (2 ^ (j % 8)))).toBitVec = (c.getD (j / 8) 0).toBitVec ^^^ (UInt8.ofNat (2 ^ (j % 8))).toBitVec := rfl
    rw [Option.getD_some, h2, BitVec.getLsbD_xor]
    have h3 := unit_bit ⟨j % 8, by omega⟩ ⟨i % 8, by omega⟩
    simp only at h3
    rw [h3]
    congr 1
    rw [decide_eq_decide]
    omega
  · rw [List.getD_eq_getElem?_getD, List.getElem?_set_ne (by omega), ← List.getD_eq_getElem?_getD, decide_eq_false (by rintro rfl; exact e rfl)]
    simp

/-- the bits from at_ on turned where t has a one, k of them -/
def flips (c : List UInt8) (at_ : Nat) (t : UInt32) : Nat → List UInt8
  | 0 => c
  | k + 1 => if t.toNat / 2 ^ k % 2 = 1 then flip1 (flips c at_ t k) (at_ + k) else flips c at_ t k

theorem flips_length (c : List UInt8) (at_ : Nat) (t : UInt32) (k : Nat) : (flips c at_ t k).length = c.length := by
  induction k with
  | zero => rfl
  | succ k ih =>
    rw [flips]
    split
    · rw [flip1_length, ih]
    · exact ih

theorem word_bit (t : UInt32) (k : Nat) : t.toBitVec.getLsbD k = decide (t.toNat / 2 ^ k % 2 = 1) := by
  show t.toNat.testBit k = _
  rw [Nat.testBit_eq_decide_div_mod_eq]

theorem flips_bit (c : List UInt8) (at_ : Nat) (t : UInt32) (k : Nat) (hk : at_ + k ≤ 8 * c.length) (i : Nat) : bitAt (flips c at_ t k) i = (bitAt c i ^^ (decide (at_ ≤ i ∧ i < at_ + k) && t.toBitVec.getLsbD (i - at_))) := by
  induction k with
  | zero =>
    have : decide (at_ ≤ i ∧ i < at_ + 0) = false := decide_eq_false (by omega)
    rw [this]; simp [flips]
  | succ k ih =>
    have ih := ih (by omega)
    rw [flips]
    by_cases e : i = at_ + k
    · subst e
      have h1 : decide (at_ ≤ at_ + k ∧ at_ + k < at_ + k) = false := decide_eq_false (by omega)
      have h2 : decide (at_ ≤ at_ + k ∧ at_ + k < at_ + (k + 1)) = true := decide_eq_true (by omega)
      rw [h1, Bool.false_and, Bool.xor_false] at ih
      rw [h2, Bool.true_and, show at_ + k - at_ = k by omega, word_bit]
      split
      · rename_i h
        rw [flip1_bit _ _ (by rw [flips_length]; omega), ih, decide_eq_true h, decide_eq_true rfl]
      · rename_i h
        rw [ih, decide_eq_false h, Bool.xor_false]
    · have h1 : decide (at_ ≤ i ∧ i < at_ + k) = decide (at_ ≤ i ∧ i < at_ + (k + 1)) := by rw [decide_eq_decide]; omega
      rw [← h1, ← ih]
      split
      · rw [flip1_bit _ _ (by rw [flips_length]; omega), decide_eq_false e, Bool.xor_false]
      · rfl

theorem flips_drop (c : List UInt8) (at_ : Nat) (t : UInt32) (n : Nat) (k : Nat) (hk : at_ + k ≤ 8 * n) : (flips c at_ t k).drop n = c.drop n := by
  induction k with
  | zero => rfl
  | succ k ih =>
    have ih := ih (by omega)
    rw [flips]
    split
    · unfold flip1
      rw [List.drop_set_of_lt (by omega), ih]
    · exact ih

theorem bitAt_take (c : List UInt8) (n j : Nat) (hj : j < 8 * n) : bitAt (c.take n) j = bitAt c j := by
  unfold bitAt
  rw [List.getD_eq_getElem?_getD, List.getD_eq_getElem?_getD, List.getElem?_take_of_lt (by omega)]

/-- a byte sequence and its checksum -/
def crcWith (l : List UInt8) : List UInt8 := l ++ be 4 (crc l).toNat

theorem crcWith_length (l : List UInt8) : (crcWith l).length = l.length + 4 := by unfold crcWith; rw [List.length_append, be_length]

/-- is it a checked one? -/
def crcOk (c : List UInt8) : Bool := decide (4 ≤ c.length ∧ val (c.drop (c.length - 4)) = (crc (c.take (c.length - 4))).toNat)

def crcText (c : List UInt8) : List UInt8 := if crcOk c = true then c.take (c.length - 4) else []

theorem crc_back (l : List UInt8) : crcOk (crcWith l) = true ∧ crcText (crcWith l) = l := by
  have hl := crcWith_length l
  have h1 : (crcWith l).take ((crcWith l).length - 4) = l := by rw [hl]; unfold crcWith; simp
  have h2 : (crcWith l).drop ((crcWith l).length - 4) = be 4 (crc l).toNat := by rw [hl]; unfold crcWith; simp
  have h3 : crcOk (crcWith l) = true := by
    unfold crcOk
    rw [h1, h2, val_be_lt 4 _ (crc_lt l)]
    exact decide_eq_true ⟨by omega, rfl⟩
  exact ⟨h3, by unfold crcText; rw [if_pos h3, h1]⟩

/-- a checked sequence ends with its checksum's bytes -/
theorem crcOk_iff (c : List UInt8) (h : 4 ≤ c.length) : crcOk c = true ↔ c.drop (c.length - 4) = be 4 (crc (c.take (c.length - 4))).toNat := by
  unfold crcOk
  rw [decide_eq_true_iff]
  constructor
  · rintro ⟨-, e⟩
    rw [← e]
    have := be_val (c.drop (c.length - 4))
    rw [List.length_drop, show c.length - (c.length - 4) = 4 by omega] at this
    exact this.symm
  · intro e
    refine ⟨h, ?_⟩
    rw [e, val_be_lt 4 _ (crc_lt _)]

/-- WITHIN 32 BITS AHEAD OF THE CHECKSUM -/
theorem crc_flips (l : List UInt8) (at_ : Nat) (t : UInt32) (ht : t ≠ 0) (hat : at_ + 32 ≤ 8 * l.length) : crcOk (flips (crcWith l) at_ t 32) = false := by
  have hl := crcWith_length l
  have hl2 := flips_length (crcWith l) at_ t 32
  cases hc : crcOk (flips (crcWith l) at_ t 32) with
  | false => rfl
  | true =>
    exfalso
    rw [crcOk_iff _ (by omega)] at hc
    rw [hl2, hl, Nat.add_sub_cancel, flips_drop _ _ _ _ _ hat] at hc
    have h2 : (crcWith l).drop l.length = be 4 (crc l).toNat := by unfold crcWith; simp
    rw [h2] at hc
    have h3 := congrArg val hc
    rw [val_be_lt 4 _ (crc_lt _), val_be_lt 4 _ (crc_lt _)] at h3
    refine crc_burst l ((flips (crcWith l) at_ t 32).take l.length) ?_ at_ t ht hat (fun j hj => ?_) (UInt32.toNat_inj.1 h3).symm
    · rw [List.length_take, hl2, hl]; omega
    · rw [bitAt_take _ _ _ hj, flips_bit _ _ _ _ (by omega)]
      congr 1
      rw [← bitAt_take (crcWith l) _ _ hj]
      congr 1
      unfold crcWith; simp

/-- A BYTE OF THE CHECKSUM -/
theorem crc_byte (l : List UInt8) (k : Nat) (b : UInt8) (hk : l.length ≤ k) (hk2 : k < l.length + 4) (hb : b ≠ (crcWith l).getD k 0) : crcOk ((crcWith l).set k b) = false := by
  have hl := crcWith_length l
  cases hc : crcOk ((crcWith l).set k b) with
  | false => rfl
  | true =>
    exfalso
    rw [crcOk_iff _ (by rw [List.length_set]; omega)] at hc
    rw [List.length_set, hl, Nat.add_sub_cancel, List.take_set_of_le hk] at hc
    have h1 : (crcWith l).take l.length = l := by unfold crcWith; simp
    have h2 : (crcWith l).drop l.length = be 4 (crc l).toNat := by unfold crcWith; simp
    rw [h1, ← h2] at hc
    have h3 := congrArg (fun x => x[k - l.length]?) hc
    simp only [List.getElem?_drop, show l.length + (k - l.length) = k by omega] at h3
    rw [List.getElem?_set_self (by omega)] at h3
    apply hb
    rw [List.getD_eq_getElem?_getD, ← h3]; rfl

theorem xor_ne (a b : UInt8) (h : b ≠ 0) : bxor a b ≠ a := by
  intro e
  apply h
  have := congrArg (fun x => a ^^^ x) e
  unfold bxor at this
  simpa [← UInt8.xor_assoc] using this

/-! the code's words -/

/-- the register as a word -/
def csteps (x : UInt32) (k : Nat) : UInt32 := ⟨bsteps x.toBitVec k⟩
def cmix (x : UInt32) (b : UInt8) : UInt32 := csteps (wxor x (UInt32.ofNat b.toNat)) 8
def creg (l : List UInt8) : UInt32 := ⟨breg 4294967295#32 l⟩

theorem cmix_eq (x : UInt32) (b : UInt8) : cmix x b = ⟨bmix x.toBitVec b⟩ := by
  have e : (UInt32.ofNat b.toNat).toBitVec = b.toBitVec.setWidth 32 := by
    apply BitVec.eq_of_toNat_eq
    rw [BitVec.toNat_setWidth]
    show (UInt32.ofNat b.toNat).toNat = b.toNat % 2 ^ 32
    rw [UInt32.toNat_ofNat']
  show (⟨bsteps (x.toBitVec ^^^ (UInt32.ofNat b.toNat).toBitVec) 8⟩ : UInt32) = ⟨bsteps (x.toBitVec ^^^ b.toBitVec.setWidth 32) 8⟩
  rw [e]

theorem creg_nil : creg [] = 4294967295 := rfl
theorem creg_snoc (l : List UInt8) (b : UInt8) : creg (l ++ [b]) = cmix (creg l) b := by
  rw [cmix_eq]; unfold creg; rw [breg_snoc]
theorem crc_creg (l : List UInt8) : crc l = wnot (creg l) := rfl
theorem csteps_zero (x : UInt32) : csteps x 0 = x := rfl

theorem bstep_toNat (v : BitVec 32) : (bstep v).toNat = v.toNat / 2 ^^^ (if v.toNat % 2 = 1 then 3988292384 else 0) := by
  have h0 : v.getLsbD 0 = decide (v.toNat % 2 = 1) := by show v.toNat.testBit 0 = _; rw [Nat.testBit_zero]
  unfold bstep
  rw [h0, BitVec.toNat_xor, BitVec.toNat_ushiftRight, Nat.shiftRight_eq_div_pow, Nat.pow_one]
  congr 1
  by_cases h : v.toNat % 2 = 1
  · rw [if_pos (decide_eq_true h), if_pos h]; rfl
  · rw [if_neg (by rw [decide_eq_false h]; decide), if_neg h]; rfl

/-- a shift where the bit that goes out is 1 -/
theorem cstep_odd (x : UInt32) (k : Nat) (h : (csteps x k).toNat % 2 = 1) : bits .xor .u32 ((csteps x k).toNat / 2 : Int) 3988292384 = ((csteps x (k + 1)).toNat : Int) := by
  have e : (csteps x (k + 1)).toNat = (csteps x k).toNat / 2 ^^^ 3988292384 := by
    show (bstep (csteps x k).toBitVec).toNat = _
    rw [bstep_toNat]
    exact congrArg _ (if_pos h)
  rw [e]
  have := u32_xor_nat ((csteps x k).toNat / 2) 3988292384 (by have := u32_lt (csteps x k); omega) (by decide)
  rw [← this]
  rfl

theorem cstep_even (x : UInt32) (k : Nat) (h : (csteps x k).toNat % 2 = 0) : ((csteps x k).toNat / 2 : Int) = ((csteps x (k + 1)).toNat : Int) := by
  have e : (csteps x (k + 1)).toNat = (csteps x k).toNat / 2 ^^^ 0 := by
    show (bstep (csteps x k).toBitVec).toNat = _
    rw [bstep_toNat]
    exact congrArg _ (if_neg (by show ¬ (csteps x k).toNat % 2 = 1; omega))
  rw [e, Nat.xor_zero]
  rfl

theorem low1_of (x : UInt32) : bits .and .u32 (x.toNat : Int) 1 = ((x.toNat % 2 : Nat) : Int) := by
  rw [show (1 : Int) = ((1 : Nat) : Int) from rfl, u32_and_nat _ _ (u32_lt x) (by decide), nat_mask1]

theorem byteIn (x : UInt32) (b : UInt8) : bits .xor .u32 (x.toNat : Int) (b.toNat : Int) = ((csteps (wxor x (UInt32.ofNat b.toNat)) 0).toNat : Int) := by
  have e : (UInt32.ofNat b.toNat).toNat = b.toNat := by rw [UInt32.toNat_ofNat_of_lt' (by have := b.toNat_lt; show _ < 4294967296; omega)]
  have h := u32_bxor x (UInt32.ofNat b.toNat)
  rw [e] at h
  exact h

theorem inv_of (x : UInt32) : bits .xor .u32 (x.toNat : Int) 4294967295 = ((wnot x).toNat : Int) := by
  have h := u32_bxor x 4294967295
  have e : wxor x 4294967295 = wnot x := by
    unfold wxor wnot
    rw [show (4294967295 : UInt32) = -1 by decide, UInt32.xor_neg_one]
  rw [← e, ← h]
  rfl

/-- the document's example -/
theorem crc_wake : crc [49, 50, 51, 52, 53, 54, 55, 56, 57] = 3421780262 := by decide +kernel

end Go.Proofs.YtjkhklbeimgggaaDoor
