/-
  Plain mathematics of package wire: what is written is read back; what is cut off is too short.
-/
import Derived.Test.YtkpenodbjmhoeaaDoorEyeA
import Derived.Test.YtkpenodbjmhoeaaDoorPenA
namespace Go.Proofs.YtkpenodbjmhoeaaDoor
set_option linter.unusedVariables false
set_option linter.unusedSimpArgs false
open Go.RowKit

theorem val_cons (b : UInt8) (l : List UInt8) : val (b :: l) = b.toNat * 256 ^ l.length + val l := by
  suffices h : ∀ (l : List UInt8) (a : Nat), l.foldl (fun n b => n * 256 + b.toNat) a = a * 256 ^ l.length + val l by
    have := h l b.toNat
    simpa [val] using this
  intro l
  induction l with
  | nil => intro a; simp [val]
  | cons c r ih =>
    intro a
    simp only [List.foldl_cons, List.length_cons, val]
    rw [ih, ih, Nat.pow_succ, Nat.add_mul]
    simp only [Nat.zero_mul, Nat.zero_add, Nat.mul_assoc, Nat.mul_comm 256, Nat.add_assoc]

theorem val_be (size n : Nat) : val (be size n) = n % 256 ^ size := by
  induction size with
  | zero => simp [be, val, Nat.mod_one]
  | succ k ih =>
    rw [be, val_cons, ih, be_length, UInt8.toNat_ofNat']
    have h1 : n % 256 ^ (k + 1) = n % 256 ^ k + 256 ^ k * (n / 256 ^ k % 256) := by
      rw [Nat.pow_succ, Nat.mod_mul]
    rw [h1, Nat.mul_comm]
    simp only [Nat.reducePow]
    omega

theorem val_be_lt (size n : Nat) (h : n < 256 ^ size) : val (be size n) = n := by rw [val_be, Nat.mod_eq_of_lt h]

theorem eTake_err (n : Int) (r : List UInt8) (err : Int) (h : err ≠ 0) : eTake n r err = ([], r, err) := by simp [eTake, h]

theorem eTake_ok (k : Nat) (r : List UInt8) (h : k ≤ r.length) : eTake k r 0 = (r.take k, r.drop k, 0) := by
  unfold eTake
  rw [if_neg (by simp), if_neg (by omega), if_neg (by omega)]
  simp

theorem eTake_short (k : Nat) (r : List UInt8) (h : r.length < k) : eTake k r 0 = ([], r, 10) := by
  unfold eTake
  rw [if_neg (by simp), if_neg (by omega), if_pos (by omega)]

theorem eText_err (size : Nat) (most : Int) (r : List UInt8) (err : Int) (h : err ≠ 0) : eText size most r err = ([], r, err) := by
  have hf : eFail err 11 = err := by simp [eFail, h]
  simp only [eText, eTake_err _ _ _ h, hf, ite_self]

theorem eTake_join (a b : List UInt8) : eTake a.length (a ++ b) 0 = (a, b, 0) := by rw [eTake_ok _ _ (by simp)]; simp

theorem eText_ok (size : Nat) (most : Int) (l rest : List UInt8) (hl : l.length < 256 ^ size) (hm : (l.length : Int) ≤ most) : eText size most (be size l.length ++ (l ++ rest)) 0 = (l, rest, 0) := by
  have h1 : eTake size (be size l.length ++ (l ++ rest)) 0 = (be size l.length, l ++ rest, 0) := by
    have := eTake_join (be size l.length) (l ++ rest)
    rwa [be_length] at this
  simp only [eText, h1, val_be_lt size _ hl]
  rw [if_neg (show ¬ most < (l.length : Int) by omega), eTake_join]
  simp

/-- a text that is cut off -/
theorem eText_cut (size : Nat) (most : Int) (l rest : List UInt8) (k : Nat) (hl : l.length < 256 ^ size) (hm : (l.length : Int) ≤ most) (hk : k < size + l.length) : (eText size most ((be size l.length ++ (l ++ rest)).take k) 0).2.2 = 10 := by
  by_cases h1 : k < size
  · have hlen : ((be size l.length ++ (l ++ rest)).take k).length < size := by rw [List.length_take]; omega
    simp only [eText, eTake_short _ _ hlen]
    have hv : val [] = 0 := rfl
    rw [hv, if_neg (show ¬ most < ((0 : Nat) : Int) by omega), eTake_err _ _ _ (by decide)]
    simp
  · have h2 : (be size l.length ++ (l ++ rest)).take k = be size l.length ++ (l ++ rest).take (k - size) := by
      rw [List.take_append, List.take_of_length_le (by rw [be_length]; omega), be_length]
    have h3 : eTake size (be size l.length ++ (l ++ rest).take (k - size)) 0 = (be size l.length, (l ++ rest).take (k - size), 0) := by
      have := eTake_join (be size l.length) ((l ++ rest).take (k - size))
      rwa [be_length] at this
    rw [h2]
    simp only [eText, h3, val_be_lt size _ hl]
    rw [if_neg (show ¬ most < (l.length : Int) by omega), eTake_short _ _ (by rw [List.length_take]; omega)]
    simp

/-- a text behind which something is left, cut off -/
theorem eText_past (size : Nat) (most : Int) (l rest : List UInt8) (k : Nat) (hl : l.length < 256 ^ size) (hm : (l.length : Int) ≤ most) (hk : size + l.length ≤ k) : eText size most ((be size l.length ++ (l ++ rest)).take k) 0 = (l, rest.take (k - size - l.length), 0) := by
  have h2 : (be size l.length ++ (l ++ rest)).take k = be size l.length ++ (l ++ rest.take (k - size - l.length)) := by
    rw [List.take_append, List.take_of_length_le (by rw [be_length]; omega), be_length, List.take_append, List.take_of_length_le (i := k - size) (by omega)]
  rw [h2, eText_ok size most l _ hl hm]

/-- what is written by Short, Long and U32, cut off: too short -/
theorem cuts (a b : List UInt8) (k : Nat) (ha : a.length ≤ 255) (hb : b.length ≤ 700) (hk : k < a.length + b.length + 7) :
    ∀ t1 t2, t1 = eText 1 255 ((be 1 a.length ++ (a ++ (be 2 b.length ++ (b ++ be 4 7)))).take k) 0 → t2 = eText 2 65535 t1.2.1 t1.2.2 → (eTake (4 : Nat) t2.2.1 t2.2.2).2.2 = 10 := by
  rintro t1 t2 rfl rfl
  by_cases h1 : k < 1 + a.length
  · have e := eText_cut 1 255 a (be 2 b.length ++ (b ++ be 4 7)) k (by omega) (by omega) h1
    rw [e, eText_err _ _ _ _ (by decide)]
    simp only
    rw [eTake_err _ _ _ (by decide)]
  · rw [eText_past 1 255 a _ k (by omega) (by omega) (by omega)]
    simp only
    by_cases h2 : k - 1 - a.length < 2 + b.length
    · have e := eText_cut 2 65535 b (be 4 7) (k - 1 - a.length) (by omega) (by omega) h2
      rw [e, eTake_err _ _ _ (by decide)]
    · rw [eText_past 2 65535 b _ _ (by omega) (by omega) (by omega)]
      simp only
      rw [eTake_short _ _ (by rw [List.length_take]; omega)]

theorem eTake_rest (n : Int) (r : List UInt8) (err : Int) : (eTake n r err).2.1.length ≤ r.length := by
  unfold eTake
  split
  · simp
  · split
    · simp
    · split
      · simp
      · simp

theorem eText_rest (size : Nat) (most : Int) (r : List UInt8) (err : Int) : (eText size most r err).2.1.length ≤ r.length := by
  simp only [eText]
  generalize (if most < (val (eTake size r err).1 : Int) then eFail (eTake size r err).2.2 11 else (eTake size r err).2.2) = e2
  split
  · exact Nat.le_trans (eTake_rest _ _ _) (eTake_rest _ _ _)
  · exact Nat.le_refl _

theorem eNum_ok (size n : Nat) (rest : List UInt8) (h : n < 256 ^ size) : eNum size (be size n ++ rest) 0 = n ∧ eTake size (be size n ++ rest) 0 = (be size n, rest, 0) := by
  have h1 : eTake size (be size n ++ rest) 0 = (be size n, rest, 0) := by
    have := eTake_join (be size n) rest
    rwa [be_length] at this
  refine ⟨?_, h1⟩
  unfold eNum
  rw [h1]
  exact val_be_lt size n h

end Go.Proofs.YtkpenodbjmhoeaaDoor
