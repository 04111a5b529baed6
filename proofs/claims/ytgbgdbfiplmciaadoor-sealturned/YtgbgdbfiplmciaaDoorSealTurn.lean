/-
  seal: what becomes of a sealed text of which one byte is another one.
-/
import Derived.Test.YtgbgdbfiplmciaaDoorSealA
namespace Go.Proofs.YtgbgdbfiplmciaaDoor
set_option linter.unusedVariables false
set_option linter.unusedSimpArgs false
open Go.RowKit

theorem bxor_ne (a x : UInt8) (hx : x ≠ 0) : bxor a x ≠ a := by
  intro h
  apply hx
  have : bxor a (bxor a x) = bxor a a := by rw [h]
  unfold bxor at this
  rwa [← UInt8.xor_assoc, UInt8.xor_self, UInt8.zero_xor] at this

theorem set_ne (l : List UInt8) (i : Nat) (x : UInt8) (hx : x ≠ 0) (hi : i < l.length) : l.set i (bxor (l.getD i 0) x) ≠ l := by
  intro h
  have h2 : (l.set i (bxor (l.getD i 0) x)).getD i 0 = l.getD i 0 := by rw [h]
  rw [List.getD_eq_getElem?_getD, List.getElem?_set_self hi] at h2
  exact bxor_ne _ _ hx h2

theorem getD_left (a b : List UInt8) (i : Nat) (h : i < a.length) : (a ++ b).getD i 0 = a.getD i 0 := by
  rw [List.getD_eq_getElem?_getD, List.getElem?_append_left h, ← List.getD_eq_getElem?_getD]

theorem getD_right (a b : List UInt8) (i : Nat) (h : a.length ≤ i) : (a ++ b).getD i 0 = b.getD (i - a.length) 0 := by
  rw [List.getD_eq_getElem?_getD, List.getElem?_append_right h, ← List.getD_eq_getElem?_getD]

/-- opening what is made of two parts -/
theorem open_parts (key nonce beside a b : List UInt8) (hb : b.length = 16) :
    openErr key nonce beside (a ++ b) = (if b = stag key nonce beside a then 0 else 14) ∧ openText key nonce beside (a ++ b) = (if b = stag key nonce beside a then ctrX key nonce a else []) := by
  have hl : (a ++ b).length - 16 = a.length := by rw [List.length_append]; omega
  have h16 : ¬ (a ++ b).length < 16 := by rw [List.length_append]; omega
  have hr : rightTag key nonce beside (a ++ b) ↔ b = stag key nonce beside a := by
    unfold rightTag
    rw [hl, List.drop_left, List.take_left]
  unfold openErr openText
  have tk : List.take ((a ++ b).length - 16) (a ++ b) = a := by rw [hl, List.take_left]
  rw [if_neg h16, if_neg h16]
  by_cases h : b = stag key nonce beside a
  · rw [if_pos h, if_pos h, if_pos (hr.2 h), if_pos (hr.2 h), tk]; exact ⟨rfl, rfl⟩
  · rw [if_neg h, if_neg h, if_neg (fun c => h (hr.1 c)), if_neg (fun c => h (hr.1 c))]; exact ⟨rfl, rfl⟩

/-- a sealed text with one byte another one -/
def turned (key nonce beside t : List UInt8) (i : Nat) (x : UInt8) : List UInt8 := (sealOf key nonce beside t).set i (bxor ((sealOf key nonce beside t).getD i 0) x)

theorem turned_length (key nonce beside t : List UInt8) (i : Nat) (x : UInt8) : (turned key nonce beside t i x).length = t.length + 16 := by
  unfold turned; rw [List.length_set, sealOf_length]

/-- .. in its tag -/
theorem turned_tag (key nonce beside t : List UInt8) (i : Nat) (x : UInt8) (hx : x ≠ 0) (h1 : t.length ≤ i) (h2 : i < t.length + 16) : openErr key nonce beside (turned key nonce beside t i x) = 14 := by
  have e : turned key nonce beside t i x = ctrX key nonce t ++ (stag key nonce beside (ctrX key nonce t)).set (i - t.length) (bxor ((stag key nonce beside (ctrX key nonce t)).getD (i - t.length) 0) x) := by
    unfold turned sealOf
    rw [getD_right _ _ _ (by rw [ctrX_length]; exact h1), List.set_append_right i _ (by rw [ctrX_length]; exact h1), ctrX_length]
  rw [e, (open_parts key nonce beside _ _ (by rw [List.length_set, stag_length])).1, if_neg (set_ne _ _ _ hx (by rw [stag_length]; omega))]

/-- .. elsewhere -/
theorem turned_text (key nonce beside t : List UInt8) (i : Nat) (x : UInt8) (hx : x ≠ 0) (h1 : i < t.length) : (openErr key nonce beside (turned key nonce beside t i x) = 0 ∧ openText key nonce beside (turned key nonce beside t i x) ≠ t) ∨ openErr key nonce beside (turned key nonce beside t i x) = 14 := by
  have e : turned key nonce beside t i x = (ctrX key nonce t).set i (bxor ((ctrX key nonce t).getD i 0) x) ++ stag key nonce beside (ctrX key nonce t) := by
    unfold turned sealOf
    rw [getD_left _ _ _ (by rw [ctrX_length]; exact h1), List.set_append_left i _ (by rw [ctrX_length]; exact h1)]
  obtain ⟨p1, p2⟩ := open_parts key nonce beside ((ctrX key nonce t).set i (bxor ((ctrX key nonce t).getD i 0) x)) (stag key nonce beside (ctrX key nonce t)) (stag_length _ _ _ _)
  rw [e, p1, p2]
  by_cases h : stag key nonce beside (ctrX key nonce t) = stag key nonce beside ((ctrX key nonce t).set i (bxor ((ctrX key nonce t).getD i 0) x))
  · left
    rw [if_pos h, if_pos h]
    refine ⟨rfl, fun c => ?_⟩
    refine set_ne (ctrX key nonce t) i x hx (by rw [ctrX_length]; exact h1) ?_
    have := congrArg (ctrX key nonce) c
    rwa [ctrX_ctrX] at this
  · right
    rw [if_neg h]

end Go.Proofs.YtgbgdbfiplmciaaDoor
