/-
  Different blocks have different encryptions.
-/
import Derived.Test.YtapoelmhnbgidaaAesBlock
namespace Go.Proofs.Ytapoelmhnbgidaa
set_option linter.unusedVariables false
set_option linter.unusedSimpArgs false

theorem ext16 (a b : List UInt8) (ha : a.length = 16) (hb : b.length = 16) (h : ∀ i, i < 16 → a.getD i 0 = b.getD i 0) : a = b := by
  apply List.ext_getElem (by omega)
  intro i h1 h2
  have := h i (by omega)
  rwa [List.getD_eq_getElem?_getD, List.getD_eq_getElem?_getD, List.getElem?_eq_getElem h1, List.getElem?_eq_getElem h2] at this

theorem fill_inj {f g : Nat → UInt8} {l m : List UInt8} (hl : l.length = 16) (hm : m.length = 16) (h : fillTo f l 16 = fillTo g m 16) (i : Nat) (hi : i < 16) : f i = g i := by
  rw [← fillTo_lt f l 16 i hi (by omega), ← fillTo_lt g m 16 i hi (by omega), h]

theorem addB_inj (a b k : List UInt8) (ha : a.length = 16) (hb : b.length = 16) (h : addB a k = addB b k) : a = b :=
  ext16 a b ha hb fun i hi => bxor_inj _ _ _ (fill_inj ha hb h i hi)

theorem repB_inj (a b : List UInt8) (ha : a.length = 16) (hb : b.length = 16) (h : repB a = repB b) : a = b :=
  ext16 a b ha hb fun i hi => (gbox_inj _ _).1 (fill_inj ha hb h i hi)

theorem rot_onto : ∀ j, j < 16 → ∃ i, i < 16 ∧ (i + 4 * (i % 4)) % 16 = j := by
  intro j hj
  exact ⟨(j + 12 * (j % 4)) % 16, by omega, by omega⟩

theorem rotB_inj (a b : List UInt8) (ha : a.length = 16) (hb : b.length = 16) (h : rotB a = rotB b) : a = b :=
  ext16 a b ha hb fun j hj => by
    obtain ⟨i, hi, rfl⟩ := rot_onto j hj
    exact fill_inj rfl rfl h i hi

/-- the products by 9, 11, 13, 14 -/
def m9 (x : UInt8) : UInt8 := bxor (dbl (dbl (dbl x))) x
def m11 (x : UInt8) : UInt8 := bxor (dbl (dbl (dbl x))) (bxor (dbl x) x)
def m13 (x : UInt8) : UInt8 := bxor (dbl (dbl (dbl x))) (bxor (dbl (dbl x)) x)
def m14 (x : UInt8) : UInt8 := bxor (dbl (dbl (dbl x))) (bxor (dbl (dbl x)) (dbl x))
def un4 (p q r s : UInt8) : UInt8 := bxor (m14 p) (bxor (m11 q) (bxor (m13 r) (m9 s)))

theorem un4_mix (a b c d : UInt8) : un4 (mix4 a b c d) (mix4 b c d a) (mix4 c d a b) (mix4 d a b c) = a := by
  unfold un4 m14 m11 m13 m9 mix4
  simp only [dbl_xor]
  generalize dbl (dbl (dbl (dbl a))) = a4
  generalize dbl (dbl (dbl a)) = a3
  generalize dbl (dbl a) = a2
  generalize dbl a = a1
  generalize dbl (dbl (dbl (dbl b))) = b4
  generalize dbl (dbl (dbl b)) = b3
  generalize dbl (dbl b) = b2
  generalize dbl b = b1
  generalize dbl (dbl (dbl (dbl c))) = c4
  generalize dbl (dbl (dbl c)) = c3
  generalize dbl (dbl c) = c2
  generalize dbl c = c1
  generalize dbl (dbl (dbl (dbl d))) = d4
  generalize dbl (dbl (dbl d)) = d3
  generalize dbl (dbl d) = d2
  generalize dbl d = d1
  simp only [bxor_assoc, bxor_comm, bxor_left_comm, bxor_self, bxor_cancel, bxor_0, bxor_0']

theorem mixB_inj (a b : List UInt8) (ha : a.length = 16) (hb : b.length = 16) (h : mixB a = mixB b) : a = b := by
  have hm : ∀ i, i < 16 → mixAt a i = mixAt b i := fun i hi => fill_inj rfl rfl h i hi
  have key : ∀ (l : List UInt8) (i : Nat), i < 16 → l.getD i 0 = un4 (mixAt l i) (mixAt l (i - i % 4 + (i % 4 + 1) % 4)) (mixAt l (i - i % 4 + (i % 4 + 2) % 4)) (mixAt l (i - i % 4 + (i % 4 + 3) % 4)) := by
    intro l i hi
    have h16 : i = 0 ∨ i = 1 ∨ i = 2 ∨ i = 3 ∨ i = 4 ∨ i = 5 ∨ i = 6 ∨ i = 7 ∨ i = 8 ∨ i = 9 ∨ i = 10 ∨ i = 11 ∨ i = 12 ∨ i = 13 ∨ i = 14 ∨ i = 15 := by omega
    rcases h16 with rfl | rfl | rfl | rfl | rfl | rfl | rfl | rfl | rfl | rfl | rfl | rfl | rfl | rfl | rfl | rfl <;> exact (un4_mix _ _ _ _).symm
  refine ext16 a b ha hb fun i hi => ?_
  rw [key a i hi, key b i hi, hm i hi, hm _ (by omega), hm _ (by omega), hm _ (by omega)]

theorem enc_inj (key a b : List UInt8) (ha : a.length = 16) (hb : b.length = 16) (r : Nat) (h : enc key a r = enc key b r) : a = b := by
  induction r with
  | zero => exact addB_inj a b key ha hb h
  | succ r ih =>
    unfold enc at h
    have la : (repB (enc key a r)).length = 16 := by rw [repB_length, enc_length key a ha]
    have lb : (repB (enc key b r)).length = 16 := by rw [repB_length, enc_length key b hb]
    have h1 : rotB (repB (enc key a r)) = rotB (repB (enc key b r)) := by
      by_cases h9 : r < 9
      · rw [if_pos h9, if_pos h9] at h
        exact mixB_inj _ _ (rotB_length _) (rotB_length _) (addB_inj _ _ _ (mixB_length _) (mixB_length _) h)
      · rw [if_neg h9, if_neg h9] at h
        exact addB_inj _ _ _ (rotB_length _) (rotB_length _) h
    exact ih (repB_inj _ _ (enc_length key a ha r) (enc_length key b hb r) (rotB_inj _ _ la lb h1))

end Go.Proofs.Ytapoelmhnbgidaa
