/-
  Layer 19, pure: an encoding is read back.
-/
import Derived.Test.YtliojldkdmaofaaNodeSpec
import Derived.Test.YtliojldkdmaofaaRefEye
namespace Go.Proofs.Ytliojldkdmaofaa
set_option linter.unusedVariables false
set_option linter.unusedSimpArgs false
set_option maxRecDepth 100000
open Go.RowKit

theorem rNum_be (n v : Nat) (r : List UInt8) (h : v < 256 ^ n) : rNum n (be n v ++ r, 0) = (v, (r, 0)) := by
  have hl := be_length n v
  have e := eTake_ok n (be n v ++ r) (by rw [List.length_append, hl]; omega)
  unfold rNum eNum
  rw [e]
  simp only
  rw [List.take_left' hl, List.drop_left' hl, val_be_lt _ _ h]

theorem rText_be (most : Int) (l r : List UInt8) (h : (l.length : Int) ≤ most) (h2 : l.length < 256) : rText most ((be 1 l.length ++ l) ++ r, 0) = (l, (r, 0)) := by
  have hl := be_length 1 l.length
  have e1 : ((be 1 l.length ++ l) ++ r).take 1 = be 1 l.length := by rw [List.append_assoc, List.take_left' hl]
  have e2 : ((be 1 l.length ++ l) ++ r).drop 1 = l ++ r := by rw [List.append_assoc, List.drop_left' hl]
  have hv : val (be 1 l.length) = l.length := val_be_lt _ _ (by omega)
  have hg := eText_good 1 most ((be 1 l.length ++ l) ++ r) (by rw [List.length_append, List.length_append, hl]; omega) (by rw [e1, hv]; exact h) (by rw [e1, hv, List.length_append, List.length_append, hl]; omega)
  unfold rText
  simp only
  rw [hg, e1, hv, e2]
  have e3 : ((be 1 l.length ++ l) ++ r).drop (1 + l.length) = r := List.drop_left' (by rw [List.length_append, hl])
  rw [e3, List.take_left' rfl]

theorem rUnm_back (l : List Int) (h : ∀ x ∈ l, 0 ≤ x ∧ x ≤ 31) (r : List UInt8) : rUnm l.length (nUnm l ++ r, 0) = (l, (r, 0)) := by
  have key : ∀ (n : Nat) (l : List Int), l.length = n → (∀ x ∈ l, 0 ≤ x ∧ x ≤ 31) → ∀ r, rUnm n (nUnm l ++ r, 0) = (l, (r, 0)) := by
    intro n
    induction n with
    | zero =>
      intro l hl h r
      have : l = [] := List.length_eq_zero_iff.1 hl
      subst this
      rfl
    | succ n ih =>
      intro l hl h r
      have hne : l ≠ [] := by intro e; rw [e] at hl; simp at hl
      have e1 : l = l.dropLast ++ [l.getLast hne] := (List.dropLast_concat_getLast hne).symm
      have hx := h _ (List.getLast_mem hne)
      have e2 : nUnm l = nUnm l.dropLast ++ be 1 (l.getLast hne).toNat := by
        conv => lhs; rw [e1]
        unfold nUnm
        rw [List.flatMap_append]
        simp
      have e3 := ih l.dropLast (by rw [List.length_dropLast]; omega) (fun x hx => h x ((List.dropLast_sublist l).subset hx)) (be 1 (l.getLast hne).toNat ++ r)
      have e4 := rNum_be 1 (l.getLast hne).toNat r (by omega)
      rw [e2, List.append_assoc]
      show ((rUnm n _).1 ++ [_], _) = _
      simp only [rUnm, e3, e4]
      have e5 : (((l.getLast hne).toNat : Nat) : Int) = l.getLast hne := by omega
      rw [e5, List.dropLast_concat_getLast hne]
  exact key _ l rfl h r

theorem incr_all {l : List Int} (h : incr l) : ∀ x ∈ l, 0 ≤ x ∧ x ≤ 31 := by
  intro x hx
  obtain ⟨i, hi, e⟩ := List.getElem_of_mem hx
  have := (h i hi).1
  rw [List.getD_eq_getElem?_getD, List.getElem?_eq_getElem hi] at this
  simpa [e] using this

/-- what is written is read -/
theorem rNode_back {N : NodeL} (h : nOk N) (hk : N.key < 18446744073709551616) (r : List UInt8) : rNode (nEnc N ++ r, 0) = (N, (r, 0)) := by
  obtain ⟨k, nm, ky, pa, un⟩ := N
  have hp : pa.length = 0 ∨ pa.length = 32 → (pa.length : Int) ≤ 32 ∧ pa.length < 256 := by omega
  rcases h with ⟨h0, h1, h2, h3, h4⟩ | ⟨h0, h1, h2, h3, h4, h5⟩ | ⟨h0, h1, h2, h3, h4⟩
  · simp only at h0 h1 h2 h3 h4
    subst h0 h1 h2 h3 h4
    have e := rNum_be 1 0 r (by omega)
    show rNode ([0] ++ r, 0) = _
    have e' : rNum 1 ([0] ++ r, 0) = (0, (r, 0)) := e
    unfold rNode
    simp only [e']
    rfl
  · simp only at h0 h1 h2 h3 h4 h5
    subst h0 h5
    have e0 : nEnc ⟨1, nm, ky, pa, []⟩ ++ r = be 1 1 ++ ((be 1 nm.length ++ nm) ++ (be 8 ky ++ ((be 1 pa.length ++ pa) ++ r))) := by
      unfold nEnc
      rw [if_neg (show ¬ (1 : Int) = 0 by decide), if_pos rfl]
      unfold nTail
      simp only [List.append_assoc]
      rfl
    rw [e0]
    have e1 := rNum_be 1 1 ((be 1 nm.length ++ nm) ++ (be 8 ky ++ ((be 1 pa.length ++ pa) ++ r))) (by omega)
    have e2 := rText_be 16 nm (be 8 ky ++ ((be 1 pa.length ++ pa) ++ r)) (by omega) (by omega)
    have e3 := rNum_be 8 ky ((be 1 pa.length ++ pa) ++ r) hk
    have e4 := rText_be 32 pa r (hp h2).1 (hp h2).2
    unfold rNode
    simp only [e1, e2, e3, e4, if_pos, true_or, ite_true]
    rfl
  · simp only at h0 h1 h2 h3 h4
    subst h0 h3
    have hl := incr_length h4
    have e0 : nEnc ⟨2, [], ky, pa, un⟩ ++ r = be 1 2 ++ (be 8 ky ++ ((be 1 pa.length ++ pa) ++ (be 1 un.length ++ (nUnm un ++ r)))) := by
      unfold nEnc
      rw [if_neg (show ¬ (2 : Int) = 0 by decide), if_neg (show ¬ (2 : Int) = 1 by decide)]
      unfold nTail
      simp only [List.append_assoc]
      rfl
    rw [e0]
    have e1 := rNum_be 1 2 (be 8 ky ++ ((be 1 pa.length ++ pa) ++ (be 1 un.length ++ (nUnm un ++ r)))) (by omega)
    have e3 := rNum_be 8 ky ((be 1 pa.length ++ pa) ++ (be 1 un.length ++ (nUnm un ++ r))) hk
    have e4 := rText_be 32 pa (be 1 un.length ++ (nUnm un ++ r)) (hp h2).1 (hp h2).2
    have e5 := rNum_be 1 un.length (nUnm un ++ r) (by omega)
    have e6 := rUnm_back un (incr_all h4) r
    unfold rNode
    have k1 : ((2 : Nat) = 1) = False := by simp
    have k2 : ((2 : Nat) = 2) = True := by simp
    simp only [e1, e3, e4, e5, e6, k1, k2, or_true, if_true, if_false]
    rfl

end Go.Proofs.Ytliojldkdmaofaa
