/-
  hpke: what is sealed to a public number, and what is opened, as pure functions.
-/
import Derived.Test.YtkpenodbjmhoeaaDoorPowKey
import Derived.Test.YtkpenodbjmhoeaaDoorSealA
namespace Go.Proofs.YtkpenodbjmhoeaaDoor
set_option linter.unusedVariables false
set_option linter.unusedSimpArgs false
open Go.RowKit

def nonceLab : List UInt8 := [110, 111, 110, 99, 101]

/-- the secret of what is shared and the two public numbers -/
noncomputable def hSec (sh : List UInt8) (f t : Nat) : List UInt8 := hmac [] ((sh ++ be 8 f) ++ be 8 t)

noncomputable def hKey (sh : List UInt8) (f t : Nat) (info : List UInt8) : List UInt8 := labelled (hSec sh f t) keyLab info 48
noncomputable def hNon (sh : List UInt8) (f t : Nat) (info : List UInt8) : List UInt8 := labelled (hSec sh f t) nonceLab info 16

theorem hSec_length (sh : List UInt8) (f t : Nat) : (hSec sh f t).length = 32 := hmac_length _ _
theorem hKey_length (sh : List UInt8) (f t : Nat) (info : List UInt8) : (hKey sh f t info).length = 48 := labelled_length _ _ _ _
theorem hNon_length (sh : List UInt8) (f t : Nat) (info : List UInt8) : (hNon sh f t info).length = 16 := labelled_length _ _ _ _

/-- the public number of a draw -/
noncomputable def hFrom (draw : List UInt8) : Nat := powP 3 (keyOfSec draw)

theorem hFrom_lt (draw : List UInt8) : hFrom draw < 18446744073709551616 := by
  have := powP_lt 3 (keyOfSec draw)
  unfold hFrom; omega

/-- what a draw's key shares with a public number -/
noncomputable def hSh (p : Nat) (draw : List UInt8) : List UInt8 := be 8 (powP p (keyOfSec draw))

theorem hSh_length (p : Nat) (draw : List UInt8) : (hSh p draw).length = 8 := be_length _ _

noncomputable def hText (p : Nat) (info beside t draw : List UInt8) : List UInt8 :=
  sealOf (hKey (hSh p draw) (hFrom draw) p info) (hNon (hSh p draw) (hFrom draw) p info) beside t

theorem hText_length (p : Nat) (info beside t draw : List UInt8) : (hText p info beside t draw).length = t.length + 16 := sealOf_length _ _ _ _

/-- Seal's results, by an info that is not too long -/
noncomputable def hsFrom (p : Nat) (draw : List UInt8) : Nat := if rightP p = true then hFrom draw else 0
noncomputable def hsText (p : Nat) (info beside t draw : List UInt8) : List UInt8 := if rightP p = true then hText p info beside t draw else []
def hsErr (p : Nat) : Int := if rightP p = true then 0 else 30

theorem hsFrom_lt (p : Nat) (draw : List UInt8) : hsFrom p draw < 18446744073709551616 := by
  have := hFrom_lt draw
  unfold hsFrom; split <;> omega

theorem hsText_length (p : Nat) (info beside t draw : List UInt8) : (hsText p info beside t draw).length ≤ t.length + 16 := by
  unfold hsText; split
  · rw [hText_length]; exact Nat.le_refl _
  · simp

/-- may a key open what is from a number? -/
def hoRight (k f : Nat) : Bool := rightP f && decide (1 ≤ k ∧ k ≤ 2305843009213693949)

noncomputable def hoErr (k f : Nat) (s info beside : List UInt8) : Int :=
  if hoRight k f = true then openErr (hKey (be 8 (powP f k)) f (powP 3 k) info) (hNon (be 8 (powP f k)) f (powP 3 k) info) beside s else 30
noncomputable def hoText (k f : Nat) (s info beside : List UInt8) : List UInt8 :=
  if hoRight k f = true then openText (hKey (be 8 (powP f k)) f (powP 3 k) info) (hNon (be 8 (powP f k)) f (powP 3 k) info) beside s else []

/-- both sides have one secret -/
theorem hSh_back (k : Nat) (draw : List UInt8) : be 8 (powP (hFrom draw) k) = hSh (powP 3 k) draw := by
  unfold hSh hFrom
  rw [powP_mul, powP_mul, Nat.mul_comm]

/-- what was sealed to a key's public number is opened by that key -/
theorem hpke_back (k : Nat) (info beside t draw : List UInt8) (h1 : 1 ≤ k ∧ k ≤ 2305843009213693949) (h2 : rightP (powP 3 k) = true) (h3 : rightP (hFrom draw) = true) :
    hsErr (powP 3 k) = 0 ∧ hoErr k (hsFrom (powP 3 k) draw) (hsText (powP 3 k) info beside t draw) info beside = 0 ∧ hoText k (hsFrom (powP 3 k) draw) (hsText (powP 3 k) info beside t draw) info beside = t := by
  have e1 : hsFrom (powP 3 k) draw = hFrom draw := if_pos h2
  have e2 : hsText (powP 3 k) info beside t draw = hText (powP 3 k) info beside t draw := if_pos h2
  have e3 : hoRight k (hFrom draw) = true := by unfold hoRight; rw [h3, decide_eq_true h1]; rfl
  rw [e1, e2]
  unfold hoErr hoText
  rw [if_pos e3, if_pos e3, hSh_back]
  unfold hText
  exact ⟨if_pos h2, (open_seal _ _ beside t).1, (open_seal _ _ beside t).2⟩

end Go.Proofs.YtkpenodbjmhoeaaDoor
