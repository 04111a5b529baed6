/-
  sha.Sum of one slice, as a caller writes it.
-/
import Derived.Test.YtoooemlcackepaaDoorShaSum
namespace Go.Proofs.YtoooemlcackepaaDoor
set_option linter.unusedVariables false
set_option linter.unusedSimpArgs false
open Go.RowKit

/-- one slice of bytes in a new block -/
theorem RdL.made1 (w : World) (v : Value) (l : List UInt8) (e : TypeId) (h : Rd w v l) : RdL (w.alloc (.cells #[v] e)) (.slice (some ⟨w.heap.size, 0, none⟩) 1 1) [(v, l)] :=
  ⟨RdV.made w [v] e (0, 0) (by simp), fun p hp => by rw [List.mem_singleton.1 hp]; exact h.new ((Below.refl _ _).alloc (Nat.le_refl _) _)⟩

/-- sha.Sum(v) as a caller writes it -/
theorem sum1 (w : World) (b : Nat) (v : Value) (l : List UInt8) (hb : b = w.heap.size) (h : Rd w v l) (hl : l.length ≤ 1099511627776) (hL : Laid w) :
    Calls Tryd.prog 14 #[.slice (some ⟨b, 0, none⟩) 1 1] (w.alloc (.cells #[v] 22)) fun e w' => ∃ a n c, e = .returned (.slice a n c) ∧ Rd w' (.slice a n c) (sha256 l) ∧ n = 32 ∧ New w w' := by
  subst hb
  have hs := shaSum _ _ _ (RdL.made1 w v l 22 h) (by simp [allOf]; omega) (by simp) (hL.new ((Below.refl _ _).alloc (Nat.le_refl _) _))
  refine hs.mono ?_
  rintro e w' ⟨v', rfl, hown, hn⟩
  have hr := Rd.of_own hown
  simp only [allOf, List.flatMap_cons, List.flatMap_nil, List.append_nil] at hr
  have hr' := hr
  obtain ⟨a, n, c, rfl, h1, _⟩ := hr'
  exact ⟨a, n, c, rfl, hr, by rw [← h1, sha256_length], New.trans ((Below.refl _ _).alloc (Nat.le_refl _) _) hn⟩

end Go.Proofs.YtoooemlcackepaaDoor
