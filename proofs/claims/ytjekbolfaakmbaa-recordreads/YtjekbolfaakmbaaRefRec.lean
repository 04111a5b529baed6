/-
  The reference's Right, Same, Great of layer 12.
-/
import Derived.Test.YtjekbolfaakmbaaRecSpec
import Derived.Test.YtjekbolfaakmbaaRec9
import Derived.Test.YtjekbolfaakmbaaBase
import Derived.Deep.Cut
namespace Go.Proofs.Ytjekbolfaakmbaa
set_option linter.unusedVariables false
set_option linter.unusedSimpArgs false
open Go.RowKit

theorem inside_not (n lo hi : Int) : inside n lo hi = (!decide (n < lo) && !decide (hi < n)) := by
  simp only [inside, ← decide_not, Int.not_lt]

theorem rOk_not (k : Int) (ng : Nat) (e t b : Int) (ny nt ns nw : Nat) : rOk k ng e t b ny nt ns nw =
    (!decide (k < 1) && (!decide (3 < k) && (!decide ((ng : Int) < 1) && (!decide (16 < (ng : Int)) && (!decide (e < 0) && (!decide (1048576 < e) && (!decide (t < 0) && (!decide (1099511627776 < t) && (!decide (b < 0) && (!decide (1099511627776 < b) && (!decide (60000 < (ny : Int)) &&
      (((nt : Int) == rHash k) && (((ns : Int) == rHash k) && ((nw : Int) == rWrap k)))))))))))))) := by
  unfold rOk
  rw [inside_not, inside_not, inside_not, inside_not, inside_not, show decide ((ny : Int) ≤ 60000) = !decide (60000 < (ny : Int)) by simp only [← decide_not, Int.not_lt]]
  simp only [Bool.and_assoc]

def RRightTo (w : World) (o : Bool) (e : Ending) (w' : World) : Prop := e = .returned (.bool o) ∧ New w w'


set_option maxRecDepth 100000 in
set_option maxHeartbeats 2000000 in
theorem refRight12 (w : World) (k e t b : Int) (ag ay at_ as_ aw : Option Addr) (ng cg ny cy nt ct ns cs nw cw : Nat) :
    Calls Try.prog 9 #[.agg #[.int .i64 k, .slice ag ng cg, .int .i64 e, .int .i64 t, .int .i64 b, .slice ay ny cy, .slice at_ nt ct, .slice as_ ns cs, .slice aw nw cw]] w (RRightTo w (rOk k ng e t b ny nt ns nw)) := by
  rw [rOk_not]
  obtain ⟨c1, d1⟩ : ∃ x, decide (k < 1) = x := ⟨_, rfl⟩
  obtain ⟨c2, d2⟩ : ∃ x, decide (3 < k) = x := ⟨_, rfl⟩
  obtain ⟨c3, d3⟩ : ∃ x, decide ((ng : Int) < 1) = x := ⟨_, rfl⟩
  obtain ⟨c4, d4⟩ : ∃ x, decide (16 < (ng : Int)) = x := ⟨_, rfl⟩
  obtain ⟨c5, d5⟩ : ∃ x, decide (e < 0) = x := ⟨_, rfl⟩
  obtain ⟨c6, d6⟩ : ∃ x, decide (1048576 < e) = x := ⟨_, rfl⟩
  obtain ⟨c7, d7⟩ : ∃ x, decide (t < 0) = x := ⟨_, rfl⟩
  obtain ⟨c8, d8⟩ : ∃ x, decide (1099511627776 < t) = x := ⟨_, rfl⟩
  obtain ⟨c9, d9⟩ : ∃ x, decide (b < 0) = x := ⟨_, rfl⟩
  obtain ⟨c10, d10⟩ : ∃ x, decide (1099511627776 < b) = x := ⟨_, rfl⟩
  obtain ⟨c11, d11⟩ : ∃ x, decide (60000 < (ny : Int)) = x := ⟨_, rfl⟩
  rw [d1, d2, d3, d4, d5, d6, d7, d8, d9, d10, d11]
  go_enter Try.func9, Try.ntmps9
  by_cases hk : k = 3
  · have dk : (k == 3) = true := by simpa using hk
    have e1 : rHash k = 0 := if_pos hk
    have e2 : rWrap k = 0 := if_pos hk
    rw [e1, e2]
    clear e1 e2 hk
    obtain ⟨q1, d12⟩ : ∃ x, ((nt : Int) == 0) = x := ⟨_, rfl⟩
    obtain ⟨q2, d13⟩ : ∃ x, ((ns : Int) == 0) = x := ⟨_, rfl⟩
    obtain ⟨q3, d14⟩ : ∃ x, ((nw : Int) == 0) = x := ⟨_, rfl⟩
    rw [d12, d13, d14]
    go_upto_region 5 with fail
    have N1 : New w (w.alloc (.cells #[.int .i64 k, .slice ag ng cg, .int .i64 e, .int .i64 t, .int .i64 b, .slice ay ny cy, .slice at_ nt ct, .slice as_ ns cs, .slice aw nw cw] 24)) := (Below.refl _ _).alloc (Nat.le_refl _) _
    clear dk
    cases c1
    rotate_left
    · go_wp2
      go_ret
      exact ⟨rfl, N1⟩
    rw [Bool.not_false, Bool.true_and]
    cases c2
    rotate_left
    · go_wp2
      go_ret
      exact ⟨rfl, N1⟩
    rw [Bool.not_false, Bool.true_and]
    cases c3
    rotate_left
    · go_wp2
      go_ret
      exact ⟨rfl, N1⟩
    rw [Bool.not_false, Bool.true_and]
    cases c4
    rotate_left
    · go_wp2
      go_ret
      exact ⟨rfl, N1⟩
    rw [Bool.not_false, Bool.true_and]
    cases c5
    rotate_left
    · go_wp2
      go_ret
      exact ⟨rfl, N1⟩
    rw [Bool.not_false, Bool.true_and]
    cases c6
    rotate_left
    · go_wp2
      go_ret
      exact ⟨rfl, N1⟩
    rw [Bool.not_false, Bool.true_and]
    go_upto_region 7 with fail
    clear d1 d2 d3 d4 d5 d6
    cases c7
    rotate_left
    · go_wp2
      go_ret
      exact ⟨rfl, N1⟩
    rw [Bool.not_false, Bool.true_and]
    cases c8
    rotate_left
    · go_wp2
      go_ret
      exact ⟨rfl, N1⟩
    rw [Bool.not_false, Bool.true_and]
    cases c9
    rotate_left
    · go_wp2
      go_ret
      exact ⟨rfl, N1⟩
    rw [Bool.not_false, Bool.true_and]
    cases c10
    rotate_left
    · go_wp2
      go_ret
      exact ⟨rfl, N1⟩
    rw [Bool.not_false, Bool.true_and]
    cases c11
    rotate_left
    · go_wp2
      go_ret
      exact ⟨rfl, N1⟩
    rw [Bool.not_false, Bool.true_and]
    go_upto_region 9 with fail
    clear d7 d8 d9 d10 d11
    cases q1
    · go_wp2
      go_ret
      exact ⟨rfl, N1⟩
    rw [Bool.true_and]
    cases q2
    · go_wp2
      go_ret
      exact ⟨rfl, N1⟩
    rw [Bool.true_and]
    cases q3
    · go_wp2
      go_ret
      exact ⟨rfl, N1⟩
    · go_wp2
      go_ret
      exact ⟨rfl, N1⟩
  · have dk : (k == 3) = false := by simpa using hk
    have e1 : rHash k = 32 := if_neg hk
    have e2 : rWrap k = 48 := if_neg hk
    rw [e1, e2]
    clear e1 e2 hk
    obtain ⟨q1, d12⟩ : ∃ x, ((nt : Int) == 32) = x := ⟨_, rfl⟩
    obtain ⟨q2, d13⟩ : ∃ x, ((ns : Int) == 32) = x := ⟨_, rfl⟩
    obtain ⟨q3, d14⟩ : ∃ x, ((nw : Int) == 48) = x := ⟨_, rfl⟩
    rw [d12, d13, d14]
    go_upto_region 5 with fail
    have N1 : New w (w.alloc (.cells #[.int .i64 k, .slice ag ng cg, .int .i64 e, .int .i64 t, .int .i64 b, .slice ay ny cy, .slice at_ nt ct, .slice as_ ns cs, .slice aw nw cw] 24)) := (Below.refl _ _).alloc (Nat.le_refl _) _
    clear dk
    cases c1
    rotate_left
    · go_wp2
      go_ret
      exact ⟨rfl, N1⟩
    rw [Bool.not_false, Bool.true_and]
    cases c2
    rotate_left
    · go_wp2
      go_ret
      exact ⟨rfl, N1⟩
    rw [Bool.not_false, Bool.true_and]
    cases c3
    rotate_left
    · go_wp2
      go_ret
      exact ⟨rfl, N1⟩
    rw [Bool.not_false, Bool.true_and]
    cases c4
    rotate_left
    · go_wp2
      go_ret
      exact ⟨rfl, N1⟩
    rw [Bool.not_false, Bool.true_and]
    cases c5
    rotate_left
    · go_wp2
      go_ret
      exact ⟨rfl, N1⟩
    rw [Bool.not_false, Bool.true_and]
    cases c6
    rotate_left
    · go_wp2
      go_ret
      exact ⟨rfl, N1⟩
    rw [Bool.not_false, Bool.true_and]
    go_upto_region 7 with fail
    clear d1 d2 d3 d4 d5 d6
    cases c7
    rotate_left
    · go_wp2
      go_ret
      exact ⟨rfl, N1⟩
    rw [Bool.not_false, Bool.true_and]
    cases c8
    rotate_left
    · go_wp2
      go_ret
      exact ⟨rfl, N1⟩
    rw [Bool.not_false, Bool.true_and]
    cases c9
    rotate_left
    · go_wp2
      go_ret
      exact ⟨rfl, N1⟩
    rw [Bool.not_false, Bool.true_and]
    cases c10
    rotate_left
    · go_wp2
      go_ret
      exact ⟨rfl, N1⟩
    rw [Bool.not_false, Bool.true_and]
    cases c11
    rotate_left
    · go_wp2
      go_ret
      exact ⟨rfl, N1⟩
    rw [Bool.not_false, Bool.true_and]
    go_upto_region 9 with fail
    clear d7 d8 d9 d10 d11
    cases q1
    · go_wp2
      go_ret
      exact ⟨rfl, N1⟩
    rw [Bool.true_and]
    cases q2
    · go_wp2
      go_ret
      exact ⟨rfl, N1⟩
    rw [Bool.true_and]
    cases q3
    · go_wp2
      go_ret
      exact ⟨rfl, N1⟩
    · go_wp2
      go_ret
      exact ⟨rfl, N1⟩

end Go.Proofs.Ytjekbolfaakmbaa
