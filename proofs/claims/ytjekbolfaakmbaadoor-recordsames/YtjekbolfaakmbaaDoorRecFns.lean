/-
  record.within, record.Right.
-/
import Derived.Test.YtjekbolfaakmbaaDoorRecSpec
import Derived.Test.YtjekbolfaakmbaaDoorRec9
import Derived.Test.YtjekbolfaakmbaaDoorBase
import Derived.Deep.Cut
namespace Go.Proofs.YtjekbolfaakmbaaDoor
set_option linter.unusedVariables false
set_option linter.unusedSimpArgs false
open Go.RowKit

theorem recWithin (w : World) (n lo hi : Int) : Calls Tryd.prog 35 #[.int .i64 n, .int .i64 lo, .int .i64 hi] w fun e w' => e = .returned (.bool (inside n lo hi)) ∧ w = w' := by
  by_cases h0 : lo ≤ n
  · have d0 : decide (lo ≤ n) = true := by simpa using h0
    by_cases h1 : n ≤ hi
    · have d1 : decide (n ≤ hi) = true := by simpa using h1
      have e : inside n lo hi = true := by unfold inside; rw [d0, d1]; rfl
      rw [e]
      clear e h0 h1
      go_enter Tryd.func35, Tryd.ntmps35
      go_wp2
      go_ret
      exact ⟨rfl, rfl⟩
    · have d1 : decide (n ≤ hi) = false := by simpa using h1
      have e : inside n lo hi = false := by unfold inside; rw [d0, d1]; rfl
      rw [e]
      clear e h0 h1
      go_enter Tryd.func35, Tryd.ntmps35
      go_wp2
      go_ret
      exact ⟨rfl, rfl⟩
  · have d0 : decide (lo ≤ n) = false := by simpa using h0
    have e : inside n lo hi = false := by unfold inside; rw [d0]; rfl
    rw [e]
    clear e h0
    go_enter Tryd.func35, Tryd.ntmps35
    go_wp2
    go_ret
    exact ⟨rfl, rfl⟩

/-- behind a test that failed, or all of them -/
def RightTo (w : World) (o : Bool) (e : Ending) (w' : World) : Prop := e = .returned (.bool o) ∧ New w w'


set_option maxRecDepth 100000 in
set_option maxHeartbeats 2000000 in
theorem recRight (w : World) (k e t b : Int) (ag ay at_ as_ aw : Option Addr) (ng cg ny cy nt ct ns cs nw cw : Nat) :
    Calls Tryd.prog 15 #[.agg #[.int .i64 k, .slice ag ng cg, .int .i64 e, .int .i64 t, .int .i64 b, .slice ay ny cy, .slice at_ nt ct, .slice as_ ns cs, .slice aw nw cw]] w (RightTo w (rOk k ng e t b ny nt ns nw)) := by
  have HO : Hid (rOk k ng e t b ny nt ns nw = (inside k 1 3 && (inside ng 1 16 && (inside e 0 1048576 && (inside t 0 1099511627776 && (inside b 0 1099511627776 && (decide ((ny : Int) ≤ 60000) && (((nt : Int) == rHash k) && (((ns : Int) == rHash k) && ((nw : Int) == rWrap k)))))))))) := rfl
  have W1 := Lib.hid fun wx => recWithin wx k 1 3
  have W2 := Lib.hid fun wx => recWithin wx ng 1 16
  have W3 := Lib.hid fun wx => recWithin wx e 0 1048576
  have W4 := Lib.hid fun wx => recWithin wx t 0 1099511627776
  have W5 := Lib.hid fun wx => recWithin wx b 0 1099511627776
  rw [HO.out]
  clear HO
  generalize inside k 1 3 = b1 at *
  generalize inside ng 1 16 = b2 at *
  generalize inside e 0 1048576 = b3 at *
  generalize inside t 0 1099511627776 = b4 at *
  generalize inside b 0 1099511627776 = b5 at *
  obtain ⟨b6, d6⟩ : ∃ x, decide ((ny : Int) ≤ 60000) = x := ⟨_, rfl⟩
  rw [d6]
  go_enter Tryd.func15, Tryd.ntmps15
  by_cases hk : k = 3
  · have dk : (k == 3) = true := by simpa using hk
    have e1 : rHash k = 0 := if_pos hk
    have e2 : rWrap k = 0 := if_pos hk
    rw [e1, e2]
    clear e1 e2 hk
    obtain ⟨b7, d7⟩ : ∃ x, ((nt : Int) == 0) = x := ⟨_, rfl⟩
    obtain ⟨b8, d8⟩ : ∃ x, ((ns : Int) == 0) = x := ⟨_, rfl⟩
    obtain ⟨b9, d9⟩ : ∃ x, ((nw : Int) == 0) = x := ⟨_, rfl⟩
    rw [d7, d8, d9]
    go_upto_region 4 with fail
    have N1 : New w (w.alloc (.cells #[.int .i64 k, .slice ag ng cg, .int .i64 e, .int .i64 t, .int .i64 b, .slice ay ny cy, .slice at_ nt ct, .slice as_ ns cs, .slice aw nw cw] 24)) := (Below.refl _ _).alloc (Nat.le_refl _) _
    clear dk
    go_wp2_with fail
    refine (W1.out _).mono ?_
    rintro e w2 ⟨rfl, rfl⟩
    cases b1
    · go_wp2
      go_ret
      exact ⟨rfl, N1⟩
    rw [Bool.true_and]
    go_wp2_with fail
    refine (W2.out _).mono ?_
    rintro e w2 ⟨rfl, rfl⟩
    cases b2
    · go_wp2
      go_ret
      exact ⟨rfl, N1⟩
    rw [Bool.true_and]
    go_wp2_with fail
    refine (W3.out _).mono ?_
    rintro e w2 ⟨rfl, rfl⟩
    cases b3
    · go_wp2
      go_ret
      exact ⟨rfl, N1⟩
    rw [Bool.true_and]
    go_wp2_with fail
    refine (W4.out _).mono ?_
    rintro e w2 ⟨rfl, rfl⟩
    cases b4
    · go_wp2
      go_ret
      exact ⟨rfl, N1⟩
    rw [Bool.true_and]
    go_wp2_with fail
    refine (W5.out _).mono ?_
    rintro e w2 ⟨rfl, rfl⟩
    cases b5
    · go_wp2
      go_ret
      exact ⟨rfl, N1⟩
    rw [Bool.true_and]
    cases b6
    · go_wp2
      go_ret
      exact ⟨rfl, N1⟩
    rw [Bool.true_and]
    cases b7
    · go_wp2
      go_ret
      exact ⟨rfl, N1⟩
    rw [Bool.true_and]
    cases b8
    · go_wp2
      go_ret
      exact ⟨rfl, N1⟩
    rw [Bool.true_and]
    cases b9
    · go_wp2
      go_ret
      exact ⟨rfl, N1⟩
    · go_wp2
      go_ret
      exact ⟨rfl, N1⟩
  · have dk : (k == 3) = false := by simpa using hk
    have e1 : rHash k = 32 := if_neg hk
    have e2 : rWrap k = 48 := if_neg hk
    rw [e1, e2]
    clear e1 e2 hk
    obtain ⟨b7, d7⟩ : ∃ x, ((nt : Int) == 32) = x := ⟨_, rfl⟩
    obtain ⟨b8, d8⟩ : ∃ x, ((ns : Int) == 32) = x := ⟨_, rfl⟩
    obtain ⟨b9, d9⟩ : ∃ x, ((nw : Int) == 48) = x := ⟨_, rfl⟩
    rw [d7, d8, d9]
    go_upto_region 4 with fail
    have N1 : New w (w.alloc (.cells #[.int .i64 k, .slice ag ng cg, .int .i64 e, .int .i64 t, .int .i64 b, .slice ay ny cy, .slice at_ nt ct, .slice as_ ns cs, .slice aw nw cw] 24)) := (Below.refl _ _).alloc (Nat.le_refl _) _
    clear dk
    go_wp2_with fail
    refine (W1.out _).mono ?_
    rintro e w2 ⟨rfl, rfl⟩
    cases b1
    · go_wp2
      go_ret
      exact ⟨rfl, N1⟩
    rw [Bool.true_and]
    go_wp2_with fail
    refine (W2.out _).mono ?_
    rintro e w2 ⟨rfl, rfl⟩
    cases b2
    · go_wp2
      go_ret
      exact ⟨rfl, N1⟩
    rw [Bool.true_and]
    go_wp2_with fail
    refine (W3.out _).mono ?_
    rintro e w2 ⟨rfl, rfl⟩
    cases b3
    · go_wp2
      go_ret
      exact ⟨rfl, N1⟩
    rw [Bool.true_and]
    go_wp2_with fail
    refine (W4.out _).mono ?_
    rintro e w2 ⟨rfl, rfl⟩
    cases b4
    · go_wp2
      go_ret
      exact ⟨rfl, N1⟩
    rw [Bool.true_and]
    go_wp2_with fail
    refine (W5.out _).mono ?_
    rintro e w2 ⟨rfl, rfl⟩
    cases b5
    · go_wp2
      go_ret
      exact ⟨rfl, N1⟩
    rw [Bool.true_and]
    cases b6
    · go_wp2
      go_ret
      exact ⟨rfl, N1⟩
    rw [Bool.true_and]
    cases b7
    · go_wp2
      go_ret
      exact ⟨rfl, N1⟩
    rw [Bool.true_and]
    cases b8
    · go_wp2
      go_ret
      exact ⟨rfl, N1⟩
    rw [Bool.true_and]
    cases b9
    · go_wp2
      go_ret
      exact ⟨rfl, N1⟩
    · go_wp2
      go_ret
      exact ⟨rfl, N1⟩

end Go.Proofs.YtjekbolfaakmbaaDoor
