/-
  PowerMuls, PowerPows: the walks.
-/
import Derived.Test.YtfilimhjhaokkaaLaw07
namespace Go.Proofs.Ytfilimhjhaokkaa
set_option linter.unusedVariables false
set_option linter.unusedSimpArgs false
open Go.RowKit

set_option maxHeartbeats 400000 in
theorem mulsWalk (w : World) (a b : Nat) (ha : a < 18446744073709551616) (hb : b < 18446744073709551616) :
    Calls Try.prog 3 #[.int .u64 (a : Int), .int .u64 (b : Int)] w fun e w' => e = .returned (.bool true) ∧ New w w' := by
  have C1 := Lib.hid (fun wx => powMul wx a b ha hb)
  have C2 := Lib.hid (fun wx => refMul7 wx a b ha hb)
  have C3 : Hid (∀ wx, Calls Try.prog 6 #[.int .u64 (b : Int), .int .u64 (a : Int)] wx fun e w' => e = .returned (.int .u64 (mulP a b : Int)) ∧ New wx w') := by
    refine Lib.hid fun wx => ?_
    have h := powMul wx b a hb ha
    rw [mulP_comm] at h
    exact h
  generalize mulP a b = r at *
  go_enter Try.func3, Try.ntmps3
  go_wp2_with fail
  refine (awake07 w).mono ?_
  rintro e w1 ⟨rfl, N1⟩
  go_wp2_with fail
  refine (C1.out w1).mono ?_
  rintro e w2 ⟨rfl, N2⟩
  go_wp2_with fail
  refine (C2.out w2).mono ?_
  rintro e w3 ⟨rfl, rfl⟩
  go_wp2_with fail
  refine (C1.out w2).mono ?_
  rintro e w3 ⟨rfl, N3⟩
  go_wp2_with fail
  refine (C3.out w3).mono ?_
  rintro e w4 ⟨rfl, N4⟩
  go_wp2
  go_ret
  exact ⟨rfl, New.trans (New.trans (New.trans N1 N2) N3) N4⟩

theorem mulsLaw (w : World) (a : Int) (ha : (Lit.int .u64 a).wf = true) (b : Int) (hb : (Lit.int .u64 b).wf = true) :
    Calls Try.prog 3 #[.int .u64 a, .int .u64 b] w fun e w' => e = .returned (.bool true) ∧ New w w' := by
  obtain ⟨x, rfl, hx⟩ := nat_of_u64 ha
  obtain ⟨y, rfl, hy⟩ := nat_of_u64 hb
  exact mulsWalk w x y hx hy

set_option maxHeartbeats 1000000 in
theorem powsWalk (w : World) (a n m : Nat) (ha : a < 18446744073709551616) (hn : n < 4294967296) (hm : m < 4294967296) :
    Calls Try.prog 4 #[.int .u64 (a : Int), .int .u32 (n : Int), .int .u32 (m : Int)] w fun e w' => e = .returned (.bool true) ∧ New w w' := by
  have hnm : n * m < 18446744073709551616 := Nat.lt_of_lt_of_le (Nat.mul_lt_mul'' hn hm) (by decide)
  have C1 := Lib.hid (fun wx => powPow wx a n ha (by omega))
  have C2 := Lib.hid (fun wx => refPow7 wx a n ha (by omega))
  have C3 := Lib.hid (fun wx => powPow wx a m ha (by omega))
  have C4 : Hid (∀ wx, Calls Try.prog 6 #[.int .u64 (powP a n : Int), .int .u64 (powP a m : Int)] wx fun e w' => e = .returned (.int .u64 (powP a (n + m) : Int)) ∧ New wx w') := by
    refine Lib.hid fun wx => ?_
    have h1 := powP_lt a n
    have h2 := powP_lt a m
    have h := powMul wx (powP a n) (powP a m) (by omega) (by omega)
    rw [powP_add] at h
    exact h
  have C5 : Hid (∀ wx, Calls Try.prog 8 #[.int .u64 (a : Int), .int .u64 ((n : Int) + (m : Int))] wx fun e w' => e = .returned (.int .u64 (powP a (n + m) : Int)) ∧ New wx w') := by
    refine Lib.hid fun wx => ?_
    have h := powPow wx a (n + m) ha (by omega)
    rw [Int.natCast_add] at h
    exact h
  have C6 : Hid (∀ wx, Calls Try.prog 8 #[.int .u64 (powP a n : Int), .int .u64 (m : Int)] wx fun e w' => e = .returned (.int .u64 (powP a (n * m) : Int)) ∧ New wx w') := by
    refine Lib.hid fun wx => ?_
    have h1 := powP_lt a n
    have h := powPow wx (powP a n) m (by omega) (by omega)
    rw [powP_mul] at h
    exact h
  have C7 := Lib.hid (fun wx => powPow wx a (n * m) ha hnm)
  have hmul : IntKind.u64.wrap ((n : Int) * (m : Int)) = ((n * m : Nat) : Int) := by rw [cast_mul, IntKind.wrap_u64]; omega
  generalize powP a (n * m) = z at *
  generalize powP a (n + m) = s at *
  generalize powP a n = x at *
  generalize powP a m = y at *
  obtain ⟨p, Hp⟩ : ∃ p, Hid (n * m = p) := ⟨_, Lib.hid rfl⟩
  rw [Hp.out] at C7 hmul
  clear hnm
  go_enter Try.func4, Try.ntmps4
  go_wp2_with fail
  refine (awake07 w).mono ?_
  rintro e w1 ⟨rfl, N1⟩
  go_wp2_with fail
  refine (C1.out _).mono ?_
  rintro e w2 ⟨rfl, N2⟩
  replace N2 := New.trans N1 N2
  clear N1
  go_wp2_with fail
  refine (C2.out _).mono ?_
  rintro e w3 ⟨rfl, rfl⟩
  go_wp2_with fail
  refine (C1.out _).mono ?_
  rintro e w3 ⟨rfl, N3⟩
  replace N3 := New.trans N2 N3
  clear N2
  go_wp2_with fail
  refine (C3.out _).mono ?_
  rintro e w4 ⟨rfl, N4⟩
  replace N4 := New.trans N3 N4
  clear N3
  go_wp2_with fail
  refine (C4.out _).mono ?_
  rintro e w5 ⟨rfl, N5⟩
  replace N5 := New.trans N4 N5
  clear N4
  go_wp2_with fail
  refine (C5.out _).mono ?_
  rintro e w6 ⟨rfl, N6⟩
  replace N6 := New.trans N5 N6
  clear N5
  go_wp2_with fail
  refine (C1.out _).mono ?_
  rintro e w7 ⟨rfl, N7⟩
  replace N7 := New.trans N6 N7
  clear N6
  go_wp2_with fail
  refine (C6.out _).mono ?_
  rintro e w8 ⟨rfl, N8⟩
  replace N8 := New.trans N7 N8
  clear N7
  go_wp2_with fail
  refine (C7.out _).mono ?_
  rintro e w9 ⟨rfl, N9⟩
  replace N9 := New.trans N8 N9
  clear N8
  go_wp2
  go_ret
  exact ⟨rfl, N9⟩

theorem powsLaw (w : World) (a : Int) (ha : (Lit.int .u64 a).wf = true) (n : Int) (hn : (Lit.int .u32 n).wf = true) (m : Int) (hm : (Lit.int .u32 m).wf = true) :
    Calls Try.prog 4 #[.int .u64 a, .int .u32 n, .int .u32 m] w fun e w' => e = .returned (.bool true) ∧ New w w' := by
  obtain ⟨x, rfl, hx⟩ := nat_of_u64 ha
  obtain ⟨y, rfl, hy⟩ := nat_of_u32 hn
  obtain ⟨z, rfl, hz⟩ := nat_of_u32 hm
  exact powsWalk w x y z hx hy hz

end Go.Proofs.Ytfilimhjhaokkaa
