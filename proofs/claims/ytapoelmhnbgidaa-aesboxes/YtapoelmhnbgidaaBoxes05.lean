/-
  AesBoxes: the walk, and the law with its arguments as the row has them.
-/
import Derived.Test.YtapoelmhnbgidaaLaw05
import Derived.Test.YtapoelmhnbgidaaRefAes2
import Derived.Test.YtapoelmhnbgidaaArg05
namespace Go.Proofs.Ytapoelmhnbgidaa
set_option linter.unusedVariables false
set_option linter.unusedSimpArgs false
open Go.RowKit

set_option maxRecDepth 100000 in
set_option maxHeartbeats 2000000 in
theorem boxesWalk (w : World) (a b : UInt8) :
    Calls Try.prog 4 #[bv a, bv b] w fun e w' => e = .returned (.bool true) ∧ New w w' := by
  have C1 : Hid (∀ wx : World, Calls Try.prog 11 #[bv a] wx fun e w' => e = .returned (bv (gbox a)) ∧ New wx w') := Lib.hid (fun wx => aesBox wx a)
  have C2 : Hid (∀ wx : World, Calls Try.prog 12 #[iv a] wx fun e w' => e = .returned (iv (gbox a)) ∧ wx = w') := Lib.hid (fun wx => refBox5 wx a)
  have C3 : Hid (∀ wx : World, Calls Try.prog 14 #[bv a, bv b] wx fun e w' => e = .returned (bv (gmul a b)) ∧ wx = w') := Lib.hid (fun wx => aesMul wx a b)
  have C4 : Hid (∀ wx : World, Calls Try.prog 15 #[iv a, iv b] wx fun e w' => e = .returned (iv (gmul a b)) ∧ wx = w') := Lib.hid (fun wx => refMul5 wx a b)
  have HG : Hid (boxTab.getD a.toNat 0 = gbox a) := Lib.hid rfl
  have ha := u8_lt a
  have hb := u8_lt b
  have w1' : IntKind.i64.wrap (a.toNat : Int) = (a.toNat : Int) := IntWalk.i64_in _ (by omega)
  have w2' : IntKind.i64.wrap (b.toNat : Int) = (b.toNat : Int) := IntWalk.i64_in _ (by omega)
  have hg := u8_lt (gbox a)
  have hm := u8_lt (gmul a b)
  have w3' : IntKind.i64.wrap ((gbox a).toNat : Int) = ((gbox a).toNat : Int) := IntWalk.i64_in _ (by omega)
  have w4' : IntKind.i64.wrap ((gmul a b).toNat : Int) = ((gmul a b).toNat : Int) := IntWalk.i64_in _ (by omega)
  have ha' : (a.toNat : Int) < 256 := by omega
  generalize gbox a = x at *
  generalize gmul a b = m at *
  go_enter Try.func4, Try.ntmps4
  go_wp2_with fail
  refine (awake05 w).mono ?_
  rintro e w1 ⟨rfl, N1⟩
  go_wp2_with fail
  refine (C1.out _).mono ?_
  rintro e w2 ⟨rfl, N2⟩
  go_wp2_with fail
  refine (C2.out _).mono ?_
  rintro e w' ⟨rfl, rfl⟩
  go_wp2_with fail
  refine (C1.out _).mono ?_
  rintro e w3 ⟨rfl, N3⟩
  go_wp2_with fail
  refine (refBoxes5 _).mono ?_
  rintro e w4 ⟨g, rfl, hg0, hg4, N4⟩
  have hc := int_cell (i := a.toNat) hg4 (by rw [boxTab_length]; exact ha)
  rw [HG.out] at hc
  clear hg4
  go_wp2_with fail
  refine (C3.out _).mono ?_
  rintro e w' ⟨rfl, rfl⟩
  go_wp2_with fail
  refine (C4.out _).mono ?_
  rintro e w' ⟨rfl, rfl⟩
  go_wp2
  go_ret
  exact ⟨rfl, New.trans (New.trans (New.trans N1 N2) N3) N4⟩

theorem boxesLaw (w : World) (a : Int) (ha : (Lit.int .u8 a).wf = true) (b : Int) (hb : (Lit.int .u8 b).wf = true) :
    Calls Try.prog 4 #[.int .u8 a, .int .u8 b] w fun e w' => e = .returned (.bool true) ∧ New w w' := by
  obtain ⟨x, rfl⟩ := byte_of_wf ha
  obtain ⟨y, rfl⟩ := byte_of_wf hb
  exact boxesWalk w x y

end Go.Proofs.Ytapoelmhnbgidaa
