/-
  ShapeNodes, ShapeAbove: their walks.
-/
import Derived.Test.YtalpifocahnfjaaDoorShpApi
namespace Go.Proofs.YtalpifocahnfjaaDoor
set_option linter.unusedVariables false
set_option linter.unusedSimpArgs false
set_option maxRecDepth 100000
open Go.RowKit


set_option maxHeartbeats 1000000 in
theorem awake18 {La : World → Prop} (A : ShpApi La) (w : World) (hL : La w) : Calls Tryd.prog 6 #[] w fun e w' => e = .returned (.bool true) ∧ New w w' := by
  have HP := Lib.hid (A.path w 2 4 hL (by unfold in64; omega) (by unfold in64; omega))
  have HW := Lib.hid fun wx => A.width wx 4 (by unfold in64; omega)
  rw [show shPath 2 4 = [5, 3] by decide +kernel] at HP
  rw [show shWidth 4 = 7 by decide] at HW
  clear A hL
  go_enter Tryd.func6, Tryd.ntmps6
  go_wp2_with fail
  refine HP.out.mono ?_
  rintro _ w1 ⟨a, n, c, rfl, r1, n1⟩
  have R1 := Lib.hid r1
  have N1 := Lib.hid n1
  obtain rfl : n = 2 := by obtain ⟨_, _, _, e, h, -⟩ := r1; cases e; exact h.symm
  clear r1 n1 HP
  go_wp2_with fail
  refine (HW.out w1).mono ?_
  rintro _ w2 ⟨rfl, n2⟩
  have N2 := Lib.hid (New.trans N1.out n2)
  obtain ⟨b, o, hb, hc⟩ := (R1.out.new n2).cell (by decide)
  subst hb
  have x0 := hc 0 (.int .i64 5) rfl
  have x1 := hc 1 (.int .i64 3) rfl
  rw [Nat.add_zero] at x0
  clear hc n2 HW R1 N1
  go_wp2
  go_ret
  exact ⟨rfl, N2.out⟩

set_option maxHeartbeats 2000000 in
theorem nodesWalk18 {La : World → Prop} (A : ShpApi La) (w : World) (hL : La w) (node n : Int) (hn : in64 node) (hm : in64 n) : Calls Tryd.prog 3 #[.int .i64 node, .int .i64 n] w fun e w' => e = .returned (.bool true) ∧ New w w' := by
  have HA := Lib.hid A
  have HLa := Lib.hid hL
  have HB := Lib.hid (And.intro hn hm)
  have HL := Lib.hid fun wx (hx : New w wx) => A.left wx node (A.keep hL hx) hn
  have HR := Lib.hid fun wx (hx : New w wx) => A.right wx node (A.keep hL hx) hn
  have HU := Lib.hid fun wx (hx : New w wx) => A.under wx node (A.keep hL hx) hn
  have HV := Lib.hid fun wx (hx : New w wx) => A.level wx node (A.keep hL hx) hn
  have HFt := Lib.hid fun wx => A.fits wx n hm
  have HWd := Lib.hid fun wx => A.width wx n hm
  have KK := Lib.hid fun wx => refKids18 wx node
  have KU := Lib.hid fun wx => refUnder18 wx node
  have KV := Lib.hid fun wx => refLevel18 wx node
  have KF := Lib.hid fun wx => refFits18 wx n
  have HWE : Hid (shWidth n = if shFits n then 2 * n - 1 else 0) := Lib.hid rfl
  have HMM : Hid (shFits n = true → ∃ m, m ∈ fitsL ∧ n = ((m : Nat) : Int)) := Lib.hid (fun h => by obtain ⟨m, h1, h2⟩ := fits_mem h; exact ⟨m, h1, h2⟩)
  generalize shLeft node = L at *
  generalize shRight node = R at *
  generalize shKid node = K at *
  generalize shFirst node = F1 at *
  generalize shLast node = F2 at *
  generalize shLevel node = V at *
  generalize shWidth n = Wd at *
  generalize shFits n = Ft at *
  clear hn hm A hL
  go_enter Tryd.func3, Tryd.ntmps3
  have HAW := Lib.hid (awake18 HA.out w HLa.out)
  go_wp2_with fail
  refine HAW.out.mono ?_
  rintro _ w0 ⟨rfl, n0⟩
  have N0 := Lib.hid n0
  clear n0 HAW
  go_wp2_with fail
  refine (HL.out _ N0.out).mono ?_
  rintro _ w1 ⟨rfl, n1⟩
  have N1 := Lib.hid (New.trans N0.out n1)
  clear n1 N0
  go_wp2_with fail
  refine (HR.out _ N1.out).mono ?_
  rintro _ w2 ⟨rfl, n2⟩
  have N2 := Lib.hid (New.trans N1.out n2)
  clear n2 N1
  go_wp2_with fail
  refine (KK.out _).mono ?_
  rintro _ w3 ⟨rfl, rfl⟩
  go_wp2_with fail
  refine (HU.out _ N2.out).mono ?_
  rintro _ w3 ⟨rfl, n3⟩
  have N3 := Lib.hid (New.trans N2.out n3)
  clear n3 N2
  go_wp2_with fail
  refine (KU.out _).mono ?_
  rintro _ w4 ⟨rfl, rfl⟩
  go_wp2_with fail
  refine (HV.out _ N3.out).mono ?_
  rintro _ w4 ⟨rfl, n4⟩
  have N4 := Lib.hid (New.trans N3.out n4)
  clear n4 N3
  go_wp2_with fail
  refine (KV.out _).mono ?_
  rintro _ w5 ⟨rfl, rfl⟩
  go_wp2_with fail
  refine (KF.out _).mono ?_
  rintro _ w5 ⟨rfl, rfl⟩
  cases Ft
  · obtain rfl : Wd = 0 := HWE.out
    go_wp2_with fail
    refine (HFt.out _).mono ?_
    rintro _ w5 ⟨rfl, n5⟩
    have N5 := Lib.hid (New.trans N4.out n5)
    clear n5 N4
    go_wp2_with fail
    refine (KF.out _).mono ?_
    rintro _ w6 ⟨rfl, rfl⟩
    go_wp2_with fail
    refine (HWd.out _).mono ?_
    rintro _ w6 ⟨rfl, n6⟩
    have N6 := Lib.hid (New.trans N5.out n6)
    clear n6 N5
    go_wp2
    go_ret
    exact ⟨rfl, N6.out⟩
  · obtain rfl : Wd = 2 * n - 1 := HWE.out
    obtain ⟨m, hm, rfl⟩ := HMM.out rfl
    have h32 := fits_le hm
    clear hm
    go_wp2_with fail
    refine (HFt.out _).mono ?_
    rintro _ w5 ⟨rfl, n5⟩
    have N5 := Lib.hid (New.trans N4.out n5)
    clear n5 N4
    go_wp2_with fail
    refine (KF.out _).mono ?_
    rintro _ w6 ⟨rfl, rfl⟩
    go_wp2_with fail
    refine (HWd.out _).mono ?_
    rintro _ w6 ⟨rfl, n6⟩
    have N6 := Lib.hid (New.trans N5.out n6)
    clear n6 N5
    go_wp2
    go_ret
    exact ⟨rfl, N6.out⟩

set_option maxHeartbeats 2000000 in
theorem aboveWalk18 {La : World → Prop} (A : ShpApi La) (w : World) (hL : La w) (node n : Int) (hn : in64 node) (hm : in64 n) : Calls Tryd.prog 4 #[.int .i64 node, .int .i64 n] w fun e w' => e = .returned (.bool true) ∧ New w w' := by
  have HA := Lib.hid A
  have HLa := Lib.hid hL
  have H1 := Lib.hid fun wx (hx : New w wx) => A.above wx node n (A.keep hL hx) hn hm
  have H2 := Lib.hid fun wx => refAbove18 wx node n
  have H3 := Lib.hid fun wx (hx : New w wx) => A.beside wx node n (A.keep hL hx) hn hm
  have H4 := Lib.hid fun wx => refBeside18 wx node n
  generalize shAbove node n = X at *
  generalize shBeside node n = Y at *
  generalize decide (shUp node n) = U at *
  clear hn hm A hL
  go_enter Tryd.func4, Tryd.ntmps4
  have HAW := Lib.hid (awake18 HA.out w HLa.out)
  go_wp2_with fail
  refine HAW.out.mono ?_
  rintro _ w0 ⟨rfl, n0⟩
  have N0 := Lib.hid n0
  clear n0 HAW
  go_wp2_with fail
  refine (H1.out _ N0.out).mono ?_
  rintro _ w1 ⟨rfl, n1⟩
  have N1 := Lib.hid (New.trans N0.out n1)
  clear n1 N0
  go_wp2_with fail
  refine (H2.out _).mono ?_
  rintro _ w2 ⟨rfl, n2⟩
  have N2 := Lib.hid (New.trans N1.out n2)
  clear n2 N1
  go_wp2_with fail
  refine (H3.out _ N2.out).mono ?_
  rintro _ w3 ⟨rfl, n3⟩
  have N3 := Lib.hid (New.trans N2.out n3)
  clear n3 N2
  go_wp2_with fail
  refine (H4.out _).mono ?_
  rintro _ w4 ⟨rfl, n4⟩
  have N4 := Lib.hid (New.trans N3.out n4)
  clear n4 N3
  go_wp2
  go_ret
  exact ⟨rfl, N4.out⟩

end Go.Proofs.YtalpifocahnfjaaDoor
