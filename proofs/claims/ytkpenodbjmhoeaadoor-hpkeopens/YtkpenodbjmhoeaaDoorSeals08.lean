/-
  The law HpkeSeals, walked.
-/
import Derived.Test.YtkpenodbjmhoeaaDoorLaw08
import Derived.Test.YtkpenodbjmhoeaaDoorRefHpke
namespace Go.Proofs.YtkpenodbjmhoeaaDoor
set_option linter.unusedVariables false
set_option linter.unusedSimpArgs false
open Go.RowKit




set_option maxRecDepth 100000 in
set_option maxHeartbeats 1000000 in
theorem sealsWalk (w : World) (p : Nat) (hp : p < 18446744073709551616) (x y z v : Value) (info beside t draw : List UInt8) (hx : Rd w x info) (hy : Rd w y beside) (hz : Rd w z t) (hv : Rd w v draw) (hL : Laid w) :
    Calls Tryd.prog 3 #[.int .u64 (p : Int), .agg #[x, y, z, v]] w fun e w' => e = .returned (.bool true) ∧ New w w' := by
  have hx' := hx
  have hy' := hy
  have hz' := hz
  have hv' := hv
  obtain ⟨ax, nx, cx, rfl, hax, -⟩ := hx'
  obtain ⟨ay, ny, cy, rfl, hay, -⟩ := hy'
  obtain ⟨az, nz, cz, rfl, haz, -⟩ := hz'
  obtain ⟨av, nv, cv, rfl, hav, -⟩ := hv'
  have HX := Lib.hid hx
  have HY := Lib.hid hy
  have HZ := Lib.hid hz
  have HV := Lib.hid hv
  have HL := Lib.hid hL
  have HAX := Lib.hid hax
  have HAY := Lib.hid hay
  have HAZ := Lib.hid haz
  have HAV := Lib.hid hav
  clear hx hy hz hv hL hax hay haz hav
  by_cases hs : nx ≤ 200 ∧ ny ≤ 200 ∧ nz ≤ 200 ∧ nv ≤ 100
  · have ds : decide (nx ≤ 200 ∧ ny ≤ 200 ∧ nz ≤ 200 ∧ nv ≤ 100) = true := by simpa using hs
    have LX : Hid (info.length ≤ 65535) := by show _ ≤ _; rw [HAX.out]; omega
    have LY : Hid (beside.length ≤ 1000000) := by show _ ≤ _; rw [HAY.out]; omega
    have LZ : Hid (t.length ≤ 1000000) := by show _ ≤ _; rw [HAZ.out]; omega
    have LV : Hid (draw.length ≤ 1099511627776) := by show _ ≤ _; rw [HAV.out]; omega
    clear hs HAX HAY HAZ HAV
    go_enter Tryd.func3, Tryd.ntmps3
    go_wp2_with fail
    generalize hw1 : World.alloc w _ = w1
    have HC1 : Hid (CaseAt w1 w.heap.size (.slice ax nx cx) (.slice ay ny cy) (.slice az nz cz) (.slice av nv cv)) := Lib.hid (by rw [← hw1]; exact heap_alloc_new _ _)
    have N1 : New w w1 := by rw [← hw1]; exact (Below.refl _ _).alloc (Nat.le_refl _) _
    clear hw1
    refine (awake08 w1 (HL.out.new N1)).mono ?_
    rintro e w2 ⟨rfl, N2⟩
    have NN2 := New.trans N1 N2
    have HC2 := Lib.hid (HC1.out.new N2)
    clear HC1 N2 N1
    obtain ⟨c0, c1, c2, c3⟩ := HC2.out.cells
    go_wp2_with fail
    clear c0 c1 c2 c3
    refine (small08 w2 ax ay az av nx cx ny cy nz cz nv cv).mono ?_
    rintro e w3 ⟨rfl, N3⟩
    rw [ds]
    have NN3 := New.trans NN2 N3
    have HC3 := Lib.hid (HC2.out.new N3)
    clear HC2 N3 NN2
    obtain ⟨c0, c1, c2, c3⟩ := HC3.out.cells
    go_wp2_with fail
    refine (hpkeSeal w3 _ _ _ _ p info beside t draw hp (HX.out.new NN3) LX.out (HY.out.new NN3) LY.out (HZ.out.new NN3) LZ.out (HV.out.new NN3) LV.out (HL.out.new NN3)).mono ?_
    rintro e w4 ⟨a4, n4, c4, rfl, r4, N4, -⟩
    have NN4 := New.trans NN3 N4
    have HC4 := Lib.hid (HC3.out.new N4)
    have R4 := Lib.hid r4
    have HM := Lib.hid (fun wx => refSeal8 wx p info beside t draw hp LX.out LY.out LZ.out LV.out)
    clear HC3 N4 NN3 r4 c0 c1 c2 c3
    generalize hsFrom p draw = FR at *
    generalize hsText p info beside t draw = TX at *
    generalize hsErr p = ER at *
    go_upto_region 4 with fail
    generalize hw5 : World.alloc w4 _ = w5
    have HS5 : Hid (At2 w5 w4.heap.size 29 (.int .u64 (FR : Int)) (.slice a4 n4 c4)) := Lib.hid (by rw [← hw5]; exact heap_alloc_new _ _)
    have N5 : New w4 w5 := by rw [← hw5]; exact (Below.refl _ _).alloc (Nat.le_refl _) _
    have NN5 := New.trans NN4 N5
    have R5 := Lib.hid (R4.out.new N5)
    have HC5 := Lib.hid (HC4.out.new N5)
    clear hw5 N5 NN4 R4 HC4
    obtain ⟨c0, c1, c2, c3⟩ := HC5.out.cells
    have k0 := run_str (P := Tryd.prog) Tryd.underlying23 Tryd.underlying5 Tryd.underlying9 (HX.out.new NN5)
    have k1 := run_str (P := Tryd.prog) Tryd.underlying23 Tryd.underlying5 Tryd.underlying9 (HY.out.new NN5)
    have k2 := run_str (P := Tryd.prog) Tryd.underlying23 Tryd.underlying5 Tryd.underlying9 (HZ.out.new NN5)
    have k3 := run_str (P := Tryd.prog) Tryd.underlying23 Tryd.underlying5 Tryd.underlying9 (HV.out.new NN5)
    go_wp2_with fail
    refine (HM.out w5).mono ?_
    rintro e w6 ⟨rfl, N6⟩
    have NN6 := New.trans NN5 N6
    have R6 := Lib.hid (R5.out.new N6)
    have HS6 := Lib.hid (HS5.out.new N6)
    clear c0 c1 c2 c3 k0 k1 k2 k3 HM N6 NN5 R5 HS5 HC5
    go_upto_region 5 with fail
    generalize hw7 : World.alloc w6 _ = w7
    have HT7 : Hid (At2 w7 w6.heap.size 34 (.int .u64 (FR : Int)) (.string (bstr TX))) := Lib.hid (by rw [← hw7]; exact heap_alloc_new _ _)
    have N7 : New w6 w7 := by rw [← hw7]; exact (Below.refl _ _).alloc (Nat.le_refl _) _
    have NN7 := New.trans NN6 N7
    have R7 := Lib.hid (R6.out.new N7)
    have HS7 := Lib.hid (HS6.out.new N7)
    clear hw7 N7 NN6 R6 HS6
    obtain ⟨c0, c1⟩ := HS7.out.cells
    obtain ⟨c2, c3⟩ := HT7.out.cells
    have k0 := run_str (P := Tryd.prog) Tryd.underlying23 Tryd.underlying5 Tryd.underlying9 R7.out
    have kb : ((bstr TX).toList == (bstr TX).toList) = true := by simp
    have ke : (ER == ER) = true := by simp
    have kf : ((FR : Int) == (FR : Int)) = true := by simp
    clear R7 HS7 HT7
    go_wp2
    go_ret
    exact ⟨rfl, NN7⟩
  · have ds : decide (nx ≤ 200 ∧ ny ≤ 200 ∧ nz ≤ 200 ∧ nv ≤ 100) = false := by simpa using hs
    clear hs
    go_enter Tryd.func3, Tryd.ntmps3
    go_wp2_with fail
    generalize hw1 : World.alloc w _ = w1
    have HC1 : Hid (CaseAt w1 w.heap.size (.slice ax nx cx) (.slice ay ny cy) (.slice az nz cz) (.slice av nv cv)) := Lib.hid (by rw [← hw1]; exact heap_alloc_new _ _)
    have N1 : New w w1 := by rw [← hw1]; exact (Below.refl _ _).alloc (Nat.le_refl _) _
    clear hw1
    refine (awake08 w1 (HL.out.new N1)).mono ?_
    rintro e w2 ⟨rfl, N2⟩
    have NN2 := New.trans N1 N2
    have HC2 := Lib.hid (HC1.out.new N2)
    clear HC1 N2 N1
    obtain ⟨c0, c1, c2, c3⟩ := HC2.out.cells
    go_wp2_with fail
    clear c0 c1 c2 c3
    refine (small08 w2 ax ay az av nx cx ny cy nz cz nv cv).mono ?_
    rintro e w3 ⟨rfl, N3⟩
    rw [ds]
    have NN3 := New.trans NN2 N3
    have HC3 := Lib.hid (HC2.out.new N3)
    clear HC2 N3 NN2
    obtain ⟨c0, c1, c2, c3⟩ := HC3.out.cells
    go_wp2_with fail
    refine (awake08 w3 (HL.out.new NN3)).mono ?_
    rintro e w4 ⟨rfl, N4⟩
    clear c0 c1 c2 c3
    go_wp2
    go_ret
    exact ⟨rfl, New.trans NN3 N4⟩

end Go.Proofs.YtkpenodbjmhoeaaDoor
