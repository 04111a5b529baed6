/-
  The law HpkeOpens, walked.
-/
import Derived.Test.YtkpenodbjmhoeaaDoorLaw08
import Derived.Test.YtkpenodbjmhoeaaDoorRefHpke
namespace Go.Proofs.YtkpenodbjmhoeaaDoor
set_option linter.unusedVariables false
set_option linter.unusedSimpArgs false
open Go.RowKit




set_option maxRecDepth 100000 in
set_option maxHeartbeats 1000000 in
theorem opensWalk (w : World) (k : Nat) (hk : k < 18446744073709551616) (f : Nat) (hf : f < 18446744073709551616) (u : Value) (s : List UInt8) (hu : Rd w u s) (x y z v : Value) (info beside t draw : List UInt8) (hx : Rd w x info) (hy : Rd w y beside) (hz : Rd w z t) (hv : Rd w v draw) (hL : Laid w) :
    Calls Tryd.prog 4 #[.int .u64 (k : Int), .agg #[.int .u64 (f : Int), u], .agg #[x, y, z, v]] w fun e w' => e = .returned (.bool true) ∧ New w w' := by
  have hx' := hx
  have hy' := hy
  have hz' := hz
  have hv' := hv
  obtain ⟨ax, nx, cx, rfl, hax, -⟩ := hx'
  obtain ⟨ay, ny, cy, rfl, hay, -⟩ := hy'
  obtain ⟨az, nz, cz, rfl, haz, -⟩ := hz'
  obtain ⟨av, nv, cv, rfl, hav, -⟩ := hv'
  have HX := Lib.hid hx
  have HY := Lib.hid hy
  have HZ := Lib.hid hz
  have HV := Lib.hid hv
  have HL := Lib.hid hL
  have HAX := Lib.hid hax
  have HAY := Lib.hid hay
  have HAZ := Lib.hid haz
  have HAV := Lib.hid hav
  clear hx hy hz hv hL hax hay haz hav
  have hu' := hu
  obtain ⟨au, nu, cu, rfl, hau, -⟩ := hu'
  have HU := Lib.hid hu
  have HAU := Lib.hid hau
  clear hu hau
  by_cases hs : nx ≤ 200 ∧ ny ≤ 200 ∧ nz ≤ 200 ∧ nv ≤ 100
  · have ds : decide (nx ≤ 200 ∧ ny ≤ 200 ∧ nz ≤ 200 ∧ nv ≤ 100) = true := by simpa using hs
    have LX : Hid (info.length ≤ 65535) := by show _ ≤ _; rw [HAX.out]; omega
    have LY : Hid (beside.length ≤ 1000000) := by show _ ≤ _; rw [HAY.out]; omega
    clear hs HAX HAY HAZ HAV
    by_cases h4 : 400 < nu
    · have d4 : decide ((400 : Int) < (nu : Int)) = true := by simp; omega
      clear h4
      go_enter Tryd.func4, Tryd.ntmps4
      go_wp2_with fail
      generalize hw1 : World.alloc w _ = w1
      have HS1 : Hid (At2 w1 w.heap.size 29 (.int .u64 (f : Int)) (.slice au nu cu)) := Lib.hid (by rw [← hw1]; exact heap_alloc_new _ _)
      have N1 : New w w1 := by rw [← hw1]; exact (Below.refl _ _).alloc (Nat.le_refl _) _
      have hz1 : w1.heap.size = w.heap.size + 1 := by rw [← hw1]; simp
      clear hw1
      rw [← hz1]
      clear hz1
      generalize hw2 : World.alloc w1 _ = w2
      have HC2 : Hid (CaseAt w2 w1.heap.size (.slice ax nx cx) (.slice ay ny cy) (.slice az nz cz) (.slice av nv cv)) := Lib.hid (by rw [← hw2]; exact heap_alloc_new _ _)
      have N2 : New w1 w2 := by rw [← hw2]; exact (Below.refl _ _).alloc (Nat.le_refl _) _
      have HS2 := Lib.hid (HS1.out.new N2)
      have NN2 := New.trans N1 N2
      clear hw2 HS1 N1 N2
      generalize w1.heap.size = g at *
      refine (awake08 w2 (HL.out.new NN2)).mono ?_
      rintro e w3 ⟨rfl, N3⟩
      have NN3 := New.trans NN2 N3
      have HC3 := Lib.hid (HC2.out.new N3)
      have HS3 := Lib.hid (HS2.out.new N3)
      clear HC2 HS2 N3 NN2
      obtain ⟨c0, c1, c2, c3⟩ := HC3.out.cells
      go_wp2_with fail
      clear c0 c1 c2 c3
      refine (small08 w3 ax ay az av nx cx ny cy nz cz nv cv).mono ?_
      rintro e w4 ⟨rfl, N4⟩
      rw [ds]
      have NN4 := New.trans NN3 N4
      have HC4 := Lib.hid (HC3.out.new N4)
      have HS4 := Lib.hid (HS3.out.new N4)
      clear HC3 HS3 N4 NN3
      obtain ⟨c0, c1, c2, c3⟩ := HC4.out.cells
      obtain ⟨s0, s1⟩ := HS4.out.cells
      go_wp2_with fail
      refine (awake08 w4 (HL.out.new NN4)).mono ?_
      rintro e w5 ⟨rfl, N5⟩
      clear c0 c1 c2 c3 s0 s1
      go_wp2
      go_ret
      exact ⟨rfl, New.trans NN4 N5⟩
    · have d4 : decide ((400 : Int) < (nu : Int)) = false := by simp; omega
      have LU : Hid (s.length ≤ 1000000) := by show _ ≤ _; rw [HAU.out]; omega
      clear h4 HAU
      go_enter Tryd.func4, Tryd.ntmps4
      go_wp2_with fail
      generalize hw1 : World.alloc w _ = w1
      have HS1 : Hid (At2 w1 w.heap.size 29 (.int .u64 (f : Int)) (.slice au nu cu)) := Lib.hid (by rw [← hw1]; exact heap_alloc_new _ _)
      have N1 : New w w1 := by rw [← hw1]; exact (Below.refl _ _).alloc (Nat.le_refl _) _
      have hz1 : w1.heap.size = w.heap.size + 1 := by rw [← hw1]; simp
      clear hw1
      rw [← hz1]
      clear hz1
      generalize hw2 : World.alloc w1 _ = w2
      have HC2 : Hid (CaseAt w2 w1.heap.size (.slice ax nx cx) (.slice ay ny cy) (.slice az nz cz) (.slice av nv cv)) := Lib.hid (by rw [← hw2]; exact heap_alloc_new _ _)
      have N2 : New w1 w2 := by rw [← hw2]; exact (Below.refl _ _).alloc (Nat.le_refl _) _
      have HS2 := Lib.hid (HS1.out.new N2)
      have NN2 := New.trans N1 N2
      clear hw2 HS1 N1 N2
      generalize w1.heap.size = g at *
      refine (awake08 w2 (HL.out.new NN2)).mono ?_
      rintro e w3 ⟨rfl, N3⟩
      have NN3 := New.trans NN2 N3
      have HC3 := Lib.hid (HC2.out.new N3)
      have HS3 := Lib.hid (HS2.out.new N3)
      clear HC2 HS2 N3 NN2
      obtain ⟨c0, c1, c2, c3⟩ := HC3.out.cells
      go_wp2_with fail
      clear c0 c1 c2 c3
      refine (small08 w3 ax ay az av nx cx ny cy nz cz nv cv).mono ?_
      rintro e w4 ⟨rfl, N4⟩
      rw [ds]
      have NN4 := New.trans NN3 N4
      have HC4 := Lib.hid (HC3.out.new N4)
      have HS4 := Lib.hid (HS3.out.new N4)
      clear HC3 HS3 N4 NN3
      obtain ⟨c0, c1, c2, c3⟩ := HC4.out.cells
      obtain ⟨s0, s1⟩ := HS4.out.cells
      go_wp2_with fail
      refine (hpkeOpen w4 k f _ _ _ s info beside hk hf (HU.out.new NN4) LU.out (HX.out.new NN4) LX.out (HY.out.new NN4) LY.out (HL.out.new NN4)).mono ?_
      rintro e w5 ⟨a5, n5, c5, rfl, r5, N5, -⟩
      have NN5 := New.trans NN4 N5
      have HC5 := Lib.hid (HC4.out.new N5)
      have HS5 := Lib.hid (HS4.out.new N5)
      have R5 := Lib.hid r5
      have HM := Lib.hid (fun wx => refOpen8 wx k f s info beside hk hf LU.out LX.out LY.out)
      clear HC4 HS4 N5 NN4 r5 c0 c1 c2 c3 s0 s1
      generalize hoErr k f s info beside = ER at *
      generalize hoText k f s info beside = TX at *
      obtain ⟨c0, c1, c2, c3⟩ := HC5.out.cells
      obtain ⟨s0, s1⟩ := HS5.out.cells
      have k0 := run_str (P := Tryd.prog) Tryd.underlying23 Tryd.underlying5 Tryd.underlying9 (HX.out.new NN5)
      have k1 := run_str (P := Tryd.prog) Tryd.underlying23 Tryd.underlying5 Tryd.underlying9 (HY.out.new NN5)
      have k2 := run_str (P := Tryd.prog) Tryd.underlying23 Tryd.underlying5 Tryd.underlying9 (HU.out.new NN5)
      go_wp2_with fail
      refine (HM.out w5).mono ?_
      rintro e w6 ⟨rfl, N6⟩
      have NN6 := New.trans NN5 N6
      have k4 := run_str (P := Tryd.prog) Tryd.underlying23 Tryd.underlying5 Tryd.underlying9 (R5.out.new N6)
      have kb : ((bstr TX).toList == (bstr TX).toList) = true := by simp
      have ke : (ER == ER) = true := by simp
      clear c0 c1 c2 c3 s0 s1 k0 k1 k2 HM R5 HC5 HS5
      go_wp2
      go_ret
      exact ⟨rfl, NN6⟩
  · have ds : decide (nx ≤ 200 ∧ ny ≤ 200 ∧ nz ≤ 200 ∧ nv ≤ 100) = false := by simpa using hs
    clear hs
    go_enter Tryd.func4, Tryd.ntmps4
    go_wp2_with fail
    generalize hw1 : World.alloc w _ = w1
    have HS1 : Hid (At2 w1 w.heap.size 29 (.int .u64 (f : Int)) (.slice au nu cu)) := Lib.hid (by rw [← hw1]; exact heap_alloc_new _ _)
    have N1 : New w w1 := by rw [← hw1]; exact (Below.refl _ _).alloc (Nat.le_refl _) _
    have hz1 : w1.heap.size = w.heap.size + 1 := by rw [← hw1]; simp
    clear hw1
    rw [← hz1]
    clear hz1
    generalize hw2 : World.alloc w1 _ = w2
    have HC2 : Hid (CaseAt w2 w1.heap.size (.slice ax nx cx) (.slice ay ny cy) (.slice az nz cz) (.slice av nv cv)) := Lib.hid (by rw [← hw2]; exact heap_alloc_new _ _)
    have N2 : New w1 w2 := by rw [← hw2]; exact (Below.refl _ _).alloc (Nat.le_refl _) _
    have HS2 := Lib.hid (HS1.out.new N2)
    have NN2 := New.trans N1 N2
    clear hw2 HS1 N1 N2
    generalize w1.heap.size = g at *
    refine (awake08 w2 (HL.out.new NN2)).mono ?_
    rintro e w3 ⟨rfl, N3⟩
    have NN3 := New.trans NN2 N3
    have HC3 := Lib.hid (HC2.out.new N3)
    have HS3 := Lib.hid (HS2.out.new N3)
    clear HC2 HS2 N3 NN2
    obtain ⟨c0, c1, c2, c3⟩ := HC3.out.cells
    go_wp2_with fail
    clear c0 c1 c2 c3
    refine (small08 w3 ax ay az av nx cx ny cy nz cz nv cv).mono ?_
    rintro e w4 ⟨rfl, N4⟩
    rw [ds]
    have NN4 := New.trans NN3 N4
    have HC4 := Lib.hid (HC3.out.new N4)
    have HS4 := Lib.hid (HS3.out.new N4)
    clear HC3 HS3 N4 NN3
    obtain ⟨c0, c1, c2, c3⟩ := HC4.out.cells
    obtain ⟨s0, s1⟩ := HS4.out.cells
    go_wp2_with fail
    refine (awake08 w4 (HL.out.new NN4)).mono ?_
    rintro e w5 ⟨rfl, N5⟩
    clear c0 c1 c2 c3 s0 s1
    go_wp2
    go_ret
    exact ⟨rfl, New.trans NN4 N5⟩

end Go.Proofs.YtkpenodbjmhoeaaDoor
