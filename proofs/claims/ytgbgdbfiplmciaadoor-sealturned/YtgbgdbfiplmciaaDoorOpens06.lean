/-
  The law SealOpens, walked.
-/
import Derived.Test.YtgbgdbfiplmciaaDoorLaw06
import Derived.Test.YtgbgdbfiplmciaaDoorRefSealA
namespace Go.Proofs.YtgbgdbfiplmciaaDoor
set_option linter.unusedVariables false
set_option linter.unusedSimpArgs false
open Go.RowKit



set_option maxRecDepth 100000 in
set_option maxHeartbeats 1000000 in
theorem opensWalk (w : World) (x y z v : Value) (key nonce beside t : List UInt8) (hx : Rd w x key) (hy : Rd w y nonce) (hz : Rd w z beside) (hv : Rd w v t) (hL : Laid w) :
    Calls Tryd.prog 4 #[.agg #[x, y, z, v]] w fun e w' => e = .returned (.bool true) ∧ New w w' := by
  have hx' := hx
  have hy' := hy
  have hz' := hz
  have hv' := hv
  obtain ⟨ax, nx, cx, rfl, hax, -⟩ := hx'
  obtain ⟨ay, ny, cy, rfl, hay, -⟩ := hy'
  obtain ⟨az, nz, cz, rfl, haz, -⟩ := hz'
  obtain ⟨av, nv, cv, rfl, hav, -⟩ := hv'
  have HX := Lib.hid hx
  have HY := Lib.hid hy
  have HZ := Lib.hid hz
  have HV := Lib.hid hv
  have HL := Lib.hid hL
  have HAX := Lib.hid hax
  have HAY := Lib.hid hay
  have HAZ := Lib.hid haz
  have HAV := Lib.hid hav
  clear hx hy hz hv hL hax hay haz hav
  by_cases hs : nx ≤ 60 ∧ ny ≤ 30 ∧ nz ≤ 200 ∧ nv ≤ 400
  · have ds : decide (nx ≤ 60 ∧ ny ≤ 30 ∧ nz ≤ 200 ∧ nv ≤ 400) = true := by simpa using hs
    obtain ⟨-, -, hs3, hs4⟩ := hs
    by_cases h48 : nx = 48
    · have d1 : ((nx : Int) != 48) = false := by simp; omega
      by_cases h16 : ny = 16
      · have d2 : ((ny : Int) != 16) = false := by simp; omega
        have H48 : Hid (key.length = 48) := by show _ = _; rw [HAX.out, h48]
        have H16 : Hid (nonce.length = 16) := by show _ = _; rw [HAY.out, h16]
        clear h48 h16
        go_enter Tryd.func4, Tryd.ntmps4
        go_wp2_with fail
        generalize hw1 : World.alloc w _ = w1
        have HC1 : Hid (CaseAt w1 w.heap.size (.slice ax nx cx) (.slice ay ny cy) (.slice az nz cz) (.slice av nv cv)) := Lib.hid (by rw [← hw1]; exact heap_alloc_new _ _)
        have N1 : New w w1 := by rw [← hw1]; exact (Below.refl _ _).alloc (Nat.le_refl _) _
        clear hw1
        refine (awake06 w1 (HL.out.new N1)).mono ?_
        rintro e w2 ⟨rfl, N2⟩
        have NN2 := New.trans N1 N2
        have HC2 := Lib.hid (HC1.out.new N2)
        clear HC1 N2 N1
        obtain ⟨c0, c1, c2, c3⟩ := HC2.out.cells
        go_wp2_with fail
        clear c0 c1 c2 c3
        refine (small06 w2 ax ay az av nx cx ny cy nz cz nv cv).mono ?_
        rintro e w3 ⟨rfl, N3⟩
        rw [ds]
        have NN3 := New.trans NN2 N3
        have HC3 := Lib.hid (HC2.out.new N3)
        clear HC2 N3 NN2
        obtain ⟨c0, c1, c2, c3⟩ := HC3.out.cells
        go_wp2_with fail
        refine (sealOpen w3 _ _ _ _ key nonce beside t (HX.out.new NN3) H48.out (HY.out.new NN3) H16.out (HZ.out.new NN3) (by rw [HAZ.out]; omega) (HV.out.new NN3) (by rw [HAV.out]; omega) (HL.out.new NN3)).mono ?_
        rintro e w4 ⟨a4, n4, c4, rfl, r4, N4, -⟩
        have NN4 := New.trans NN3 N4
        have HC4 := Lib.hid (HC3.out.new N4)
        have R4 := Lib.hid r4
        clear HC3 N4 NN3 r4 c0 c1 c2 c3
        obtain ⟨c0, c1, c2, c3⟩ := HC4.out.cells
        have k0 := run_str (P := Tryd.prog) Tryd.underlying22 Tryd.underlying5 Tryd.underlying9 (HX.out.new NN4)
        have k1 := run_str (P := Tryd.prog) Tryd.underlying22 Tryd.underlying5 Tryd.underlying9 (HY.out.new NN4)
        have k2 := run_str (P := Tryd.prog) Tryd.underlying22 Tryd.underlying5 Tryd.underlying9 (HZ.out.new NN4)
        have k3 := run_str (P := Tryd.prog) Tryd.underlying22 Tryd.underlying5 Tryd.underlying9 (HV.out.new NN4)
        have HO := Lib.hid (refOpen06 w4 key nonce beside t H48.out H16.out (by rw [HAZ.out]; omega) (by rw [HAV.out]; omega))
        generalize openErr key nonce beside t = E at *
        generalize openText key nonce beside t = T at *
        go_wp2_with fail
        refine HO.out.mono ?_
        rintro e w5 ⟨rfl, N5⟩
        have NN5 := New.trans NN4 N5
        have k4 := run_str (P := Tryd.prog) Tryd.underlying22 Tryd.underlying5 Tryd.underlying9 (R4.out.new N5)
        have kb : ((bstr T).toList == (bstr T).toList) = true := by simp
        have ke : (E == E) = true := by simp
        clear c0 c1 c2 c3 k0 k1 k2 k3 HO R4 HC4
        go_wp2
        go_ret
        exact ⟨rfl, NN5⟩
      · have d2 : ((ny : Int) != 16) = true := by simp; omega
        clear h48
        go_enter Tryd.func4, Tryd.ntmps4
        go_wp2_with fail
        generalize hw1 : World.alloc w _ = w1
        have HC1 : Hid (CaseAt w1 w.heap.size (.slice ax nx cx) (.slice ay ny cy) (.slice az nz cz) (.slice av nv cv)) := Lib.hid (by rw [← hw1]; exact heap_alloc_new _ _)
        have N1 : New w w1 := by rw [← hw1]; exact (Below.refl _ _).alloc (Nat.le_refl _) _
        clear hw1
        refine (awake06 w1 (HL.out.new N1)).mono ?_
        rintro e w2 ⟨rfl, N2⟩
        have NN2 := New.trans N1 N2
        have HC2 := Lib.hid (HC1.out.new N2)
        clear HC1 N2 N1
        obtain ⟨c0, c1, c2, c3⟩ := HC2.out.cells
        go_wp2_with fail
        clear c0 c1 c2 c3
        refine (small06 w2 ax ay az av nx cx ny cy nz cz nv cv).mono ?_
        rintro e w3 ⟨rfl, N3⟩
        rw [ds]
        have NN3 := New.trans NN2 N3
        have HC3 := Lib.hid (HC2.out.new N3)
        clear HC2 N3 NN2
        obtain ⟨c0, c1, c2, c3⟩ := HC3.out.cells
        go_wp2_with fail
        refine (awake06 w3 (HL.out.new NN3)).mono ?_
        rintro e w4 ⟨rfl, N4⟩
        clear c0 c1 c2 c3
        go_wp2
        go_ret
        exact ⟨rfl, New.trans NN3 N4⟩
    · have d1 : ((nx : Int) != 48) = true := by simp; omega
      go_enter Tryd.func4, Tryd.ntmps4
      go_wp2_with fail
      generalize hw1 : World.alloc w _ = w1
      have HC1 : Hid (CaseAt w1 w.heap.size (.slice ax nx cx) (.slice ay ny cy) (.slice az nz cz) (.slice av nv cv)) := Lib.hid (by rw [← hw1]; exact heap_alloc_new _ _)
      have N1 : New w w1 := by rw [← hw1]; exact (Below.refl _ _).alloc (Nat.le_refl _) _
      clear hw1
      refine (awake06 w1 (HL.out.new N1)).mono ?_
      rintro e w2 ⟨rfl, N2⟩
      have NN2 := New.trans N1 N2
      have HC2 := Lib.hid (HC1.out.new N2)
      clear HC1 N2 N1
      obtain ⟨c0, c1, c2, c3⟩ := HC2.out.cells
      go_wp2_with fail
      clear c0 c1 c2 c3
      refine (small06 w2 ax ay az av nx cx ny cy nz cz nv cv).mono ?_
      rintro e w3 ⟨rfl, N3⟩
      rw [ds]
      have NN3 := New.trans NN2 N3
      have HC3 := Lib.hid (HC2.out.new N3)
      clear HC2 N3 NN2
      obtain ⟨c0, c1, c2, c3⟩ := HC3.out.cells
      go_wp2_with fail
      refine (awake06 w3 (HL.out.new NN3)).mono ?_
      rintro e w4 ⟨rfl, N4⟩
      clear c0 c1 c2 c3
      go_wp2
      go_ret
      exact ⟨rfl, New.trans NN3 N4⟩
  · have ds : decide (nx ≤ 60 ∧ ny ≤ 30 ∧ nz ≤ 200 ∧ nv ≤ 400) = false := by simpa using hs
    clear hs
    go_enter Tryd.func4, Tryd.ntmps4
    go_wp2_with fail
    generalize hw1 : World.alloc w _ = w1
    have HC1 : Hid (CaseAt w1 w.heap.size (.slice ax nx cx) (.slice ay ny cy) (.slice az nz cz) (.slice av nv cv)) := Lib.hid (by rw [← hw1]; exact heap_alloc_new _ _)
    have N1 : New w w1 := by rw [← hw1]; exact (Below.refl _ _).alloc (Nat.le_refl _) _
    clear hw1
    refine (awake06 w1 (HL.out.new N1)).mono ?_
    rintro e w2 ⟨rfl, N2⟩
    have NN2 := New.trans N1 N2
    have HC2 := Lib.hid (HC1.out.new N2)
    clear HC1 N2 N1
    obtain ⟨c0, c1, c2, c3⟩ := HC2.out.cells
    go_wp2_with fail
    clear c0 c1 c2 c3
    refine (small06 w2 ax ay az av nx cx ny cy nz cz nv cv).mono ?_
    rintro e w3 ⟨rfl, N3⟩
    rw [ds]
    have NN3 := New.trans NN2 N3
    have HC3 := Lib.hid (HC2.out.new N3)
    clear HC2 N3 NN2
    obtain ⟨c0, c1, c2, c3⟩ := HC3.out.cells
    go_wp2_with fail
    refine (awake06 w3 (HL.out.new NN3)).mono ?_
    rintro e w4 ⟨rfl, N4⟩
    clear c0 c1 c2 c3
    go_wp2
    go_ret
    exact ⟨rfl, New.trans NN3 N4⟩

end Go.Proofs.YtgbgdbfiplmciaaDoor
