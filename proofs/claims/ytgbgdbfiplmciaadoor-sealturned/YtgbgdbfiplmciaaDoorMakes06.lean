/-
  The law SealMakes, walked.
-/
import Derived.Test.YtgbgdbfiplmciaaDoorLaw06
import Derived.Test.YtgbgdbfiplmciaaDoorRefSealA
namespace Go.Proofs.YtgbgdbfiplmciaaDoor
set_option linter.unusedVariables false
set_option linter.unusedSimpArgs false
open Go.RowKit

/-- what the last region reads -/
def Strs6 (g : Nat) (x y z v b o : Value) (key nonce beside t s : List UInt8) (w : World) : Prop :=
  (w.cell? ⟨g, 0, none⟩ = some x ∧ w.cell? ⟨g, 1, none⟩ = some y ∧ w.cell? ⟨g, 2, none⟩ = some z ∧ w.cell? ⟨g, 3, none⟩ = some v) ∧
  (convert 22 9 x).run Tryd.prog w = .ok (.string (bstr key)) w ∧ (convert 22 9 y).run Tryd.prog w = .ok (.string (bstr nonce)) w ∧ (convert 22 9 z).run Tryd.prog w = .ok (.string (bstr beside)) w ∧
  (convert 22 9 v).run Tryd.prog w = .ok (.string (bstr t)) w ∧ (convert 22 9 b).run Tryd.prog w = .ok (.string (bstr s)) w ∧ (convert 22 9 o).run Tryd.prog w = .ok (.string (bstr t)) w

structure Six (w : World) (g : Nat) (x y z v b o : Value) (key nonce beside t s : List UInt8) : Prop where
  at_ : CaseAt w g x y z v
  r1 : Rd w x key
  r2 : Rd w y nonce
  r3 : Rd w z beside
  r4 : Rd w v t
  r5 : Rd w b s
  r6 : Rd w o t

theorem Six.new {w w' : World} {g : Nat} {x y z v b o : Value} {key nonce beside t s : List UInt8} (h : Six w g x y z v b o key nonce beside t s) (hn : New w w') : Six w' g x y z v b o key nonce beside t s :=
  ⟨h.at_.new hn, h.r1.new hn, h.r2.new hn, h.r3.new hn, h.r4.new hn, h.r5.new hn, h.r6.new hn⟩

theorem Six.strs {w : World} {g : Nat} {x y z v b o : Value} {key nonce beside t s : List UInt8} (h : Six w g x y z v b o key nonce beside t s) : Strs6 g x y z v b o key nonce beside t s w :=
  ⟨h.at_.cells, run_str (P := Tryd.prog) Tryd.underlying22 Tryd.underlying5 Tryd.underlying9 h.r1, run_str (P := Tryd.prog) Tryd.underlying22 Tryd.underlying5 Tryd.underlying9 h.r2, run_str (P := Tryd.prog) Tryd.underlying22 Tryd.underlying5 Tryd.underlying9 h.r3, run_str (P := Tryd.prog) Tryd.underlying22 Tryd.underlying5 Tryd.underlying9 h.r4, run_str (P := Tryd.prog) Tryd.underlying22 Tryd.underlying5 Tryd.underlying9 h.r5, run_str (P := Tryd.prog) Tryd.underlying22 Tryd.underlying5 Tryd.underlying9 h.r6⟩



set_option maxRecDepth 100000 in
set_option maxHeartbeats 1000000 in
theorem makesWalk (w : World) (x y z v : Value) (key nonce beside t : List UInt8) (hx : Rd w x key) (hy : Rd w y nonce) (hz : Rd w z beside) (hv : Rd w v t) (hL : Laid w) :
    Calls Tryd.prog 3 #[.agg #[x, y, z, v]] w fun e w' => e = .returned (.bool true) ∧ New w w' := by
  have hx' := hx
  have hy' := hy
  have hz' := hz
  have hv' := hv
  obtain ⟨ax, nx, cx, rfl, hax, -⟩ := hx'
  obtain ⟨ay, ny, cy, rfl, hay, -⟩ := hy'
  obtain ⟨az, nz, cz, rfl, haz, -⟩ := hz'
  obtain ⟨av, nv, cv, rfl, hav, -⟩ := hv'
  have HX := Lib.hid hx
  have HY := Lib.hid hy
  have HZ := Lib.hid hz
  have HV := Lib.hid hv
  have HL := Lib.hid hL
  have HAX := Lib.hid hax
  have HAY := Lib.hid hay
  have HAZ := Lib.hid haz
  have HAV := Lib.hid hav
  clear hx hy hz hv hL hax hay haz hav
  by_cases hs : nx ≤ 60 ∧ ny ≤ 30 ∧ nz ≤ 200 ∧ nv ≤ 400
  · have ds : decide (nx ≤ 60 ∧ ny ≤ 30 ∧ nz ≤ 200 ∧ nv ≤ 400) = true := by simpa using hs
    obtain ⟨-, -, hs3, hs4⟩ := hs
    by_cases h48 : nx = 48
    · have d1 : ((nx : Int) != 48) = false := by simp; omega
      by_cases h16 : ny = 16
      · have d2 : ((ny : Int) != 16) = false := by simp; omega
        have H48 : Hid (key.length = 48) := by show _ = _; rw [HAX.out, h48]
        have H16 : Hid (nonce.length = 16) := by show _ = _; rw [HAY.out, h16]
        clear h48 h16
        go_enter Tryd.func3, Tryd.ntmps3
        go_wp2_with fail
        generalize hw1 : World.alloc w _ = w1
        have HC1 : Hid (CaseAt w1 w.heap.size (.slice ax nx cx) (.slice ay ny cy) (.slice az nz cz) (.slice av nv cv)) := Lib.hid (by rw [← hw1]; exact heap_alloc_new _ _)
        have N1 : New w w1 := by rw [← hw1]; exact (Below.refl _ _).alloc (Nat.le_refl _) _
        clear hw1
        refine (awake06 w1 (HL.out.new N1)).mono ?_
        rintro e w2 ⟨rfl, N2⟩
        have NN2 := New.trans N1 N2
        have HC2 := Lib.hid (HC1.out.new N2)
        clear HC1 N2 N1
        obtain ⟨c0, c1, c2, c3⟩ := HC2.out.cells
        go_wp2_with fail
        clear c0 c1 c2 c3
        refine (small06 w2 ax ay az av nx cx ny cy nz cz nv cv).mono ?_
        rintro e w3 ⟨rfl, N3⟩
        rw [ds]
        have NN3 := New.trans NN2 N3
        have HC3 := Lib.hid (HC2.out.new N3)
        clear HC2 N3 NN2
        obtain ⟨c0, c1, c2, c3⟩ := HC3.out.cells
        go_wp2_with fail
        refine (sealSeal w3 _ _ _ _ key nonce beside t (HX.out.new NN3) H48.out (HY.out.new NN3) H16.out (HZ.out.new NN3) (by rw [HAZ.out]; omega) (HV.out.new NN3) (by rw [HAV.out]; omega) (HL.out.new NN3)).mono ?_
        rintro e w4 ⟨a4, n4, c4, rfl, r4, hn4, N4, -⟩
        have NN4 := New.trans NN3 N4
        have HC4 := Lib.hid (HC3.out.new N4)
        have R4 := Lib.hid r4
        clear HC3 N4 NN3 r4 c0 c1 c2 c3 hn4
        obtain ⟨c0, c1, c2, c3⟩ := HC4.out.cells
        have HO := Lib.hid (sealOpen w4 _ _ _ _ key nonce beside _ (HX.out.new NN4) H48.out (HY.out.new NN4) H16.out (HZ.out.new NN4) (by rw [HAZ.out]; omega) R4.out (by rw [sealOf_length, HAV.out]; omega) (HL.out.new NN4))
        rw [(open_seal key nonce beside t).1, (open_seal key nonce beside t).2] at HO
        go_wp2_with fail
        refine HO.out.mono ?_
        rintro e w5 ⟨a5, n5, c5, rfl, r5, N5, -⟩
        have NN5 := New.trans NN4 N5
        have H6 : Hid (Six w5 w.heap.size (.slice ax nx cx) (.slice ay ny cy) (.slice az nz cz) (.slice av nv cv) (.slice a4 n4 c4) (.slice a5 n5 c5) key nonce beside t (sealOf key nonce beside t)) := Lib.hid ⟨HC4.out.new N5, HX.out.new NN5, HY.out.new NN5, HZ.out.new NN5, HV.out.new NN5, R4.out.new N5, r5⟩
        have HS := Lib.hid fun wx => refSeal06 wx key nonce beside t H48.out H16.out (by rw [HAZ.out]; omega) (by rw [HAV.out]; omega)
        generalize sealOf key nonce beside t = SE at *
        clear HO r5 N5 NN4 HC4 R4 c0 c1 c2 c3
        have kb : ((bstr SE).toList == (bstr SE).toList) = true := by simp
        have kt : ((bstr t).toList == (bstr t).toList) = true := by simp
        go_upto_region 8 with fail
        have H7 := Lib.hid (H6.out.new (Below.refl _ _).drew)
        have NN6 : New w w5.drew := NN5.drew
        refine region_ord (Strs6 w.heap.size (.slice ax nx cx) (.slice ay ny cy) (.slice az nz cz) (.slice av nv cv) (.slice a4 n4 c4) (.slice a5 n5 c5) key nonce beside t SE) [(0, true), (1, true), (2, true), (3, true), (4, true), (5, true), (6, true), (7, true), (8, true), (9, true), (10, true), (11, true), (12, true), (13, true), (14, true), (15, true), (16, true), (17, false), (18, true), (19, true), (20, true), (21, true), (22, true), (23, true), (24, true), (25, true), (26, true), (27, true), (28, true), (29, true), (30, true), (31, true), (32, true)] (by kernel_rfl) (by kernel_rfl) H7.out.strs (fun _ => ?_)
        generalize w5.drew = w6 at *
        clear H6 NN5
        unfold Strs6
        iterate 17 (apply ord_take; (simp only [List.getElem?_toArray, List.getElem?_cons_succ, List.getElem?_cons_zero]; rfl); rfl; (intro w hSw; (try dsimp only at hSw); go_simp; try with_reducible rfl); intro _; try simp only [Act.put, List.setIfInBounds_toArray, List.set_cons_zero, List.set_cons_succ])
        (apply ord_only; (simp only [List.getElem?_toArray, List.getElem?_cons_succ, List.getElem?_cons_zero]; rfl); rfl; intro K hK)
        go_simp
        refine (HS.out w6).mono ?_
        rintro e w7 ⟨rfl, N7⟩
        have H8 := Lib.hid (H7.out.new N7)
        have NN7 := New.trans NN6 N7
        clear H7 N7 NN6
        refine hK.out _ _ (H8.out.strs) (fun _ => ?_)
        clear hK K
        try simp only [Act.put, List.setIfInBounds_toArray, List.set_cons_zero, List.set_cons_succ]
        iterate 15 (apply ord_take; (simp only [List.getElem?_toArray, List.getElem?_cons_succ, List.getElem?_cons_zero]; rfl); rfl; (intro w hSw; (try dsimp only at hSw); go_simp; try with_reducible rfl); intro _; try simp only [Act.put, List.setIfInBounds_toArray, List.set_cons_zero, List.set_cons_succ])
        apply ord_done
        go_wp2
        go_ret
        exact ⟨rfl, NN7⟩
      · have d2 : ((ny : Int) != 16) = true := by simp; omega
        have HBAD : Hid (¬ (key.length = 48 ∧ nonce.length = 16)) := Lib.hid (by rw [HAX.out, HAY.out]; omega)
        clear h48 h16
        go_enter Tryd.func3, Tryd.ntmps3
        go_wp2_with fail
        generalize hw1 : World.alloc w _ = w1
        have HC1 : Hid (CaseAt w1 w.heap.size (.slice ax nx cx) (.slice ay ny cy) (.slice az nz cz) (.slice av nv cv)) := Lib.hid (by rw [← hw1]; exact heap_alloc_new _ _)
        have N1 : New w w1 := by rw [← hw1]; exact (Below.refl _ _).alloc (Nat.le_refl _) _
        clear hw1
        refine (awake06 w1 (HL.out.new N1)).mono ?_
        rintro e w2 ⟨rfl, N2⟩
        have NN2 := New.trans N1 N2
        have HC2 := Lib.hid (HC1.out.new N2)
        clear HC1 N2 N1
        obtain ⟨c0, c1, c2, c3⟩ := HC2.out.cells
        go_wp2_with fail
        clear c0 c1 c2 c3
        refine (small06 w2 ax ay az av nx cx ny cy nz cz nv cv).mono ?_
        rintro e w3 ⟨rfl, N3⟩
        rw [ds]
        have NN3 := New.trans NN2 N3
        have HC3 := Lib.hid (HC2.out.new N3)
        clear HC2 N3 NN2
        obtain ⟨c0, c1, c2, c3⟩ := HC3.out.cells
        go_wp2_with fail
        refine (sealBad w3 _ _ _ _ key nonce (HX.out.new NN3) (HY.out.new NN3) HBAD.out).mono ?_
        rintro e w4 ⟨rfl, rfl⟩
        go_wp2_with fail
        refine (openBad w3 _ _ _ _ key nonce (HX.out.new NN3) (HY.out.new NN3) HBAD.out).mono ?_
        rintro e w4 ⟨rfl, rfl⟩
        clear c0 c1 c2 c3
        go_wp2
        go_ret
        exact ⟨rfl, NN3⟩
    · have d1 : ((nx : Int) != 48) = true := by simp; omega
      have HBAD : Hid (¬ (key.length = 48 ∧ nonce.length = 16)) := Lib.hid (by rw [HAX.out, HAY.out]; omega)
      clear h48
      go_enter Tryd.func3, Tryd.ntmps3
      go_wp2_with fail
      generalize hw1 : World.alloc w _ = w1
      have HC1 : Hid (CaseAt w1 w.heap.size (.slice ax nx cx) (.slice ay ny cy) (.slice az nz cz) (.slice av nv cv)) := Lib.hid (by rw [← hw1]; exact heap_alloc_new _ _)
      have N1 : New w w1 := by rw [← hw1]; exact (Below.refl _ _).alloc (Nat.le_refl _) _
      clear hw1
      refine (awake06 w1 (HL.out.new N1)).mono ?_
      rintro e w2 ⟨rfl, N2⟩
      have NN2 := New.trans N1 N2
      have HC2 := Lib.hid (HC1.out.new N2)
      clear HC1 N2 N1
      obtain ⟨c0, c1, c2, c3⟩ := HC2.out.cells
      go_wp2_with fail
      clear c0 c1 c2 c3
      refine (small06 w2 ax ay az av nx cx ny cy nz cz nv cv).mono ?_
      rintro e w3 ⟨rfl, N3⟩
      rw [ds]
      have NN3 := New.trans NN2 N3
      have HC3 := Lib.hid (HC2.out.new N3)
      clear HC2 N3 NN2
      obtain ⟨c0, c1, c2, c3⟩ := HC3.out.cells
      go_wp2_with fail
      refine (sealBad w3 _ _ _ _ key nonce (HX.out.new NN3) (HY.out.new NN3) HBAD.out).mono ?_
      rintro e w4 ⟨rfl, rfl⟩
      go_wp2_with fail
      refine (openBad w3 _ _ _ _ key nonce (HX.out.new NN3) (HY.out.new NN3) HBAD.out).mono ?_
      rintro e w4 ⟨rfl, rfl⟩
      clear c0 c1 c2 c3
      go_wp2
      go_ret
      exact ⟨rfl, NN3⟩
  · have ds : decide (nx ≤ 60 ∧ ny ≤ 30 ∧ nz ≤ 200 ∧ nv ≤ 400) = false := by simpa using hs
    clear hs
    go_enter Tryd.func3, Tryd.ntmps3
    go_wp2_with fail
    generalize hw1 : World.alloc w _ = w1
    have HC1 : Hid (CaseAt w1 w.heap.size (.slice ax nx cx) (.slice ay ny cy) (.slice az nz cz) (.slice av nv cv)) := Lib.hid (by rw [← hw1]; exact heap_alloc_new _ _)
    have N1 : New w w1 := by rw [← hw1]; exact (Below.refl _ _).alloc (Nat.le_refl _) _
    clear hw1
    refine (awake06 w1 (HL.out.new N1)).mono ?_
    rintro e w2 ⟨rfl, N2⟩
    have NN2 := New.trans N1 N2
    have HC2 := Lib.hid (HC1.out.new N2)
    clear HC1 N2 N1
    obtain ⟨c0, c1, c2, c3⟩ := HC2.out.cells
    go_wp2_with fail
    clear c0 c1 c2 c3
    refine (small06 w2 ax ay az av nx cx ny cy nz cz nv cv).mono ?_
    rintro e w3 ⟨rfl, N3⟩
    rw [ds]
    have NN3 := New.trans NN2 N3
    have HC3 := Lib.hid (HC2.out.new N3)
    clear HC2 N3 NN2
    obtain ⟨c0, c1, c2, c3⟩ := HC3.out.cells
    go_wp2_with fail
    refine (awake06 w3 (HL.out.new NN3)).mono ?_
    rintro e w4 ⟨rfl, N4⟩
    clear c0 c1 c2 c3
    go_wp2
    go_ret
    exact ⟨rfl, New.trans NN3 N4⟩

end Go.Proofs.YtgbgdbfiplmciaaDoor
