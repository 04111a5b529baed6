/-
  MacSames: the walk.
-/
import Derived.Test.YtoooemlcackepaaDoorLaw03
import Derived.Test.YtoooemlcackepaaDoorOrd
namespace Go.Proofs.YtoooemlcackepaaDoor
set_option linter.unusedVariables false
set_option linter.unusedSimpArgs false
open Go.RowKit

theorem Rd.empty (w : World) (b : Nat) : Rd w (.slice (some ⟨b, 0, none⟩) 0 0) [] := ⟨_, 0, 0, rfl, rfl, Nat.le_refl _, by simp [maxLen], (fun h => by cases h), by simp⟩

set_option maxRecDepth 100000 in
set_option maxHeartbeats 1000000 in
theorem samesWalk (w : World) (x y : Value) (a b : List UInt8) (hx : Rd w x a) (hy : Rd w y b) (hL : Laid w) :
    Calls Tryd.prog 5 #[x, y] w fun e w' => e = .returned (.bool true) ∧ New w w' := by
  have hx' := hx
  have hy' := hy
  obtain ⟨ax, nx, cx, rfl, hax, hxc, hxm, _, _⟩ := hx'
  obtain ⟨ay, ny, cy, rfl, hay, hyc, hym, _, _⟩ := hy'
  have HA := Lib.hid hax
  have HX := Lib.hid hx
  have HY := Lib.hid hy
  have HL := Lib.hid hL
  clear hax hx hy hL hay
  unfold maxLen at hxm hym
  by_cases h1 : nx ≤ 300
  · have hd1 : decide ((300 : Int) < (nx : Int)) = false := by simp; omega
    by_cases h2 : ny ≤ 300
    · have hd2 : decide ((300 : Int) < (ny : Int)) = false := by simp; omega
      go_enter Tryd.func5, Tryd.ntmps5
      go_wp2_with fail
      refine (awake03 w HL.out).mono ?_
      rintro e w1 ⟨rfl, hn1⟩
      go_wp2_with fail
      have hx1 : Rd w1.drew (.slice ax nx cx) a := HX.out.new hn1.drew
      have hy1 : Rd w1.drew (.slice ay ny cy) b := HY.out.new hn1.drew
      have hN : New w w1.drew := hn1.drew
      refine region_ord (fun w' => (convert 22 9 (.slice ax nx cx)).run Tryd.prog w' = .ok (.string (bstr a)) w' ∧ (convert 22 9 (.slice ay ny cy)).run Tryd.prog w' = .ok (.string (bstr b)) w') [(0, true), (1, true), (3, true), (4, true), (5, true), (6, true), (7, true), (2, false), (8, true), (9, true), (10, true), (12, true), (11, false), (13, false), (14, false), (15, true), (16, true), (17, false), (18, false), (19, true), (20, true)] (by kernel_rfl) (by kernel_rfl) (And.intro (run_str (P := Tryd.prog) Tryd.underlying22 Tryd.underlying5 Tryd.underlying9 hx1) (run_str (P := Tryd.prog) Tryd.underlying22 Tryd.underlying5 Tryd.underlying9 hy1)) (fun _ => ?_)
      generalize w1.drew = wd at *
      clear hn1
      obtain ⟨t, HT⟩ : ∃ t, Hid (decide (a = b) = t) := ⟨_, Lib.hid rfl⟩
      have hbe : ((bstr a).toList == (bstr b).toList) = t := by
        rw [← HT.out, bstr_list, bstr_list, Bool.eq_iff_iff, beq_iff_eq, decide_eq_true_eq]
      iterate 7 (apply ord_take; (simp only [List.getElem?_toArray, List.getElem?_cons_succ, List.getElem?_cons_zero]; rfl); rfl; (intro w hSw; (try dsimp only at hSw); go_simp; try with_reducible rfl); intro _; try simp only [Act.put, List.setIfInBounds_toArray, List.set_cons_zero, List.set_cons_succ])
      (apply ord_only; (simp only [List.getElem?_toArray, List.getElem?_cons_succ, List.getElem?_cons_zero]; rfl); rfl; intro K hK)
      go_simp
      refine (macSame wd _ _ a b hx1 hy1).mono ?_
      rintro e w2 ⟨rfl, N2⟩
      rw [HT.out]
      have hx2 := hx1.new N2
      have hy2 := hy1.new N2
      have hN2 := New.trans hN N2
      clear hx1 hy1 hN
      refine hK.out _ _ (And.intro (run_str (P := Tryd.prog) Tryd.underlying22 Tryd.underlying5 Tryd.underlying9 hx2) (run_str (P := Tryd.prog) Tryd.underlying22 Tryd.underlying5 Tryd.underlying9 hy2)) (fun _ => ?_)
      clear hK K
      try simp only [Act.put, List.setIfInBounds_toArray, List.set_cons_zero, List.set_cons_succ]
      clear hbe
      iterate 4 (apply ord_take; (simp only [List.getElem?_toArray, List.getElem?_cons_succ, List.getElem?_cons_zero]; rfl); rfl; (intro w hSw; (try dsimp only at hSw); go_simp; try with_reducible rfl); intro _; try simp only [Act.put, List.setIfInBounds_toArray, List.set_cons_zero, List.set_cons_succ])
      (apply ord_only; (simp only [List.getElem?_toArray, List.getElem?_cons_succ, List.getElem?_cons_zero]; rfl); rfl; intro K hK)
      go_simp
      have Na : New w2 (w2.alloc (.cells #[] 5)) := (Below.refl _ _).alloc (Nat.le_refl _) _
      have hx3 := hx2.new Na
      have hy3 := hy2.new Na
      refine hK.out _ _ (And.intro (run_str (P := Tryd.prog) Tryd.underlying22 Tryd.underlying5 Tryd.underlying9 hx3) (run_str (P := Tryd.prog) Tryd.underlying22 Tryd.underlying5 Tryd.underlying9 hy3)) (fun _ => ?_)
      clear hK K
      try simp only [Act.put, List.setIfInBounds_toArray, List.set_cons_zero, List.set_cons_succ]
      (apply ord_only; (simp only [List.getElem?_toArray, List.getElem?_cons_succ, List.getElem?_cons_zero]; rfl); rfl; intro K hK)
      obtain ⟨i0, hi0, hz0, hz1, hz2⟩ := info_parts infoByte
      obtain ⟨v', w4, hr, hrv, hn4, _⟩ := run_append_copy (P := Tryd.prog) (w2.alloc (.cells #[] 5)) 22 22 5 i0 _ Tryd.underlying22 hi0 hz0 hz1 hz2 rfl (some ⟨w2.heap.size, 0, none⟩) _ a hx3 (by rw [HA.out]; omega)
      have hx4 := hx3.new hn4
      have hy4 := hy3.new hn4
      have hN4 := New.trans hN2 (New.trans Na hn4)
      refine oper_append (.tmp 29) (.tmp 30) 22 rfl _ _ rfl rfl hr ?_
      have hrv' := hrv
      obtain ⟨av, nv, cv, rfl, _⟩ := hrv'
      clear hr hN2 Na hx2 hy2 hx3 hy3 hn4
      refine hK.out _ _ (And.intro (run_str (P := Tryd.prog) Tryd.underlying22 Tryd.underlying5 Tryd.underlying9 hx4) (run_str (P := Tryd.prog) Tryd.underlying22 Tryd.underlying5 Tryd.underlying9 hy4)) (fun _ => ?_)
      clear hK K
      try simp only [Act.put, List.setIfInBounds_toArray, List.set_cons_zero, List.set_cons_succ]
      (apply ord_only; (simp only [List.getElem?_toArray, List.getElem?_cons_succ, List.getElem?_cons_zero]; rfl); rfl; intro K hK)
      go_simp
      refine (macSame w4 _ _ a a hx4 hrv).mono ?_
      rintro e w5 ⟨rfl, N5⟩
      rw [show decide (a = a) = true by simp]
      have hx5 := hx4.new N5
      have hy5 := hy4.new N5
      have hN5 := New.trans hN4 N5
      clear hx4 hy4 hN4 hrv
      refine hK.out _ _ (And.intro (run_str (P := Tryd.prog) Tryd.underlying22 Tryd.underlying5 Tryd.underlying9 hx5) (run_str (P := Tryd.prog) Tryd.underlying22 Tryd.underlying5 Tryd.underlying9 hy5)) (fun _ => ?_)
      clear hK K
      try simp only [Act.put, List.setIfInBounds_toArray, List.set_cons_zero, List.set_cons_succ]
      iterate 2 (apply ord_take; (simp only [List.getElem?_toArray, List.getElem?_cons_succ, List.getElem?_cons_zero]; rfl); rfl; (intro w hSw; (try dsimp only at hSw); go_simp; try with_reducible rfl); intro _; try simp only [Act.put, List.setIfInBounds_toArray, List.set_cons_zero, List.set_cons_succ])
      (apply ord_only; (simp only [List.getElem?_toArray, List.getElem?_cons_succ, List.getElem?_cons_zero]; rfl); rfl; intro K hK)
      go_simp
      have Nb : New w5 (w5.alloc (.cells #[] 5)) := (Below.refl _ _).alloc (Nat.le_refl _) _
      have hx6 := hx5.new Nb
      have hy6 := hy5.new Nb
      refine hK.out _ _ (And.intro (run_str (P := Tryd.prog) Tryd.underlying22 Tryd.underlying5 Tryd.underlying9 hx6) (run_str (P := Tryd.prog) Tryd.underlying22 Tryd.underlying5 Tryd.underlying9 hy6)) (fun _ => ?_)
      clear hK K
      try simp only [Act.put, List.setIfInBounds_toArray, List.set_cons_zero, List.set_cons_succ]
      (apply ord_only; (simp only [List.getElem?_toArray, List.getElem?_cons_succ, List.getElem?_cons_zero]; rfl); rfl; intro K hK)
      go_simp
      refine (macSame _ _ _ [] [] (Rd.nil _) (Rd.empty _ _)).mono ?_
      rintro e w7 ⟨rfl, N7⟩
      rw [show decide (([] : List UInt8) = []) = true by simp]
      have hx7 := hx6.new N7
      have hy7 := hy6.new N7
      have hN7 := New.trans hN5 (New.trans Nb N7)
      clear hx5 hy5 hx6 hy6 hN5 Nb
      refine hK.out _ _ (And.intro (run_str (P := Tryd.prog) Tryd.underlying22 Tryd.underlying5 Tryd.underlying9 hx7) (run_str (P := Tryd.prog) Tryd.underlying22 Tryd.underlying5 Tryd.underlying9 hy7)) (fun _ => ?_)
      clear hK K
      try simp only [Act.put, List.setIfInBounds_toArray, List.set_cons_zero, List.set_cons_succ]
      iterate 2 (apply ord_take; (simp only [List.getElem?_toArray, List.getElem?_cons_succ, List.getElem?_cons_zero]; rfl); rfl; (intro w hSw; (try dsimp only at hSw); go_simp; try with_reducible rfl); intro _; try simp only [Act.put, List.setIfInBounds_toArray, List.set_cons_zero, List.set_cons_succ])
      apply ord_done
      go_wp2
      go_ret
      exact ⟨rfl, hN7⟩
    · have hd2 : decide ((300 : Int) < (ny : Int)) = true := by simp; omega
      go_enter Tryd.func5, Tryd.ntmps5
      go_wp2_with fail
      refine (awake03 w HL.out).mono ?_
      rintro e w1 ⟨rfl, hn1⟩
      go_wp2_with fail
      refine (awake03 w1 (HL.out.new hn1)).mono ?_
      rintro e w2 ⟨rfl, hn2⟩
      go_wp2
      go_ret
      exact ⟨rfl, New.trans hn1 hn2⟩
  · have hd1 : decide ((300 : Int) < (nx : Int)) = true := by simp; omega
    go_enter Tryd.func5, Tryd.ntmps5
    go_wp2_with fail
    refine (awake03 w HL.out).mono ?_
    rintro e w1 ⟨rfl, hn1⟩
    go_wp2_with fail
    refine (awake03 w1 (HL.out.new hn1)).mono ?_
    rintro e w2 ⟨rfl, hn2⟩
    go_wp2
    go_ret
    exact ⟨rfl, New.trans hn1 hn2⟩

end Go.Proofs.YtoooemlcackepaaDoor
