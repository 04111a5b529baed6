/-
  MacTags: the walk.
-/
import Derived.Test.YtoooemlcackepaaDoorLaw03
import Derived.Test.YtoooemlcackepaaDoorOrd2
namespace Go.Proofs.YtoooemlcackepaaDoor
set_option linter.unusedVariables false
set_option linter.unusedSimpArgs false
open Go.RowKit

/-- three slices read as strings -/
def Strs3 (x y z : Value) (k a b : List UInt8) (w' : World) : Prop :=
  (convert 22 9 x).run Tryd.prog w' = .ok (.string (bstr k)) w' ∧ (convert 22 9 y).run Tryd.prog w' = .ok (.string (bstr a)) w' ∧ (convert 22 9 z).run Tryd.prog w' = .ok (.string (bstr b)) w'

theorem strs3 {w : World} {x y z : Value} {k a b : List UInt8} (h1 : Rd w x k) (h2 : Rd w y a) (h3 : Rd w z b) : Strs3 x y z k a b w :=
  ⟨run_str (P := Tryd.prog) Tryd.underlying22 Tryd.underlying5 Tryd.underlying9 h1, run_str (P := Tryd.prog) Tryd.underlying22 Tryd.underlying5 Tryd.underlying9 h2, run_str (P := Tryd.prog) Tryd.underlying22 Tryd.underlying5 Tryd.underlying9 h3⟩

structure Rd3 (w : World) (x y z : Value) (k a b : List UInt8) : Prop where
  r1 : Rd w x k
  r2 : Rd w y a
  r3 : Rd w z b

theorem Rd3.new {w w' : World} {x y z : Value} {k a b : List UInt8} (h : Rd3 w x y z k a b) (hn : New w w') : Rd3 w' x y z k a b := ⟨h.r1.new hn, h.r2.new hn, h.r3.new hn⟩
theorem Rd3.strs {w : World} {x y z : Value} {k a b : List UInt8} (h : Rd3 w x y z k a b) : Strs3 x y z k a b w := strs3 h.r1 h.r2 h.r3

set_option maxRecDepth 100000 in
set_option maxHeartbeats 2000000 in
theorem tagsWalk (w : World) (x y z : Value) (k a b : List UInt8) (hx : Rd w x k) (hkb : k.length < 140737488355328) (hy : Rd w y a) (hab : a.length < 140737488355328) (hz : Rd w z b) (hbb : b.length < 140737488355328) (hL : Laid w) :
    Calls Tryd.prog 3 #[x, y, z] w fun e w' => e = .returned (.bool true) ∧ New w w' := by
  have hx' := hx
  have hy' := hy
  have hz' := hz
  obtain ⟨ax, nx, cx, rfl, hax, hxc, hxm, _, _⟩ := hx'
  obtain ⟨ay, ny, cy, rfl, hay, hyc, hym, _, _⟩ := hy'
  obtain ⟨az, nz, cz, rfl, haz, hzc, hzm, _, _⟩ := hz'
  have HR : Hid (Rd3 w (.slice ax nx cx) (.slice ay ny cy) (.slice az nz cz) k a b) := ⟨hx, hy, hz⟩
  have HK := Lib.hid hax
  have HA := Lib.hid hay
  have HB := Lib.hid haz
  have HL := Lib.hid hL
  clear hax hx hy hL hay hz haz
  unfold maxLen at hxm hym hzm
  rw [HK.out] at hkb
  rw [HA.out] at hab
  rw [HB.out] at hbb
  by_cases h1 : nx ≤ 200
  · have hd1 : decide ((200 : Int) < (nx : Int)) = false := by simp; omega
    by_cases h2 : ny + nz ≤ 600
    · have hd2 : decide ((600 : Int) < (ny : Int) + (nz : Int)) = false := by simp; omega
      go_enter Tryd.func3, Tryd.ntmps3
      go_wp2_with fail
      refine (awake03 w HL.out).mono ?_
      rintro e w1 ⟨rfl, hn1⟩
      go_wp2_with fail
      have HR1 := Lib.hid (HR.out.new hn1.drew)
      have hN : New w w1.drew := hn1.drew
      have s1 : (bstr a).size ≤ 600 := by rw [bstr_size, HA.out]; omega
      have s2 : (bstr b).size ≤ 600 := by rw [bstr_size, HB.out]; omega
      have j1 := bstr_join a b
      have s3 : ¬ (9223372036854775807 < (bstr a).size + (bstr b).size) := by omega
      refine region_ord (Strs3 (.slice ax nx cx) (.slice ay ny cy) (.slice az nz cz) k a b) [(0, true), (1, true), (2, true), (3, true), (4, true), (5, true), (6, true), (7, true), (8, true)] (by kernel_rfl) (by kernel_rfl) HR1.out.strs (fun _ => ?_)
      generalize w1.drew = wd at *
      unfold Strs3
      iterate 9 (apply ord_take; (simp only [List.getElem?_toArray, List.getElem?_cons_succ, List.getElem?_cons_zero]; rfl); rfl; (intro w hSw; (try dsimp only at hSw); go_simp; try with_reducible rfl); intro _; try simp only [Act.put, List.setIfInBounds_toArray, List.set_cons_zero, List.set_cons_succ])
      apply ord_done
      go_wp2_with fail
      have HR2 := Lib.hid (HR.out.new hN.drew)
      have hN2 : New w wd.drew := hN.drew
      refine region_ordT (Strs3 (.slice ax nx cx) (.slice ay ny cy) (.slice az nz cz) k a b) (.take 0 (.take 1 (.take 2 (.take 6 (.take 7 (.only 3 (.only 4 (.two 5 8 (.only 8 (.take 9 (.take 10 (.take 11 (.take 12 (.take 13 (.take 14 (.take 15 (.take 16 (.take 17 (.take 18 (.take 19 (.take 20 (.take 21 (.take 22 (.take 23 (.take 24 (.take 25 .nil)))))))))))))))))) (.only 5 (.take 9 (.take 10 (.take 11 (.take 12 (.take 13 (.take 14 (.take 15 (.take 16 (.take 17 (.take 18 (.take 19 (.take 20 (.take 21 (.take 22 (.take 23 (.take 24 (.take 25 .nil)))))))))))))))))))))))))) (by kernel_rfl) (by kernel_rfl) HR2.out.strs (fun _ => ?_)
      generalize wd.drew = we at *
      clear hN HR1 hn1
      unfold Strs3
      iterate 5 (apply ordT_take; (simp only [List.getElem?_toArray, List.getElem?_cons_succ, List.getElem?_cons_zero]; rfl); rfl; (intro w hSw; (try dsimp only at hSw); go_simp; try with_reducible rfl); intro _; try simp only [Act.put, List.setIfInBounds_toArray, List.set_cons_zero, List.set_cons_succ])
      (apply ordT_only; (simp only [List.getElem?_toArray, List.getElem?_cons_succ, List.getElem?_cons_zero]; rfl); rfl; intro K hK)
      go_simp
      have Na : New we (we.alloc (.cells #[.slice ay ny cy, .slice az nz cz] 22)) := (Below.refl _ _).alloc (Nat.le_refl _) _
      refine hK.out _ _ ((HR2.out.new Na).strs) (fun _ => ?_)
      clear hK K
      try simp only [Act.put, List.setIfInBounds_toArray, List.set_cons_zero, List.set_cons_succ]
      (apply ordT_only; (simp only [List.getElem?_toArray, List.getElem?_cons_succ, List.getElem?_cons_zero]; rfl); rfl; intro K hK)
      go_simp
      refine (tag2 we _ _ _ _ k a b rfl HR2.out.r1 (by rw [HK.out]; omega) HR2.out.r2 HR2.out.r3 (by rw [HA.out, HB.out]; omega) (HL.out.new hN2)).mono ?_
      rintro e w3 ⟨a3, n3, c3, rfl, r3, rfl, N3⟩
      have HR3 := Lib.hid (HR2.out.new N3)
      have hN3 := New.trans hN2 N3
      clear Na HR2 hN2
      refine hK.out _ _ (HR3.out.strs) (fun _ => ?_)
      clear hK K
      try simp only [Act.put, List.setIfInBounds_toArray, List.set_cons_zero, List.set_cons_succ]
      have HT : Hid (∀ wx, Calls Tryd.prog 8 #[.string (bstr k), .string (bstr (a ++ b))] wx fun e w' => e = .returned (.string (bstr (hmac k (a ++ b)))) ∧ New wx w') := fun wx => refTag wx k (a ++ b) (by rw [HK.out]; omega) (by rw [List.length_append, HA.out, HB.out]; omega)
      generalize hmac k (a ++ b) = H at *
      (apply ordT_two; (simp only [List.getElem?_toArray, List.getElem?_cons_succ, List.getElem?_cons_zero]; rfl); rfl; (simp only [List.getElem?_toArray, List.getElem?_cons_succ, List.getElem?_cons_zero]; rfl); rfl)
      · intro K hK
        have ks := run_str (P := Tryd.prog) Tryd.underlying22 Tryd.underlying5 Tryd.underlying9 r3
        go_simp
        refine hK.out _ _ (HR3.out.strs) (fun _ => ?_)
        clear hK K
        try simp only [Act.put, List.setIfInBounds_toArray, List.set_cons_zero, List.set_cons_succ]
        clear ks
        (apply ordT_only; (simp only [List.getElem?_toArray, List.getElem?_cons_succ, List.getElem?_cons_zero]; rfl); rfl; intro K hK)
        go_simp
        refine (HT.out w3).mono ?_
        rintro e w4 ⟨rfl, N4⟩
        have HR4 := Lib.hid (HR3.out.new N4)
        refine hK.out _ _ (HR4.out.strs) (fun _ => ?_)
        clear hK K
        try simp only [Act.put, List.setIfInBounds_toArray, List.set_cons_zero, List.set_cons_succ]
        iterate 17 (apply ordT_take; (simp only [List.getElem?_toArray, List.getElem?_cons_succ, List.getElem?_cons_zero]; rfl); rfl; (intro w hSw; (try dsimp only at hSw); go_simp; try with_reducible rfl); intro _; try simp only [Act.put, List.setIfInBounds_toArray, List.set_cons_zero, List.set_cons_succ])
        apply ordT_done
        go_wp2
        go_ret
        exact ⟨rfl, New.trans hN3 N4⟩
      · intro K hK
        go_simp
        refine (HT.out w3).mono ?_
        rintro e w4 ⟨rfl, N4⟩
        have HR4 := Lib.hid (HR3.out.new N4)
        have r4 := r3.new N4
        refine hK.out _ _ (HR4.out.strs) (fun _ => ?_)
        clear hK K
        try simp only [Act.put, List.setIfInBounds_toArray, List.set_cons_zero, List.set_cons_succ]
        (apply ordT_only; (simp only [List.getElem?_toArray, List.getElem?_cons_succ, List.getElem?_cons_zero]; rfl); rfl; intro K hK)
        have ks := run_str (P := Tryd.prog) Tryd.underlying22 Tryd.underlying5 Tryd.underlying9 r4
        go_simp
        refine hK.out _ _ (HR4.out.strs) (fun _ => ?_)
        clear hK K
        try simp only [Act.put, List.setIfInBounds_toArray, List.set_cons_zero, List.set_cons_succ]
        clear ks
        iterate 17 (apply ordT_take; (simp only [List.getElem?_toArray, List.getElem?_cons_succ, List.getElem?_cons_zero]; rfl); rfl; (intro w hSw; (try dsimp only at hSw); go_simp; try with_reducible rfl); intro _; try simp only [Act.put, List.setIfInBounds_toArray, List.set_cons_zero, List.set_cons_succ])
        apply ordT_done
        go_wp2
        go_ret
        exact ⟨rfl, New.trans hN3 N4⟩
    · have hd2 : decide ((600 : Int) < (ny : Int) + (nz : Int)) = true := by simp; omega
      go_enter Tryd.func3, Tryd.ntmps3
      go_wp2_with fail
      refine (awake03 w HL.out).mono ?_
      rintro e w1 ⟨rfl, hn1⟩
      go_wp2_with fail
      refine (awake03 w1 (HL.out.new hn1)).mono ?_
      rintro e w2 ⟨rfl, hn2⟩
      go_wp2
      go_ret
      exact ⟨rfl, New.trans hn1 hn2⟩
  · have hd1 : decide ((200 : Int) < (nx : Int)) = true := by simp; omega
    go_enter Tryd.func3, Tryd.ntmps3
    go_wp2_with fail
    refine (awake03 w HL.out).mono ?_
    rintro e w1 ⟨rfl, hn1⟩
    go_wp2_with fail
    refine (awake03 w1 (HL.out.new hn1)).mono ?_
    rintro e w2 ⟨rfl, hn2⟩
    go_wp2
    go_ret
    exact ⟨rfl, New.trans hn1 hn2⟩

end Go.Proofs.YtoooemlcackepaaDoor
