/-
  KdfLabels: the walk.
-/
import Derived.Test.YtofceheipabeaaaDoorExpands04
import Derived.Test.YtofceheipabeaaaDoorKdfA
namespace Go.Proofs.YtofceheipabeaaaDoor
set_option linter.unusedVariables false
set_option linter.unusedSimpArgs false
open Go.RowKit

def Strs1 (x : Value) (a : List UInt8) (w' : World) : Prop := (convert 22 9 x).run Tryd.prog w' = .ok (.string (bstr a)) w'

theorem strs1 {w : World} {x : Value} {a : List UInt8} (h : Rd w x a) : Strs1 x a w := run_str (P := Tryd.prog) Tryd.underlying22 Tryd.underlying5 Tryd.underlying9 h

set_option maxRecDepth 100000 in
set_option maxHeartbeats 4000000 in
theorem labelsWalk (w : World) (x y : Value) (s lab ctx : List UInt8) (hx : Rd w x s) (hy : Rd w y ctx) (hL : Laid w) :
    Calls Tryd.prog 4 #[x, .string (bstr lab), y] w fun e w' => e = .returned (.bool true) ∧ New w w' := by
  have hx' := hx
  have hy' := hy
  obtain ⟨ax, nx, cx, rfl, hax, hxc, hxm, -, -⟩ := hx'
  obtain ⟨ay, ny, cy, rfl, hay, hyc, hym, -, -⟩ := hy'
  have HR : Hid (Rd2 w (.slice ax nx cx) (.slice ay ny cy) s ctx) := ⟨hx, hy⟩
  have HL := Lib.hid hL
  clear hx hy hL
  unfold maxLen at hxm hym
  have z1 : (bstr lab).size = lab.length := bstr_size lab
  by_cases h1 : 100 < nx
  · have hd1 : decide ((100 : Int) < (nx : Int)) = true := by simp; omega
    clear hax hay
    go_enter Tryd.func4, Tryd.ntmps4
    go_wp2_with fail
    refine (awake04 w HL.out).mono ?_
    rintro e w1 ⟨rfl, hn1⟩
    go_wp2_with fail
    refine (awake04 w1 (HL.out.new hn1)).mono ?_
    rintro e w2 ⟨rfl, hn2⟩
    go_wp2
    go_ret
    exact ⟨rfl, New.trans hn1 hn2⟩
  have hd1 : decide ((100 : Int) < (nx : Int)) = false := by simp; omega
  by_cases h2 : 300 < lab.length
  · have hd2 : decide ((300 : Int) < (lab.length : Int)) = true := by simp; omega
    clear hax hay
    go_enter Tryd.func4, Tryd.ntmps4
    go_wp2_with fail
    refine (awake04 w HL.out).mono ?_
    rintro e w1 ⟨rfl, hn1⟩
    go_wp2_with fail
    refine (awake04 w1 (HL.out.new hn1)).mono ?_
    rintro e w2 ⟨rfl, hn2⟩
    go_wp2
    go_ret
    exact ⟨rfl, New.trans hn1 hn2⟩
  have hd2 : decide ((300 : Int) < (lab.length : Int)) = false := by simp; omega
  by_cases h3 : 300 < ny
  · have hd3 : decide ((300 : Int) < (ny : Int)) = true := by simp; omega
    clear hax hay
    go_enter Tryd.func4, Tryd.ntmps4
    go_wp2_with fail
    refine (awake04 w HL.out).mono ?_
    rintro e w1 ⟨rfl, hn1⟩
    go_wp2_with fail
    refine (awake04 w1 (HL.out.new hn1)).mono ?_
    rintro e w2 ⟨rfl, hn2⟩
    go_wp2
    go_ret
    exact ⟨rfl, New.trans hn1 hn2⟩
  have hd3 : decide ((300 : Int) < (ny : Int)) = false := by simp; omega
  have hsl : s.length ≤ 100 := by omega
  have hcl : ctx.length ≤ 300 := by omega
  clear hax hay
  obtain ⟨N, hN, hN6⟩ : ∃ N : Nat, (lab.length : Int) + (ny : Int) = (N : Int) ∧ N ≤ 600 := ⟨lab.length + ny, by omega, by omega⟩
  by_cases h4 : lab.length ≤ 251
  · have HF : Hid (decide (lab.length ≤ 251) = true) := by show _ = _; simp; omega
    go_enter Tryd.func4, Tryd.ntmps4
    go_wp2_with fail
    refine (awake04 w HL.out).mono ?_
    rintro e w1 ⟨rfl, N1⟩
    go_wp2_with fail
    refine (kdfLabel w1 _ _ s lab ctx (N : Int) (by omega) (by omega) (HR.out.r1.new N1) (by omega) (by omega) (HR.out.r2.new N1) (by omega) (HL.out.new N1)).mono ?_
    rintro e w2 ⟨N2, ⟨hno, rfl⟩ | ⟨-, a2, c2, rfl, r2⟩⟩
    · exact absurd ⟨h4, by omega, by omega, by omega⟩ hno
    simp only [Int.toNat_natCast] at r2 ⊢
    have HB := Lib.hid r2
    clear r2
    have N2w := New.trans N1 N2
    have HR2 := Lib.hid (HR.out.new N2w)
    have kc := run_str (P := Tryd.prog) Tryd.underlying22 Tryd.underlying5 Tryd.underlying9 HR2.out.r2
    go_wp2_with fail
    refine (refFits04 w2 lab ctx N (by omega) (by omega)).mono ?_
    rintro e w3 ⟨rfl, rfl⟩
    rw [HF.out]
    clear kc
    go_wp2_with fail
    have HR3 : Hid (Rd3 w2.drew (.slice a2 N c2) (.slice ax nx cx) (.slice ay ny cy) (labelled s lab ctx N) s ctx) := ⟨HB.out, HR2.out.r1, HR2.out.r2⟩
    have N3w : New w w2.drew := N2w.drew
    refine region_ord (Strs3 (.slice a2 N c2) (.slice ax nx cx) (.slice ay ny cy) (labelled s lab ctx N) s ctx) [(0, true), (1, true), (2, true), (3, true), (4, true), (5, true), (6, true), (7, true), (8, true), (9, true), (10, true), (11, true), (12, true), (13, true), (14, true), (15, true), (16, true), (17, true), (18, true), (19, true), (20, true), (21, true), (22, true), (23, false), (24, true), (25, true), (26, true)] (by kernel_rfl) (by kernel_rfl) HR3.out.strs (fun _ => ?_)
    have HX : Hid (∀ wx, Calls Tryd.prog 13 #[.string (bstr s), .string (bstr lab), .string (bstr ctx), .int .i64 N] wx fun e w' => e = .returned (.string (bstr (labelled s lab ctx N))) ∧ New wx w') := fun wx => refLabel04 wx s lab ctx N (by omega) (by omega) (by omega) (by omega)
    generalize labelled s lab ctx N = H3 at *
    clear HB HR2
    generalize w2.drew = we at *
    unfold Strs3
    iterate 7 (apply ord_take; (simp only [List.getElem?_toArray, List.getElem?_cons_succ, List.getElem?_cons_zero]; rfl); rfl; (intro w hSw; (try dsimp only at hSw); go_simp; try with_reducible rfl); intro _; try simp only [Act.put, List.setIfInBounds_toArray, List.set_cons_zero, List.set_cons_succ])
    iterate 3 (apply ord_skip; (simp only [List.getElem?_toArray, List.getElem?_cons_succ, List.getElem?_cons_zero]; rfl); rfl; intro _; try simp only [Act.put, List.setIfInBounds_toArray, List.set_cons_zero, List.set_cons_succ])
    iterate 13 (apply ord_take; (simp only [List.getElem?_toArray, List.getElem?_cons_succ, List.getElem?_cons_zero]; rfl); rfl; (intro w hSw; (try dsimp only at hSw); go_simp; try with_reducible rfl); intro _; try simp only [Act.put, List.setIfInBounds_toArray, List.set_cons_zero, List.set_cons_succ])
    (apply ord_only; (simp only [List.getElem?_toArray, List.getElem?_cons_succ, List.getElem?_cons_zero]; rfl); rfl; intro K hK)
    go_simp
    refine (HX.out we).mono ?_
    rintro e w4 ⟨rfl, N4⟩
    have HR4' := Lib.hid (HR3.out.new N4)
    have N4w := New.trans N3w N4
    have HR4 : Hid (Rd2 w4 (.slice ax nx cx) (.slice ay ny cy) s ctx) := ⟨HR4'.out.r2, HR4'.out.r3⟩
    refine hK.out _ _ (HR4'.out.strs) (fun _ => ?_)
    clear hK K
    try simp only [Act.put, List.setIfInBounds_toArray, List.set_cons_zero, List.set_cons_succ]
    iterate 3 (apply ord_take; (simp only [List.getElem?_toArray, List.getElem?_cons_succ, List.getElem?_cons_zero]; rfl); rfl; (intro w hSw; (try dsimp only at hSw); go_simp; try with_reducible rfl); intro _; try simp only [Act.put, List.setIfInBounds_toArray, List.set_cons_zero, List.set_cons_succ])
    apply ord_done
    clear HR4' HR3 HX
    go_wp2_with fail
    have HR5 := Lib.hid (HR4.out.r1.new (show New w4 w4.drew from (Below.refl _ _).drew))
    have N5w : New w w4.drew := N4w.drew
    refine region_ordT (Strs1 (.slice ax nx cx) s) (.take 0 (.take 1 (.take 4 (.take 5 (.take 6 (.only 2 (.two 3 7 (.only 7 (.take 8 (.take 9 .nil))) (.only 3 (.take 8 (.take 9 .nil)))))))))) (by kernel_rfl) (by kernel_rfl) (strs1 HR5.out) (fun _ => ?_)
    generalize w4.drew = wd at *
    unfold Strs1
    iterate 5 (apply ordT_take; (simp only [List.getElem?_toArray, List.getElem?_cons_succ, List.getElem?_cons_zero]; rfl); rfl; (intro w hSw; (try dsimp only at hSw); go_simp; try with_reducible rfl); intro _; try simp only [Act.put, List.setIfInBounds_toArray, List.set_cons_zero, List.set_cons_succ])
    (apply ordT_only; (simp only [List.getElem?_toArray, List.getElem?_cons_succ, List.getElem?_cons_zero]; rfl); rfl; intro K hK)
    go_simp
    refine (kdfDerive wd _ s lab HR5.out (by omega) (by omega) (HL.out.new N5w)).mono ?_
    rintro e w6 ⟨a6, c6, rfl, r6, N6⟩
    have HR6 := Lib.hid (HR5.out.new N6)
    have HK6 := Lib.hid r6
    have N6w := New.trans N5w N6
    clear r6
    refine hK.out _ _ (strs1 HR6.out) (fun _ => ?_)
    clear hK K
    try simp only [Act.put, List.setIfInBounds_toArray, List.set_cons_zero, List.set_cons_succ]
    have HT : Hid (∀ wx, Calls Tryd.prog 15 #[.string (bstr s), .string (bstr lab)] wx fun e w' => e = .returned (.string (bstr (labelled s (lab.take 251) [] 32))) ∧ New wx w') := fun wx => refDerive04 wx s lab (by omega) (by omega)
    generalize labelled s (lab.take 251) [] 32 = H at *
    (apply ordT_two; (simp only [List.getElem?_toArray, List.getElem?_cons_succ, List.getElem?_cons_zero]; rfl); rfl; (simp only [List.getElem?_toArray, List.getElem?_cons_succ, List.getElem?_cons_zero]; rfl); rfl)
    · intro K hK
      have ks := run_str (P := Tryd.prog) Tryd.underlying22 Tryd.underlying5 Tryd.underlying9 HK6.out
      go_simp
      refine hK.out _ _ (strs1 HR6.out) (fun _ => ?_)
      clear hK K
      try simp only [Act.put, List.setIfInBounds_toArray, List.set_cons_zero, List.set_cons_succ]
      clear ks
      (apply ordT_only; (simp only [List.getElem?_toArray, List.getElem?_cons_succ, List.getElem?_cons_zero]; rfl); rfl; intro K hK)
      go_simp
      refine (HT.out w6).mono ?_
      rintro e w7 ⟨rfl, N7⟩
      have HR7 := Lib.hid (HR6.out.new N7)
      refine hK.out _ _ (strs1 HR7.out) (fun _ => ?_)
      clear hK K
      try simp only [Act.put, List.setIfInBounds_toArray, List.set_cons_zero, List.set_cons_succ]
      iterate 2 (apply ordT_take; (simp only [List.getElem?_toArray, List.getElem?_cons_succ, List.getElem?_cons_zero]; rfl); rfl; (intro w hSw; (try dsimp only at hSw); go_simp; try with_reducible rfl); intro _; try simp only [Act.put, List.setIfInBounds_toArray, List.set_cons_zero, List.set_cons_succ])
      apply ordT_done
      go_wp2
      go_ret
      exact ⟨rfl, New.trans N6w N7⟩
    · intro K hK
      go_simp
      refine (HT.out w6).mono ?_
      rintro e w7 ⟨rfl, N7⟩
      have HR7 := Lib.hid (HR6.out.new N7)
      have r7 := HK6.out.new N7
      refine hK.out _ _ (strs1 HR7.out) (fun _ => ?_)
      clear hK K
      try simp only [Act.put, List.setIfInBounds_toArray, List.set_cons_zero, List.set_cons_succ]
      (apply ordT_only; (simp only [List.getElem?_toArray, List.getElem?_cons_succ, List.getElem?_cons_zero]; rfl); rfl; intro K hK)
      have ks := run_str (P := Tryd.prog) Tryd.underlying22 Tryd.underlying5 Tryd.underlying9 r7
      clear r7
      go_simp
      refine hK.out _ _ (strs1 HR7.out) (fun _ => ?_)
      clear hK K
      try simp only [Act.put, List.setIfInBounds_toArray, List.set_cons_zero, List.set_cons_succ]
      clear ks
      iterate 2 (apply ordT_take; (simp only [List.getElem?_toArray, List.getElem?_cons_succ, List.getElem?_cons_zero]; rfl); rfl; (intro w hSw; (try dsimp only at hSw); go_simp; try with_reducible rfl); intro _; try simp only [Act.put, List.setIfInBounds_toArray, List.set_cons_zero, List.set_cons_succ])
      apply ordT_done
      go_wp2
      go_ret
      exact ⟨rfl, New.trans N6w N7⟩
  · have HF : Hid (decide (lab.length ≤ 251) = false) := by show _ = _; simp; omega
    go_enter Tryd.func4, Tryd.ntmps4
    go_wp2_with fail
    refine (awake04 w HL.out).mono ?_
    rintro e w1 ⟨rfl, N1⟩
    go_wp2_with fail
    refine (kdfLabel w1 _ _ s lab ctx (N : Int) (by omega) (by omega) (HR.out.r1.new N1) (by omega) (by omega) (HR.out.r2.new N1) (by omega) (HL.out.new N1)).mono ?_
    rintro e w2 ⟨N2, ⟨hno, rfl⟩ | ⟨hh, a2, c2, rfl, r2⟩⟩
    ·
      have N2w := New.trans N1 N2
      have HR2 := Lib.hid (HR.out.new N2w)
      have kc := run_str (P := Tryd.prog) Tryd.underlying22 Tryd.underlying5 Tryd.underlying9 HR2.out.r2
      go_wp2_with fail
      refine (refFits04 w2 lab ctx N (by omega) (by omega)).mono ?_
      rintro e w3 ⟨rfl, rfl⟩
      rw [HF.out]
      clear kc
      go_wp2_with fail
      have HR4 : Hid (Rd2 w2.drew (.slice ax nx cx) (.slice ay ny cy) s ctx) := HR2.out.new (Below.refl _ _).drew
      have N4w : New w w2.drew := N2w.drew
      refine region_ord (fun _ => True) [(0, true), (1, true), (2, true), (3, true), (4, true), (5, true), (6, true), (7, true), (8, true), (9, true), (10, true), (11, true), (12, true), (13, true), (14, true), (15, true), (16, true), (17, true), (18, true), (19, true), (20, true), (21, true), (22, true), (23, false), (24, true), (25, true), (26, true)] (by kernel_rfl) (by kernel_rfl) trivial (fun _ => ?_)
      generalize w2.drew = w4 at *
      iterate 15 (apply ord_take; (simp only [List.getElem?_toArray, List.getElem?_cons_succ, List.getElem?_cons_zero]; rfl); rfl; (intro w hSw; (try dsimp only at hSw); go_simp; try with_reducible rfl); intro _; try simp only [Act.put, List.setIfInBounds_toArray, List.set_cons_zero, List.set_cons_succ])
      iterate 8 (apply ord_skip; (simp only [List.getElem?_toArray, List.getElem?_cons_succ, List.getElem?_cons_zero]; rfl); rfl; intro _; try simp only [Act.put, List.setIfInBounds_toArray, List.set_cons_zero, List.set_cons_succ])
      (apply ord_pass; (simp only [List.getElem?_toArray, List.getElem?_cons_succ, List.getElem?_cons_zero]; rfl); rfl; intro _; try simp only [Act.put, List.setIfInBounds_toArray, List.set_cons_zero, List.set_cons_succ])
      (apply ord_skip; (simp only [List.getElem?_toArray, List.getElem?_cons_succ, List.getElem?_cons_zero]; rfl); rfl; intro _; try simp only [Act.put, List.setIfInBounds_toArray, List.set_cons_zero, List.set_cons_succ])
      iterate 2 (apply ord_take; (simp only [List.getElem?_toArray, List.getElem?_cons_succ, List.getElem?_cons_zero]; rfl); rfl; (intro w hSw; (try dsimp only at hSw); go_simp; try with_reducible rfl); intro _; try simp only [Act.put, List.setIfInBounds_toArray, List.set_cons_zero, List.set_cons_succ])
      apply ord_done
      go_wp2_with fail
      have HR5 := Lib.hid (HR4.out.r1.new (show New w4 w4.drew from (Below.refl _ _).drew))
      have N5w : New w w4.drew := N4w.drew
      refine region_ordT (Strs1 (.slice ax nx cx) s) (.take 0 (.take 1 (.take 4 (.take 5 (.take 6 (.only 2 (.two 3 7 (.only 7 (.take 8 (.take 9 .nil))) (.only 3 (.take 8 (.take 9 .nil)))))))))) (by kernel_rfl) (by kernel_rfl) (strs1 HR5.out) (fun _ => ?_)
      generalize w4.drew = wd at *
      unfold Strs1
      iterate 5 (apply ordT_take; (simp only [List.getElem?_toArray, List.getElem?_cons_succ, List.getElem?_cons_zero]; rfl); rfl; (intro w hSw; (try dsimp only at hSw); go_simp; try with_reducible rfl); intro _; try simp only [Act.put, List.setIfInBounds_toArray, List.set_cons_zero, List.set_cons_succ])
      (apply ordT_only; (simp only [List.getElem?_toArray, List.getElem?_cons_succ, List.getElem?_cons_zero]; rfl); rfl; intro K hK)
      go_simp
      refine (kdfDerive wd _ s lab HR5.out (by omega) (by omega) (HL.out.new N5w)).mono ?_
      rintro e w6 ⟨a6, c6, rfl, r6, N6⟩
      have HR6 := Lib.hid (HR5.out.new N6)
      have HK6 := Lib.hid r6
      have N6w := New.trans N5w N6
      clear r6
      refine hK.out _ _ (strs1 HR6.out) (fun _ => ?_)
      clear hK K
      try simp only [Act.put, List.setIfInBounds_toArray, List.set_cons_zero, List.set_cons_succ]
      have HT : Hid (∀ wx, Calls Tryd.prog 15 #[.string (bstr s), .string (bstr lab)] wx fun e w' => e = .returned (.string (bstr (labelled s (lab.take 251) [] 32))) ∧ New wx w') := fun wx => refDerive04 wx s lab (by omega) (by omega)
      generalize labelled s (lab.take 251) [] 32 = H at *
      (apply ordT_two; (simp only [List.getElem?_toArray, List.getElem?_cons_succ, List.getElem?_cons_zero]; rfl); rfl; (simp only [List.getElem?_toArray, List.getElem?_cons_succ, List.getElem?_cons_zero]; rfl); rfl)
      · intro K hK
        have ks := run_str (P := Tryd.prog) Tryd.underlying22 Tryd.underlying5 Tryd.underlying9 HK6.out
        go_simp
        refine hK.out _ _ (strs1 HR6.out) (fun _ => ?_)
        clear hK K
        try simp only [Act.put, List.setIfInBounds_toArray, List.set_cons_zero, List.set_cons_succ]
        clear ks
        (apply ordT_only; (simp only [List.getElem?_toArray, List.getElem?_cons_succ, List.getElem?_cons_zero]; rfl); rfl; intro K hK)
        go_simp
        refine (HT.out w6).mono ?_
        rintro e w7 ⟨rfl, N7⟩
        have HR7 := Lib.hid (HR6.out.new N7)
        refine hK.out _ _ (strs1 HR7.out) (fun _ => ?_)
        clear hK K
        try simp only [Act.put, List.setIfInBounds_toArray, List.set_cons_zero, List.set_cons_succ]
        iterate 2 (apply ordT_take; (simp only [List.getElem?_toArray, List.getElem?_cons_succ, List.getElem?_cons_zero]; rfl); rfl; (intro w hSw; (try dsimp only at hSw); go_simp; try with_reducible rfl); intro _; try simp only [Act.put, List.setIfInBounds_toArray, List.set_cons_zero, List.set_cons_succ])
        apply ordT_done
        go_wp2
        go_ret
        exact ⟨rfl, New.trans N6w N7⟩
      · intro K hK
        go_simp
        refine (HT.out w6).mono ?_
        rintro e w7 ⟨rfl, N7⟩
        have HR7 := Lib.hid (HR6.out.new N7)
        have r7 := HK6.out.new N7
        refine hK.out _ _ (strs1 HR7.out) (fun _ => ?_)
        clear hK K
        try simp only [Act.put, List.setIfInBounds_toArray, List.set_cons_zero, List.set_cons_succ]
        (apply ordT_only; (simp only [List.getElem?_toArray, List.getElem?_cons_succ, List.getElem?_cons_zero]; rfl); rfl; intro K hK)
        have ks := run_str (P := Tryd.prog) Tryd.underlying22 Tryd.underlying5 Tryd.underlying9 r7
        clear r7
        go_simp
        refine hK.out _ _ (strs1 HR7.out) (fun _ => ?_)
        clear hK K
        try simp only [Act.put, List.setIfInBounds_toArray, List.set_cons_zero, List.set_cons_succ]
        clear ks
        iterate 2 (apply ordT_take; (simp only [List.getElem?_toArray, List.getElem?_cons_succ, List.getElem?_cons_zero]; rfl); rfl; (intro w hSw; (try dsimp only at hSw); go_simp; try with_reducible rfl); intro _; try simp only [Act.put, List.setIfInBounds_toArray, List.set_cons_zero, List.set_cons_succ])
        apply ordT_done
        go_wp2
        go_ret
        exact ⟨rfl, New.trans N6w N7⟩
    · exact absurd hh.1 h4

end Go.Proofs.YtofceheipabeaaaDoor
