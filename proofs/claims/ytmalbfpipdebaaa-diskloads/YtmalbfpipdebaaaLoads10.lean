/-
  The law DiskLoads, walked.
-/
import Derived.Test.YtmalbfpipdebaaaLaw10
namespace Go.Proofs.Ytmalbfpipdebaaa
set_option linter.unusedVariables false
set_option linter.unusedSimpArgs false
open Go.RowKit











set_option maxRecDepth 100000 in
set_option maxHeartbeats 4000000 in
theorem loadsWalk (w : World) (x : Value) (l : List UInt8) (hx : Rd w x l) (n : Int) (hn : (Lit.int .i64 n).wf = true) :
    Calls Try.prog 3 #[x, .int .i64 n] w fun e w' => e = .returned (.bool true) ∧ New w w' := by
  have HX := Lib.hid hx
  obtain ⟨ax, mx, cx, rfl, hax, hxc, hxm, -, -⟩ := hx
  unfold maxLen at hxm
  clear hn
  by_cases h1 : 2000 < mx
  · have hd1 : decide ((2000 : Int) < (mx : Int)) = true := by simp; omega
    clear hax
    go_enter Try.func3, Try.ntmps3
    go_wp2_with fail
    refine (awake10 w).mono ?_
    rintro e w1 ⟨rfl, N1⟩
    go_wp2_with fail
    refine (awake10 w1).mono ?_
    rintro e w2 ⟨rfl, N2⟩
    go_wp2
    go_ret
    exact ⟨rfl, New.trans N1 N2⟩
  have hd1 : decide ((2000 : Int) < (mx : Int)) = false := by simp; omega
  by_cases h2 : 300 < n ∧ n ≤ 65536
  · have hd2 : decide ((300 : Int) < n) = true := by simp [h2.1]
    have hd3 : decide (n ≤ (65536 : Int)) = true := by simp [h2.2]
    clear hax
    go_enter Try.func3, Try.ntmps3
    go_wp2_with fail
    refine (awake10 w).mono ?_
    rintro e w1 ⟨rfl, N1⟩
    go_wp2_with fail
    refine (awake10 w1).mono ?_
    rintro e w2 ⟨rfl, N2⟩
    go_wp2
    go_ret
    exact ⟨rfl, New.trans N1 N2⟩
  have HB : Hid (∀ wx, ¬ (mx % 128 = 0 ∧ 1 ≤ mx / 128) → Calls Try.prog 6 #[.slice ax mx cx] wx fun e w' => e = .returned (.tuple #[.pointer none, .int .i64 2]) ∧ wx = w') :=
    Lib.hid (fun wx h => diskLoadBad wx ax mx cx (by omega) (fun hh => h ⟨hh.1, hh.2.1⟩))
  by_cases m1 : mx % 128 = 0
  · by_cases m2 : mx = 0
    · subst m2
      have hbad : ¬ (0 % 128 = 0 ∧ 1 ≤ 0 / 128) := by decide
      clear hax m1
      by_cases a1 : 1 ≤ n
      · have hd4 : decide ((1 : Int) ≤ n) = true := by simp [a1]
        by_cases a2 : n ≤ 300
        · have hd2 : decide ((300 : Int) < n) = false := by simp; omega
          have hd3 : decide (n ≤ (65536 : Int)) = true := by simp; omega
          obtain ⟨kn, rfl⟩ : ∃ kn : Nat, n = kn := ⟨n.toNat, by omega⟩
          have HNG := Lib.hid (fun wx => diskNew wx kn (by omega))
          go_enter Try.func3, Try.ntmps3
          go_wp2_with fail
          refine (awake10 w).mono ?_
          rintro e w1 ⟨rfl, N1⟩
          go_wp2_with fail
          refine (HB.out w1 hbad).mono ?_
          rintro e w2 ⟨rfl, rfl⟩
          go_wp2_with fail
          refine (HNG.out w1).mono ?_
          rintro e w3 ⟨gf, rfl, hdf, N3⟩
          have HDF := Lib.hid hdf
          have N3w := New.trans N1 N3
          clear hdf
          go_wp2_with fail
          refine (devSize HDF.out).mono ?_
          rintro e w4 ⟨rfl, rfl⟩
          go_wp2
          go_ret
          exact ⟨rfl, N3w⟩
        · have hd2 : decide ((300 : Int) < n) = true := by simp; omega
          have hd3 : decide (n ≤ (65536 : Int)) = false := by simp; omega
          have HNB := Lib.hid (fun wx => diskNewBad wx n (by omega))
          go_enter Try.func3, Try.ntmps3
          go_wp2_with fail
          refine (awake10 w).mono ?_
          rintro e w1 ⟨rfl, N1⟩
          go_wp2_with fail
          refine (HB.out w1 hbad).mono ?_
          rintro e w2 ⟨rfl, rfl⟩
          go_wp2_with fail
          refine (HNB.out w1).mono ?_
          rintro e w3 ⟨rfl, rfl⟩
          go_wp2
          go_ret
          exact ⟨rfl, N1⟩
      · have hd4 : decide ((1 : Int) ≤ n) = false := by simp; omega
        have hd2 : decide ((300 : Int) < n) = false := by simp; omega
        have HNB := Lib.hid (fun wx => diskNewBad wx n (by omega))
        go_enter Try.func3, Try.ntmps3
        go_wp2_with fail
        refine (awake10 w).mono ?_
        rintro e w1 ⟨rfl, N1⟩
        go_wp2_with fail
        refine (HB.out w1 hbad).mono ?_
        rintro e w2 ⟨rfl, rfl⟩
        go_wp2_with fail
        refine (HNB.out w1).mono ?_
        rintro e w3 ⟨rfl, rfl⟩
        go_wp2
        go_ret
        exact ⟨rfl, N1⟩
    · obtain ⟨k, rfl⟩ : ∃ k, mx = 128 * k := ⟨mx / 128, by omega⟩
      have hq0 : ((128 * k : Nat) : Int) % 128 = 0 := by omega
      have hq1 : (((128 * k : Nat) : Int) == 0) = false := by simp; omega
      have hq2 : ((128 * k : Nat) : Int).tdiv 128 = (k : Int) := by rw [Int.tdiv_eq_ediv_of_nonneg (by omega)]; omega
      have hq3 : IntKind.i64.wrap (k : Int) = (k : Int) := IntWalk.i64_in _ (by omega)
      have HG : Hid (∀ wx, New w wx → Calls Try.prog 6 #[.slice ax (128 * k) cx] wx (NewDisk wx k l)) :=
        Lib.hid (fun wx hn => diskLoad wx _ l k (HX.out.new hn) hax (by omega))
      clear hax m1 m2 HB
      generalize 128 * k = q at *
      by_cases a1 : 1 ≤ n
      · have hd4 : decide ((1 : Int) ≤ n) = true := by simp [a1]
        by_cases a2 : n ≤ 300
        · have hd2 : decide ((300 : Int) < n) = false := by simp; omega
          have hd3 : decide (n ≤ (65536 : Int)) = true := by simp; omega
          obtain ⟨kn, rfl⟩ : ∃ kn : Nat, n = kn := ⟨n.toNat, by omega⟩
          have HNG := Lib.hid (fun wx => diskNew wx kn (by omega))
          go_enter Try.func3, Try.ntmps3
          go_wp2_with fail
          refine (awake10 w).mono ?_
          rintro e w1 ⟨rfl, N1⟩
          go_wp2_with fail
          refine (HG.out w1 N1).mono ?_
          rintro e w2 ⟨g, rfl, hd, N2⟩
          have HD0 := Lib.hid hd
          have N12 := New.trans N1 N2
          clear hd N1 N2
          go_wp2_with fail
          refine (HNG.out w2).mono ?_
          rintro e w3 ⟨gf, rfl, hdf, N3⟩
          have HDF := Lib.hid hdf
          have HD := Lib.hid (HD0.out.new N3)
          have N3w := New.trans N12 N3
          clear hdf HD0 N12 N3
          go_wp2_with fail
          refine (devSize HDF.out).mono ?_
          rintro e w4 ⟨rfl, rfl⟩
          have HN3 := Lib.hid N3w
          have HX3 := Lib.hid ((HX.out.new N3w).new (show New w3 w3.drew from (Below.refl _ _).drew))
          have HD3 := Lib.hid (HD.out.new (show New w3 w3.drew from (Below.refl _ _).drew))
          have HN3d : Hid (New w w3.drew) := Lib.hid N3w.drew
          clear HD N3w HN3 HX
          go_wp2_with fail
          refine region_ord (Str10 (.slice ax q cx) l) [(0, true), (1, true), (2, true), (3, true), (4, true), (5, true), (6, true), (7, true), (9, true), (10, true), (11, true), (8, false), (12, true), (13, true), (14, true), (15, true), (18, true), (19, true), (16, false), (17, false), (20, true), (21, true), (22, true), (23, true), (24, false), (25, true), (26, true), (27, true)] (by kernel_rfl) (by kernel_rfl) (str10 HX3.out) (fun _ => ?_)
          generalize w3.drew = w4 at *
          unfold Str10
          iterate 11 (apply ord_take; (simp only [List.getElem?_toArray, List.getElem?_cons_succ, List.getElem?_cons_zero]; rfl); rfl; (intro w hSw; (try dsimp only at hSw); go_simp; try with_reducible rfl); intro _; try simp only [Act.put, List.setIfInBounds_toArray, List.set_cons_zero, List.set_cons_succ])
          (apply ord_only; (simp only [List.getElem?_toArray, List.getElem?_cons_succ, List.getElem?_cons_zero]; rfl); rfl; intro K hK)
          go_simp
          refine (devSize HD3.out).mono ?_
          rintro e w5 ⟨rfl, rfl⟩
          refine hK.out _ _ (str10 HX3.out) (fun _ => ?_)
          clear hK K
          try simp only [Act.put, List.setIfInBounds_toArray, List.set_cons_zero, List.set_cons_succ]
          iterate 6 (apply ord_take; (simp only [List.getElem?_toArray, List.getElem?_cons_succ, List.getElem?_cons_zero]; rfl); rfl; (intro w hSw; (try dsimp only at hSw); go_simp; try with_reducible rfl); intro _; try simp only [Act.put, List.setIfInBounds_toArray, List.set_cons_zero, List.set_cons_succ])
          (apply ord_only; (simp only [List.getElem?_toArray, List.getElem?_cons_succ, List.getElem?_cons_zero]; rfl); rfl; intro K hK)
          go_simp
          refine (devImage HD3.out).mono ?_
          rintro e w5 ⟨g5, c5, rfl, r5, k5, m5, b5, N5⟩
          have hrd := r5.rd k5 m5
          have HR5 := Lib.hid hrd
          have HX5 := Lib.hid (HX3.out.new N5)
          have HD5 := Lib.hid (HD3.out.new N5)
          have HN5 := Lib.hid (New.trans HN3d.out N5)
          clear r5 k5 m5 b5 N5 hrd HX3 HD3 HN3d
          refine hK.out _ _ (str10 HX5.out) (fun _ => ?_)
          clear hK K
          try simp only [Act.put, List.setIfInBounds_toArray, List.set_cons_zero, List.set_cons_succ]
          (apply ord_only; (simp only [List.getElem?_toArray, List.getElem?_cons_succ, List.getElem?_cons_zero]; rfl); rfl; intro K hK)
          have ks := run_str (P := Try.prog) Try.underlying22 Try.underlying5 Try.underlying9 HR5.out
          go_simp
          clear ks
          refine hK.out _ _ (str10 HX5.out) (fun _ => ?_)
          clear hK K
          try simp only [Act.put, List.setIfInBounds_toArray, List.set_cons_zero, List.set_cons_succ]
          iterate 4 (apply ord_take; (simp only [List.getElem?_toArray, List.getElem?_cons_succ, List.getElem?_cons_zero]; rfl); rfl; (intro w hSw; (try dsimp only at hSw); go_simp; try with_reducible rfl); intro _; try simp only [Act.put, List.setIfInBounds_toArray, List.set_cons_zero, List.set_cons_succ])
          (apply ord_only; (simp only [List.getElem?_toArray, List.getElem?_cons_succ, List.getElem?_cons_zero]; rfl); rfl; intro K hK)
          go_simp
          refine (devWaiting HD5.out).mono ?_
          rintro e w6 ⟨rfl, rfl⟩
          refine hK.out _ _ (str10 HX5.out) (fun _ => ?_)
          clear hK K
          try simp only [Act.put, List.setIfInBounds_toArray, List.set_cons_zero, List.set_cons_succ]
          iterate 3 (apply ord_take; (simp only [List.getElem?_toArray, List.getElem?_cons_succ, List.getElem?_cons_zero]; rfl); rfl; (intro w hSw; (try dsimp only at hSw); go_simp; try with_reducible rfl); intro _; try simp only [Act.put, List.setIfInBounds_toArray, List.set_cons_zero, List.set_cons_succ])
          apply ord_done
          go_wp2
          go_ret
          exact ⟨rfl, HN5.out⟩
        · have hd2 : decide ((300 : Int) < n) = true := by simp; omega
          have hd3 : decide (n ≤ (65536 : Int)) = false := by simp; omega
          have HNB := Lib.hid (fun wx => diskNewBad wx n (by omega))
          go_enter Try.func3, Try.ntmps3
          go_wp2_with fail
          refine (awake10 w).mono ?_
          rintro e w1 ⟨rfl, N1⟩
          go_wp2_with fail
          refine (HG.out w1 N1).mono ?_
          rintro e w2 ⟨g, rfl, hd, N2⟩
          have HD0 := Lib.hid hd
          have N12 := New.trans N1 N2
          clear hd N1 N2
          go_wp2_with fail
          refine (HNB.out w2).mono ?_
          rintro e w3 ⟨rfl, hw⟩
          obtain rfl := hw.symm
          have HD := HD0
          have N3w := N12
          clear HD0 N12
          have HN3 := Lib.hid N3w
          have HX3 := Lib.hid ((HX.out.new N3w).new (show New w3 w3.drew from (Below.refl _ _).drew))
          have HD3 := Lib.hid (HD.out.new (show New w3 w3.drew from (Below.refl _ _).drew))
          have HN3d : Hid (New w w3.drew) := Lib.hid N3w.drew
          clear HD N3w HN3 HX
          go_wp2_with fail
          refine region_ord (Str10 (.slice ax q cx) l) [(0, true), (1, true), (2, true), (3, true), (4, true), (5, true), (6, true), (7, true), (9, true), (10, true), (11, true), (8, false), (12, true), (13, true), (14, true), (15, true), (18, true), (19, true), (16, false), (17, false), (20, true), (21, true), (22, true), (23, true), (24, false), (25, true), (26, true), (27, true)] (by kernel_rfl) (by kernel_rfl) (str10 HX3.out) (fun _ => ?_)
          generalize w3.drew = w4 at *
          unfold Str10
          iterate 11 (apply ord_take; (simp only [List.getElem?_toArray, List.getElem?_cons_succ, List.getElem?_cons_zero]; rfl); rfl; (intro w hSw; (try dsimp only at hSw); go_simp; try with_reducible rfl); intro _; try simp only [Act.put, List.setIfInBounds_toArray, List.set_cons_zero, List.set_cons_succ])
          (apply ord_only; (simp only [List.getElem?_toArray, List.getElem?_cons_succ, List.getElem?_cons_zero]; rfl); rfl; intro K hK)
          go_simp
          refine (devSize HD3.out).mono ?_
          rintro e w5 ⟨rfl, rfl⟩
          refine hK.out _ _ (str10 HX3.out) (fun _ => ?_)
          clear hK K
          try simp only [Act.put, List.setIfInBounds_toArray, List.set_cons_zero, List.set_cons_succ]
          iterate 6 (apply ord_take; (simp only [List.getElem?_toArray, List.getElem?_cons_succ, List.getElem?_cons_zero]; rfl); rfl; (intro w hSw; (try dsimp only at hSw); go_simp; try with_reducible rfl); intro _; try simp only [Act.put, List.setIfInBounds_toArray, List.set_cons_zero, List.set_cons_succ])
          (apply ord_only; (simp only [List.getElem?_toArray, List.getElem?_cons_succ, List.getElem?_cons_zero]; rfl); rfl; intro K hK)
          go_simp
          refine (devImage HD3.out).mono ?_
          rintro e w5 ⟨g5, c5, rfl, r5, k5, m5, b5, N5⟩
          have hrd := r5.rd k5 m5
          have HR5 := Lib.hid hrd
          have HX5 := Lib.hid (HX3.out.new N5)
          have HD5 := Lib.hid (HD3.out.new N5)
          have HN5 := Lib.hid (New.trans HN3d.out N5)
          clear r5 k5 m5 b5 N5 hrd HX3 HD3 HN3d
          refine hK.out _ _ (str10 HX5.out) (fun _ => ?_)
          clear hK K
          try simp only [Act.put, List.setIfInBounds_toArray, List.set_cons_zero, List.set_cons_succ]
          (apply ord_only; (simp only [List.getElem?_toArray, List.getElem?_cons_succ, List.getElem?_cons_zero]; rfl); rfl; intro K hK)
          have ks := run_str (P := Try.prog) Try.underlying22 Try.underlying5 Try.underlying9 HR5.out
          go_simp
          clear ks
          refine hK.out _ _ (str10 HX5.out) (fun _ => ?_)
          clear hK K
          try simp only [Act.put, List.setIfInBounds_toArray, List.set_cons_zero, List.set_cons_succ]
          iterate 4 (apply ord_take; (simp only [List.getElem?_toArray, List.getElem?_cons_succ, List.getElem?_cons_zero]; rfl); rfl; (intro w hSw; (try dsimp only at hSw); go_simp; try with_reducible rfl); intro _; try simp only [Act.put, List.setIfInBounds_toArray, List.set_cons_zero, List.set_cons_succ])
          (apply ord_only; (simp only [List.getElem?_toArray, List.getElem?_cons_succ, List.getElem?_cons_zero]; rfl); rfl; intro K hK)
          go_simp
          refine (devWaiting HD5.out).mono ?_
          rintro e w6 ⟨rfl, rfl⟩
          refine hK.out _ _ (str10 HX5.out) (fun _ => ?_)
          clear hK K
          try simp only [Act.put, List.setIfInBounds_toArray, List.set_cons_zero, List.set_cons_succ]
          iterate 3 (apply ord_take; (simp only [List.getElem?_toArray, List.getElem?_cons_succ, List.getElem?_cons_zero]; rfl); rfl; (intro w hSw; (try dsimp only at hSw); go_simp; try with_reducible rfl); intro _; try simp only [Act.put, List.setIfInBounds_toArray, List.set_cons_zero, List.set_cons_succ])
          apply ord_done
          go_wp2
          go_ret
          exact ⟨rfl, HN5.out⟩
      · have hd4 : decide ((1 : Int) ≤ n) = false := by simp; omega
        have hd2 : decide ((300 : Int) < n) = false := by simp; omega
        have HNB := Lib.hid (fun wx => diskNewBad wx n (by omega))
        go_enter Try.func3, Try.ntmps3
        go_wp2_with fail
        refine (awake10 w).mono ?_
        rintro e w1 ⟨rfl, N1⟩
        go_wp2_with fail
        refine (HG.out w1 N1).mono ?_
        rintro e w2 ⟨g, rfl, hd, N2⟩
        have HD0 := Lib.hid hd
        have N12 := New.trans N1 N2
        clear hd N1 N2
        go_wp2_with fail
        refine (HNB.out w2).mono ?_
        rintro e w3 ⟨rfl, hw⟩
        obtain rfl := hw.symm
        have HD := HD0
        have N3w := N12
        clear HD0 N12
        have HN3 := Lib.hid N3w
        have HX3 := Lib.hid ((HX.out.new N3w).new (show New w3 w3.drew from (Below.refl _ _).drew))
        have HD3 := Lib.hid (HD.out.new (show New w3 w3.drew from (Below.refl _ _).drew))
        have HN3d : Hid (New w w3.drew) := Lib.hid N3w.drew
        clear HD N3w HN3 HX
        go_wp2_with fail
        refine region_ord (Str10 (.slice ax q cx) l) [(0, true), (1, true), (2, true), (3, true), (4, true), (5, true), (6, true), (7, true), (9, true), (10, true), (11, true), (8, false), (12, true), (13, true), (14, true), (15, true), (18, true), (19, true), (16, false), (17, false), (20, true), (21, true), (22, true), (23, true), (24, false), (25, true), (26, true), (27, true)] (by kernel_rfl) (by kernel_rfl) (str10 HX3.out) (fun _ => ?_)
        generalize w3.drew = w4 at *
        unfold Str10
        iterate 11 (apply ord_take; (simp only [List.getElem?_toArray, List.getElem?_cons_succ, List.getElem?_cons_zero]; rfl); rfl; (intro w hSw; (try dsimp only at hSw); go_simp; try with_reducible rfl); intro _; try simp only [Act.put, List.setIfInBounds_toArray, List.set_cons_zero, List.set_cons_succ])
        (apply ord_only; (simp only [List.getElem?_toArray, List.getElem?_cons_succ, List.getElem?_cons_zero]; rfl); rfl; intro K hK)
        go_simp
        refine (devSize HD3.out).mono ?_
        rintro e w5 ⟨rfl, rfl⟩
        refine hK.out _ _ (str10 HX3.out) (fun _ => ?_)
        clear hK K
        try simp only [Act.put, List.setIfInBounds_toArray, List.set_cons_zero, List.set_cons_succ]
        iterate 6 (apply ord_take; (simp only [List.getElem?_toArray, List.getElem?_cons_succ, List.getElem?_cons_zero]; rfl); rfl; (intro w hSw; (try dsimp only at hSw); go_simp; try with_reducible rfl); intro _; try simp only [Act.put, List.setIfInBounds_toArray, List.set_cons_zero, List.set_cons_succ])
        (apply ord_only; (simp only [List.getElem?_toArray, List.getElem?_cons_succ, List.getElem?_cons_zero]; rfl); rfl; intro K hK)
        go_simp
        refine (devImage HD3.out).mono ?_
        rintro e w5 ⟨g5, c5, rfl, r5, k5, m5, b5, N5⟩
        have hrd := r5.rd k5 m5
        have HR5 := Lib.hid hrd
        have HX5 := Lib.hid (HX3.out.new N5)
        have HD5 := Lib.hid (HD3.out.new N5)
        have HN5 := Lib.hid (New.trans HN3d.out N5)
        clear r5 k5 m5 b5 N5 hrd HX3 HD3 HN3d
        refine hK.out _ _ (str10 HX5.out) (fun _ => ?_)
        clear hK K
        try simp only [Act.put, List.setIfInBounds_toArray, List.set_cons_zero, List.set_cons_succ]
        (apply ord_only; (simp only [List.getElem?_toArray, List.getElem?_cons_succ, List.getElem?_cons_zero]; rfl); rfl; intro K hK)
        have ks := run_str (P := Try.prog) Try.underlying22 Try.underlying5 Try.underlying9 HR5.out
        go_simp
        clear ks
        refine hK.out _ _ (str10 HX5.out) (fun _ => ?_)
        clear hK K
        try simp only [Act.put, List.setIfInBounds_toArray, List.set_cons_zero, List.set_cons_succ]
        iterate 4 (apply ord_take; (simp only [List.getElem?_toArray, List.getElem?_cons_succ, List.getElem?_cons_zero]; rfl); rfl; (intro w hSw; (try dsimp only at hSw); go_simp; try with_reducible rfl); intro _; try simp only [Act.put, List.setIfInBounds_toArray, List.set_cons_zero, List.set_cons_succ])
        (apply ord_only; (simp only [List.getElem?_toArray, List.getElem?_cons_succ, List.getElem?_cons_zero]; rfl); rfl; intro K hK)
        go_simp
        refine (devWaiting HD5.out).mono ?_
        rintro e w6 ⟨rfl, rfl⟩
        refine hK.out _ _ (str10 HX5.out) (fun _ => ?_)
        clear hK K
        try simp only [Act.put, List.setIfInBounds_toArray, List.set_cons_zero, List.set_cons_succ]
        iterate 3 (apply ord_take; (simp only [List.getElem?_toArray, List.getElem?_cons_succ, List.getElem?_cons_zero]; rfl); rfl; (intro w hSw; (try dsimp only at hSw); go_simp; try with_reducible rfl); intro _; try simp only [Act.put, List.setIfInBounds_toArray, List.set_cons_zero, List.set_cons_succ])
        apply ord_done
        go_wp2
        go_ret
        exact ⟨rfl, HN5.out⟩
  · have hq0 : (((mx : Int) % 128) == 0) = false := by simp; omega
    have hbad : ¬ (mx % 128 = 0 ∧ 1 ≤ mx / 128) := fun h => m1 h.1
    clear hax
    by_cases a1 : 1 ≤ n
    · have hd4 : decide ((1 : Int) ≤ n) = true := by simp [a1]
      by_cases a2 : n ≤ 300
      · have hd2 : decide ((300 : Int) < n) = false := by simp; omega
        have hd3 : decide (n ≤ (65536 : Int)) = true := by simp; omega
        obtain ⟨kn, rfl⟩ : ∃ kn : Nat, n = kn := ⟨n.toNat, by omega⟩
        have HNG := Lib.hid (fun wx => diskNew wx kn (by omega))
        go_enter Try.func3, Try.ntmps3
        go_wp2_with fail
        refine (awake10 w).mono ?_
        rintro e w1 ⟨rfl, N1⟩
        go_wp2_with fail
        refine (HB.out w1 hbad).mono ?_
        rintro e w2 ⟨rfl, rfl⟩
        go_wp2_with fail
        refine (HNG.out w1).mono ?_
        rintro e w3 ⟨gf, rfl, hdf, N3⟩
        have HDF := Lib.hid hdf
        have N3w := New.trans N1 N3
        clear hdf
        go_wp2_with fail
        refine (devSize HDF.out).mono ?_
        rintro e w4 ⟨rfl, rfl⟩
        go_wp2
        go_ret
        exact ⟨rfl, N3w⟩
      · have hd2 : decide ((300 : Int) < n) = true := by simp; omega
        have hd3 : decide (n ≤ (65536 : Int)) = false := by simp; omega
        have HNB := Lib.hid (fun wx => diskNewBad wx n (by omega))
        go_enter Try.func3, Try.ntmps3
        go_wp2_with fail
        refine (awake10 w).mono ?_
        rintro e w1 ⟨rfl, N1⟩
        go_wp2_with fail
        refine (HB.out w1 hbad).mono ?_
        rintro e w2 ⟨rfl, rfl⟩
        go_wp2_with fail
        refine (HNB.out w1).mono ?_
        rintro e w3 ⟨rfl, rfl⟩
        go_wp2
        go_ret
        exact ⟨rfl, N1⟩
    · have hd4 : decide ((1 : Int) ≤ n) = false := by simp; omega
      have hd2 : decide ((300 : Int) < n) = false := by simp; omega
      have HNB := Lib.hid (fun wx => diskNewBad wx n (by omega))
      go_enter Try.func3, Try.ntmps3
      go_wp2_with fail
      refine (awake10 w).mono ?_
      rintro e w1 ⟨rfl, N1⟩
      go_wp2_with fail
      refine (HB.out w1 hbad).mono ?_
      rintro e w2 ⟨rfl, rfl⟩
      go_wp2_with fail
      refine (HNB.out w1).mono ?_
      rintro e w3 ⟨rfl, rfl⟩
      go_wp2
      go_ret
      exact ⟨rfl, N1⟩

end Go.Proofs.Ytmalbfpipdebaaa
