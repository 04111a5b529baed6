/-
  KdfExpands: the walk.
-/
import Derived.Test.YtofceheipabeaaaDoorLaw04
import Derived.Test.YtofceheipabeaaaDoorRefKdf
import Derived.Test.YtofceheipabeaaaDoorBase
namespace Go.Proofs.YtofceheipabeaaaDoor
set_option linter.unusedVariables false
set_option linter.unusedSimpArgs false
open Go.RowKit

/-- two slices read as strings -/
def Strs2 (x y : Value) (a b : List UInt8) (w' : World) : Prop :=
  (convert 22 9 x).run Tryd.prog w' = .ok (.string (bstr a)) w' ∧ (convert 22 9 y).run Tryd.prog w' = .ok (.string (bstr b)) w'

structure Rd2 (w : World) (x y : Value) (a b : List UInt8) : Prop where
  r1 : Rd w x a
  r2 : Rd w y b

theorem Rd2.new {w w' : World} {x y : Value} {a b : List UInt8} (h : Rd2 w x y a b) (hn : New w w') : Rd2 w' x y a b := ⟨h.r1.new hn, h.r2.new hn⟩
theorem Rd2.strs {w : World} {x y : Value} {a b : List UInt8} (h : Rd2 w x y a b) : Strs2 x y a b w := ⟨run_str (P := Tryd.prog) Tryd.underlying22 Tryd.underlying5 Tryd.underlying9 h.r1, run_str (P := Tryd.prog) Tryd.underlying22 Tryd.underlying5 Tryd.underlying9 h.r2⟩

/-- three slices read as strings -/
def Strs3 (x y z : Value) (k a b : List UInt8) (w' : World) : Prop :=
  (convert 22 9 x).run Tryd.prog w' = .ok (.string (bstr k)) w' ∧ (convert 22 9 y).run Tryd.prog w' = .ok (.string (bstr a)) w' ∧ (convert 22 9 z).run Tryd.prog w' = .ok (.string (bstr b)) w'

structure Rd3 (w : World) (x y z : Value) (k a b : List UInt8) : Prop where
  r1 : Rd w x k
  r2 : Rd w y a
  r3 : Rd w z b

theorem Rd3.new {w w' : World} {x y z : Value} {k a b : List UInt8} (h : Rd3 w x y z k a b) (hn : New w w') : Rd3 w' x y z k a b := ⟨h.r1.new hn, h.r2.new hn, h.r3.new hn⟩
theorem Rd3.strs {w : World} {x y z : Value} {k a b : List UInt8} (h : Rd3 w x y z k a b) : Strs3 x y z k a b w := ⟨run_str (P := Tryd.prog) Tryd.underlying22 Tryd.underlying5 Tryd.underlying9 h.r1, run_str (P := Tryd.prog) Tryd.underlying22 Tryd.underlying5 Tryd.underlying9 h.r2, run_str (P := Tryd.prog) Tryd.underlying22 Tryd.underlying5 Tryd.underlying9 h.r3⟩

set_option maxRecDepth 100000 in
set_option maxHeartbeats 4000000 in
theorem expandsWalk (w : World) (x y : Value) (s i : List UInt8) (n : Int) (hx : Rd w x s) (hy : Rd w y i) (hL : Laid w) :
    Calls Tryd.prog 3 #[x, y, .int .i64 n] w fun e w' => e = .returned (.bool true) ∧ New w w' := by
  have hx' := hx
  have hy' := hy
  obtain ⟨ax, nx, cx, rfl, hax, hxc, hxm, -, -⟩ := hx'
  obtain ⟨ay, ny, cy, rfl, hay, hyc, hym, -, -⟩ := hy'
  have HR : Hid (Rd2 w (.slice ax nx cx) (.slice ay ny cy) s i) := ⟨hx, hy⟩
  have HL := Lib.hid hL
  clear hx hy hL
  unfold maxLen at hxm hym
  by_cases h1 : 100 < nx
  · have hd1 : decide ((100 : Int) < (nx : Int)) = true := by simp; omega
    clear hax hay
    go_enter Tryd.func3, Tryd.ntmps3
    go_wp2_with fail
    refine (awake04 w HL.out).mono ?_
    rintro e w1 ⟨rfl, hn1⟩
    go_wp2_with fail
    refine (awake04 w1 (HL.out.new hn1)).mono ?_
    rintro e w2 ⟨rfl, hn2⟩
    go_wp2
    go_ret
    exact ⟨rfl, New.trans hn1 hn2⟩
  have hd1 : decide ((100 : Int) < (nx : Int)) = false := by simp; omega
  by_cases h2 : 200 < ny
  · have hd2 : decide ((200 : Int) < (ny : Int)) = true := by simp; omega
    clear hax hay
    go_enter Tryd.func3, Tryd.ntmps3
    go_wp2_with fail
    refine (awake04 w HL.out).mono ?_
    rintro e w1 ⟨rfl, hn1⟩
    go_wp2_with fail
    refine (awake04 w1 (HL.out.new hn1)).mono ?_
    rintro e w2 ⟨rfl, hn2⟩
    go_wp2
    go_ret
    exact ⟨rfl, New.trans hn1 hn2⟩
  have hd2 : decide ((200 : Int) < (ny : Int)) = false := by simp; omega
  have hsl : s.length ≤ 100 := by omega
  have hil : i.length ≤ 200 := by omega
  clear hax hay
  by_cases h3 : 700 < n ∧ n ≤ 8160
  · have hd3 : decide ((700 : Int) < n) = true := by simp; omega
    have hd4 : decide (n ≤ (8160 : Int)) = true := by simp; omega
    go_enter Tryd.func3, Tryd.ntmps3
    go_wp2_with fail
    refine (awake04 w HL.out).mono ?_
    rintro e w1 ⟨rfl, hn1⟩
    go_wp2_with fail
    refine (awake04 w1 (HL.out.new hn1)).mono ?_
    rintro e w2 ⟨rfl, hn2⟩
    go_wp2
    go_ret
    exact ⟨rfl, New.trans hn1 hn2⟩
  by_cases h4 : n < 0
  · have hd3 : decide ((700 : Int) < n) = false := by simp; omega
    have hd5 : decide (n < (0 : Int)) = true := by simp; omega
    go_enter Tryd.func3, Tryd.ntmps3
    go_wp2_with fail
    refine (awake04 w HL.out).mono ?_
    rintro e w1 ⟨rfl, N1⟩
    go_wp2_with fail
    refine (kdfExpand w1 _ _ s i n (HR.out.r1.new N1) (by omega) (HR.out.r2.new N1) (by omega) (HL.out.new N1)).mono ?_
    rintro e w2 ⟨N2, ⟨hno, rfl⟩ | ⟨h0, h1, a2, c2, rfl, r2⟩⟩
    ·
      go_wp2_with fail
      have N2w : New w w2.drew := (New.trans N1 N2).drew
      have N2d : New w2 w2.drew := (Below.refl _ _).drew
      have HR2 := Lib.hid (HR.out.new N2w)
      refine region_ordT (Strs2 (.slice ax nx cx) (.slice ay ny cy) s i) (.take 0 (.take 1 (.take 4 (.take 5 (.take 6 (.take 7 (.only 2 (.two 3 8 (.only 8 (.take 9 .nil)) (.only 3 (.take 9 .nil)))))))))) (by kernel_rfl) (by kernel_rfl) HR2.out.strs (fun _ => ?_)
      generalize w2.drew = wd at *
      unfold Strs2
      iterate 6 (apply ordT_take; (simp only [List.getElem?_toArray, List.getElem?_cons_succ, List.getElem?_cons_zero]; rfl); rfl; (intro w hSw; (try dsimp only at hSw); go_simp; try with_reducible rfl); intro _; try simp only [Act.put, List.setIfInBounds_toArray, List.set_cons_zero, List.set_cons_succ])
      (apply ordT_only; (simp only [List.getElem?_toArray, List.getElem?_cons_succ, List.getElem?_cons_zero]; rfl); rfl; intro K hK)
      go_simp
      refine (kdfExtract wd _ _ s i HR2.out.r1 (by omega) HR2.out.r2 (by omega) (HL.out.new N2w)).mono ?_
      rintro e w3 ⟨a3, n3, c3, rfl, r3, rfl, N3⟩
      have HR3 := Lib.hid (HR2.out.new N3)
      have HK3 := Lib.hid r3
      have N3w := New.trans N2w N3
      clear r3
      refine hK.out _ _ (HR3.out.strs) (fun _ => ?_)
      clear hK K
      try simp only [Act.put, List.setIfInBounds_toArray, List.set_cons_zero, List.set_cons_succ]
      have HT : Hid (∀ wx, Calls Tryd.prog 9 #[.string (bstr s), .string (bstr i)] wx fun e w' => e = .returned (.string (bstr (hmac s i))) ∧ New wx w') := fun wx => refTag wx s i (by omega) (by omega)
      generalize hmac s i = H at *
      (apply ordT_two; (simp only [List.getElem?_toArray, List.getElem?_cons_succ, List.getElem?_cons_zero]; rfl); rfl; (simp only [List.getElem?_toArray, List.getElem?_cons_succ, List.getElem?_cons_zero]; rfl); rfl)
      ·
        intro K hK
        have ks := run_str (P := Tryd.prog) Tryd.underlying22 Tryd.underlying5 Tryd.underlying9 HK3.out
        go_simp
        refine hK.out _ _ (HR3.out.strs) (fun _ => ?_)
        clear hK K
        try simp only [Act.put, List.setIfInBounds_toArray, List.set_cons_zero, List.set_cons_succ]
        clear ks
        (apply ordT_only; (simp only [List.getElem?_toArray, List.getElem?_cons_succ, List.getElem?_cons_zero]; rfl); rfl; intro K hK)
        go_simp
        refine (HT.out w3).mono ?_
        rintro e w4 ⟨rfl, N4⟩
        have HR4 := Lib.hid (HR3.out.new N4)
        have N34 := New.trans N3 N4
        have N4w := New.trans N3w N4
        refine hK.out _ _ (HR4.out.strs) (fun _ => ?_)
        clear hK K
        try simp only [Act.put, List.setIfInBounds_toArray, List.set_cons_zero, List.set_cons_succ]
        iterate 1 (apply ordT_take; (simp only [List.getElem?_toArray, List.getElem?_cons_succ, List.getElem?_cons_zero]; rfl); rfl; (intro w hSw; (try dsimp only at hSw); go_simp; try with_reducible rfl); intro _; try simp only [Act.put, List.setIfInBounds_toArray, List.set_cons_zero, List.set_cons_succ])
        apply ordT_done
        go_wp2
        go_ret
        exact ⟨rfl, N4w⟩
      ·
        intro K hK
        go_simp
        refine (HT.out w3).mono ?_
        rintro e w4 ⟨rfl, N4⟩
        have HR4 := Lib.hid (HR3.out.new N4)
        have r4 := HK3.out.new N4
        have N34 := New.trans N3 N4
        have N4w := New.trans N3w N4
        refine hK.out _ _ (HR4.out.strs) (fun _ => ?_)
        clear hK K
        try simp only [Act.put, List.setIfInBounds_toArray, List.set_cons_zero, List.set_cons_succ]
        (apply ordT_only; (simp only [List.getElem?_toArray, List.getElem?_cons_succ, List.getElem?_cons_zero]; rfl); rfl; intro K hK)
        have ks := run_str (P := Tryd.prog) Tryd.underlying22 Tryd.underlying5 Tryd.underlying9 r4
        clear r4
        go_simp
        refine hK.out _ _ (HR4.out.strs) (fun _ => ?_)
        clear hK K
        try simp only [Act.put, List.setIfInBounds_toArray, List.set_cons_zero, List.set_cons_succ]
        clear ks
        iterate 1 (apply ordT_take; (simp only [List.getElem?_toArray, List.getElem?_cons_succ, List.getElem?_cons_zero]; rfl); rfl; (intro w hSw; (try dsimp only at hSw); go_simp; try with_reducible rfl); intro _; try simp only [Act.put, List.setIfInBounds_toArray, List.set_cons_zero, List.set_cons_succ])
        apply ordT_done
        go_wp2
        go_ret
        exact ⟨rfl, N4w⟩
    · omega
  by_cases h5 : 8160 < n
  · have hd3 : decide ((700 : Int) < n) = true := by simp; omega
    have hd4 : decide (n ≤ (8160 : Int)) = false := by simp; omega
    have hd5 : decide (n < (0 : Int)) = false := by simp; omega
    have hd6 : decide ((8160 : Int) < n) = true := by simp; omega
    go_enter Tryd.func3, Tryd.ntmps3
    go_wp2_with fail
    refine (awake04 w HL.out).mono ?_
    rintro e w1 ⟨rfl, N1⟩
    go_wp2_with fail
    refine (kdfExpand w1 _ _ s i n (HR.out.r1.new N1) (by omega) (HR.out.r2.new N1) (by omega) (HL.out.new N1)).mono ?_
    rintro e w2 ⟨N2, ⟨hno, rfl⟩ | ⟨h0, h1, a2, c2, rfl, r2⟩⟩
    ·
      go_wp2_with fail
      have N2w : New w w2.drew := (New.trans N1 N2).drew
      have N2d : New w2 w2.drew := (Below.refl _ _).drew
      have HR2 := Lib.hid (HR.out.new N2w)
      refine region_ordT (Strs2 (.slice ax nx cx) (.slice ay ny cy) s i) (.take 0 (.take 1 (.take 4 (.take 5 (.take 6 (.take 7 (.only 2 (.two 3 8 (.only 8 (.take 9 .nil)) (.only 3 (.take 9 .nil)))))))))) (by kernel_rfl) (by kernel_rfl) HR2.out.strs (fun _ => ?_)
      generalize w2.drew = wd at *
      unfold Strs2
      iterate 6 (apply ordT_take; (simp only [List.getElem?_toArray, List.getElem?_cons_succ, List.getElem?_cons_zero]; rfl); rfl; (intro w hSw; (try dsimp only at hSw); go_simp; try with_reducible rfl); intro _; try simp only [Act.put, List.setIfInBounds_toArray, List.set_cons_zero, List.set_cons_succ])
      (apply ordT_only; (simp only [List.getElem?_toArray, List.getElem?_cons_succ, List.getElem?_cons_zero]; rfl); rfl; intro K hK)
      go_simp
      refine (kdfExtract wd _ _ s i HR2.out.r1 (by omega) HR2.out.r2 (by omega) (HL.out.new N2w)).mono ?_
      rintro e w3 ⟨a3, n3, c3, rfl, r3, rfl, N3⟩
      have HR3 := Lib.hid (HR2.out.new N3)
      have HK3 := Lib.hid r3
      have N3w := New.trans N2w N3
      clear r3
      refine hK.out _ _ (HR3.out.strs) (fun _ => ?_)
      clear hK K
      try simp only [Act.put, List.setIfInBounds_toArray, List.set_cons_zero, List.set_cons_succ]
      have HT : Hid (∀ wx, Calls Tryd.prog 9 #[.string (bstr s), .string (bstr i)] wx fun e w' => e = .returned (.string (bstr (hmac s i))) ∧ New wx w') := fun wx => refTag wx s i (by omega) (by omega)
      generalize hmac s i = H at *
      (apply ordT_two; (simp only [List.getElem?_toArray, List.getElem?_cons_succ, List.getElem?_cons_zero]; rfl); rfl; (simp only [List.getElem?_toArray, List.getElem?_cons_succ, List.getElem?_cons_zero]; rfl); rfl)
      ·
        intro K hK
        have ks := run_str (P := Tryd.prog) Tryd.underlying22 Tryd.underlying5 Tryd.underlying9 HK3.out
        go_simp
        refine hK.out _ _ (HR3.out.strs) (fun _ => ?_)
        clear hK K
        try simp only [Act.put, List.setIfInBounds_toArray, List.set_cons_zero, List.set_cons_succ]
        clear ks
        (apply ordT_only; (simp only [List.getElem?_toArray, List.getElem?_cons_succ, List.getElem?_cons_zero]; rfl); rfl; intro K hK)
        go_simp
        refine (HT.out w3).mono ?_
        rintro e w4 ⟨rfl, N4⟩
        have HR4 := Lib.hid (HR3.out.new N4)
        have N34 := New.trans N3 N4
        have N4w := New.trans N3w N4
        refine hK.out _ _ (HR4.out.strs) (fun _ => ?_)
        clear hK K
        try simp only [Act.put, List.setIfInBounds_toArray, List.set_cons_zero, List.set_cons_succ]
        iterate 1 (apply ordT_take; (simp only [List.getElem?_toArray, List.getElem?_cons_succ, List.getElem?_cons_zero]; rfl); rfl; (intro w hSw; (try dsimp only at hSw); go_simp; try with_reducible rfl); intro _; try simp only [Act.put, List.setIfInBounds_toArray, List.set_cons_zero, List.set_cons_succ])
        apply ordT_done
        go_wp2
        go_ret
        exact ⟨rfl, N4w⟩
      ·
        intro K hK
        go_simp
        refine (HT.out w3).mono ?_
        rintro e w4 ⟨rfl, N4⟩
        have HR4 := Lib.hid (HR3.out.new N4)
        have r4 := HK3.out.new N4
        have N34 := New.trans N3 N4
        have N4w := New.trans N3w N4
        refine hK.out _ _ (HR4.out.strs) (fun _ => ?_)
        clear hK K
        try simp only [Act.put, List.setIfInBounds_toArray, List.set_cons_zero, List.set_cons_succ]
        (apply ordT_only; (simp only [List.getElem?_toArray, List.getElem?_cons_succ, List.getElem?_cons_zero]; rfl); rfl; intro K hK)
        have ks := run_str (P := Tryd.prog) Tryd.underlying22 Tryd.underlying5 Tryd.underlying9 r4
        clear r4
        go_simp
        refine hK.out _ _ (HR4.out.strs) (fun _ => ?_)
        clear hK K
        try simp only [Act.put, List.setIfInBounds_toArray, List.set_cons_zero, List.set_cons_succ]
        clear ks
        iterate 1 (apply ordT_take; (simp only [List.getElem?_toArray, List.getElem?_cons_succ, List.getElem?_cons_zero]; rfl); rfl; (intro w hSw; (try dsimp only at hSw); go_simp; try with_reducible rfl); intro _; try simp only [Act.put, List.setIfInBounds_toArray, List.set_cons_zero, List.set_cons_succ])
        apply ordT_done
        go_wp2
        go_ret
        exact ⟨rfl, N4w⟩
    · omega
  obtain ⟨m, rfl⟩ : ∃ m : Nat, n = m := ⟨n.toNat, by omega⟩
  have hd3 : decide ((700 : Int) < (m : Int)) = false := by simp; omega
  have hd5 : decide ((m : Int) < (0 : Int)) = false := by simp
  have hd6 : decide ((8160 : Int) < (m : Int)) = false := by simp; omega
  generalize hnm : (m : Int) = n
  rw [hnm] at hd3 hd5 hd6
  go_enter Tryd.func3, Tryd.ntmps3
  go_wp2_with fail
  refine (awake04 w HL.out).mono ?_
  rintro e w1 ⟨rfl, N1⟩
  go_wp2_with fail
  refine (kdfExpand w1 _ _ s i n (HR.out.r1.new N1) (by omega) (HR.out.r2.new N1) (by omega) (HL.out.new N1)).mono ?_
  subst hnm
  rintro e w2 ⟨N2, ⟨hno, rfl⟩ | ⟨h0, h1, a2, c2, rfl, r2⟩⟩
  · omega
  · simp only [Int.toNat_natCast] at r2 ⊢
    have HB := Lib.hid r2
    clear r2
    go_wp2_with fail
    have N2w : New w w2.drew := (New.trans N1 N2).drew
    have N2d : New w2 w2.drew := (Below.refl _ _).drew
    have HR2 := Lib.hid (HR.out.new N2w)
    refine region_ordT (Strs2 (.slice ax nx cx) (.slice ay ny cy) s i) (.take 0 (.take 1 (.take 4 (.take 5 (.take 6 (.take 7 (.only 2 (.two 3 8 (.only 8 (.take 9 .nil)) (.only 3 (.take 9 .nil)))))))))) (by kernel_rfl) (by kernel_rfl) HR2.out.strs (fun _ => ?_)
    generalize w2.drew = wd at *
    unfold Strs2
    iterate 6 (apply ordT_take; (simp only [List.getElem?_toArray, List.getElem?_cons_succ, List.getElem?_cons_zero]; rfl); rfl; (intro w hSw; (try dsimp only at hSw); go_simp; try with_reducible rfl); intro _; try simp only [Act.put, List.setIfInBounds_toArray, List.set_cons_zero, List.set_cons_succ])
    (apply ordT_only; (simp only [List.getElem?_toArray, List.getElem?_cons_succ, List.getElem?_cons_zero]; rfl); rfl; intro K hK)
    go_simp
    refine (kdfExtract wd _ _ s i HR2.out.r1 (by omega) HR2.out.r2 (by omega) (HL.out.new N2w)).mono ?_
    rintro e w3 ⟨a3, n3, c3, rfl, r3, rfl, N3⟩
    have HR3 := Lib.hid (HR2.out.new N3)
    have HK3 := Lib.hid r3
    have N3w := New.trans N2w N3
    clear r3
    refine hK.out _ _ (HR3.out.strs) (fun _ => ?_)
    clear hK K
    try simp only [Act.put, List.setIfInBounds_toArray, List.set_cons_zero, List.set_cons_succ]
    have HT : Hid (∀ wx, Calls Tryd.prog 9 #[.string (bstr s), .string (bstr i)] wx fun e w' => e = .returned (.string (bstr (hmac s i))) ∧ New wx w') := fun wx => refTag wx s i (by omega) (by omega)
    generalize hmac s i = H at *
    (apply ordT_two; (simp only [List.getElem?_toArray, List.getElem?_cons_succ, List.getElem?_cons_zero]; rfl); rfl; (simp only [List.getElem?_toArray, List.getElem?_cons_succ, List.getElem?_cons_zero]; rfl); rfl)
    ·
      intro K hK
      have ks := run_str (P := Tryd.prog) Tryd.underlying22 Tryd.underlying5 Tryd.underlying9 HK3.out
      go_simp
      refine hK.out _ _ (HR3.out.strs) (fun _ => ?_)
      clear hK K
      try simp only [Act.put, List.setIfInBounds_toArray, List.set_cons_zero, List.set_cons_succ]
      clear ks
      (apply ordT_only; (simp only [List.getElem?_toArray, List.getElem?_cons_succ, List.getElem?_cons_zero]; rfl); rfl; intro K hK)
      go_simp
      refine (HT.out w3).mono ?_
      rintro e w4 ⟨rfl, N4⟩
      have HR4 := Lib.hid (HR3.out.new N4)
      have N34 := New.trans N3 N4
      have N4w := New.trans N3w N4
      refine hK.out _ _ (HR4.out.strs) (fun _ => ?_)
      clear hK K
      try simp only [Act.put, List.setIfInBounds_toArray, List.set_cons_zero, List.set_cons_succ]
      iterate 1 (apply ordT_take; (simp only [List.getElem?_toArray, List.getElem?_cons_succ, List.getElem?_cons_zero]; rfl); rfl; (intro w hSw; (try dsimp only at hSw); go_simp; try with_reducible rfl); intro _; try simp only [Act.put, List.setIfInBounds_toArray, List.set_cons_zero, List.set_cons_succ])
      apply ordT_done
      go_wp2_with fail
      have HR5 : Hid (Rd3 w4.drew (.slice a2 m c2) (.slice ax nx cx) (.slice ay ny cy) (hkdf s i m) s i) := ⟨(HB.out.new N2d).new N34.drew, HR4.out.r1, HR4.out.r2⟩
      have N5w : New w w4.drew := N4w.drew
      refine region_ord (Strs3 (.slice a2 m c2) (.slice ax nx cx) (.slice ay ny cy) (hkdf s i m) s i) [(0, true), (1, true), (2, true), (3, true), (4, true), (5, true), (6, true), (7, true), (8, true), (9, false), (10, true), (11, true), (12, true)] (by kernel_rfl) (by kernel_rfl) HR5.out.strs (fun _ => ?_)
      have HX : Hid (∀ wx, Calls Tryd.prog 10 #[.string (bstr s), .string (bstr i), .int .i64 m] wx fun e w' => e = .returned (.string (bstr (hkdf s i m))) ∧ New wx w') := fun wx => refExpand wx s i m (by omega) (by omega) (by omega)
      generalize hkdf s i m = H5 at *
      generalize w4.drew = we at *
      unfold Strs3
      iterate 9 (apply ord_take; (simp only [List.getElem?_toArray, List.getElem?_cons_succ, List.getElem?_cons_zero]; rfl); rfl; (intro w hSw; (try dsimp only at hSw); go_simp; try with_reducible rfl); intro _; try simp only [Act.put, List.setIfInBounds_toArray, List.set_cons_zero, List.set_cons_succ])
      (apply ord_only; (simp only [List.getElem?_toArray, List.getElem?_cons_succ, List.getElem?_cons_zero]; rfl); rfl; intro K hK)
      go_simp
      refine (HX.out we).mono ?_
      rintro e w6 ⟨rfl, N6⟩
      have HR6 := Lib.hid (HR5.out.new N6)
      refine hK.out _ _ (HR6.out.strs) (fun _ => ?_)
      clear hK K
      try simp only [Act.put, List.setIfInBounds_toArray, List.set_cons_zero, List.set_cons_succ]
      iterate 3 (apply ord_take; (simp only [List.getElem?_toArray, List.getElem?_cons_succ, List.getElem?_cons_zero]; rfl); rfl; (intro w hSw; (try dsimp only at hSw); go_simp; try with_reducible rfl); intro _; try simp only [Act.put, List.setIfInBounds_toArray, List.set_cons_zero, List.set_cons_succ])
      apply ord_done
      go_wp2
      go_ret
      exact ⟨rfl, New.trans N5w N6⟩
    ·
      intro K hK
      go_simp
      refine (HT.out w3).mono ?_
      rintro e w4 ⟨rfl, N4⟩
      have HR4 := Lib.hid (HR3.out.new N4)
      have r4 := HK3.out.new N4
      have N34 := New.trans N3 N4
      have N4w := New.trans N3w N4
      refine hK.out _ _ (HR4.out.strs) (fun _ => ?_)
      clear hK K
      try simp only [Act.put, List.setIfInBounds_toArray, List.set_cons_zero, List.set_cons_succ]
      (apply ordT_only; (simp only [List.getElem?_toArray, List.getElem?_cons_succ, List.getElem?_cons_zero]; rfl); rfl; intro K hK)
      have ks := run_str (P := Tryd.prog) Tryd.underlying22 Tryd.underlying5 Tryd.underlying9 r4
      clear r4
      go_simp
      refine hK.out _ _ (HR4.out.strs) (fun _ => ?_)
      clear hK K
      try simp only [Act.put, List.setIfInBounds_toArray, List.set_cons_zero, List.set_cons_succ]
      clear ks
      iterate 1 (apply ordT_take; (simp only [List.getElem?_toArray, List.getElem?_cons_succ, List.getElem?_cons_zero]; rfl); rfl; (intro w hSw; (try dsimp only at hSw); go_simp; try with_reducible rfl); intro _; try simp only [Act.put, List.setIfInBounds_toArray, List.set_cons_zero, List.set_cons_succ])
      apply ordT_done
      go_wp2_with fail
      have HR5 : Hid (Rd3 w4.drew (.slice a2 m c2) (.slice ax nx cx) (.slice ay ny cy) (hkdf s i m) s i) := ⟨(HB.out.new N2d).new N34.drew, HR4.out.r1, HR4.out.r2⟩
      have N5w : New w w4.drew := N4w.drew
      refine region_ord (Strs3 (.slice a2 m c2) (.slice ax nx cx) (.slice ay ny cy) (hkdf s i m) s i) [(0, true), (1, true), (2, true), (3, true), (4, true), (5, true), (6, true), (7, true), (8, true), (9, false), (10, true), (11, true), (12, true)] (by kernel_rfl) (by kernel_rfl) HR5.out.strs (fun _ => ?_)
      have HX : Hid (∀ wx, Calls Tryd.prog 10 #[.string (bstr s), .string (bstr i), .int .i64 m] wx fun e w' => e = .returned (.string (bstr (hkdf s i m))) ∧ New wx w') := fun wx => refExpand wx s i m (by omega) (by omega) (by omega)
      generalize hkdf s i m = H5 at *
      generalize w4.drew = we at *
      unfold Strs3
      iterate 9 (apply ord_take; (simp only [List.getElem?_toArray, List.getElem?_cons_succ, List.getElem?_cons_zero]; rfl); rfl; (intro w hSw; (try dsimp only at hSw); go_simp; try with_reducible rfl); intro _; try simp only [Act.put, List.setIfInBounds_toArray, List.set_cons_zero, List.set_cons_succ])
      (apply ord_only; (simp only [List.getElem?_toArray, List.getElem?_cons_succ, List.getElem?_cons_zero]; rfl); rfl; intro K hK)
      go_simp
      refine (HX.out we).mono ?_
      rintro e w6 ⟨rfl, N6⟩
      have HR6 := Lib.hid (HR5.out.new N6)
      refine hK.out _ _ (HR6.out.strs) (fun _ => ?_)
      clear hK K
      try simp only [Act.put, List.setIfInBounds_toArray, List.set_cons_zero, List.set_cons_succ]
      iterate 3 (apply ord_take; (simp only [List.getElem?_toArray, List.getElem?_cons_succ, List.getElem?_cons_zero]; rfl); rfl; (intro w hSw; (try dsimp only at hSw); go_simp; try with_reducible rfl); intro _; try simp only [Act.put, List.setIfInBounds_toArray, List.set_cons_zero, List.set_cons_succ])
      apply ord_done
      go_wp2
      go_ret
      exact ⟨rfl, New.trans N5w N6⟩

end Go.Proofs.YtofceheipabeaaaDoor
