/-
  SegmentParses: the walk.
-/
import Derived.Test.YtjkhklbeimgggaaDoorParts13
import Derived.Test.YtjkhklbeimgggaaDoorSegParse
import Derived.Test.YtjkhklbeimgggaaDoorRefParse
import Derived.Test.YtjkhklbeimgggaaDoorRefTxt
namespace Go.Proofs.YtjkhklbeimgggaaDoor
set_option linter.unusedVariables false
set_option linter.unusedSimpArgs false
open Go.RowKit

/-- what the great region reads -/
def S8i (gp gm : Nat) (A1 A2 : Value) (sl : Bool) (u : Int) (A3 : Value) (ch : List UInt8) (B : Value) (b : List UInt8) (w : World) : Prop :=
  (w.cell? ⟨gp, 0, none⟩ = some A1 ∧ w.cell? ⟨gp, 1, none⟩ = some A2 ∧ w.cell? ⟨gp, 2, none⟩ = some (.bool sl) ∧ w.cell? ⟨gp, 3, none⟩ = some (.int .i64 u)) ∧
  (w.cell? ⟨gm, 0, none⟩ = some A3 ∧ w.cell? ⟨gm, 1, none⟩ = some (.string (bstr ch)) ∧ w.cell? ⟨gm, 2, none⟩ = some (.bool sl) ∧ w.cell? ⟨gm, 3, none⟩ = some (.int .i64 u)) ∧
  (convert 22 9 A2).run Tryd.prog w = .ok (.string (bstr ch)) w ∧ (convert 22 9 B).run Tryd.prog w = .ok (.string (bstr b)) w

/-- both results in their blocks -/
structure Two13 (gp gm : Nat) (a1 : Option Addr) (n1 c1 : Nat) (A2 : Value) (ps : List (Value × List UInt8)) (sl : Bool) (u : Int) (a3 : Option Addr) (n3 c3 : Nat) (ts : List (List UInt8)) (ch : List UInt8) (B : Value) (b : List UInt8) (w : World) : Prop where
  p : At4 w gp 36 (.slice a1 n1 c1) A2 (.bool sl) (.int .i64 u)
  m : At4 w gm 41 (.slice a3 n3 c3) (strV ch) (.bool sl) (.int .i64 u)
  rp : RdL w (.slice a1 n1 c1) ps
  rc : Rd w A2 ch
  rm : RdV w (.slice a3 n3 c3) (ts.map strV)
  rb : Rd w B b

theorem Two13.new {gp gm : Nat} {a1 : Option Addr} {n1 c1 : Nat} {A2 : Value} {ps : List (Value × List UInt8)} {sl : Bool} {u : Int} {a3 : Option Addr} {n3 c3 : Nat} {ts : List (List UInt8)} {ch : List UInt8} {B : Value} {b : List UInt8} {w w' : World} (h : Two13 gp gm a1 n1 c1 A2 ps sl u a3 n3 c3 ts ch B b w) (hn : New w w') : Two13 gp gm a1 n1 c1 A2 ps sl u a3 n3 c3 ts ch B b w' :=
  ⟨h.p.new hn, h.m.new hn, h.rp.new hn, h.rc.new hn, h.rm.new hn, h.rb.new hn⟩

theorem Two13.s {gp gm : Nat} {a1 : Option Addr} {n1 c1 : Nat} {A2 : Value} {ps : List (Value × List UInt8)} {sl : Bool} {u : Int} {a3 : Option Addr} {n3 c3 : Nat} {ts : List (List UInt8)} {ch : List UInt8} {B : Value} {b : List UInt8} {w : World} (h : Two13 gp gm a1 n1 c1 A2 ps sl u a3 n3 c3 ts ch B b w) : S8i gp gm (.slice a1 n1 c1) A2 sl u (.slice a3 n3 c3) ch B b w :=
  ⟨h.p.cells, h.m.cells, run_str (P := Tryd.prog) Tryd.underlying22 Tryd.underlying5 Tryd.underlying9 h.rc, run_str (P := Tryd.prog) Tryd.underlying22 Tryd.underlying5 Tryd.underlying9 h.rb⟩

theorem sParse_few (b : List UInt8) (number count : Int) (ch : List UInt8) : (sParse b number count ch).ts.length ≤ b.length := by
  unfold sParse
  split
  · rename_i h
    have := sAll_le b b.length ⟨[], ch, 128⟩ (by omega) (show 128 ≤ b.length by omega) (by simp)
    show (sAll b ⟨[], ch, 128⟩).ts.length ≤ b.length
    omega
  · exact Nat.zero_le _


set_option maxRecDepth 100000 in
set_option maxHeartbeats 2000000 in
theorem parsesWalk (w : World) (x y : Value) (b ch : List UInt8) (hx : Rd w x b) (hy : Rd w y ch) (number count : Int) (hn : -9223372036854775808 ≤ number ∧ number ≤ 9223372036854775807) (hc : -9223372036854775808 ≤ count ∧ count ≤ 9223372036854775807) (hL : Laid w) :
    Calls Tryd.prog 4 #[x, y, .agg #[.int .i64 number, .int .i64 count]] w fun e w' => e = .returned (.bool true) ∧ New w w' := by
  have HX := Lib.hid hx
  have HY := Lib.hid hy
  have HL := Lib.hid hL
  obtain ⟨ax, nx, cx, rfl, hl, -⟩ := hx
  obtain ⟨ay, ny, cy, rfl, kl, -⟩ := hy
  have HXL := Lib.hid hl
  have HYL := Lib.hid kl
  clear hl kl hL
  go_enter Tryd.func4, Tryd.ntmps4
  go_wp2_with fail
  generalize hw1 : World.alloc w _ = w1
  obtain ⟨g, Hg⟩ : ∃ g, Hid (w.heap.size = g) := ⟨_, Lib.hid rfl⟩
  rw [Hg.out]
  have HC1 : Hid (At2 w1 g 23 (.int .i64 number) (.int .i64 count)) := Lib.hid (by rw [← hw1, ← Hg.out]; exact heap_alloc_new _ _)
  have N1 : New w w1 := by rw [← hw1]; exact (Below.refl _ _).alloc (Nat.le_refl _) _
  clear hw1
  refine (awake13 w1 (HL.out.new N1)).mono ?_
  rintro _ w2 ⟨rfl, M2⟩
  have N2 := Lib.hid (New.trans N1 M2)
  have HC2 := Lib.hid (HC1.out.new M2)
  clear M2 N1 HC1
  by_cases h1 : 3000 < nx
  · have h1' : (3000 : Int) < (nx : Int) := by omega
    go_wp2_with fail
    refine (awake13 w2 (HL.out.new N2.out)).mono ?_
    rintro _ w3 ⟨rfl, n3⟩
    go_wp2
    go_ret
    exact ⟨rfl, New.trans N2.out n3⟩
  have h1' : ¬ (3000 : Int) < (nx : Int) := by omega
  by_cases h2 : 50 < ny
  · have h2' : (50 : Int) < (ny : Int) := by omega
    go_wp2_with fail
    refine (awake13 w2 (HL.out.new N2.out)).mono ?_
    rintro _ w3 ⟨rfl, n3⟩
    go_wp2
    go_ret
    exact ⟨rfl, New.trans N2.out n3⟩
  have h2' : ¬ (50 : Int) < (ny : Int) := by omega
  have ks := run_str (P := Tryd.prog) Tryd.underlying22 Tryd.underlying5 Tryd.underlying9 (HX.out.new N2.out)
  have HPar := Lib.hid (segParse w2 _ _ b ch number count (HX.out.new N2.out) (HY.out.new N2.out) (by rw [HXL.out]; omega) (by rw [HYL.out]; omega) hn.1 hn.2 hc.1 hc.2 (HL.out.new N2.out))
  obtain ⟨c0, c1⟩ := HC2.out.cells
  go_wp2_with fail
  refine HPar.out.mono ?_
  rintro _ w3 ⟨N3, a1, n1, c1', a2, n2, c2', ps, rfl, r3, hps, r3'⟩
  clear ks c0 c1 HPar
  obtain ⟨P, HPd⟩ : ∃ P, Hid (sParse b number count ch = P) := ⟨_, Lib.hid rfl⟩
  rw [HPd.out] at hps r3' ⊢
  go_upto_region 5 with fail
  generalize hw4 : World.alloc w3 _ = w4
  obtain ⟨gp, Hgp⟩ : ∃ gp, Hid (w3.heap.size = gp) := ⟨_, Lib.hid rfl⟩
  rw [Hgp.out]
  have HP4 : Hid (At4 w4 gp 36 (.slice a1 n1 c1') (.slice a2 n2 c2') (.bool P.sealed) (.int .i64 (P.used : Int))) := Lib.hid (by rw [← hw4, ← Hgp.out]; exact heap_alloc_new _ _)
  have M4 : New w3 w4 := by rw [← hw4]; exact (Below.refl _ _).alloc (Nat.le_refl _) _
  have N24 := New.trans N3 M4
  have HC4 := Lib.hid (HC2.out.new N24)
  have N4 := Lib.hid (New.trans N2.out N24)
  replace r3 := r3.new M4
  replace r3' := r3'.new M4
  clear hw4 N3 M4 N24 HC2 N2
  by_cases hp1 : ny = 32
  · subst hp1
    by_cases hp2 : 0 ≤ count
    · have hp2' : ¬ count < 0 := by omega
      by_cases hp3 : 0 ≤ number
      · have hp3' : ¬ number < 0 := by omega
        by_cases hp4 : number ≤ 4294967295
        · have hp4' : ¬ 4294967295 < number := by omega
          obtain ⟨n, rfl⟩ := Int.eq_ofNat_of_zero_le hp3
          obtain ⟨c, rfl⟩ := Int.eq_ofNat_of_zero_le hp2
          have ks := run_str (P := Tryd.prog) Tryd.underlying22 Tryd.underlying5 Tryd.underlying9 (HY.out.new N4.out)
          have HRf := Lib.hid (refParse13 w4 b ch n c (by rw [HXL.out]; omega) HYL.out (by omega) (by omega))
          rw [HPd.out] at HRf
          obtain ⟨c0, c1⟩ := HC4.out.cells
          go_wp2_with fail
          refine HRf.out.mono ?_
          rintro _ w5 ⟨N5, a3, n3, c3, rfl, r5⟩
          clear ks c0 c1 HRf
          go_wp2
          generalize hw6 : World.alloc w5 _ = w6
          obtain ⟨gm, Hgm⟩ : ∃ gm, Hid (w5.heap.size = gm) := ⟨_, Lib.hid rfl⟩
          rw [Hgm.out]
          have HM6 : At4 w6 gm 41 (.slice a3 n3 c3) (strV P.ch) (.bool P.sealed) (.int .i64 (P.used : Int)) := by rw [← hw6, ← Hgm.out]; exact heap_alloc_new _ _
          have M6 : New w5 w6 := by rw [← hw6]; exact (Below.refl _ _).alloc (Nat.le_refl _) _
          have M7 : New w6 w6.drew := (Below.refl _ _).drew
          have N57 := New.trans M6 M7
          have N47 := New.trans N5 N57
          have HTw : Hid (Two13 gp gm a1 n1 c1' (.slice a2 n2 c2') ps P.sealed P.used a3 n3 c3 P.ts P.ch (.slice ax nx cx) b w6.drew) := Lib.hid ⟨HP4.out.new N47, HM6.new M7, r3.new N47, r3'.new N47, r5.new N57, HX.out.new (New.trans N4.out N47)⟩
          have N7 := Lib.hid (New.trans N4.out N47)
          clear hw6 HM6 M6 M7 N57 N47 r3 r3' r5 N5 HC4 N4 HP4
          have hpl : ps.length ≤ 1099511627776 := by
            have h7 := sParse_few b (n : Int) (c : Int) ch
            rw [HPd.out, ← hps, List.length_map, HXL.out] at h7
            omega
          have hq1 : ((bstr P.ch).toList == (bstr P.ch).toList) = true := by simp
          have hq2 : ((bstr b).toList == (bstr b).toList) = true := by simp
          refine region_ord (S8i gp gm (.slice a1 n1 c1') (.slice a2 n2 c2') P.sealed P.used (.slice a3 n3 c3) P.ch (.slice ax nx cx) b) [(0, true), (1, true), (2, true), (3, true), (4, true), (5, true), (7, true), (8, true), (6, false), (9, false), (10, true), (11, true), (12, true), (13, true), (14, true), (15, true), (16, true), (17, true), (18, true), (19, true), (20, true), (21, true), (22, true), (23, true), (24, true), (25, true), (26, true), (27, true), (28, true), (29, true), (30, true), (31, true), (32, true), (33, true), (34, true), (35, true), (36, true), (37, true), (38, true), (39, true)] (by kernel_rfl) (by kernel_rfl) HTw.out.s (fun _ => ?_)
          generalize w6.drew = w7 at *
          unfold S8i
          iterate 8 (apply ord_take; (simp only [List.getElem?_toArray, List.getElem?_cons_succ, List.getElem?_cons_zero]; rfl); rfl; (intro w hSw; (try dsimp only at hSw); go_simp; try with_reducible rfl); intro _; try simp only [Act.put, List.setIfInBounds_toArray, List.set_cons_zero, List.set_cons_succ])
          (apply ord_only; (simp only [List.getElem?_toArray, List.getElem?_cons_succ, List.getElem?_cons_zero]; rfl); rfl; intro K hK)
          go_simp
          refine (refTexts w7 _ ps HTw.out.rp hpl).mono ?_
          rintro _ w8 ⟨N8, a9, c9, rfl, r9⟩
          have HT8 := Lib.hid (HTw.out.new N8)
          have N8' := Lib.hid (New.trans N7.out N8)
          rw [hps] at r9
          have HSm := Lib.hid (refSameEq w8 _ _ P.ts r9 HT8.out.rm (by rw [← hps, List.length_map]; exact hpl))
          clear N8 N7 HTw r9
          refine hK.out _ _ (HT8.out.s) (fun _ => ?_)
          clear hK K
          try simp only [Act.put, List.setIfInBounds_toArray, List.set_cons_zero, List.set_cons_succ]
          (apply ord_only; (simp only [List.getElem?_toArray, List.getElem?_cons_succ, List.getElem?_cons_zero]; rfl); rfl; intro K hK)
          rw [hps]
          go_simp
          refine HSm.out.mono ?_
          rintro _ w9 ⟨rfl, N9⟩
          have HT9 := Lib.hid (HT8.out.new N9)
          have N9' := Lib.hid (New.trans N8'.out N9)
          clear N9 N8' HT8 HSm
          refine hK.out _ _ (HT9.out.s) (fun _ => ?_)
          clear hK K
          try simp only [Act.put, List.setIfInBounds_toArray, List.set_cons_zero, List.set_cons_succ]
          iterate 30 (apply ord_take; (simp only [List.getElem?_toArray, List.getElem?_cons_succ, List.getElem?_cons_zero]; rfl); rfl; (intro w hSw; (try dsimp only at hSw); go_simp; try with_reducible rfl); intro _; try simp only [Act.put, List.setIfInBounds_toArray, List.set_cons_zero, List.set_cons_succ])
          apply ord_done
          go_wp2
          go_ret
          exact ⟨rfl, N9'.out⟩
        · have hp4' : 4294967295 < number := by omega
          have hup : ¬ sPlaced number count ch := fun hh => hp4 hh.2.2.2
          have HPZ : Hid (P = ⟨false, [], [], false, 0⟩) := Lib.hid (by rw [← HPd.out]; exact sParse_unplaced _ _ _ _ hup)
          clear hup
          have hps0 : ps = [] := by rw [HPZ.out] at hps; exact List.map_eq_nil_iff.1 hps
          have hn0 : n1 = 0 := by
            obtain ⟨a', n', c', e, h, -⟩ := r3.1
            cases e
            rw [hps0] at h
            exact h.symm
          have hok : P.ok = false := by rw [HPZ.out]
          rw [hok]
          subst hn0
          obtain ⟨c0, c1⟩ := HC4.out.cells
          obtain ⟨x0, x1, x2, x3⟩ := HP4.out.cells
          clear hps r3 r3'
          go_wp2
          go_ret
          exact ⟨rfl, N4.out⟩
      · have hp3' : number < 0 := by omega
        have hup : ¬ sPlaced number count ch := fun hh => hp3 hh.2.2.1
        have HPZ : Hid (P = ⟨false, [], [], false, 0⟩) := Lib.hid (by rw [← HPd.out]; exact sParse_unplaced _ _ _ _ hup)
        clear hup
        have hps0 : ps = [] := by rw [HPZ.out] at hps; exact List.map_eq_nil_iff.1 hps
        have hn0 : n1 = 0 := by
          obtain ⟨a', n', c', e, h, -⟩ := r3.1
          cases e
          rw [hps0] at h
          exact h.symm
        have hok : P.ok = false := by rw [HPZ.out]
        rw [hok]
        subst hn0
        obtain ⟨c0, c1⟩ := HC4.out.cells
        obtain ⟨x0, x1, x2, x3⟩ := HP4.out.cells
        clear hps r3 r3'
        go_wp2
        go_ret
        exact ⟨rfl, N4.out⟩
    · have hp2' : count < 0 := by omega
      have hup : ¬ sPlaced number count ch := fun hh => hp2 hh.1
      have HPZ : Hid (P = ⟨false, [], [], false, 0⟩) := Lib.hid (by rw [← HPd.out]; exact sParse_unplaced _ _ _ _ hup)
      clear hup
      have hps0 : ps = [] := by rw [HPZ.out] at hps; exact List.map_eq_nil_iff.1 hps
      have hn0 : n1 = 0 := by
        obtain ⟨a', n', c', e, h, -⟩ := r3.1
        cases e
        rw [hps0] at h
        exact h.symm
      have hok : P.ok = false := by rw [HPZ.out]
      rw [hok]
      subst hn0
      obtain ⟨c0, c1⟩ := HC4.out.cells
      obtain ⟨x0, x1, x2, x3⟩ := HP4.out.cells
      clear hps r3 r3'
      go_wp2
      go_ret
      exact ⟨rfl, N4.out⟩
  · have hp' : ((ny : Int) == 32) = false := by simp; omega
    have hp'' : ((ny : Int) != 32) = true := by simp; omega
    have hup : ¬ sPlaced number count ch := fun hh => hp1 (by have := hh.2.1; rw [HYL.out] at this; exact this)
    have HPZ : Hid (P = ⟨false, [], [], false, 0⟩) := Lib.hid (by rw [← HPd.out]; exact sParse_unplaced _ _ _ _ hup)
    clear hup
    have hps0 : ps = [] := by rw [HPZ.out] at hps; exact List.map_eq_nil_iff.1 hps
    have hn0 : n1 = 0 := by
      obtain ⟨a', n', c', e, h, -⟩ := r3.1
      cases e
      rw [hps0] at h
      exact h.symm
    have hok : P.ok = false := by rw [HPZ.out]
    rw [hok]
    subst hn0
    obtain ⟨c0, c1⟩ := HC4.out.cells
    obtain ⟨x0, x1, x2, x3⟩ := HP4.out.cells
    clear hps r3 r3'
    go_wp2
    go_ret
    exact ⟨rfl, N4.out⟩

theorem parsesLaw (w : World) (x : Value) (b : List UInt8) (hx : Rd w x b) (y : Value) (ch : List UInt8) (hy : Rd w y ch) (zs : List Int) (hl : zs.length = 2) (hw : ∀ z ∈ zs, (Lit.int .i64 z).wf = true) (hL : Laid w) :
    Calls Tryd.prog 4 #[x, y, .agg (zs.map (Value.int .i64)).toArray] w fun e w' => e = .returned (.bool true) ∧ New w w' := by
  obtain ⟨a, c, rfl, ha, hc⟩ := pair_of hl hw
  exact parsesWalk w x y b ch hx hy a c ha hc hL

end Go.Proofs.YtjkhklbeimgggaaDoor
