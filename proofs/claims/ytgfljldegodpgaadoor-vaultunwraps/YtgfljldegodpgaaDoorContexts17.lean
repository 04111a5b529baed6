/-
  VaultContexts: its walk.
-/
import Derived.Test.YtgfljldegodpgaaDoorLaw17
import Derived.Test.YtgfljldegodpgaaDoorRefVlt
import Derived.Test.YtgfljldegodpgaaDoorBase
namespace Go.Proofs.YtgfljldegodpgaaDoor
set_option linter.unusedVariables false
set_option linter.unusedSimpArgs false
set_option maxRecDepth 100000
open Go.RowKit

def Vc3 (ga gb : Nat) (y yb : Value) (e eb : Int) (w : World) : Prop :=
  w.cell? ⟨ga, 1, none⟩ = some y ∧ w.cell? ⟨ga, 3, none⟩ = some (.int .i64 e) ∧ w.cell? ⟨gb, 1, none⟩ = some yb ∧ w.cell? ⟨gb, 3, none⟩ = some (.int .i64 eb)

def Vc5 (gn : Nat) (n0 n1 : Int) (w : World) : Prop := w.cell? ⟨gn, 0, none⟩ = some (.int .i64 n0) ∧ w.cell? ⟨gn, 1, none⟩ = some (.int .i64 n1)

def Vc6 (ga gn : Nat) (y v : Value) (g c : List UInt8) (e n0 n1 : Int) (w : World) : Prop :=
  (w.cell? ⟨ga, 1, none⟩ = some y ∧ w.cell? ⟨ga, 3, none⟩ = some (.int .i64 e)) ∧ (w.cell? ⟨gn, 0, none⟩ = some (.int .i64 n0) ∧ w.cell? ⟨gn, 1, none⟩ = some (.int .i64 n1)) ∧
  (convert 22 9 y).run Tryd.prog w = .ok (.string (bstr g)) w ∧ (convert 22 9 v).run Tryd.prog w = .ok (.string (bstr c)) w

structure VcW (w : World) (ga gb gn : Nat) (x y z : Value) (e : Int) (xb yb zb : Value) (eb n0 n1 : Int) (wr : World) : Prop where
  a : CaseAt17 wr ga x y z e
  b : CaseAt17 wr gb xb yb zb eb
  n : At2 wr gn 32 (.int .i64 n0) (.int .i64 n1)
  new : New w wr

theorem VcW.step {w : World} {ga gb gn : Nat} {x y z : Value} {e : Int} {xb yb zb : Value} {eb n0 n1 : Int} {wr w' : World} (h : VcW w ga gb gn x y z e xb yb zb eb n0 n1 wr) (hn : New wr w') : VcW w ga gb gn x y z e xb yb zb eb n0 n1 w' :=
  ⟨h.a.new hn, h.b.new hn, At2.new h.n hn, New.trans h.new hn⟩



set_option maxHeartbeats 2000000 in
theorem contextsWalk (A : VltApi) (w : World) (x y z : Value) (k g s : List UInt8) (e : Int) (hx : Rd w x k) (hy : Rd w y g) (hz : Rd w z s) (he : i64In e) (xb yb zb : Value) (kb gb sb : List UInt8) (eb : Int) (hxb : Rd w xb kb) (hyb : Rd w yb gb) (hzb : Rd w zb sb) (heb : i64In eb) (n0 n1 : Int) (hn0 : i64In n0) (hn1 : i64In n1) (hL : Laid w) :
    Calls Tryd.prog 5 #[.agg #[x, y, z, .int .i64 e], .agg #[xb, yb, zb, .int .i64 eb], .agg #[.int .i64 n0, .int .i64 n1]] w fun en w' => en = .returned (.bool true) ∧ New w w' := by
  obtain ⟨ax, nx, cx, rfl⟩ : ∃ a n c, x = .slice a n c := by obtain ⟨a, n, c, e, -⟩ := hx; exact ⟨a, n, c, e⟩
  obtain ⟨ay, ny, cy, rfl⟩ : ∃ a n c, y = .slice a n c := by obtain ⟨a, n, c, e, -⟩ := hy; exact ⟨a, n, c, e⟩
  obtain ⟨az, nz, cz, rfl⟩ : ∃ a n c, z = .slice a n c := by obtain ⟨a, n, c, e, -⟩ := hz; exact ⟨a, n, c, e⟩
  obtain ⟨bx, mx, dx, rfl⟩ : ∃ a n c, xb = .slice a n c := by obtain ⟨a, n, c, e, -⟩ := hxb; exact ⟨a, n, c, e⟩
  obtain ⟨by_, my, dy, rfl⟩ : ∃ a n c, yb = .slice a n c := by obtain ⟨a, n, c, e, -⟩ := hyb; exact ⟨a, n, c, e⟩
  obtain ⟨bz, mz, dz, rfl⟩ : ∃ a n c, zb = .slice a n c := by obtain ⟨a, n, c, e, -⟩ := hzb; exact ⟨a, n, c, e⟩
  have HY := Lib.hid hy
  have HYb := Lib.hid hyb
  have HLn : Hid (ny = g.length ∧ my = gb.length) := Lib.hid ⟨hy.len.symm, hyb.len.symm⟩
  have HEi := Lib.hid (And.intro he (And.intro heb (And.intro hn0 hn1)))
  have HL := Lib.hid hL
  have HA := Lib.hid A
  clear hx hy hz hxb hyb hzb he heb hn0 hn1 hL A
  go_enter Tryd.func5, Tryd.ntmps5
  go_upto_region 1 with fail
  generalize hw1 : World.alloc w _ = w1
  generalize hw2 : World.alloc w1 _ = w2
  generalize hw0 : World.alloc w2 _ = w0
  have N1 : New w w1 := by rw [← hw1]; exact (Below.refl _ _).alloc (Nat.le_refl _) _
  have N2 : New w1 w2 := by rw [← hw2]; exact (Below.refl _ _).alloc (Nat.le_refl _) _
  have N3 : New w2 w0 := by rw [← hw0]; exact (Below.refl _ _).alloc (Nat.le_refl _) _
  have s1 : w1.heap.size = w.heap.size + 1 := by rw [← hw1]; simp
  have s2 : w2.heap.size = w.heap.size + 1 + 1 := by rw [← hw2]; simp [s1]
  have HC0 : Hid (CaseAt17 w0 w.heap.size (.slice ax nx cx) (.slice ay ny cy) (.slice az nz cz) e) := Lib.hid (CaseAt17.new (by rw [← hw1]; exact heap_alloc_new _ _) (New.trans N2 N3))
  have HD0 : Hid (CaseAt17 w0 (w.heap.size + 1) (.slice bx mx dx) (.slice by_ my dy) (.slice bz mz dz) eb) := Lib.hid (CaseAt17.new (by rw [← s1, ← hw2]; exact heap_alloc_new _ _) N3)
  have HM0 : Hid (At2 w0 (w.heap.size + 1 + 1) 32 (.int .i64 n0) (.int .i64 n1)) := Lib.hid (by rw [← s2, ← hw0]; exact heap_alloc_new _ _)
  have HN0 : Hid (New w w0) := Lib.hid (New.trans (New.trans N1 N2) N3)
  clear hw0 hw1 hw2 N1 N2 N3 s1 s2
  generalize w.heap.size + 1 + 1 = gn at *
  generalize w.heap.size + 1 = gB at *
  generalize w.heap.size = ga at *
  have HV0 : Hid (VcW w ga gB gn (.slice ax nx cx) (.slice ay ny cy) (.slice az nz cz) e (.slice bx mx dx) (.slice by_ my dy) (.slice bz mz dz) eb n0 n1 w0) := Lib.hid ⟨HC0.out, HD0.out, HM0.out, HN0.out⟩
  have HAW := Lib.hid (awake17 HA.out w0 (HL.out.new HN0.out))
  clear HC0 HD0 HM0 HN0
  go_wp2_with fail
  refine HAW.out.mono ?_
  rintro _ w1 ⟨rfl, n1'⟩
  have HV1 := Lib.hid (HV0.out.step n1')
  clear n1' HAW HV0
  have HS := Lib.hid (small17 w1 ax ay az nx cx ny cy nz cz e)
  obtain ⟨x0, x1, x2, x3⟩ := HV1.out.a.cells
  by_cases hsm : nx ≤ 60 ∧ ny ≤ 40 ∧ nz ≤ 100
  rotate_left
  · rw [decide_eq_false hsm] at HS
    clear hsm
    go_wp2_with fail
    refine HS.out.mono ?_
    rintro _ w2 ⟨rfl, n2⟩
    have HN := Lib.hid (New.trans HV1.out.new n2)
    clear n2 HS x0 x1 x2 x3 HV1
    have HAW := Lib.hid (awake17 HA.out _ (HL.out.new HN.out))
    go_wp2_with fail
    refine HAW.out.mono ?_
    rintro _ w9 ⟨rfl, n9⟩
    have HN9 := Lib.hid (New.trans HN.out n9)
    clear n9 HAW
    go_wp2
    go_ret
    exact ⟨rfl, HN9.out⟩
  rw [decide_eq_true hsm] at HS
  have HSm := Lib.hid hsm
  clear hsm
  go_wp2_with fail
  refine HS.out.mono ?_
  rintro _ w2 ⟨rfl, n2⟩
  have HV2 := Lib.hid (HV1.out.step n2)
  clear n2 HS x0 x1 x2 x3 HV1
  have HS := Lib.hid (small17 w2 bx by_ bz mx dx my dy mz dz eb)
  obtain ⟨x0, x1, x2, x3⟩ := HV2.out.b.cells
  by_cases hsm : mx ≤ 60 ∧ my ≤ 40 ∧ mz ≤ 100
  rotate_left
  · rw [decide_eq_false hsm] at HS
    clear hsm
    go_wp2_with fail
    refine HS.out.mono ?_
    rintro _ w3 ⟨rfl, n3⟩
    have HN := Lib.hid (New.trans HV2.out.new n3)
    clear n3 HS x0 x1 x2 x3 HV2
    have HAW := Lib.hid (awake17 HA.out _ (HL.out.new HN.out))
    go_wp2_with fail
    refine HAW.out.mono ?_
    rintro _ w9 ⟨rfl, n9⟩
    have HN9 := Lib.hid (New.trans HN.out n9)
    clear n9 HAW
    go_wp2
    go_ret
    exact ⟨rfl, HN9.out⟩
  rw [decide_eq_true hsm] at HS
  have HSm2 := Lib.hid hsm
  clear hsm
  go_wp2_with fail
  refine HS.out.mono ?_
  rintro _ w3 ⟨rfl, n3⟩
  have HV3 := Lib.hid ((HV2.out.step n3).step (Below.refl _ _).drew)
  clear n3 HS x0 x1 x2 x3 HV2
  have hg1 : g.length ≤ 1000 := by have := HLn.out; have := HSm.out; omega
  have hg2 : gb.length ≤ 1000 := by have := HLn.out; have := HSm2.out; omega
  have HGl := Lib.hid (And.intro hg1 hg2)
  clear hg1 hg2
  have HC : Hid (Vc3 ga gB (.slice ay ny cy) (.slice by_ my dy) e eb w3.drew) := Lib.hid ⟨HV3.out.a.cells.2.1, HV3.out.a.cells.2.2.2, HV3.out.b.cells.2.1, HV3.out.b.cells.2.2.2⟩
  go_upto_region 3 with fail
  refine region_ord (Vc3 ga gB (.slice ay ny cy) (.slice by_ my dy) e eb) [(0, true), (1, true), (2, true), (3, true), (5, true), (6, true), (7, true), (8, true), (4, false), (9, false), (10, true), (11, true)] (by kernel_rfl) (by kernel_rfl) HC.out (fun _ => ?_)
  generalize w3.drew = w4 at *
  clear HC w3
  have HX1 := Lib.hid (HA.out.ctx w4 _ g e (HY.out.new HV3.out.new) HGl.out.1 HEi.out.1)
  unfold Vc3
  iterate 8 (apply ord_take; (simp only [List.getElem?_toArray, List.getElem?_cons_succ, List.getElem?_cons_zero]; rfl); rfl; (intro w hSw; (try dsimp only at hSw); go_simp; try with_reducible rfl); intro _; try simp only [Act.put, List.setIfInBounds_toArray, List.set_cons_zero, List.set_cons_succ])
  (apply ord_only; (simp only [List.getElem?_toArray, List.getElem?_cons_succ, List.getElem?_cons_zero]; rfl); rfl; intro K hK)
  go_simp
  refine HX1.out.mono ?_
  rintro _ w5 ⟨a5, n5, c5, rfl, r5, n5'⟩
  have HV5 := Lib.hid (HV3.out.step n5')
  have R5 := Lib.hid r5
  have HX2 := Lib.hid (HA.out.ctx w5 _ gb eb (HYb.out.new HV5.out.new) HGl.out.2 HEi.out.2.1)
  have hS5 : Vc3 ga gB (.slice ay ny cy) (.slice by_ my dy) e eb w5 := ⟨HV5.out.a.cells.2.1, HV5.out.a.cells.2.2.2, HV5.out.b.cells.2.1, HV5.out.b.cells.2.2.2⟩
  clear HX1 n5' r5 HV3
  refine hK.out _ _ (hS5) (fun _ => ?_)
  clear hK K
  try simp only [Act.put, List.setIfInBounds_toArray, List.set_cons_zero, List.set_cons_succ]
  clear hS5
  (apply ord_only; (simp only [List.getElem?_toArray, List.getElem?_cons_succ, List.getElem?_cons_zero]; rfl); rfl; intro K hK)
  go_simp
  refine HX2.out.mono ?_
  rintro _ w6 ⟨a6, n6, c6, rfl, r6, n6'⟩
  have HV6 := Lib.hid (HV5.out.step n6')
  have R6 := Lib.hid r6
  have R56 := Lib.hid (R5.out.new n6')
  have hS6 : Vc3 ga gB (.slice ay ny cy) (.slice by_ my dy) e eb w6 := ⟨HV6.out.a.cells.2.1, HV6.out.a.cells.2.2.2, HV6.out.b.cells.2.1, HV6.out.b.cells.2.2.2⟩
  clear HX2 n6' r6 HV5 R5
  refine hK.out _ _ (hS6) (fun _ => ?_)
  clear hK K
  try simp only [Act.put, List.setIfInBounds_toArray, List.set_cons_zero, List.set_cons_succ]
  clear hS6
  iterate 2 (apply ord_take; (simp only [List.getElem?_toArray, List.getElem?_cons_succ, List.getElem?_cons_zero]; rfl); rfl; (intro w hSw; (try dsimp only at hSw); go_simp; try with_reducible rfl); intro _; try simp only [Act.put, List.setIfInBounds_toArray, List.set_cons_zero, List.set_cons_succ])
  apply ord_done
  obtain ⟨-, x1, -, x3⟩ := HV6.out.a.cells
  have ky := run_str (P := Tryd.prog) Tryd.underlying22 Tryd.underlying5 Tryd.underlying9 (HY.out.new HV6.out.new)
  have HIs := Lib.hid (refIs17 w6 g e HGl.out.1)
  obtain ⟨X, HXe⟩ : ∃ X, Hid (vCx g e = X) := ⟨_, Lib.hid rfl⟩
  rw [HXe.out] at R56
  have HNl : Hid (n5 = X.length) := Lib.hid R56.out.len.symm
  by_cases hi : vIs g e
  rotate_left
  · rw [decide_eq_false hi] at HIs
    have hX : X = [] := by rw [← HXe.out]; exact (vCx_nil g e).2 hi
    have hn5 : n5 = 0 := by rw [HNl.out, hX]; rfl
    subst hn5
    clear hi hX
    go_wp2_with fail
    refine HIs.out.mono ?_
    rintro _ w7 ⟨rfl, rfl⟩
    have HV7 := Lib.hid (HV6.out.step (Below.refl w6.heap.size w6).drew)
    clear HIs x1 x3 ky
    have HB1 := Lib.hid (HA.out.bucket w6.drew n0 n1 HEi.out.2.2.1 HEi.out.2.2.2)
    have HB2 := Lib.hid (refBucket17 w6.drew n0 n1 HEi.out.2.2.1 HEi.out.2.2.2)
    have HC : Hid (Vc5 gn n0 n1 w6.drew) := Lib.hid ⟨HV7.out.n.cells.1, HV7.out.n.cells.2⟩
    generalize vBucket n0 n1 = B at *
    go_upto_region 5 with fail
    refine region_ord (Vc5 gn n0 n1) [(0, true), (1, true), (2, true), (3, true), (4, true), (5, true), (6, true), (7, true), (9, true), (10, true), (11, true), (12, true), (8, false), (13, false), (14, true), (15, true), (16, true)] (by kernel_rfl) (by kernel_rfl) HC.out (fun _ => ?_)
    generalize w6.drew = w7 at *
    unfold Vc5
    iterate 12 (apply ord_take; (simp only [List.getElem?_toArray, List.getElem?_cons_succ, List.getElem?_cons_zero]; rfl); rfl; (intro w hSw; (try dsimp only at hSw); go_simp; try with_reducible rfl); intro _; try simp only [Act.put, List.setIfInBounds_toArray, List.set_cons_zero, List.set_cons_succ])
    (apply ord_only; (simp only [List.getElem?_toArray, List.getElem?_cons_succ, List.getElem?_cons_zero]; rfl); rfl; intro K hK)
    go_simp
    refine HB1.out.mono ?_
    rintro _ w8 ⟨rfl, rfl⟩
    refine hK.out _ _ (HC.out) (fun _ => ?_)
    clear hK K
    try simp only [Act.put, List.setIfInBounds_toArray, List.set_cons_zero, List.set_cons_succ]
    (apply ord_only; (simp only [List.getElem?_toArray, List.getElem?_cons_succ, List.getElem?_cons_zero]; rfl); rfl; intro K hK)
    go_simp
    refine HB2.out.mono ?_
    rintro _ w8 ⟨rfl, rfl⟩
    refine hK.out _ _ (HC.out) (fun _ => ?_)
    clear hK K
    try simp only [Act.put, List.setIfInBounds_toArray, List.set_cons_zero, List.set_cons_succ]
    iterate 3 (apply ord_take; (simp only [List.getElem?_toArray, List.getElem?_cons_succ, List.getElem?_cons_zero]; rfl); rfl; (intro w hSw; (try dsimp only at hSw); go_simp; try with_reducible rfl); intro _; try simp only [Act.put, List.setIfInBounds_toArray, List.set_cons_zero, List.set_cons_succ])
    apply ord_done
    go_wp2
    go_ret
    exact ⟨rfl, HV7.out.new⟩
  rw [decide_eq_true hi] at HIs
  have HInj : Hid (X = vCx gb eb ↔ g = gb ∧ e = eb) := Lib.hid (by rw [← HXe.out]; exact vCx_inj hi)
  have HI := Lib.hid hi
  have hXc : vCtx g e = X := by rw [← HXe.out]; unfold vCx; rw [if_pos hi]
  have HXC := Lib.hid hXc
  clear hi hXc
  go_wp2_with fail
  refine HIs.out.mono ?_
  rintro _ w7 ⟨rfl, rfl⟩
  have HV7 := Lib.hid (HV6.out.step (Below.refl w6.heap.size w6).drew)
  have R57 := Lib.hid (R56.out.new (Below.refl w6.heap.size w6).drew)
  have R67 := Lib.hid (R6.out.new (Below.refl w6.heap.size w6).drew)
  clear HIs x1 x3 ky R56 R6
  have hstr : ∀ wx, New w6.drew wx → Vc6 ga gn (.slice ay ny cy) (.slice a5 n5 c5) g X e n0 n1 wx := fun wx hw => by
    have hv := HV7.out.step hw
    exact ⟨⟨hv.a.cells.2.1, hv.a.cells.2.2.2⟩, ⟨hv.n.cells.1, hv.n.cells.2⟩, run_str (P := Tryd.prog) Tryd.underlying22 Tryd.underlying5 Tryd.underlying9 (HY.out.new hv.new), run_str (P := Tryd.prog) Tryd.underlying22 Tryd.underlying5 Tryd.underlying9 (R57.out.new hw)⟩
  have HSt := Lib.hid hstr
  have HCx := Lib.hid (refCtx17 w6.drew g e HI.out)
  rw [HXC.out] at HCx
  clear hstr
  go_upto_region 6 with fail
  refine region_ord (Vc6 ga gn (.slice ay ny cy) (.slice a5 n5 c5) g X e n0 n1) [(0, true), (1, true), (2, true), (3, true), (4, true), (5, true), (6, true), (7, false), (8, true), (9, true), (10, true), (11, true), (12, true), (13, true), (15, true), (16, true), (17, true), (18, true), (14, false), (19, false), (20, true), (21, true)] (by kernel_rfl) (by kernel_rfl) (HSt.out _ (Below.refl _ _)) (fun _ => ?_)
  generalize w6.drew = w7 at *
  unfold Vc6
  iterate 7 (apply ord_take; (simp only [List.getElem?_toArray, List.getElem?_cons_succ, List.getElem?_cons_zero]; rfl); rfl; (intro w hSw; (try dsimp only at hSw); go_simp; try with_reducible rfl); intro _; try simp only [Act.put, List.setIfInBounds_toArray, List.set_cons_zero, List.set_cons_succ])
  (apply ord_only; (simp only [List.getElem?_toArray, List.getElem?_cons_succ, List.getElem?_cons_zero]; rfl); rfl; intro K hK)
  go_simp
  refine HCx.out.mono ?_
  rintro _ w8 ⟨rfl, n8⟩
  have HB1 := Lib.hid (HA.out.bucket w8 n0 n1 HEi.out.2.2.1 HEi.out.2.2.2)
  have HB2 := Lib.hid (refBucket17 w8 n0 n1 HEi.out.2.2.1 HEi.out.2.2.2)
  have HN8 := Lib.hid n8
  clear n8 HCx
  generalize vBucket n0 n1 = B at *
  refine hK.out _ _ ((HSt.out _ HN8.out)) (fun _ => ?_)
  clear hK K
  try simp only [Act.put, List.setIfInBounds_toArray, List.set_cons_zero, List.set_cons_succ]
  iterate 10 (apply ord_take; (simp only [List.getElem?_toArray, List.getElem?_cons_succ, List.getElem?_cons_zero]; rfl); rfl; (intro w hSw; (try dsimp only at hSw); go_simp; try with_reducible rfl); intro _; try simp only [Act.put, List.setIfInBounds_toArray, List.set_cons_zero, List.set_cons_succ])
  (apply ord_only; (simp only [List.getElem?_toArray, List.getElem?_cons_succ, List.getElem?_cons_zero]; rfl); rfl; intro K hK)
  go_simp
  refine HB1.out.mono ?_
  rintro _ w9 ⟨rfl, rfl⟩
  refine hK.out _ _ ((HSt.out _ HN8.out)) (fun _ => ?_)
  clear hK K
  try simp only [Act.put, List.setIfInBounds_toArray, List.set_cons_zero, List.set_cons_succ]
  (apply ord_only; (simp only [List.getElem?_toArray, List.getElem?_cons_succ, List.getElem?_cons_zero]; rfl); rfl; intro K hK)
  go_simp
  refine HB2.out.mono ?_
  rintro _ w9 ⟨rfl, rfl⟩
  refine hK.out _ _ ((HSt.out _ HN8.out)) (fun _ => ?_)
  clear hK K
  try simp only [Act.put, List.setIfInBounds_toArray, List.set_cons_zero, List.set_cons_succ]
  iterate 2 (apply ord_take; (simp only [List.getElem?_toArray, List.getElem?_cons_succ, List.getElem?_cons_zero]; rfl); rfl; (intro w hSw; (try dsimp only at hSw); go_simp; try with_reducible rfl); intro _; try simp only [Act.put, List.setIfInBounds_toArray, List.set_cons_zero, List.set_cons_succ])
  apply ord_done
  have HV8 := HV7.out.step HN8.out
  obtain ⟨-, x1, -, x3⟩ := HV8.a.cells
  obtain ⟨-, z1, -, z3⟩ := HV8.b.cells
  have ka := run_str (P := Tryd.prog) Tryd.underlying22 Tryd.underlying5 Tryd.underlying9 (HY.out.new HV8.new)
  have kb' := run_str (P := Tryd.prog) Tryd.underlying22 Tryd.underlying5 Tryd.underlying9 (HYb.out.new HV8.new)
  have k5 := run_str (P := Tryd.prog) Tryd.underlying22 Tryd.underlying5 Tryd.underlying9 (R57.out.new HN8.out)
  have k6 := run_str (P := Tryd.prog) Tryd.underlying22 Tryd.underlying5 Tryd.underlying9 (R67.out.new HN8.out)
  obtain ⟨Y, HYe⟩ : ∃ Y, Hid (vCx gb eb = Y) := ⟨_, Lib.hid rfl⟩
  rw [HYe.out] at k6 HInj
  have HFin := Lib.hid HV8.new
  clear HV8 HB1 HB2 HSt R57 R67 HV7 HXC HI
  by_cases hg : g = gb
  · by_cases he2 : e = eb
    · have dx : ((bstr X).toList == (bstr Y).toList) = true := by rw [HInj.out.2 ⟨hg, he2⟩]; simp
      have dg : ((bstr g).toList == (bstr gb).toList) = true := by rw [hg]; simp
      have dd : (e == eb) = true := by simpa using he2
      clear hg he2
      go_wp2
      go_ret
      exact ⟨rfl, HFin.out⟩
    · have dx : ((bstr X).toList == (bstr Y).toList) = false := by
        rw [bstr_list, bstr_list]; simpa using fun h => he2 (HInj.out.1 h).2
      have dg : ((bstr g).toList == (bstr gb).toList) = true := by rw [hg]; simp
      have dd : (e == eb) = false := by simpa using he2
      clear hg he2
      go_wp2
      go_ret
      exact ⟨rfl, HFin.out⟩
  · have dx : ((bstr X).toList == (bstr Y).toList) = false := by
      rw [bstr_list, bstr_list]; simpa using fun h => hg (HInj.out.1 h).1
    have dg : ((bstr g).toList == (bstr gb).toList) = false := by rw [bstr_list, bstr_list]; simpa using hg
    clear hg
    go_wp2
    go_ret
    exact ⟨rfl, HFin.out⟩

end Go.Proofs.YtgfljldegodpgaaDoor
