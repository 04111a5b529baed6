/-
  RecordWrites: the walk.
-/
import Derived.Test.YtjekbolfaakmbaaLaw12
import Derived.Test.YtjekbolfaakmbaaRefRec
import Derived.Test.YtjekbolfaakmbaaRefSame12
import Derived.Test.YtjekbolfaakmbaaRefWrite12
namespace Go.Proofs.Ytjekbolfaakmbaa
set_option linter.unusedVariables false
set_option linter.unusedSimpArgs false
open Go.RowKit

/-- nine cells -/
def S9 (q : Nat) (a b c d e f h i j : Value) (w : World) : Prop :=
  w.cell? ⟨q, 0, none⟩ = some a ∧ w.cell? ⟨q, 1, none⟩ = some b ∧ w.cell? ⟨q, 2, none⟩ = some c ∧ w.cell? ⟨q, 3, none⟩ = some d ∧ w.cell? ⟨q, 4, none⟩ = some e ∧ w.cell? ⟨q, 5, none⟩ = some f ∧ w.cell? ⟨q, 6, none⟩ = some h ∧ w.cell? ⟨q, 7, none⟩ = some i ∧ w.cell? ⟨q, 8, none⟩ = some j

/-- what the last region reads -/
def SD12 (q p : Nat) (k e t b : Int) (a1 a2 a3 a4 a5 b1 b2 b3 b4 b5 : Value) (u : Value) (l : List UInt8) (w : World) : Prop :=
  (w.cell? ⟨q, 0, none⟩ = some (.int .i64 k) ∧ w.cell? ⟨q, 1, none⟩ = some a1 ∧ w.cell? ⟨q, 2, none⟩ = some (.int .i64 e) ∧ w.cell? ⟨q, 3, none⟩ = some (.int .i64 t) ∧ w.cell? ⟨q, 4, none⟩ = some (.int .i64 b) ∧ w.cell? ⟨q, 5, none⟩ = some a2 ∧ w.cell? ⟨q, 6, none⟩ = some a3 ∧ w.cell? ⟨q, 7, none⟩ = some a4 ∧ w.cell? ⟨q, 8, none⟩ = some a5) ∧
  (w.cell? ⟨p, 0, none⟩ = some (.int .i64 k) ∧ w.cell? ⟨p, 1, none⟩ = some b1 ∧ w.cell? ⟨p, 2, none⟩ = some (.int .i64 e) ∧ w.cell? ⟨p, 3, none⟩ = some (.int .i64 t) ∧ w.cell? ⟨p, 4, none⟩ = some (.int .i64 b) ∧ w.cell? ⟨p, 5, none⟩ = some b2 ∧ w.cell? ⟨p, 6, none⟩ = some b3 ∧ w.cell? ⟨p, 7, none⟩ = some b4 ∧ w.cell? ⟨p, 8, none⟩ = some b5) ∧
  (convert 22 9 u).run Try.prog w = .ok (.string (bstr l)) w


set_option maxRecDepth 100000 in
set_option maxHeartbeats 2000000 in
theorem writesWalk (w : World) (v : RecV) (r : RecL) (h : RecR w v r) (hb : r.group.length < 140737488355328 ∧ r.body.length < 140737488355328 ∧ r.tree.length < 140737488355328 ∧ r.script.length < 140737488355328 ∧ r.wrapped.length < 140737488355328) :
    Calls Try.prog 3 #[v.val r] w fun e w' => e = .returned (.bool true) ∧ New w w' := by
  have HR := Lib.hid h
  obtain ⟨a1, n1, c1, e1, l1, -⟩ := h.g
  obtain ⟨a2, n2, c2, e2, l2, -⟩ := h.y
  obtain ⟨a3, n3, c3, e3, l3, -⟩ := h.tr
  obtain ⟨a4, n4, c4, e4, l4, -⟩ := h.sc
  obtain ⟨a5, n5, c5, e5, l5, -⟩ := h.wr
  rw [l1, l2, l3, l4, l5] at hb
  have HGr := Lib.hid (fun wx => refGreat12 wx r.kind r.epoch r.time r.bucket a1 a2 a3 a4 a5 n1 c1 n2 c2 n3 c3 n4 c4 n5 c5 hb.1 hb.2.1 hb.2.2.1 hb.2.2.2.1 hb.2.2.2.2)
  have HOK : Hid (rOk r.kind n1 r.epoch r.time r.bucket n2 n3 n4 n5 = r.ok) := Lib.hid (by unfold RecL.ok; rw [l1, l2, l3, l4, l5])
  have HRI := Lib.hid (fun wx => recRight wx r.kind r.epoch r.time r.bucket a1 a2 a3 a4 a5 n1 c1 n2 c2 n3 c3 n4 c4 n5 c5)
  have HRR := Lib.hid (fun wx => refRight12 wx r.kind r.epoch r.time r.bucket a1 a2 a3 a4 a5 n1 c1 n2 c2 n3 c3 n4 c4 n5 c5)
  rw [HOK.out] at HRI HRR
  have HLen : Hid (r.enc.length = 31 + (n1 + n2 + n3 + n4 + n5)) := Lib.hid (by rw [RecL.enc_length, l1, l2, l3, l4, l5]; omega)
  clear HOK l1 l2 l3 l4 l5 h hb
  obtain ⟨s, hs⟩ : ∃ s, n1 + n2 + n3 + n4 + n5 = s := ⟨_, rfl⟩
  rw [hs] at HGr HLen
  clear hs
  obtain ⟨ug, uy, utr, usc, uwr⟩ := v
  obtain ⟨k, g, e, t, b, y, tr, sc, wr⟩ := r
  unfold RecV.val
  dsimp only at *
  subst e1 e2 e3 e4 e5
  by_cases h4 : 800 < s
  · have d4 : decide ((800 : Int) < (s : Int)) = true := by simp; omega
    clear h4
    go_enter Try.func3, Try.ntmps3
    go_wp2_with fail
    generalize hw1 : World.alloc w _ = w1
    have HC1 : Hid (At9 w1 w.heap.size 24 (.int .i64 k) (.slice a1 n1 c1) (.int .i64 e) (.int .i64 t) (.int .i64 b) (.slice a2 n2 c2) (.slice a3 n3 c3) (.slice a4 n4 c4) (.slice a5 n5 c5)) := Lib.hid (by rw [← hw1]; exact heap_alloc_new _ _)
    have N1 : New w w1 := by rw [← hw1]; exact (Below.refl _ _).alloc (Nat.le_refl _) _
    clear hw1
    obtain ⟨gb, hgb⟩ : ∃ gb, w.heap.size = gb := ⟨_, rfl⟩
    rw [hgb] at HC1
    rw [hgb]
    clear hgb
    refine (awake12 w1).mono ?_
    rintro _ w2 ⟨rfl, N2⟩
    have NN2 := New.trans N1 N2
    have HI2 : Hid (InBlk w2 gb ⟨.slice a1 n1 c1, .slice a2 n2 c2, .slice a3 n3 c3, .slice a4 n4 c4, .slice a5 n5 c5⟩ ⟨k, g, e, t, b, y, tr, sc, wr⟩) := Lib.hid (InBlk.new ⟨HC1.out, HR.out.new N1⟩ N2)
    have hc := HI2.out.at_.cells
    dsimp only at hc
    obtain ⟨x0, x1, x2, x3, x4, x5, x6, x7, x8⟩ := hc
    clear HC1 N1 N2
    go_wp2_with fail
    refine (HGr.out w2).mono ?_
    rintro _ w3 ⟨rfl, N3⟩
    clear x0 x1 x2 x3 x4 x5 x6 x7 x8
    have NN3 := New.trans NN2 N3
    have HI3 := Lib.hid (HI2.out.new N3)
    clear N3 NN2 HI2
    go_wp2_with fail
    refine (awake12 w3).mono ?_
    rintro _ w5 ⟨rfl, N5⟩
    go_wp2
    go_ret
    exact ⟨rfl, New.trans NN3 N5⟩
  have d4 : decide ((800 : Int) < (s : Int)) = false := by simp; omega
  have HLe : Hid ((RecL.enc ⟨k, g, e, t, b, y, tr, sc, wr⟩).length ≤ 140737488355328) := Lib.hid (by rw [HLen.out]; omega)
  clear h4 HLen
  go_enter Try.func3, Try.ntmps3
  go_wp2_with fail
  generalize hw1 : World.alloc w _ = w1
  have HC1 : Hid (At9 w1 w.heap.size 24 (.int .i64 k) (.slice a1 n1 c1) (.int .i64 e) (.int .i64 t) (.int .i64 b) (.slice a2 n2 c2) (.slice a3 n3 c3) (.slice a4 n4 c4) (.slice a5 n5 c5)) := Lib.hid (by rw [← hw1]; exact heap_alloc_new _ _)
  have N1 : New w w1 := by rw [← hw1]; exact (Below.refl _ _).alloc (Nat.le_refl _) _
  clear hw1
  obtain ⟨gb, hgb⟩ : ∃ gb, w.heap.size = gb := ⟨_, rfl⟩
  rw [hgb] at HC1
  rw [hgb]
  clear hgb
  refine (awake12 w1).mono ?_
  rintro _ w2 ⟨rfl, N2⟩
  have NN2 := New.trans N1 N2
  have HI2 : Hid (InBlk w2 gb ⟨.slice a1 n1 c1, .slice a2 n2 c2, .slice a3 n3 c3, .slice a4 n4 c4, .slice a5 n5 c5⟩ ⟨k, g, e, t, b, y, tr, sc, wr⟩) := Lib.hid (InBlk.new ⟨HC1.out, HR.out.new N1⟩ N2)
  have hc := HI2.out.at_.cells
  dsimp only at hc
  obtain ⟨x0, x1, x2, x3, x4, x5, x6, x7, x8⟩ := hc
  clear HC1 N1 N2
  go_wp2_with fail
  refine (HGr.out w2).mono ?_
  rintro _ w3 ⟨rfl, N3⟩
  clear x0 x1 x2 x3 x4 x5 x6 x7 x8
  have NN3 := New.trans NN2 N3
  have HI3 := Lib.hid (HI2.out.new N3)
  clear N3 NN2 HI2
  have hc := HI3.out.at_.cells
  dsimp only at hc
  obtain ⟨x0, x1, x2, x3, x4, x5, x6, x7, x8⟩ := hc
  go_wp2_with fail
  refine (recWrite w3 _ _ HI3.out.rd).mono ?_
  rintro _ w4 ⟨a, n, c, rfl, rb, N4⟩
  clear x0 x1 x2 x3 x4 x5 x6 x7 x8 d4
  have NN4 := New.trans NN3 N4
  have HI4 := Lib.hid (HI3.out.new N4)
  have HB4 := Lib.hid rb
  clear N4 NN3 HI3 rb HGr
  obtain ⟨o, HO⟩ : ∃ o, Hid (RecL.ok ⟨k, g, e, t, b, y, tr, sc, wr⟩ = o) := ⟨_, Lib.hid rfl⟩
  rw [HO.out] at HRI HRR
  rw [HO.out]
  go_upto_region 4 with fail
  have NN5 : New w w4.drew := NN4.drew
  have HI5 := Lib.hid (HI4.out.new (Below.refl _ _).drew)
  have HB5 := Lib.hid (HB4.out.new (Below.refl _ _).drew)
  clear NN4 HI4 HB4
  refine region_ord (S9 gb (.int .i64 k) (.slice a1 n1 c1) (.int .i64 e) (.int .i64 t) (.int .i64 b) (.slice a2 n2 c2) (.slice a3 n3 c3) (.slice a4 n4 c4) (.slice a5 n5 c5)) [(0, true), (2, true), (1, false), (3, false), (4, true), (5, true), (6, true), (7, true), (8, false), (9, true), (10, true)] (by kernel_rfl) (by kernel_rfl) HI5.out.at_.cells (fun _ => ?_)
  generalize w4.drew = w5 at *
  have ko : (o != o) = false := by simp
  unfold S9
  iterate 2 (apply ord_take; (simp only [List.getElem?_toArray, List.getElem?_cons_succ, List.getElem?_cons_zero]; rfl); rfl; (intro w hSw; (try dsimp only at hSw); go_simp; try with_reducible rfl); intro _; try simp only [Act.put, List.setIfInBounds_toArray, List.set_cons_zero, List.set_cons_succ])
  (apply ord_only; (simp only [List.getElem?_toArray, List.getElem?_cons_succ, List.getElem?_cons_zero]; rfl); rfl; intro K hK)
  go_simp
  refine (HRI.out w5).mono ?_
  rintro _ w6 ⟨rfl, N6⟩
  replace NN5 := New.trans NN5 N6
  replace HI5 := Lib.hid (HI5.out.new N6)
  replace HB5 := Lib.hid (HB5.out.new N6)
  clear N6
  refine hK.out _ _ (HI5.out.at_.cells) (fun _ => ?_)
  clear hK K
  try simp only [Act.put, List.setIfInBounds_toArray, List.set_cons_zero, List.set_cons_succ]
  (apply ord_only; (simp only [List.getElem?_toArray, List.getElem?_cons_succ, List.getElem?_cons_zero]; rfl); rfl; intro K hK)
  go_simp
  refine (HRR.out w6).mono ?_
  rintro _ w7 ⟨rfl, N7⟩
  replace NN5 := New.trans NN5 N7
  replace HI5 := Lib.hid (HI5.out.new N7)
  replace HB5 := Lib.hid (HB5.out.new N7)
  clear N7
  refine hK.out _ _ (HI5.out.at_.cells) (fun _ => ?_)
  clear hK K
  try simp only [Act.put, List.setIfInBounds_toArray, List.set_cons_zero, List.set_cons_succ]
  iterate 4 (apply ord_take; (simp only [List.getElem?_toArray, List.getElem?_cons_succ, List.getElem?_cons_zero]; rfl); rfl; (intro w hSw; (try dsimp only at hSw); go_simp; try with_reducible rfl); intro _; try simp only [Act.put, List.setIfInBounds_toArray, List.set_cons_zero, List.set_cons_succ])
  (apply ord_only; (simp only [List.getElem?_toArray, List.getElem?_cons_succ, List.getElem?_cons_zero]; rfl); rfl; intro K hK)
  go_simp
  refine (HRI.out w7).mono ?_
  rintro _ w8 ⟨rfl, N8⟩
  replace NN5 := New.trans NN5 N8
  replace HI5 := Lib.hid (HI5.out.new N8)
  replace HB5 := Lib.hid (HB5.out.new N8)
  clear N8
  refine hK.out _ _ (HI5.out.at_.cells) (fun _ => ?_)
  clear hK K
  try simp only [Act.put, List.setIfInBounds_toArray, List.set_cons_zero, List.set_cons_succ]
  iterate 2 (apply ord_take; (simp only [List.getElem?_toArray, List.getElem?_cons_succ, List.getElem?_cons_zero]; rfl); rfl; (intro w hSw; (try dsimp only at hSw); go_simp; try with_reducible rfl); intro _; try simp only [Act.put, List.setIfInBounds_toArray, List.set_cons_zero, List.set_cons_succ])
  apply ord_done
  clear HRI HRR w7 w6 w5 w4 w3 w2 w1
  cases o
  · have HW : Hid (RecL.wrote ⟨k, g, e, t, b, y, tr, sc, wr⟩ = []) := Lib.hid (if_neg (by rw [HO.out]; decide))
    have hn : n = 0 := by rw [← HB5.out.len, HW.out]; rfl
    subst hn
    go_wp2
    go_ret
    exact ⟨rfl, NN5⟩
  have HBK := Lib.hid (rec_back _ HO.out)
  have HW : Hid (RecL.wrote ⟨k, g, e, t, b, y, tr, sc, wr⟩ = RecL.enc ⟨k, g, e, t, b, y, tr, sc, wr⟩) := Lib.hid (if_pos HO.out)
  rw [HW.out] at HB5
  go_wp2_with fail
  clear ko
  refine (recRead w8 _ _ HB5.out HLe.out).mono ?_
  rintro _ w9 ⟨v, rfl, r9, N9⟩
  rw [HBK.out.1] at r9 ⊢
  rw [HBK.out.2]
  have NN9 := New.trans NN5 N9
  have HI9 := Lib.hid (HI5.out.new N9)
  have HB9 := Lib.hid (HB5.out.new N9)
  clear N9 NN5 HI5 HB5 HBK HW HLe
  obtain ⟨vg, vy, vt, vs, vw⟩ := v
  obtain ⟨b1, m1, f1, e1, -⟩ := r9.g
  obtain ⟨b2, m2, f2, e2, -⟩ := r9.y
  obtain ⟨b3, m3, f3, e3, -⟩ := r9.tr
  obtain ⟨b4, m4, f4, e4, -⟩ := r9.sc
  obtain ⟨b5, m5, f5, e5, -⟩ := r9.wr
  dsimp only at e1 e2 e3 e4 e5
  subst e1 e2 e3 e4 e5
  have HV9 := Lib.hid r9
  clear r9
  unfold RecV.val
  dsimp only
  go_upto_region 9 with fail
  generalize hw10 : World.alloc w9 _ = w10
  have HC10 : Hid (At9 w10 w9.heap.size 24 (.int .i64 k) (.slice b1 m1 f1) (.int .i64 e) (.int .i64 t) (.int .i64 b) (.slice b2 m2 f2) (.slice b3 m3 f3) (.slice b4 m4 f4) (.slice b5 m5 f5)) := Lib.hid (by rw [← hw10]; exact heap_alloc_new _ _)
  have N10 : New w9 w10 := by rw [← hw10]; exact (Below.refl _ _).alloc (Nat.le_refl _) _
  clear hw10
  obtain ⟨gx, hgx⟩ : ∃ gx, w9.heap.size = gx := ⟨_, rfl⟩
  rw [hgx] at HC10
  rw [hgx]
  clear hgx
  have hdr : New w10 w10.drew := (Below.refl _ _).drew
  have NN10 : New w w10.drew := (New.trans NN9 N10).drew
  have HI10 := Lib.hid ((HI9.out.new N10).new hdr)
  have HB10 := Lib.hid ((HB9.out.new N10).new hdr)
  have HX10 : Hid (InBlk w10.drew gx ⟨.slice b1 m1 f1, .slice b2 m2 f2, .slice b3 m3 f3, .slice b4 m4 f4, .slice b5 m5 f5⟩ ⟨k, g, e, t, b, y, tr, sc, wr⟩) := Lib.hid (InBlk.new ⟨HC10.out, HV9.out.new N10⟩ hdr)
  clear HC10 HV9 N10 NN9 HI9 HB9 hdr
  have HWR := Lib.hid (fun wx h => refWrite12 wx ⟨.slice a1 n1 c1, .slice a2 n2 c2, .slice a3 n3 c3, .slice a4 n4 c4, .slice a5 n5 c5⟩ ⟨k, g, e, t, b, y, tr, sc, wr⟩ h HO.out)
  have HSM := Lib.hid (fun wx h1 h2 => refSame12 wx ⟨.slice b1 m1 f1, .slice b2 m2 f2, .slice b3 m3 f3, .slice b4 m4 f4, .slice b5 m5 f5⟩ ⟨.slice a1 n1 c1, .slice a2 n2 c2, .slice a3 n3 c3, .slice a4 n4 c4, .slice a5 n5 c5⟩ ⟨k, g, e, t, b, y, tr, sc, wr⟩ ⟨k, g, e, t, b, y, tr, sc, wr⟩ h1 h2)
  rw [rSame_self] at HSM
  refine region_ord (SD12 gb gx k e t b (.slice a1 n1 c1) (.slice a2 n2 c2) (.slice a3 n3 c3) (.slice a4 n4 c4) (.slice a5 n5 c5) (.slice b1 m1 f1) (.slice b2 m2 f2) (.slice b3 m3 f3) (.slice b4 m4 f4) (.slice b5 m5 f5) (.slice a n c) (RecL.enc ⟨k, g, e, t, b, y, tr, sc, wr⟩)) [(0, true), (1, true), (2, true), (3, false), (4, true), (5, true), (6, true), (7, true), (8, true), (9, true), (10, true), (11, true), (12, false), (13, true), (14, true)] (by kernel_rfl) (by kernel_rfl) ⟨HI10.out.at_.cells, HX10.out.at_.cells, run_str (P := Try.prog) Try.underlying22 Try.underlying5 Try.underlying9 HB10.out⟩ (fun _ => ?_)
  generalize w10.drew = w11 at *
  have kb : ((bstr (RecL.enc ⟨k, g, e, t, b, y, tr, sc, wr⟩)).toList == (bstr (RecL.enc ⟨k, g, e, t, b, y, tr, sc, wr⟩)).toList) = true := by simp
  unfold RWroteTo at HWR
  generalize RecL.enc ⟨k, g, e, t, b, y, tr, sc, wr⟩ = EN at *
  unfold SD12
  iterate 3 (apply ord_take; (simp only [List.getElem?_toArray, List.getElem?_cons_succ, List.getElem?_cons_zero]; rfl); rfl; (intro w hSw; (try dsimp only at hSw); go_simp; try with_reducible rfl); intro _; try simp only [Act.put, List.setIfInBounds_toArray, List.set_cons_zero, List.set_cons_succ])
  (apply ord_only; (simp only [List.getElem?_toArray, List.getElem?_cons_succ, List.getElem?_cons_zero]; rfl); rfl; intro K hK)
  go_simp
  refine (HWR.out w11 HI10.out.rd).mono ?_
  rintro _ w12 ⟨rfl, N12⟩
  replace NN10 := New.trans NN10 N12
  replace HI10 := Lib.hid (HI10.out.new N12)
  replace HX10 := Lib.hid (HX10.out.new N12)
  replace HB10 := Lib.hid (HB10.out.new N12)
  clear N12
  refine hK.out _ _ (⟨HI10.out.at_.cells, HX10.out.at_.cells, run_str (P := Try.prog) Try.underlying22 Try.underlying5 Try.underlying9 HB10.out⟩) (fun _ => ?_)
  clear hK K
  try simp only [Act.put, List.setIfInBounds_toArray, List.set_cons_zero, List.set_cons_succ]
  iterate 8 (apply ord_take; (simp only [List.getElem?_toArray, List.getElem?_cons_succ, List.getElem?_cons_zero]; rfl); rfl; (intro w hSw; (try dsimp only at hSw); go_simp; try with_reducible rfl); intro _; try simp only [Act.put, List.setIfInBounds_toArray, List.set_cons_zero, List.set_cons_succ])
  (apply ord_only; (simp only [List.getElem?_toArray, List.getElem?_cons_succ, List.getElem?_cons_zero]; rfl); rfl; intro K hK)
  go_simp
  refine (HSM.out w12 HX10.out.rd HI10.out.rd).mono ?_
  rintro _ w13 ⟨rfl, N13⟩
  replace NN10 := New.trans NN10 N13
  replace HI10 := Lib.hid (HI10.out.new N13)
  replace HX10 := Lib.hid (HX10.out.new N13)
  replace HB10 := Lib.hid (HB10.out.new N13)
  clear N13
  refine hK.out _ _ (⟨HI10.out.at_.cells, HX10.out.at_.cells, run_str (P := Try.prog) Try.underlying22 Try.underlying5 Try.underlying9 HB10.out⟩) (fun _ => ?_)
  clear hK K
  try simp only [Act.put, List.setIfInBounds_toArray, List.set_cons_zero, List.set_cons_succ]
  iterate 2 (apply ord_take; (simp only [List.getElem?_toArray, List.getElem?_cons_succ, List.getElem?_cons_zero]; rfl); rfl; (intro w hSw; (try dsimp only at hSw); go_simp; try with_reducible rfl); intro _; try simp only [Act.put, List.setIfInBounds_toArray, List.set_cons_zero, List.set_cons_succ])
  apply ord_done
  go_wp2
  go_ret
  exact ⟨rfl, NN10⟩

end Go.Proofs.Ytjekbolfaakmbaa
