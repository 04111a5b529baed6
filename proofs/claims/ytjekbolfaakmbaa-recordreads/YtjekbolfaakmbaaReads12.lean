/-
  RecordReads: the walk.
-/
import Derived.Test.YtjekbolfaakmbaaLaw12
import Derived.Test.YtjekbolfaakmbaaRefRead12
import Derived.Test.YtjekbolfaakmbaaRefSame12
namespace Go.Proofs.Ytjekbolfaakmbaa
set_option linter.unusedVariables false
set_option linter.unusedSimpArgs false
open Go.RowKit

set_option maxRecDepth 100000 in
set_option maxHeartbeats 2000000 in
theorem reads12Walk (w : World) (x : Value) (l : List UInt8) (hx : Rd w x l) : Calls Try.prog 4 #[x] w fun e w' => e = .returned (.bool true) ∧ New w w' := by
  have HX := Lib.hid hx
  obtain ⟨ax, nx, cx, rfl, hax, -⟩ := hx
  by_cases h1 : 1000 < nx
  · have d1 : decide ((1000 : Int) < (nx : Int)) = true := by simp; omega
    clear hax
    go_enter Try.func4, Try.ntmps4
    go_wp2_with fail
    refine (awake12 w).mono ?_
    rintro _ w1 ⟨rfl, N1⟩
    go_wp2_with fail
    refine (awake12 w1).mono ?_
    rintro _ w2 ⟨rfl, N2⟩
    go_wp2
    go_ret
    exact ⟨rfl, New.trans N1 N2⟩
  have d1 : decide ((1000 : Int) < (nx : Int)) = false := by simp; omega
  have HLen : Hid (l.length ≤ 140737488355328) := Lib.hid (by omega)
  clear hax h1
  go_enter Try.func4, Try.ntmps4
  go_wp2_with fail
  refine (awake12 w).mono ?_
  rintro _ w1 ⟨rfl, N1⟩
  have ks := run_str (P := Try.prog) Try.underlying22 Try.underlying5 Try.underlying9 (HX.out.new N1)
  go_wp2_with fail
  clear ks d1
  refine (recRead w1 _ l (HX.out.new N1) HLen.out).mono ?_
  rintro _ w2 ⟨v, rfl, r2, N2⟩
  have HCN := Lib.hid (rec_canon l)
  have HFR := Lib.hid (fun wx => refRead12 wx l HLen.out)
  unfold ReadTo12 at HFR
  obtain ⟨R, hR⟩ : ∃ R, rOut l = R := ⟨_, rfl⟩
  obtain ⟨E, hE⟩ : ∃ E, rOutErr l = E := ⟨_, rfl⟩
  rw [hR] at r2 HCN HFR ⊢
  rw [hE] at HCN HFR ⊢
  clear hR hE
  have NN2 := New.trans N1 N2
  clear N1 N2
  obtain ⟨vg, vy, vt, vs, vw⟩ := v
  obtain ⟨a1, n1, c1, e1, -⟩ := r2.g
  obtain ⟨a2, n2, c2, e2, -⟩ := r2.y
  obtain ⟨a3, n3, c3, e3, -⟩ := r2.tr
  obtain ⟨a4, n4, c4, e4, -⟩ := r2.sc
  obtain ⟨a5, n5, c5, e5, -⟩ := r2.wr
  dsimp only at e1 e2 e3 e4 e5
  subst e1 e2 e3 e4 e5
  have HV2 := Lib.hid r2
  clear r2
  obtain ⟨k, g, e, t, b, y, tr, sc, wr⟩ := R
  unfold RecV.val
  dsimp only
  go_upto_region 5 with fail
  generalize hw3 : World.alloc w2 _ = w3
  have HC3 : Hid (At9 w3 w2.heap.size 24 (.int .i64 k) (.slice a1 n1 c1) (.int .i64 e) (.int .i64 t) (.int .i64 b) (.slice a2 n2 c2) (.slice a3 n3 c3) (.slice a4 n4 c4) (.slice a5 n5 c5)) := Lib.hid (by rw [← hw3]; exact heap_alloc_new _ _)
  have N3 : New w2 w3 := by rw [← hw3]; exact (Below.refl _ _).alloc (Nat.le_refl _) _
  clear hw3
  have HI3 : Hid (InBlk w3 w2.heap.size ⟨.slice a1 n1 c1, .slice a2 n2 c2, .slice a3 n3 c3, .slice a4 n4 c4, .slice a5 n5 c5⟩ ⟨k, g, e, t, b, y, tr, sc, wr⟩) := Lib.hid ⟨HC3.out, HV2.out.new N3⟩
  have NN3 := New.trans NN2 N3
  clear HC3 HV2 N3 NN2
  obtain ⟨gb, hgb⟩ : ∃ gb, w2.heap.size = gb := ⟨_, rfl⟩
  rw [hgb] at HI3
  rw [hgb]
  clear hgb
  go_wp2_with fail
  refine (HFR.out w3).mono ?_
  rintro _ w4 ⟨v, rfl, r4, N4⟩
  have NN4 := New.trans NN3 N4
  have HI4 := Lib.hid (HI3.out.new N4)
  clear N4 NN3 HI3 HFR
  obtain ⟨vg, vy, vt, vs, vw⟩ := v
  obtain ⟨b1, m1, f1, e1, -⟩ := r4.g
  obtain ⟨b2, m2, f2, e2, -⟩ := r4.y
  obtain ⟨b3, m3, f3, e3, -⟩ := r4.tr
  obtain ⟨b4, m4, f4, e4, -⟩ := r4.sc
  obtain ⟨b5, m5, f5, e5, -⟩ := r4.wr
  dsimp only at e1 e2 e3 e4 e5
  subst e1 e2 e3 e4 e5
  have HV4 := Lib.hid r4
  clear r4
  unfold RecV.val
  dsimp only
  go_upto_region 6 with fail
  generalize hw5 : World.alloc w4 _ = w5
  have HC5 : Hid (At9 w5 w4.heap.size 24 (.int .i64 k) (.slice b1 m1 f1) (.int .i64 e) (.int .i64 t) (.int .i64 b) (.slice b2 m2 f2) (.slice b3 m3 f3) (.slice b4 m4 f4) (.slice b5 m5 f5)) := Lib.hid (by rw [← hw5]; exact heap_alloc_new _ _)
  have N5 : New w4 w5 := by rw [← hw5]; exact (Below.refl _ _).alloc (Nat.le_refl _) _
  clear hw5
  have HX5 : Hid (InBlk w5 w4.heap.size ⟨.slice b1 m1 f1, .slice b2 m2 f2, .slice b3 m3 f3, .slice b4 m4 f4, .slice b5 m5 f5⟩ ⟨k, g, e, t, b, y, tr, sc, wr⟩) := Lib.hid ⟨HC5.out, HV4.out.new N5⟩
  have NN5 := New.trans NN4 N5
  have HI5 := Lib.hid (HI4.out.new N5)
  clear HC5 HV4 N5 NN4 HI4
  obtain ⟨gx, hgx⟩ : ∃ gx, w4.heap.size = gx := ⟨_, rfl⟩
  rw [hgx] at HX5
  rw [hgx]
  clear hgx
  have ke : (E != E) = false := by simp
  have hc := HI5.out.at_.cells
  dsimp only at hc
  obtain ⟨x0, x1, x2, x3, x4, x5, x6, x7, x8⟩ := hc
  have hd := HX5.out.at_.cells
  dsimp only at hd
  obtain ⟨y0, y1, y2, y3, y4, y5, y6, y7, y8⟩ := hd
  have HSM := Lib.hid (refSame12 w5 _ _ _ _ HI5.out.rd HX5.out.rd)
  rw [rSame_self] at HSM
  go_wp2_with fail
  refine HSM.out.mono ?_
  rintro _ w6 ⟨rfl, N6⟩
  have NN6 := New.trans NN5 N6
  have HI6 := Lib.hid (HI5.out.new N6)
  clear N6 NN5 HI5 HX5 HSM x0 x1 x2 x3 x4 x5 x6 x7 x8 y0 y1 y2 y3 y4 y5 y6 y7 y8 ke
  have ks := run_str (P := Try.prog) Try.underlying22 Try.underlying5 Try.underlying9 (HX.out.new NN6)
  have kn : ((bstr l).toList != (bstr l).toList) = false := by simp
  have hc := HI6.out.at_.cells
  dsimp only at hc
  obtain ⟨x0, x1, x2, x3, x4, x5, x6, x7, x8⟩ := hc
  go_wp2_with fail
  clear ks kn
  refine (recWrite w6 _ _ HI6.out.rd).mono ?_
  rintro _ w7 ⟨a, n, c, rfl, rb, N7⟩
  clear x0 x1 x2 x3 x4 x5 x6 x7 x8
  have NN7 := New.trans NN6 N7
  clear N7 NN6 HI6
  by_cases he : E = 0
  · have hcn := HCN.out he
    have hw : RecL.wrote ⟨k, g, e, t, b, y, tr, sc, wr⟩ = l := (if_pos hcn.1).trans hcn.2
    rw [hw] at rb
    rw [hcn.1]
    subst he
    have ks := run_str (P := Try.prog) Try.underlying22 Try.underlying5 Try.underlying9 rb
    have kb : ((bstr l).toList == (bstr l).toList) = true := by simp
    clear hcn hw rb HCN
    go_wp2
    go_ret
    exact ⟨rfl, NN7⟩
  · have de : (E != 0) = true := by simpa using he
    clear he HCN rb
    go_wp2
    go_ret
    exact ⟨rfl, NN7⟩

end Go.Proofs.Ytjekbolfaakmbaa
