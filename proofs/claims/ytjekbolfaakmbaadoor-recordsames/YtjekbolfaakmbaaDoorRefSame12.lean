/-
  The reference's Same, Great of layer 12.
-/
import Derived.Test.YtjekbolfaakmbaaDoorRecSpec
import Derived.Test.YtjekbolfaakmbaaDoorRec9
import Derived.Test.YtjekbolfaakmbaaDoorBase
import Derived.Deep.Cut
namespace Go.Proofs.YtjekbolfaakmbaaDoor
set_option linter.unusedVariables false
set_option linter.unusedSimpArgs false
open Go.RowKit

def SameTo (w : World) (o : Bool) (e : Ending) (w' : World) : Prop := e = .returned (.bool o) ∧ New w w'

set_option maxRecDepth 100000 in
set_option maxHeartbeats 2000000 in
theorem refSame12 (w : World) (u v : RecV) (r s : RecL) (hu : RecR w u r) (hv : RecR w v s) :
    Calls Tryd.prog 7 #[u.val r, v.val s] w (SameTo w (rSame r s)) := by
  have HU := Lib.hid hu
  have HV := Lib.hid hv
  obtain ⟨a1, n1, c1, e1, -⟩ := hu.g
  obtain ⟨a2, n2, c2, e2, -⟩ := hu.y
  obtain ⟨a3, n3, c3, e3, -⟩ := hu.tr
  obtain ⟨a4, n4, c4, e4, -⟩ := hu.sc
  obtain ⟨a5, n5, c5, e5, -⟩ := hu.wr
  obtain ⟨b1, m1, f1, i1, -⟩ := hv.g
  obtain ⟨b2, m2, f2, i2, -⟩ := hv.y
  obtain ⟨b3, m3, f3, i3, -⟩ := hv.tr
  obtain ⟨b4, m4, f4, i4, -⟩ := hv.sc
  obtain ⟨b5, m5, f5, i5, -⟩ := hv.wr
  clear hu hv
  rw [rSame_eq]
  unfold RecV.val
  obtain ⟨ug, uy, utr, usc, uwr⟩ := u
  obtain ⟨vg, vy, vtr, vsc, vwr⟩ := v
  dsimp only at *
  subst e1 e2 e3 e4 e5 i1 i2 i3 i4 i5
  obtain ⟨rk, rg, re, rt, rb, ry, rtr, rsc, rwr⟩ := r
  obtain ⟨sk, sg, se, st, sb, sy, str, ssc, swr⟩ := s
  dsimp only at *
  obtain ⟨q1, d1⟩ : ∃ x, (rk == sk) = x := ⟨_, rfl⟩
  obtain ⟨q2, d2⟩ : ∃ x, (re == se) = x := ⟨_, rfl⟩
  obtain ⟨q3, d3⟩ : ∃ x, (rt == st) = x := ⟨_, rfl⟩
  obtain ⟨q4, d4⟩ : ∃ x, (rb == sb) = x := ⟨_, rfl⟩
  obtain ⟨q5, d5⟩ : ∃ x, ((bstr rg).toList == (bstr sg).toList) = x := ⟨_, rfl⟩
  obtain ⟨q6, d6⟩ : ∃ x, ((bstr ry).toList == (bstr sy).toList) = x := ⟨_, rfl⟩
  obtain ⟨q7, d7⟩ : ∃ x, ((bstr rtr).toList == (bstr str).toList) = x := ⟨_, rfl⟩
  obtain ⟨q8, d8⟩ : ∃ x, ((bstr rsc).toList == (bstr ssc).toList) = x := ⟨_, rfl⟩
  obtain ⟨q9, d9⟩ : ∃ x, ((bstr rwr).toList == (bstr swr).toList) = x := ⟨_, rfl⟩
  rw [d1, d2, d3, d4, d5, d6, d7, d8, d9]
  go_enter Tryd.func7, Tryd.ntmps7
  go_upto_region 1 with fail
  simp only [List.append_eq, List.cons_append, List.nil_append]
  have N2 : New w ((w.alloc (.cells #[.int .i64 rk, .slice a1 n1 c1, .int .i64 re, .int .i64 rt, .int .i64 rb, .slice a2 n2 c2, .slice a3 n3 c3, .slice a4 n4 c4, .slice a5 n5 c5] 24)).alloc (.cells #[.int .i64 sk, .slice b1 m1 f1, .int .i64 se, .int .i64 st, .int .i64 sb, .slice b2 m2 f2, .slice b3 m3 f3, .slice b4 m4 f4, .slice b5 m5 f5] 24)) := ((Below.refl _ _).alloc (Nat.le_refl _) _).alloc (by simp) _
  have A2 := At9.made (w.alloc (.cells #[.int .i64 rk, .slice a1 n1 c1, .int .i64 re, .int .i64 rt, .int .i64 rb, .slice a2 n2 c2, .slice a3 n3 c3, .slice a4 n4 c4, .slice a5 n5 c5] 24)) 24 (.int .i64 sk) (.slice b1 m1 f1) (.int .i64 se) (.int .i64 st) (.int .i64 sb) (.slice b2 m2 f2) (.slice b3 m3 f3) (.slice b4 m4 f4) (.slice b5 m5 f5)
  have A1 := (At9.made w 24 (.int .i64 rk) (.slice a1 n1 c1) (.int .i64 re) (.int .i64 rt) (.int .i64 rb) (.slice a2 n2 c2) (.slice a3 n3 c3) (.slice a4 n4 c4) (.slice a5 n5 c5)).new (w' := (w.alloc (.cells #[.int .i64 rk, .slice a1 n1 c1, .int .i64 re, .int .i64 rt, .int .i64 rb, .slice a2 n2 c2, .slice a3 n3 c3, .slice a4 n4 c4, .slice a5 n5 c5] 24)).alloc (.cells #[.int .i64 sk, .slice b1 m1 f1, .int .i64 se, .int .i64 st, .int .i64 sb, .slice b2 m2 f2, .slice b3 m3 f3, .slice b4 m4 f4, .slice b5 m5 f5] 24)) ((Below.refl _ _).alloc (Nat.le_refl _) _)
  rw [show (w.alloc (.cells #[.int .i64 rk, .slice a1 n1 c1, .int .i64 re, .int .i64 rt, .int .i64 rb, .slice a2 n2 c2, .slice a3 n3 c3, .slice a4 n4 c4, .slice a5 n5 c5] 24)).heap.size = w.heap.size + 1 by simp] at A2
  generalize (w.alloc (.cells #[.int .i64 rk, .slice a1 n1 c1, .int .i64 re, .int .i64 rt, .int .i64 rb, .slice a2 n2 c2, .slice a3 n3 c3, .slice a4 n4 c4, .slice a5 n5 c5] 24)).alloc (.cells #[.int .i64 sk, .slice b1 m1 f1, .int .i64 se, .int .i64 st, .int .i64 sb, .slice b2 m2 f2, .slice b3 m3 f3, .slice b4 m4 f4, .slice b5 m5 f5] 24) = w2 at *
  obtain ⟨x0, x1, x2, x3, x4, x5, x6, x7, x8⟩ := A1.cells
  obtain ⟨y0, y1, y2, y3, y4, y5, y6, y7, y8⟩ := A2.cells
  clear A1 A2
  cases q1
  · go_wp2
    go_ret
    exact ⟨rfl, N2⟩
  rw [Bool.true_and]
  cases q2
  · go_wp2
    go_ret
    exact ⟨rfl, N2⟩
  rw [Bool.true_and]
  cases q3
  · go_wp2
    go_ret
    exact ⟨rfl, N2⟩
  rw [Bool.true_and]
  cases q4
  · go_wp2
    go_ret
    exact ⟨rfl, N2⟩
  rw [Bool.true_and]
  have k1 := run_str (P := Tryd.prog) Tryd.underlying22 Tryd.underlying5 Tryd.underlying9 (HU.out.g.new N2)
  have j1 := run_str (P := Tryd.prog) Tryd.underlying22 Tryd.underlying5 Tryd.underlying9 (HV.out.g.new N2)
  dsimp only at k1 j1
  cases q5
  · go_wp2
    go_ret
    exact ⟨rfl, N2⟩
  rw [Bool.true_and]
  have k2 := run_str (P := Tryd.prog) Tryd.underlying22 Tryd.underlying5 Tryd.underlying9 (HU.out.y.new N2)
  have j2 := run_str (P := Tryd.prog) Tryd.underlying22 Tryd.underlying5 Tryd.underlying9 (HV.out.y.new N2)
  dsimp only at k2 j2
  cases q6
  · go_wp2
    go_ret
    exact ⟨rfl, N2⟩
  rw [Bool.true_and]
  have k3 := run_str (P := Tryd.prog) Tryd.underlying22 Tryd.underlying5 Tryd.underlying9 (HU.out.tr.new N2)
  have j3 := run_str (P := Tryd.prog) Tryd.underlying22 Tryd.underlying5 Tryd.underlying9 (HV.out.tr.new N2)
  dsimp only at k3 j3
  cases q7
  · go_wp2
    go_ret
    exact ⟨rfl, N2⟩
  rw [Bool.true_and]
  have k4 := run_str (P := Tryd.prog) Tryd.underlying22 Tryd.underlying5 Tryd.underlying9 (HU.out.sc.new N2)
  have j4 := run_str (P := Tryd.prog) Tryd.underlying22 Tryd.underlying5 Tryd.underlying9 (HV.out.sc.new N2)
  dsimp only at k4 j4
  cases q8
  · go_wp2
    go_ret
    exact ⟨rfl, N2⟩
  rw [Bool.true_and]
  have k5 := run_str (P := Tryd.prog) Tryd.underlying22 Tryd.underlying5 Tryd.underlying9 (HU.out.wr.new N2)
  have j5 := run_str (P := Tryd.prog) Tryd.underlying22 Tryd.underlying5 Tryd.underlying9 (HV.out.wr.new N2)
  dsimp only at k5 j5
  cases q9
  · go_wp2
    go_ret
    exact ⟨rfl, N2⟩
  · go_wp2
    go_ret
    exact ⟨rfl, N2⟩

set_option maxRecDepth 100000 in
set_option maxHeartbeats 400000 in
theorem refGreat12 (w : World) (k e t b : Int) (ag ay at_ as_ aw : Option Addr) (ng cg ny cy nt ct ns cs nw cw : Nat) (hg : ng < 140737488355328) (hy : ny < 140737488355328) (ht : nt < 140737488355328) (hs : ns < 140737488355328) (hw : nw < 140737488355328) :
    Calls Tryd.prog 5 #[.agg #[.int .i64 k, .slice ag ng cg, .int .i64 e, .int .i64 t, .int .i64 b, .slice ay ny cy, .slice at_ nt ct, .slice as_ ns cs, .slice aw nw cw]] w fun e w' => e = .returned (.int .i64 ((ng + ny + nt + ns + nw : Nat) : Int)) ∧ New w w' := by
  go_enter Tryd.func5, Tryd.ntmps5
  go_wp2
  go_ret
  refine ⟨?_, (Below.refl _ _).alloc (Nat.le_refl _) _⟩
  congr 2

end Go.Proofs.YtjekbolfaakmbaaDoor
