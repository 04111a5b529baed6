/-
  RecordSames: the walk.
-/
import Derived.Test.YtjekbolfaakmbaaDoorLaw12
import Derived.Test.YtjekbolfaakmbaaDoorRefSame12
import Derived.Test.YtjekbolfaakmbaaDoorRecChain
import Derived.Test.YtjekbolfaakmbaaDoorBase
namespace Go.Proofs.YtjekbolfaakmbaaDoor
set_option linter.unusedVariables false
set_option linter.unusedSimpArgs false
open Go.RowKit

/-- what the great region reads -/
def SE12 (q p : Nat) (k e t b : Int) (a1 a2 a3 a4 a5 : Value) (k' e' t' b' : Int) (b1 b2 b3 b4 b5 : Value) (l m : List UInt8) (w : World) : Prop :=
  (w.cell? ⟨q, 0, none⟩ = some (.int .i64 k) ∧ w.cell? ⟨q, 1, none⟩ = some a1 ∧ w.cell? ⟨q, 2, none⟩ = some (.int .i64 e) ∧ w.cell? ⟨q, 3, none⟩ = some (.int .i64 t) ∧ w.cell? ⟨q, 4, none⟩ = some (.int .i64 b) ∧ w.cell? ⟨q, 5, none⟩ = some a2 ∧ w.cell? ⟨q, 6, none⟩ = some a3 ∧ w.cell? ⟨q, 7, none⟩ = some a4 ∧ w.cell? ⟨q, 8, none⟩ = some a5) ∧
  (w.cell? ⟨p, 0, none⟩ = some (.int .i64 k') ∧ w.cell? ⟨p, 1, none⟩ = some b1 ∧ w.cell? ⟨p, 2, none⟩ = some (.int .i64 e') ∧ w.cell? ⟨p, 3, none⟩ = some (.int .i64 t') ∧ w.cell? ⟨p, 4, none⟩ = some (.int .i64 b') ∧ w.cell? ⟨p, 5, none⟩ = some b2 ∧ w.cell? ⟨p, 6, none⟩ = some b3 ∧ w.cell? ⟨p, 7, none⟩ = some b4 ∧ w.cell? ⟨p, 8, none⟩ = some b5) ∧
  (convert 22 9 a2).run Tryd.prog w = .ok (.string (bstr l)) w ∧ (convert 22 9 b2).run Tryd.prog w = .ok (.string (bstr m)) w

/-- both records in their blocks -/
structure Two12 (w : World) (ga gb : Nat) (u v : RecV) (r s : RecL) : Prop where
  a : InBlk w ga u r
  b : InBlk w gb v s

theorem Two12.new {w w' : World} {ga gb : Nat} {u v : RecV} {r s : RecL} (h : Two12 w ga gb u v r s) (hn : New w w') : Two12 w' ga gb u v r s := ⟨h.a.new hn, h.b.new hn⟩

theorem Two12.se {w : World} {ga gb : Nat} {u v : RecV} {r s : RecL} (h : Two12 w ga gb u v r s) : SE12 ga gb r.kind r.epoch r.time r.bucket u.g u.y u.tr u.sc u.wr s.kind s.epoch s.time s.bucket v.g v.y v.tr v.sc v.wr r.body s.body w :=
  ⟨h.a.at_.cells, h.b.at_.cells, run_str (P := Tryd.prog) Tryd.underlying22 Tryd.underlying5 Tryd.underlying9 h.a.rd.y, run_str (P := Tryd.prog) Tryd.underlying22 Tryd.underlying5 Tryd.underlying9 h.b.rd.y⟩


set_option maxRecDepth 100000 in
set_option maxHeartbeats 2000000 in
theorem samesWalk (w : World) (u : RecV) (r : RecL) (hu : RecR w u r) (hb : r.group.length < 140737488355328 ∧ r.body.length < 140737488355328 ∧ r.tree.length < 140737488355328 ∧ r.script.length < 140737488355328 ∧ r.wrapped.length < 140737488355328)
    (v : RecV) (s : RecL) (hv : RecR w v s) (hb' : s.group.length < 140737488355328 ∧ s.body.length < 140737488355328 ∧ s.tree.length < 140737488355328 ∧ s.script.length < 140737488355328 ∧ s.wrapped.length < 140737488355328) (hL : Laid w) :
    Calls Tryd.prog 3 #[u.val r, v.val s] w fun e w' => e = .returned (.bool true) ∧ New w w' := by
  have HU := Lib.hid hu
  have HV := Lib.hid hv
  have HL := Lib.hid hL
  obtain ⟨a1, n1, c1, e1, l1, -⟩ := hu.g
  obtain ⟨a2, n2, c2, e2, l2, -⟩ := hu.y
  obtain ⟨a3, n3, c3, e3, l3, -⟩ := hu.tr
  obtain ⟨a4, n4, c4, e4, l4, -⟩ := hu.sc
  obtain ⟨a5, n5, c5, e5, l5, -⟩ := hu.wr
  obtain ⟨b1, m1, f1, i1, o1, -⟩ := hv.g
  obtain ⟨b2, m2, f2, i2, o2, -⟩ := hv.y
  obtain ⟨b3, m3, f3, i3, o3, -⟩ := hv.tr
  obtain ⟨b4, m4, f4, i4, o4, -⟩ := hv.sc
  obtain ⟨b5, m5, f5, i5, o5, -⟩ := hv.wr
  rw [l1, l2, l3, l4, l5] at hb
  rw [o1, o2, o3, o4, o5] at hb'
  have HGa := Lib.hid (fun wx => refGreat12 wx r.kind r.epoch r.time r.bucket a1 a2 a3 a4 a5 n1 c1 n2 c2 n3 c3 n4 c4 n5 c5 hb.1 hb.2.1 hb.2.2.1 hb.2.2.2.1 hb.2.2.2.2)
  have HGb := Lib.hid (fun wx => refGreat12 wx s.kind s.epoch s.time s.bucket b1 b2 b3 b4 b5 m1 f1 m2 f2 m3 f3 m4 f4 m5 f5 hb'.1 hb'.2.1 hb'.2.2.1 hb'.2.2.2.1 hb'.2.2.2.2)
  have HLen : Hid (r.body.length ≤ n1 + n2 + n3 + n4 + n5 ∧ s.body.length ≤ m1 + m2 + m3 + m4 + m5) := Lib.hid ⟨by omega, by omega⟩
  clear l1 l2 l3 l4 l5 o1 o2 o3 o4 o5 hu hv hb hb' hL
  obtain ⟨sa, hsa⟩ : ∃ x, n1 + n2 + n3 + n4 + n5 = x := ⟨_, rfl⟩
  obtain ⟨sb', hsb⟩ : ∃ x, m1 + m2 + m3 + m4 + m5 = x := ⟨_, rfl⟩
  rw [hsa] at HGa HLen
  rw [hsb] at HGb HLen
  clear hsa hsb
  unfold RecV.val
  obtain ⟨ug, uy, utr, usc, uwr⟩ := u
  obtain ⟨vg, vy, vtr, vsc, vwr⟩ := v
  dsimp only at *
  subst e1 e2 e3 e4 e5 i1 i2 i3 i4 i5
  obtain ⟨rk, rg, re, rt, rb, ry, rtr, rsc, rwr⟩ := r
  obtain ⟨sk, sg, se, st, sb, sy, str, ssc, swr⟩ := s
  dsimp only at *
  by_cases h4 : 600 < sa
  · have d4 : decide ((600 : Int) < (sa : Int)) = true := by simp; omega
    clear h4
    go_enter Tryd.func3, Tryd.ntmps3
    go_upto_region 1 with fail
    have N2 : New w ((w.alloc (.cells #[.int .i64 rk, .slice a1 n1 c1, .int .i64 re, .int .i64 rt, .int .i64 rb, .slice a2 n2 c2, .slice a3 n3 c3, .slice a4 n4 c4, .slice a5 n5 c5] 24)).alloc (.cells #[.int .i64 sk, .slice b1 m1 f1, .int .i64 se, .int .i64 st, .int .i64 sb, .slice b2 m2 f2, .slice b3 m3 f3, .slice b4 m4 f4, .slice b5 m5 f5] 24)) := ((Below.refl _ _).alloc (Nat.le_refl _) _).alloc (by simp) _
    have A2 := At9.made (w.alloc (.cells #[.int .i64 rk, .slice a1 n1 c1, .int .i64 re, .int .i64 rt, .int .i64 rb, .slice a2 n2 c2, .slice a3 n3 c3, .slice a4 n4 c4, .slice a5 n5 c5] 24)) 24 (.int .i64 sk) (.slice b1 m1 f1) (.int .i64 se) (.int .i64 st) (.int .i64 sb) (.slice b2 m2 f2) (.slice b3 m3 f3) (.slice b4 m4 f4) (.slice b5 m5 f5)
    have A1 := (At9.made w 24 (.int .i64 rk) (.slice a1 n1 c1) (.int .i64 re) (.int .i64 rt) (.int .i64 rb) (.slice a2 n2 c2) (.slice a3 n3 c3) (.slice a4 n4 c4) (.slice a5 n5 c5)).new (w' := (w.alloc (.cells #[.int .i64 rk, .slice a1 n1 c1, .int .i64 re, .int .i64 rt, .int .i64 rb, .slice a2 n2 c2, .slice a3 n3 c3, .slice a4 n4 c4, .slice a5 n5 c5] 24)).alloc (.cells #[.int .i64 sk, .slice b1 m1 f1, .int .i64 se, .int .i64 st, .int .i64 sb, .slice b2 m2 f2, .slice b3 m3 f3, .slice b4 m4 f4, .slice b5 m5 f5] 24)) ((Below.refl _ _).alloc (Nat.le_refl _) _)
    rw [show (w.alloc (.cells #[.int .i64 rk, .slice a1 n1 c1, .int .i64 re, .int .i64 rt, .int .i64 rb, .slice a2 n2 c2, .slice a3 n3 c3, .slice a4 n4 c4, .slice a5 n5 c5] 24)).heap.size = w.heap.size + 1 by simp] at A2
    generalize (w.alloc (.cells #[.int .i64 rk, .slice a1 n1 c1, .int .i64 re, .int .i64 rt, .int .i64 rb, .slice a2 n2 c2, .slice a3 n3 c3, .slice a4 n4 c4, .slice a5 n5 c5] 24)).alloc (.cells #[.int .i64 sk, .slice b1 m1 f1, .int .i64 se, .int .i64 st, .int .i64 sb, .slice b2 m2 f2, .slice b3 m3 f3, .slice b4 m4 f4, .slice b5 m5 f5] 24) = w1 at *
    have HT1 : Hid (Two12 w1 w.heap.size (w.heap.size + 1) ⟨.slice a1 n1 c1, .slice a2 n2 c2, .slice a3 n3 c3, .slice a4 n4 c4, .slice a5 n5 c5⟩ ⟨.slice b1 m1 f1, .slice b2 m2 f2, .slice b3 m3 f3, .slice b4 m4 f4, .slice b5 m5 f5⟩ ⟨rk, rg, re, rt, rb, ry, rtr, rsc, rwr⟩ ⟨sk, sg, se, st, sb, sy, str, ssc, swr⟩) := Lib.hid ⟨⟨A1, HU.out.new N2⟩, ⟨A2, HV.out.new N2⟩⟩
    obtain ⟨ga, hga⟩ : ∃ ga, w.heap.size = ga := ⟨_, rfl⟩
    rw [hga] at HT1
    rw [hga]
    clear A1 A2 hga
    obtain ⟨gb, hgb⟩ : ∃ gb, ga + 1 = gb := ⟨_, rfl⟩
    rw [hgb] at HT1
    rw [hgb]
    clear hgb
    go_wp2_with fail
    refine (awake12 w1).mono ?_
    rintro _ w2 ⟨rfl, Na⟩
    have NN2 := New.trans N2 Na
    have HT2 := Lib.hid (HT1.out.new Na)
    clear N2 Na HT1
    have hc := HT2.out.a.at_.cells
    dsimp only at hc
    obtain ⟨x0, x1, x2, x3, x4, x5, x6, x7, x8⟩ := hc
    go_wp2_with fail
    refine (HGa.out w2).mono ?_
    rintro _ w3 ⟨rfl, N3⟩
    clear x0 x1 x2 x3 x4 x5 x6 x7 x8
    have NN3 := New.trans NN2 N3
    have HT3 := Lib.hid (HT2.out.new N3)
    clear N3 NN2 HT2
    go_wp2_with fail
    refine (awake12 w3).mono ?_
    rintro _ w5 ⟨rfl, N5⟩
    go_wp2
    go_ret
    exact ⟨rfl, New.trans NN3 N5⟩
  have d4 : decide ((600 : Int) < (sa : Int)) = false := by simp; omega
  by_cases h5 : 600 < sb'
  · have d5 : decide ((600 : Int) < (sb' : Int)) = true := by simp; omega
    clear h4 h5
    go_enter Tryd.func3, Tryd.ntmps3
    go_upto_region 1 with fail
    have N2 : New w ((w.alloc (.cells #[.int .i64 rk, .slice a1 n1 c1, .int .i64 re, .int .i64 rt, .int .i64 rb, .slice a2 n2 c2, .slice a3 n3 c3, .slice a4 n4 c4, .slice a5 n5 c5] 24)).alloc (.cells #[.int .i64 sk, .slice b1 m1 f1, .int .i64 se, .int .i64 st, .int .i64 sb, .slice b2 m2 f2, .slice b3 m3 f3, .slice b4 m4 f4, .slice b5 m5 f5] 24)) := ((Below.refl _ _).alloc (Nat.le_refl _) _).alloc (by simp) _
    have A2 := At9.made (w.alloc (.cells #[.int .i64 rk, .slice a1 n1 c1, .int .i64 re, .int .i64 rt, .int .i64 rb, .slice a2 n2 c2, .slice a3 n3 c3, .slice a4 n4 c4, .slice a5 n5 c5] 24)) 24 (.int .i64 sk) (.slice b1 m1 f1) (.int .i64 se) (.int .i64 st) (.int .i64 sb) (.slice b2 m2 f2) (.slice b3 m3 f3) (.slice b4 m4 f4) (.slice b5 m5 f5)
    have A1 := (At9.made w 24 (.int .i64 rk) (.slice a1 n1 c1) (.int .i64 re) (.int .i64 rt) (.int .i64 rb) (.slice a2 n2 c2) (.slice a3 n3 c3) (.slice a4 n4 c4) (.slice a5 n5 c5)).new (w' := (w.alloc (.cells #[.int .i64 rk, .slice a1 n1 c1, .int .i64 re, .int .i64 rt, .int .i64 rb, .slice a2 n2 c2, .slice a3 n3 c3, .slice a4 n4 c4, .slice a5 n5 c5] 24)).alloc (.cells #[.int .i64 sk, .slice b1 m1 f1, .int .i64 se, .int .i64 st, .int .i64 sb, .slice b2 m2 f2, .slice b3 m3 f3, .slice b4 m4 f4, .slice b5 m5 f5] 24)) ((Below.refl _ _).alloc (Nat.le_refl _) _)
    rw [show (w.alloc (.cells #[.int .i64 rk, .slice a1 n1 c1, .int .i64 re, .int .i64 rt, .int .i64 rb, .slice a2 n2 c2, .slice a3 n3 c3, .slice a4 n4 c4, .slice a5 n5 c5] 24)).heap.size = w.heap.size + 1 by simp] at A2
    generalize (w.alloc (.cells #[.int .i64 rk, .slice a1 n1 c1, .int .i64 re, .int .i64 rt, .int .i64 rb, .slice a2 n2 c2, .slice a3 n3 c3, .slice a4 n4 c4, .slice a5 n5 c5] 24)).alloc (.cells #[.int .i64 sk, .slice b1 m1 f1, .int .i64 se, .int .i64 st, .int .i64 sb, .slice b2 m2 f2, .slice b3 m3 f3, .slice b4 m4 f4, .slice b5 m5 f5] 24) = w1 at *
    have HT1 : Hid (Two12 w1 w.heap.size (w.heap.size + 1) ⟨.slice a1 n1 c1, .slice a2 n2 c2, .slice a3 n3 c3, .slice a4 n4 c4, .slice a5 n5 c5⟩ ⟨.slice b1 m1 f1, .slice b2 m2 f2, .slice b3 m3 f3, .slice b4 m4 f4, .slice b5 m5 f5⟩ ⟨rk, rg, re, rt, rb, ry, rtr, rsc, rwr⟩ ⟨sk, sg, se, st, sb, sy, str, ssc, swr⟩) := Lib.hid ⟨⟨A1, HU.out.new N2⟩, ⟨A2, HV.out.new N2⟩⟩
    obtain ⟨ga, hga⟩ : ∃ ga, w.heap.size = ga := ⟨_, rfl⟩
    rw [hga] at HT1
    rw [hga]
    clear A1 A2 hga
    obtain ⟨gb, hgb⟩ : ∃ gb, ga + 1 = gb := ⟨_, rfl⟩
    rw [hgb] at HT1
    rw [hgb]
    clear hgb
    go_wp2_with fail
    refine (awake12 w1).mono ?_
    rintro _ w2 ⟨rfl, Na⟩
    have NN2 := New.trans N2 Na
    have HT2 := Lib.hid (HT1.out.new Na)
    clear N2 Na HT1
    have hc := HT2.out.a.at_.cells
    dsimp only at hc
    obtain ⟨x0, x1, x2, x3, x4, x5, x6, x7, x8⟩ := hc
    go_wp2_with fail
    refine (HGa.out w2).mono ?_
    rintro _ w3 ⟨rfl, N3⟩
    clear x0 x1 x2 x3 x4 x5 x6 x7 x8
    have NN3 := New.trans NN2 N3
    have HT3 := Lib.hid (HT2.out.new N3)
    clear N3 NN2 HT2
    have hc := HT3.out.b.at_.cells
    dsimp only at hc
    obtain ⟨x0, x1, x2, x3, x4, x5, x6, x7, x8⟩ := hc
    go_wp2_with fail
    refine (HGb.out w3).mono ?_
    rintro _ w4 ⟨rfl, N4⟩
    clear x0 x1 x2 x3 x4 x5 x6 x7 x8
    have NN4 := New.trans NN3 N4
    have HT4 := Lib.hid (HT3.out.new N4)
    clear N4 NN3 HT3
    go_wp2_with fail
    refine (awake12 w4).mono ?_
    rintro _ w5 ⟨rfl, N5⟩
    go_wp2
    go_ret
    exact ⟨rfl, New.trans NN4 N5⟩
  have d5 : decide ((600 : Int) < (sb' : Int)) = false := by simp; omega
  have HLe : Hid (ry.length + sy.length ≤ 1099511627776) := Lib.hid (by have := HLen.out; omega)
  clear h4 h5 HLen
  go_enter Tryd.func3, Tryd.ntmps3
  go_upto_region 1 with fail
  have N2 : New w ((w.alloc (.cells #[.int .i64 rk, .slice a1 n1 c1, .int .i64 re, .int .i64 rt, .int .i64 rb, .slice a2 n2 c2, .slice a3 n3 c3, .slice a4 n4 c4, .slice a5 n5 c5] 24)).alloc (.cells #[.int .i64 sk, .slice b1 m1 f1, .int .i64 se, .int .i64 st, .int .i64 sb, .slice b2 m2 f2, .slice b3 m3 f3, .slice b4 m4 f4, .slice b5 m5 f5] 24)) := ((Below.refl _ _).alloc (Nat.le_refl _) _).alloc (by simp) _
  have A2 := At9.made (w.alloc (.cells #[.int .i64 rk, .slice a1 n1 c1, .int .i64 re, .int .i64 rt, .int .i64 rb, .slice a2 n2 c2, .slice a3 n3 c3, .slice a4 n4 c4, .slice a5 n5 c5] 24)) 24 (.int .i64 sk) (.slice b1 m1 f1) (.int .i64 se) (.int .i64 st) (.int .i64 sb) (.slice b2 m2 f2) (.slice b3 m3 f3) (.slice b4 m4 f4) (.slice b5 m5 f5)
  have A1 := (At9.made w 24 (.int .i64 rk) (.slice a1 n1 c1) (.int .i64 re) (.int .i64 rt) (.int .i64 rb) (.slice a2 n2 c2) (.slice a3 n3 c3) (.slice a4 n4 c4) (.slice a5 n5 c5)).new (w' := (w.alloc (.cells #[.int .i64 rk, .slice a1 n1 c1, .int .i64 re, .int .i64 rt, .int .i64 rb, .slice a2 n2 c2, .slice a3 n3 c3, .slice a4 n4 c4, .slice a5 n5 c5] 24)).alloc (.cells #[.int .i64 sk, .slice b1 m1 f1, .int .i64 se, .int .i64 st, .int .i64 sb, .slice b2 m2 f2, .slice b3 m3 f3, .slice b4 m4 f4, .slice b5 m5 f5] 24)) ((Below.refl _ _).alloc (Nat.le_refl _) _)
  rw [show (w.alloc (.cells #[.int .i64 rk, .slice a1 n1 c1, .int .i64 re, .int .i64 rt, .int .i64 rb, .slice a2 n2 c2, .slice a3 n3 c3, .slice a4 n4 c4, .slice a5 n5 c5] 24)).heap.size = w.heap.size + 1 by simp] at A2
  generalize (w.alloc (.cells #[.int .i64 rk, .slice a1 n1 c1, .int .i64 re, .int .i64 rt, .int .i64 rb, .slice a2 n2 c2, .slice a3 n3 c3, .slice a4 n4 c4, .slice a5 n5 c5] 24)).alloc (.cells #[.int .i64 sk, .slice b1 m1 f1, .int .i64 se, .int .i64 st, .int .i64 sb, .slice b2 m2 f2, .slice b3 m3 f3, .slice b4 m4 f4, .slice b5 m5 f5] 24) = w1 at *
  have HT1 : Hid (Two12 w1 w.heap.size (w.heap.size + 1) ⟨.slice a1 n1 c1, .slice a2 n2 c2, .slice a3 n3 c3, .slice a4 n4 c4, .slice a5 n5 c5⟩ ⟨.slice b1 m1 f1, .slice b2 m2 f2, .slice b3 m3 f3, .slice b4 m4 f4, .slice b5 m5 f5⟩ ⟨rk, rg, re, rt, rb, ry, rtr, rsc, rwr⟩ ⟨sk, sg, se, st, sb, sy, str, ssc, swr⟩) := Lib.hid ⟨⟨A1, HU.out.new N2⟩, ⟨A2, HV.out.new N2⟩⟩
  obtain ⟨ga, hga⟩ : ∃ ga, w.heap.size = ga := ⟨_, rfl⟩
  rw [hga] at HT1
  rw [hga]
  clear A1 A2 hga
  obtain ⟨gb, hgb⟩ : ∃ gb, ga + 1 = gb := ⟨_, rfl⟩
  rw [hgb] at HT1
  rw [hgb]
  clear hgb
  go_wp2_with fail
  refine (awake12 w1).mono ?_
  rintro _ w2 ⟨rfl, Na⟩
  have NN2 := New.trans N2 Na
  have HT2 := Lib.hid (HT1.out.new Na)
  clear N2 Na HT1
  have hc := HT2.out.a.at_.cells
  dsimp only at hc
  obtain ⟨x0, x1, x2, x3, x4, x5, x6, x7, x8⟩ := hc
  go_wp2_with fail
  refine (HGa.out w2).mono ?_
  rintro _ w3 ⟨rfl, N3⟩
  clear x0 x1 x2 x3 x4 x5 x6 x7 x8
  have NN3 := New.trans NN2 N3
  have HT3 := Lib.hid (HT2.out.new N3)
  clear N3 NN2 HT2
  have hc := HT3.out.b.at_.cells
  dsimp only at hc
  obtain ⟨x0, x1, x2, x3, x4, x5, x6, x7, x8⟩ := hc
  go_wp2_with fail
  refine (HGb.out w3).mono ?_
  rintro _ w4 ⟨rfl, N4⟩
  clear x0 x1 x2 x3 x4 x5 x6 x7 x8
  have NN4 := New.trans NN3 N4
  have HT4 := Lib.hid (HT3.out.new N4)
  clear N4 NN3 HT3
  go_upto_region 3 with fail
  have NN : New w w4.drew := NN4.drew
  have HT := Lib.hid (HT4.out.new (Below.refl _ _).drew)
  clear NN4 HT4 d4 d5 HU HV HGa HGb
  have HSM := Lib.hid (fun wx h1 h2 => recSame wx ⟨.slice a1 n1 c1, .slice a2 n2 c2, .slice a3 n3 c3, .slice a4 n4 c4, .slice a5 n5 c5⟩ ⟨.slice b1 m1 f1, .slice b2 m2 f2, .slice b3 m3 f3, .slice b4 m4 f4, .slice b5 m5 f5⟩ ⟨rk, rg, re, rt, rb, ry, rtr, rsc, rwr⟩ ⟨sk, sg, se, st, sb, sy, str, ssc, swr⟩ h1 h2)
  have HSR := Lib.hid (fun wx h1 h2 => refSame12 wx ⟨.slice a1 n1 c1, .slice a2 n2 c2, .slice a3 n3 c3, .slice a4 n4 c4, .slice a5 n5 c5⟩ ⟨.slice b1 m1 f1, .slice b2 m2 f2, .slice b3 m3 f3, .slice b4 m4 f4, .slice b5 m5 f5⟩ ⟨rk, rg, re, rt, rb, ry, rtr, rsc, rwr⟩ ⟨sk, sg, se, st, sb, sy, str, ssc, swr⟩ h1 h2)
  have HSS := Lib.hid (fun wx h1 h2 => recSame wx ⟨.slice a1 n1 c1, .slice a2 n2 c2, .slice a3 n3 c3, .slice a4 n4 c4, .slice a5 n5 c5⟩ ⟨.slice a1 n1 c1, .slice a2 n2 c2, .slice a3 n3 c3, .slice a4 n4 c4, .slice a5 n5 c5⟩ ⟨rk, rg, re, rt, rb, ry, rtr, rsc, rwr⟩ ⟨rk, rg, re, rt, rb, ry, rtr, rsc, rwr⟩ h1 h2)
  rw [rSame_self] at HSS
  have HRC := Lib.hid (fun wx => refChain12 wx ry sy HLe.out)
  have HCC := Lib.hid (fun wx h1 h2 h3 => recChain wx (.slice a2 n2 c2) (.slice b2 m2 f2) ry sy h1 h2 HLe.out h3)
  generalize sha256 (ry ++ sy) = SH at *
  have kb : ((bstr SH).toList == (bstr SH).toList) = true := by simp
  generalize rSame ⟨rk, rg, re, rt, rb, ry, rtr, rsc, rwr⟩ ⟨sk, sg, se, st, sb, sy, str, ssc, swr⟩ = q at *
  have kq : (q == q) = true := by simp
  refine region_ordT (SE12 ga gb rk re rt rb (.slice a1 n1 c1) (.slice a2 n2 c2) (.slice a3 n3 c3) (.slice a4 n4 c4) (.slice a5 n5 c5) sk se st sb (.slice b1 m1 f1) (.slice b2 m2 f2) (.slice b3 m3 f3) (.slice b4 m4 f4) (.slice b5 m5 f5) ry sy) (.take 0 (.take 1 (.take 3 (.take 4 (.only 2 (.only 5 (.take 6 (.take 7 (.take 8 (.take 9 (.only 10 (.take 11 (.take 12 (.take 13 (.take 14 (.take 15 (.take 16 (.take 19 (.take 20 (.take 21 (.take 22 (.take 23 (.take 24 (.only 17 (.two 18 25 (.only 25 (.take 26 (.take 27 (.take 28 .nil)))) (.only 18 (.take 26 (.take 27 (.take 28 .nil))))))))))))))))))))))))))))) (by kernel_rfl) (by kernel_rfl) HT.out.se (fun _ => ?_)
  generalize w4.drew = w5 at *
  unfold SE12
  iterate 4 (apply ordT_take; (simp only [List.getElem?_toArray, List.getElem?_cons_succ, List.getElem?_cons_zero]; rfl); rfl; (intro w hSw; (try dsimp only at hSw); go_simp; try with_reducible rfl); intro _; try simp only [Act.put, List.setIfInBounds_toArray, List.set_cons_zero, List.set_cons_succ])
  (apply ordT_only; (simp only [List.getElem?_toArray, List.getElem?_cons_succ, List.getElem?_cons_zero]; rfl); rfl; intro K hK)
  go_simp
  refine (HSM.out w5 HT.out.a.rd HT.out.b.rd).mono ?_
  rintro _ w6 ⟨rfl, N6⟩
  replace NN := New.trans NN N6
  replace HT := Lib.hid (HT.out.new N6)
  clear N6
  refine hK.out _ _ (HT.out.se) (fun _ => ?_)
  clear hK K
  try simp only [Act.put, List.setIfInBounds_toArray, List.set_cons_zero, List.set_cons_succ]
  (apply ordT_only; (simp only [List.getElem?_toArray, List.getElem?_cons_succ, List.getElem?_cons_zero]; rfl); rfl; intro K hK)
  go_simp
  refine (HSR.out w6 HT.out.a.rd HT.out.b.rd).mono ?_
  rintro _ w7 ⟨rfl, N7⟩
  replace NN := New.trans NN N7
  replace HT := Lib.hid (HT.out.new N7)
  clear N7
  refine hK.out _ _ (HT.out.se) (fun _ => ?_)
  clear hK K
  try simp only [Act.put, List.setIfInBounds_toArray, List.set_cons_zero, List.set_cons_succ]
  iterate 4 (apply ordT_take; (simp only [List.getElem?_toArray, List.getElem?_cons_succ, List.getElem?_cons_zero]; rfl); rfl; (intro w hSw; (try dsimp only at hSw); go_simp; try with_reducible rfl); intro _; try simp only [Act.put, List.setIfInBounds_toArray, List.set_cons_zero, List.set_cons_succ])
  (apply ordT_only; (simp only [List.getElem?_toArray, List.getElem?_cons_succ, List.getElem?_cons_zero]; rfl); rfl; intro K hK)
  go_simp
  refine (HSS.out w7 HT.out.a.rd HT.out.a.rd).mono ?_
  rintro _ w8 ⟨rfl, N8⟩
  replace NN := New.trans NN N8
  replace HT := Lib.hid (HT.out.new N8)
  clear N8
  refine hK.out _ _ (HT.out.se) (fun _ => ?_)
  clear hK K
  try simp only [Act.put, List.setIfInBounds_toArray, List.set_cons_zero, List.set_cons_succ]
  iterate 12 (apply ordT_take; (simp only [List.getElem?_toArray, List.getElem?_cons_succ, List.getElem?_cons_zero]; rfl); rfl; (intro w hSw; (try dsimp only at hSw); go_simp; try with_reducible rfl); intro _; try simp only [Act.put, List.setIfInBounds_toArray, List.set_cons_zero, List.set_cons_succ])
  (apply ordT_only; (simp only [List.getElem?_toArray, List.getElem?_cons_succ, List.getElem?_cons_zero]; rfl); rfl; intro K hK)
  go_simp
  refine (HCC.out w8 HT.out.a.rd.y HT.out.b.rd.y (HL.out.new NN)).mono ?_
  rintro _ w9 ⟨ax, nx, cx, rfl, rx, N9⟩
  replace NN := New.trans NN N9
  replace HT := Lib.hid (HT.out.new N9)
  have HR := Lib.hid rx
  clear N9 rx
  refine hK.out _ _ (HT.out.se) (fun _ => ?_)
  clear hK K
  try simp only [Act.put, List.setIfInBounds_toArray, List.set_cons_zero, List.set_cons_succ]
  (apply ordT_two; (simp only [List.getElem?_toArray, List.getElem?_cons_succ, List.getElem?_cons_zero]; rfl); rfl; (simp only [List.getElem?_toArray, List.getElem?_cons_succ, List.getElem?_cons_zero]; rfl); rfl)
  · intro K hK
    have ks := run_str (P := Tryd.prog) Tryd.underlying22 Tryd.underlying5 Tryd.underlying9 HR.out
    go_simp
    clear ks
    refine hK.out _ _ (HT.out.se) (fun _ => ?_)
    clear hK K
    try simp only [Act.put, List.setIfInBounds_toArray, List.set_cons_zero, List.set_cons_succ]
    (apply ordT_only; (simp only [List.getElem?_toArray, List.getElem?_cons_succ, List.getElem?_cons_zero]; rfl); rfl; intro K hK)
    go_simp
    refine (HRC.out _).mono ?_
    rintro _ wc ⟨rfl, Nc⟩
    replace NN := New.trans NN Nc
    replace HT := Lib.hid (HT.out.new Nc)
    replace HR := Lib.hid (HR.out.new Nc)
    clear Nc
    refine hK.out _ _ (HT.out.se) (fun _ => ?_)
    clear hK K
    try simp only [Act.put, List.setIfInBounds_toArray, List.set_cons_zero, List.set_cons_succ]
    iterate 3 (apply ordT_take; (simp only [List.getElem?_toArray, List.getElem?_cons_succ, List.getElem?_cons_zero]; rfl); rfl; (intro w hSw; (try dsimp only at hSw); go_simp; try with_reducible rfl); intro _; try simp only [Act.put, List.setIfInBounds_toArray, List.set_cons_zero, List.set_cons_succ])
    apply ordT_done
    go_wp2
    go_ret
    exact ⟨rfl, NN⟩
  · intro K hK
    go_simp
    refine (HRC.out _).mono ?_
    rintro _ wc ⟨rfl, Nc⟩
    replace NN := New.trans NN Nc
    replace HT := Lib.hid (HT.out.new Nc)
    replace HR := Lib.hid (HR.out.new Nc)
    clear Nc
    refine hK.out _ _ (HT.out.se) (fun _ => ?_)
    clear hK K
    try simp only [Act.put, List.setIfInBounds_toArray, List.set_cons_zero, List.set_cons_succ]
    (apply ordT_only; (simp only [List.getElem?_toArray, List.getElem?_cons_succ, List.getElem?_cons_zero]; rfl); rfl; intro K hK)
    have ks := run_str (P := Tryd.prog) Tryd.underlying22 Tryd.underlying5 Tryd.underlying9 HR.out
    go_simp
    clear ks
    refine hK.out _ _ (HT.out.se) (fun _ => ?_)
    clear hK K
    try simp only [Act.put, List.setIfInBounds_toArray, List.set_cons_zero, List.set_cons_succ]
    iterate 3 (apply ordT_take; (simp only [List.getElem?_toArray, List.getElem?_cons_succ, List.getElem?_cons_zero]; rfl); rfl; (intro w hSw; (try dsimp only at hSw); go_simp; try with_reducible rfl); intro _; try simp only [Act.put, List.setIfInBounds_toArray, List.set_cons_zero, List.set_cons_succ])
    apply ordT_done
    go_wp2
    go_ret
    exact ⟨rfl, NN⟩

end Go.Proofs.YtjekbolfaakmbaaDoor
