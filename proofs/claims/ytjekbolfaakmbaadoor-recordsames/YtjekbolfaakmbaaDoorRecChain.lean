/-
  record.Same, record.Chain; the reference's Chain.
-/
import Derived.Test.YtjekbolfaakmbaaDoorRec9
import Derived.Test.YtjekbolfaakmbaaDoorShaB
import Derived.Test.YtjekbolfaakmbaaDoorBase
import Derived.Test.YtjekbolfaakmbaaDoorRefSum
import Derived.Deep.Cut
namespace Go.Proofs.YtjekbolfaakmbaaDoor
set_option linter.unusedVariables false
set_option linter.unusedSimpArgs false
open Go.RowKit

theorem bytesEqual (w : World) (x y : Value) (l m : List UInt8) (hx : Rd w x l) (hy : Rd w y m) : Calls Tryd.prog 12 #[x, y] w fun e w' => e = .returned (.bool ((bstr l).toList == (bstr m).toList)) ∧ w = w' := by
  have k1 := run_str (P := Tryd.prog) Tryd.underlying22 Tryd.underlying5 Tryd.underlying9 hx
  have k2 := run_str (P := Tryd.prog) Tryd.underlying22 Tryd.underlying5 Tryd.underlying9 hy
  obtain ⟨a1, n1, c1, rfl, -⟩ := hx
  obtain ⟨a2, n2, c2, rfl, -⟩ := hy
  go_enter Tryd.func12, Tryd.ntmps12
  go_wp2
  go_ret
  exact ⟨rfl, rfl⟩

theorem rSame_eq2 (r s : RecL) : rSame r s = ((r.kind == s.kind) && (((bstr r.group).toList == (bstr s.group).toList) && ((r.epoch == s.epoch) && ((r.time == s.time) && ((r.bucket == s.bucket) && (((bstr r.body).toList == (bstr s.body).toList) && (((bstr r.tree).toList == (bstr s.tree).toList) && (((bstr r.script).toList == (bstr s.script).toList) && ((bstr r.wrapped).toList == (bstr s.wrapped).toList))))))))) := by
  simp only [bstr_list]
  rw [Bool.eq_iff_iff]
  simp only [rSame, Bool.and_eq_true, beq_iff_eq, decide_eq_true_eq]
  constructor
  · rintro ⟨h1, h2, h3, h4, h5, h6, h7, h8, h9⟩
    exact ⟨h1, h5, h2, h3, h4, h6, h7, h8, h9⟩
  · rintro ⟨h1, h5, h2, h3, h4, h6, h7, h8, h9⟩
    exact ⟨h1, h2, h3, h4, h5, h6, h7, h8, h9⟩

def CSameTo (w : World) (o : Bool) (e : Ending) (w' : World) : Prop := e = .returned (.bool o) ∧ New w w'

set_option maxRecDepth 100000 in
set_option maxHeartbeats 2000000 in
theorem recSame (w : World) (u v : RecV) (r s : RecL) (hu : RecR w u r) (hv : RecR w v s) :
    Calls Tryd.prog 6 #[u.val r, v.val s] w (CSameTo w (rSame r s)) := by
  have HU := Lib.hid hu
  have HV := Lib.hid hv
  obtain ⟨a1, n1, c1, e1, -⟩ := hu.g
  obtain ⟨a2, n2, c2, e2, -⟩ := hu.y
  obtain ⟨a3, n3, c3, e3, -⟩ := hu.tr
  obtain ⟨a4, n4, c4, e4, -⟩ := hu.sc
  obtain ⟨a5, n5, c5, e5, -⟩ := hu.wr
  obtain ⟨b1, m1, f1, i1, -⟩ := hv.g
  obtain ⟨b2, m2, f2, i2, -⟩ := hv.y
  obtain ⟨b3, m3, f3, i3, -⟩ := hv.tr
  obtain ⟨b4, m4, f4, i4, -⟩ := hv.sc
  obtain ⟨b5, m5, f5, i5, -⟩ := hv.wr
  clear hu hv
  rw [rSame_eq2]
  unfold RecV.val
  obtain ⟨ug, uy, utr, usc, uwr⟩ := u
  obtain ⟨vg, vy, vtr, vsc, vwr⟩ := v
  dsimp only at *
  subst e1 e2 e3 e4 e5 i1 i2 i3 i4 i5
  obtain ⟨rk, rg, re, rt, rb, ry, rtr, rsc, rwr⟩ := r
  obtain ⟨sk, sg, se, st, sb, sy, str, ssc, swr⟩ := s
  dsimp only at *
  have E1 := Lib.hid fun wx h1 h2 => bytesEqual wx (.slice a1 n1 c1) (.slice b1 m1 f1) rg sg h1 h2
  have E2 := Lib.hid fun wx h1 h2 => bytesEqual wx (.slice a2 n2 c2) (.slice b2 m2 f2) ry sy h1 h2
  have E3 := Lib.hid fun wx h1 h2 => bytesEqual wx (.slice a3 n3 c3) (.slice b3 m3 f3) rtr str h1 h2
  have E4 := Lib.hid fun wx h1 h2 => bytesEqual wx (.slice a4 n4 c4) (.slice b4 m4 f4) rsc ssc h1 h2
  have E5 := Lib.hid fun wx h1 h2 => bytesEqual wx (.slice a5 n5 c5) (.slice b5 m5 f5) rwr swr h1 h2
  generalize ((bstr rg).toList == (bstr sg).toList) = q2 at *
  generalize ((bstr ry).toList == (bstr sy).toList) = q6 at *
  generalize ((bstr rtr).toList == (bstr str).toList) = q7 at *
  generalize ((bstr rsc).toList == (bstr ssc).toList) = q8 at *
  generalize ((bstr rwr).toList == (bstr swr).toList) = q9 at *
  obtain ⟨q1, d1⟩ : ∃ x, (rk == sk) = x := ⟨_, rfl⟩
  obtain ⟨q3, d3⟩ : ∃ x, (re == se) = x := ⟨_, rfl⟩
  obtain ⟨q4, d4⟩ : ∃ x, (rt == st) = x := ⟨_, rfl⟩
  obtain ⟨q5, d5⟩ : ∃ x, (rb == sb) = x := ⟨_, rfl⟩
  rw [d1, d3, d4, d5]
  go_enter Tryd.func6, Tryd.ntmps6
  go_upto_region 1 with fail
  try simp only [List.append_eq, List.cons_append, List.nil_append]
  have N2 : New w ((w.alloc (.cells #[.int .i64 rk, .slice a1 n1 c1, .int .i64 re, .int .i64 rt, .int .i64 rb, .slice a2 n2 c2, .slice a3 n3 c3, .slice a4 n4 c4, .slice a5 n5 c5] 24)).alloc (.cells #[.int .i64 sk, .slice b1 m1 f1, .int .i64 se, .int .i64 st, .int .i64 sb, .slice b2 m2 f2, .slice b3 m3 f3, .slice b4 m4 f4, .slice b5 m5 f5] 24)) := ((Below.refl _ _).alloc (Nat.le_refl _) _).alloc (by simp) _
  have A2 := At9.made (w.alloc (.cells #[.int .i64 rk, .slice a1 n1 c1, .int .i64 re, .int .i64 rt, .int .i64 rb, .slice a2 n2 c2, .slice a3 n3 c3, .slice a4 n4 c4, .slice a5 n5 c5] 24)) 24 (.int .i64 sk) (.slice b1 m1 f1) (.int .i64 se) (.int .i64 st) (.int .i64 sb) (.slice b2 m2 f2) (.slice b3 m3 f3) (.slice b4 m4 f4) (.slice b5 m5 f5)
  have A1 := (At9.made w 24 (.int .i64 rk) (.slice a1 n1 c1) (.int .i64 re) (.int .i64 rt) (.int .i64 rb) (.slice a2 n2 c2) (.slice a3 n3 c3) (.slice a4 n4 c4) (.slice a5 n5 c5)).new (w' := (w.alloc (.cells #[.int .i64 rk, .slice a1 n1 c1, .int .i64 re, .int .i64 rt, .int .i64 rb, .slice a2 n2 c2, .slice a3 n3 c3, .slice a4 n4 c4, .slice a5 n5 c5] 24)).alloc (.cells #[.int .i64 sk, .slice b1 m1 f1, .int .i64 se, .int .i64 st, .int .i64 sb, .slice b2 m2 f2, .slice b3 m3 f3, .slice b4 m4 f4, .slice b5 m5 f5] 24)) ((Below.refl _ _).alloc (Nat.le_refl _) _)
  rw [show (w.alloc (.cells #[.int .i64 rk, .slice a1 n1 c1, .int .i64 re, .int .i64 rt, .int .i64 rb, .slice a2 n2 c2, .slice a3 n3 c3, .slice a4 n4 c4, .slice a5 n5 c5] 24)).heap.size = w.heap.size + 1 by simp] at A2
  generalize (w.alloc (.cells #[.int .i64 rk, .slice a1 n1 c1, .int .i64 re, .int .i64 rt, .int .i64 rb, .slice a2 n2 c2, .slice a3 n3 c3, .slice a4 n4 c4, .slice a5 n5 c5] 24)).alloc (.cells #[.int .i64 sk, .slice b1 m1 f1, .int .i64 se, .int .i64 st, .int .i64 sb, .slice b2 m2 f2, .slice b3 m3 f3, .slice b4 m4 f4, .slice b5 m5 f5] 24) = w2 at *
  have E1' := Lib.hid (E1.out w2 (HU.out.g.new N2) (HV.out.g.new N2))
  have E2' := Lib.hid (E2.out w2 (HU.out.y.new N2) (HV.out.y.new N2))
  have E3' := Lib.hid (E3.out w2 (HU.out.tr.new N2) (HV.out.tr.new N2))
  have E4' := Lib.hid (E4.out w2 (HU.out.sc.new N2) (HV.out.sc.new N2))
  have E5' := Lib.hid (E5.out w2 (HU.out.wr.new N2) (HV.out.wr.new N2))
  obtain ⟨x0, x1, x2, x3, x4, x5, x6, x7, x8⟩ := A1.cells
  obtain ⟨y0, y1, y2, y3, y4, y5, y6, y7, y8⟩ := A2.cells
  clear A1 A2 E1 E2 E3 E4 E5 HU HV
  cases q1
  · go_wp2
    go_ret
    exact ⟨rfl, N2⟩
  rw [Bool.true_and]
  go_wp2_with fail
  refine E1'.out.mono ?_
  rintro _ wz ⟨rfl, rfl⟩
  cases q2
  · go_wp2
    go_ret
    exact ⟨rfl, N2⟩
  rw [Bool.true_and]
  cases q3
  · go_wp2
    go_ret
    exact ⟨rfl, N2⟩
  rw [Bool.true_and]
  cases q4
  · go_wp2
    go_ret
    exact ⟨rfl, N2⟩
  rw [Bool.true_and]
  cases q5
  · go_wp2
    go_ret
    exact ⟨rfl, N2⟩
  rw [Bool.true_and]
  go_wp2_with fail
  refine E2'.out.mono ?_
  rintro _ wz ⟨rfl, rfl⟩
  cases q6
  · go_wp2
    go_ret
    exact ⟨rfl, N2⟩
  rw [Bool.true_and]
  go_wp2_with fail
  refine E3'.out.mono ?_
  rintro _ wz ⟨rfl, rfl⟩
  cases q7
  · go_wp2
    go_ret
    exact ⟨rfl, N2⟩
  rw [Bool.true_and]
  go_wp2_with fail
  refine E4'.out.mono ?_
  rintro _ wz ⟨rfl, rfl⟩
  cases q8
  · go_wp2
    go_ret
    exact ⟨rfl, N2⟩
  rw [Bool.true_and]
  go_wp2_with fail
  refine E5'.out.mono ?_
  rintro _ wz ⟨rfl, rfl⟩
  cases q9
  · go_wp2
    go_ret
    exact ⟨rfl, N2⟩
  · go_wp2
    go_ret
    exact ⟨rfl, N2⟩

theorem RdL.two12 (w : World) (u v : Value) (k l : List UInt8) (e : TypeId) (hu : Rd w u k) (hv : Rd w v l) : RdL (w.alloc (.cells #[u, v] e)) (.slice (some ⟨w.heap.size, 0, none⟩) 2 2) [(u, k), (v, l)] :=
  ⟨RdV.made w [u, v] e (0, 0) (by simp), fun p hp => by
    rcases List.mem_cons.1 hp with rfl | hp
    · exact hu.new ((Below.refl _ _).alloc (Nat.le_refl _) _)
    · rw [List.mem_singleton.1 hp]; exact hv.new ((Below.refl _ _).alloc (Nat.le_refl _) _)⟩

/-- sha.Sum(x, y) as a caller writes it -/
theorem sum2 (w : World) (x y : Value) (l m : List UInt8) (hx : Rd w x l) (hy : Rd w y m) (hl : l.length + m.length ≤ 1099511627776) (hL : Laid w) :
    Calls Tryd.prog 13 #[.slice (some ⟨w.heap.size, 0, none⟩) 2 2] (w.alloc (.cells #[x, y] 22)) fun e w' => ∃ a n c, e = .returned (.slice a n c) ∧ Rd w' (.slice a n c) (sha256 (l ++ m)) ∧ New w w' := by
  have hs := shaSum _ _ _ (RdL.two12 w x y l m 22 hx hy) (by simp [allOf]; omega) (by simp) (hL.new ((Below.refl _ _).alloc (Nat.le_refl _) _))
  refine hs.mono ?_
  rintro e w' ⟨v', rfl, hown, hn⟩
  have hr := Rd.of_own hown
  simp only [allOf, List.flatMap_cons, List.flatMap_nil, List.append_nil] at hr
  have hr' := hr
  obtain ⟨a, n, c, rfl, h1, _⟩ := hr'
  exact ⟨a, n, c, rfl, hr, New.trans ((Below.refl _ _).alloc (Nat.le_refl _) _) hn⟩

theorem recChain (w : World) (x y : Value) (l m : List UInt8) (hx : Rd w x l) (hy : Rd w y m) (hl : l.length + m.length ≤ 1099511627776) (hL : Laid w) :
    Calls Tryd.prog 8 #[x, y] w fun e w' => ∃ a n c, e = .returned (.slice a n c) ∧ Rd w' (.slice a n c) (sha256 (l ++ m)) ∧ New w w' := by
  have HS := Lib.hid (sum2 w x y l m hx hy hl hL)
  obtain ⟨a1, n1, c1, rfl, -⟩ := hx
  obtain ⟨a2, n2, c2, rfl, -⟩ := hy
  clear hL
  go_enter Tryd.func8, Tryd.ntmps8
  go_wp2_with fail
  refine HS.out.mono ?_
  rintro _ w1 ⟨a, n, c, rfl, r, N⟩
  have HR := Lib.hid r
  have HN := Lib.hid N
  clear r N
  go_wp2
  go_ret
  exact ⟨a, n, c, rfl, HR.out, HN.out⟩

theorem refChain12 (w : World) (l m : List UInt8) (hl : l.length + m.length ≤ 1099511627776) :
    Calls Tryd.prog 9 #[.string (bstr l), .string (bstr m)] w fun e w' => e = .returned (.string (bstr (sha256 (l ++ m)))) ∧ New w w' := by
  have HS := Lib.hid (refSum w (l ++ m) (by simpa using hl))
  have j : bstr l ++ bstr m = bstr (l ++ m) := by unfold bstr; rw [ByteArray.mk_append_mk]
  have z1 : (bstr l).size = l.length := bstr_size l
  have z2 : (bstr m).size = m.length := bstr_size m
  have s1 : ¬ 9223372036854775807 < (bstr l).size + (bstr m).size := by omega
  have s2 : (bstr l).size + (bstr m).size ≤ 1099511627776 := by omega
  clear z1 z2 hl
  go_enter Tryd.func9, Tryd.ntmps9
  go_wp2_with fail
  refine HS.out.mono ?_
  rintro _ w1 ⟨rfl, N⟩
  go_wp2
  go_ret
  exact ⟨rfl, N⟩

end Go.Proofs.YtjekbolfaakmbaaDoor
