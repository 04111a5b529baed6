/-
  Layer 19: a node as a value; the reference's Same.
-/
import Derived.Test.YtliojldkdmaofaaDoorNodeSpec
import Derived.Test.YtliojldkdmaofaaDoorRefInts
import Derived.Test.YtliojldkdmaofaaDoorCell5
import Derived.Test.YtliojldkdmaofaaDoorBase
import Derived.Deep.Cut
namespace Go.Proofs.YtliojldkdmaofaaDoor
set_option linter.unusedVariables false
set_option linter.unusedSimpArgs false
open Go.RowKit

/-- a node's three slices -/
structure NodeV where
  nm : Value
  pa : Value
  un : Value

def NodeV.val (v : NodeV) (N : NodeL) : Value := .agg #[.int .i64 N.kind, v.nm, .int .u64 (N.key : Int), v.pa, v.un]

/-- they read as the node's, and its key is one -/
structure NodeR (w : World) (v : NodeV) (N : NodeL) : Prop where
  nm : Rd w v.nm N.name
  pa : Rd w v.pa N.parent
  un : RdV w v.un (N.unm.map (Value.int .i64))
  key : N.key < 18446744073709551616

theorem NodeR.new {w w' : World} {v : NodeV} {N : NodeL} (h : NodeR w v N) (hn : New w w') : NodeR w' v N := ⟨h.nm.new hn, h.pa.new hn, h.un.new hn, h.key⟩

def nSame (N M : NodeL) : Bool := N.kind == M.kind && (N.key == M.key && ((bstr N.name).toList == (bstr M.name).toList && ((bstr N.parent).toList == (bstr M.parent).toList && decide (N.unm = M.unm))))

theorem nSame_eq (N M : NodeL) : decide (N = M) = nSame N M := by
  obtain ⟨a, b, c, d, e⟩ := N
  obtain ⟨a', b', c', d', e'⟩ := M
  unfold nSame
  dsimp only
  rw [bstr_list, bstr_list, bstr_list, bstr_list, Bool.eq_iff_iff]
  simp only [decide_eq_true_eq, NodeL.mk.injEq, Bool.and_eq_true, beq_iff_eq]
  constructor
  · rintro ⟨h1, h2, h3, h4, h5⟩; exact ⟨h1, h3, by rw [h2], by rw [h4], h5⟩
  · rintro ⟨h1, h2, h3, h4, h5⟩; exact ⟨h1, by simpa using h3, h2, by simpa using h4, h5⟩

def SameTo19 (w : World) (o : Bool) (e : Ending) (w' : World) : Prop := e = .returned (.bool o) ∧ New w w'

set_option maxRecDepth 100000 in
set_option maxHeartbeats 2000000 in
theorem refSame19 (w : World) (u v : NodeV) (N M : NodeL) (hu : NodeR w u N) (hv : NodeR w v M) :
    Calls Tryd.prog 25 #[u.val N, v.val M] w (SameTo19 w (decide (N = M))) := by
  have HU := Lib.hid hu
  have HV := Lib.hid hv
  obtain ⟨a1, n1, c1, e1, -⟩ := hu.nm
  obtain ⟨a2, n2, c2, e2, -⟩ := hu.pa
  obtain ⟨a3, n3, c3, e3, -⟩ := hu.un
  obtain ⟨b1, m1, f1, i1, -⟩ := hv.nm
  obtain ⟨b2, m2, f2, i2, -⟩ := hv.pa
  obtain ⟨b3, m3, f3, i3, -⟩ := hv.un
  clear hu hv
  rw [nSame_eq]
  unfold NodeV.val nSame
  obtain ⟨unm, upa, uun⟩ := u
  obtain ⟨vnm, vpa, vun⟩ := v
  dsimp only at *
  subst e1 e2 e3 i1 i2 i3
  obtain ⟨rk, rn, ry, rp, ru⟩ := N
  obtain ⟨sk, sn, sy, sp, su⟩ := M
  dsimp only at *
  obtain ⟨q1, d1⟩ : ∃ x, (rk == sk) = x := ⟨_, rfl⟩
  obtain ⟨q2, d2⟩ : ∃ x, (ry == sy) = x := ⟨_, rfl⟩
  have d2' : ((ry : Int) == (sy : Int)) = q2 := by rw [← d2, Bool.eq_iff_iff]; simp only [beq_iff_eq]; omega
  obtain ⟨q3, d3⟩ : ∃ x, ((bstr rn).toList == (bstr sn).toList) = x := ⟨_, rfl⟩
  obtain ⟨q4, d4⟩ : ∃ x, ((bstr rp).toList == (bstr sp).toList) = x := ⟨_, rfl⟩
  rw [d1, d2, d3, d4]
  clear d2
  go_enter Tryd.func25, Tryd.ntmps25
  go_upto_region 1 with fail
  try simp only [List.append_eq, List.cons_append, List.nil_append]
  have N2 : New w ((w.alloc (.cells #[.int .i64 rk, .slice a1 n1 c1, .int .u64 (ry : Int), .slice a2 n2 c2, .slice a3 n3 c3] 26)).alloc (.cells #[.int .i64 sk, .slice b1 m1 f1, .int .u64 (sy : Int), .slice b2 m2 f2, .slice b3 m3 f3] 26)) := ((Below.refl _ _).alloc (Nat.le_refl _) _).alloc (by simp) _
  have A2 := At5.made (w.alloc (.cells #[.int .i64 rk, .slice a1 n1 c1, .int .u64 (ry : Int), .slice a2 n2 c2, .slice a3 n3 c3] 26)) 26 (.int .i64 sk) (.slice b1 m1 f1) (.int .u64 (sy : Int)) (.slice b2 m2 f2) (.slice b3 m3 f3)
  have A1 := (At5.made w 26 (.int .i64 rk) (.slice a1 n1 c1) (.int .u64 (ry : Int)) (.slice a2 n2 c2) (.slice a3 n3 c3)).new (w' := (w.alloc (.cells #[.int .i64 rk, .slice a1 n1 c1, .int .u64 (ry : Int), .slice a2 n2 c2, .slice a3 n3 c3] 26)).alloc (.cells #[.int .i64 sk, .slice b1 m1 f1, .int .u64 (sy : Int), .slice b2 m2 f2, .slice b3 m3 f3] 26)) ((Below.refl _ _).alloc (Nat.le_refl _) _)
  rw [show (w.alloc (.cells #[.int .i64 rk, .slice a1 n1 c1, .int .u64 (ry : Int), .slice a2 n2 c2, .slice a3 n3 c3] 26)).heap.size = w.heap.size + 1 by simp] at A2
  generalize (w.alloc (.cells #[.int .i64 rk, .slice a1 n1 c1, .int .u64 (ry : Int), .slice a2 n2 c2, .slice a3 n3 c3] 26)).alloc (.cells #[.int .i64 sk, .slice b1 m1 f1, .int .u64 (sy : Int), .slice b2 m2 f2, .slice b3 m3 f3] 26) = w2 at *
  obtain ⟨x0, x1, x2, x3, x4⟩ := A1.cells
  obtain ⟨y0, y1, y2, y3, y4⟩ := A2.cells
  clear A1 A2
  cases q1
  · go_wp2
    go_ret
    exact ⟨rfl, N2⟩
  rw [Bool.true_and]
  cases q2
  · go_wp2
    go_ret
    exact ⟨rfl, N2⟩
  rw [Bool.true_and]
  have k1 := run_str (P := Tryd.prog) Tryd.underlying22 Tryd.underlying5 Tryd.underlying9 (HU.out.nm.new N2)
  have j1 := run_str (P := Tryd.prog) Tryd.underlying22 Tryd.underlying5 Tryd.underlying9 (HV.out.nm.new N2)
  dsimp only at k1 j1
  cases q3
  · go_wp2
    go_ret
    exact ⟨rfl, N2⟩
  rw [Bool.true_and]
  have k2 := run_str (P := Tryd.prog) Tryd.underlying22 Tryd.underlying5 Tryd.underlying9 (HU.out.pa.new N2)
  have j2 := run_str (P := Tryd.prog) Tryd.underlying22 Tryd.underlying5 Tryd.underlying9 (HV.out.pa.new N2)
  dsimp only at k2 j2
  cases q4
  · go_wp2
    go_ret
    exact ⟨rfl, N2⟩
  rw [Bool.true_and]
  have HI := Lib.hid (refInts18 w2 _ _ _ _ (HU.out.un.new N2) (HV.out.un.new N2))
  dsimp only at HI
  have NN := Lib.hid N2
  clear N2
  go_wp2_with fail
  refine HI.out.mono ?_
  rintro _ w3 ⟨rfl, n3⟩
  have N3 := Lib.hid (New.trans NN.out n3)
  clear n3
  go_wp2
  go_ret
  exact ⟨rfl, N3.out⟩

end Go.Proofs.YtliojldkdmaofaaDoor
