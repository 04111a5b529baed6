/-
  node: within, keyed, rising, Same, Right; slices.Equal of ints.
-/
import Derived.Test.YtliojldkdmaofaaDoorRefNode2
import Derived.Test.YtliojldkdmaofaaDoorSlZero
namespace Go.Proofs.YtliojldkdmaofaaDoor
set_option linter.unusedVariables false
set_option linter.unusedSimpArgs false
set_option maxRecDepth 100000
open Go.RowKit

theorem nodWithin (w : World) (n lo hi : Int) : Calls Tryd.prog 16 #[.int .i64 n, .int .i64 lo, .int .i64 hi] w fun e w' => e = .returned (.bool (decide (lo ≤ n ∧ n ≤ hi))) ∧ w = w' := by
  by_cases h0 : lo ≤ n
  · have d0 : decide (lo ≤ n) = true := by simpa using h0
    obtain ⟨b, hb⟩ : ∃ b, decide (n ≤ hi) = b := ⟨_, rfl⟩
    have e : decide (lo ≤ n ∧ n ≤ hi) = b := by rw [← hb]; simp [h0]
    rw [e]
    clear e h0
    go_enter Tryd.func16, Tryd.ntmps16
    go_wp2
    go_ret
    exact ⟨rfl, rfl⟩
  · have d0 : decide (lo ≤ n) = false := by simpa using h0
    have e : decide (lo ≤ n ∧ n ≤ hi) = false := by simp [h0]
    rw [e]
    clear e h0
    go_enter Tryd.func16, Tryd.ntmps16
    go_wp2
    go_ret
    exact ⟨rfl, rfl⟩

set_option maxHeartbeats 1000000 in
/-- slices.Equal of ints -/
theorem slEq19 (w : World) (x y : Value) (l k : List Int) (hx : RdV w x (l.map (Value.int .i64))) (hy : RdV w y (k.map (Value.int .i64))) : Calls Tryd.prog 53 #[x, y] w fun e w' => e = .returned (.bool (decide (l = k))) ∧ New w w' := by
  obtain ⟨ax, nx, cx, rfl, hnx, hcx, hmx, -⟩ := id hx
  obtain ⟨ay, ny, cy, rfl, hny, hcy, hmy, -⟩ := id hy
  rw [List.length_map] at hnx hny
  unfold maxLen at hmx hmy
  have HX := Lib.hid hx
  have HY := Lib.hid hy
  have HL : Hid (l.length = nx ∧ k.length = ny) := Lib.hid ⟨hnx, hny⟩
  by_cases hn : nx = ny
  rotate_left
  · have hE : decide (l = k) = false := decide_eq_false (fun h => hn (by rw [← hnx, ← hny, h]))
    rw [hE]
    have d : ((nx : Int) != (ny : Int)) = true := by simp; omega
    clear hn hx hy hE hnx hny
    go_enter Tryd.func53, Tryd.ntmps53
    go_wp2
    go_ret
    exact ⟨rfl, Below.refl _ _⟩
  subst hn
  obtain ⟨B, HB⟩ : ∃ B, Hid (decide (l = k) = B) := ⟨_, Lib.hid rfl⟩
  rw [HB.out]
  clear hx hy hnx hny
  have hnb : nx ≤ 9223372036854775807 := by omega
  go_enter Tryd.func53, Tryd.ntmps53
  go_upto_region 4 with fail
  go_loopw [13] (fun v wr => ∃ i : Nat, v = .int .i64 i ∧ i ≤ nx ∧ l.take i = k.take i ∧ New w wr) (fun v _ => nx - (intOf v).toNat)
  case atStart => exact ⟨0, rfl, Nat.zero_le _, rfl, Below.refl _ _⟩
  case round =>
    obtain ⟨i, rfl, hi, hti, hnw⟩ := hrel
    have HT := Lib.hid hti
    have HN := Lib.hid hnw
    clear hti hnw
    by_cases hlt : i < nx
    · have d : decide ((i : Int) < (nx : Int)) = true := by simpa using hlt
      have hli : (i : Int) < (nx : Int) := by omega
      obtain ⟨b1, o1, hb1, hc1⟩ := (HX.out.new HN.out.drew).cell (by omega)
      obtain ⟨b2, o2, hb2, hc2⟩ := (HY.out.new HN.out.drew).cell (by omega)
      subst hb1 hb2
      obtain ⟨u, hu⟩ : ∃ u, l[i]? = some u := ⟨_, List.getElem?_eq_getElem (by have := HL.out; omega)⟩
      obtain ⟨v, hv⟩ : ∃ u, k[i]? = some u := ⟨_, List.getElem?_eq_getElem (by have := HL.out; omega)⟩
      have HU := Lib.hid (And.intro hu hv)
      have HC : Hid (Ix18 b1 o1 b2 o2 i u v wr.drew) := Lib.hid ⟨hc1 i (.int .i64 u) (by rw [List.getElem?_map, hu]; rfl), hc2 i (.int .i64 v) (by rw [List.getElem?_map, hv]; rfl)⟩
      clear hu hv hc1 hc2 hi
      go_upto_region 6 with fail
      refine region_ord (Ix18 b1 o1 b2 o2 i u v) [(0, true), (1, true), (2, true), (3, true), (4, true), (5, true), (6, true), (7, true), (8, true)] (by kernel_rfl) (by kernel_rfl) HC.out (fun _ => ?_)
      have HN2 := Lib.hid HN.out.drew
      generalize wr.drew = w1 at *
      unfold Ix18
      iterate 8 (apply ord_take; (simp only [List.getElem?_toArray, List.getElem?_cons_succ, List.getElem?_cons_zero]; rfl); rfl; (intro w hSw; (try dsimp only at hSw); go_simp; try with_reducible rfl); intro _; try simp only [Act.put, List.setIfInBounds_toArray, List.set_cons_zero, List.set_cons_succ])
      by_cases huv : u = v
      · have d1 : (u != v) = false := by simpa using huv
        have d2 : (u == v) = true := by simpa using huv
        have HX2 : Hid (l.take (i + 1) = k.take (i + 1)) := Lib.hid (by rw [List.take_add_one, List.take_add_one, HU.out.1, HU.out.2, HT.out, huv])
        clear huv
        (apply ord_take; (simp only [List.getElem?_toArray, List.getElem?_cons_succ, List.getElem?_cons_zero]; rfl); rfl; (intro w hSw; (try dsimp only at hSw); go_simp; try with_reducible rfl); intro _; try simp only [Act.put, List.setIfInBounds_toArray, List.set_cons_zero, List.set_cons_succ])
        apply ord_done
        go_wp2_with fail
        go_roundw
        case rel => exact ⟨i + 1, by go_num, by omega, HX2.out, HN2.out⟩
        case measure => simp [intOf]; omega
      · have d1 : (u != v) = true := by simpa using huv
        have d2 : (u == v) = false := by simpa using huv
        have hE : B = false := by
          rw [← HB.out]
          refine decide_eq_false (fun h => huv ?_)
          have h1 := HU.out.1
          rw [h, HU.out.2] at h1
          cases h1; rfl
        subst hE
        clear huv
        (apply ord_take; (simp only [List.getElem?_toArray, List.getElem?_cons_succ, List.getElem?_cons_zero]; rfl); rfl; (intro w hSw; (try dsimp only at hSw); go_simp; try with_reducible rfl); intro _; try simp only [Act.put, List.setIfInBounds_toArray, List.set_cons_zero, List.set_cons_succ])
        apply ord_done
        go_wp2
        go_ret
        exact ⟨rfl, HN2.out⟩
    · obtain rfl : i = nx := by omega
      have hE : B = true := by
        rw [← HB.out]
        have := HT.out
        rw [List.take_of_length_le (by have := HL.out; omega), List.take_of_length_le (by have := HL.out; omega)] at this
        exact decide_eq_true this
      subst hE
      clear hlt hi
      go_wp2
      go_ret
      exact ⟨rfl, HN.out⟩

def nSame2 (N M : NodeL) : Bool := N.kind == M.kind && (decide (N.name = M.name) && (N.key == M.key && (decide (N.parent = M.parent) && decide (N.unm = M.unm))))

theorem nSame2_eq (N M : NodeL) : decide (N = M) = nSame2 N M := by
  obtain ⟨a, b, c, d, e⟩ := N
  obtain ⟨a', b', c', d', e'⟩ := M
  unfold nSame2
  dsimp only
  rw [Bool.eq_iff_iff]
  simp only [decide_eq_true_eq, NodeL.mk.injEq, Bool.and_eq_true, beq_iff_eq]

set_option maxHeartbeats 2000000 in
theorem nodSame (w : World) (u v : NodeV) (N M : NodeL) (hu : NodeR w u N) (hv : NodeR w v M) :
    Calls Tryd.prog 38 #[u.val N, v.val M] w (SameTo19 w (decide (N = M))) := by
  have HU := Lib.hid hu
  have HV := Lib.hid hv
  obtain ⟨a1, n1, c1, e1, -⟩ := hu.nm
  obtain ⟨a2, n2, c2, e2, -⟩ := hu.pa
  obtain ⟨a3, n3, c3, e3, -⟩ := hu.un
  obtain ⟨b1, m1, f1, i1, -⟩ := hv.nm
  obtain ⟨b2, m2, f2, i2, -⟩ := hv.pa
  obtain ⟨b3, m3, f3, i3, -⟩ := hv.un
  clear hu hv
  rw [nSame2_eq]
  unfold NodeV.val nSame2
  obtain ⟨unm, upa, uun⟩ := u
  obtain ⟨vnm, vpa, vun⟩ := v
  dsimp only at *
  subst e1 e2 e3 i1 i2 i3
  obtain ⟨rk, rn, ry, rp, ru⟩ := N
  obtain ⟨sk, sn, sy, sp, su⟩ := M
  dsimp only at *
  obtain ⟨q1, d1⟩ : ∃ x, (rk == sk) = x := ⟨_, rfl⟩
  obtain ⟨q2, d2⟩ : ∃ x, (ry == sy) = x := ⟨_, rfl⟩
  have d2' : ((ry : Int) == (sy : Int)) = q2 := by rw [← d2, Bool.eq_iff_iff]; simp only [beq_iff_eq]; omega
  have HQ1 := Lib.hid fun wx (hn : New w wx) => bytesEq wx _ _ _ _ (HU.out.nm.new hn) (HV.out.nm.new hn)
  have HQ2 := Lib.hid fun wx (hn : New w wx) => bytesEq wx _ _ _ _ (HU.out.pa.new hn) (HV.out.pa.new hn)
  have HQ3 := Lib.hid fun wx (hn : New w wx) => slEq19 wx _ _ _ _ (HU.out.un.new hn) (HV.out.un.new hn)
  dsimp only at HQ1 HQ2 HQ3
  generalize decide (rn = sn) = q3 at *
  generalize decide (rp = sp) = q4 at *
  generalize decide (ru = su) = q5 at *
  rw [d1, d2]
  clear d2 HU HV
  go_enter Tryd.func38, Tryd.ntmps38
  go_upto_region 1 with fail
  try simp only [List.append_eq, List.cons_append, List.nil_append]
  have N2 : New w ((w.alloc (.cells #[.int .i64 rk, .slice a1 n1 c1, .int .u64 (ry : Int), .slice a2 n2 c2, .slice a3 n3 c3] 26)).alloc (.cells #[.int .i64 sk, .slice b1 m1 f1, .int .u64 (sy : Int), .slice b2 m2 f2, .slice b3 m3 f3] 26)) := ((Below.refl _ _).alloc (Nat.le_refl _) _).alloc (by simp) _
  have A2 := At5.made (w.alloc (.cells #[.int .i64 rk, .slice a1 n1 c1, .int .u64 (ry : Int), .slice a2 n2 c2, .slice a3 n3 c3] 26)) 26 (.int .i64 sk) (.slice b1 m1 f1) (.int .u64 (sy : Int)) (.slice b2 m2 f2) (.slice b3 m3 f3)
  have A1 := (At5.made w 26 (.int .i64 rk) (.slice a1 n1 c1) (.int .u64 (ry : Int)) (.slice a2 n2 c2) (.slice a3 n3 c3)).new (w' := (w.alloc (.cells #[.int .i64 rk, .slice a1 n1 c1, .int .u64 (ry : Int), .slice a2 n2 c2, .slice a3 n3 c3] 26)).alloc (.cells #[.int .i64 sk, .slice b1 m1 f1, .int .u64 (sy : Int), .slice b2 m2 f2, .slice b3 m3 f3] 26)) ((Below.refl _ _).alloc (Nat.le_refl _) _)
  rw [show (w.alloc (.cells #[.int .i64 rk, .slice a1 n1 c1, .int .u64 (ry : Int), .slice a2 n2 c2, .slice a3 n3 c3] 26)).heap.size = w.heap.size + 1 by simp] at A2
  generalize (w.alloc (.cells #[.int .i64 rk, .slice a1 n1 c1, .int .u64 (ry : Int), .slice a2 n2 c2, .slice a3 n3 c3] 26)).alloc (.cells #[.int .i64 sk, .slice b1 m1 f1, .int .u64 (sy : Int), .slice b2 m2 f2, .slice b3 m3 f3] 26) = w2 at *
  obtain ⟨x0, x1, x2, x3, x4⟩ := A1.cells
  obtain ⟨y0, y1, y2, y3, y4⟩ := A2.cells
  clear A1 A2
  cases q1
  · go_wp2_with (first | (refine (HQ1.out _ N2).mono ?_; rintro _ _ ⟨rfl, rfl⟩) | (refine (HQ2.out _ N2).mono ?_; rintro _ _ ⟨rfl, rfl⟩) | fail)
    go_ret
    exact ⟨rfl, N2⟩
  rw [Bool.true_and]
  cases q3
  · go_wp2_with (first | (refine (HQ1.out _ N2).mono ?_; rintro _ _ ⟨rfl, rfl⟩) | (refine (HQ2.out _ N2).mono ?_; rintro _ _ ⟨rfl, rfl⟩) | fail)
    go_ret
    exact ⟨rfl, N2⟩
  rw [Bool.true_and]
  cases q2
  · go_wp2_with (first | (refine (HQ1.out _ N2).mono ?_; rintro _ _ ⟨rfl, rfl⟩) | (refine (HQ2.out _ N2).mono ?_; rintro _ _ ⟨rfl, rfl⟩) | fail)
    go_ret
    exact ⟨rfl, N2⟩
  rw [Bool.true_and]
  cases q4
  · go_wp2_with (first | (refine (HQ1.out _ N2).mono ?_; rintro _ _ ⟨rfl, rfl⟩) | (refine (HQ2.out _ N2).mono ?_; rintro _ _ ⟨rfl, rfl⟩) | fail)
    go_ret
    exact ⟨rfl, N2⟩
  rw [Bool.true_and]
  go_wp2_with (first | (refine (HQ1.out _ N2).mono ?_; rintro _ _ ⟨rfl, rfl⟩) | (refine (HQ2.out _ N2).mono ?_; rintro _ _ ⟨rfl, rfl⟩) | (refine (HQ3.out _ N2).mono ?_; rintro _ w3 ⟨rfl, n3⟩; have N3 := Lib.hid (New.trans N2 n3); clear n3) | fail)
  go_ret
  exact ⟨rfl, N3.out⟩

def nKeyed (N : NodeL) : Bool := rightP N.key && (decide (N.parent.length = 0) || decide (N.parent.length = 32))

theorem nKeyed_iff (N : NodeL) : nKeyed N = true ↔ (rightP N.key = true ∧ (N.parent.length = 0 ∨ N.parent.length = 32)) := by
  unfold nKeyed
  simp only [Bool.and_eq_true, Bool.or_eq_true, decide_eq_true_eq]

set_option maxHeartbeats 1000000 in
theorem nodKeyed (w : World) (u : NodeV) (N : NodeL) (hu : NodeR w u N) :
    Calls Tryd.prog 39 #[u.val N] w (SameTo19 w (nKeyed N)) := by
  obtain ⟨a1, n1, c1, e1, l1, -⟩ := hu.nm
  obtain ⟨a2, n2, c2, e2, l2, -⟩ := hu.pa
  obtain ⟨a3, n3, c3, e3, -⟩ := hu.un
  have hky := hu.key
  clear hu
  unfold NodeV.val nKeyed
  obtain ⟨unm, upa, uun⟩ := u
  dsimp only at *
  subst e1 e2 e3
  obtain ⟨rk, rn, ry, rp, ru⟩ := N
  dsimp only at *
  have HK := Lib.hid fun wx => powRight wx ry hky
  have d1 : ((n2 : Int) == 0) = decide (rp.length = 0) := by rw [Bool.eq_iff_iff]; simp only [beq_iff_eq, decide_eq_true_eq]; omega
  have d2 : ((n2 : Int) == 32) = decide (rp.length = 32) := by rw [Bool.eq_iff_iff]; simp only [beq_iff_eq, decide_eq_true_eq]; omega
  generalize rightP ry = z0 at *
  generalize decide (rp.length = 0) = z1 at *
  generalize decide (rp.length = 32) = z2 at *
  clear hky l1 l2
  go_enter Tryd.func39, Tryd.ntmps39
  go_upto_region 1 with fail
  have N1 : New w (w.alloc (.cells #[.int .i64 rk, .slice a1 n1 c1, .int .u64 (ry : Int), .slice a2 n2 c2, .slice a3 n3 c3] 26)) := (Below.refl _ _).alloc (Nat.le_refl _) _
  have A1 := At5.made w 26 (.int .i64 rk) (.slice a1 n1 c1) (.int .u64 (ry : Int)) (.slice a2 n2 c2) (.slice a3 n3 c3)
  generalize w.alloc (.cells #[.int .i64 rk, .slice a1 n1 c1, .int .u64 (ry : Int), .slice a2 n2 c2, .slice a3 n3 c3] 26) = w1 at *
  obtain ⟨x0, x1, x2, x3, x4⟩ := A1.cells
  clear A1
  cases z0
  ·
    go_wp2_with fail
    refine (HK.out _).mono ?_
    rintro _ _ ⟨rfl, rfl⟩
    go_wp2
    go_ret
    exact ⟨rfl, N1⟩
  cases z1
  · cases z2
    ·
      go_wp2_with fail
      refine (HK.out _).mono ?_
      rintro _ _ ⟨rfl, rfl⟩
      go_wp2
      go_ret
      exact ⟨rfl, N1⟩
    ·
      go_wp2_with fail
      refine (HK.out _).mono ?_
      rintro _ _ ⟨rfl, rfl⟩
      go_wp2
      go_ret
      exact ⟨rfl, N1⟩
  ·
    go_wp2_with fail
    refine (HK.out _).mono ?_
    rintro _ _ ⟨rfl, rfl⟩
    go_wp2
    go_ret
    exact ⟨rfl, N1⟩

/-- the least number that may stand at place i -/
def least19 (l : List Int) (i : Nat) : Int := if i = 0 then 0 else l.getD (i - 1) 0 + 1

theorem least19_at (l : List Int) (i : Nat) (v : Int) (hv : l[i]? = some v) (h : ∀ j, j < i → incrAt l j) : incrAt l i ↔ (least19 l i ≤ v ∧ v ≤ 31) := by
  have hg : l.getD i 0 = v := by rw [List.getD_eq_getElem?_getD, hv]; rfl
  unfold incrAt least19
  rw [hg]
  by_cases h0 : i = 0
  · rw [if_pos h0]
    constructor
    · rintro ⟨⟨h1, h2⟩, -⟩; exact ⟨h1, h2⟩
    · rintro ⟨h1, h2⟩; exact ⟨⟨h1, h2⟩, fun h => by omega⟩
  · rw [if_neg h0]
    have hp := (h (i - 1) (by omega)).1
    constructor
    · rintro ⟨⟨h1, h2⟩, h3⟩; have := h3 (by omega); omega
    · rintro ⟨h1, h2⟩; exact ⟨⟨by omega, h2⟩, fun _ => by omega⟩

theorem least19_next (l : List Int) (i : Nat) (v : Int) (hv : l[i]? = some v) : least19 l (i + 1) = v + 1 := by
  have hg : l.getD i 0 = v := by rw [List.getD_eq_getElem?_getD, hv]; rfl
  unfold least19
  rw [if_neg (by omega), Nat.add_sub_cancel, hg]

set_option maxHeartbeats 1000000 in
theorem nodRising (w : World) (x : Value) (l : List Int) (hx : RdV w x (l.map (Value.int .i64))) :
    Calls Tryd.prog 40 #[x] w (SameTo19 w (decide (incr l))) := by
  obtain ⟨ax, nx, cx, rfl, hnx, hcx, hmx, -⟩ := id hx
  rw [List.length_map] at hnx
  unfold maxLen at hmx
  have HX := Lib.hid hx
  have HL : Hid (l.length = nx) := Lib.hid hnx
  obtain ⟨B, HB⟩ : ∃ B, Hid (decide (incr l) = B) := ⟨_, Lib.hid rfl⟩
  rw [HB.out]
  clear hx hnx
  have hnb : nx ≤ 9223372036854775807 := by omega
  go_enter Tryd.func40, Tryd.ntmps40
  go_upto_region 3 with fail
  go_loopw [3, 5, 8] (fun s _ v wr => ∃ i : Nat, v = .int .i64 i ∧ i ≤ nx ∧ s = .int .i64 (least19 l i) ∧ (∀ j, j < i → incrAt l j) ∧ New w wr) (fun _ _ v _ => nx - (intOf v).toNat)
  case atStart => exact ⟨0, rfl, Nat.zero_le _, rfl, fun j hj => absurd hj (Nat.not_lt_zero j), Below.refl _ _⟩
  case round =>
    obtain ⟨i, rfl, hi, rfl, hti, hnw⟩ := hrel
    have HT := Lib.hid hti
    have HN := Lib.hid hnw
    clear hti hnw
    by_cases hlt : i < nx
    · have d : decide ((i : Int) < (nx : Int)) = true := by simpa using hlt
      have hli : (i : Int) < (nx : Int) := by omega
      obtain ⟨b1, o1, hb1, hc1⟩ := (HX.out.new HN.out).cell (by omega)
      subst hb1
      obtain ⟨v, hv⟩ : ∃ u, l[i]? = some u := ⟨_, List.getElem?_eq_getElem (by have := HL.out; omega)⟩
      have c1 := hc1 i (.int .i64 v) (by rw [List.getElem?_map, hv]; rfl)
      have HI := Lib.hid (least19_at l i v hv HT.out)
      have HNX := Lib.hid (least19_next l i v hv)
      have HV : Hid (l.getD i 0 = v) := Lib.hid (by rw [List.getD_eq_getElem?_getD, hv]; rfl)
      have HW := Lib.hid fun wx => nodWithin wx v (least19 l i) 31
      clear hv hc1
      generalize least19 l i = m at *
      by_cases hin : m ≤ v ∧ v ≤ 31
      · rw [decide_eq_true hin] at HW
        have HS : Hid (∀ j, j < i + 1 → incrAt l j) := Lib.hid fun j hj => by
          rcases Nat.lt_or_ge j i with h | h
          · exact HT.out j h
          · obtain rfl : j = i := by omega
            exact HI.out.2 hin
        have hv31 : v ≤ 31 := hin.2
        have hv0 : 0 ≤ v := by
          have h1 := (HI.out.2 hin).1.1
          have h2 := HV.out
          rw [h2] at h1
          exact h1
        clear hin
        go_wp2_with (first | (refine (HW.out _).mono ?_; rintro _ _ ⟨rfl, rfl⟩) | fail)
        go_roundw
        case rel => exact ⟨i + 1, by go_num, by omega, by rw [HNX.out], HS.out, HN.out⟩
        case measure => simp [intOf]; omega
      · rw [decide_eq_false hin] at HW
        have hE : B = false := by
          rw [← HB.out]
          exact decide_eq_false fun h => hin (HI.out.1 (h i (by have := HL.out; omega)))
        subst hE
        clear hin
        go_wp2_with (first | (refine (HW.out _).mono ?_; rintro _ _ ⟨rfl, rfl⟩) | fail)
        go_ret
        exact ⟨rfl, HN.out⟩
    · have hE : B = true := by
        rw [← HB.out]
        exact decide_eq_true fun k hk => HT.out k (by have := HL.out; omega)
      subst hE
      obtain rfl : i = nx := by omega
      clear hlt hi
      go_wp2
      go_ret
      exact ⟨rfl, HN.out⟩

end Go.Proofs.YtliojldkdmaofaaDoor
