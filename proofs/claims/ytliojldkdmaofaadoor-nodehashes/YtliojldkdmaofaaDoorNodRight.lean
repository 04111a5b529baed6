/-
  node.Right.
-/
import Derived.Test.YtliojldkdmaofaaDoorNodFns
namespace Go.Proofs.YtliojldkdmaofaaDoor
set_option linter.unusedVariables false
set_option linter.unusedSimpArgs false
set_option maxRecDepth 100000
open Go.RowKit

theorem wpList_load_rowG {P : Program} {ops : Array Oper} {rest : List Oper} {o : Oper} {a : Act} {w : World} {Q : Exit → Act → World → Prop} (hw : Region.wanted o (yielded ops a.tmps) = true) (ty : TypeId) (x : Operand) (ho : o.op = .load ty x)
    (g : Nat) (hx : a.eval x = .pointer (some ⟨g, 0, none⟩)) (t : TypeId) (cs : Array Value) (fr : Nat × Nat) (d : TypeDesc) (hg : w.heap[g]? = some (.cells cs t fr))
    (hu : P.underlying ty = some d) (hd : (match d with | .struct _ | .array _ _ => true | _ => false) = true) (hi : (P.info? ty).map (·.size) = some cs.size)
    (h : wpList P ops Q rest (a.put o.dst (.agg cs)) w) : wpList P ops Q (o :: rest) a w := by
  show if Region.wanted o (yielded ops a.tmps) then _ else _
  rw [if_pos hw]
  exact .inl (wp_load_row ty x ho g hx t cs fr d hg hu hd hi h)

theorem nOk_one {N : NodeL} (h : N.kind = 1) : decide (nOk N) = (decide ((1 : Int) ≤ (N.name.length : Int) ∧ (N.name.length : Int) ≤ 16) && (nKeyed N && decide (N.unm.length = 0))) := by
  rw [Bool.eq_iff_iff]
  simp only [Bool.and_eq_true, decide_eq_true_eq, nKeyed_iff]
  constructor
  · rintro (⟨h0, -⟩ | ⟨-, h1, h2, h3, h4, h5⟩ | ⟨h0, -⟩)
    · omega
    · exact ⟨⟨by omega, by omega⟩, ⟨h1, h2⟩, by rw [h5]; rfl⟩
    · omega
  · rintro ⟨⟨h1, h2⟩, ⟨h3, h4⟩, h5⟩
    exact .inr (.inl ⟨h, h3, h4, by omega, by omega, List.length_eq_zero_iff.1 h5⟩)

theorem nOk_two {N : NodeL} (h : N.kind = 2) : decide (nOk N) = (decide (N.name.length = 0) && (nKeyed N && decide (incr N.unm))) := by
  rw [Bool.eq_iff_iff]
  simp only [Bool.and_eq_true, decide_eq_true_eq, nKeyed_iff]
  constructor
  · rintro (⟨h0, -⟩ | ⟨h0, -⟩ | ⟨-, h1, h2, h3, h4⟩)
    · omega
    · omega
    · exact ⟨by rw [h3]; rfl, ⟨h1, h2⟩, h4⟩
  · rintro ⟨h1, ⟨h3, h4⟩, h5⟩
    exact .inr (.inr ⟨h, h3, h4, List.length_eq_zero_iff.1 h1, h5⟩)

set_option maxHeartbeats 2000000 in
theorem nodRight (w : World) (u : NodeV) (N : NodeL) (hu : NodeR w u N) :
    Calls Tryd.prog 23 #[u.val N] w (SameTo19 w (decide (nOk N))) := by
  have HU := Lib.hid hu
  obtain ⟨a1, n1, c1, e1, l1, -⟩ := hu.nm
  obtain ⟨a2, n2, c2, e2, l2, -⟩ := hu.pa
  obtain ⟨a3, n3, c3, e3, l3, -⟩ := hu.un
  rw [List.length_map] at l3
  clear hu
  obtain ⟨B, HB⟩ : ∃ B, Hid (decide (nOk N) = B) := ⟨_, Lib.hid rfl⟩
  rw [HB.out]
  unfold NodeV.val
  obtain ⟨unm, upa, uun⟩ := u
  dsimp only at *
  subst e1 e2 e3
  obtain ⟨rk, rn, ry, rp, ru⟩ := N
  dsimp only at *
  go_enter Tryd.func23, Tryd.ntmps23
  go_upto_region 1 with fail
  have N1 : New w (w.alloc (.cells #[.int .i64 rk, .slice a1 n1 c1, .int .u64 (ry : Int), .slice a2 n2 c2, .slice a3 n3 c3] 26)) := (Below.refl _ _).alloc (Nat.le_refl _) _
  have A1 := At5.made w 26 (.int .i64 rk) (.slice a1 n1 c1) (.int .u64 (ry : Int)) (.slice a2 n2 c2) (.slice a3 n3 c3)
  generalize w.alloc (.cells #[.int .i64 rk, .slice a1 n1 c1, .int .u64 (ry : Int), .slice a2 n2 c2, .slice a3 n3 c3] 26) = w1 at *
  have HA := Lib.hid A1
  have HN1 := Lib.hid N1
  obtain ⟨x0, x1, x2, x3, x4⟩ := A1.cells
  clear A1 N1
  by_cases h0 : rk = 0
  · have hB := nOk_zero (N := ⟨rk, rn, ry, rp, ru⟩) h0
    rw [HB.out] at hB
    have HS := Lib.hid (nodSame w1 ⟨.slice a1 n1 c1, .slice a2 n2 c2, .slice a3 n3 c3⟩ ⟨.slice none 0 0, .slice none 0 0, .slice none 0 0⟩ ⟨rk, rn, ry, rp, ru⟩ NodeL.zero (HU.out.new HN1.out) ⟨Rd.nil _, Rd.nil _, RdV.nil _, by decide⟩)
    rw [← hB] at HS
    unfold NodeV.val NodeL.zero at HS
    dsimp only at HS
    clear hB
    subst h0
    go_wp2_with (first | refine wpList_load_row rfl 26 _ rfl w.heap.size rfl _ _ _ _ HA.out Tryd.underlying26 rfl infoNode19 ?_ | (refine HS.out.mono ?_; rintro _ w2 ⟨rfl, n2⟩; have N2 := Lib.hid (New.trans HN1.out n2); clear n2) | fail)
    go_ret
    exact ⟨rfl, N2.out⟩
  have d0 : (rk == 0) = false := by simpa using h0
  have HKD := Lib.hid (nodKeyed w1 ⟨.slice a1 n1 c1, .slice a2 n2 c2, .slice a3 n3 c3⟩ ⟨rk, rn, ry, rp, ru⟩ (HU.out.new HN1.out))
  unfold NodeV.val at HKD
  dsimp only at HKD
  by_cases h1 : rk = 1
  · have hB := nOk_one (N := ⟨rk, rn, ry, rp, ru⟩) h1
    rw [HB.out] at hB
    have HW := Lib.hid fun wx => nodWithin wx (n1 : Int) 1 16
    have d3 : ((n3 : Int) == 0) = decide (ru.length = 0) := by rw [Bool.eq_iff_iff]; simp only [beq_iff_eq, decide_eq_true_eq]; omega
    dsimp only at hB
    rw [l1] at hB
    subst hB
    generalize decide ((1 : Int) ≤ (n1 : Int) ∧ (n1 : Int) ≤ 16) = z1 at *
    generalize nKeyed ⟨rk, rn, ry, rp, ru⟩ = z2 at *
    generalize decide (ru.length = 0) = z3 at *
    subst h1
    clear h0 d0 l1 l2 l3 HB
    cases z1
    ·
      go_wp2_with fail
      refine (HW.out _).mono ?_
      rintro _ _ ⟨rfl, rfl⟩
      go_wp2
      go_ret
      exact ⟨rfl, HN1.out⟩
    go_wp2_with fail
    refine (HW.out _).mono ?_
    rintro _ _ ⟨rfl, rfl⟩
    go_wp2_with (first | refine wpList_load_rowG (by rfl) 26 _ rfl w.heap.size rfl _ _ _ _ HA.out Tryd.underlying26 rfl infoNode19 ?_ | fail)
    refine HKD.out.mono ?_
    rintro _ w2 ⟨rfl, n2⟩
    have N2 := Lib.hid (New.trans HN1.out n2)
    have HA2 := Lib.hid (HA.out.new n2)
    clear n2 x0 x1 x2 x3 x4
    obtain ⟨x0, x1, x2, x3, x4⟩ := HA2.out.cells
    cases z2
    · go_wp2
      go_ret
      exact ⟨rfl, N2.out⟩
    cases z3
    · go_wp2
      go_ret
      exact ⟨rfl, N2.out⟩
    · go_wp2
      go_ret
      exact ⟨rfl, N2.out⟩
  have d1 : (rk == 1) = false := by simpa using h1
  by_cases h2 : rk = 2
  rotate_left
  · have hB := nOk_other (N := ⟨rk, rn, ry, rp, ru⟩) h0 h1 h2
    rw [HB.out] at hB
    subst hB
    have d2 : (rk == 2) = false := by simpa using h2
    clear h0 h1 h2 l1 l2 l3 HKD HU
    go_wp2
    go_ret
    exact ⟨rfl, HN1.out⟩
  have hB := nOk_two (N := ⟨rk, rn, ry, rp, ru⟩) h2
  rw [HB.out] at hB
  have d3 : ((n1 : Int) == 0) = decide (rn.length = 0) := by rw [Bool.eq_iff_iff]; simp only [beq_iff_eq, decide_eq_true_eq]; omega
  have HR := Lib.hid fun wx hn => nodRising wx (.slice a3 n3 c3) ru (HU.out.un.new (w' := wx) hn)
  dsimp only at hB
  subst hB
  generalize decide (rn.length = 0) = z1 at *
  generalize nKeyed ⟨rk, rn, ry, rp, ru⟩ = z2 at *
  generalize decide (incr ru) = z3 at *
  subst h2
  clear h0 d0 h1 d1 l1 l2 l3 HB HU
  cases z1
  ·
    go_wp2
    go_ret
    exact ⟨rfl, HN1.out⟩
  go_wp2_with (first | refine wpList_load_rowG (by rfl) 26 _ rfl w.heap.size rfl _ _ _ _ HA.out Tryd.underlying26 rfl infoNode19 ?_ | fail)
  refine HKD.out.mono ?_
  rintro _ w2 ⟨rfl, n2⟩
  have N2 := Lib.hid (New.trans HN1.out n2)
  have HA2 := Lib.hid (HA.out.new n2)
  clear n2 x0 x1 x2 x3 x4
  obtain ⟨x0, x1, x2, x3, x4⟩ := HA2.out.cells
  cases z2
  · go_wp2
    go_ret
    exact ⟨rfl, N2.out⟩
  go_wp2_with fail
  refine (HR.out _ N2.out).mono ?_
  rintro _ w3 ⟨rfl, n3⟩
  have N3 := Lib.hid (New.trans N2.out n3)
  clear n3
  go_wp2
  go_ret
  exact ⟨rfl, N3.out⟩

/-- a node of new memory -/
structure NodeN19 (w w' : World) (v : NodeV) (N : NodeL) : Prop where
  rd : NodeR w' v N
  nb : N.name ≠ [] → ∀ k, blk v.nm = some k → w.heap.size ≤ k
  pb : N.parent ≠ [] → ∀ k, blk v.pa = some k → w.heap.size ≤ k
  ub : ∀ k, blk v.un = some k → w.heap.size ≤ k

theorem NodeN19.new {w w5 w6 : World} {v : NodeV} {N : NodeL} (h : NodeN19 w w5 v N) (hn : New w5 w6) : NodeN19 w w6 v N := ⟨h.rd.new hn, h.nb, h.pb, h.ub⟩

theorem NodeN19.only {w w5 w6 : World} {v : NodeV} {N : NodeL} {F : Nat → Prop} (h : NodeN19 w w5 v N) (ho : Only F w5 w6) (hF : ∀ k, F k → k < w.heap.size) : NodeN19 w w6 v N :=
  ⟨⟨h.rd.nm.only ho (fun k hk hne e => by have := h.nb hne k hk; have := hF _ e; omega), h.rd.pa.only ho (fun k hk hne e => by have := h.pb hne k hk; have := hF _ e; omega), h.rd.un.only ho (fun k hk _ e => by have := h.ub k hk; have := hF _ e; omega), h.rd.key⟩, h.nb, h.pb, h.ub⟩

theorem node_zero19 (w w' : World) : NodeN19 w w' ⟨.slice none 0 0, .slice none 0 0, .slice none 0 0⟩ NodeL.zero := ⟨⟨Rd.nil _, Rd.nil _, RdV.nil _, by decide⟩, fun h => absurd rfl h, fun h => absurd rfl h, fun k hk => by simp [blk] at hk⟩

end Go.Proofs.YtliojldkdmaofaaDoor
