/-
  Layer 19: the reference's Right.
-/
import Derived.Test.YtliojldkdmaofaaDoorRefNode
import Derived.BigQuiet
import Derived.LoopTactic
import Derived.Lib.AppendIntMem
namespace Go.Proofs.YtliojldkdmaofaaDoor
set_option linter.unusedVariables false
set_option linter.unusedSimpArgs false
set_option maxRecDepth 100000
open Go.RowKit

theorem drewN19 {w wr : World} (h : New w wr) (n : Nat) : New w (wr.drewN n) := New.trans h (by have := Lib.below_grow wr.heap.size wr (Nat.le_refl _) n #[]; simpa using this)

theorem infoNode19 : (Tryd.prog.info? 26).map (·.size) = some 5 := by kernel_rfl

/-- where valid nodes part -/
theorem nOk_zero {N : NodeL} (h : N.kind = 0) : decide (nOk N) = decide (N = NodeL.zero) := by
  rw [decide_eq_decide]
  obtain ⟨k, nm, ky, pa, un⟩ := N
  simp only at h
  subst h
  unfold NodeL.zero
  constructor
  · rintro (⟨-, h1, h2, h3, h4⟩ | ⟨h0, -⟩ | ⟨h0, -⟩)
    · simp only at h1 h2 h3 h4
      rw [h1, h2, h3, h4]
    · cases h0
    · cases h0
  · intro h
    injection h with h0 h1 h2 h3 h4
    exact .inl ⟨rfl, h1, h2, h3, h4⟩

theorem nOk_key {N : NodeL} (h : N.kind ≠ 0) (hk : rightP N.key = false) : decide (nOk N) = false := by
  refine decide_eq_false ?_
  rintro (⟨h0, -⟩ | ⟨-, h1, -⟩ | ⟨-, h1, -⟩)
  · exact h h0
  · rw [hk] at h1; cases h1
  · rw [hk] at h1; cases h1

theorem nOk_parent {N : NodeL} (h : N.kind ≠ 0) (h0 : N.parent.length ≠ 0) (hp : N.parent.length ≠ 32) : decide (nOk N) = false := by
  refine decide_eq_false ?_
  rintro (⟨h0, -⟩ | ⟨-, -, h1, -⟩ | ⟨-, -, h1, -⟩) <;> omega

theorem nOk_leaf {N : NodeL} (h : N.kind = 1) (hk : rightP N.key = true) (hp : N.parent.length = 0 ∨ N.parent.length = 32) : decide (nOk N) = (decide (1 ≤ N.name.length) && (decide (N.name.length ≤ 16) && decide (N.unm.length = 0))) := by
  rw [Bool.eq_iff_iff]
  simp only [Bool.and_eq_true, decide_eq_true_eq]
  constructor
  · rintro (⟨h0, -⟩ | ⟨-, -, -, h1, h2, h3⟩ | ⟨h0, -⟩)
    · omega
    · exact ⟨h1, h2, by rw [h3]; rfl⟩
    · omega
  · rintro ⟨h1, h2, h3⟩
    exact .inr (.inl ⟨h, hk, hp, h1, h2, List.length_eq_zero_iff.1 h3⟩)

theorem nOk_other {N : NodeL} (h : N.kind ≠ 0) (h1 : N.kind ≠ 1) (h2 : N.kind ≠ 2) : decide (nOk N) = false := by
  refine decide_eq_false ?_
  rintro (⟨h0, -⟩ | ⟨h0, -⟩ | ⟨h0, -⟩)
  · exact h h0
  · exact h1 h0
  · exact h2 h0

theorem nOk_named {N : NodeL} (h : N.kind = 2) (h1 : N.name.length ≠ 0) : decide (nOk N) = false := by
  refine decide_eq_false ?_
  rintro (⟨h0, -⟩ | ⟨h0, -⟩ | ⟨-, -, -, h0, -⟩)
  · omega
  · omega
  · rw [h0] at h1; exact h1 rfl

theorem nOk_branch {N : NodeL} (h : N.kind = 2) (hk : rightP N.key = true) (hp : N.parent.length = 0 ∨ N.parent.length = 32) (hn : N.name.length = 0) : decide (nOk N) = decide (incr N.unm) := by
  rw [decide_eq_decide]
  constructor
  · rintro (⟨h0, -⟩ | ⟨h0, -⟩ | ⟨-, -, -, -, h0⟩)
    · omega
    · omega
    · exact h0
  · intro h0
    exact .inr (.inr ⟨h, hk, hp, List.length_eq_zero_iff.1 hn, h0⟩)

def nCells (v : NodeV) (N : NodeL) : Array Value := #[.int .i64 N.kind, v.nm, .int .u64 (N.key : Int), v.pa, v.un]

set_option maxHeartbeats 2000000 in
theorem refRight19 (w : World) (u : NodeV) (N : NodeL) (hu : NodeR w u N) :
    Calls Tryd.prog 9 #[u.val N] w (SameTo19 w (decide (nOk N))) := by
  have HU := Lib.hid hu
  obtain ⟨a1, n1, c1, e1, l1, -⟩ := hu.nm
  obtain ⟨a2, n2, c2, e2, l2, -⟩ := hu.pa
  obtain ⟨a3, n3, c3, e3, l3, g3, m3, -⟩ := hu.un
  have hky := hu.key
  rw [List.length_map] at l3
  unfold maxLen at m3
  clear hu
  obtain ⟨B, HB⟩ : ∃ B, Hid (decide (nOk N) = B) := ⟨_, Lib.hid rfl⟩
  rw [HB.out]
  unfold NodeV.val
  obtain ⟨unm, upa, uun⟩ := u
  dsimp only at *
  subst e1 e2 e3
  obtain ⟨rk, rn, ry, rp, ru⟩ := N
  dsimp only at *
  have HK := Lib.hid fun wx => refRight7 wx ry hky
  clear hky
  go_enter Tryd.func9, Tryd.ntmps9
  go_upto_region 1 with fail
  have N1 : New w (w.alloc (.cells #[.int .i64 rk, .slice a1 n1 c1, .int .u64 (ry : Int), .slice a2 n2 c2, .slice a3 n3 c3] 26)) := (Below.refl _ _).alloc (Nat.le_refl _) _
  have A1 := At5.made w 26 (.int .i64 rk) (.slice a1 n1 c1) (.int .u64 (ry : Int)) (.slice a2 n2 c2) (.slice a3 n3 c3)
  generalize w.alloc (.cells #[.int .i64 rk, .slice a1 n1 c1, .int .u64 (ry : Int), .slice a2 n2 c2, .slice a3 n3 c3] 26) = w1 at *
  have HA := Lib.hid A1
  have HN1 := Lib.hid N1
  obtain ⟨x0, x1, x2, x3, x4⟩ := A1.cells
  clear A1 N1
  by_cases h0 : rk = 0
  · have hB := nOk_zero (N := ⟨rk, rn, ry, rp, ru⟩) h0
    rw [HB.out] at hB
    have HS := Lib.hid (refSame19 w1 ⟨.slice a1 n1 c1, .slice a2 n2 c2, .slice a3 n3 c3⟩ ⟨.slice none 0 0, .slice none 0 0, .slice none 0 0⟩ ⟨rk, rn, ry, rp, ru⟩ NodeL.zero (HU.out.new HN1.out) ⟨Rd.nil _, Rd.nil _, RdV.nil _, by decide⟩)
    rw [← hB] at HS
    unfold NodeV.val NodeL.zero at HS
    dsimp only at HS
    clear hB
    subst h0
    go_wp2_with (first | refine wpList_load_row rfl 26 _ rfl w.heap.size rfl _ _ _ _ HA.out Tryd.underlying26 rfl infoNode19 ?_ | (refine HS.out.mono ?_; rintro _ w2 ⟨rfl, n2⟩; have N2 := Lib.hid (New.trans HN1.out n2); clear n2) | fail)
    go_ret
    exact ⟨rfl, N2.out⟩
  have d0 : (rk == 0) = false := by simpa using h0
  cases hrp : rightP ry
  · have hB := nOk_key (N := ⟨rk, rn, ry, rp, ru⟩) h0 hrp
    rw [HB.out] at hB
    subst hB
    rw [hrp] at HK
    clear h0
    go_wp2_with fail
    refine (HK.out _).mono ?_
    rintro _ w2 ⟨rfl, rfl⟩
    go_wp2
    go_ret
    exact ⟨rfl, HN1.out⟩
  rw [hrp] at HK
  by_cases hp : n2 = 0 ∨ n2 = 32
  rotate_left
  · have hB := nOk_parent (N := ⟨rk, rn, ry, rp, ru⟩) h0 (by simp only; omega) (by simp only; omega)
    rw [HB.out] at hB
    subst hB
    have d1 : ((n2 : Int) != 0) = true := by simp; omega
    have d2 : ((n2 : Int) != 32) = true := by simp; omega
    clear h0 hp
    go_wp2_with fail
    refine (HK.out _).mono ?_
    rintro _ w2 ⟨rfl, rfl⟩
    go_wp2
    go_ret
    exact ⟨rfl, HN1.out⟩
  have hp' : rp.length = 0 ∨ rp.length = 32 := by omega
  by_cases h00 : n2 = 0
  · have q1 : ((n2 : Int) != 0) = false := by rw [h00]; rfl
    clear h00 hp
    by_cases h1 : rk = 1
    · have hB := nOk_leaf (N := ⟨rk, rn, ry, rp, ru⟩) h1 hrp hp'
      rw [HB.out] at hB
      have d1 : decide (1 ≤ (n1 : Int)) = decide (1 ≤ rn.length) := by rw [decide_eq_decide]; omega
      have d2 : decide ((n1 : Int) ≤ 16) = decide (rn.length ≤ 16) := by rw [decide_eq_decide]; omega
      have d3 : ((n3 : Int) == 0) = decide (ru.length = 0) := by rw [Bool.eq_iff_iff]; simp only [beq_iff_eq, decide_eq_true_eq]; omega
      dsimp only at hB
      subst hB
      generalize decide (1 ≤ rn.length) = z1 at *
      generalize decide (rn.length ≤ 16) = z2 at *
      generalize decide (ru.length = 0) = z3 at *
      subst h1
      clear h0 d0 hp' l1 l2 l3 hrp
      cases z1
      ·
        go_wp2_with fail
        refine (HK.out _).mono ?_
        rintro _ w2 ⟨rfl, rfl⟩
        go_wp2
        go_ret
        exact ⟨rfl, HN1.out⟩
      cases z2
      ·
        go_wp2_with fail
        refine (HK.out _).mono ?_
        rintro _ w2 ⟨rfl, rfl⟩
        go_wp2
        go_ret
        exact ⟨rfl, HN1.out⟩
      go_wp2_with fail
      refine (HK.out _).mono ?_
      rintro _ w2 ⟨rfl, rfl⟩
      go_wp2
      go_ret
      exact ⟨rfl, HN1.out⟩
    have d1 : (rk == 1) = false := by simpa using h1
    by_cases h2 : rk = 2
    rotate_left
    · have hB := nOk_other (N := ⟨rk, rn, ry, rp, ru⟩) h0 h1 h2
      rw [HB.out] at hB
      subst hB
      have d2 : (rk != 2) = true := by simpa using h2
      clear h0 h1 h2 hp' l1 l2 l3 hrp
      go_wp2_with fail
      refine (HK.out _).mono ?_
      rintro _ w2 ⟨rfl, rfl⟩
      go_wp2
      go_ret
      exact ⟨rfl, HN1.out⟩
    by_cases hn : n1 = 0
    rotate_left
    · have hB := nOk_named (N := ⟨rk, rn, ry, rp, ru⟩) h2 (by simp only; omega)
      rw [HB.out] at hB
      subst hB
      have d2 : 0 < n1 := by omega
      subst h2
      clear h0 h1 hn hp' l1 l2 l3 hrp
      go_wp2_with fail
      refine (HK.out _).mono ?_
      rintro _ w2 ⟨rfl, rfl⟩
      go_wp2
      go_ret
      exact ⟨rfl, HN1.out⟩
    have hB := nOk_branch (N := ⟨rk, rn, ry, rp, ru⟩) h2 hrp hp' (by simp only; omega)
    rw [HB.out] at hB
    dsimp only at hB
    have HI : Hid (B = decide (incr ru)) := Lib.hid hB
    have HL : Hid (ru.length = n3) := Lib.hid l3
    have dn : ¬ 0 < n1 := by omega
    have hnb : n3 ≤ 9223372036854775807 := by omega
    clear g3 m3
    subst h2
    clear h0 h1 hn hp' l1 l2 l3 hrp hB HB
    go_wp2_with fail
    refine (HK.out _).mono ?_
    rintro _ w2 ⟨rfl, rfl⟩
    go_upto_region 10 with fail
    go_loopw [3] (fun v wr => ∃ i : Nat, v = .int .i64 i ∧ i ≤ n3 ∧ (∀ j, j < i → incrAt ru j) ∧ New w1 wr) (fun v _ => n3 - (intOf v).toNat)
    case atStart => exact ⟨0, rfl, Nat.zero_le _, fun j hj => absurd hj (Nat.not_lt_zero j), Below.refl _ _⟩
    case round =>
      obtain ⟨i, rfl, hi, hti, hnw⟩ := hrel
      have HT := Lib.hid hti
      have HN := Lib.hid (New.trans HN1.out hnw)
      have HW := Lib.hid hnw
      obtain ⟨x0, x1, x2, x3, x4⟩ := (HA.out.new hnw).cells
      clear hti hnw
      by_cases hlt : i < n3
      · obtain ⟨b1, o1, hb1, hc1⟩ := ((HU.out.un.new HN1.out).new HW.out).cell (by omega)
        subst hb1
        obtain ⟨v, hv⟩ : ∃ u, ru[i]? = some u := ⟨_, List.getElem?_eq_getElem (by have := HL.out; omega)⟩
        have hgv : ru.getD i 0 = v := by rw [List.getD_eq_getElem?_getD, hv]; rfl
        have c1 := hc1 i (.int .i64 v) (by rw [List.getElem?_map, hv]; rfl)
        have hi1 : decide ((i : Int) < (n3 : Int)) = true := by simpa using hlt
        by_cases hv0 : v < 0
        · have hE : B = false := by
            rw [HI.out]
            exact decide_eq_false fun h => by have := (h i (by have := HL.out; omega)).1.1; omega
          have e1 : decide (v < 0) = true := by simpa using hv0
          subst hE
          clear hc1 hv hgv hv0 hi
          go_wp2_with fail
          go_quiet (fail)
          go_wp2
          go_ret
          exact ⟨rfl, drewN19 HN.out _⟩
        have e1 : decide (v < 0) = false := by simpa using hv0
        by_cases hv1 : 31 < v
        · have hE : B = false := by
            rw [HI.out]
            exact decide_eq_false fun h => by have := (h i (by have := HL.out; omega)).1.2; omega
          have e2 : decide (31 < v) = true := by simpa using hv1
          subst hE
          clear hc1 hv hgv hv0 hv1 hi
          go_wp2_with fail
          go_quiet (fail)
          go_wp2
          go_ret
          exact ⟨rfl, drewN19 HN.out _⟩
        have e2 : decide (31 < v) = false := by simpa using hv1
        by_cases hi0 : i = 0
        · have HX : Hid (∀ j, j < i + 1 → incrAt ru j) := Lib.hid fun j hj => by
            rcases Nat.lt_or_ge j i with h | h
            · exact HT.out j h
            · obtain rfl : j = i := by omega
              exact ⟨by rw [hgv]; omega, fun h => by omega⟩
          subst hi0
          rw [Nat.add_zero] at c1
          clear hc1 hv hgv hv0 hv1
          go_wp2_with fail
          go_quiet (fail)
          go_wp2
          exact ⟨⟨1, by go_num, by omega, HX.out, drewN19 HW.out _⟩, by simp [intOf]; omega⟩
        obtain ⟨j, rfl⟩ : ∃ j, i = j + 1 := ⟨i - 1, by omega⟩
        obtain ⟨u, hu'⟩ : ∃ u, ru[j]? = some u := ⟨_, List.getElem?_eq_getElem (by have := HL.out; omega)⟩
        have hgu : ru.getD j 0 = u := by rw [List.getD_eq_getElem?_getD, hu']; rfl
        have c2 := hc1 j (.int .i64 u) (by rw [List.getElem?_map, hu']; rfl)
        by_cases huv : u < v
        · have HX : Hid (∀ k, k < j + 1 + 1 → incrAt ru k) := Lib.hid fun k hk => by
            rcases Nat.lt_or_ge k (j + 1) with h | h
            · exact HT.out k h
            · obtain rfl : k = j + 1 := by omega
              exact ⟨by rw [hgv]; omega, fun h => by rw [hgv, Nat.add_sub_cancel, hgu]; exact huv⟩
          have e3 : decide (v ≤ u) = false := by simp; omega
          clear hc1 hv hgv hv0 hv1 hi0 hu' hgu huv
          go_wp2_with fail
          go_quiet (fail)
          go_wp2
          exact ⟨⟨j + 1 + 1, by go_num, by omega, HX.out, drewN19 HW.out _⟩, by simp [intOf]; omega⟩
        · have hE : B = false := by
            rw [HI.out]
            exact decide_eq_false fun h => by have := (h (j + 1) (by have := HL.out; omega)).2 (by omega); rw [hgv, Nat.add_sub_cancel, hgu] at this; omega
          have e3 : decide (v ≤ u) = true := by simp; omega
          subst hE
          clear hc1 hv hgv hv0 hv1 hi0 hu' hgu huv hi
          go_wp2_with fail
          go_quiet (fail)
          go_wp2
          go_ret
          exact ⟨rfl, drewN19 HN.out _⟩
      · have hE : B = true := by
          rw [HI.out]
          exact decide_eq_true fun k hk => HT.out k (by have := HL.out; omega)
        subst hE
        obtain rfl : i = n3 := by omega
        go_wp2_with fail
        go_ret
        exact ⟨rfl, HN.out⟩
  · have q1 : ((n2 : Int) != 0) = true := by simp; omega
    have q2 : ((n2 : Int) != 32) = false := by rw [show n2 = 32 by omega]; rfl
    clear h00 hp
    by_cases h1 : rk = 1
    · have hB := nOk_leaf (N := ⟨rk, rn, ry, rp, ru⟩) h1 hrp hp'
      rw [HB.out] at hB
      have d1 : decide (1 ≤ (n1 : Int)) = decide (1 ≤ rn.length) := by rw [decide_eq_decide]; omega
      have d2 : decide ((n1 : Int) ≤ 16) = decide (rn.length ≤ 16) := by rw [decide_eq_decide]; omega
      have d3 : ((n3 : Int) == 0) = decide (ru.length = 0) := by rw [Bool.eq_iff_iff]; simp only [beq_iff_eq, decide_eq_true_eq]; omega
      dsimp only at hB
      subst hB
      generalize decide (1 ≤ rn.length) = z1 at *
      generalize decide (rn.length ≤ 16) = z2 at *
      generalize decide (ru.length = 0) = z3 at *
      subst h1
      clear h0 d0 hp' l1 l2 l3 hrp
      cases z1
      ·
        go_wp2_with fail
        refine (HK.out _).mono ?_
        rintro _ w2 ⟨rfl, rfl⟩
        go_wp2
        go_ret
        exact ⟨rfl, HN1.out⟩
      cases z2
      ·
        go_wp2_with fail
        refine (HK.out _).mono ?_
        rintro _ w2 ⟨rfl, rfl⟩
        go_wp2
        go_ret
        exact ⟨rfl, HN1.out⟩
      go_wp2_with fail
      refine (HK.out _).mono ?_
      rintro _ w2 ⟨rfl, rfl⟩
      go_wp2
      go_ret
      exact ⟨rfl, HN1.out⟩
    have d1 : (rk == 1) = false := by simpa using h1
    by_cases h2 : rk = 2
    rotate_left
    · have hB := nOk_other (N := ⟨rk, rn, ry, rp, ru⟩) h0 h1 h2
      rw [HB.out] at hB
      subst hB
      have d2 : (rk != 2) = true := by simpa using h2
      clear h0 h1 h2 hp' l1 l2 l3 hrp
      go_wp2_with fail
      refine (HK.out _).mono ?_
      rintro _ w2 ⟨rfl, rfl⟩
      go_wp2
      go_ret
      exact ⟨rfl, HN1.out⟩
    by_cases hn : n1 = 0
    rotate_left
    · have hB := nOk_named (N := ⟨rk, rn, ry, rp, ru⟩) h2 (by simp only; omega)
      rw [HB.out] at hB
      subst hB
      have d2 : 0 < n1 := by omega
      subst h2
      clear h0 h1 hn hp' l1 l2 l3 hrp
      go_wp2_with fail
      refine (HK.out _).mono ?_
      rintro _ w2 ⟨rfl, rfl⟩
      go_wp2
      go_ret
      exact ⟨rfl, HN1.out⟩
    have hB := nOk_branch (N := ⟨rk, rn, ry, rp, ru⟩) h2 hrp hp' (by simp only; omega)
    rw [HB.out] at hB
    dsimp only at hB
    have HI : Hid (B = decide (incr ru)) := Lib.hid hB
    have HL : Hid (ru.length = n3) := Lib.hid l3
    have dn : ¬ 0 < n1 := by omega
    have hnb : n3 ≤ 9223372036854775807 := by omega
    clear g3 m3
    subst h2
    clear h0 h1 hn hp' l1 l2 l3 hrp hB HB
    go_wp2_with fail
    refine (HK.out _).mono ?_
    rintro _ w2 ⟨rfl, rfl⟩
    go_upto_region 10 with fail
    go_loopw [3] (fun v wr => ∃ i : Nat, v = .int .i64 i ∧ i ≤ n3 ∧ (∀ j, j < i → incrAt ru j) ∧ New w1 wr) (fun v _ => n3 - (intOf v).toNat)
    case atStart => exact ⟨0, rfl, Nat.zero_le _, fun j hj => absurd hj (Nat.not_lt_zero j), Below.refl _ _⟩
    case round =>
      obtain ⟨i, rfl, hi, hti, hnw⟩ := hrel
      have HT := Lib.hid hti
      have HN := Lib.hid (New.trans HN1.out hnw)
      have HW := Lib.hid hnw
      obtain ⟨x0, x1, x2, x3, x4⟩ := (HA.out.new hnw).cells
      clear hti hnw
      by_cases hlt : i < n3
      · obtain ⟨b1, o1, hb1, hc1⟩ := ((HU.out.un.new HN1.out).new HW.out).cell (by omega)
        subst hb1
        obtain ⟨v, hv⟩ : ∃ u, ru[i]? = some u := ⟨_, List.getElem?_eq_getElem (by have := HL.out; omega)⟩
        have hgv : ru.getD i 0 = v := by rw [List.getD_eq_getElem?_getD, hv]; rfl
        have c1 := hc1 i (.int .i64 v) (by rw [List.getElem?_map, hv]; rfl)
        have hi1 : decide ((i : Int) < (n3 : Int)) = true := by simpa using hlt
        by_cases hv0 : v < 0
        · have hE : B = false := by
            rw [HI.out]
            exact decide_eq_false fun h => by have := (h i (by have := HL.out; omega)).1.1; omega
          have e1 : decide (v < 0) = true := by simpa using hv0
          subst hE
          clear hc1 hv hgv hv0 hi
          go_wp2_with fail
          go_quiet (fail)
          go_wp2
          go_ret
          exact ⟨rfl, drewN19 HN.out _⟩
        have e1 : decide (v < 0) = false := by simpa using hv0
        by_cases hv1 : 31 < v
        · have hE : B = false := by
            rw [HI.out]
            exact decide_eq_false fun h => by have := (h i (by have := HL.out; omega)).1.2; omega
          have e2 : decide (31 < v) = true := by simpa using hv1
          subst hE
          clear hc1 hv hgv hv0 hv1 hi
          go_wp2_with fail
          go_quiet (fail)
          go_wp2
          go_ret
          exact ⟨rfl, drewN19 HN.out _⟩
        have e2 : decide (31 < v) = false := by simpa using hv1
        by_cases hi0 : i = 0
        · have HX : Hid (∀ j, j < i + 1 → incrAt ru j) := Lib.hid fun j hj => by
            rcases Nat.lt_or_ge j i with h | h
            · exact HT.out j h
            · obtain rfl : j = i := by omega
              exact ⟨by rw [hgv]; omega, fun h => by omega⟩
          subst hi0
          rw [Nat.add_zero] at c1
          clear hc1 hv hgv hv0 hv1
          go_wp2_with fail
          go_quiet (fail)
          go_wp2
          exact ⟨⟨1, by go_num, by omega, HX.out, drewN19 HW.out _⟩, by simp [intOf]; omega⟩
        obtain ⟨j, rfl⟩ : ∃ j, i = j + 1 := ⟨i - 1, by omega⟩
        obtain ⟨u, hu'⟩ : ∃ u, ru[j]? = some u := ⟨_, List.getElem?_eq_getElem (by have := HL.out; omega)⟩
        have hgu : ru.getD j 0 = u := by rw [List.getD_eq_getElem?_getD, hu']; rfl
        have c2 := hc1 j (.int .i64 u) (by rw [List.getElem?_map, hu']; rfl)
        by_cases huv : u < v
        · have HX : Hid (∀ k, k < j + 1 + 1 → incrAt ru k) := Lib.hid fun k hk => by
            rcases Nat.lt_or_ge k (j + 1) with h | h
            · exact HT.out k h
            · obtain rfl : k = j + 1 := by omega
              exact ⟨by rw [hgv]; omega, fun h => by rw [hgv, Nat.add_sub_cancel, hgu]; exact huv⟩
          have e3 : decide (v ≤ u) = false := by simp; omega
          clear hc1 hv hgv hv0 hv1 hi0 hu' hgu huv
          go_wp2_with fail
          go_quiet (fail)
          go_wp2
          exact ⟨⟨j + 1 + 1, by go_num, by omega, HX.out, drewN19 HW.out _⟩, by simp [intOf]; omega⟩
        · have hE : B = false := by
            rw [HI.out]
            exact decide_eq_false fun h => by have := (h (j + 1) (by have := HL.out; omega)).2 (by omega); rw [hgv, Nat.add_sub_cancel, hgu] at this; omega
          have e3 : decide (v ≤ u) = true := by simp; omega
          subst hE
          clear hc1 hv hgv hv0 hv1 hi0 hu' hgu huv hi
          go_wp2_with fail
          go_quiet (fail)
          go_wp2
          go_ret
          exact ⟨rfl, drewN19 HN.out _⟩
      · have hE : B = true := by
          rw [HI.out]
          exact decide_eq_true fun k hk => HT.out k (by have := HL.out; omega)
        subst hE
        obtain rfl : i = n3 := by omega
        go_wp2_with fail
        go_ret
        exact ⟨rfl, HN.out⟩

end Go.Proofs.YtliojldkdmaofaaDoor
