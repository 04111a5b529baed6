/-
  ShaParts: the walk.
-/
import Derived.Test.YtcdmomkljgoafaaDoorLaw02
import Derived.Test.YtcdmomkljgoafaaDoorOrd2
import Derived.Deep.Cut
namespace Go.Proofs.YtcdmomkljgoafaaDoor
set_option linter.unusedVariables false
set_option linter.unusedSimpArgs false
open Go.RowKit

theorem RdL.made4 (w : World) (v1 v2 v3 v4 : Value) (l1 l2 l3 l4 : List UInt8) (e : TypeId) (h1 : Rd w v1 l1) (h2 : Rd w v2 l2) (h3 : Rd w v3 l3) (h4 : Rd w v4 l4) : RdL (w.alloc (.cells #[v1, v2, v3, v4] e)) (.slice (some ⟨w.heap.size, 0, none⟩) 4 4) [(v1, l1), (v2, l2), (v3, l3), (v4, l4)] :=
  ⟨RdV.made w [v1, v2, v3, v4] e (0, 0) (by simp), fun p hp => by
    have hn : New w (w.alloc (.cells #[v1, v2, v3, v4] e)) := (Below.refl _ _).alloc (Nat.le_refl _) _
    simp only [List.mem_cons, List.not_mem_nil, or_false] at hp
    rcases hp with rfl | rfl | rfl | rfl
    · exact h1.new hn
    · exact h2.new hn
    · exact h3.new hn
    · exact h4.new hn⟩

theorem all4 (b : List UInt8) (p q : Nat) (ax am ae : Option Addr) (nx cx : Nat) (h : p ≤ q) : allOf [(.slice ax p cx, b.take p), (.slice am (q - p) (cx - p), (b.take q).drop p), (.slice none 0 0, []), (.slice ae (nx - q) (cx - q), b.drop q)] = b := by
  have h1 : b.take p = (b.take q).take p := by rw [List.take_take, Nat.min_eq_left h]
  simp only [allOf, List.flatMap_cons, List.flatMap_nil, List.append_nil, List.nil_append]
  rw [h1, ← List.append_assoc, List.take_append_drop, List.take_append_drop]

theorem all1 (v : Value) (b : List UInt8) : allOf [(v, b)] = b := by simp [allOf]

/-- sha.Sum of parts that join to b -/
theorem sumL (w : World) (v : Value) (ps : List (Value × List UInt8)) (b : List UInt8) (he : allOf ps = b) (h : RdL w v ps) (hb : b.length ≤ 1099511627776) (hp : ps.length ≤ 100) (hL : Laid w) :
    Calls Tryd.prog 7 #[v] w fun e w' => ∃ a n c, e = .returned (.slice a n c) ∧ Rd w' (.slice a n c) (sha256 b) ∧ New w w' := by
  subst he
  refine (shaSum w v ps h (by omega) (by omega) hL).mono ?_
  rintro e w' ⟨v', rfl, hown, hn⟩
  have hr := Rd.of_own hown
  have hr' := hr
  obtain ⟨a, n, c, rfl, _⟩ := hr'
  exact ⟨a, n, c, rfl, hr, hn⟩

/-- s[l:h] of a slice of bytes -/
theorem run_slice_mid (a : Option Addr) (m c l h : Nat) (hl : l ≤ h) (hh : h ≤ m) (hm : m ≤ c) :
    ∃ a', (∀ w, (Instr.slice 22 (.slice a m c) (some (.int .i64 (l : Int))) (some (.int .i64 (h : Int))) none).run Tryd.prog w = .ok (.slice a' (h - l) (c - l)) w) ∧ ∀ w L, Rd w (.slice a m c) L → Rd w (.slice a' (h - l) (c - l)) ((L.take h).drop l) := by
  have hr : ∀ w, (Instr.slice 22 (.slice a m c) (some (.int .i64 (l : Int))) (some (.int .i64 (h : Int))) none).run Tryd.prog w = .ok (.slice (if c = l then a else a.map (·.add l)) (h - l) (c - l)) w := fun w => by
    rw [run_slice_lh w 22 a m c slice22 .i64 .i64 (l : Int) (h : Int) (by omega) (by omega) (by omega), slice22_size]
    simp only [Result.andThen_ok, sliced, Int.toNat_natCast, Nat.mul_one]
  refine ⟨_, hr, fun w L hL => ?_⟩
  have hcut := hL.cut (k := h) (c' := c) hh (by omega) (Nat.le_refl _)
  by_cases e : c = l
  · have e2 : h = l := by omega
    rw [if_pos e]
    have hln := hcut.len
    rw [List.drop_of_length_le (by omega), e2, e]
    obtain ⟨a', m', c', e', h1, h2, h3, h4, h5⟩ := hL
    cases e'
    exact ⟨a, _, _, rfl, by simp, by omega, by simp [maxLen], fun ha => ⟨by omega, by omega⟩, by simp⟩
  · rw [if_neg e]
    exact hcut.rest hl

set_option maxRecDepth 100000 in
set_option maxHeartbeats 4000000 in
theorem partsWalk (w : World) (x : Value) (b : List UInt8) (hx : Rd w x b) (at_ to_ : Int) (hL : Laid w) :
    Calls Tryd.prog 4 #[x, .int .i64 at_, .int .i64 to_] w fun e w' => e = .returned (.bool true) ∧ New w w' := by
  have hx' := hx
  obtain ⟨ax, nx, cx, rfl, hax, hxc, hxm, _, _⟩ := hx'
  have HA := Lib.hid hax
  have HX := Lib.hid hx
  have HL := Lib.hid hL
  clear hax hx hL
  unfold maxLen at hxm
  by_cases h1 : nx ≤ 600
  · have hd : decide ((600 : Int) < (nx : Int)) = false := by simp; omega
    go_enter Tryd.func4, Tryd.ntmps4
    go_wp2_with fail
    refine (awake02 w HL.out).mono ?_
    rintro e w1 ⟨rfl, hn1⟩
    go_wp2_with fail
    refine (refRest2 w1 at_ ((nx : Int) + 1) (by omega) (by omega)).mono ?_
    rintro e w' ⟨rfl, rfl⟩
    have hi1 : 0 ≤ at_ % ((nx : Int) + 1) := Int.emod_nonneg _ (by omega)
    have hi2 : at_ % ((nx : Int) + 1) < (nx : Int) + 1 := Int.emod_lt_of_pos _ (by omega)
    generalize at_ % ((nx : Int) + 1) = ii at *
    obtain ⟨i, rfl⟩ := Int.eq_ofNat_of_zero_le hi1
    go_wp2_with fail
    refine (refRest2 w1 to_ ((nx : Int) + 1) (by omega) (by omega)).mono ?_
    rintro e w' ⟨rfl, rfl⟩
    have hk1 : 0 ≤ to_ % ((nx : Int) + 1) := Int.emod_nonneg _ (by omega)
    have hk2 : to_ % ((nx : Int) + 1) < (nx : Int) + 1 := Int.emod_lt_of_pos _ (by omega)
    generalize to_ % ((nx : Int) + 1) = kk at *
    obtain ⟨k, rfl⟩ := Int.eq_ofNat_of_zero_le hk1
    go_upto_region 4 with fail
    go_cut [7, 8] from 27 (fun a c wx => ∃ p q : Nat, p ≤ q ∧ q ≤ nx ∧ a = .int .i64 p ∧ c = .int .i64 q ∧ w1 = wx)
    case first =>
      go_wp2
      all_goals
        go_meet
        case rel => first | exact ⟨i, k, by omega, by omega, rfl, rfl, rfl⟩ | exact ⟨k, i, by omega, by omega, rfl, rfl, rfl⟩ | exact ⟨i, i, by omega, by omega, rfl, rfl, rfl⟩ | exact ⟨k, k, by omega, by omega, rfl, rfl, rfl⟩
    case rest =>
      obtain ⟨p, q, hpq, hq, rfl, rfl, rfl⟩ := hcut
      have hbl : b.length ≤ 1099511627776 := by rw [HA.out]; omega
      obtain ⟨am, hsm, hrm⟩ := run_slice_mid ax nx cx p q hpq hq hxc
      obtain ⟨ae, hse, _, hre⟩ := run_slice_from slice22 slice22_size ax nx cx q hq hxc
      have q0 := HX.out.new hn1
      have q1 := (HX.out.new hn1).cut (k := p) (c' := cx) (by omega) (by omega) (Nat.le_refl _)
      have q2 := hrm _ _ (HX.out.new hn1)
      have q3 := Rd.nil w1
      have q4 := hre _ _ (HX.out.new hn1)
      have hL := HL.out.new hn1
      have hpc : p ≤ cx := by omega
      have hpc2 : (p : Int) ≤ (cx : Int) := by omega
      have hN : New w w1.drew := hn1.drew
      clear hrm hre
      go_wp2_with fail
      refine region_ordT (fun _ => True) (.take 0 (.take 1 (.take 2 (.take 3 (.take 4 (.take 5 (.take 6 (.take 7 (.take 8 (.take 9 (.take 13 (.two 10 14 (.two 11 14 (.two 12 14 (.only 14 (.only 15 (.only 16 (.take 17 (.take 18 .nil))))) (.two 12 15 (.only 15 (.only 16 (.take 17 (.take 18 .nil)))) (.two 12 16 (.only 16 (.take 17 (.take 18 .nil))) (.only 12 (.take 17 (.take 18 .nil)))))) (.only 11 (.two 12 15 (.only 15 (.only 16 (.take 17 (.take 18 .nil)))) (.two 12 16 (.only 16 (.take 17 (.take 18 .nil))) (.only 12 (.take 17 (.take 18 .nil))))))) (.only 10 (.only 11 (.two 12 15 (.only 15 (.only 16 (.take 17 (.take 18 .nil)))) (.two 12 16 (.only 16 (.take 17 (.take 18 .nil))) (.only 12 (.take 17 (.take 18 .nil))))))))))))))))))) (by kernel_rfl) (by kernel_rfl) trivial (fun _ => ?_)
      have q0 : Rd w1.drew (.slice ax nx cx) b := q0
      have q1 : Rd w1.drew (.slice ax p cx) (b.take p) := q1
      have q2 : Rd w1.drew (.slice am (q - p) (cx - p)) ((b.take q).drop p) := q2
      have q3 : Rd w1.drew (.slice none 0 0) [] := q3
      have q4 : Rd w1.drew (.slice ae (nx - q) (cx - q)) (b.drop q) := q4
      have hL : Laid w1.drew := hL.new (Below.refl _ _).drew
      generalize w1.drew = wd at *
      iterate 11 (apply ordT_take; (simp only [List.getElem?_toArray, List.getElem?_cons_succ, List.getElem?_cons_zero]; rfl); rfl; (intro w hSw; (try dsimp only at hSw); go_simp; try with_reducible rfl); intro _; try simp only [Act.put, List.setIfInBounds_toArray, List.set_cons_zero, List.set_cons_succ])
      (apply ordT_two; (simp only [List.getElem?_toArray, List.getElem?_cons_succ, List.getElem?_cons_zero]; rfl); rfl; (simp only [List.getElem?_toArray, List.getElem?_cons_succ, List.getElem?_cons_zero]; rfl); rfl)
      · intro K hK
        go_simp
        refine hK.out _ _ trivial (fun _ => ?_)
        clear hK K
        try simp only [Act.put, List.setIfInBounds_toArray, List.set_cons_zero, List.set_cons_succ]
        generalize hw : World.alloc wd _ = v1
        have Nn : New wd v1 := by rw [← hw]; exact (Below.refl _ _).alloc (Nat.le_refl _) _
        have R4 : RdL v1 (.slice (some ⟨wd.heap.size, 0, none⟩) 4 4) [(.slice ax p cx, b.take p), (.slice am (q - p) (cx - p), (b.take q).drop p), (.slice none 0 0, []), (.slice ae (nx - q) (cx - q), b.drop q)] := by rw [← hw]; exact RdL.made4 wd _ _ _ _ _ _ _ _ _ q1 q2 q3 q4
        clear hw q1 q2 q3 q4
        have hL := hL.new Nn
        have q0 := q0.new Nn
        have hN := New.trans hN Nn
        (apply ordT_two; (simp only [List.getElem?_toArray, List.getElem?_cons_succ, List.getElem?_cons_zero]; rfl); rfl; (simp only [List.getElem?_toArray, List.getElem?_cons_succ, List.getElem?_cons_zero]; rfl); rfl)
        · intro K hK
          go_simp
          refine (sumL v1 _ [(.slice ax p cx, b.take p), (.slice am (q - p) (cx - p), (b.take q).drop p), (.slice none 0 0, []), (.slice ae (nx - q) (cx - q), b.drop q)] b (all4 b p q ax am ae nx cx hpq) R4 hbl (by simp) hL).mono ?_
          rintro e v2 ⟨a11, n11, c11, rfl, r4, Nn⟩
          refine hK.out _ _ trivial (fun _ => ?_)
          clear hK K
          try simp only [Act.put, List.setIfInBounds_toArray, List.set_cons_zero, List.set_cons_succ]
          clear R4
          have hL := hL.new Nn
          have q0 := q0.new Nn
          have hN := New.trans hN Nn
          (apply ordT_two; (simp only [List.getElem?_toArray, List.getElem?_cons_succ, List.getElem?_cons_zero]; rfl); rfl; (simp only [List.getElem?_toArray, List.getElem?_cons_succ, List.getElem?_cons_zero]; rfl); rfl)
          · intro K hK
            have ks := run_str (P := Tryd.prog) Tryd.underlying22 Tryd.underlying5 Tryd.underlying9 r4
            go_simp
            refine hK.out _ _ trivial (fun _ => ?_)
            clear hK K
            try simp only [Act.put, List.setIfInBounds_toArray, List.set_cons_zero, List.set_cons_succ]
            clear ks r4
            (apply ordT_only; (simp only [List.getElem?_toArray, List.getElem?_cons_succ, List.getElem?_cons_zero]; rfl); rfl; intro K hK)
            go_simp
            refine hK.out _ _ trivial (fun _ => ?_)
            clear hK K
            try simp only [Act.put, List.setIfInBounds_toArray, List.set_cons_zero, List.set_cons_succ]
            generalize hw : World.alloc v2 _ = v4
            have Nn : New v2 v4 := by rw [← hw]; exact (Below.refl _ _).alloc (Nat.le_refl _) _
            have R1 : RdL v4 (.slice (some ⟨v2.heap.size, 0, none⟩) 1 1) [(.slice ax nx cx, b)] := by rw [← hw]; exact RdL.made1 v2 _ _ _ q0
            clear hw q0
            have hL := hL.new Nn
            have hN := New.trans hN Nn
            (apply ordT_only; (simp only [List.getElem?_toArray, List.getElem?_cons_succ, List.getElem?_cons_zero]; rfl); rfl; intro K hK)
            go_simp
            refine (sumL v4 _ [(.slice ax nx cx, b)] b (all1 _ b) R1 hbl (by simp) hL).mono ?_
            rintro e v5 ⟨a15, n15, c15, rfl, r5, Nn⟩
            refine hK.out _ _ trivial (fun _ => ?_)
            clear hK K
            try simp only [Act.put, List.setIfInBounds_toArray, List.set_cons_zero, List.set_cons_succ]
            clear R1
            have hL := hL.new Nn
            have hN := New.trans hN Nn
            (apply ordT_only; (simp only [List.getElem?_toArray, List.getElem?_cons_succ, List.getElem?_cons_zero]; rfl); rfl; intro K hK)
            have ks := run_str (P := Tryd.prog) Tryd.underlying22 Tryd.underlying5 Tryd.underlying9 r5
            go_simp
            refine hK.out _ _ trivial (fun _ => ?_)
            clear hK K
            try simp only [Act.put, List.setIfInBounds_toArray, List.set_cons_zero, List.set_cons_succ]
            clear ks r5
            iterate 2 (apply ordT_take; (simp only [List.getElem?_toArray, List.getElem?_cons_succ, List.getElem?_cons_zero]; rfl); rfl; (intro w hSw; (try dsimp only at hSw); go_simp; try with_reducible rfl); intro _; try simp only [Act.put, List.setIfInBounds_toArray, List.set_cons_zero, List.set_cons_succ])
            apply ordT_done
            go_wp2
            go_ret
            exact ⟨rfl, hN⟩
          · intro K hK
            go_simp
            refine hK.out _ _ trivial (fun _ => ?_)
            clear hK K
            try simp only [Act.put, List.setIfInBounds_toArray, List.set_cons_zero, List.set_cons_succ]
            generalize hw : World.alloc v2 _ = v7
            have Nn : New v2 v7 := by rw [← hw]; exact (Below.refl _ _).alloc (Nat.le_refl _) _
            have R1 : RdL v7 (.slice (some ⟨v2.heap.size, 0, none⟩) 1 1) [(.slice ax nx cx, b)] := by rw [← hw]; exact RdL.made1 v2 _ _ _ q0
            clear hw q0
            have hL := hL.new Nn
            have r4 := r4.new Nn
            have hN := New.trans hN Nn
            (apply ordT_two; (simp only [List.getElem?_toArray, List.getElem?_cons_succ, List.getElem?_cons_zero]; rfl); rfl; (simp only [List.getElem?_toArray, List.getElem?_cons_succ, List.getElem?_cons_zero]; rfl); rfl)
            · intro K hK
              have ks := run_str (P := Tryd.prog) Tryd.underlying22 Tryd.underlying5 Tryd.underlying9 r4
              go_simp
              refine hK.out _ _ trivial (fun _ => ?_)
              clear hK K
              try simp only [Act.put, List.setIfInBounds_toArray, List.set_cons_zero, List.set_cons_succ]
              clear ks r4
              (apply ordT_only; (simp only [List.getElem?_toArray, List.getElem?_cons_succ, List.getElem?_cons_zero]; rfl); rfl; intro K hK)
              go_simp
              refine (sumL v7 _ [(.slice ax nx cx, b)] b (all1 _ b) R1 hbl (by simp) hL).mono ?_
              rintro e v9 ⟨a15, n15, c15, rfl, r5, Nn⟩
              refine hK.out _ _ trivial (fun _ => ?_)
              clear hK K
              try simp only [Act.put, List.setIfInBounds_toArray, List.set_cons_zero, List.set_cons_succ]
              clear R1
              have hL := hL.new Nn
              have hN := New.trans hN Nn
              (apply ordT_only; (simp only [List.getElem?_toArray, List.getElem?_cons_succ, List.getElem?_cons_zero]; rfl); rfl; intro K hK)
              have ks := run_str (P := Tryd.prog) Tryd.underlying22 Tryd.underlying5 Tryd.underlying9 r5
              go_simp
              refine hK.out _ _ trivial (fun _ => ?_)
              clear hK K
              try simp only [Act.put, List.setIfInBounds_toArray, List.set_cons_zero, List.set_cons_succ]
              clear ks r5
              iterate 2 (apply ordT_take; (simp only [List.getElem?_toArray, List.getElem?_cons_succ, List.getElem?_cons_zero]; rfl); rfl; (intro w hSw; (try dsimp only at hSw); go_simp; try with_reducible rfl); intro _; try simp only [Act.put, List.setIfInBounds_toArray, List.set_cons_zero, List.set_cons_succ])
              apply ordT_done
              go_wp2
              go_ret
              exact ⟨rfl, hN⟩
            · intro K hK
              go_simp
              refine (sumL v7 _ [(.slice ax nx cx, b)] b (all1 _ b) R1 hbl (by simp) hL).mono ?_
              rintro e v11 ⟨a15, n15, c15, rfl, r5, Nn⟩
              refine hK.out _ _ trivial (fun _ => ?_)
              clear hK K
              try simp only [Act.put, List.setIfInBounds_toArray, List.set_cons_zero, List.set_cons_succ]
              clear R1
              have hL := hL.new Nn
              have r4 := r4.new Nn
              have hN := New.trans hN Nn
              (apply ordT_two; (simp only [List.getElem?_toArray, List.getElem?_cons_succ, List.getElem?_cons_zero]; rfl); rfl; (simp only [List.getElem?_toArray, List.getElem?_cons_succ, List.getElem?_cons_zero]; rfl); rfl)
              · intro K hK
                have ks := run_str (P := Tryd.prog) Tryd.underlying22 Tryd.underlying5 Tryd.underlying9 r4
                go_simp
                refine hK.out _ _ trivial (fun _ => ?_)
                clear hK K
                try simp only [Act.put, List.setIfInBounds_toArray, List.set_cons_zero, List.set_cons_succ]
                clear ks r4
                (apply ordT_only; (simp only [List.getElem?_toArray, List.getElem?_cons_succ, List.getElem?_cons_zero]; rfl); rfl; intro K hK)
                have ks := run_str (P := Tryd.prog) Tryd.underlying22 Tryd.underlying5 Tryd.underlying9 r5
                go_simp
                refine hK.out _ _ trivial (fun _ => ?_)
                clear hK K
                try simp only [Act.put, List.setIfInBounds_toArray, List.set_cons_zero, List.set_cons_succ]
                clear ks r5
                iterate 2 (apply ordT_take; (simp only [List.getElem?_toArray, List.getElem?_cons_succ, List.getElem?_cons_zero]; rfl); rfl; (intro w hSw; (try dsimp only at hSw); go_simp; try with_reducible rfl); intro _; try simp only [Act.put, List.setIfInBounds_toArray, List.set_cons_zero, List.set_cons_succ])
                apply ordT_done
                go_wp2
                go_ret
                exact ⟨rfl, hN⟩
              · intro K hK
                have ks := run_str (P := Tryd.prog) Tryd.underlying22 Tryd.underlying5 Tryd.underlying9 r5
                go_simp
                refine hK.out _ _ trivial (fun _ => ?_)
                clear hK K
                try simp only [Act.put, List.setIfInBounds_toArray, List.set_cons_zero, List.set_cons_succ]
                clear ks r5
                (apply ordT_only; (simp only [List.getElem?_toArray, List.getElem?_cons_succ, List.getElem?_cons_zero]; rfl); rfl; intro K hK)
                have ks := run_str (P := Tryd.prog) Tryd.underlying22 Tryd.underlying5 Tryd.underlying9 r4
                go_simp
                refine hK.out _ _ trivial (fun _ => ?_)
                clear hK K
                try simp only [Act.put, List.setIfInBounds_toArray, List.set_cons_zero, List.set_cons_succ]
                clear ks r4
                iterate 2 (apply ordT_take; (simp only [List.getElem?_toArray, List.getElem?_cons_succ, List.getElem?_cons_zero]; rfl); rfl; (intro w hSw; (try dsimp only at hSw); go_simp; try with_reducible rfl); intro _; try simp only [Act.put, List.setIfInBounds_toArray, List.set_cons_zero, List.set_cons_succ])
                apply ordT_done
                go_wp2
                go_ret
                exact ⟨rfl, hN⟩
        · intro K hK
          go_simp
          refine hK.out _ _ trivial (fun _ => ?_)
          clear hK K
          try simp only [Act.put, List.setIfInBounds_toArray, List.set_cons_zero, List.set_cons_succ]
          generalize hw : World.alloc v1 _ = v16
          have Nn : New v1 v16 := by rw [← hw]; exact (Below.refl _ _).alloc (Nat.le_refl _) _
          have R1 : RdL v16 (.slice (some ⟨v1.heap.size, 0, none⟩) 1 1) [(.slice ax nx cx, b)] := by rw [← hw]; exact RdL.made1 v1 _ _ _ q0
          clear hw q0
          have R4 := R4.new Nn
          have hL := hL.new Nn
          have hN := New.trans hN Nn
          (apply ordT_only; (simp only [List.getElem?_toArray, List.getElem?_cons_succ, List.getElem?_cons_zero]; rfl); rfl; intro K hK)
          go_simp
          refine (sumL v16 _ [(.slice ax p cx, b.take p), (.slice am (q - p) (cx - p), (b.take q).drop p), (.slice none 0 0, []), (.slice ae (nx - q) (cx - q), b.drop q)] b (all4 b p q ax am ae nx cx hpq) R4 hbl (by simp) hL).mono ?_
          rintro e v17 ⟨a11, n11, c11, rfl, r4, Nn⟩
          refine hK.out _ _ trivial (fun _ => ?_)
          clear hK K
          try simp only [Act.put, List.setIfInBounds_toArray, List.set_cons_zero, List.set_cons_succ]
          clear R4
          have R1 := R1.new Nn
          have hL := hL.new Nn
          have hN := New.trans hN Nn
          (apply ordT_two; (simp only [List.getElem?_toArray, List.getElem?_cons_succ, List.getElem?_cons_zero]; rfl); rfl; (simp only [List.getElem?_toArray, List.getElem?_cons_succ, List.getElem?_cons_zero]; rfl); rfl)
          · intro K hK
            have ks := run_str (P := Tryd.prog) Tryd.underlying22 Tryd.underlying5 Tryd.underlying9 r4
            go_simp
            refine hK.out _ _ trivial (fun _ => ?_)
            clear hK K
            try simp only [Act.put, List.setIfInBounds_toArray, List.set_cons_zero, List.set_cons_succ]
            clear ks r4
            (apply ordT_only; (simp only [List.getElem?_toArray, List.getElem?_cons_succ, List.getElem?_cons_zero]; rfl); rfl; intro K hK)
            go_simp
            refine (sumL v17 _ [(.slice ax nx cx, b)] b (all1 _ b) R1 hbl (by simp) hL).mono ?_
            rintro e v19 ⟨a15, n15, c15, rfl, r5, Nn⟩
            refine hK.out _ _ trivial (fun _ => ?_)
            clear hK K
            try simp only [Act.put, List.setIfInBounds_toArray, List.set_cons_zero, List.set_cons_succ]
            clear R1
            have hL := hL.new Nn
            have hN := New.trans hN Nn
            (apply ordT_only; (simp only [List.getElem?_toArray, List.getElem?_cons_succ, List.getElem?_cons_zero]; rfl); rfl; intro K hK)
            have ks := run_str (P := Tryd.prog) Tryd.underlying22 Tryd.underlying5 Tryd.underlying9 r5
            go_simp
            refine hK.out _ _ trivial (fun _ => ?_)
            clear hK K
            try simp only [Act.put, List.setIfInBounds_toArray, List.set_cons_zero, List.set_cons_succ]
            clear ks r5
            iterate 2 (apply ordT_take; (simp only [List.getElem?_toArray, List.getElem?_cons_succ, List.getElem?_cons_zero]; rfl); rfl; (intro w hSw; (try dsimp only at hSw); go_simp; try with_reducible rfl); intro _; try simp only [Act.put, List.setIfInBounds_toArray, List.set_cons_zero, List.set_cons_succ])
            apply ordT_done
            go_wp2
            go_ret
            exact ⟨rfl, hN⟩
          · intro K hK
            go_simp
            refine (sumL v17 _ [(.slice ax nx cx, b)] b (all1 _ b) R1 hbl (by simp) hL).mono ?_
            rintro e v21 ⟨a15, n15, c15, rfl, r5, Nn⟩
            refine hK.out _ _ trivial (fun _ => ?_)
            clear hK K
            try simp only [Act.put, List.setIfInBounds_toArray, List.set_cons_zero, List.set_cons_succ]
            clear R1
            have hL := hL.new Nn
            have r4 := r4.new Nn
            have hN := New.trans hN Nn
            (apply ordT_two; (simp only [List.getElem?_toArray, List.getElem?_cons_succ, List.getElem?_cons_zero]; rfl); rfl; (simp only [List.getElem?_toArray, List.getElem?_cons_succ, List.getElem?_cons_zero]; rfl); rfl)
            · intro K hK
              have ks := run_str (P := Tryd.prog) Tryd.underlying22 Tryd.underlying5 Tryd.underlying9 r4
              go_simp
              refine hK.out _ _ trivial (fun _ => ?_)
              clear hK K
              try simp only [Act.put, List.setIfInBounds_toArray, List.set_cons_zero, List.set_cons_succ]
              clear ks r4
              (apply ordT_only; (simp only [List.getElem?_toArray, List.getElem?_cons_succ, List.getElem?_cons_zero]; rfl); rfl; intro K hK)
              have ks := run_str (P := Tryd.prog) Tryd.underlying22 Tryd.underlying5 Tryd.underlying9 r5
              go_simp
              refine hK.out _ _ trivial (fun _ => ?_)
              clear hK K
              try simp only [Act.put, List.setIfInBounds_toArray, List.set_cons_zero, List.set_cons_succ]
              clear ks r5
              iterate 2 (apply ordT_take; (simp only [List.getElem?_toArray, List.getElem?_cons_succ, List.getElem?_cons_zero]; rfl); rfl; (intro w hSw; (try dsimp only at hSw); go_simp; try with_reducible rfl); intro _; try simp only [Act.put, List.setIfInBounds_toArray, List.set_cons_zero, List.set_cons_succ])
              apply ordT_done
              go_wp2
              go_ret
              exact ⟨rfl, hN⟩
            · intro K hK
              have ks := run_str (P := Tryd.prog) Tryd.underlying22 Tryd.underlying5 Tryd.underlying9 r5
              go_simp
              refine hK.out _ _ trivial (fun _ => ?_)
              clear hK K
              try simp only [Act.put, List.setIfInBounds_toArray, List.set_cons_zero, List.set_cons_succ]
              clear ks r5
              (apply ordT_only; (simp only [List.getElem?_toArray, List.getElem?_cons_succ, List.getElem?_cons_zero]; rfl); rfl; intro K hK)
              have ks := run_str (P := Tryd.prog) Tryd.underlying22 Tryd.underlying5 Tryd.underlying9 r4
              go_simp
              refine hK.out _ _ trivial (fun _ => ?_)
              clear hK K
              try simp only [Act.put, List.setIfInBounds_toArray, List.set_cons_zero, List.set_cons_succ]
              clear ks r4
              iterate 2 (apply ordT_take; (simp only [List.getElem?_toArray, List.getElem?_cons_succ, List.getElem?_cons_zero]; rfl); rfl; (intro w hSw; (try dsimp only at hSw); go_simp; try with_reducible rfl); intro _; try simp only [Act.put, List.setIfInBounds_toArray, List.set_cons_zero, List.set_cons_succ])
              apply ordT_done
              go_wp2
              go_ret
              exact ⟨rfl, hN⟩
      · intro K hK
        go_simp
        refine hK.out _ _ trivial (fun _ => ?_)
        clear hK K
        try simp only [Act.put, List.setIfInBounds_toArray, List.set_cons_zero, List.set_cons_succ]
        generalize hw : World.alloc wd _ = v26
        have Nn : New wd v26 := by rw [← hw]; exact (Below.refl _ _).alloc (Nat.le_refl _) _
        have R1 : RdL v26 (.slice (some ⟨wd.heap.size, 0, none⟩) 1 1) [(.slice ax nx cx, b)] := by rw [← hw]; exact RdL.made1 wd _ _ _ q0
        clear hw q0
        have hL := hL.new Nn
        have q1 := q1.new Nn
        have q2 := q2.new Nn
        have q3 := q3.new Nn
        have q4 := q4.new Nn
        have hN := New.trans hN Nn
        (apply ordT_only; (simp only [List.getElem?_toArray, List.getElem?_cons_succ, List.getElem?_cons_zero]; rfl); rfl; intro K hK)
        go_simp
        refine hK.out _ _ trivial (fun _ => ?_)
        clear hK K
        try simp only [Act.put, List.setIfInBounds_toArray, List.set_cons_zero, List.set_cons_succ]
        generalize hw : World.alloc v26 _ = v27
        have Nn : New v26 v27 := by rw [← hw]; exact (Below.refl _ _).alloc (Nat.le_refl _) _
        have R4 : RdL v27 (.slice (some ⟨v26.heap.size, 0, none⟩) 4 4) [(.slice ax p cx, b.take p), (.slice am (q - p) (cx - p), (b.take q).drop p), (.slice none 0 0, []), (.slice ae (nx - q) (cx - q), b.drop q)] := by rw [← hw]; exact RdL.made4 v26 _ _ _ _ _ _ _ _ _ q1 q2 q3 q4
        clear hw q1 q2 q3 q4
        have R1 := R1.new Nn
        have hL := hL.new Nn
        have hN := New.trans hN Nn
        (apply ordT_only; (simp only [List.getElem?_toArray, List.getElem?_cons_succ, List.getElem?_cons_zero]; rfl); rfl; intro K hK)
        go_simp
        refine (sumL v27 _ [(.slice ax p cx, b.take p), (.slice am (q - p) (cx - p), (b.take q).drop p), (.slice none 0 0, []), (.slice ae (nx - q) (cx - q), b.drop q)] b (all4 b p q ax am ae nx cx hpq) R4 hbl (by simp) hL).mono ?_
        rintro e v28 ⟨a11, n11, c11, rfl, r4, Nn⟩
        refine hK.out _ _ trivial (fun _ => ?_)
        clear hK K
        try simp only [Act.put, List.setIfInBounds_toArray, List.set_cons_zero, List.set_cons_succ]
        clear R4
        have R1 := R1.new Nn
        have hL := hL.new Nn
        have hN := New.trans hN Nn
        (apply ordT_two; (simp only [List.getElem?_toArray, List.getElem?_cons_succ, List.getElem?_cons_zero]; rfl); rfl; (simp only [List.getElem?_toArray, List.getElem?_cons_succ, List.getElem?_cons_zero]; rfl); rfl)
        · intro K hK
          have ks := run_str (P := Tryd.prog) Tryd.underlying22 Tryd.underlying5 Tryd.underlying9 r4
          go_simp
          refine hK.out _ _ trivial (fun _ => ?_)
          clear hK K
          try simp only [Act.put, List.setIfInBounds_toArray, List.set_cons_zero, List.set_cons_succ]
          clear ks r4
          (apply ordT_only; (simp only [List.getElem?_toArray, List.getElem?_cons_succ, List.getElem?_cons_zero]; rfl); rfl; intro K hK)
          go_simp
          refine (sumL v28 _ [(.slice ax nx cx, b)] b (all1 _ b) R1 hbl (by simp) hL).mono ?_
          rintro e v30 ⟨a15, n15, c15, rfl, r5, Nn⟩
          refine hK.out _ _ trivial (fun _ => ?_)
          clear hK K
          try simp only [Act.put, List.setIfInBounds_toArray, List.set_cons_zero, List.set_cons_succ]
          clear R1
          have hL := hL.new Nn
          have hN := New.trans hN Nn
          (apply ordT_only; (simp only [List.getElem?_toArray, List.getElem?_cons_succ, List.getElem?_cons_zero]; rfl); rfl; intro K hK)
          have ks := run_str (P := Tryd.prog) Tryd.underlying22 Tryd.underlying5 Tryd.underlying9 r5
          go_simp
          refine hK.out _ _ trivial (fun _ => ?_)
          clear hK K
          try simp only [Act.put, List.setIfInBounds_toArray, List.set_cons_zero, List.set_cons_succ]
          clear ks r5
          iterate 2 (apply ordT_take; (simp only [List.getElem?_toArray, List.getElem?_cons_succ, List.getElem?_cons_zero]; rfl); rfl; (intro w hSw; (try dsimp only at hSw); go_simp; try with_reducible rfl); intro _; try simp only [Act.put, List.setIfInBounds_toArray, List.set_cons_zero, List.set_cons_succ])
          apply ordT_done
          go_wp2
          go_ret
          exact ⟨rfl, hN⟩
        · intro K hK
          go_simp
          refine (sumL v28 _ [(.slice ax nx cx, b)] b (all1 _ b) R1 hbl (by simp) hL).mono ?_
          rintro e v32 ⟨a15, n15, c15, rfl, r5, Nn⟩
          refine hK.out _ _ trivial (fun _ => ?_)
          clear hK K
          try simp only [Act.put, List.setIfInBounds_toArray, List.set_cons_zero, List.set_cons_succ]
          clear R1
          have hL := hL.new Nn
          have r4 := r4.new Nn
          have hN := New.trans hN Nn
          (apply ordT_two; (simp only [List.getElem?_toArray, List.getElem?_cons_succ, List.getElem?_cons_zero]; rfl); rfl; (simp only [List.getElem?_toArray, List.getElem?_cons_succ, List.getElem?_cons_zero]; rfl); rfl)
          · intro K hK
            have ks := run_str (P := Tryd.prog) Tryd.underlying22 Tryd.underlying5 Tryd.underlying9 r4
            go_simp
            refine hK.out _ _ trivial (fun _ => ?_)
            clear hK K
            try simp only [Act.put, List.setIfInBounds_toArray, List.set_cons_zero, List.set_cons_succ]
            clear ks r4
            (apply ordT_only; (simp only [List.getElem?_toArray, List.getElem?_cons_succ, List.getElem?_cons_zero]; rfl); rfl; intro K hK)
            have ks := run_str (P := Tryd.prog) Tryd.underlying22 Tryd.underlying5 Tryd.underlying9 r5
            go_simp
            refine hK.out _ _ trivial (fun _ => ?_)
            clear hK K
            try simp only [Act.put, List.setIfInBounds_toArray, List.set_cons_zero, List.set_cons_succ]
            clear ks r5
            iterate 2 (apply ordT_take; (simp only [List.getElem?_toArray, List.getElem?_cons_succ, List.getElem?_cons_zero]; rfl); rfl; (intro w hSw; (try dsimp only at hSw); go_simp; try with_reducible rfl); intro _; try simp only [Act.put, List.setIfInBounds_toArray, List.set_cons_zero, List.set_cons_succ])
            apply ordT_done
            go_wp2
            go_ret
            exact ⟨rfl, hN⟩
          · intro K hK
            have ks := run_str (P := Tryd.prog) Tryd.underlying22 Tryd.underlying5 Tryd.underlying9 r5
            go_simp
            refine hK.out _ _ trivial (fun _ => ?_)
            clear hK K
            try simp only [Act.put, List.setIfInBounds_toArray, List.set_cons_zero, List.set_cons_succ]
            clear ks r5
            (apply ordT_only; (simp only [List.getElem?_toArray, List.getElem?_cons_succ, List.getElem?_cons_zero]; rfl); rfl; intro K hK)
            have ks := run_str (P := Tryd.prog) Tryd.underlying22 Tryd.underlying5 Tryd.underlying9 r4
            go_simp
            refine hK.out _ _ trivial (fun _ => ?_)
            clear hK K
            try simp only [Act.put, List.setIfInBounds_toArray, List.set_cons_zero, List.set_cons_succ]
            clear ks r4
            iterate 2 (apply ordT_take; (simp only [List.getElem?_toArray, List.getElem?_cons_succ, List.getElem?_cons_zero]; rfl); rfl; (intro w hSw; (try dsimp only at hSw); go_simp; try with_reducible rfl); intro _; try simp only [Act.put, List.setIfInBounds_toArray, List.set_cons_zero, List.set_cons_succ])
            apply ordT_done
            go_wp2
            go_ret
            exact ⟨rfl, hN⟩
  · have hd : decide ((600 : Int) < (nx : Int)) = true := by simp; omega
    go_enter Tryd.func4, Tryd.ntmps4
    go_wp2_with fail
    refine (awake02 w HL.out).mono ?_
    rintro e w1 ⟨rfl, hn1⟩
    go_wp2_with fail
    refine (awake02 w1 (HL.out.new hn1)).mono ?_
    rintro e w2 ⟨rfl, hn2⟩
    go_wp2
    go_ret
    exact ⟨rfl, New.trans hn1 hn2⟩

theorem partsLaw (w : World) (x : Value) (b : List UInt8) (hx : Rd w x b) (at_ : Int) (h1 : (Lit.int .i64 at_).wf = true) (to_ : Int) (h2 : (Lit.int .i64 to_).wf = true) (hL : Laid w) :
    Calls Tryd.prog 4 #[x, .int .i64 at_, .int .i64 to_] w fun e w' => e = .returned (.bool true) ∧ New w w' :=
  partsWalk w x b hx at_ to_ hL

end Go.Proofs.YtcdmomkljgoafaaDoor
