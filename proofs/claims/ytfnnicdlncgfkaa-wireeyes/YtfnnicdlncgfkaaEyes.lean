/-
  WireEyes: the walk.
-/
import Derived.Test.YtfnnicdlncgfkaaParts01
import Derived.Test.YtfnnicdlncgfkaaRefEye
import Derived.Deep.DrawnRows
import Derived.Test.YtfnnicdlncgfkaaOrd
namespace Go.Proofs.Ytfnnicdlncgfkaa
set_option linter.unusedVariables false
set_option linter.unusedSimpArgs false
open Go.RowKit
attribute [local go_sem ↓] Go.wp_at_zero Go.wp_at_succ

theorem small_len {l : List PartD} {most : Nat} (h : smallB l most = true) : l.length ≤ most := by
  unfold smallB at h
  simp at h
  exact h.1

/-- both readers stand alike -/
def Both (w : World) (p q : Nat) (dd : Option Nat) (r : List UInt8) (err : Int) (wr : World) : Prop :=
  Eye wr p dd r err ∧ REye wr q r err ∧ New w wr ∧ r.length ≤ 2000

set_option maxRecDepth 100000 in
set_option maxHeartbeats 4000000 in
theorem eyesWalk (w : World) (x : Value) (bl : List UInt8) (hx : Rd w x bl) (v : Value) (l : List PartD) (h : RdParts w v l) (fail : Int) :
    Calls Try.prog 4 #[x, v, .int .i64 fail] w fun e w' => e = .returned (.bool true) ∧ New w w' := by
  obtain ⟨a, n, c, rfl⟩ : ∃ a n c, v = .slice a n c := by obtain ⟨_, ⟨a, n, c, e, _⟩, _⟩ := h; exact ⟨a, n, c, e⟩
  obtain ⟨hn, hnc, hc⟩ := h.len
  subst hn
  have hx' := hx
  obtain ⟨ax, nx, cx, rfl, hax, hxc, hxm, hx1, hx2⟩ := hx'
  have HX := Lib.hid hx
  have HA := Lib.hid hax
  clear hx hax hx1 hx2
  unfold maxLen at hxm
  by_cases hs : smallB l 30 = true
  · have hl := small_len hs
    have HS := Lib.hid hs
    clear hs
    by_cases hbl : nx ≤ 2000
    · go_enter Try.func4, Try.ntmps4
      go_wp2_with fail
      refine (awake01 w).mono ?_
      rintro e w1 ⟨rfl, hn1⟩
      go_wp2_with fail
      refine (small01 w1 _ l 30 (h.new hn1) (by omega)).mono ?_
      rw [HS.out]
      rintro e w2 ⟨rfl, rfl⟩
      have ks := run_str (P := Try.prog) Try.underlying28 Try.underlying5 Try.underlying9 (HX.out.new hn1)
      go_wp2_with fail
      refine (eyeOpen w1 _ bl (HX.out.new hn1) (by rw [HA.out]; omega)).mono ?_
      rintro e w2 ⟨p, dd, rfl, hp2, hE2, hd2, hn2⟩
      clear ks
      have hn2' : New w w2 := New.trans hn1 hn2
      have hpw : w.heap.size ≤ p := Nat.le_trans hn1.size hp2
      go_wp2
      generalize hq : w2.heap.size = q
      have hB : Both w p q dd bl 0 (w2.alloc (.cells #[.string (bstr bl), .int .i64 0] 46)) := by
        have hn3 : New w2 (w2.alloc (.cells #[.string (bstr bl), .int .i64 0] 46)) := (Below.refl _ _).alloc (Nat.le_refl _) _
        exact ⟨hE2.new hn3, by rw [← hq]; exact heap_alloc_new w2 _, New.trans hn2' hn3, by rw [HA.out]; exact hbl⟩
      have hqw : w.heap.size ≤ q := by rw [← hq]; exact hn2'.size
      have hpq : p < q := by
        rw [← hq]
        obtain ⟨_, hpb, _⟩ := hE2
        exact lt_of_block hpb
      have hdq : dd ≠ some q := by
        intro e
        have := (hd2 q e).2
        omega
      clear hE2 hq
      go_loopw [10] (fun i wr => ∃ (k : Nat) (r : List UInt8) (err : Int), k ≤ l.length ∧ i = .int .i64 k ∧ Both w p q dd r err wr) (fun i _ => l.length - (intOf i).toNat)
      case atStart => exact ⟨0, _, _, Nat.zero_le _, rfl, hB⟩
      case round =>
        obtain ⟨k, r, err, hk, rfl, hE, hM, hnw, hrl⟩ := hrel
        clear hB
        by_cases hlt : k < l.length
        · obtain ⟨b, off, a', m', c', rfl, hc0, hc1, hc2, hr, hkd, hdn⟩ := h.at (List.getElem?_eq_getElem hlt)
          generalize l[k] = d at hc0 hc1 hc2 hr hdn hkd
          have HC0 := Lib.hid hc0
          have HK := Lib.hid (fun (W : World) (hW : New w W) => cell_later hW hc1)
          clear hr hc0 hc1 hc2
          have hc0 := cell_later hnw HC0.out
          go_wp2_with fail
          refine (refRest wr d.kind hkd.1 hkd.2).mono ?_
          rintro e w3 ⟨rfl, rfl⟩
          clear hc0
          obtain ⟨kd, hkd7, hkd'⟩ : ∃ kd : Nat, kd < 7 ∧ d.kind % 7 = kd := ⟨(d.kind % 7).toNat, by omega, by omega⟩
          rw [hkd']
          clear hkd'
          rcases (show kd = 0 ∨ kd = 1 ∨ kd = 2 ∨ kd = 3 ∨ kd = 4 ∨ kd = 5 ∨ kd = 6 by omega) with rfl | rfl | rfl | rfl | rfl | rfl | rfl
          · have hltN : eNum 1 r err < 256 := eNum_lt 1 r err
            have HN := Lib.hid (fun (W : World) (hW : REye W q r err) => reyeNumber W q r err 1 hW (by omega) (by omega))
            have HE := Lib.hid (eyeU8 wr p dd r err hE)
            unfold RNumTo at HN
            unfold NumTo at HE
            have hrl4 := eTake_rest (1 : Nat) r err
            generalize eNum 1 r err = V at hltN HN HE
            generalize eTake (1 : Nat) r err = t at HN hrl4 HE
            go_wp2_with fail
            refine HE.out.mono ?_
            rintro e w4 ⟨rfl, hE4⟩
            have hM4 := hM.only hE4.2 (by omega)
            have hn4 := New.eye hnw hE4 hpw
            have hq1 : ((V : Int) != (V : Int)) = false := by simp
            go_wp2
            refine region_ord (fun w' => w'.cell? ⟨b, off + k * 3 + 1, none⟩ = some (.int .i64 d.n)) [(0, true), (1, true), (2, true), (3, true), (4, true), (5, true), (6, false), (7, false), (8, true), (9, true), (10, true), (11, true), (12, true), (13, true), (14, true), (15, true), (16, true), (17, true), (18, true), (19, true), (20, true), (21, false), (22, true), (23, true), (24, true), (25, true), (26, true), (27, true), (28, true), (29, true), (30, true), (31, true), (33, true), (34, true), (35, true), (36, true), (37, true), (32, false), (38, false), (39, true), (40, true), (41, true)] (by kernel_rfl) (by kernel_rfl) (HK.out _ hn4.drew) (fun _ => ?_)
            iterate 6 (apply ord_take; (simp only [List.getElem?_toArray, List.getElem?_cons_succ, List.getElem?_cons_zero]; rfl); rfl; (intro w hSw; (try dsimp only at hSw); go_simp; try with_reducible rfl); intro _; try simp only [Act.put, List.setIfInBounds_toArray, List.set_cons_zero, List.set_cons_succ])
            (apply ord_only; (simp only [List.getElem?_toArray, List.getElem?_cons_succ, List.getElem?_cons_zero]; rfl); rfl; intro K hK)
            go_simp
            refine (size01 _ 0 (by omega)).mono ?_
            rintro e w5 ⟨rfl, hn5⟩
            have hN5 := New.trans hn4.drew hn5
            have hM5 := REye.new (w := w4.drew) hM4 hn5
            have hE5 := Eye.new (w := w4.drew) hE4.1 hn5
            refine hK.out _ _ (HK.out _ hN5) (fun _ => ?_)
            clear hK K
            try simp only [Act.put, List.setIfInBounds_toArray, List.set_cons_zero, List.set_cons_succ]
            (apply ord_only; (simp only [List.getElem?_toArray, List.getElem?_cons_succ, List.getElem?_cons_zero]; rfl); rfl; intro K hK)
            go_simp
            refine (HN.out _ (by exact hM5)).mono ?_
            rintro e w6 ⟨rfl, hM6'⟩
            have hN6 := New.reye hN5 hM6' hqw
            have hE6 := Eye.only hE5 hM6'.2 (by omega) (by intro j hj; have := hdq; rintro rfl; exact this hj)
            have hM6 := hM6'.1
            refine hK.out _ _ (HK.out _ hN6) (fun _ => ?_)
            clear hK K
            try simp only [Act.put, List.setIfInBounds_toArray, List.set_cons_zero, List.set_cons_succ]
            iterate 6 (apply ord_take; (simp only [List.getElem?_toArray, List.getElem?_cons_succ, List.getElem?_cons_zero]; rfl); rfl; (intro w hSw; (try dsimp only at hSw); go_simp; try with_reducible rfl); intro _; try simp only [Act.put, List.setIfInBounds_toArray, List.set_cons_zero, List.set_cons_succ])
            iterate 7 (apply ord_skip; (simp only [List.getElem?_toArray, List.getElem?_cons_succ, List.getElem?_cons_zero]; rfl); rfl; intro _; try simp only [Act.put, List.setIfInBounds_toArray, List.set_cons_zero, List.set_cons_succ])
            (apply ord_pass; (simp only [List.getElem?_toArray, List.getElem?_cons_succ, List.getElem?_cons_zero]; rfl); rfl; intro _; try simp only [Act.put, List.setIfInBounds_toArray, List.set_cons_zero, List.set_cons_succ])
            (apply ord_skip; (simp only [List.getElem?_toArray, List.getElem?_cons_succ, List.getElem?_cons_zero]; rfl); rfl; intro _; try simp only [Act.put, List.setIfInBounds_toArray, List.set_cons_zero, List.set_cons_succ])
            iterate 6 (apply ord_take; (simp only [List.getElem?_toArray, List.getElem?_cons_succ, List.getElem?_cons_zero]; rfl); rfl; (intro w hSw; (try dsimp only at hSw); go_simp; try with_reducible rfl); intro _; try simp only [Act.put, List.setIfInBounds_toArray, List.set_cons_zero, List.set_cons_succ])
            iterate 8 (apply ord_skip; (simp only [List.getElem?_toArray, List.getElem?_cons_succ, List.getElem?_cons_zero]; rfl); rfl; intro _; try simp only [Act.put, List.setIfInBounds_toArray, List.set_cons_zero, List.set_cons_succ])
            iterate 2 (apply ord_pass; (simp only [List.getElem?_toArray, List.getElem?_cons_succ, List.getElem?_cons_zero]; rfl); rfl; intro _; try simp only [Act.put, List.setIfInBounds_toArray, List.set_cons_zero, List.set_cons_succ])
            (apply ord_skip; (simp only [List.getElem?_toArray, List.getElem?_cons_succ, List.getElem?_cons_zero]; rfl); rfl; intro _; try simp only [Act.put, List.setIfInBounds_toArray, List.set_cons_zero, List.set_cons_succ])
            iterate 2 (apply ord_take; (simp only [List.getElem?_toArray, List.getElem?_cons_succ, List.getElem?_cons_zero]; rfl); rfl; (intro w hSw; (try dsimp only at hSw); go_simp; try with_reducible rfl); intro _; try simp only [Act.put, List.setIfInBounds_toArray, List.set_cons_zero, List.set_cons_succ])
            apply ord_done
            obtain ⟨hm0, hm1, _, _⟩ := REye.cells hM6
            have hzt : (bstr t.2.1).size = t.2.1.length := bstr_size _
            have hzl : t.2.1.length ≤ 2000 := by omega
            go_wp2
            refine region_ord (fun w' => w'.cell? ⟨q, 1, none⟩ = some (.int .i64 t.2.2) ∧ w'.cell? ⟨q, 0, none⟩ = some (.string (bstr t.2.1))) [(0, true), (2, true), (3, true), (4, true), (5, true), (1, false), (6, true), (7, true), (8, true), (10, true), (11, true), (12, true), (13, true), (14, true), (9, false), (15, true), (16, true), (17, true), (18, true), (20, true), (19, false), (21, false), (22, true), (23, true)] (by kernel_rfl) (by kernel_rfl) (And.intro hm1 hm0) (fun _ => ?_)
            iterate 5 (apply ord_take; (simp only [List.getElem?_toArray, List.getElem?_cons_succ, List.getElem?_cons_zero]; rfl); rfl; (intro w hSw; (try dsimp only at hSw); go_simp; try with_reducible rfl); intro _; try simp only [Act.put, List.setIfInBounds_toArray, List.set_cons_zero, List.set_cons_succ])
            (apply ord_only; (simp only [List.getElem?_toArray, List.getElem?_cons_succ, List.getElem?_cons_zero]; rfl); rfl; intro K hK)
            go_simp
            refine (eyeErr _ p dd _ _ (by exact hE6)).mono ?_
            rintro e w7 ⟨rfl, rfl⟩
            refine hK.out _ _ (And.intro hm1 hm0) (fun _ => ?_)
            clear hK K
            try simp only [Act.put, List.setIfInBounds_toArray, List.set_cons_zero, List.set_cons_succ]
            iterate 8 (apply ord_take; (simp only [List.getElem?_toArray, List.getElem?_cons_succ, List.getElem?_cons_zero]; rfl); rfl; (intro w hSw; (try dsimp only at hSw); go_simp; try with_reducible rfl); intro _; try simp only [Act.put, List.setIfInBounds_toArray, List.set_cons_zero, List.set_cons_succ])
            (apply ord_only; (simp only [List.getElem?_toArray, List.getElem?_cons_succ, List.getElem?_cons_zero]; rfl); rfl; intro K hK)
            go_simp
            refine (eyeLeft _ p dd _ _ (by exact hE6)).mono ?_
            rintro e w7 ⟨rfl, rfl⟩
            refine hK.out _ _ (And.intro hm1 hm0) (fun _ => ?_)
            clear hK K
            try simp only [Act.put, List.setIfInBounds_toArray, List.set_cons_zero, List.set_cons_succ]
            iterate 5 (apply ord_take; (simp only [List.getElem?_toArray, List.getElem?_cons_succ, List.getElem?_cons_zero]; rfl); rfl; (intro w hSw; (try dsimp only at hSw); go_simp; try with_reducible rfl); intro _; try simp only [Act.put, List.setIfInBounds_toArray, List.set_cons_zero, List.set_cons_succ])
            (apply ord_only; (simp only [List.getElem?_toArray, List.getElem?_cons_succ, List.getElem?_cons_zero]; rfl); rfl; intro K hK)
            go_simp
            refine (eyeEnd _ p dd _ _ (by exact hE6)).mono ?_
            rintro e w7 ⟨rfl, rfl⟩
            refine hK.out _ _ (And.intro hm1 hm0) (fun _ => ?_)
            clear hK K
            try simp only [Act.put, List.setIfInBounds_toArray, List.set_cons_zero, List.set_cons_succ]
            (apply ord_only; (simp only [List.getElem?_toArray, List.getElem?_cons_succ, List.getElem?_cons_zero]; rfl); rfl; intro K hK)
            go_simp
            refine (reyeEnd _ q _ _ (by exact hM6) (by omega)).mono ?_
            rintro e w7 ⟨rfl, rfl⟩
            refine hK.out _ _ (And.intro hm1 hm0) (fun _ => ?_)
            clear hK K
            try simp only [Act.put, List.setIfInBounds_toArray, List.set_cons_zero, List.set_cons_succ]
            iterate 2 (apply ord_take; (simp only [List.getElem?_toArray, List.getElem?_cons_succ, List.getElem?_cons_zero]; rfl); rfl; (intro w hSw; (try dsimp only at hSw); go_simp; try with_reducible rfl); intro _; try simp only [Act.put, List.setIfInBounds_toArray, List.set_cons_zero, List.set_cons_succ])
            apply ord_done
            go_wp2
            go_roundw
            case rel => exact ⟨k + 1, _, _, by omega, by go_num, hE6, hM6, hN6.drew, by omega⟩
            case measure => simp [intOf]; omega
          · have hltN : eNum 2 r err < 65536 := eNum_lt 2 r err
            have HN := Lib.hid (fun (W : World) (hW : REye W q r err) => reyeNumber W q r err 2 hW (by omega) (by omega))
            have HE := Lib.hid (eyeU16 wr p dd r err hE)
            unfold RNumTo at HN
            unfold NumTo at HE
            have hrl4 := eTake_rest (2 : Nat) r err
            generalize eNum 2 r err = V at hltN HN HE
            generalize eTake (2 : Nat) r err = t at HN hrl4 HE
            go_wp2_with fail
            refine HE.out.mono ?_
            rintro e w4 ⟨rfl, hE4⟩
            have hM4 := hM.only hE4.2 (by omega)
            have hn4 := New.eye hnw hE4 hpw
            have hq1 : ((V : Int) != (V : Int)) = false := by simp
            go_wp2
            refine region_ord (fun w' => w'.cell? ⟨b, off + k * 3 + 1, none⟩ = some (.int .i64 d.n)) [(0, true), (1, true), (2, true), (3, true), (4, true), (5, true), (6, false), (7, false), (8, true), (9, true), (10, true), (11, true), (12, true), (13, true), (14, true), (15, true), (16, true), (17, true), (18, true), (19, true), (20, true), (21, false), (22, true), (23, true), (24, true), (25, true), (26, true), (27, true), (28, true), (29, true), (30, true), (31, true), (33, true), (34, true), (35, true), (36, true), (37, true), (32, false), (38, false), (39, true), (40, true), (41, true)] (by kernel_rfl) (by kernel_rfl) (HK.out _ hn4.drew) (fun _ => ?_)
            iterate 6 (apply ord_take; (simp only [List.getElem?_toArray, List.getElem?_cons_succ, List.getElem?_cons_zero]; rfl); rfl; (intro w hSw; (try dsimp only at hSw); go_simp; try with_reducible rfl); intro _; try simp only [Act.put, List.setIfInBounds_toArray, List.set_cons_zero, List.set_cons_succ])
            (apply ord_only; (simp only [List.getElem?_toArray, List.getElem?_cons_succ, List.getElem?_cons_zero]; rfl); rfl; intro K hK)
            go_simp
            refine (size01 _ 1 (by omega)).mono ?_
            rintro e w5 ⟨rfl, hn5⟩
            have hN5 := New.trans hn4.drew hn5
            have hM5 := REye.new (w := w4.drew) hM4 hn5
            have hE5 := Eye.new (w := w4.drew) hE4.1 hn5
            refine hK.out _ _ (HK.out _ hN5) (fun _ => ?_)
            clear hK K
            try simp only [Act.put, List.setIfInBounds_toArray, List.set_cons_zero, List.set_cons_succ]
            (apply ord_only; (simp only [List.getElem?_toArray, List.getElem?_cons_succ, List.getElem?_cons_zero]; rfl); rfl; intro K hK)
            go_simp
            refine (HN.out _ (by exact hM5)).mono ?_
            rintro e w6 ⟨rfl, hM6'⟩
            have hN6 := New.reye hN5 hM6' hqw
            have hE6 := Eye.only hE5 hM6'.2 (by omega) (by intro j hj; have := hdq; rintro rfl; exact this hj)
            have hM6 := hM6'.1
            refine hK.out _ _ (HK.out _ hN6) (fun _ => ?_)
            clear hK K
            try simp only [Act.put, List.setIfInBounds_toArray, List.set_cons_zero, List.set_cons_succ]
            iterate 6 (apply ord_take; (simp only [List.getElem?_toArray, List.getElem?_cons_succ, List.getElem?_cons_zero]; rfl); rfl; (intro w hSw; (try dsimp only at hSw); go_simp; try with_reducible rfl); intro _; try simp only [Act.put, List.setIfInBounds_toArray, List.set_cons_zero, List.set_cons_succ])
            iterate 7 (apply ord_skip; (simp only [List.getElem?_toArray, List.getElem?_cons_succ, List.getElem?_cons_zero]; rfl); rfl; intro _; try simp only [Act.put, List.setIfInBounds_toArray, List.set_cons_zero, List.set_cons_succ])
            (apply ord_pass; (simp only [List.getElem?_toArray, List.getElem?_cons_succ, List.getElem?_cons_zero]; rfl); rfl; intro _; try simp only [Act.put, List.setIfInBounds_toArray, List.set_cons_zero, List.set_cons_succ])
            (apply ord_skip; (simp only [List.getElem?_toArray, List.getElem?_cons_succ, List.getElem?_cons_zero]; rfl); rfl; intro _; try simp only [Act.put, List.setIfInBounds_toArray, List.set_cons_zero, List.set_cons_succ])
            iterate 6 (apply ord_take; (simp only [List.getElem?_toArray, List.getElem?_cons_succ, List.getElem?_cons_zero]; rfl); rfl; (intro w hSw; (try dsimp only at hSw); go_simp; try with_reducible rfl); intro _; try simp only [Act.put, List.setIfInBounds_toArray, List.set_cons_zero, List.set_cons_succ])
            iterate 8 (apply ord_skip; (simp only [List.getElem?_toArray, List.getElem?_cons_succ, List.getElem?_cons_zero]; rfl); rfl; intro _; try simp only [Act.put, List.setIfInBounds_toArray, List.set_cons_zero, List.set_cons_succ])
            iterate 2 (apply ord_pass; (simp only [List.getElem?_toArray, List.getElem?_cons_succ, List.getElem?_cons_zero]; rfl); rfl; intro _; try simp only [Act.put, List.setIfInBounds_toArray, List.set_cons_zero, List.set_cons_succ])
            (apply ord_skip; (simp only [List.getElem?_toArray, List.getElem?_cons_succ, List.getElem?_cons_zero]; rfl); rfl; intro _; try simp only [Act.put, List.setIfInBounds_toArray, List.set_cons_zero, List.set_cons_succ])
            iterate 2 (apply ord_take; (simp only [List.getElem?_toArray, List.getElem?_cons_succ, List.getElem?_cons_zero]; rfl); rfl; (intro w hSw; (try dsimp only at hSw); go_simp; try with_reducible rfl); intro _; try simp only [Act.put, List.setIfInBounds_toArray, List.set_cons_zero, List.set_cons_succ])
            apply ord_done
            obtain ⟨hm0, hm1, _, _⟩ := REye.cells hM6
            have hzt : (bstr t.2.1).size = t.2.1.length := bstr_size _
            have hzl : t.2.1.length ≤ 2000 := by omega
            go_wp2
            refine region_ord (fun w' => w'.cell? ⟨q, 1, none⟩ = some (.int .i64 t.2.2) ∧ w'.cell? ⟨q, 0, none⟩ = some (.string (bstr t.2.1))) [(0, true), (2, true), (3, true), (4, true), (5, true), (1, false), (6, true), (7, true), (8, true), (10, true), (11, true), (12, true), (13, true), (14, true), (9, false), (15, true), (16, true), (17, true), (18, true), (20, true), (19, false), (21, false), (22, true), (23, true)] (by kernel_rfl) (by kernel_rfl) (And.intro hm1 hm0) (fun _ => ?_)
            iterate 5 (apply ord_take; (simp only [List.getElem?_toArray, List.getElem?_cons_succ, List.getElem?_cons_zero]; rfl); rfl; (intro w hSw; (try dsimp only at hSw); go_simp; try with_reducible rfl); intro _; try simp only [Act.put, List.setIfInBounds_toArray, List.set_cons_zero, List.set_cons_succ])
            (apply ord_only; (simp only [List.getElem?_toArray, List.getElem?_cons_succ, List.getElem?_cons_zero]; rfl); rfl; intro K hK)
            go_simp
            refine (eyeErr _ p dd _ _ (by exact hE6)).mono ?_
            rintro e w7 ⟨rfl, rfl⟩
            refine hK.out _ _ (And.intro hm1 hm0) (fun _ => ?_)
            clear hK K
            try simp only [Act.put, List.setIfInBounds_toArray, List.set_cons_zero, List.set_cons_succ]
            iterate 8 (apply ord_take; (simp only [List.getElem?_toArray, List.getElem?_cons_succ, List.getElem?_cons_zero]; rfl); rfl; (intro w hSw; (try dsimp only at hSw); go_simp; try with_reducible rfl); intro _; try simp only [Act.put, List.setIfInBounds_toArray, List.set_cons_zero, List.set_cons_succ])
            (apply ord_only; (simp only [List.getElem?_toArray, List.getElem?_cons_succ, List.getElem?_cons_zero]; rfl); rfl; intro K hK)
            go_simp
            refine (eyeLeft _ p dd _ _ (by exact hE6)).mono ?_
            rintro e w7 ⟨rfl, rfl⟩
            refine hK.out _ _ (And.intro hm1 hm0) (fun _ => ?_)
            clear hK K
            try simp only [Act.put, List.setIfInBounds_toArray, List.set_cons_zero, List.set_cons_succ]
            iterate 5 (apply ord_take; (simp only [List.getElem?_toArray, List.getElem?_cons_succ, List.getElem?_cons_zero]; rfl); rfl; (intro w hSw; (try dsimp only at hSw); go_simp; try with_reducible rfl); intro _; try simp only [Act.put, List.setIfInBounds_toArray, List.set_cons_zero, List.set_cons_succ])
            (apply ord_only; (simp only [List.getElem?_toArray, List.getElem?_cons_succ, List.getElem?_cons_zero]; rfl); rfl; intro K hK)
            go_simp
            refine (eyeEnd _ p dd _ _ (by exact hE6)).mono ?_
            rintro e w7 ⟨rfl, rfl⟩
            refine hK.out _ _ (And.intro hm1 hm0) (fun _ => ?_)
            clear hK K
            try simp only [Act.put, List.setIfInBounds_toArray, List.set_cons_zero, List.set_cons_succ]
            (apply ord_only; (simp only [List.getElem?_toArray, List.getElem?_cons_succ, List.getElem?_cons_zero]; rfl); rfl; intro K hK)
            go_simp
            refine (reyeEnd _ q _ _ (by exact hM6) (by omega)).mono ?_
            rintro e w7 ⟨rfl, rfl⟩
            refine hK.out _ _ (And.intro hm1 hm0) (fun _ => ?_)
            clear hK K
            try simp only [Act.put, List.setIfInBounds_toArray, List.set_cons_zero, List.set_cons_succ]
            iterate 2 (apply ord_take; (simp only [List.getElem?_toArray, List.getElem?_cons_succ, List.getElem?_cons_zero]; rfl); rfl; (intro w hSw; (try dsimp only at hSw); go_simp; try with_reducible rfl); intro _; try simp only [Act.put, List.setIfInBounds_toArray, List.set_cons_zero, List.set_cons_succ])
            apply ord_done
            go_wp2
            go_roundw
            case rel => exact ⟨k + 1, _, _, by omega, by go_num, hE6, hM6, hN6.drew, by omega⟩
            case measure => simp [intOf]; omega
          · have hltN : eNum 4 r err < 4294967296 := eNum_lt 4 r err
            have HN := Lib.hid (fun (W : World) (hW : REye W q r err) => reyeNumber W q r err 4 hW (by omega) (by omega))
            have HE := Lib.hid (eyeU32 wr p dd r err hE)
            unfold RNumTo at HN
            unfold NumTo at HE
            have hrl4 := eTake_rest (4 : Nat) r err
            generalize eNum 4 r err = V at hltN HN HE
            generalize eTake (4 : Nat) r err = t at HN hrl4 HE
            go_wp2_with fail
            refine HE.out.mono ?_
            rintro e w4 ⟨rfl, hE4⟩
            have hM4 := hM.only hE4.2 (by omega)
            have hn4 := New.eye hnw hE4 hpw
            have hq1 : ((V : Int) != (V : Int)) = false := by simp
            go_wp2
            refine region_ord (fun w' => w'.cell? ⟨b, off + k * 3 + 1, none⟩ = some (.int .i64 d.n)) [(0, true), (1, true), (2, true), (3, true), (4, true), (5, true), (6, false), (7, false), (8, true), (9, true), (10, true), (11, true), (12, true), (13, true), (14, true), (15, true), (16, true), (17, true), (18, true), (19, true), (20, true), (21, false), (22, true), (23, true), (24, true), (25, true), (26, true), (27, true), (28, true), (29, true), (30, true), (31, true), (33, true), (34, true), (35, true), (36, true), (37, true), (32, false), (38, false), (39, true), (40, true), (41, true)] (by kernel_rfl) (by kernel_rfl) (HK.out _ hn4.drew) (fun _ => ?_)
            iterate 6 (apply ord_take; (simp only [List.getElem?_toArray, List.getElem?_cons_succ, List.getElem?_cons_zero]; rfl); rfl; (intro w hSw; (try dsimp only at hSw); go_simp; try with_reducible rfl); intro _; try simp only [Act.put, List.setIfInBounds_toArray, List.set_cons_zero, List.set_cons_succ])
            (apply ord_only; (simp only [List.getElem?_toArray, List.getElem?_cons_succ, List.getElem?_cons_zero]; rfl); rfl; intro K hK)
            go_simp
            refine (size01 _ 2 (by omega)).mono ?_
            rintro e w5 ⟨rfl, hn5⟩
            have hN5 := New.trans hn4.drew hn5
            have hM5 := REye.new (w := w4.drew) hM4 hn5
            have hE5 := Eye.new (w := w4.drew) hE4.1 hn5
            refine hK.out _ _ (HK.out _ hN5) (fun _ => ?_)
            clear hK K
            try simp only [Act.put, List.setIfInBounds_toArray, List.set_cons_zero, List.set_cons_succ]
            (apply ord_only; (simp only [List.getElem?_toArray, List.getElem?_cons_succ, List.getElem?_cons_zero]; rfl); rfl; intro K hK)
            go_simp
            refine (HN.out _ (by exact hM5)).mono ?_
            rintro e w6 ⟨rfl, hM6'⟩
            have hN6 := New.reye hN5 hM6' hqw
            have hE6 := Eye.only hE5 hM6'.2 (by omega) (by intro j hj; have := hdq; rintro rfl; exact this hj)
            have hM6 := hM6'.1
            refine hK.out _ _ (HK.out _ hN6) (fun _ => ?_)
            clear hK K
            try simp only [Act.put, List.setIfInBounds_toArray, List.set_cons_zero, List.set_cons_succ]
            iterate 6 (apply ord_take; (simp only [List.getElem?_toArray, List.getElem?_cons_succ, List.getElem?_cons_zero]; rfl); rfl; (intro w hSw; (try dsimp only at hSw); go_simp; try with_reducible rfl); intro _; try simp only [Act.put, List.setIfInBounds_toArray, List.set_cons_zero, List.set_cons_succ])
            iterate 7 (apply ord_skip; (simp only [List.getElem?_toArray, List.getElem?_cons_succ, List.getElem?_cons_zero]; rfl); rfl; intro _; try simp only [Act.put, List.setIfInBounds_toArray, List.set_cons_zero, List.set_cons_succ])
            (apply ord_pass; (simp only [List.getElem?_toArray, List.getElem?_cons_succ, List.getElem?_cons_zero]; rfl); rfl; intro _; try simp only [Act.put, List.setIfInBounds_toArray, List.set_cons_zero, List.set_cons_succ])
            (apply ord_skip; (simp only [List.getElem?_toArray, List.getElem?_cons_succ, List.getElem?_cons_zero]; rfl); rfl; intro _; try simp only [Act.put, List.setIfInBounds_toArray, List.set_cons_zero, List.set_cons_succ])
            iterate 6 (apply ord_take; (simp only [List.getElem?_toArray, List.getElem?_cons_succ, List.getElem?_cons_zero]; rfl); rfl; (intro w hSw; (try dsimp only at hSw); go_simp; try with_reducible rfl); intro _; try simp only [Act.put, List.setIfInBounds_toArray, List.set_cons_zero, List.set_cons_succ])
            iterate 8 (apply ord_skip; (simp only [List.getElem?_toArray, List.getElem?_cons_succ, List.getElem?_cons_zero]; rfl); rfl; intro _; try simp only [Act.put, List.setIfInBounds_toArray, List.set_cons_zero, List.set_cons_succ])
            iterate 2 (apply ord_pass; (simp only [List.getElem?_toArray, List.getElem?_cons_succ, List.getElem?_cons_zero]; rfl); rfl; intro _; try simp only [Act.put, List.setIfInBounds_toArray, List.set_cons_zero, List.set_cons_succ])
            (apply ord_skip; (simp only [List.getElem?_toArray, List.getElem?_cons_succ, List.getElem?_cons_zero]; rfl); rfl; intro _; try simp only [Act.put, List.setIfInBounds_toArray, List.set_cons_zero, List.set_cons_succ])
            iterate 2 (apply ord_take; (simp only [List.getElem?_toArray, List.getElem?_cons_succ, List.getElem?_cons_zero]; rfl); rfl; (intro w hSw; (try dsimp only at hSw); go_simp; try with_reducible rfl); intro _; try simp only [Act.put, List.setIfInBounds_toArray, List.set_cons_zero, List.set_cons_succ])
            apply ord_done
            obtain ⟨hm0, hm1, _, _⟩ := REye.cells hM6
            have hzt : (bstr t.2.1).size = t.2.1.length := bstr_size _
            have hzl : t.2.1.length ≤ 2000 := by omega
            go_wp2
            refine region_ord (fun w' => w'.cell? ⟨q, 1, none⟩ = some (.int .i64 t.2.2) ∧ w'.cell? ⟨q, 0, none⟩ = some (.string (bstr t.2.1))) [(0, true), (2, true), (3, true), (4, true), (5, true), (1, false), (6, true), (7, true), (8, true), (10, true), (11, true), (12, true), (13, true), (14, true), (9, false), (15, true), (16, true), (17, true), (18, true), (20, true), (19, false), (21, false), (22, true), (23, true)] (by kernel_rfl) (by kernel_rfl) (And.intro hm1 hm0) (fun _ => ?_)
            iterate 5 (apply ord_take; (simp only [List.getElem?_toArray, List.getElem?_cons_succ, List.getElem?_cons_zero]; rfl); rfl; (intro w hSw; (try dsimp only at hSw); go_simp; try with_reducible rfl); intro _; try simp only [Act.put, List.setIfInBounds_toArray, List.set_cons_zero, List.set_cons_succ])
            (apply ord_only; (simp only [List.getElem?_toArray, List.getElem?_cons_succ, List.getElem?_cons_zero]; rfl); rfl; intro K hK)
            go_simp
            refine (eyeErr _ p dd _ _ (by exact hE6)).mono ?_
            rintro e w7 ⟨rfl, rfl⟩
            refine hK.out _ _ (And.intro hm1 hm0) (fun _ => ?_)
            clear hK K
            try simp only [Act.put, List.setIfInBounds_toArray, List.set_cons_zero, List.set_cons_succ]
            iterate 8 (apply ord_take; (simp only [List.getElem?_toArray, List.getElem?_cons_succ, List.getElem?_cons_zero]; rfl); rfl; (intro w hSw; (try dsimp only at hSw); go_simp; try with_reducible rfl); intro _; try simp only [Act.put, List.setIfInBounds_toArray, List.set_cons_zero, List.set_cons_succ])
            (apply ord_only; (simp only [List.getElem?_toArray, List.getElem?_cons_succ, List.getElem?_cons_zero]; rfl); rfl; intro K hK)
            go_simp
            refine (eyeLeft _ p dd _ _ (by exact hE6)).mono ?_
            rintro e w7 ⟨rfl, rfl⟩
            refine hK.out _ _ (And.intro hm1 hm0) (fun _ => ?_)
            clear hK K
            try simp only [Act.put, List.setIfInBounds_toArray, List.set_cons_zero, List.set_cons_succ]
            iterate 5 (apply ord_take; (simp only [List.getElem?_toArray, List.getElem?_cons_succ, List.getElem?_cons_zero]; rfl); rfl; (intro w hSw; (try dsimp only at hSw); go_simp; try with_reducible rfl); intro _; try simp only [Act.put, List.setIfInBounds_toArray, List.set_cons_zero, List.set_cons_succ])
            (apply ord_only; (simp only [List.getElem?_toArray, List.getElem?_cons_succ, List.getElem?_cons_zero]; rfl); rfl; intro K hK)
            go_simp
            refine (eyeEnd _ p dd _ _ (by exact hE6)).mono ?_
            rintro e w7 ⟨rfl, rfl⟩
            refine hK.out _ _ (And.intro hm1 hm0) (fun _ => ?_)
            clear hK K
            try simp only [Act.put, List.setIfInBounds_toArray, List.set_cons_zero, List.set_cons_succ]
            (apply ord_only; (simp only [List.getElem?_toArray, List.getElem?_cons_succ, List.getElem?_cons_zero]; rfl); rfl; intro K hK)
            go_simp
            refine (reyeEnd _ q _ _ (by exact hM6) (by omega)).mono ?_
            rintro e w7 ⟨rfl, rfl⟩
            refine hK.out _ _ (And.intro hm1 hm0) (fun _ => ?_)
            clear hK K
            try simp only [Act.put, List.setIfInBounds_toArray, List.set_cons_zero, List.set_cons_succ]
            iterate 2 (apply ord_take; (simp only [List.getElem?_toArray, List.getElem?_cons_succ, List.getElem?_cons_zero]; rfl); rfl; (intro w hSw; (try dsimp only at hSw); go_simp; try with_reducible rfl); intro _; try simp only [Act.put, List.setIfInBounds_toArray, List.set_cons_zero, List.set_cons_succ])
            apply ord_done
            go_wp2
            go_roundw
            case rel => exact ⟨k + 1, _, _, by omega, by go_num, hE6, hM6, hN6.drew, by omega⟩
            case measure => simp [intOf]; omega
          · have hltN : eNum 8 r err < 18446744073709551616 := eNum_lt 8 r err
            have HN := Lib.hid (fun (W : World) (hW : REye W q r err) => reyeNumber W q r err 8 hW (by omega) (by omega))
            have HE := Lib.hid (eyeU64 wr p dd r err hE)
            unfold RNumTo at HN
            unfold NumTo at HE
            have hrl4 := eTake_rest (8 : Nat) r err
            generalize eNum 8 r err = V at hltN HN HE
            generalize eTake (8 : Nat) r err = t at HN hrl4 HE
            go_wp2_with fail
            refine HE.out.mono ?_
            rintro e w4 ⟨rfl, hE4⟩
            have hM4 := hM.only hE4.2 (by omega)
            have hn4 := New.eye hnw hE4 hpw
            have hq1 : ((V : Int) != (V : Int)) = false := by simp
            go_wp2
            refine region_ord (fun w' => w'.cell? ⟨b, off + k * 3 + 1, none⟩ = some (.int .i64 d.n)) [(0, true), (1, true), (2, true), (3, true), (4, true), (5, true), (6, false), (7, false), (8, true), (9, true), (10, true), (11, true), (12, true), (13, true), (14, true), (15, true), (16, true), (17, true), (18, true), (19, true), (20, true), (21, false), (22, true), (23, true), (24, true), (25, true), (26, true), (27, true), (28, true), (29, true), (30, true), (31, true), (33, true), (34, true), (35, true), (36, true), (37, true), (32, false), (38, false), (39, true), (40, true), (41, true)] (by kernel_rfl) (by kernel_rfl) (HK.out _ hn4.drew) (fun _ => ?_)
            iterate 6 (apply ord_take; (simp only [List.getElem?_toArray, List.getElem?_cons_succ, List.getElem?_cons_zero]; rfl); rfl; (intro w hSw; (try dsimp only at hSw); go_simp; try with_reducible rfl); intro _; try simp only [Act.put, List.setIfInBounds_toArray, List.set_cons_zero, List.set_cons_succ])
            (apply ord_only; (simp only [List.getElem?_toArray, List.getElem?_cons_succ, List.getElem?_cons_zero]; rfl); rfl; intro K hK)
            go_simp
            refine (size01 _ 3 (by omega)).mono ?_
            rintro e w5 ⟨rfl, hn5⟩
            have hN5 := New.trans hn4.drew hn5
            have hM5 := REye.new (w := w4.drew) hM4 hn5
            have hE5 := Eye.new (w := w4.drew) hE4.1 hn5
            refine hK.out _ _ (HK.out _ hN5) (fun _ => ?_)
            clear hK K
            try simp only [Act.put, List.setIfInBounds_toArray, List.set_cons_zero, List.set_cons_succ]
            (apply ord_only; (simp only [List.getElem?_toArray, List.getElem?_cons_succ, List.getElem?_cons_zero]; rfl); rfl; intro K hK)
            go_simp
            refine (HN.out _ (by exact hM5)).mono ?_
            rintro e w6 ⟨rfl, hM6'⟩
            have hN6 := New.reye hN5 hM6' hqw
            have hE6 := Eye.only hE5 hM6'.2 (by omega) (by intro j hj; have := hdq; rintro rfl; exact this hj)
            have hM6 := hM6'.1
            refine hK.out _ _ (HK.out _ hN6) (fun _ => ?_)
            clear hK K
            try simp only [Act.put, List.setIfInBounds_toArray, List.set_cons_zero, List.set_cons_succ]
            iterate 6 (apply ord_take; (simp only [List.getElem?_toArray, List.getElem?_cons_succ, List.getElem?_cons_zero]; rfl); rfl; (intro w hSw; (try dsimp only at hSw); go_simp; try with_reducible rfl); intro _; try simp only [Act.put, List.setIfInBounds_toArray, List.set_cons_zero, List.set_cons_succ])
            iterate 7 (apply ord_skip; (simp only [List.getElem?_toArray, List.getElem?_cons_succ, List.getElem?_cons_zero]; rfl); rfl; intro _; try simp only [Act.put, List.setIfInBounds_toArray, List.set_cons_zero, List.set_cons_succ])
            (apply ord_pass; (simp only [List.getElem?_toArray, List.getElem?_cons_succ, List.getElem?_cons_zero]; rfl); rfl; intro _; try simp only [Act.put, List.setIfInBounds_toArray, List.set_cons_zero, List.set_cons_succ])
            (apply ord_skip; (simp only [List.getElem?_toArray, List.getElem?_cons_succ, List.getElem?_cons_zero]; rfl); rfl; intro _; try simp only [Act.put, List.setIfInBounds_toArray, List.set_cons_zero, List.set_cons_succ])
            iterate 6 (apply ord_take; (simp only [List.getElem?_toArray, List.getElem?_cons_succ, List.getElem?_cons_zero]; rfl); rfl; (intro w hSw; (try dsimp only at hSw); go_simp; try with_reducible rfl); intro _; try simp only [Act.put, List.setIfInBounds_toArray, List.set_cons_zero, List.set_cons_succ])
            iterate 8 (apply ord_skip; (simp only [List.getElem?_toArray, List.getElem?_cons_succ, List.getElem?_cons_zero]; rfl); rfl; intro _; try simp only [Act.put, List.setIfInBounds_toArray, List.set_cons_zero, List.set_cons_succ])
            iterate 2 (apply ord_pass; (simp only [List.getElem?_toArray, List.getElem?_cons_succ, List.getElem?_cons_zero]; rfl); rfl; intro _; try simp only [Act.put, List.setIfInBounds_toArray, List.set_cons_zero, List.set_cons_succ])
            (apply ord_skip; (simp only [List.getElem?_toArray, List.getElem?_cons_succ, List.getElem?_cons_zero]; rfl); rfl; intro _; try simp only [Act.put, List.setIfInBounds_toArray, List.set_cons_zero, List.set_cons_succ])
            iterate 2 (apply ord_take; (simp only [List.getElem?_toArray, List.getElem?_cons_succ, List.getElem?_cons_zero]; rfl); rfl; (intro w hSw; (try dsimp only at hSw); go_simp; try with_reducible rfl); intro _; try simp only [Act.put, List.setIfInBounds_toArray, List.set_cons_zero, List.set_cons_succ])
            apply ord_done
            obtain ⟨hm0, hm1, _, _⟩ := REye.cells hM6
            have hzt : (bstr t.2.1).size = t.2.1.length := bstr_size _
            have hzl : t.2.1.length ≤ 2000 := by omega
            go_wp2
            refine region_ord (fun w' => w'.cell? ⟨q, 1, none⟩ = some (.int .i64 t.2.2) ∧ w'.cell? ⟨q, 0, none⟩ = some (.string (bstr t.2.1))) [(0, true), (2, true), (3, true), (4, true), (5, true), (1, false), (6, true), (7, true), (8, true), (10, true), (11, true), (12, true), (13, true), (14, true), (9, false), (15, true), (16, true), (17, true), (18, true), (20, true), (19, false), (21, false), (22, true), (23, true)] (by kernel_rfl) (by kernel_rfl) (And.intro hm1 hm0) (fun _ => ?_)
            iterate 5 (apply ord_take; (simp only [List.getElem?_toArray, List.getElem?_cons_succ, List.getElem?_cons_zero]; rfl); rfl; (intro w hSw; (try dsimp only at hSw); go_simp; try with_reducible rfl); intro _; try simp only [Act.put, List.setIfInBounds_toArray, List.set_cons_zero, List.set_cons_succ])
            (apply ord_only; (simp only [List.getElem?_toArray, List.getElem?_cons_succ, List.getElem?_cons_zero]; rfl); rfl; intro K hK)
            go_simp
            refine (eyeErr _ p dd _ _ (by exact hE6)).mono ?_
            rintro e w7 ⟨rfl, rfl⟩
            refine hK.out _ _ (And.intro hm1 hm0) (fun _ => ?_)
            clear hK K
            try simp only [Act.put, List.setIfInBounds_toArray, List.set_cons_zero, List.set_cons_succ]
            iterate 8 (apply ord_take; (simp only [List.getElem?_toArray, List.getElem?_cons_succ, List.getElem?_cons_zero]; rfl); rfl; (intro w hSw; (try dsimp only at hSw); go_simp; try with_reducible rfl); intro _; try simp only [Act.put, List.setIfInBounds_toArray, List.set_cons_zero, List.set_cons_succ])
            (apply ord_only; (simp only [List.getElem?_toArray, List.getElem?_cons_succ, List.getElem?_cons_zero]; rfl); rfl; intro K hK)
            go_simp
            refine (eyeLeft _ p dd _ _ (by exact hE6)).mono ?_
            rintro e w7 ⟨rfl, rfl⟩
            refine hK.out _ _ (And.intro hm1 hm0) (fun _ => ?_)
            clear hK K
            try simp only [Act.put, List.setIfInBounds_toArray, List.set_cons_zero, List.set_cons_succ]
            iterate 5 (apply ord_take; (simp only [List.getElem?_toArray, List.getElem?_cons_succ, List.getElem?_cons_zero]; rfl); rfl; (intro w hSw; (try dsimp only at hSw); go_simp; try with_reducible rfl); intro _; try simp only [Act.put, List.setIfInBounds_toArray, List.set_cons_zero, List.set_cons_succ])
            (apply ord_only; (simp only [List.getElem?_toArray, List.getElem?_cons_succ, List.getElem?_cons_zero]; rfl); rfl; intro K hK)
            go_simp
            refine (eyeEnd _ p dd _ _ (by exact hE6)).mono ?_
            rintro e w7 ⟨rfl, rfl⟩
            refine hK.out _ _ (And.intro hm1 hm0) (fun _ => ?_)
            clear hK K
            try simp only [Act.put, List.setIfInBounds_toArray, List.set_cons_zero, List.set_cons_succ]
            (apply ord_only; (simp only [List.getElem?_toArray, List.getElem?_cons_succ, List.getElem?_cons_zero]; rfl); rfl; intro K hK)
            go_simp
            refine (reyeEnd _ q _ _ (by exact hM6) (by omega)).mono ?_
            rintro e w7 ⟨rfl, rfl⟩
            refine hK.out _ _ (And.intro hm1 hm0) (fun _ => ?_)
            clear hK K
            try simp only [Act.put, List.setIfInBounds_toArray, List.set_cons_zero, List.set_cons_succ]
            iterate 2 (apply ord_take; (simp only [List.getElem?_toArray, List.getElem?_cons_succ, List.getElem?_cons_zero]; rfl); rfl; (intro w hSw; (try dsimp only at hSw); go_simp; try with_reducible rfl); intro _; try simp only [Act.put, List.setIfInBounds_toArray, List.set_cons_zero, List.set_cons_succ])
            apply ord_done
            go_wp2
            go_roundw
            case rel => exact ⟨k + 1, _, _, by omega, by go_num, hE6, hM6, hN6.drew, by omega⟩
            case measure => simp [intOf]; omega
          · have HN := Lib.hid (fun (W : World) (hW : REye W q r err) => reyeRaw W q r err d.n hW (by omega))
            have HE := Lib.hid (eyeRaw wr p dd r err d.n hE (by omega))
            unfold RTextTo at HN
            have hrl4 := eTake_rest d.n r err
            generalize eTake d.n r err = t at HN hrl4 HE
            have hc1 := HK.out _ hnw
            go_wp2_with fail
            refine HE.out.mono ?_
            rintro e w4 ⟨a4, n4, c4, rfl, hr4, _, hE4⟩
            clear hc1
            have hM4 := hM.only hE4.2 (by omega)
            have hn4 := New.eye hnw hE4 hpw
            have ks := run_str (P := Try.prog) Try.underlying28 Try.underlying5 Try.underlying9 hr4
            have hq1 : ((bstr t.1).toList != (bstr t.1).toList) = false := by simp
            go_wp2
            refine region_ord (fun w' => w'.cell? ⟨b, off + k * 3 + 1, none⟩ = some (.int .i64 d.n)) [(0, true), (1, true), (2, true), (3, true), (4, true), (5, true), (6, false), (7, false), (8, true), (9, true), (10, true), (11, true), (12, true), (13, true), (14, true), (15, true), (16, true), (17, true), (18, true), (19, true), (20, true), (21, false), (22, true), (23, true), (24, true), (25, true), (26, true), (27, true), (28, true), (29, true), (30, true), (31, true), (33, true), (34, true), (35, true), (36, true), (37, true), (32, false), (38, false), (39, true), (40, true), (41, true)] (by kernel_rfl) (by kernel_rfl) (HK.out _ hn4.drew) (fun _ => ?_)
            iterate 3 (apply ord_take; (simp only [List.getElem?_toArray, List.getElem?_cons_succ, List.getElem?_cons_zero]; rfl); rfl; (intro w hSw; (try dsimp only at hSw); go_simp; try with_reducible rfl); intro _; try simp only [Act.put, List.setIfInBounds_toArray, List.set_cons_zero, List.set_cons_succ])
            iterate 3 (apply ord_skip; (simp only [List.getElem?_toArray, List.getElem?_cons_succ, List.getElem?_cons_zero]; rfl); rfl; intro _; try simp only [Act.put, List.setIfInBounds_toArray, List.set_cons_zero, List.set_cons_succ])
            iterate 2 (apply ord_pass; (simp only [List.getElem?_toArray, List.getElem?_cons_succ, List.getElem?_cons_zero]; rfl); rfl; intro _; try simp only [Act.put, List.setIfInBounds_toArray, List.set_cons_zero, List.set_cons_succ])
            (apply ord_skip; (simp only [List.getElem?_toArray, List.getElem?_cons_succ, List.getElem?_cons_zero]; rfl); rfl; intro _; try simp only [Act.put, List.setIfInBounds_toArray, List.set_cons_zero, List.set_cons_succ])
            iterate 12 (apply ord_take; (simp only [List.getElem?_toArray, List.getElem?_cons_succ, List.getElem?_cons_zero]; rfl); rfl; (intro w hSw; (try dsimp only at hSw); go_simp; try with_reducible rfl); intro _; try simp only [Act.put, List.setIfInBounds_toArray, List.set_cons_zero, List.set_cons_succ])
            (apply ord_only; (simp only [List.getElem?_toArray, List.getElem?_cons_succ, List.getElem?_cons_zero]; rfl); rfl; intro K hK)
            go_simp
            refine (HN.out _ (by exact hM4)).mono ?_
            rintro e w6 ⟨rfl, hM6'⟩
            have hN6 := New.reye hn4.drew hM6' hqw
            have hE6 := Eye.only (w := w4.drew) hE4.1 hM6'.2 (by omega) (by intro j hj; have := hdq; rintro rfl; exact this hj)
            have hM6 := hM6'.1
            refine hK.out _ _ (HK.out _ hN6) (fun _ => ?_)
            clear hK K
            try simp only [Act.put, List.setIfInBounds_toArray, List.set_cons_zero, List.set_cons_succ]
            iterate 7 (apply ord_take; (simp only [List.getElem?_toArray, List.getElem?_cons_succ, List.getElem?_cons_zero]; rfl); rfl; (intro w hSw; (try dsimp only at hSw); go_simp; try with_reducible rfl); intro _; try simp only [Act.put, List.setIfInBounds_toArray, List.set_cons_zero, List.set_cons_succ])
            iterate 8 (apply ord_skip; (simp only [List.getElem?_toArray, List.getElem?_cons_succ, List.getElem?_cons_zero]; rfl); rfl; intro _; try simp only [Act.put, List.setIfInBounds_toArray, List.set_cons_zero, List.set_cons_succ])
            iterate 2 (apply ord_pass; (simp only [List.getElem?_toArray, List.getElem?_cons_succ, List.getElem?_cons_zero]; rfl); rfl; intro _; try simp only [Act.put, List.setIfInBounds_toArray, List.set_cons_zero, List.set_cons_succ])
            (apply ord_skip; (simp only [List.getElem?_toArray, List.getElem?_cons_succ, List.getElem?_cons_zero]; rfl); rfl; intro _; try simp only [Act.put, List.setIfInBounds_toArray, List.set_cons_zero, List.set_cons_succ])
            iterate 2 (apply ord_take; (simp only [List.getElem?_toArray, List.getElem?_cons_succ, List.getElem?_cons_zero]; rfl); rfl; (intro w hSw; (try dsimp only at hSw); go_simp; try with_reducible rfl); intro _; try simp only [Act.put, List.setIfInBounds_toArray, List.set_cons_zero, List.set_cons_succ])
            apply ord_done
            obtain ⟨hm0, hm1, _, _⟩ := REye.cells hM6
            have hzt : (bstr t.2.1).size = t.2.1.length := bstr_size _
            have hzl : t.2.1.length ≤ 2000 := by omega
            go_wp2
            refine region_ord (fun w' => w'.cell? ⟨q, 1, none⟩ = some (.int .i64 t.2.2) ∧ w'.cell? ⟨q, 0, none⟩ = some (.string (bstr t.2.1))) [(0, true), (2, true), (3, true), (4, true), (5, true), (1, false), (6, true), (7, true), (8, true), (10, true), (11, true), (12, true), (13, true), (14, true), (9, false), (15, true), (16, true), (17, true), (18, true), (20, true), (19, false), (21, false), (22, true), (23, true)] (by kernel_rfl) (by kernel_rfl) (And.intro hm1 hm0) (fun _ => ?_)
            iterate 5 (apply ord_take; (simp only [List.getElem?_toArray, List.getElem?_cons_succ, List.getElem?_cons_zero]; rfl); rfl; (intro w hSw; (try dsimp only at hSw); go_simp; try with_reducible rfl); intro _; try simp only [Act.put, List.setIfInBounds_toArray, List.set_cons_zero, List.set_cons_succ])
            (apply ord_only; (simp only [List.getElem?_toArray, List.getElem?_cons_succ, List.getElem?_cons_zero]; rfl); rfl; intro K hK)
            go_simp
            refine (eyeErr _ p dd _ _ (by exact hE6)).mono ?_
            rintro e w7 ⟨rfl, rfl⟩
            refine hK.out _ _ (And.intro hm1 hm0) (fun _ => ?_)
            clear hK K
            try simp only [Act.put, List.setIfInBounds_toArray, List.set_cons_zero, List.set_cons_succ]
            iterate 8 (apply ord_take; (simp only [List.getElem?_toArray, List.getElem?_cons_succ, List.getElem?_cons_zero]; rfl); rfl; (intro w hSw; (try dsimp only at hSw); go_simp; try with_reducible rfl); intro _; try simp only [Act.put, List.setIfInBounds_toArray, List.set_cons_zero, List.set_cons_succ])
            (apply ord_only; (simp only [List.getElem?_toArray, List.getElem?_cons_succ, List.getElem?_cons_zero]; rfl); rfl; intro K hK)
            go_simp
            refine (eyeLeft _ p dd _ _ (by exact hE6)).mono ?_
            rintro e w7 ⟨rfl, rfl⟩
            refine hK.out _ _ (And.intro hm1 hm0) (fun _ => ?_)
            clear hK K
            try simp only [Act.put, List.setIfInBounds_toArray, List.set_cons_zero, List.set_cons_succ]
            iterate 5 (apply ord_take; (simp only [List.getElem?_toArray, List.getElem?_cons_succ, List.getElem?_cons_zero]; rfl); rfl; (intro w hSw; (try dsimp only at hSw); go_simp; try with_reducible rfl); intro _; try simp only [Act.put, List.setIfInBounds_toArray, List.set_cons_zero, List.set_cons_succ])
            (apply ord_only; (simp only [List.getElem?_toArray, List.getElem?_cons_succ, List.getElem?_cons_zero]; rfl); rfl; intro K hK)
            go_simp
            refine (eyeEnd _ p dd _ _ (by exact hE6)).mono ?_
            rintro e w7 ⟨rfl, rfl⟩
            refine hK.out _ _ (And.intro hm1 hm0) (fun _ => ?_)
            clear hK K
            try simp only [Act.put, List.setIfInBounds_toArray, List.set_cons_zero, List.set_cons_succ]
            (apply ord_only; (simp only [List.getElem?_toArray, List.getElem?_cons_succ, List.getElem?_cons_zero]; rfl); rfl; intro K hK)
            go_simp
            refine (reyeEnd _ q _ _ (by exact hM6) (by omega)).mono ?_
            rintro e w7 ⟨rfl, rfl⟩
            refine hK.out _ _ (And.intro hm1 hm0) (fun _ => ?_)
            clear hK K
            try simp only [Act.put, List.setIfInBounds_toArray, List.set_cons_zero, List.set_cons_succ]
            iterate 2 (apply ord_take; (simp only [List.getElem?_toArray, List.getElem?_cons_succ, List.getElem?_cons_zero]; rfl); rfl; (intro w hSw; (try dsimp only at hSw); go_simp; try with_reducible rfl); intro _; try simp only [Act.put, List.setIfInBounds_toArray, List.set_cons_zero, List.set_cons_succ])
            apply ord_done
            go_wp2
            go_roundw
            case rel => exact ⟨k + 1, _, _, by omega, by go_num, hE6, hM6, hN6.drew, by omega⟩
            case measure => simp [intOf]; omega
          · have HN := Lib.hid (fun (W : World) (hW : REye W q r err) => reyeText W q r err d.n 1 hW (by omega) (by omega))
            have HE := Lib.hid (eyeShort wr p dd r err d.n hE (by omega))
            unfold RTextTo at HN
            have hrl4 := eText_rest 1 d.n r err
            generalize eText 1 d.n r err = t at HN hrl4 HE
            have hc1 := HK.out _ hnw
            go_wp2_with fail
            refine HE.out.mono ?_
            rintro e w4 ⟨a4, n4, c4, rfl, hr4, _, hE4⟩
            clear hc1
            have hM4 := hM.only hE4.2 (by omega)
            have hn4 := New.eye hnw hE4 hpw
            have ks := run_str (P := Try.prog) Try.underlying28 Try.underlying5 Try.underlying9 hr4
            have hq1 : ((bstr t.1).toList != (bstr t.1).toList) = false := by simp
            go_wp2
            refine region_ord (fun w' => w'.cell? ⟨b, off + k * 3 + 1, none⟩ = some (.int .i64 d.n)) [(0, true), (1, true), (2, true), (3, true), (4, true), (5, true), (6, false), (7, false), (8, true), (9, true), (10, true), (11, true), (12, true), (13, true), (14, true), (15, true), (16, true), (17, true), (18, true), (19, true), (20, true), (21, false), (22, true), (23, true), (24, true), (25, true), (26, true), (27, true), (28, true), (29, true), (30, true), (31, true), (33, true), (34, true), (35, true), (36, true), (37, true), (32, false), (38, false), (39, true), (40, true), (41, true)] (by kernel_rfl) (by kernel_rfl) (HK.out _ hn4.drew) (fun _ => ?_)
            iterate 3 (apply ord_take; (simp only [List.getElem?_toArray, List.getElem?_cons_succ, List.getElem?_cons_zero]; rfl); rfl; (intro w hSw; (try dsimp only at hSw); go_simp; try with_reducible rfl); intro _; try simp only [Act.put, List.setIfInBounds_toArray, List.set_cons_zero, List.set_cons_succ])
            iterate 3 (apply ord_skip; (simp only [List.getElem?_toArray, List.getElem?_cons_succ, List.getElem?_cons_zero]; rfl); rfl; intro _; try simp only [Act.put, List.setIfInBounds_toArray, List.set_cons_zero, List.set_cons_succ])
            iterate 2 (apply ord_pass; (simp only [List.getElem?_toArray, List.getElem?_cons_succ, List.getElem?_cons_zero]; rfl); rfl; intro _; try simp only [Act.put, List.setIfInBounds_toArray, List.set_cons_zero, List.set_cons_succ])
            (apply ord_skip; (simp only [List.getElem?_toArray, List.getElem?_cons_succ, List.getElem?_cons_zero]; rfl); rfl; intro _; try simp only [Act.put, List.setIfInBounds_toArray, List.set_cons_zero, List.set_cons_succ])
            iterate 5 (apply ord_take; (simp only [List.getElem?_toArray, List.getElem?_cons_succ, List.getElem?_cons_zero]; rfl); rfl; (intro w hSw; (try dsimp only at hSw); go_simp; try with_reducible rfl); intro _; try simp only [Act.put, List.setIfInBounds_toArray, List.set_cons_zero, List.set_cons_succ])
            iterate 7 (apply ord_skip; (simp only [List.getElem?_toArray, List.getElem?_cons_succ, List.getElem?_cons_zero]; rfl); rfl; intro _; try simp only [Act.put, List.setIfInBounds_toArray, List.set_cons_zero, List.set_cons_succ])
            (apply ord_pass; (simp only [List.getElem?_toArray, List.getElem?_cons_succ, List.getElem?_cons_zero]; rfl); rfl; intro _; try simp only [Act.put, List.setIfInBounds_toArray, List.set_cons_zero, List.set_cons_succ])
            (apply ord_skip; (simp only [List.getElem?_toArray, List.getElem?_cons_succ, List.getElem?_cons_zero]; rfl); rfl; intro _; try simp only [Act.put, List.setIfInBounds_toArray, List.set_cons_zero, List.set_cons_succ])
            iterate 14 (apply ord_take; (simp only [List.getElem?_toArray, List.getElem?_cons_succ, List.getElem?_cons_zero]; rfl); rfl; (intro w hSw; (try dsimp only at hSw); go_simp; try with_reducible rfl); intro _; try simp only [Act.put, List.setIfInBounds_toArray, List.set_cons_zero, List.set_cons_succ])
            (apply ord_only; (simp only [List.getElem?_toArray, List.getElem?_cons_succ, List.getElem?_cons_zero]; rfl); rfl; intro K hK)
            go_simp
            refine (size01 _ 5 (by omega)).mono ?_
            rintro e w5 ⟨rfl, hn5⟩
            have hN5 := New.trans hn4.drew hn5
            have hM5 := REye.new (w := w4.drew) hM4 hn5
            have hE5 := Eye.new (w := w4.drew) hE4.1 hn5
            refine hK.out _ _ (HK.out _ hN5) (fun _ => ?_)
            clear hK K
            try simp only [Act.put, List.setIfInBounds_toArray, List.set_cons_zero, List.set_cons_succ]
            (apply ord_only; (simp only [List.getElem?_toArray, List.getElem?_cons_succ, List.getElem?_cons_zero]; rfl); rfl; intro K hK)
            go_simp
            refine (HN.out _ (by exact hM5)).mono ?_
            rintro e w6 ⟨rfl, hM6'⟩
            have hN6 := New.reye hN5 hM6' hqw
            have hE6 := Eye.only hE5 hM6'.2 (by omega) (by intro j hj; have := hdq; rintro rfl; exact this hj)
            have hM6 := hM6'.1
            refine hK.out _ _ (HK.out _ hN6) (fun _ => ?_)
            clear hK K
            try simp only [Act.put, List.setIfInBounds_toArray, List.set_cons_zero, List.set_cons_succ]
            iterate 3 (apply ord_take; (simp only [List.getElem?_toArray, List.getElem?_cons_succ, List.getElem?_cons_zero]; rfl); rfl; (intro w hSw; (try dsimp only at hSw); go_simp; try with_reducible rfl); intro _; try simp only [Act.put, List.setIfInBounds_toArray, List.set_cons_zero, List.set_cons_succ])
            apply ord_done
            obtain ⟨hm0, hm1, _, _⟩ := REye.cells hM6
            have hzt : (bstr t.2.1).size = t.2.1.length := bstr_size _
            have hzl : t.2.1.length ≤ 2000 := by omega
            go_wp2
            refine region_ord (fun w' => w'.cell? ⟨q, 1, none⟩ = some (.int .i64 t.2.2) ∧ w'.cell? ⟨q, 0, none⟩ = some (.string (bstr t.2.1))) [(0, true), (2, true), (3, true), (4, true), (5, true), (1, false), (6, true), (7, true), (8, true), (10, true), (11, true), (12, true), (13, true), (14, true), (9, false), (15, true), (16, true), (17, true), (18, true), (20, true), (19, false), (21, false), (22, true), (23, true)] (by kernel_rfl) (by kernel_rfl) (And.intro hm1 hm0) (fun _ => ?_)
            iterate 5 (apply ord_take; (simp only [List.getElem?_toArray, List.getElem?_cons_succ, List.getElem?_cons_zero]; rfl); rfl; (intro w hSw; (try dsimp only at hSw); go_simp; try with_reducible rfl); intro _; try simp only [Act.put, List.setIfInBounds_toArray, List.set_cons_zero, List.set_cons_succ])
            (apply ord_only; (simp only [List.getElem?_toArray, List.getElem?_cons_succ, List.getElem?_cons_zero]; rfl); rfl; intro K hK)
            go_simp
            refine (eyeErr _ p dd _ _ (by exact hE6)).mono ?_
            rintro e w7 ⟨rfl, rfl⟩
            refine hK.out _ _ (And.intro hm1 hm0) (fun _ => ?_)
            clear hK K
            try simp only [Act.put, List.setIfInBounds_toArray, List.set_cons_zero, List.set_cons_succ]
            iterate 8 (apply ord_take; (simp only [List.getElem?_toArray, List.getElem?_cons_succ, List.getElem?_cons_zero]; rfl); rfl; (intro w hSw; (try dsimp only at hSw); go_simp; try with_reducible rfl); intro _; try simp only [Act.put, List.setIfInBounds_toArray, List.set_cons_zero, List.set_cons_succ])
            (apply ord_only; (simp only [List.getElem?_toArray, List.getElem?_cons_succ, List.getElem?_cons_zero]; rfl); rfl; intro K hK)
            go_simp
            refine (eyeLeft _ p dd _ _ (by exact hE6)).mono ?_
            rintro e w7 ⟨rfl, rfl⟩
            refine hK.out _ _ (And.intro hm1 hm0) (fun _ => ?_)
            clear hK K
            try simp only [Act.put, List.setIfInBounds_toArray, List.set_cons_zero, List.set_cons_succ]
            iterate 5 (apply ord_take; (simp only [List.getElem?_toArray, List.getElem?_cons_succ, List.getElem?_cons_zero]; rfl); rfl; (intro w hSw; (try dsimp only at hSw); go_simp; try with_reducible rfl); intro _; try simp only [Act.put, List.setIfInBounds_toArray, List.set_cons_zero, List.set_cons_succ])
            (apply ord_only; (simp only [List.getElem?_toArray, List.getElem?_cons_succ, List.getElem?_cons_zero]; rfl); rfl; intro K hK)
            go_simp
            refine (eyeEnd _ p dd _ _ (by exact hE6)).mono ?_
            rintro e w7 ⟨rfl, rfl⟩
            refine hK.out _ _ (And.intro hm1 hm0) (fun _ => ?_)
            clear hK K
            try simp only [Act.put, List.setIfInBounds_toArray, List.set_cons_zero, List.set_cons_succ]
            (apply ord_only; (simp only [List.getElem?_toArray, List.getElem?_cons_succ, List.getElem?_cons_zero]; rfl); rfl; intro K hK)
            go_simp
            refine (reyeEnd _ q _ _ (by exact hM6) (by omega)).mono ?_
            rintro e w7 ⟨rfl, rfl⟩
            refine hK.out _ _ (And.intro hm1 hm0) (fun _ => ?_)
            clear hK K
            try simp only [Act.put, List.setIfInBounds_toArray, List.set_cons_zero, List.set_cons_succ]
            iterate 2 (apply ord_take; (simp only [List.getElem?_toArray, List.getElem?_cons_succ, List.getElem?_cons_zero]; rfl); rfl; (intro w hSw; (try dsimp only at hSw); go_simp; try with_reducible rfl); intro _; try simp only [Act.put, List.setIfInBounds_toArray, List.set_cons_zero, List.set_cons_succ])
            apply ord_done
            go_wp2
            go_roundw
            case rel => exact ⟨k + 1, _, _, by omega, by go_num, hE6, hM6, hN6.drew, by omega⟩
            case measure => simp [intOf]; omega
          · have HN := Lib.hid (fun (W : World) (hW : REye W q r err) => reyeText W q r err d.n 2 hW (by omega) (by omega))
            have HE := Lib.hid (eyeLong wr p dd r err d.n hE (by omega))
            unfold RTextTo at HN
            have hrl4 := eText_rest 2 d.n r err
            generalize eText 2 d.n r err = t at HN hrl4 HE
            have hc1 := HK.out _ hnw
            go_wp2_with fail
            refine HE.out.mono ?_
            rintro e w4 ⟨a4, n4, c4, rfl, hr4, _, hE4⟩
            clear hc1
            have hM4 := hM.only hE4.2 (by omega)
            have hn4 := New.eye hnw hE4 hpw
            have ks := run_str (P := Try.prog) Try.underlying28 Try.underlying5 Try.underlying9 hr4
            have hq1 : ((bstr t.1).toList != (bstr t.1).toList) = false := by simp
            go_wp2
            refine region_ord (fun w' => w'.cell? ⟨b, off + k * 3 + 1, none⟩ = some (.int .i64 d.n)) [(0, true), (1, true), (2, true), (3, true), (4, true), (5, true), (6, false), (7, false), (8, true), (9, true), (10, true), (11, true), (12, true), (13, true), (14, true), (15, true), (16, true), (17, true), (18, true), (19, true), (20, true), (21, false), (22, true), (23, true), (24, true), (25, true), (26, true), (27, true), (28, true), (29, true), (30, true), (31, true), (33, true), (34, true), (35, true), (36, true), (37, true), (32, false), (38, false), (39, true), (40, true), (41, true)] (by kernel_rfl) (by kernel_rfl) (HK.out _ hn4.drew) (fun _ => ?_)
            iterate 3 (apply ord_take; (simp only [List.getElem?_toArray, List.getElem?_cons_succ, List.getElem?_cons_zero]; rfl); rfl; (intro w hSw; (try dsimp only at hSw); go_simp; try with_reducible rfl); intro _; try simp only [Act.put, List.setIfInBounds_toArray, List.set_cons_zero, List.set_cons_succ])
            iterate 3 (apply ord_skip; (simp only [List.getElem?_toArray, List.getElem?_cons_succ, List.getElem?_cons_zero]; rfl); rfl; intro _; try simp only [Act.put, List.setIfInBounds_toArray, List.set_cons_zero, List.set_cons_succ])
            iterate 2 (apply ord_pass; (simp only [List.getElem?_toArray, List.getElem?_cons_succ, List.getElem?_cons_zero]; rfl); rfl; intro _; try simp only [Act.put, List.setIfInBounds_toArray, List.set_cons_zero, List.set_cons_succ])
            (apply ord_skip; (simp only [List.getElem?_toArray, List.getElem?_cons_succ, List.getElem?_cons_zero]; rfl); rfl; intro _; try simp only [Act.put, List.setIfInBounds_toArray, List.set_cons_zero, List.set_cons_succ])
            iterate 5 (apply ord_take; (simp only [List.getElem?_toArray, List.getElem?_cons_succ, List.getElem?_cons_zero]; rfl); rfl; (intro w hSw; (try dsimp only at hSw); go_simp; try with_reducible rfl); intro _; try simp only [Act.put, List.setIfInBounds_toArray, List.set_cons_zero, List.set_cons_succ])
            iterate 7 (apply ord_skip; (simp only [List.getElem?_toArray, List.getElem?_cons_succ, List.getElem?_cons_zero]; rfl); rfl; intro _; try simp only [Act.put, List.setIfInBounds_toArray, List.set_cons_zero, List.set_cons_succ])
            (apply ord_pass; (simp only [List.getElem?_toArray, List.getElem?_cons_succ, List.getElem?_cons_zero]; rfl); rfl; intro _; try simp only [Act.put, List.setIfInBounds_toArray, List.set_cons_zero, List.set_cons_succ])
            (apply ord_skip; (simp only [List.getElem?_toArray, List.getElem?_cons_succ, List.getElem?_cons_zero]; rfl); rfl; intro _; try simp only [Act.put, List.setIfInBounds_toArray, List.set_cons_zero, List.set_cons_succ])
            iterate 14 (apply ord_take; (simp only [List.getElem?_toArray, List.getElem?_cons_succ, List.getElem?_cons_zero]; rfl); rfl; (intro w hSw; (try dsimp only at hSw); go_simp; try with_reducible rfl); intro _; try simp only [Act.put, List.setIfInBounds_toArray, List.set_cons_zero, List.set_cons_succ])
            (apply ord_only; (simp only [List.getElem?_toArray, List.getElem?_cons_succ, List.getElem?_cons_zero]; rfl); rfl; intro K hK)
            go_simp
            refine (size01 _ 6 (by omega)).mono ?_
            rintro e w5 ⟨rfl, hn5⟩
            have hN5 := New.trans hn4.drew hn5
            have hM5 := REye.new (w := w4.drew) hM4 hn5
            have hE5 := Eye.new (w := w4.drew) hE4.1 hn5
            refine hK.out _ _ (HK.out _ hN5) (fun _ => ?_)
            clear hK K
            try simp only [Act.put, List.setIfInBounds_toArray, List.set_cons_zero, List.set_cons_succ]
            (apply ord_only; (simp only [List.getElem?_toArray, List.getElem?_cons_succ, List.getElem?_cons_zero]; rfl); rfl; intro K hK)
            go_simp
            refine (HN.out _ (by exact hM5)).mono ?_
            rintro e w6 ⟨rfl, hM6'⟩
            have hN6 := New.reye hN5 hM6' hqw
            have hE6 := Eye.only hE5 hM6'.2 (by omega) (by intro j hj; have := hdq; rintro rfl; exact this hj)
            have hM6 := hM6'.1
            refine hK.out _ _ (HK.out _ hN6) (fun _ => ?_)
            clear hK K
            try simp only [Act.put, List.setIfInBounds_toArray, List.set_cons_zero, List.set_cons_succ]
            iterate 3 (apply ord_take; (simp only [List.getElem?_toArray, List.getElem?_cons_succ, List.getElem?_cons_zero]; rfl); rfl; (intro w hSw; (try dsimp only at hSw); go_simp; try with_reducible rfl); intro _; try simp only [Act.put, List.setIfInBounds_toArray, List.set_cons_zero, List.set_cons_succ])
            apply ord_done
            obtain ⟨hm0, hm1, _, _⟩ := REye.cells hM6
            have hzt : (bstr t.2.1).size = t.2.1.length := bstr_size _
            have hzl : t.2.1.length ≤ 2000 := by omega
            go_wp2
            refine region_ord (fun w' => w'.cell? ⟨q, 1, none⟩ = some (.int .i64 t.2.2) ∧ w'.cell? ⟨q, 0, none⟩ = some (.string (bstr t.2.1))) [(0, true), (2, true), (3, true), (4, true), (5, true), (1, false), (6, true), (7, true), (8, true), (10, true), (11, true), (12, true), (13, true), (14, true), (9, false), (15, true), (16, true), (17, true), (18, true), (20, true), (19, false), (21, false), (22, true), (23, true)] (by kernel_rfl) (by kernel_rfl) (And.intro hm1 hm0) (fun _ => ?_)
            iterate 5 (apply ord_take; (simp only [List.getElem?_toArray, List.getElem?_cons_succ, List.getElem?_cons_zero]; rfl); rfl; (intro w hSw; (try dsimp only at hSw); go_simp; try with_reducible rfl); intro _; try simp only [Act.put, List.setIfInBounds_toArray, List.set_cons_zero, List.set_cons_succ])
            (apply ord_only; (simp only [List.getElem?_toArray, List.getElem?_cons_succ, List.getElem?_cons_zero]; rfl); rfl; intro K hK)
            go_simp
            refine (eyeErr _ p dd _ _ (by exact hE6)).mono ?_
            rintro e w7 ⟨rfl, rfl⟩
            refine hK.out _ _ (And.intro hm1 hm0) (fun _ => ?_)
            clear hK K
            try simp only [Act.put, List.setIfInBounds_toArray, List.set_cons_zero, List.set_cons_succ]
            iterate 8 (apply ord_take; (simp only [List.getElem?_toArray, List.getElem?_cons_succ, List.getElem?_cons_zero]; rfl); rfl; (intro w hSw; (try dsimp only at hSw); go_simp; try with_reducible rfl); intro _; try simp only [Act.put, List.setIfInBounds_toArray, List.set_cons_zero, List.set_cons_succ])
            (apply ord_only; (simp only [List.getElem?_toArray, List.getElem?_cons_succ, List.getElem?_cons_zero]; rfl); rfl; intro K hK)
            go_simp
            refine (eyeLeft _ p dd _ _ (by exact hE6)).mono ?_
            rintro e w7 ⟨rfl, rfl⟩
            refine hK.out _ _ (And.intro hm1 hm0) (fun _ => ?_)
            clear hK K
            try simp only [Act.put, List.setIfInBounds_toArray, List.set_cons_zero, List.set_cons_succ]
            iterate 5 (apply ord_take; (simp only [List.getElem?_toArray, List.getElem?_cons_succ, List.getElem?_cons_zero]; rfl); rfl; (intro w hSw; (try dsimp only at hSw); go_simp; try with_reducible rfl); intro _; try simp only [Act.put, List.setIfInBounds_toArray, List.set_cons_zero, List.set_cons_succ])
            (apply ord_only; (simp only [List.getElem?_toArray, List.getElem?_cons_succ, List.getElem?_cons_zero]; rfl); rfl; intro K hK)
            go_simp
            refine (eyeEnd _ p dd _ _ (by exact hE6)).mono ?_
            rintro e w7 ⟨rfl, rfl⟩
            refine hK.out _ _ (And.intro hm1 hm0) (fun _ => ?_)
            clear hK K
            try simp only [Act.put, List.setIfInBounds_toArray, List.set_cons_zero, List.set_cons_succ]
            (apply ord_only; (simp only [List.getElem?_toArray, List.getElem?_cons_succ, List.getElem?_cons_zero]; rfl); rfl; intro K hK)
            go_simp
            refine (reyeEnd _ q _ _ (by exact hM6) (by omega)).mono ?_
            rintro e w7 ⟨rfl, rfl⟩
            refine hK.out _ _ (And.intro hm1 hm0) (fun _ => ?_)
            clear hK K
            try simp only [Act.put, List.setIfInBounds_toArray, List.set_cons_zero, List.set_cons_succ]
            iterate 2 (apply ord_take; (simp only [List.getElem?_toArray, List.getElem?_cons_succ, List.getElem?_cons_zero]; rfl); rfl; (intro w hSw; (try dsimp only at hSw); go_simp; try with_reducible rfl); intro _; try simp only [Act.put, List.setIfInBounds_toArray, List.set_cons_zero, List.set_cons_succ])
            apply ord_done
            go_wp2
            go_roundw
            case rel => exact ⟨k + 1, _, _, by omega, by go_num, hE6, hM6, hN6.drew, by omega⟩
            case measure => simp [intOf]; omega
        · obtain rfl : k = l.length := by omega
          go_wp2_with fail
          refine (eyeFail wr p dd r err fail hE).mono ?_
          rintro e w4 ⟨rfl, hE4⟩
          have hM4 := hM.only hE4.2 (by omega)
          have hn4 := New.eye hnw hE4 hpw
          obtain ⟨hm0, hm1, hf0, hf1⟩ := REye.cells hM4
          have hKs := Lib.hid (fun (W : World) (hW : New w W) => run_str (P := Try.prog) Try.underlying28 Try.underlying5 Try.underlying9 (HX.out.new hW))
          have hq2 : ((bstr bl).toList == (bstr bl).toList) = true := by simp
          by_cases h0 : err = 0
          · have hq3 : (err == 0) = true := by simpa using h0
            have he4 : EyeTo wr p dd r fail w4 := by rw [h0] at hE4; simpa [eFail] using hE4
            have hw5 := reyeSetErr (x := fail) hM4
            have hn5 : New w (w4.setCell ⟨q, 1, none⟩ (.int .i64 fail)) := New.reye hn4 hw5 hqw
            have hE5 := Eye.only he4.1 hw5.2 (by omega) (by intro j hj; have := hdq; rintro rfl; exact this hj)
            obtain ⟨_, hm51, _, _⟩ := REye.cells hw5.1
            have hq4 : (fail == fail) = true := by simp
            clear h0
            go_wp2
            refine region_ord (fun w' => w'.cell? ⟨q, 1, none⟩ = some (.int .i64 fail) ∧ (convert 28 9 (.slice ax nx cx)).run Try.prog w' = .ok (.string (bstr bl)) w') [(0, true), (2, true), (3, true), (4, true), (5, true), (1, false), (6, true), (7, true), (8, true), (9, true), (10, true), (11, true), (12, true), (13, true)] (by kernel_rfl) (by kernel_rfl) (And.intro hm51 (hKs.out _ hn5.drew)) (fun _ => ?_)
            iterate 5 (apply ord_take; (simp only [List.getElem?_toArray, List.getElem?_cons_succ, List.getElem?_cons_zero]; rfl); rfl; (intro w hSw; (try dsimp only at hSw); go_simp; try with_reducible rfl); intro _; try simp only [Act.put, List.setIfInBounds_toArray, List.set_cons_zero, List.set_cons_succ])
            (apply ord_only; (simp only [List.getElem?_toArray, List.getElem?_cons_succ, List.getElem?_cons_zero]; rfl); rfl; intro K hK)
            go_simp
            refine (eyeErr _ p dd _ _ (by exact hE5)).mono ?_
            rintro e w7 ⟨rfl, rfl⟩
            refine hK.out _ _ (And.intro hm51 (hKs.out _ hn5.drew)) (fun _ => ?_)
            clear hK K
            try simp only [Act.put, List.setIfInBounds_toArray, List.set_cons_zero, List.set_cons_succ]
            iterate 8 (apply ord_take; (simp only [List.getElem?_toArray, List.getElem?_cons_succ, List.getElem?_cons_zero]; rfl); rfl; (intro w hSw; (try dsimp only at hSw); go_simp; try with_reducible rfl); intro _; try simp only [Act.put, List.setIfInBounds_toArray, List.set_cons_zero, List.set_cons_succ])
            apply ord_done
            go_wp2
            go_ret
            exact ⟨rfl, hn5.drew⟩
          · have hq3 : (err == 0) = false := by simpa using h0
            have he4 : EyeTo wr p dd r err w4 := by simpa [eFail, h0] using hE4
            have hq4 : (err == err) = true := by simp
            clear h0
            go_wp2
            refine region_ord (fun w' => w'.cell? ⟨q, 1, none⟩ = some (.int .i64 err) ∧ (convert 28 9 (.slice ax nx cx)).run Try.prog w' = .ok (.string (bstr bl)) w') [(0, true), (2, true), (3, true), (4, true), (5, true), (1, false), (6, true), (7, true), (8, true), (9, true), (10, true), (11, true), (12, true), (13, true)] (by kernel_rfl) (by kernel_rfl) (And.intro hm1 (hKs.out _ hn4.drew)) (fun _ => ?_)
            iterate 5 (apply ord_take; (simp only [List.getElem?_toArray, List.getElem?_cons_succ, List.getElem?_cons_zero]; rfl); rfl; (intro w hSw; (try dsimp only at hSw); go_simp; try with_reducible rfl); intro _; try simp only [Act.put, List.setIfInBounds_toArray, List.set_cons_zero, List.set_cons_succ])
            (apply ord_only; (simp only [List.getElem?_toArray, List.getElem?_cons_succ, List.getElem?_cons_zero]; rfl); rfl; intro K hK)
            go_simp
            refine (eyeErr _ p dd _ _ (by exact he4.1)).mono ?_
            rintro e w7 ⟨rfl, rfl⟩
            refine hK.out _ _ (And.intro hm1 (hKs.out _ hn4.drew)) (fun _ => ?_)
            clear hK K
            try simp only [Act.put, List.setIfInBounds_toArray, List.set_cons_zero, List.set_cons_succ]
            iterate 8 (apply ord_take; (simp only [List.getElem?_toArray, List.getElem?_cons_succ, List.getElem?_cons_zero]; rfl); rfl; (intro w hSw; (try dsimp only at hSw); go_simp; try with_reducible rfl); intro _; try simp only [Act.put, List.setIfInBounds_toArray, List.set_cons_zero, List.set_cons_succ])
            apply ord_done
            go_wp2
            go_ret
            exact ⟨rfl, hn4.drew⟩
    · go_enter Try.func4, Try.ntmps4
      go_wp2_with fail
      refine (awake01 w).mono ?_
      rintro e w1 ⟨rfl, hn1⟩
      go_wp2_with fail
      refine (small01 w1 _ l 30 (h.new hn1) (by omega)).mono ?_
      rw [HS.out]
      rintro e w2 ⟨rfl, rfl⟩
      go_wp2_with fail
      refine (awake01 w1).mono ?_
      rintro e w2 ⟨rfl, hn2⟩
      go_wp2
      go_ret
      exact ⟨rfl, New.trans hn1 hn2⟩
  · have HS := Lib.hid (Bool.eq_false_iff.2 hs)
    clear hs
    go_enter Try.func4, Try.ntmps4
    go_wp2_with fail
    refine (awake01 w).mono ?_
    rintro e w1 ⟨rfl, hn1⟩
    go_wp2_with fail
    refine (small01 w1 _ l 30 (h.new hn1) (by omega)).mono ?_
    rw [HS.out]
    rintro e w2 ⟨rfl, rfl⟩
    go_wp2_with fail
    refine (awake01 w1).mono ?_
    rintro e w2 ⟨rfl, hn2⟩
    go_wp2
    go_ret
    exact ⟨rfl, New.trans hn1 hn2⟩

theorem eyesLaw (w : World) (x : Value) (bl : List UInt8) (hx : Rd w x bl) (v : Value) (l : List PartD) (h : RdParts w v l) (fail : Int) (hf : (Lit.int .i64 fail).wf = true) :
    Calls Try.prog 4 #[x, v, .int .i64 fail] w fun e w' => e = .returned (.bool true) ∧ New w w' := eyesWalk w x bl hx v l h fail

end Go.Proofs.Ytfnnicdlncgfkaa
