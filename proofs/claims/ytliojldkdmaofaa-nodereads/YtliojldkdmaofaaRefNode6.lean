/-
  Layer 19: the reference's Read, of a branch; and all.
-/
import Derived.Test.YtliojldkdmaofaaRefNode5
namespace Go.Proofs.Ytliojldkdmaofaa
set_option linter.unusedVariables false
set_option linter.unusedSimpArgs false
set_option maxRecDepth 100000
open Go.RowKit

set_option maxHeartbeats 2000000 in
theorem refRead19C (w : World) (q : Nat) (s : RS) (h2' : (rNum 1 s).1 = 2) (hE : REye w q s.1 s.2) (hl : s.1.length ≤ 140737488355328) :
    Calls Try.prog 16 #[.pointer (some ⟨q, 0, none⟩)] w (ReadTo19 w q s) := by
  have hql : q < w.heap.size := lt_of_block hE
  have HL := Lib.hid hl
  have HE := Lib.hid hE
  obtain ⟨kk, s1, hk1⟩ : ∃ kk s1, rNum 1 s = (kk, s1) := ⟨_, _, rfl⟩
  have hkl : kk < 256 := by have := rNum_lt1 s; rw [hk1] at this; exact this
  have hl1 : s1.1.length ≤ s.1.length := by have := rNum_len 1 s; rw [hk1] at this; exact this
  have hkw : IntKind.i64.wrap (kk : Int) = (kk : Int) := IntWalk.i64_in _ (by omega)
  have HK1 := Lib.hid hk1
  clear hE
  go_enter Try.func16, Try.ntmps16
  go_upto_region 1 with fail
  generalize hw1 : World.alloc w _ = w1
  have hz1 : w1.heap.size = w.heap.size + 1 := by rw [← hw1]; simp
  have HA1 : Hid (At5 w1 w.heap.size 26 (.int .i64 0) (.slice none 0 0) (.int .u64 0) (.slice none 0 0) (.slice none 0 0)) := Lib.hid (by rw [← hw1]; exact heap_alloc_new _ _)
  have HN1 : Hid (New w w1) := Lib.hid (by rw [← hw1]; exact (Below.refl _ _).alloc (Nat.le_refl _) _)
  clear hw1
  have HC := Lib.hid (reyeNumber w1 q s.1 s.2 1 (HE.out.new HN1.out) (by omega) HL.out)
  go_wp2_with fail
  refine HC.out.mono ?_
  rintro _ w2 ⟨rfl, E2⟩
  rw [show eNum 1 s.1 s.2 = kk by rw [show kk = (rNum 1 s).1 by rw [hk1]]; rfl]
  have E2' : REyeTo w1 q s1.1 s1.2 w2 := by
    have : s1 = (eTake 1 s.1 s.2).2 := by rw [show s1 = (rNum 1 s).2 by rw [hk1]]; rfl
    rw [this]; exact E2
  have HE2 := Lib.hid E2'
  clear E2 E2' HC hk1
  go_upto_region 2 with (first | refine wpList_store_row rfl 26 _ _ rfl w2.heap.size #[.int .i64 (kk : Int), .slice none 0 0, .int .u64 0, .slice none 0 0, .slice none 0 0] rfl rfl _ _ (heap_alloc_new _ _) infoNode19 rfl rfl ?_ | fail)
  generalize hw3 : World.alloc w2 _ = w3
  have hz2 := HE2.out.2.size
  have hN3 : New w2 w3 := by rw [← hw3]; exact (Below.refl _ _).alloc (Nat.le_refl _) _
  have hz3 : w3.heap.size = w2.heap.size + 1 := by rw [← hw3]; simp
  have hA3 : At5 w3 w2.heap.size 26 (.int .i64 (kk : Int)) (.slice none 0 0) (.int .u64 0) (.slice none 0 0) (.slice none 0 0) := by rw [← hw3]; exact heap_alloc_new _ _
  have HI0 : Hid (RSt19 w3 w3 w2.heap.size q s1 ⟨.slice none 0 0, .slice none 0 0, .slice none 0 0⟩ ⟨kk, [], 0, [], []⟩) := Lib.hid ⟨HE2.out.1.new hN3, Only.refl _ _, hA3, Rd.nil _, Rd.nil _, World.ownsRow_nil _ _ _ _, by simp [blk], by simp [blk], ⟨by omega, by omega, by omega⟩, by simp [blk]⟩
  have HB : Hid (RBase19 w w3 w.heap.size w2.heap.size q) := Lib.hid ⟨(HA1.out.only HE2.out.2 (by omega)).new hN3, ((New.only (F := fun k => k = q) HN1.out).trans HE2.out.2 (fun _ _ e => e)).trans (New.only (F := fun k => k = q) hN3) (fun _ _ e => e), by omega, by omega⟩
  obtain ⟨wr, hwr⟩ : ∃ wr, w3 = wr := ⟨_, rfl⟩
  have HI : Hid (RSt19 w3 wr w2.heap.size q s1 ⟨.slice none 0 0, .slice none 0 0, .slice none 0 0⟩ ⟨kk, [], 0, [], []⟩) := Lib.hid (by rw [← hwr]; exact HI0.out)
  clear HI0 hA3 hN3 HE2 hz1 hz2 hz3 hw3 HA1 HN1
  obtain ⟨g, hg⟩ : ∃ g, w2.heap.size = g := ⟨_, rfl⟩
  rw [hg] at HI HB
  rw [hg]
  clear hg
  obtain ⟨g0, hg⟩ : ∃ g, w.heap.size = g := ⟨_, rfl⟩
  rw [hg] at HB
  rw [hg]
  clear hg hql HE
  rw [hwr]
  clear hwr
  have HL1 : Hid (s1.1.length ≤ 140737488355328) := Lib.hid (by omega)
  clear hl hl1 HL
  have h2 : kk = 2 := by rw [HK1.out] at h2'; exact h2'
  clear h2'
  have h1 : ¬ kk = 1 := by omega
  subst h2
  clear h1 hkw hkl
  obtain ⟨s2, hs⟩ : ∃ x, s1 = x := ⟨_, rfl⟩
  rw [hs] at HI HK1 HL1
  clear hs
  have HL2 := HL1
  obtain ⟨ky, s3, hk3⟩ : ∃ x y, rNum 8 s2 = (x, y) := ⟨_, _, rfl⟩
  obtain ⟨pa, s4, hk4⟩ : ∃ x y, rText 32 s3 = (x, y) := ⟨_, _, rfl⟩
  have HKY : Hid (ky < 18446744073709551616) := Lib.hid (by have := rNum_lt8 s2; rw [hk3] at this; exact this)
  have HL3 : Hid (s3.1.length ≤ 140737488355328) := Lib.hid (by have := rNum_len 8 s2; rw [hk3] at this; have := HL2.out; dsimp only at *; omega)
  have HL4 : Hid (s4.1.length ≤ 140737488355328 ∧ pa.length ≤ 140737488355328) := Lib.hid (by have := rText_len 32 s3; rw [hk4] at this; have := HL3.out; dsimp only at *; omega)
  have HK3 := Lib.hid hk3
  have HK4 := Lib.hid hk4
  obtain ⟨x0, -⟩ := HI.out.at_.cells
  go_wp2_with fail
  refine (reyeNumber wr q s2.1 s2.2 8 HI.out.eye (by omega) (by have := HL2.out; omega)).mono ?_
  rintro _ wn ⟨rfl, E⟩
  rw [show eNum 8 s2.1 s2.2 = ky by rw [show ky = (rNum 8 s2).1 by rw [hk3]]; rfl]
  have E' : REyeTo wr q s3.1 s3.2 wn := by
    rw [show s3 = (rNum 8 s2).2 by rw [hk3]]
    exact E
  replace HI := Lib.hid (HI.out.step E')
  clear E E' x0 hk3
  obtain ⟨x0, x1, x2, -⟩ := HI.out.at_.cells
  obtain ⟨y0, y1, y2, -⟩ := HI.out.at_.frozen
  go_upto_region 6 with fail
  replace HI := Lib.hid (HI.out.setKey ky)
  clear x0 x1 x2 y0 y1 y2
  generalize wn.setCell ⟨g, 2, none⟩ (.int .u64 (ky : Int)) = wr at *
  go_wp2_with fail
  refine (reyeText wr q s3.1 s3.2 32 1 HI.out.eye (by omega) HL3.out).mono ?_
  rintro _ wn ⟨rfl, E⟩
  rw [show eText 1 32 s3.1 s3.2 = (pa, s4) from hk4] at E ⊢
  obtain ⟨a2, n2, c2, wb, hcv, r, hn, o⟩ := str_bytes19 wn pa HL4.out.2
  have ho : ∀ k, blk (.slice a2 n2 c2) = some k → w3.heap.size ≤ k := fun k hk => by have := o k hk; have := HI.out.only.size; have := E.2.size; omega
  replace HI := Lib.hid ((HI.out.step E).new hn)
  have HR := Lib.hid r
  clear E r o hn hk4
  obtain ⟨x0, x1, x2, x3, -⟩ := HI.out.at_.cells
  obtain ⟨y0, y1, y2, y3, -⟩ := HI.out.at_.frozen
  go_upto_region 7 with fail
  replace HI := Lib.hid (HI.out.setParent rfl HR.out ho)
  clear x0 x1 x2 x3 y0 y1 y2 y3 HR ho hcv
  generalize wb.setCell ⟨g, 3, none⟩ (.slice a2 n2 c2) = wr at *
  obtain ⟨n, s5, hk5⟩ : ∃ x y, rNum 1 s4 = (x, y) := ⟨_, _, rfl⟩
  have HN5 : Hid (n < 256) := Lib.hid (by have := rNum_lt1 s4; rw [hk5] at this; exact this)
  have HL5 : Hid (s5.1.length ≤ 140737488355328) := Lib.hid (by have := rNum_len 1 s4; rw [hk5] at this; have := HL4.out; dsimp only at *; omega)
  have HK5 := Lib.hid hk5
  have hnw : IntKind.i64.wrap (n : Int) = (n : Int) := IntWalk.i64_in _ (by have := HN5.out; omega)
  obtain ⟨x0, -⟩ := HI.out.at_.cells
  go_wp2_with fail
  refine (reyeNumber wr q s4.1 s4.2 1 HI.out.eye (by omega) HL4.out.1).mono ?_
  rintro _ wn ⟨rfl, E⟩
  rw [show eNum 1 s4.1 s4.2 = n by rw [show n = (rNum 1 s4).1 by rw [hk5]]; rfl]
  have E' : REyeTo wr q s5.1 s5.2 wn := by
    rw [show s5 = (rNum 1 s4).2 by rw [hk5]]
    exact E
  replace HI := Lib.hid (HI.out.step E')
  have hN := Lib.hid (rNode_branch HK1.out HK3.out HK4.out HK5.out)
  clear E E' x0 hk5
  go_upto_region 10 with fail
  clear hnw
  go_loopw [5] (fun x wr => ∃ (i : Nat) (V : NodeV), x = .int .i64 i ∧ i ≤ n ∧ RSt19 w3 wr g q (rUnm i s5).2 V ⟨2, [], ky, pa, (rUnm i s5).1⟩) (fun x _ => n - (intOf x).toNat)
  case atStart => exact ⟨0, _, rfl, Nat.zero_le _, HI.out⟩
  case round =>
    clear HI
    obtain ⟨i, V, rfl, hi, hin⟩ := hrel
    have HI := Lib.hid hin
    clear hin
    by_cases hlt : i < n
    · obtain ⟨b1, m1, d1, b2, m2, d2, b3, m3, d3, rfl⟩ := HI.out.forms
      obtain ⟨x, s6, hx⟩ : ∃ a b, rNum 1 (rUnm i s5).2 = (a, b) := ⟨_, _, rfl⟩
      have hxl : x < 256 := by have := rNum_lt1 (rUnm i s5).2; rw [hx] at this; exact this
      have hxw : IntKind.i64.wrap (x : Int) = (x : Int) := IntWalk.i64_in _ (by omega)
      have HU : Hid (rUnm (i + 1) s5 = ((rUnm i s5).1 ++ [(x : Int)], s6)) := Lib.hid (by simp only [rUnm, hx])
      have HLs : Hid ((rUnm i s5).2.1.length ≤ 140737488355328) := Lib.hid (Nat.le_trans (rUnm_len i s5).1 HL5.out)
      have HUL : Hid ((rUnm i s5).1.length = i ∧ i < 256) := Lib.hid ⟨(rUnm_len i s5).2, by have := HN5.out; omega⟩
      generalize (rUnm i s5).1 = ul at *
      generalize (rUnm i s5).2 = us at *
      go_upto_region 12 with fail
      have HI2 := Lib.hid (HI.out.new (Below.refl _ _).drew)
      clear HI
      refine region_ordT (fun _ => True) (.take 0 (.take 2 (.two 1 3 (.only 3 (.take 4 (.only 5 (.only 6 (.take 7 (.only 8 .nil)))))) (.take 4 (.two 1 5 (.only 5 (.only 6 (.take 7 (.only 8 .nil)))) (.only 1 (.only 6 (.take 7 (.only 8 .nil))))))))) (by kernel_rfl) (by kernel_rfl) trivial (fun _ => ?_)
      generalize wr.drew = wa at *
      iterate 2 (apply ordT_take; (simp only [List.getElem?_toArray, List.getElem?_cons_succ, List.getElem?_cons_zero]; rfl); rfl; (intro w hSw; (try dsimp only at hSw); go_simp; try with_reducible rfl); intro _; try simp only [Act.put, List.setIfInBounds_toArray, List.set_cons_zero, List.set_cons_succ])
      (apply ordT_two; (simp only [List.getElem?_toArray, List.getElem?_cons_succ, List.getElem?_cons_zero]; rfl); rfl; (simp only [List.getElem?_toArray, List.getElem?_cons_succ, List.getElem?_cons_zero]; rfl); rfl)
      · intro K hK
        obtain ⟨-, -, -, -, x4⟩ := HI2.out.at_.cells
        go_simp
        clear x4
        refine hK.out _ _ (trivial) (fun _ => ?_)
        clear hK K
        try simp only [Act.put, List.setIfInBounds_toArray, List.set_cons_zero, List.set_cons_succ]
        (apply ordT_only; (simp only [List.getElem?_toArray, List.getElem?_cons_succ, List.getElem?_cons_zero]; rfl); rfl; intro K hK)
        go_simp
        refine (reyeNumber wa q us.1 us.2 1 HI2.out.eye (by omega) HLs.out).mono ?_
        rintro _ wn ⟨rfl, E⟩
        rw [show eNum 1 us.1 us.2 = x by rw [show x = (rNum 1 us).1 by rw [hx]]; rfl]
        have E' : REyeTo wa q s6.1 s6.2 wn := by
          rw [show s6 = (rNum 1 us).2 by rw [hx]]
          exact E
        have HI3 := Lib.hid (HI2.out.step E')
        clear E E'
        refine hK.out _ _ (trivial) (fun _ => ?_)
        clear hK K
        try simp only [Act.put, List.setIfInBounds_toArray, List.set_cons_zero, List.set_cons_succ]
        iterate 1 (apply ordT_take; (simp only [List.getElem?_toArray, List.getElem?_cons_succ, List.getElem?_cons_zero]; rfl); rfl; (intro w hSw; (try dsimp only at hSw); go_simp; try with_reducible rfl); intro _; try simp only [Act.put, List.setIfInBounds_toArray, List.set_cons_zero, List.set_cons_succ])
        obtain ⟨i0, hi0, hz0, hz1, hz2⟩ := info_parts infoInt19
        obtain ⟨v', wz, happ, hown', hO', hb', hlt'⟩ := run_append_u (P := Try.prog) w3.heap.size wn 24 24 3 i0 _ 8 Try.underlying24 hi0 hz0 hz1 hz2 rfl _ ul.length (ul.map (Value.int .i64)) HI3.out.own (.int .i64 (x : Int)) rfl (by have := HUL.out; omega) (by have := HUL.out; omega) HI3.out.only.size
        obtain ⟨a', cap', rfl, -, -⟩ := ownSl_form hown'
        have HAPP := Lib.hid happ
        have HPU := Lib.hid (HI3.out.push (x := (x : Int)) hown' hO' hb')
        have HAa : Hid (At5 wz g 26 (.int .i64 2) (.slice b1 m1 d1) (.int .u64 (ky : Int)) (.slice b2 m2 d2) (.slice b3 m3 d3)) := Lib.hid (HI3.out.at_.only hO' (fun e => by have := own_from HI3.out.own g e; have := HI3.out.gq; omega))
        clear happ hown' hO' hb' hlt' hi0 hz0 hz1 hz2
        (apply ordT_only; (simp only [List.getElem?_toArray, List.getElem?_cons_succ, List.getElem?_cons_zero]; rfl); rfl; intro K hK)
        go_simp
        refine hK.out _ _ (trivial) (fun _ => ?_)
        clear hK K
        try simp only [Act.put, List.setIfInBounds_toArray, List.set_cons_zero, List.set_cons_succ]
        (apply ordT_only; (simp only [List.getElem?_toArray, List.getElem?_cons_succ, List.getElem?_cons_zero]; rfl); rfl; intro K hK)
        refine oper_append _ _ 24 rfl _ _ rfl rfl HAPP.out ?_
        refine hK.out _ _ (trivial) (fun _ => ?_)
        clear hK K
        try simp only [Act.put, List.setIfInBounds_toArray, List.set_cons_zero, List.set_cons_succ]
        iterate 1 (apply ordT_take; (simp only [List.getElem?_toArray, List.getElem?_cons_succ, List.getElem?_cons_zero]; rfl); rfl; (intro w hSw; (try dsimp only at hSw); go_simp; try with_reducible rfl); intro _; try simp only [Act.put, List.setIfInBounds_toArray, List.set_cons_zero, List.set_cons_succ])
        (apply ordT_only; (simp only [List.getElem?_toArray, List.getElem?_cons_succ, List.getElem?_cons_zero]; rfl); rfl; intro K hK)
        obtain ⟨f0, f1, f2, f3, f4⟩ := HAa.out.frozen
        obtain ⟨y0, y1, y2, y3, y4⟩ := HAa.out.cells
        go_simp
        refine hK.out _ _ (trivial) (fun _ => ?_)
        clear hK K
        try simp only [Act.put, List.setIfInBounds_toArray, List.set_cons_zero, List.set_cons_succ]
        apply ordT_done
        have hn5 := HN5.out
        go_wp2
        exact ⟨⟨i + 1, _, by go_num, by omega, by rw [HU.out]; exact HPU.out⟩, by simp [intOf]; omega⟩
      · intro K hK
        go_simp
        refine (reyeNumber wa q us.1 us.2 1 HI2.out.eye (by omega) HLs.out).mono ?_
        rintro _ wn ⟨rfl, E⟩
        rw [show eNum 1 us.1 us.2 = x by rw [show x = (rNum 1 us).1 by rw [hx]]; rfl]
        have E' : REyeTo wa q s6.1 s6.2 wn := by
          rw [show s6 = (rNum 1 us).2 by rw [hx]]
          exact E
        have HI3 := Lib.hid (HI2.out.step E')
        clear E E'
        refine hK.out _ _ (trivial) (fun _ => ?_)
        clear hK K
        try simp only [Act.put, List.setIfInBounds_toArray, List.set_cons_zero, List.set_cons_succ]
        iterate 1 (apply ordT_take; (simp only [List.getElem?_toArray, List.getElem?_cons_succ, List.getElem?_cons_zero]; rfl); rfl; (intro w hSw; (try dsimp only at hSw); go_simp; try with_reducible rfl); intro _; try simp only [Act.put, List.setIfInBounds_toArray, List.set_cons_zero, List.set_cons_succ])
        obtain ⟨i0, hi0, hz0, hz1, hz2⟩ := info_parts infoInt19
        obtain ⟨v', wz, happ, hown', hO', hb', hlt'⟩ := run_append_u (P := Try.prog) w3.heap.size wn 24 24 3 i0 _ 8 Try.underlying24 hi0 hz0 hz1 hz2 rfl _ ul.length (ul.map (Value.int .i64)) HI3.out.own (.int .i64 (x : Int)) rfl (by have := HUL.out; omega) (by have := HUL.out; omega) HI3.out.only.size
        obtain ⟨a', cap', rfl, -, -⟩ := ownSl_form hown'
        have HAPP := Lib.hid happ
        have HPU := Lib.hid (HI3.out.push (x := (x : Int)) hown' hO' hb')
        have HAa : Hid (At5 wz g 26 (.int .i64 2) (.slice b1 m1 d1) (.int .u64 (ky : Int)) (.slice b2 m2 d2) (.slice b3 m3 d3)) := Lib.hid (HI3.out.at_.only hO' (fun e => by have := own_from HI3.out.own g e; have := HI3.out.gq; omega))
        clear happ hown' hO' hb' hlt' hi0 hz0 hz1 hz2
        (apply ordT_two; (simp only [List.getElem?_toArray, List.getElem?_cons_succ, List.getElem?_cons_zero]; rfl); rfl; (simp only [List.getElem?_toArray, List.getElem?_cons_succ, List.getElem?_cons_zero]; rfl); rfl)
        · intro K hK
          obtain ⟨-, -, -, -, x4⟩ := HI3.out.at_.cells
          go_simp
          clear x4
          refine hK.out _ _ (trivial) (fun _ => ?_)
          clear hK K
          try simp only [Act.put, List.setIfInBounds_toArray, List.set_cons_zero, List.set_cons_succ]
          (apply ordT_only; (simp only [List.getElem?_toArray, List.getElem?_cons_succ, List.getElem?_cons_zero]; rfl); rfl; intro K hK)
          go_simp
          refine hK.out _ _ (trivial) (fun _ => ?_)
          clear hK K
          try simp only [Act.put, List.setIfInBounds_toArray, List.set_cons_zero, List.set_cons_succ]
          (apply ordT_only; (simp only [List.getElem?_toArray, List.getElem?_cons_succ, List.getElem?_cons_zero]; rfl); rfl; intro K hK)
          refine oper_append _ _ 24 rfl _ _ rfl rfl HAPP.out ?_
          refine hK.out _ _ (trivial) (fun _ => ?_)
          clear hK K
          try simp only [Act.put, List.setIfInBounds_toArray, List.set_cons_zero, List.set_cons_succ]
          iterate 1 (apply ordT_take; (simp only [List.getElem?_toArray, List.getElem?_cons_succ, List.getElem?_cons_zero]; rfl); rfl; (intro w hSw; (try dsimp only at hSw); go_simp; try with_reducible rfl); intro _; try simp only [Act.put, List.setIfInBounds_toArray, List.set_cons_zero, List.set_cons_succ])
          (apply ordT_only; (simp only [List.getElem?_toArray, List.getElem?_cons_succ, List.getElem?_cons_zero]; rfl); rfl; intro K hK)
          obtain ⟨f0, f1, f2, f3, f4⟩ := HAa.out.frozen
          obtain ⟨y0, y1, y2, y3, y4⟩ := HAa.out.cells
          go_simp
          refine hK.out _ _ (trivial) (fun _ => ?_)
          clear hK K
          try simp only [Act.put, List.setIfInBounds_toArray, List.set_cons_zero, List.set_cons_succ]
          apply ordT_done
          have hn5 := HN5.out
          go_wp2
          exact ⟨⟨i + 1, _, by go_num, by omega, by rw [HU.out]; exact HPU.out⟩, by simp [intOf]; omega⟩
        · intro K hK
          go_simp
          refine hK.out _ _ (trivial) (fun _ => ?_)
          clear hK K
          try simp only [Act.put, List.setIfInBounds_toArray, List.set_cons_zero, List.set_cons_succ]
          (apply ordT_only; (simp only [List.getElem?_toArray, List.getElem?_cons_succ, List.getElem?_cons_zero]; rfl); rfl; intro K hK)
          obtain ⟨-, -, -, -, x4⟩ := (HI3.out.new (w' := wn.alloc (.cells #[.int .i64 (x : Int)] 3)) ((Below.refl _ _).alloc (Nat.le_refl _) _)).at_.cells
          go_simp
          clear x4
          refine hK.out _ _ (trivial) (fun _ => ?_)
          clear hK K
          try simp only [Act.put, List.setIfInBounds_toArray, List.set_cons_zero, List.set_cons_succ]
          (apply ordT_only; (simp only [List.getElem?_toArray, List.getElem?_cons_succ, List.getElem?_cons_zero]; rfl); rfl; intro K hK)
          refine oper_append _ _ 24 rfl _ _ rfl rfl HAPP.out ?_
          refine hK.out _ _ (trivial) (fun _ => ?_)
          clear hK K
          try simp only [Act.put, List.setIfInBounds_toArray, List.set_cons_zero, List.set_cons_succ]
          iterate 1 (apply ordT_take; (simp only [List.getElem?_toArray, List.getElem?_cons_succ, List.getElem?_cons_zero]; rfl); rfl; (intro w hSw; (try dsimp only at hSw); go_simp; try with_reducible rfl); intro _; try simp only [Act.put, List.setIfInBounds_toArray, List.set_cons_zero, List.set_cons_succ])
          (apply ordT_only; (simp only [List.getElem?_toArray, List.getElem?_cons_succ, List.getElem?_cons_zero]; rfl); rfl; intro K hK)
          obtain ⟨f0, f1, f2, f3, f4⟩ := HAa.out.frozen
          obtain ⟨y0, y1, y2, y3, y4⟩ := HAa.out.cells
          go_simp
          refine hK.out _ _ (trivial) (fun _ => ?_)
          clear hK K
          try simp only [Act.put, List.setIfInBounds_toArray, List.set_cons_zero, List.set_cons_succ]
          apply ordT_done
          have hn5 := HN5.out
          go_wp2
          exact ⟨⟨i + 1, _, by go_num, by omega, by rw [HU.out]; exact HPU.out⟩, by simp [intOf]; omega⟩
    · obtain rfl : i = n := by omega
      go_upto_region 13 with fail
      obtain ⟨v, N, sE, HN, HKY, HI⟩ : ∃ (v : NodeV) (N : NodeL) (sE : RS), Hid (rNode s = (N, sE)) ∧ Hid (N.key < 18446744073709551616) ∧ Hid (RSt19 w3 wr g q sE v N) := ⟨_, _, _, hN, HKY, HI⟩
      clear hN HK1 HK3 HK4 HK5 HL1 HL2 HL3 HL4 HL5 HN5 hlt hi
      obtain ⟨a1, n1, c1, a2, n2, c2, a3, n3, c3, rfl⟩ := HI.out.forms
      obtain ⟨rk, rn, ry, rp, ru⟩ := N
      have HZ := Lib.hid (HB.out.at_ HI.out)
      have HP := Lib.hid (HB.out.all HI.out)
      have HAT : Hid (At5 wr g 26 (.int .i64 rk) (.slice a1 n1 c1) (.int .u64 (ry : Int)) (.slice a2 n2 c2) (.slice a3 n3 c3)) := Lib.hid HI.out.at_
      obtain ⟨sr, er⟩ := sE
      obtain ⟨x0, -⟩ := HAT.out.cells
      obtain ⟨c0, c1', c2', c3'⟩ := HI.out.eye.cells
      dsimp only at c0 c1'
      by_cases he : er = 0
      rotate_left
      · obtain ⟨f1, f2⟩ := rGot_err (s := s) (by rw [HN.out]; exact he)
        rw [HN.out] at f1
        obtain ⟨z0, z1, z2, z3, z4⟩ := HZ.out.cells
        obtain ⟨u0, u1, u2, u3, u4⟩ := HZ.out.frozen
        have de : (er == 0) = false := by simpa using he
        have dn : (er != 0) = true := by simpa using he
        have HF := Lib.hid (And.intro f1 f2)
        clear he f1 f2
        go_wp2_with fail
        refine bodyPost_ret (results_cell1 rfl _ _ g0 _ _ _ _ rfl (HZ.out.put _ _ _ _ _) Try.underlying26 rfl infoNode19) rfl ?_
        exact ⟨⟨.slice none 0 0, .slice none 0 0, .slice none 0 0⟩, by rw [HF.out.2]; rfl, by rw [HF.out.2]; exact ⟨Rd.nil _, Rd.nil _, RdV.nil _, by decide⟩, by rw [HF.out.1, HN.out]; exact (HP.out _ _ _ _ _).1⟩
      subst he
      have HRI := Lib.hid (refRight19 wr ⟨.slice a1 n1 c1, .slice a2 n2 c2, .slice a3 n3 c3⟩ ⟨rk, rn, ry, rp, ru⟩ ⟨HI.out.nm, HI.out.pa, RdV.of_own HI.out.own, HKY.out⟩)
      go_wp2_with (first | refine wpList_load_row19 rfl 26 _ rfl g rfl _ _ _ _ HAT.out Try.underlying26 rfl infoNode19 ?_ | fail)
      refine HRI.out.mono ?_
      rintro _ ws ⟨rfl, Ns⟩
      replace HI := Lib.hid (HI.out.new Ns)
      replace HZ := Lib.hid (HB.out.at_ HI.out)
      replace HP := Lib.hid (HB.out.all HI.out)
      replace HAT : Hid (At5 ws g 26 (.int .i64 rk) (.slice a1 n1 c1) (.int .u64 (ry : Int)) (.slice a2 n2 c2) (.slice a3 n3 c3)) := Lib.hid HI.out.at_
      clear Ns HRI c0 c1' c2' c3' x0
      obtain ⟨x0, x1, x2, x3, x4⟩ := HAT.out.cells
      obtain ⟨c0, c1', c2', c3'⟩ := HI.out.eye.cells
      dsimp only at c0 c1'
      obtain ⟨z0, z1, z2, z3, z4⟩ := HZ.out.cells
      obtain ⟨u0, u1, u2, u3, u4⟩ := HZ.out.frozen
      by_cases hok : nOk ⟨rk, rn, ry, rp, ru⟩
      · rw [decide_eq_true hok]
        obtain ⟨f1, f2⟩ := rGot_ok (s := s) (by rw [HN.out]) (by rw [HN.out]; exact hok)
        rw [HN.out] at f2
        have HF := Lib.hid (And.intro f1 f2)
        clear f1 f2 hok
        go_wp2_with (first | refine wpList_load_row19 rfl 26 _ rfl g rfl _ _ _ _ HAT.out Try.underlying26 rfl infoNode19 ?_ | fail)
        refine bodyPost_ret (results_cell1 rfl _ _ g0 _ _ _ _ rfl (HZ.out.put _ _ _ _ _) Try.underlying26 rfl infoNode19) rfl ?_
        have hp := HP.out (.int .i64 rk) (.slice a1 n1 c1) (.int .u64 (ry : Int)) (.slice a2 n2 c2) (.slice a3 n3 c3)
        exact ⟨⟨.slice a1 n1 c1, .slice a2 n2 c2, .slice a3 n3 c3⟩, by rw [HF.out.2]; rfl, by rw [HF.out.2]; exact ⟨hp.2.1, hp.2.2.1, hp.2.2.2, HKY.out⟩, by rw [HF.out.1, HN.out]; exact hp.1⟩
      · rw [decide_eq_false hok]
        obtain ⟨f1, f2⟩ := rGot_bad (s := s) (by rw [HN.out]) (by rw [HN.out]; exact hok)
        have HF := Lib.hid (And.intro f1 f2)
        have HE3 := Lib.hid (HI.out.step (s' := (sr, 12)) (reyeSetErr (x := 12) HI.out.eye))
        have HZ3 := Lib.hid (HB.out.at_ HE3.out)
        have HP3 := Lib.hid (HB.out.all HE3.out)
        clear f1 f2 hok
        go_upto_region 15 with fail
        clear z0 z1 z2 z3 z4 u0 u1 u2 u3 u4 x0 x1 x2 x3 x4 c0 c1' c2' c3'
        generalize ws.setCell ⟨q, 1, none⟩ (.int .i64 12) = wt at *
        obtain ⟨c0, c1', c2', c3'⟩ := HE3.out.eye.cells
        dsimp only at c0 c1'
        obtain ⟨z0, z1, z2, z3, z4⟩ := HZ3.out.cells
        obtain ⟨u0, u1, u2, u3, u4⟩ := HZ3.out.frozen
        go_wp2_with fail
        refine bodyPost_ret (results_cell1 rfl _ _ g0 _ _ _ _ rfl (HZ3.out.put _ _ _ _ _) Try.underlying26 rfl infoNode19) rfl ?_
        exact ⟨⟨.slice none 0 0, .slice none 0 0, .slice none 0 0⟩, by rw [HF.out.2]; rfl, by rw [HF.out.2]; exact ⟨Rd.nil _, Rd.nil _, RdV.nil _, by decide⟩, by rw [HF.out.1, HN.out]; exact (HP3.out _ _ _ _ _).1⟩
theorem refRead19 (w : World) (q : Nat) (s : RS) (hE : REye w q s.1 s.2) (hl : s.1.length ≤ 140737488355328) :
    Calls Try.prog 16 #[.pointer (some ⟨q, 0, none⟩)] w (ReadTo19 w q s) := by
  by_cases h1 : (rNum 1 s).1 = 1
  · exact refRead19A w q s h1 hE hl
  by_cases h2 : (rNum 1 s).1 = 2
  · exact refRead19C w q s h2 hE hl
  · exact refRead19B w q s h1 h2 hE hl

end Go.Proofs.Ytliojldkdmaofaa
