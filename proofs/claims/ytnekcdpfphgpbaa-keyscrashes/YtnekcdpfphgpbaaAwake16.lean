/-
  Layer 16's awake, over what it wants of the program.
-/
import Derived.Test.YtnekcdpfphgpbaaLaw16
import Derived.Test.YtnekcdpfphgpbaaBase
import Derived.Test.YtnekcdpfphgpbaaWays
namespace Go.Proofs.Ytnekcdpfphgpbaa
set_option linter.unusedVariables false
set_option linter.unusedSimpArgs false
set_option maxRecDepth 100000
open Go.RowKit

/-- the document's example: a table of two slots on a disk of four sectors -/
structure KaSt (KM : KObj) (W : World) (H : Nat → Prop) (g p : Nat) (L : List KSlot) (wr : World) : Prop where
  new : New W wr
  tab : ∃ D, KD KM (-1) wr H p g 0 L false 4 D D [] ∧ KOn 0 L D
  hH : ∀ k, H k → W.heap.size ≤ k
  ok : KOk L
  len : L.length = 2

section
variable {KM : KObj} {W wr wr' : World} {H : Nat → Prop} {g p : Nat} {L : List KSlot}

theorem KaSt.more (A : KeyApi KM) (h : KaSt KM W H g p L wr) (hn : New wr wr') : KaSt KM W H g p L wr' := by
  obtain ⟨D, h1, h2⟩ := h.tab
  exact ⟨New.trans h.new hn, ⟨D, h1.new A hn, h2⟩, h.hH, h.ok, h.len⟩

theorem KaSt.cut (A : KeyApi KM) (h : KaSt KM W H g p L wr) (hn : New wr wr') : KaSt KM W (fun k => H k ∧ k < wr.heap.size) g p L wr' := by
  obtain ⟨D, h1, h2⟩ := h.tab
  exact ⟨New.trans h.new hn, ⟨D, (h1.narrow A (fun k hk hh => ⟨hh, hk⟩)).new A hn, h2⟩, fun k hk => h.hH k hk.1, h.ok, h.len⟩

theorem KaSt.obj (h : KaSt KM W H g p L wr) : ∃ F, KM wr F p g 0 L false := by
  obtain ⟨D, ⟨F, G, h1, -⟩, -⟩ := h.tab
  exact ⟨F, h1⟩

theorem KaSt.start (A : KeyApi KM) {w2 w3 : World} {D' : List UInt8} (hn : New W w2) (ht : KDTo KM (-1) w2 (fun k => W.heap.size ≤ k) p g 0 (kOpenT (zeros (128 * 4)) 0 2) false 4 D' D' [] w3) (hon : KOn 0 (kOpenT (zeros (128 * 4)) 0 2) D') : KaSt KM W (fun k => W.heap.size ≤ k) g p [none, none] w3 := by
  have e : kOpenT (zeros (128 * 4)) 0 2 = [none, none] := by
    have := kOpenT_same (B := zeros (128 * 4)) (frm := 0) (KOk_empty 2) (fun i s hi => ((KOn_zeros 4 0 2 (by omega)) i s hi).1) 2 (by simp)
    rw [this]; rfl
  rw [e] at ht hon
  have hsz := hn.size
  exact ⟨Below.trans hn (ht.2.below hsz (fun k hk => hk)), ⟨D', ht.1.narrow A (fun k _ hh => by rcases hh with h | h <;> omega), hon⟩, fun k hk => hk, KOk_empty 2, rfl⟩

theorem kaPut {w2 : World} {g2 : Nat} (A : KeyApi KM) (h : KaSt KM W H g p [none, none] wr) (hn : New wr w2) (hrow : w2.heap[g2]? = some (.cells ((keyL16 1).map bv).toArray 5 (0, 0))) (hge : wr.heap.size ≤ g2) :
    Calls Try.prog 12 #[.pointer (some ⟨p, 0, none⟩), .int .i64 7, .slice (some ⟨g2, 0, none⟩) 32 32] w2 fun e w' => e = .returned .nilIface ∧ KaSt KM W (fun k => W.heap.size ≤ k) g p [some (7, keyL16 1), none] w' := by
  have hrd : Rd w2 (.slice (some ⟨g2, 0, none⟩) 32 32) (keyL16 1) := by
    have := rd_row10 hrow (by rw [keyL16_length]; omega)
    rwa [keyL16_length] at this
  obtain ⟨D, h1, h2⟩ := h.tab
  have h3 : KD KM (-1) w2 (fun k => H k ∧ k < wr.heap.size) p g 0 [none, none] false 4 D D [] := (h1.narrow A (fun k hk hh => ⟨hh, hk⟩)).new A hn
  have hsz := h.new.size
  have hsz2 := hn.size
  refine (A.put h3 h.ok h2 (by decide) (by decide) 7 _ (keyL16 1) (by omega) (keyL16_length _) hrd (fun j hj hh => ?_) rfl 0 (by decide) rfl).mono ?_
  · simp [blk] at hj; subst hj; omega
  · rintro e w' (⟨he, q', D', hq, ht, hon⟩ | ⟨hq, -⟩)
    · rw [hq rfl] at ht
      exact ⟨he, Below.trans (New.trans h.new hn) (ht.2.below (Nat.le_trans hsz hsz2) (fun k hk => h.hH k hk.1)), ⟨D', ht.1.narrow A (fun k _ hk => by rcases hk with h' | h'; exact h.hH k h'.1; omega), hon⟩, fun k hk => hk, h.ok.put (i := 0) (by omega) (keyL16_length _) rfl, rfl⟩
    · exact absurd rfl hq

theorem kaShred {k : List UInt8} (A : KeyApi KM) (h : KaSt KM W H g p [some (7, k), none] wr) :
    Calls Try.prog 11 #[.pointer (some ⟨p, 0, none⟩), .int .i64 7] wr fun e w' => e = .returned .nilIface ∧ KaSt KM W (fun k => W.heap.size ≤ k) g p [none, none] w' ∧ Only H wr w' := by
  obtain ⟨D, h1, h2⟩ := h.tab
  have hsz := h.new.size
  refine (A.shred h1 h.ok h2 (by simp) (by simp) 7 (by omega) 0 (by simp) rfl).mono ?_
  rintro e w' (⟨he, q', D', hq, ht, hon⟩ | ⟨hq, -⟩)
  · rw [hq rfl] at ht
    exact ⟨he, ⟨Below.trans h.new (ht.2.below hsz (fun k hk => h.hH k hk)), ⟨D', ht.1.narrow A (fun k _ hk => by rcases hk with h' | h'; exact h.hH k h'; omega), hon⟩, fun k hk => hk, h.ok.shred (i := 0), rfl⟩, ht.2⟩
  · exact absurd rfl hq

theorem kaGet {k : List UInt8} (A : KeyApi KM) (h : KaSt KM W H g p [some (7, k), none] wr) :
    Calls Try.prog 15 #[.pointer (some ⟨p, 0, none⟩), .int .i64 7] wr fun e w' => New wr w' ∧ ∃ a n c, e = .returned (.tuple #[.slice a n c, .bool true]) ∧ Rd w' (.slice a n c) k ∧ ∀ j, blk (.slice a n c) = some j → wr.heap.size ≤ j := by
  obtain ⟨F, h1⟩ := h.obj
  refine (A.get h1 h.ok (by simp) 7 (by omega)).mono ?_
  rintro e w' ⟨hn, v, he, ⟨a, n, c, rfl⟩, hr, hb⟩
  exact ⟨hn, a, n, c, he, hr k rfl, hb⟩

theorem kaImage (h : KaSt KM W H g p [none, none] wr) : Calls Try.prog 20 #[.pointer (some ⟨g, 0, none⟩)] wr (CopyTo wr (List.replicate 512 0)) := by
  obtain ⟨D, h1, h2⟩ := h.tab
  have hd := h1.dvc
  have e : D = List.replicate 512 0 := by
    refine eq_of_secs (n := 4) hd.lens.1 (by simp) (fun t ht => ?_)
    have hz : sec (List.replicate 512 (0 : UInt8)) t = keyZero := by
      unfold sec keyZero
      rw [List.drop_replicate, List.take_replicate, Nat.min_eq_left (by omega)]
    rw [hz]
    have h0 := h2 0 none rfl
    have h1 := h2 1 none rfl
    match t, ht with
    | 0, _ => exact h0.1
    | 1, _ => exact h0.2
    | 2, _ => exact h1.1
    | 3, _ => exact h1.2
  rw [← e]
  exact devImage hd
end

set_option maxHeartbeats 1000000 in
theorem awake16 {KM : KObj} (A : KeyApi KM) (w : World) : Calls Try.prog 5 #[] w fun e w' => e = .returned (.bool true) ∧ New w w' := by
  have he : ∀ (wx : World) (k : Nat), (binOp .eql 26 (.pointer (some ⟨k, 0, none⟩)) (.pointer none)).run Try.prog wx = .ok (.bool false) wx := fun _ _ => rfl
  have he2 : ∀ (wx : World) (k : Nat), (binOp .eql 30 (.pointer (some ⟨k, 0, none⟩)) (.pointer none)).run Try.prog wx = .ok (.bool false) wx := fun _ _ => rfl
  go_enter Try.func5, Try.ntmps5
  have HNw := Lib.hid (diskNew w 4 (by omega))
  go_wp2_with fail
  refine HNw.out.mono ?_
  rintro _ w1 ⟨g, rfl, hd, hn1⟩
  have HN1 := Lib.hid hn1
  have HOp := Lib.hid (A.open_ hd 0 2 (by omega) (by omega) (by omega))
  clear hd hn1 HNw
  go_wp2_with fail
  refine HOp.out.mono ?_
  rintro _ w2 ⟨p, D', rfl, ht, hon⟩
  have HS2 := Lib.hid (KaSt.start A HN1.out ht hon)
  clear ht hon HOp HN1
  have HKy := Lib.hid (key16 w2 1 (by omega))
  go_wp2_with fail
  refine HKy.out.mono ?_
  rintro _ w3 ⟨g3, rfl, hrow, hge, N3⟩
  have HPt := Lib.hid (kaPut A HS2.out N3 hrow hge)
  clear hrow hge N3 HKy HS2
  go_wp2_with fail
  refine HPt.out.mono ?_
  rintro _ w4 ⟨rfl, hst⟩
  have HS4 := Lib.hid hst
  clear hst HPt
  have HGt := Lib.hid (kaGet A HS4.out)
  go_wp2_with fail
  refine HGt.out.mono ?_
  rintro _ w5 ⟨N5, a5, n5, c5, rfl, hr5, hb5⟩
  have ND : New w5 w5.drew := (Below.refl _ _).drew
  have HS6 := Lib.hid (HS4.out.cut A (New.trans N5 ND))
  have HB5 := Lib.hid hb5
  have HR6 := Lib.hid (hr5.new ND)
  clear N5 hr5 hb5 ND HS4 HGt
  go_upto_region 8 with fail
  refine region_ordT (Str10 (.slice a5 n5 c5) (keyL16 1)) (.take 0 (.take 1 (.take 2 (.take 3 (.only 4 (.only 5 (.take 6 (.take 7 (.take 8 (.take 9 (.only 10 (.take 11 (.take 12 (.take 13 (.take 14 (.two 15 17 (.two 16 17 (.only 17 (.only 18 (.take 19 (.take 20 (.take 21 .nil))))) (.two 16 18 (.only 18 (.take 19 (.take 20 (.take 21 .nil)))) (.only 16 (.take 19 (.take 20 (.take 21 .nil)))))) (.two 15 18 (.two 16 18 (.only 18 (.take 19 (.take 20 (.take 21 .nil)))) (.only 16 (.take 19 (.take 20 (.take 21 .nil))))) (.only 15 (.only 16 (.take 19 (.take 20 (.take 21 .nil)))))))))))))))))))))) (by kernel_rfl) (by kernel_rfl) (str10 HR6.out) (fun _ => ?_)
  generalize w5.drew = w6 at *
  unfold Str10
  iterate 4 (apply ordT_take; (simp only [List.getElem?_toArray, List.getElem?_cons_succ, List.getElem?_cons_zero]; rfl); rfl; (intro w hSw; (try dsimp only at hSw); go_simp; try with_reducible rfl); intro _; try simp only [Act.put, List.setIfInBounds_toArray, List.set_cons_zero, List.set_cons_succ])
  have HKy := Lib.hid (key16 w6 1 (by omega))
  (apply ordT_only; (simp only [List.getElem?_toArray, List.getElem?_cons_succ, List.getElem?_cons_zero]; rfl); rfl; intro K hK)
  go_simp
  refine HKy.out.mono ?_
  rintro _ w7 ⟨g7, rfl, hrow, hge, N7⟩
  have hst7 := str10 (w := w7) (x := .slice (some ⟨g7, 0, none⟩) 32 32) (a := keyL16 1) (by have := rd_row10 hrow (by rw [keyL16_length]; omega); rwa [keyL16_length] at this)
  have HSt7 := Lib.hid hst7
  have HS7 := Lib.hid (HS6.out.more A N7)
  have HR7 := Lib.hid (HR6.out.new N7)
  clear hrow hge N7 HKy hst7 HS6 HR6
  refine hK.out _ _ (str10 HR7.out) (fun _ => ?_)
  clear hK K
  try simp only [Act.put, List.setIfInBounds_toArray, List.set_cons_zero, List.set_cons_succ]
  (apply ordT_only; (simp only [List.getElem?_toArray, List.getElem?_cons_succ, List.getElem?_cons_zero]; rfl); rfl; intro K hK)
  have hst7 := HSt7.out
  unfold Str10 at hst7
  go_simp
  clear hst7
  refine hK.out _ _ (str10 HR7.out) (fun _ => ?_)
  clear hK K
  try simp only [Act.put, List.setIfInBounds_toArray, List.set_cons_zero, List.set_cons_succ]
  iterate 4 (apply ordT_take; (simp only [List.getElem?_toArray, List.getElem?_cons_succ, List.getElem?_cons_zero]; rfl); rfl; (intro w hSw; (try dsimp only at hSw); go_simp; try with_reducible rfl); intro _; try simp only [Act.put, List.setIfInBounds_toArray, List.set_cons_zero, List.set_cons_succ])
  have HSh := Lib.hid (kaShred A HS7.out)
  (apply ordT_only; (simp only [List.getElem?_toArray, List.getElem?_cons_succ, List.getElem?_cons_zero]; rfl); rfl; intro K hK)
  go_simp
  refine HSh.out.mono ?_
  rintro _ w8 ⟨rfl, hst8, ho8⟩
  have HS := Lib.hid hst8
  have HR := Lib.hid (HR7.out.only ho8 (fun j hj _ hh => by have := HB5.out j hj; have := hh.2; omega))
  clear hst8 ho8 HSh HS7 HR7 HSt7
  refine hK.out _ _ (str10 HR.out) (fun _ => ?_)
  clear hK K
  try simp only [Act.put, List.setIfInBounds_toArray, List.set_cons_zero, List.set_cons_succ]
  iterate 4 (apply ordT_take; (simp only [List.getElem?_toArray, List.getElem?_cons_succ, List.getElem?_cons_zero]; rfl); rfl; (intro w hSw; (try dsimp only at hSw); go_simp; try with_reducible rfl); intro _; try simp only [Act.put, List.setIfInBounds_toArray, List.set_cons_zero, List.set_cons_succ])
  have hmk : ∀ wx : World, (Instr.makeSlice 37 (.int .i64 512) (.int .i64 512)).run Try.prog wx = .ok (.slice (some ⟨wx.heap.size, 0, none⟩) 512 512) (wx.alloc (.cells ((List.replicate 512 (0 : UInt8)).map bv).toArray 5)) := fun wx => run_make10 512 (by omega) wx
  generalize hRZ : ((List.replicate 512 (0 : UInt8)).map bv).toArray = RZ at hmk
  (apply ordT_two; (simp only [List.getElem?_toArray, List.getElem?_cons_succ, List.getElem?_cons_zero]; rfl); rfl; (simp only [List.getElem?_toArray, List.getElem?_cons_succ, List.getElem?_cons_zero]; rfl); rfl)
  · intro K hK
    have HIm := Lib.hid (kaImage HS.out)
    go_simp
    refine HIm.out.mono ?_
    rintro _ wI ⟨gI, cI, rfl, hrow, hc1, hc2, hge, NI⟩
    have hri := hrow.rd hc1 hc2
    rw [List.length_replicate] at hri ⊢
    have HI := Lib.hid hri
    replace HS := Lib.hid (HS.out.more A NI)
    replace HR := Lib.hid (HR.out.new NI)
    clear hrow hc1 hc2 hge NI HIm hri
    refine hK.out _ _ (str10 HR.out) (fun _ => ?_)
    clear hK K
    try simp only [Act.put, List.setIfInBounds_toArray, List.set_cons_zero, List.set_cons_succ]
    (apply ordT_two; (simp only [List.getElem?_toArray, List.getElem?_cons_succ, List.getElem?_cons_zero]; rfl); rfl; (simp only [List.getElem?_toArray, List.getElem?_cons_succ, List.getElem?_cons_zero]; rfl); rfl)
    · intro K hK
      have hst := str10 HI.out
      unfold Str10 at hst
      go_simp
      clear hst
      refine hK.out _ _ (str10 HR.out) (fun _ => ?_)
      clear hK K
      try simp only [Act.put, List.setIfInBounds_toArray, List.set_cons_zero, List.set_cons_succ]
      (apply ordT_only; (simp only [List.getElem?_toArray, List.getElem?_cons_succ, List.getElem?_cons_zero]; rfl); rfl; intro K hK)
      go_simp
      generalize hwm : World.alloc wI _ = wm
      obtain ⟨gm, Hgm⟩ : ∃ x, Hid (wI.heap.size = x) := ⟨_, Lib.hid rfl⟩
      have NM : New wI wm := by rw [← hwm]; exact (Below.refl _ _).alloc (Nat.le_refl _) _
      have hrm := rd_row10 (w := wm) (g := gm) (l := List.replicate 512 0) (by rw [← hwm, ← Hgm.out, hRZ]; exact heap_alloc_new _ _) (by simp)
      rw [List.length_replicate] at hrm
      rw [Hgm.out]
      have HM := Lib.hid hrm
      replace HS := Lib.hid (HS.out.more A NM)
      replace HR := Lib.hid (HR.out.new NM)
      replace HI := Lib.hid (HI.out.new NM)
      clear hwm NM hrm
      refine hK.out _ _ (str10 HR.out) (fun _ => ?_)
      clear hK K
      try simp only [Act.put, List.setIfInBounds_toArray, List.set_cons_zero, List.set_cons_succ]
      (apply ordT_only; (simp only [List.getElem?_toArray, List.getElem?_cons_succ, List.getElem?_cons_zero]; rfl); rfl; intro K hK)
      have hst := str10 HM.out
      unfold Str10 at hst
      go_simp
      clear hst
      refine hK.out _ _ (str10 HR.out) (fun _ => ?_)
      clear hK K
      try simp only [Act.put, List.setIfInBounds_toArray, List.set_cons_zero, List.set_cons_succ]
      iterate 3 (apply ordT_take; (simp only [List.getElem?_toArray, List.getElem?_cons_succ, List.getElem?_cons_zero]; rfl); rfl; (intro w hSw; (try dsimp only at hSw); go_simp; try with_reducible rfl); intro _; try simp only [Act.put, List.setIfInBounds_toArray, List.set_cons_zero, List.set_cons_succ])
      apply ordT_done
      go_wp2
      go_ret
      exact ⟨rfl, HS.out.new⟩
    · intro K hK
      go_simp
      generalize hwm : World.alloc wI _ = wm
      obtain ⟨gm, Hgm⟩ : ∃ x, Hid (wI.heap.size = x) := ⟨_, Lib.hid rfl⟩
      have NM : New wI wm := by rw [← hwm]; exact (Below.refl _ _).alloc (Nat.le_refl _) _
      have hrm := rd_row10 (w := wm) (g := gm) (l := List.replicate 512 0) (by rw [← hwm, ← Hgm.out, hRZ]; exact heap_alloc_new _ _) (by simp)
      rw [List.length_replicate] at hrm
      rw [Hgm.out]
      have HM := Lib.hid hrm
      replace HS := Lib.hid (HS.out.more A NM)
      replace HR := Lib.hid (HR.out.new NM)
      replace HI := Lib.hid (HI.out.new NM)
      clear hwm NM hrm
      refine hK.out _ _ (str10 HR.out) (fun _ => ?_)
      clear hK K
      try simp only [Act.put, List.setIfInBounds_toArray, List.set_cons_zero, List.set_cons_succ]
      (apply ordT_two; (simp only [List.getElem?_toArray, List.getElem?_cons_succ, List.getElem?_cons_zero]; rfl); rfl; (simp only [List.getElem?_toArray, List.getElem?_cons_succ, List.getElem?_cons_zero]; rfl); rfl)
      · intro K hK
        have hst := str10 HI.out
        unfold Str10 at hst
        go_simp
        clear hst
        refine hK.out _ _ (str10 HR.out) (fun _ => ?_)
        clear hK K
        try simp only [Act.put, List.setIfInBounds_toArray, List.set_cons_zero, List.set_cons_succ]
        (apply ordT_only; (simp only [List.getElem?_toArray, List.getElem?_cons_succ, List.getElem?_cons_zero]; rfl); rfl; intro K hK)
        have hst := str10 HM.out
        unfold Str10 at hst
        go_simp
        clear hst
        refine hK.out _ _ (str10 HR.out) (fun _ => ?_)
        clear hK K
        try simp only [Act.put, List.setIfInBounds_toArray, List.set_cons_zero, List.set_cons_succ]
        iterate 3 (apply ordT_take; (simp only [List.getElem?_toArray, List.getElem?_cons_succ, List.getElem?_cons_zero]; rfl); rfl; (intro w hSw; (try dsimp only at hSw); go_simp; try with_reducible rfl); intro _; try simp only [Act.put, List.setIfInBounds_toArray, List.set_cons_zero, List.set_cons_succ])
        apply ordT_done
        go_wp2
        go_ret
        exact ⟨rfl, HS.out.new⟩
      · intro K hK
        have hst := str10 HM.out
        unfold Str10 at hst
        go_simp
        clear hst
        refine hK.out _ _ (str10 HR.out) (fun _ => ?_)
        clear hK K
        try simp only [Act.put, List.setIfInBounds_toArray, List.set_cons_zero, List.set_cons_succ]
        (apply ordT_only; (simp only [List.getElem?_toArray, List.getElem?_cons_succ, List.getElem?_cons_zero]; rfl); rfl; intro K hK)
        have hst := str10 HI.out
        unfold Str10 at hst
        go_simp
        clear hst
        refine hK.out _ _ (str10 HR.out) (fun _ => ?_)
        clear hK K
        try simp only [Act.put, List.setIfInBounds_toArray, List.set_cons_zero, List.set_cons_succ]
        iterate 3 (apply ordT_take; (simp only [List.getElem?_toArray, List.getElem?_cons_succ, List.getElem?_cons_zero]; rfl); rfl; (intro w hSw; (try dsimp only at hSw); go_simp; try with_reducible rfl); intro _; try simp only [Act.put, List.setIfInBounds_toArray, List.set_cons_zero, List.set_cons_succ])
        apply ordT_done
        go_wp2
        go_ret
        exact ⟨rfl, HS.out.new⟩
  · intro K hK
    go_simp
    generalize hwm : World.alloc w8 _ = wm
    obtain ⟨gm, Hgm⟩ : ∃ x, Hid (w8.heap.size = x) := ⟨_, Lib.hid rfl⟩
    have NM : New w8 wm := by rw [← hwm]; exact (Below.refl _ _).alloc (Nat.le_refl _) _
    have hrm := rd_row10 (w := wm) (g := gm) (l := List.replicate 512 0) (by rw [← hwm, ← Hgm.out, hRZ]; exact heap_alloc_new _ _) (by simp)
    rw [List.length_replicate] at hrm
    rw [Hgm.out]
    have HM := Lib.hid hrm
    replace HS := Lib.hid (HS.out.more A NM)
    replace HR := Lib.hid (HR.out.new NM)
    clear hwm NM hrm
    refine hK.out _ _ (str10 HR.out) (fun _ => ?_)
    clear hK K
    try simp only [Act.put, List.setIfInBounds_toArray, List.set_cons_zero, List.set_cons_succ]
    (apply ordT_two; (simp only [List.getElem?_toArray, List.getElem?_cons_succ, List.getElem?_cons_zero]; rfl); rfl; (simp only [List.getElem?_toArray, List.getElem?_cons_succ, List.getElem?_cons_zero]; rfl); rfl)
    · intro K hK
      have HIm := Lib.hid (kaImage HS.out)
      go_simp
      refine HIm.out.mono ?_
      rintro _ wI ⟨gI, cI, rfl, hrow, hc1, hc2, hge, NI⟩
      have hri := hrow.rd hc1 hc2
      rw [List.length_replicate] at hri ⊢
      have HI := Lib.hid hri
      replace HS := Lib.hid (HS.out.more A NI)
      replace HR := Lib.hid (HR.out.new NI)
      replace HM := Lib.hid (HM.out.new NI)
      clear hrow hc1 hc2 hge NI HIm hri
      refine hK.out _ _ (str10 HR.out) (fun _ => ?_)
      clear hK K
      try simp only [Act.put, List.setIfInBounds_toArray, List.set_cons_zero, List.set_cons_succ]
      (apply ordT_two; (simp only [List.getElem?_toArray, List.getElem?_cons_succ, List.getElem?_cons_zero]; rfl); rfl; (simp only [List.getElem?_toArray, List.getElem?_cons_succ, List.getElem?_cons_zero]; rfl); rfl)
      · intro K hK
        have hst := str10 HI.out
        unfold Str10 at hst
        go_simp
        clear hst
        refine hK.out _ _ (str10 HR.out) (fun _ => ?_)
        clear hK K
        try simp only [Act.put, List.setIfInBounds_toArray, List.set_cons_zero, List.set_cons_succ]
        (apply ordT_only; (simp only [List.getElem?_toArray, List.getElem?_cons_succ, List.getElem?_cons_zero]; rfl); rfl; intro K hK)
        have hst := str10 HM.out
        unfold Str10 at hst
        go_simp
        clear hst
        refine hK.out _ _ (str10 HR.out) (fun _ => ?_)
        clear hK K
        try simp only [Act.put, List.setIfInBounds_toArray, List.set_cons_zero, List.set_cons_succ]
        iterate 3 (apply ordT_take; (simp only [List.getElem?_toArray, List.getElem?_cons_succ, List.getElem?_cons_zero]; rfl); rfl; (intro w hSw; (try dsimp only at hSw); go_simp; try with_reducible rfl); intro _; try simp only [Act.put, List.setIfInBounds_toArray, List.set_cons_zero, List.set_cons_succ])
        apply ordT_done
        go_wp2
        go_ret
        exact ⟨rfl, HS.out.new⟩
      · intro K hK
        have hst := str10 HM.out
        unfold Str10 at hst
        go_simp
        clear hst
        refine hK.out _ _ (str10 HR.out) (fun _ => ?_)
        clear hK K
        try simp only [Act.put, List.setIfInBounds_toArray, List.set_cons_zero, List.set_cons_succ]
        (apply ordT_only; (simp only [List.getElem?_toArray, List.getElem?_cons_succ, List.getElem?_cons_zero]; rfl); rfl; intro K hK)
        have hst := str10 HI.out
        unfold Str10 at hst
        go_simp
        clear hst
        refine hK.out _ _ (str10 HR.out) (fun _ => ?_)
        clear hK K
        try simp only [Act.put, List.setIfInBounds_toArray, List.set_cons_zero, List.set_cons_succ]
        iterate 3 (apply ordT_take; (simp only [List.getElem?_toArray, List.getElem?_cons_succ, List.getElem?_cons_zero]; rfl); rfl; (intro w hSw; (try dsimp only at hSw); go_simp; try with_reducible rfl); intro _; try simp only [Act.put, List.setIfInBounds_toArray, List.set_cons_zero, List.set_cons_succ])
        apply ordT_done
        go_wp2
        go_ret
        exact ⟨rfl, HS.out.new⟩
    · intro K hK
      have hst := str10 HM.out
      unfold Str10 at hst
      go_simp
      clear hst
      refine hK.out _ _ (str10 HR.out) (fun _ => ?_)
      clear hK K
      try simp only [Act.put, List.setIfInBounds_toArray, List.set_cons_zero, List.set_cons_succ]
      (apply ordT_only; (simp only [List.getElem?_toArray, List.getElem?_cons_succ, List.getElem?_cons_zero]; rfl); rfl; intro K hK)
      have HIm := Lib.hid (kaImage HS.out)
      go_simp
      refine HIm.out.mono ?_
      rintro _ wI ⟨gI, cI, rfl, hrow, hc1, hc2, hge, NI⟩
      have hri := hrow.rd hc1 hc2
      rw [List.length_replicate] at hri ⊢
      have HI := Lib.hid hri
      replace HS := Lib.hid (HS.out.more A NI)
      replace HR := Lib.hid (HR.out.new NI)
      replace HM := Lib.hid (HM.out.new NI)
      clear hrow hc1 hc2 hge NI HIm hri
      refine hK.out _ _ (str10 HR.out) (fun _ => ?_)
      clear hK K
      try simp only [Act.put, List.setIfInBounds_toArray, List.set_cons_zero, List.set_cons_succ]
      (apply ordT_only; (simp only [List.getElem?_toArray, List.getElem?_cons_succ, List.getElem?_cons_zero]; rfl); rfl; intro K hK)
      have hst := str10 HI.out
      unfold Str10 at hst
      go_simp
      clear hst
      refine hK.out _ _ (str10 HR.out) (fun _ => ?_)
      clear hK K
      try simp only [Act.put, List.setIfInBounds_toArray, List.set_cons_zero, List.set_cons_succ]
      iterate 3 (apply ordT_take; (simp only [List.getElem?_toArray, List.getElem?_cons_succ, List.getElem?_cons_zero]; rfl); rfl; (intro w hSw; (try dsimp only at hSw); go_simp; try with_reducible rfl); intro _; try simp only [Act.put, List.setIfInBounds_toArray, List.set_cons_zero, List.set_cons_succ])
      apply ordT_done
      go_wp2
      go_ret
      exact ⟨rfl, HS.out.new⟩

end Go.Proofs.Ytnekcdpfphgpbaa
