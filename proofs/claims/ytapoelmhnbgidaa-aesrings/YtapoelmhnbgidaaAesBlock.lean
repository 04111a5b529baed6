/-
  aes: Block.
-/
import Derived.Test.YtapoelmhnbgidaaAesRound2
namespace Go.Proofs.Ytapoelmhnbgidaa
set_option linter.unusedVariables false
set_option linter.unusedSimpArgs false
open Go.RowKit

/-- the round keys -/
def rk (key : List UInt8) : Nat → List UInt8
  | 0 => key
  | r + 1 => nextK (rk key r) (dbls 1 r)

/-- a block behind r rounds -/
def enc (key b : List UInt8) : Nat → List UInt8
  | 0 => addB b key
  | r + 1 => addB (if r < 9 then mixB (rotB (repB (enc key b r))) else rotB (repB (enc key b r))) (rk key (r + 1))

theorem rk_length (key : List UInt8) (r : Nat) : (rk key r).length = key.length := by
  induction r with
  | zero => rfl
  | succ r ih => unfold rk; rw [nextK_length, ih]

theorem enc_length (key b : List UInt8) (hb : b.length = 16) (r : Nat) : (enc key b r).length = 16 := by
  cases r with
  | zero => unfold enc; rw [addB_length, hb]
  | succ r => unfold enc; rw [addB_length]; split; exact mixB_length _; exact rotB_length _

structure BlkIn (w : World) (g : Nat) (K B : List UInt8) (wr : World) : Prop where
  key : wr.heap[w.heap.size]? = some (.cells (K.map bv).toArray 22)
  blk : wr.heap[w.heap.size + 1]? = some (.cells (B.map bv).toArray 22)
  res : wr.heap[w.heap.size + 1 + 1]? = some (.cells (zeros16.map bv).toArray 22)
  tab : wr.heap[g]? = some (.cells (boxTab.map bv).toArray 39)
  far : w.heap.size + 1 + 1 < g
  new : New w wr

section
variable {w wr : World} {g : Nat} {K B : List UInt8}

theorem BlkIn.next (h : BlkIn w g K B wr) {w' : World} (hn : New wr w') : BlkIn w g K B w' :=
  ⟨(hn.block _ (lt_of_block h.key)).trans h.key, (hn.block _ (lt_of_block h.blk)).trans h.blk, (hn.block _ (lt_of_block h.res)).trans h.res, (hn.block _ (lt_of_block h.tab)).trans h.tab, h.far, New.trans h.new hn⟩

theorem BlkIn.setBlk (h : BlkIn w g K B wr) (R : List UInt8) : BlkIn w g K R (wr.setRow (w.heap.size + 1) (R.map bv).toArray) := by
  have hf := h.far
  exact ⟨(setRow_other _ _ _ _ (by omega)).trans h.key, setRow_heap _ _ _ _ _ _ h.blk, (setRow_other _ _ _ _ (by omega)).trans h.res, (setRow_other _ _ _ _ (by omega)).trans h.tab, hf, below_setRow h.new (by omega) _⟩

theorem BlkIn.setKey (h : BlkIn w g K B wr) (R : List UInt8) : BlkIn w g R B (wr.setRow w.heap.size (R.map bv).toArray) := by
  have hf := h.far
  exact ⟨setRow_heap _ _ _ _ _ _ h.key, (setRow_other _ _ _ _ (by omega)).trans h.blk, (setRow_other _ _ _ _ (by omega)).trans h.res, (setRow_other _ _ _ _ (by omega)).trans h.tab, hf, below_setRow h.new (by omega) _⟩
end

theorem size16 {l : List UInt8} (h : l.length = 16) : (l.map bv).toArray.size = 16 := by rw [List.size_toArray, List.length_map, h]
theorem info16 : (Try.prog.info? 22).map (·.size) = some 16 := by kernel_rfl
theorem size256 : (boxTab.map bv).toArray.size = 256 := by rw [List.size_toArray, List.length_map, boxTab_length]
theorem info256 : (Try.prog.info? 39).map (·.size) = some 256 := by kernel_rfl

set_option maxRecDepth 100000 in
set_option maxHeartbeats 2000000 in
theorem aesBlock (w : World) (key b : List UInt8) (hk : key.length = 16) (hb : b.length = 16) :
    Calls Try.prog 9 #[.agg (key.map bv).toArray, .agg (b.map bv).toArray] w fun e w' => e = .returned (.agg ((enc key b 10).map bv).toArray) ∧ New w w' := by
  have HK := Lib.hid hk
  have HB := Lib.hid hb
  clear hk hb
  have z1 := zero256_run
  go_enter Try.func9, Try.ntmps9
  go_upto_region 1 with fail
  generalize hw1 : World.alloc (World.alloc (World.alloc w _) _) _ = w1
  have hin : In3 w key 22 b 22 zeros16 22 w1 := by rw [← hw1]; exact In3.made _ _ _ _ _ _ _
  clear hw1
  go_wp2_with fail
  refine (aesBoxesF w1).mono ?_
  rintro e w2 ⟨rfl, N2⟩
  have N3 : New w2 (w2.alloc (.cells zero256 39)) := (Below.refl _ _).alloc (Nat.le_refl _) _
  have hlt2 : w.heap.size + 1 + 1 < w2.heap.size := Nat.lt_of_lt_of_le (lt_of_block hin.c) N2.size
  have HI : Hid (BlkIn w w2.heap.size key b ((w2.alloc (.cells zero256 39)).setRow w2.heap.size (boxTab.map bv).toArray)) := by
    have N4 := New.trans N2 N3
    have e1 := (N4.block _ (lt_of_block hin.a)).trans hin.a
    have e2 := (N4.block _ (lt_of_block hin.b)).trans hin.b
    have e3 := (N4.block _ (lt_of_block hin.c)).trans hin.c
    have hsz := lt_of_block hin.c
    exact ⟨(setRow_other _ _ _ _ (by omega)).trans e1, (setRow_other _ _ _ _ (by omega)).trans e2, (setRow_other _ _ _ _ (by omega)).trans e3, setRow_heap _ _ _ _ _ _ (heap_alloc_new _ _), hlt2, below_setRow (New.trans hin.new N4) (by omega) _⟩
  clear hin N3 hlt2
  go_upto_region 2 with (refine wpList_store_row rfl 39 _ _ rfl w2.heap.size (boxTab.map bv).toArray rfl rfl _ _ (heap_alloc_new _ _) (by rw [size256]; exact info256) (by rw [size256]; rfl) (allOneB _) ?_)
  generalize hw3 : World.setRow _ _ _ = w3
  have hin : BlkIn w w2.heap.size key b w3 := by rw [← hw3]; exact HI.out
  clear hw3 HI z1
  generalize w2.heap.size = g at *
  go_upto_region 3 with fail
  refine wp_region_lit ?_
  refine wpList_load_row rfl 22 _ rfl (w.heap.size + 1) rfl _ _ _ _ hin.blk Try.underlying22 rfl (by rw [size16 HB.out]; exact info16) ?_
  refine wpList_load_row rfl 22 _ rfl w.heap.size rfl _ _ _ _ hin.key Try.underlying22 rfl (by rw [size16 HK.out]; exact info16) ?_
  go_wp2_with fail
  refine (aesAdded w3 b key HB.out HK.out).mono ?_
  rintro e w4 ⟨rfl, N4⟩
  have HI := Lib.hid (hin.next N4)
  have HE0 : Hid ((addB b key).length = 16) := by show _ = _; rw [addB_length, HB.out]
  clear hin N4 N2
  go_upto_region 4 with (refine wpList_store_row rfl 22 _ _ rfl (w.heap.size + 1) ((addB b key).map bv).toArray rfl rfl _ _ HI.out.blk (by rw [size16 HE0.out]; exact info16) (by rw [size16 HB.out, size16 HE0.out]) (allOneB _) ?_)
  generalize hw5 : World.setRow _ _ _ = w5
  have hin : BlkIn w g key (addB b key) w5 := by rw [← hw5]; exact HI.out.setBlk _
  clear hw5 HI
  have HIN := Lib.hid hin
  clear hin HE0
  go_wp2
  go_loopw [6, 12] (fun p i wr => ∃ r : Nat, r ≤ 10 ∧ i = .int .i64 r ∧ p = bv (dbls 1 r) ∧ BlkIn w g (rk key r) (enc key b r) wr) (fun _ i _ => 10 - (intOf i).toNat)
  case atStart => exact ⟨0, by omega, rfl, rfl, HIN.out⟩
  case round =>
    clear HIN
    obtain ⟨r, hr, rfl, rfl, hin⟩ := hrel
    by_cases hlt : r < 10
    · have HKL : Hid ((rk key r).length = 16) := by show _ = _; rw [rk_length, HK.out]
      have HBL := Lib.hid (enc_length key b HB.out r)
      have HKS : Hid (rk key (r + 1) = nextK (rk key r) (dbls 1 r)) := Lib.hid rfl
      have HDS : Hid (dbls 1 (r + 1) = dbl (dbls 1 r)) := Lib.hid rfl
      have h10 : (r : Int) < 10 := by omega
      have HES : Hid (enc key b (r + 1) = addB (if r < 9 then mixB (rotB (repB (enc key b r))) else rotB (repB (enc key b r))) (rk key (r + 1))) := Lib.hid rfl
      rw [HKS.out] at HES
      generalize rk key r = K at *
      generalize enc key b r = B at *
      generalize dbls 1 r = p at *
      have HI := Lib.hid hin
      clear hin
      go_upto_region 7 with fail
      refine wp_region_lit ?_
      refine wpList_load_row rfl 22 _ rfl (w.heap.size + 1) rfl _ _ _ _ HI.out.blk Try.underlying22 rfl (by rw [size16 HBL.out]; exact info16) ?_
      refine wpList_load_row rfl 39 _ rfl g rfl _ _ _ _ HI.out.tab Try.underlying39 rfl (by rw [size256]; exact info256) ?_
      go_wp2_with fail
      refine (aesReplaced wr B HBL.out).mono ?_
      rintro e w6 ⟨rfl, N6⟩
      have HI6 := Lib.hid (HI.out.next N6)
      have HR6 : Hid ((repB B).length = 16) := by show _ = _; rw [repB_length, HBL.out]
      clear HI N6
      go_wp2_with fail
      refine (aesRotated w6 (repB B) HR6.out).mono ?_
      rintro e w7 ⟨rfl, N7⟩
      have HI7 := Lib.hid (HI6.out.next N7)
      have HR7 := Lib.hid (rotB_length (repB B))
      clear HI6 N7
      go_upto_region 8 with (refine wpList_store_row rfl 22 _ _ rfl (w.heap.size + 1) ((rotB (repB B)).map bv).toArray rfl rfl _ _ HI7.out.blk (by rw [size16 HR7.out]; exact info16) (by rw [size16 HBL.out, size16 HR7.out]) (allOneB _) ?_)
      generalize hw8 : World.setRow _ _ _ = w8
      have HI8 : Hid (BlkIn w g K (rotB (repB B)) w8) := by show BlkIn _ _ _ _ _; rw [← hw8]; exact HI7.out.setBlk _
      clear hw8 HI7
      generalize rotB (repB B) = S at *
      by_cases h9 : r < 9
      · have h9i : (r : Int) < 9 := by omega
        rw [if_pos h9] at HES
        have HM := Lib.hid (mixB_length S)
        go_upto_region 9 with fail
        refine wp_region_lit ?_
        refine wpList_load_row rfl 22 _ rfl (w.heap.size + 1) rfl _ _ _ _ HI8.out.blk Try.underlying22 rfl (by rw [size16 HR7.out]; exact info16) ?_
        go_wp2_with fail
        refine (aesMixed w8 S HR7.out).mono ?_
        rintro e wm ⟨rfl, Nm⟩
        have HIm := Lib.hid (HI8.out.next Nm)
        clear HI8 Nm
        go_upto_region 10 with (refine wpList_store_row rfl 22 _ _ rfl (w.heap.size + 1) ((mixB S).map bv).toArray rfl rfl _ _ HIm.out.blk (by rw [size16 HM.out]; exact info16) (by rw [size16 HR7.out, size16 HM.out]) (allOneB _) ?_)
        generalize hwx : World.setRow _ _ _ = wx
        have HIx : Hid (BlkIn w g K (mixB S) wx) := by show BlkIn _ _ _ _ _; rw [← hwx]; exact HIm.out.setBlk _
        clear hwx HIm
        generalize mixB S = M at *
        refine wp_region_lit ?_
        refine wpList_load_row rfl 22 _ rfl w.heap.size rfl _ _ _ _ HIx.out.key Try.underlying22 rfl (by rw [size16 HKL.out]; exact info16) ?_
        go_wp2_with (refine wpList_load_row rfl 39 _ rfl g rfl _ _ _ _ HIx.out.tab Try.underlying39 rfl (by rw [size256]; exact info256) ?_)
        refine (aesNext wx K p HKL.out).mono ?_
        rintro e w9 ⟨rfl, N9⟩
        have HI9 := Lib.hid (HIx.out.next N9)
        have HN9 : Hid ((nextK K p).length = 16) := by show _ = _; rw [nextK_length, HKL.out]
        clear HIx N9
        go_upto_region 11 with (refine wpList_store_row rfl 22 _ _ rfl w.heap.size ((nextK K p).map bv).toArray rfl rfl _ _ HI9.out.key (by rw [size16 HN9.out]; exact info16) (by rw [size16 HKL.out, size16 HN9.out]) (allOneB _) ?_)
        generalize hwa : World.setRow _ _ _ = wa
        have HIa : Hid (BlkIn w g (nextK K p) M wa) := by show BlkIn _ _ _ _ _; rw [← hwa]; exact HI9.out.setKey _
        clear hwa HI9
        generalize nextK K p = K' at *
        refine wp_region_lit ?_
        refine wpList_load_row rfl 22 _ rfl (w.heap.size + 1) rfl _ _ _ _ HIa.out.blk Try.underlying22 rfl (by rw [size16 HM.out]; exact info16) ?_
        refine wpList_load_row rfl 22 _ rfl w.heap.size rfl _ _ _ _ HIa.out.key Try.underlying22 rfl (by rw [size16 HN9.out]; exact info16) ?_
        go_wp2_with fail
        refine (aesAdded wa M K' HM.out HN9.out).mono ?_
        rintro e wb ⟨rfl, Nb⟩
        have HIb := Lib.hid (HIa.out.next Nb)
        have HXL : Hid ((addB M K').length = 16) := by show _ = _; rw [addB_length, HM.out]
        clear HIa Nb
        go_upto_region 12 with (refine wpList_store_row rfl 22 _ _ rfl (w.heap.size + 1) ((addB M K').map bv).toArray rfl rfl _ _ HIb.out.blk (by rw [size16 HXL.out]; exact info16) (by rw [size16 HM.out, size16 HXL.out]) (allOneB _) ?_)
        generalize hwc : World.setRow _ _ _ = wc
        have HIc : Hid (BlkIn w g K' (addB M K') wc) := by show BlkIn _ _ _ _ _; rw [← hwc]; exact HIb.out.setBlk _
        clear hwc HIb
        generalize addB M K' = Z at *
        go_wp2_with (go_at_call 23; refine (aesDoubled _ _).mono ?_; rintro e w' ⟨rfl, rfl⟩)
        go_roundw
        case rel => exact ⟨r + 1, by omega, by go_num, by rw [HDS.out], by rw [HKS.out, HES.out]; exact HIc.out⟩
        case measure => simp [intOf]; omega
      · have h9i : ¬ (r : Int) < 9 := by omega
        rw [if_neg h9] at HES
        go_upto_region 10 with fail
        refine wp_region_lit ?_
        refine wpList_load_row rfl 22 _ rfl w.heap.size rfl _ _ _ _ HI8.out.key Try.underlying22 rfl (by rw [size16 HKL.out]; exact info16) ?_
        go_wp2_with (refine wpList_load_row rfl 39 _ rfl g rfl _ _ _ _ HI8.out.tab Try.underlying39 rfl (by rw [size256]; exact info256) ?_)
        refine (aesNext w8 K p HKL.out).mono ?_
        rintro e w9 ⟨rfl, N9⟩
        have HI9 := Lib.hid (HI8.out.next N9)
        have HN9 : Hid ((nextK K p).length = 16) := by show _ = _; rw [nextK_length, HKL.out]
        clear HI8 N9
        go_upto_region 11 with (refine wpList_store_row rfl 22 _ _ rfl w.heap.size ((nextK K p).map bv).toArray rfl rfl _ _ HI9.out.key (by rw [size16 HN9.out]; exact info16) (by rw [size16 HKL.out, size16 HN9.out]) (allOneB _) ?_)
        generalize hwa : World.setRow _ _ _ = wa
        have HIa : Hid (BlkIn w g (nextK K p) S wa) := by show BlkIn _ _ _ _ _; rw [← hwa]; exact HI9.out.setKey _
        clear hwa HI9
        generalize nextK K p = K' at *
        refine wp_region_lit ?_
        refine wpList_load_row rfl 22 _ rfl (w.heap.size + 1) rfl _ _ _ _ HIa.out.blk Try.underlying22 rfl (by rw [size16 HR7.out]; exact info16) ?_
        refine wpList_load_row rfl 22 _ rfl w.heap.size rfl _ _ _ _ HIa.out.key Try.underlying22 rfl (by rw [size16 HN9.out]; exact info16) ?_
        go_wp2_with fail
        refine (aesAdded wa S K' HR7.out HN9.out).mono ?_
        rintro e wb ⟨rfl, Nb⟩
        have HIb := Lib.hid (HIa.out.next Nb)
        have HXL : Hid ((addB S K').length = 16) := by show _ = _; rw [addB_length, HR7.out]
        clear HIa Nb
        go_upto_region 12 with (refine wpList_store_row rfl 22 _ _ rfl (w.heap.size + 1) ((addB S K').map bv).toArray rfl rfl _ _ HIb.out.blk (by rw [size16 HXL.out]; exact info16) (by rw [size16 HR7.out, size16 HXL.out]) (allOneB _) ?_)
        generalize hwc : World.setRow _ _ _ = wc
        have HIc : Hid (BlkIn w g K' (addB S K') wc) := by show BlkIn _ _ _ _ _; rw [← hwc]; exact HIb.out.setBlk _
        clear hwc HIb
        generalize addB S K' = Z at *
        go_wp2_with (go_at_call 23; refine (aesDoubled _ _).mono ?_; rintro e w' ⟨rfl, rfl⟩)
        go_roundw
        case rel => exact ⟨r + 1, by omega, by go_num, by rw [HDS.out], by rw [HKS.out, HES.out]; exact HIc.out⟩
        case measure => simp [intOf]; omega
    · obtain rfl : r = 10 := by omega
      rw [show ((10 : Nat) : Int) = 10 from rfl]
      have HBL := Lib.hid (enc_length key b HB.out 10)
      have HI := Lib.hid hin
      clear hin
      obtain ⟨R, HR⟩ : ∃ R, Hid (enc key b 10 = R) := ⟨_, Lib.hid rfl⟩
      rw [HR.out] at HI HBL
      go_upto_region 14 with fail
      refine wp_region_lit ?_
      refine wpList_load_row rfl 22 _ rfl (w.heap.size + 1) rfl _ _ _ _ HI.out.blk Try.underlying22 rfl (by rw [size16 HBL.out]; exact info16) ?_
      refine wpList_store_row rfl 22 _ _ rfl (w.heap.size + 1 + 1) (R.map bv).toArray rfl rfl _ _ HI.out.res (by rw [size16 HBL.out]; exact info16) (by rw [size16 HBL.out]; rfl) (allOneB _) ?_
      go_wp2
      refine bodyPost_ret (v := .agg (R.map bv).toArray) (results_cell_row rfl _ _ (w.heap.size + 1 + 1) _ _ _ _ rfl (setRow_heap _ _ _ _ _ _ HI.out.res) Try.underlying22 rfl (by rw [size16 HBL.out]; exact info16)) rfl ⟨by rw [HR.out], ?_⟩
      exact below_setRow HI.out.new (by show w.heap.size ≤ w.heap.size + 1 + 1; omega) _

end Go.Proofs.Ytapoelmhnbgidaa
