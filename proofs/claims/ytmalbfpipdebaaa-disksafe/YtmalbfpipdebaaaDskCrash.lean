/-
  lose, Crash, Read.
-/
import Derived.Test.YtmalbfpipdebaaaDskFlush
namespace Go.Proofs.Ytmalbfpipdebaaa
set_option linter.unusedVariables false
set_option linter.unusedSimpArgs false
open Go.RowKit

/-- what lose's region reads -/
def Three (g x : Nat) (u v y : Value) (w : World) : Prop := w.cell? ⟨g, 0, none⟩ = some u ∧ w.cell? ⟨g, 1, none⟩ = some v ∧ w.cell? ⟨x, 0, none⟩ = some y

set_option maxRecDepth 100000 in
set_option maxHeartbeats 4000000 in
theorem diskLose {q : Int} {w : World} {n g gd gl cd cl : Nat} {vp : Value} {D L : List UInt8} {P : List Wr} (h0 : Dsk q w n g gd gl cd cl vp D L P) :
    Calls Try.prog 23 #[.pointer (some ⟨g, 0, none⟩)] w fun e w' => e = .returned (.tuple #[]) ∧ Dsk q w' n g gd gl cd cl (.slice none 0 0) D (loseAll D P L) [] ∧ Only (fun k => k = gl ∨ k = g) w w' := by
  have HD := Lib.hid h0
  have hPl := h0.lenP
  have hfew := h0.few
  have hcapD := h0.capD
  have hcapL := h0.capL
  obtain ⟨ap, kp, rfl⟩ := h0.vp_slice
  obtain ⟨-, -, c2, -⟩ := h0.cells
  clear h0
  have HPI : Hid (∀ wx (b c s : Nat), s < n → 128 * n ≤ c → Calls Try.prog 21 #[.slice (some ⟨b, 0, none⟩) (128 * n) c, .int .i64 (s : Int), .int .i64 1] wx fun e w' => e = .returned (.slice (some ⟨b, 128 * s, none⟩) 128 (c - 128 * s)) ∧ wx = w') :=
    Lib.hid (fun wx b c s h1 h2 => diskPiece wx b (128 * n) c s (by omega) (by omega))
  go_enter Try.func23, Try.ntmps23
  go_wp2
  clear c2
  go_loopw [9] (fun i wr => ∃ j : Nat, j ≤ P.length ∧ i = .int .i64 j ∧ Dsk q wr n g gd gl cd cl (.slice ap P.length kp) D (loseAll D (P.take j) L) P ∧ Only (fun k => k = gl) w wr) (fun i _ => P.length - (intOf i).toNat)
  case atStart => exact ⟨0, Nat.zero_le _, rfl, HD.out, Only.refl _ _⟩
  case round =>
    obtain ⟨j, hj, rfl, hin, ho⟩ := hrel
    by_cases hlt : j < P.length
    · obtain ⟨b, c, he, hr⟩ := hin.at (j := j) (p := P[j]) (List.getElem?_eq_getElem hlt)
      cases he
      have HR := Lib.hid hr
      have HI := Lib.hid hin
      clear hr hin
      have HW : Hid (P[j].1 < n ∧ P[j].2.length = 128) := Lib.hid (HD.out.ok _ (List.getElem_mem hlt))
      have HPJ : Hid (P[j]? = some P[j]) := Lib.hid (List.getElem?_eq_getElem hlt)
      generalize P[j] = p at *
      have hz := zWr_run
      go_upto_region 3 with (first | refine wpList_load_mid rfl 51 _ rfl b (j * 129) rfl _ _ HR.out Try.underlying51 rfl (by rw [wcells_length HW.out.2]; exact infoWrSize) ?_ | refine wpList_store_row rfl 51 _ _ rfl wr.heap.size (wcells p).toArray rfl rfl _ _ (heap_alloc_new _ _) (by rw [List.size_toArray, wcells_length HW.out.2]; exact infoWrSize) (by rw [zWr_size, List.size_toArray, wcells_length HW.out.2]) (all_oneCell_toArray (wcells_one p)) ?_)
      generalize hw1 : World.setRow _ _ _ = w1
      have HX : Hid (WrAt w1 wr.heap.size p) := Lib.hid (by rw [← hw1]; exact setRow_heap _ _ _ _ _ _ (heap_alloc_new _ _))
      have N1 : New wr w1 := by rw [← hw1]; exact below_setRow ((Below.refl _ _).alloc (Nat.le_refl _) _) (Nat.le_refl _) _
      have HI1 := Lib.hid (HI.out.new N1)
      have HO1 := Lib.hid (ho.trans (New.only (F := fun k => k = gl) N1) (fun i _ hi => hi))
      have hne : wr.heap.size ≠ gl := by have := HI.out.rowL.lt; omega
      clear hw1 N1 HI ho HR hz
      generalize wr.heap.size = x at *
      have HX2 := Lib.hid (HX.out.only (New.only (F := fun _ => False) ((Below.refl _ w1).drew)) (fun f => f))
      have HI2 := Lib.hid HI1.out.drew
      have HO2 : Hid (Only (fun k => k = gl) w w1.drew) := Lib.hid HO1.out.drew
      refine region_ord (Three g x (.slice (some ⟨gd, 0, none⟩) (128 * n) cd) (.slice (some ⟨gl, 0, none⟩) (128 * n) cl) (.int .i64 (p.1 : Int))) [(0, true), (1, true), (2, true), (3, true), (4, true), (5, true), (7, true), (8, true), (9, true), (10, true), (11, true), (12, true), (6, false), (13, false), (14, false)] (by kernel_rfl) (by kernel_rfl) ⟨HI2.out.cells.1, HI2.out.cells.2.1, HX2.out.cell⟩ (fun _ => ?_)
      clear HX HI1 HO1
      generalize w1.drew = w2 at *
      unfold Three
      have HP1 := Lib.hid (HPI.out w2 gl cl p.1 HW.out.1 hcapL.1)
      have HP2 := Lib.hid (HPI.out w2 gd cd p.1 HW.out.1 hcapD.1)
      generalize hm : 128 * n = m at *
      iterate 12 (apply ord_take; (simp only [List.getElem?_toArray, List.getElem?_cons_succ, List.getElem?_cons_zero]; rfl); rfl; (intro w hSw; (try dsimp only at hSw); go_simp; try with_reducible rfl); intro _; try simp only [Act.put, List.setIfInBounds_toArray, List.set_cons_zero, List.set_cons_succ])
      (apply ord_only; (simp only [List.getElem?_toArray, List.getElem?_cons_succ, List.getElem?_cons_zero]; rfl); rfl; intro K hK)
      go_simp
      refine HP1.out.mono ?_
      rintro e w3 ⟨rfl, rfl⟩
      refine hK.out _ _ (⟨hm ▸ HI2.out.cells.1, hm ▸ HI2.out.cells.2.1, HX2.out.cell⟩) (fun _ => ?_)
      clear hK K
      try simp only [Act.put, List.setIfInBounds_toArray, List.set_cons_zero, List.set_cons_succ]
      (apply ord_only; (simp only [List.getElem?_toArray, List.getElem?_cons_succ, List.getElem?_cons_zero]; rfl); rfl; intro K hK)
      go_simp
      refine HP2.out.mono ?_
      rintro e w3 ⟨rfl, rfl⟩
      refine hK.out _ _ (⟨hm ▸ HI2.out.cells.1, hm ▸ HI2.out.cells.2.1, HX2.out.cell⟩) (fun _ => ?_)
      clear hK K
      try simp only [Act.put, List.setIfInBounds_toArray, List.set_cons_zero, List.set_cons_succ]
      (apply ord_only; (simp only [List.getElem?_toArray, List.getElem?_cons_succ, List.getElem?_cons_zero]; rfl); rfl; intro K hK)
      have hpn := HW.out.1
      have hs128 : Hid ((sec D p.1).length = 128) := Lib.hid (sec_length (by have := HI2.out.lenD; omega))
      obtain ⟨wz, hcp, hz1, hz2⟩ := run_copy_sec (cd := cl - 128 * p.1) (cs := cd - 128 * p.1) HI2.out.rowL (s := p.1) (by have := HI2.out.lenL; omega) hs128.out (HI2.out.rowD.rdSec (c := cd - 128 * p.1) (by have := HI2.out.lenD; omega) (by omega) (by have := hcapD.2; omega))
      have HZ := Lib.hid (HI2.out.setL hz2 hz1 (by rw [lay_length (by rw [hs128.out]; have := HI2.out.lenL; omega)]; exact HI2.out.lenL))
      have HXZ := Lib.hid (HX2.out.only hz2 (fun e => hne e))
      have HOZ := Lib.hid (HO2.out.trans hz2 (fun i _ hi => hi))
      clear hz1 hz2 hpn hs128
      go_simp
      clear hcp
      refine hK.out _ _ (⟨hm ▸ HZ.out.cells.1, hm ▸ HZ.out.cells.2.1, HXZ.out.cell⟩) (fun _ => ?_)
      clear hK K
      try simp only [Act.put, List.setIfInBounds_toArray, List.set_cons_zero, List.set_cons_succ]
      apply ord_done
      go_wp2
      go_roundw
      case rel => exact ⟨j + 1, by omega, by go_num, by rw [loseAll_take _ _ _ _ _ HPJ.out]; exact HZ.out, HOZ.out⟩
      case measure => simp [intOf]; omega
    · obtain rfl : j = P.length := by omega
      rw [List.take_of_length_le (Nat.le_refl _)] at hin
      have HI := Lib.hid hin
      have HO := Lib.hid ho
      clear hin ho
      obtain ⟨-, -, c2, -⟩ := HI.out.cells
      have z2 := HI.out.free 2
      have HN := Lib.hid HI.out.setNil
      have HON := Lib.hid ((HO.out.mono (G := fun k => k = gl ∨ k = g) (fun i _ hi => .inl hi)).setCell (p := ⟨g, 2, none⟩) (fun _ => .inr rfl) (.slice none 0 0))
      go_wp2
      go_end0
      exact ⟨rfl, HN.out, HON.out⟩

theorem infoBool10 : (Try.prog.info? 4).map (fun i => (i.zero, i.size, i.bytes)) = some (some (.bool false), 1, 1) := by kernel_rfl

/-- make([]bool, m) -/
theorem run_makeBools (m : Nat) (hm : m ≤ 281474976710656) (wx : World) :
    (Instr.makeSlice 53 (.int .i64 (m : Int)) (.int .i64 (m : Int))).run Try.prog wx = .ok (.slice (some ⟨wx.heap.size, 0, none⟩) m m) (wx.alloc (.cells ((List.replicate m false).map Value.bool).toArray 4)) := by
  obtain ⟨i0, hi0, hz0, hz1, hz2⟩ := info_parts infoBool10
  have h := run_make (P := Try.prog) wx 53 4 i0 _ Try.underlying53 hi0 hz0 .i64 .i64 (m : Int) (m : Int) (by omega) (by omega) (by rw [hz2]; omega) (by omega)
  rw [h, hz1, Nat.mul_one]
  have e : madeCells (Value.bool false).cells m = ((List.replicate m false).map Value.bool).toArray := by
    apply Array.ext
    · simp [size_madeCells]
    · intro i h1 h2
      simp [madeCells, Value.cells, Nat.mod_one]
  simp only [Int.toNat_natCast]
  rw [e]

theorem crStep_count (P : List Wr) (st : Cr) (i : Int) : (crStep P st i).2.1 ≤ st.2.1 + 1 := by
  unfold crStep
  split
  · omega
  · exact Nat.le_refl _

theorem crFold_count (P : List Wr) (keep : List Int) : ∀ st : Cr, (keep.foldl (crStep P) st).2.1 ≤ st.2.1 + keep.length := by
  induction keep with
  | nil => intro st; exact Nat.le_refl _
  | cons i r ih =>
    intro st
    have h1 := ih (crStep P st i)
    have h2 := crStep_count P st i
    simp only [List.foldl_cons, List.length_cons]
    omega

theorem crAll_count (P : List Wr) (d : List UInt8) (keep : List Int) : (crAll P d keep).2.1 ≤ keep.length := by
  have := crFold_count P keep (List.replicate P.length false, 0, d)
  unfold crAll
  simpa using this

/-- in the midst of a crash: the marks lie in block mb -/
structure CrIn (q : Int) (w : World) (n g gd gl cd cl mb : Nat) (F : Nat → Prop) (vp : Value) (L : List UInt8) (P : List Wr) (st : Cr) (wr : World) : Prop where
  dsk : Dsk q wr n g gd gl cd cl vp st.2.2 L P
  marks : wr.heap[mb]? = some (.cells (st.1.map Value.bool).toArray 4 (0, 0))
  only : Only F w wr

theorem CrIn.apart {q : Int} {w : World} {n g gd gl cd cl mb : Nat} {F : Nat → Prop} {vp : Value} {L : List UInt8} {P : List Wr} {st : Cr} {wr : World} (h : CrIn q w n g gd gl cd cl mb F vp L P st wr) : g ≠ mb ∧ gd ≠ mb ∧ gl ≠ mb ∧ blk vp ≠ some mb := by
  have hm := h.marks
  have hb := h.dsk.blk
  obtain ⟨c1, h1⟩ := h.dsk.rowD
  obtain ⟨c2, h2⟩ := h.dsk.rowL
  refine ⟨?_, ?_, ?_, own_ne10 h.dsk.pend hm (by decide)⟩
  · rintro rfl; rw [hb] at hm; simp at hm
  · rintro rfl; rw [h1] at hm; simp at hm
  · rintro rfl; rw [h2] at hm; simp at hm

/-- one write is done -/
theorem CrIn.perform {q : Int} {w : World} {n g gd gl cd cl mb : Nat} {F : Nat → Prop} {vp : Value} {L : List UInt8} {P : List Wr} {M : List Bool} {k : Nat} {d d' : List UInt8} {wr w2 : World} (h : CrIn q w n g gd gl cd cl mb F vp L P (M, k, d) wr)
    (hd : Dsk q w2 n g gd gl cd cl vp d' L P) (ho : Only (fun i => i = gd) wr w2) (hF : F gd) : CrIn q w n g gd gl cd cl mb F vp L P (M, k, d') w2 :=
  ⟨hd, (ho.block _ (lt_of_block h.marks) (fun e => h.apart.2.1 e.symm)).trans h.marks, h.only.trans ho (fun i _ hi => by rw [show i = gd from hi]; exact hF)⟩

/-- it is marked -/
theorem CrIn.mark {q : Int} {w : World} {n g gd gl cd cl mb : Nat} {F : Nat → Prop} {vp : Value} {L : List UInt8} {P : List Wr} {M : List Bool} {k : Nat} {d : List UInt8} {wr : World} (h : CrIn q w n g gd gl cd cl mb F vp L P (M, k, d) wr) (m k' : Nat) (hm : w.heap.size ≤ mb) :
    CrIn q w n g gd gl cd cl mb F vp L P (M.set m true, k', d) (wr.setCell ⟨mb, m, none⟩ (.bool true)) := by
  obtain ⟨h1, h2, h3, h4⟩ := h.apart
  refine ⟨h.dsk.only ((Only.refl (fun i => i = mb) wr).setCell (p := ⟨mb, m, none⟩) (fun _ => rfl) _) h1 h2 h3 (fun i hi e => h4 (by rw [hi, e])), ?_, h.only.setCell (p := ⟨mb, m, none⟩) (fun hl => by have : mb < w.heap.size := hl; omega) _⟩
  rw [heap_setCell_same _ _ _ _ _ _ h.marks, List.setIfInBounds_toArray, ← List.map_set]

theorem CrIn.cell {q : Int} {w : World} {n g gd gl cd cl mb : Nat} {F : Nat → Prop} {vp : Value} {L : List UInt8} {P : List Wr} {st : Cr} {wr : World} (h : CrIn q w n g gd gl cd cl mb F vp L P st wr) {m : Nat} (hm : m < st.1.length) : wr.cell? ⟨mb, m, none⟩ = some (.bool (st.1.getD m false)) := by
  rw [cell_of_row _ _ _ _ _ _ h.marks, List.getElem?_toArray, List.getElem?_map, List.getD_eq_getElem?_getD, List.getElem?_eq_getElem hm]
  rfl

set_option maxRecDepth 100000 in
set_option maxHeartbeats 4000000 in
theorem diskCrash {q : Int} {w : World} {n g : Nat} {F : Nat → Prop} {D L : List UInt8} {P : List Wr} (hD : Dvc q w n g F D L P) (v : Value) (keep : List Int) (hk : RdV w v (keep.map (Value.int .i64))) (hkF : ∀ k, blk v = some k → keep.map (Value.int .i64) ≠ [] → ¬ F k) (hkl : keep.length ≤ 1000000) (hP : P.length ≤ 1000000) :
    Calls Try.prog 14 #[.pointer (some ⟨g, 0, none⟩), v] w fun e w' => e = .returned (.int .i64 ((crAll P D keep).2.1 : Int)) ∧ DevTo w n g F (crAll P D keep).2.2 (loseAll (crAll P D keep).2.2 P L) [] w' := by
  obtain ⟨gd, gl, cd, cl, vp, h0, f1, f2, f3, f4⟩ := hD
  have HD := Lib.hid h0
  have HOK := Lib.hid h0.ok
  have hlen := Lib.hid h0.lenD
  have HK := Lib.hid hk
  obtain ⟨ak, nk, ck, rfl, hnk, -⟩ := hk
  rw [List.length_map] at hnk
  subst hnk
  obtain ⟨ap, kp, rfl⟩ := h0.vp_slice
  obtain ⟨-, -, c2, -⟩ := h0.cells
  have hmk := run_makeBools P.length (by omega)
  clear h0
  go_enter Try.func14, Try.ntmps14
  go_upto_region 2 with fail
  generalize hw1 : World.alloc w _ = w1
  have HI0 : Hid (CrIn q w n g gd gl cd cl w.heap.size F (.slice ap P.length kp) L P (crAll P D (keep.take 0)) w1) := by
    have N1 : New w w1 := by rw [← hw1]; exact (Below.refl _ _).alloc (Nat.le_refl _) _
    have e : ((crAll P D (keep.take 0)).1.map Value.bool).toArray = Array.replicate P.length (Value.bool false) := by
      show ((List.replicate P.length false).map Value.bool).toArray = _
      rw [List.map_replicate, List.toArray_replicate]
    exact Lib.hid ⟨HD.out.new N1, by rw [e, ← hw1]; exact heap_alloc_new _ _, New.only N1⟩
  have hmb : w.heap.size ≤ w.heap.size := Nat.le_refl _
  clear hw1 hmk c2 HD
  obtain ⟨mb, Hmb⟩ : ∃ mb, Hid (w.heap.size = mb) := ⟨_, Lib.hid rfl⟩
  rw [Hmb.out] at HI0 ⊢
  go_wp2
  go_loopw [6, 17] (fun c i wr => ∃ j : Nat, j ≤ keep.length ∧ i = .int .i64 j ∧ c = .int .i64 ((crAll P D (keep.take j)).2.1 : Int) ∧ CrIn q w n g gd gl cd cl mb F (.slice ap P.length kp) L P (crAll P D (keep.take j)) wr) (fun _ i _ => keep.length - (intOf i).toNat)
  case atStart => exact ⟨0, Nat.zero_le _, rfl, rfl, HI0.out⟩
  case round =>
    clear HI0
    obtain ⟨j, hj, rfl, rfl, hin⟩ := hrel
    by_cases hlt : j < keep.length
    · have HG : Hid (keep[j]? = some keep[j]) := Lib.hid (List.getElem?_eq_getElem hlt)
      have HCO : Hid (CrOk n P D (crAll P D (keep.take j))) := Lib.hid (crOk_all HOK.out hlen.out _)
      have hcnt := crAll_count P D (keep.take j)
      rw [List.length_take] at hcnt
      have HN : Hid (crAll P D (keep.take (j + 1)) = crStep P (crAll P D (keep.take j)) keep[j]) := Lib.hid (crAll_take P D keep j _ HG.out)
      obtain ⟨b, off, rfl, hck⟩ := (HK.out.only hin.only hkF).cell (by omega)
      have hd := hck j (.int .i64 keep[j]) (by rw [List.getElem?_map, HG.out]; rfl)
      clear hck
      generalize keep[j] = i at *
      generalize crAll P D (keep.take j) = st at *
      obtain ⟨M, k, d⟩ := st
      have HI := Lib.hid hin
      clear hin
      obtain ⟨-, -, c2, -⟩ := HI.out.dsk.cells
      simp only at hcnt ⊢
      by_cases h1 : i < 0
      · have d1 : decide (i < 0) = true := by simp [h1]
        have HS : Hid (crAll P D (keep.take (j + 1)) = (M, k, d)) := by
          show _ = _
          rw [HN.out]; unfold crStep; rw [if_pos (.inl h1)]
        go_wp2
        go_roundw
        case rel => exact ⟨j + 1, by omega, by go_num, by rw [HS.out], by rw [HS.out]; exact HI.out⟩
        case measure => simp [intOf]; omega
      have d1 : decide (i < 0) = false := by simp; omega
      by_cases h2 : (P.length : Int) ≤ i
      · have d2 : decide ((P.length : Int) ≤ i) = true := by simp [h2]
        have HS : Hid (crAll P D (keep.take (j + 1)) = (M, k, d)) := by
          show _ = _
          rw [HN.out]; unfold crStep; rw [if_pos (.inr (.inl h2))]
        go_wp2
        go_roundw
        case rel => exact ⟨j + 1, by omega, by go_num, by rw [HS.out], by rw [HS.out]; exact HI.out⟩
        case measure => simp [intOf]; omega
      have d2 : decide ((P.length : Int) ≤ i) = false := by simp; omega
      obtain ⟨m, rfl⟩ : ∃ m : Nat, i = m := ⟨i.toNat, by omega⟩
      have hmP : m < P.length := by omega
      have hcm := HI.out.cell (m := m) (by rw [HCO.out.marks]; exact hmP)
      have hzm := frozen_of_row _ _ m _ _ HI.out.marks
      by_cases h3 : M.getD m false = true
      · have HS : Hid (crAll P D (keep.take (j + 1)) = (M, k, d)) := by
          show _ = _
          rw [HN.out]; unfold crStep; rw [if_pos (.inr (.inr (by rw [Int.toNat_natCast]; exact h3)))]
        rw [show (M, k, d).1.getD m false = true from h3] at hcm
        clear h3
        go_wp2
        go_roundw
        case rel => exact ⟨j + 1, by omega, by go_num, by rw [HS.out], by rw [HS.out]; exact HI.out⟩
        case measure => simp [intOf]; omega
      · have HPJ : Hid (P[m]? = some P[m]) := Lib.hid (List.getElem?_eq_getElem hmP)
        have HW : Hid (P[m].1 < n ∧ P[m].2.length = 128) := Lib.hid (HOK.out _ (List.getElem_mem hmP))
        have HS : Hid (crAll P D (keep.take (j + 1)) = (M.set m true, k + 1, lay d P[m].1 P[m].2)) := by
          show _ = _
          rw [HN.out]; unfold crStep
          rw [if_neg (by rw [Int.toNat_natCast]; rintro (h | h | h); exact h1 h; exact h2 h; exact h3 h), Int.toNat_natCast, List.getD_eq_getElem?_getD, HPJ.out]
          rfl
        rw [show (M, k, d).1.getD m false = false by simpa using h3] at hcm
        obtain ⟨b1, c1, he, hr⟩ := HI.out.dsk.at HPJ.out
        cases he
        generalize P[m] = p at *
        have HR := Lib.hid hr
        clear hr h3
        go_wp2_with (refine wpList_load_mid rfl 51 _ rfl b1 (m * 129) rfl _ _ HR.out Try.underlying51 rfl (by rw [wcells_length HW.out.2]; exact infoWrSize) ?_)
        refine (diskPerform HI.out.dsk p HW.out).mono ?_
        rintro e w2 ⟨rfl, hd2, ho2⟩
        have HI2 := Lib.hid (HI.out.perform hd2 ho2 f2)
        clear hd2 ho2 HR hcm hzm c2 hd
        have hcm := HI2.out.cell (m := m) (by rw [HCO.out.marks]; exact hmP)
        have hzm := frozen_of_row _ _ m _ _ HI2.out.marks
        have HI3 := Lib.hid (HI2.out.mark m (k + 1) (by rw [Hmb.out]; exact Nat.le_refl _))
        clear HI
        go_wp2
        go_roundw
        case rel => exact ⟨j + 1, by omega, by go_num, by rw [HS.out]; go_num, by rw [HS.out]; exact HI3.out⟩
        case measure => simp [intOf]; omega
    · obtain rfl : j = keep.length := by omega
      rw [List.take_of_length_le (Nat.le_refl _)] at hin ⊢
      have HI := Lib.hid hin
      clear hin
      go_wp2_with fail
      refine (diskLose HI.out.dsk).mono ?_
      rintro e w2 ⟨rfl, hd2, ho2⟩
      have HD2 := Lib.hid hd2
      have HO2 := Lib.hid (HI.out.only.trans ho2 (fun i _ hi => by rcases hi with e | e; exact e ▸ f3; exact e ▸ f1))
      clear hd2 ho2 HI
      obtain ⟨-, -, -, c3⟩ := HD2.out.cells
      have z3 := HD2.out.free 3
      have HD3 := Lib.hid (HD2.out.setLeft (-1) (by decide))
      have HO3 := Lib.hid (HO2.out.setCell (p := ⟨g, 3, none⟩) (fun _ => f1) (.int .i64 (-1)))
      go_wp2
      go_ret
      exact ⟨rfl, ⟨gd, gl, cd, cl, _, HD3.out, .inl f1, .inl f2, .inl f3, fun k hk => by cases hk⟩, HO3.out⟩

set_option maxRecDepth 100000 in
set_option maxHeartbeats 1000000 in
/-- the sectors from s on, m of them; the result is new memory -/
theorem diskReadN {q : Int} {w : World} {n g : Nat} {F : Nat → Prop} {D L : List UInt8} {P : List Wr} (hD : Dvc q w n g F D L P) (hq : q ≠ 0) (s m : Nat) (hs : s + m ≤ n) :
    Calls Try.prog 15 #[.pointer (some ⟨g, 0, none⟩), .int .i64 (s : Int), .int .i64 (m : Int)] w fun e w' =>
      ∃ a c, e = .returned (.tuple #[.slice a (128 * m) c, .int .i64 0]) ∧ Rd w' (.slice a (128 * m) c) (secs L s m) ∧ DvcTo (nextQ q) w n g F D L P w' ∧
        (0 < m → ∃ k, blk (.slice a (128 * m) c) = some k ∧ w.heap.size ≤ k ∧ Dvc (nextQ q) w' n g (fun i => (F i ∨ w.heap.size ≤ i) ∧ i ≠ k) D L P) := by
  obtain ⟨gd, gl, cd, cl, vp, h0, f1, f2, f3, f4⟩ := hD
  have hfew := h0.few
  have HH : Hid (Calls Try.prog 19 #[.pointer (some ⟨g, 0, none⟩), .int .i64 (s : Int), .int .i64 (m : Int)] w fun e w' => e = .returned (.bool true) ∧ w = w') := by
    have := diskHasN h0 (s : Int) (m : Int) (by omega)
    rw [show decide (0 ≤ (s : Int) ∧ 0 ≤ (m : Int) ∧ (m : Int) ≤ (n : Int) - (s : Int)) = true by simp; omega] at this
    exact Lib.hid this
  have HX : Hid (Calls Try.prog 20 #[.pointer (some ⟨g, 0, none⟩)] w fun e w' => e = .returned (.bool true) ∧ Dsk (nextQ q) w' n g gd gl cd cl vp D L P ∧ Only (fun k => k = g) w w') := by
    have := diskCall h0
    rw [show decide (q ≠ 0) = true by simpa using hq] at this
    exact Lib.hid this
  clear h0 hq
  go_enter Try.func15, Try.ntmps15
  go_wp2_with fail
  refine HH.out.mono ?_
  rintro e w1 ⟨rfl, rfl⟩
  go_wp2_with fail
  refine HX.out.mono ?_
  rintro e w1 ⟨rfl, hd1, ho1⟩
  obtain ⟨-, c1, -, -⟩ := hd1.cells
  have hcap := hd1.capL
  have hlen := hd1.lenL
  have HD1 := Lib.hid hd1
  have HO1 := Lib.hid ho1
  have HPI := Lib.hid (diskPieceN w1 gl 0 (128 * n) cl s m (by omega) (by omega))
  have hsl : (secs L s m).length = 128 * m := secs_length (by omega)
  have hrp : Rd w1 (.slice (pieceAt gl 0 cl s) (128 * m) (cl - 128 * s)) (secs L s m) := by
    by_cases hm : 0 < m
    · rw [pieceAt_pos (m := m) (by omega) hm, Nat.zero_add]
      exact hd1.rowL.rdSecs hsl (by omega) (by omega) (by omega)
    · obtain rfl : m = 0 := by omega
      obtain ⟨ad, had⟩ : ∃ ad, pieceAt gl 0 cl s = some ad := by unfold pieceAt; split <;> exact ⟨_, rfl⟩
      rw [had]
      exact ⟨some ad, _, _, rfl, hsl, by omega, by omega, (fun h => by cases h), fun _ _ i u hu => by rw [show secs L s 0 = [] from List.eq_nil_of_length_eq_zero hsl] at hu; simp at hu⟩
  have HC := Lib.hid (bytesCloneAny w1 _ (secs L s m) hrp (by omega))
  have HSL := Lib.hid hsl
  clear HH HX hd1 ho1 hrp hsl hlen
  generalize cl - 128 * s = t1 at *
  generalize pieceAt gl 0 cl s = A1 at *
  generalize 128 * n = t2 at c1 HPI
  go_wp2_with fail
  refine HPI.out.mono ?_
  rintro e w2 ⟨rfl, rfl⟩
  go_wp2_with fail
  refine HC.out.mono ?_
  rintro e w2 ⟨a2, c2, rfl, r2, N2, b2⟩
  rw [HSL.out] at r2 b2 ⊢
  have HR := Lib.hid r2
  have HN := Lib.hid N2
  have HB := Lib.hid b2
  clear r2 N2 b2
  generalize hM : 128 * m = M at *
  have HM := Lib.hid hM
  clear hM
  go_wp2
  go_ret2
  have hM := HM.out
  subst hM
  have hg1 : Only F w w1 := HO1.out.mono (fun i _ hi => by rw [show i = g from hi]; exact f1)
  have hd2 := HD1.out.new HN.out
  refine ⟨a2, c2, rfl, HR.out, ⟨⟨gd, gl, cd, cl, vp, hd2, .inl f1, .inl f2, .inl f3, fun k hk => .inl (f4 k hk)⟩, hg1.trans (HN.out.only (F := F)) (fun _ _ h => h)⟩, fun hm => ?_⟩
  obtain ⟨k, hk, hk2⟩ := HB.out (by intro e; have := HSL.out; rw [e] at this; simp at this; omega)
  have hsz := hg1.size
  refine ⟨k, hk, by omega, ?_⟩
  have hv : Dvc (nextQ q) w1 n g (fun i => (F i ∨ w.heap.size ≤ i) ∧ i ≠ k) D L P :=
    Dvc.narrow (F := fun i => F i) ⟨gd, gl, cd, cl, vp, HD1.out, f1, f2, f3, f4⟩ (fun i hi hF => ⟨.inl hF, by omega⟩)
  exact hv.new HN.out

/-- one sector, no limit -/
theorem diskRead {w : World} {n g : Nat} {F : Nat → Prop} {D L : List UInt8} {P : List Wr} (hD : Dev w n g F D L P) (s : Nat) (hs : s < n) :
    Calls Try.prog 15 #[.pointer (some ⟨g, 0, none⟩), .int .i64 (s : Int), .int .i64 1] w fun e w' => ∃ a c, e = .returned (.tuple #[.slice a 128 c, .int .i64 0]) ∧ Rd w' (.slice a 128 c) (sec L s) ∧ DevTo w n g F D L P w' :=
  (diskReadN hD (by decide) s 1 (by omega)).mono fun e w' h => by
    obtain ⟨a, c, h1, h2, h3, -⟩ := h
    exact ⟨a, c, h1, h2, h3⟩

/-- sectors that there aren't -/
theorem diskReadRange {q : Int} {w : World} {n g : Nat} {F : Nat → Prop} {D L : List UInt8} {P : List Wr} (hD : Dvc q w n g F D L P) (a m : Int) (ha : a ≤ 9223372036854775807) (h : ¬ (0 ≤ a ∧ 0 ≤ m ∧ m ≤ (n : Int) - a)) :
    Calls Try.prog 15 #[.pointer (some ⟨g, 0, none⟩), .int .i64 a, .int .i64 m] w fun e w' => e = .returned (.tuple #[.slice none 0 0, .int .i64 20]) ∧ w = w' := by
  obtain ⟨gd, gl, cd, cl, vp, h0, -⟩ := hD
  have HH := Lib.hid (diskHasN h0 a m ha)
  rw [show decide (0 ≤ a ∧ 0 ≤ m ∧ m ≤ (n : Int) - a) = false by simpa using h] at HH
  clear h0 h
  go_enter Try.func15, Try.ntmps15
  go_wp2_with fail
  refine HH.out.mono ?_
  rintro e w1 ⟨rfl, rfl⟩
  go_wp2
  go_ret2
  exact ⟨rfl, rfl⟩

/-- the power is off -/
theorem diskReadOff {w : World} {n g : Nat} {F : Nat → Prop} {D L : List UInt8} {P : List Wr} (hD : Dvc 0 w n g F D L P) (s m : Nat) (hs : s + m ≤ n) :
    Calls Try.prog 15 #[.pointer (some ⟨g, 0, none⟩), .int .i64 (s : Int), .int .i64 (m : Int)] w fun e w' => e = .returned (.tuple #[.slice none 0 0, .int .i64 22]) ∧ DvcTo 0 w n g F D L P w' := by
  obtain ⟨gd, gl, cd, cl, vp, h0, f1, f2, f3, f4⟩ := hD
  have hfew := h0.few
  have HH := Lib.hid (diskHasN h0 (s : Int) (m : Int) (by omega))
  rw [show decide (0 ≤ (s : Int) ∧ 0 ≤ (m : Int) ∧ (m : Int) ≤ (n : Int) - (s : Int)) = true by simp; omega] at HH
  have HX : Hid (Calls Try.prog 20 #[.pointer (some ⟨g, 0, none⟩)] w fun e w' => e = .returned (.bool false) ∧ Dsk 0 w' n g gd gl cd cl vp D L P ∧ Only (fun k => k = g) w w') := Lib.hid (diskCall h0)
  clear h0
  go_enter Try.func15, Try.ntmps15
  go_wp2_with fail
  refine HH.out.mono ?_
  rintro e w1 ⟨rfl, rfl⟩
  go_wp2_with fail
  refine HX.out.mono ?_
  rintro e w1 ⟨rfl, hd1, ho1⟩
  have HD1 := Lib.hid hd1
  have HO1 := Lib.hid ho1
  clear hd1 ho1
  go_wp2
  go_ret2
  exact ⟨rfl, ⟨gd, gl, cd, cl, vp, HD1.out, .inl f1, .inl f2, .inl f3, fun k hk => .inl (f4 k hk)⟩, HO1.out.mono (fun i _ hi => by rw [show i = g from hi]; exact f1)⟩

end Go.Proofs.Ytmalbfpipdebaaa
