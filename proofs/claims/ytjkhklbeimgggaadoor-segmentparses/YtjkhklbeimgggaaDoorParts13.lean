/-
  SegmentParts: the walk.
-/
import Derived.Test.YtjkhklbeimgggaaDoorLaw13
import Derived.Test.YtjkhklbeimgggaaDoorBase
namespace Go.Proofs.YtjkhklbeimgggaaDoor
set_option linter.unusedVariables false
set_option linter.unusedSimpArgs false
open Go.RowKit

def Cells2i (g : Nat) (a b : Int) (w : World) : Prop := w.cell? ⟨g, 0, none⟩ = some (.int .i64 a) ∧ w.cell? ⟨g, 1, none⟩ = some (.int .i64 b)
def Strs2i (u v : Value) (k l : List UInt8) (w : World) : Prop := (convert 22 9 u).run Tryd.prog w = .ok (.string (bstr k)) w ∧ (convert 22 9 v).run Tryd.prog w = .ok (.string (bstr l)) w
def Str1i (u : Value) (k : List UInt8) (w : World) : Prop := (convert 22 9 u).run Tryd.prog w = .ok (.string (bstr k)) w

theorem i64_of_wf {z : Int} (h : (Lit.int .i64 z).wf = true) : -9223372036854775808 ≤ z ∧ z ≤ 9223372036854775807 := by
  have h' : IntKind.i64.min ≤ z ∧ z ≤ IntKind.i64.max := by simpa [Lit.wf] using h
  rwa [show IntKind.i64.min = -9223372036854775808 from rfl, show IntKind.i64.max = 9223372036854775807 from rfl] at h'


set_option maxRecDepth 100000 in
set_option maxHeartbeats 2000000 in
theorem partsWalk (w : World) (x y : Value) (ch t : List UInt8) (hx : Rd w x ch) (hy : Rd w y t) (number count : Int) (hn : -9223372036854775808 ≤ number ∧ number ≤ 9223372036854775807) (hc : -9223372036854775808 ≤ count ∧ count ≤ 9223372036854775807) (hL : Laid w) :
    Calls Tryd.prog 3 #[x, y, .agg #[.int .i64 number, .int .i64 count]] w fun e w' => e = .returned (.bool true) ∧ New w w' := by
  have HX := Lib.hid hx
  have HY := Lib.hid hy
  have HL := Lib.hid hL
  obtain ⟨ax, nx, cx, rfl, hl, -⟩ := hx
  obtain ⟨ay, ny, cy, rfl, kl, -⟩ := hy
  have HXL := Lib.hid hl
  have HYL := Lib.hid kl
  clear hl kl hL
  go_enter Tryd.func3, Tryd.ntmps3
  go_wp2_with fail
  generalize hw1 : World.alloc w _ = w1
  have HC1 : Hid (Cells2i w.heap.size number count w1) := by
    have h : w1.heap[w.heap.size]? = some (.cells #[.int .i64 number, .int .i64 count] 23) := by rw [← hw1]; exact heap_alloc_new _ _
    exact Lib.hid ⟨by rw [cell_of_row _ _ 0 _ _ _ h]; rfl, by rw [cell_of_row _ _ 1 _ _ _ h]; rfl⟩
  have N1 : New w w1 := by rw [← hw1]; exact (Below.refl _ _).alloc (Nat.le_refl _) _
  have hlt1 : w.heap.size < w1.heap.size := by rw [← hw1]; simp
  clear hw1
  refine (awake13 w1 (HL.out.new N1)).mono ?_
  rintro _ w2 ⟨rfl, M2⟩
  have N2 := Lib.hid (New.trans N1 M2)
  have HC2 : Hid (Cells2i w.heap.size number count w2) := Lib.hid ⟨(World.cell?_of_block (M2.block _ hlt1)).trans HC1.out.1, (World.cell?_of_block (M2.block _ hlt1)).trans HC1.out.2⟩
  clear M2 N1 HC1 hlt1
  by_cases h1 : 50 < nx
  · have h1' : (50 : Int) < (nx : Int) := by omega
    go_wp2_with fail
    refine (awake13 w2 (HL.out.new N2.out)).mono ?_
    rintro _ w3 ⟨rfl, n3⟩
    go_wp2
    go_ret
    exact ⟨rfl, New.trans N2.out n3⟩
  have h1' : ¬ (50 : Int) < (nx : Int) := by omega
  by_cases h2 : 700 < ny
  · have h2' : (700 : Int) < (ny : Int) := by omega
    go_wp2_with fail
    refine (awake13 w2 (HL.out.new N2.out)).mono ?_
    rintro _ w3 ⟨rfl, n3⟩
    go_wp2
    go_ret
    exact ⟨rfl, New.trans N2.out n3⟩
  have h2' : ¬ (700 : Int) < (ny : Int) := by omega
  have NA : New w2 w2.drew := (Below.refl _ _).drew
  have HC2d : Hid (Cells2i w.heap.size number count w2.drew) := HC2
  go_wp2
  refine region_ord (Cells2i w.heap.size number count) [(0, true), (1, true), (2, true), (3, true), (4, true), (5, true)] (by kernel_rfl) (by kernel_rfl) HC2d.out (fun _ => ?_)
  unfold Cells2i
  iterate 6 (apply ord_take; (simp only [List.getElem?_toArray, List.getElem?_cons_succ, List.getElem?_cons_zero]; rfl); rfl; (intro w hSw; (try dsimp only at hSw); go_simp; try with_reducible rfl); intro _; try simp only [Act.put, List.setIfInBounds_toArray, List.set_cons_zero, List.set_cons_succ])
  apply ord_done
  clear HC2 HC2d
  have N4 : Hid (New w w2.drew.drew) := Lib.hid ((New.trans N2.out NA).drew)
  clear N2 NA
  go_wp2
  refine region_ord (Strs2i (.slice ax nx cx) (.slice ay ny cy) ch t) [(0, true), (1, true), (2, true), (3, true), (4, true), (5, true)] (by kernel_rfl) (by kernel_rfl) ⟨run_str (P := Tryd.prog) Tryd.underlying22 Tryd.underlying5 Tryd.underlying9 (HX.out.new N4.out), run_str (P := Tryd.prog) Tryd.underlying22 Tryd.underlying5 Tryd.underlying9 (HY.out.new N4.out)⟩ (fun _ => ?_)
  generalize w2.drew.drew = w4 at *
  unfold Strs2i
  iterate 6 (apply ord_take; (simp only [List.getElem?_toArray, List.getElem?_cons_succ, List.getElem?_cons_zero]; rfl); rfl; (intro w hSw; (try dsimp only at hSw); go_simp; try with_reducible rfl); intro _; try simp only [Act.put, List.setIfInBounds_toArray, List.set_cons_zero, List.set_cons_succ])
  apply ord_done
  have HHead := Lib.hid (segHead w4 number count _ ch (HX.out.new N4.out) hn.1 hn.2 hc.1 hc.2)
  go_wp2_with fail
  refine HHead.out.mono ?_
  rintro _ w5 ⟨vh, rfl, oh, n5⟩
  obtain ⟨ah, nh, ch', rfl⟩ := own_slice oh
  have HH5 := Lib.hid (Rd.of_own oh)
  have N5 := Lib.hid (New.trans N4.out n5)
  have HFoot := Lib.hid (segFootPub w5 count _ ch (HX.out.new N5.out) hc.1 hc.2 (by rw [HXL.out]; omega))
  clear oh n5 HHead N4
  go_wp2_with fail
  refine HFoot.out.mono ?_
  rintro _ w6 ⟨vf, rfl, of, n6⟩
  obtain ⟨af, nf, cf, rfl⟩ := own_slice of
  have HF6 := Lib.hid (Rd.of_own of)
  have HH6 := Lib.hid (HH5.out.new n6)
  have N6 := Lib.hid (New.trans N5.out n6)
  have HFrame := Lib.hid (segFrame w6 _ _ ch t (HX.out.new N6.out) (HY.out.new N6.out) (HL.out.new N6.out))
  clear of n6 HFoot N5 HH5
  go_wp2_with fail
  refine HFrame.out.mono ?_
  rintro _ wz ⟨v, a2, n2, c2, rfl, o7, r7, -, -, n7⟩
  have HFo := Lib.hid (HF6.out.new n7)
  have HHz := Lib.hid (HH6.out.new n7)
  have NZ := Lib.hid (New.trans N6.out n7)
  clear HF6 HH6 N6 n7 HFrame
  by_cases hp : nx = 32
  · subst hp
    have HCH := HXL
    by_cases ht : 1 ≤ ny
    · have ht' : ¬ (ny : Int) < 1 := by omega
      rw [if_pos (show sFramed ch t from ⟨⟨by rw [HYL.out]; omega, by rw [HYL.out]; omega⟩, HCH.out⟩)] at o7
      rw [if_pos (show sFramed ch t from ⟨⟨by rw [HYL.out]; omega, by rw [HYL.out]; omega⟩, HCH.out⟩)] at r7
      obtain ⟨a1, n1, c1, rfl⟩ := own_slice o7
      have R1 := Lib.hid (Rd.of_own o7)
      have R2 := Lib.hid r7
      have HRFr := Lib.hid (refFrame13 wz ch t (by rw [HYL.out]; omega) (by rw [HCH.out]; decide))
      clear o7 r7 ht
      go_wp2_with fail
      refine HRFr.out.mono ?_
      rintro _ w8 ⟨rfl, n8⟩
      replace HFo := Lib.hid (HFo.out.new n8)
      replace HHz := Lib.hid (HHz.out.new n8)
      replace NZ := Lib.hid (New.trans NZ.out n8)
      have k1 := run_str (P := Tryd.prog) Tryd.underlying22 Tryd.underlying5 Tryd.underlying9 (R1.out.new n8)
      have k2 := run_str (P := Tryd.prog) Tryd.underlying22 Tryd.underlying5 Tryd.underlying9 (R2.out.new n8)
      have hq1 : ((bstr (sFrame ch t)).toList == (bstr (sFrame ch t)).toList) = true := by simp
      have hq2 : ((bstr (sNext ch t)).toList == (bstr (sNext ch t)).toList) = true := by simp
      clear n8 R1 R2 HRFr
      generalize bstr (sFrame ch t) = BF at *
      generalize bstr (sNext ch t) = BN at *
      obtain ⟨wz, hwz⟩ : ∃ wz, w8 = wz := ⟨_, rfl⟩
      subst hwz
      go_upto_region 13 with fail
      clear k1 k2 hq1 hq2
      rename World => wz
      by_cases hc0 : 0 ≤ count
      · have hc0' : ¬ count < 0 := by omega
        obtain ⟨c, rfl⟩ := Int.eq_ofNat_of_zero_le hc0
        have HFo2 : Hid (sFootOf (c : Int) ch = sFoot c ch) := Lib.hid (by unfold sFootOf; rw [if_pos ⟨hc0, HCH.out⟩, Int.toNat_natCast])
        rw [HFo2.out] at HFo
        have NA : New wz wz.drew := (Below.refl _ _).drew
        have HFA := Lib.hid (HFo.out.new NA)
        have HNA := Lib.hid (New.trans NZ.out NA)
        have HHA := Lib.hid (HHz.out.new NA)
        have HRF := Lib.hid (fun wx => refFoot13 wx (c : Int) c ch (IntWalk.u64_in _ (by omega)) (by omega) (by rw [HCH.out]; decide))
        have hqF : ((bstr (sFoot c ch)).toList == (bstr (sFoot c ch)).toList) = true := by simp
        clear HFo HFo2 NA HHz NZ
        generalize sFoot c ch = FT at *
        go_wp2
        refine region_ord (Str1i (.slice af nf cf) FT) [(0, true), (1, true), (2, true), (3, true), (4, false), (5, true)] (by kernel_rfl) (by kernel_rfl) (run_str (P := Tryd.prog) Tryd.underlying22 Tryd.underlying5 Tryd.underlying9 HFA.out) (fun _ => ?_)
        generalize wz.drew = wa at *
        unfold Str1i
        iterate 4 (apply ord_take; (simp only [List.getElem?_toArray, List.getElem?_cons_succ, List.getElem?_cons_zero]; rfl); rfl; (intro w hSw; (try dsimp only at hSw); go_simp; try with_reducible rfl); intro _; try simp only [Act.put, List.setIfInBounds_toArray, List.set_cons_zero, List.set_cons_succ])
        (apply ord_only; (simp only [List.getElem?_toArray, List.getElem?_cons_succ, List.getElem?_cons_zero]; rfl); rfl; intro K hK)
        go_simp
        refine (HRF.out wa).mono ?_
        rintro _ wb ⟨rfl, nb'⟩
        have HNB := Lib.hid (New.trans HNA.out nb')
        have HHB := Lib.hid (HHA.out.new nb')
        have hsb := run_str (P := Tryd.prog) Tryd.underlying22 Tryd.underlying5 Tryd.underlying9 (HFA.out.new nb')
        clear nb' HNA HHA HFA HRF
        refine hK.out _ _ (hsb) (fun _ => ?_)
        clear hK K
        try simp only [Act.put, List.setIfInBounds_toArray, List.set_cons_zero, List.set_cons_succ]
        iterate 1 (apply ord_take; (simp only [List.getElem?_toArray, List.getElem?_cons_succ, List.getElem?_cons_zero]; rfl); rfl; (intro w hSw; (try dsimp only at hSw); go_simp; try with_reducible rfl); intro _; try simp only [Act.put, List.setIfInBounds_toArray, List.set_cons_zero, List.set_cons_succ])
        apply ord_done
        clear hqF
        by_cases hn0 : 0 ≤ number
        · have hn0' : ¬ number < 0 := by omega
          by_cases hn4 : number ≤ 4294967295
          · have hn4' : ¬ 4294967295 < number := by omega
            obtain ⟨n, rfl⟩ := Int.eq_ofNat_of_zero_le hn0
            have HH2 : Hid (sHeadOf (n : Int) (c : Int) ch = sHead n c ch) := Lib.hid (by unfold sHeadOf; rw [if_pos ⟨hc0, HCH.out, hn0, hn4⟩, Int.toNat_natCast, Int.toNat_natCast])
            rw [HH2.out] at HHB
            have HRH := Lib.hid (fun wx => refHead13 wx n c ch (by omega) (by omega) HCH.out)
            have hqH : ((bstr (sHead n c ch)).toList == (bstr (sHead n c ch)).toList) = true := by simp
            have NC : New wb wb.drew := (Below.refl _ _).drew
            have HNC := Lib.hid (New.trans HNB.out NC)
            have HHC := Lib.hid (HHB.out.new NC)
            clear HHB HH2 NC HNB hsb
            generalize sHead n c ch = HT at *
            go_wp2
            refine region_ord (Str1i (.slice ah nh ch') HT) [(0, true), (1, true), (2, true), (3, true), (4, true), (5, false), (6, true), (7, true)] (by kernel_rfl) (by kernel_rfl) (run_str (P := Tryd.prog) Tryd.underlying22 Tryd.underlying5 Tryd.underlying9 HHC.out) (fun _ => ?_)
            generalize wb.drew = wc at *
            unfold Str1i
            iterate 5 (apply ord_take; (simp only [List.getElem?_toArray, List.getElem?_cons_succ, List.getElem?_cons_zero]; rfl); rfl; (intro w hSw; (try dsimp only at hSw); go_simp; try with_reducible rfl); intro _; try simp only [Act.put, List.setIfInBounds_toArray, List.set_cons_zero, List.set_cons_succ])
            (apply ord_only; (simp only [List.getElem?_toArray, List.getElem?_cons_succ, List.getElem?_cons_zero]; rfl); rfl; intro K hK)
            go_simp
            refine (HRH.out wc).mono ?_
            rintro _ wd ⟨rfl, nd⟩
            have hsd := run_str (P := Tryd.prog) Tryd.underlying22 Tryd.underlying5 Tryd.underlying9 (HHC.out.new nd)
            have HND := Lib.hid (New.trans HNC.out nd)
            clear nd HHC HNC HRH
            refine hK.out _ _ (hsd) (fun _ => ?_)
            clear hK K
            try simp only [Act.put, List.setIfInBounds_toArray, List.set_cons_zero, List.set_cons_succ]
            iterate 2 (apply ord_take; (simp only [List.getElem?_toArray, List.getElem?_cons_succ, List.getElem?_cons_zero]; rfl); rfl; (intro w hSw; (try dsimp only at hSw); go_simp; try with_reducible rfl); intro _; try simp only [Act.put, List.setIfInBounds_toArray, List.set_cons_zero, List.set_cons_succ])
            apply ord_done
            go_wp2
            go_ret
            exact ⟨rfl, HND.out⟩
          · have hn4' : 4294967295 < number := by omega
            have HH2 : Hid (sHeadOf number (c : Int) ch = []) := Lib.hid (if_neg (fun hh => hn4 hh.2.2.2))
            rw [HH2.out] at HHB
            have hnh : nh = 0 := by rw [← HHB.out.len]; rfl
            subst hnh
            clear HHB HH2 hsb
            go_wp2
            go_ret
            exact ⟨rfl, HNB.out⟩
        · have hn0' : number < 0 := by omega
          have HH2 : Hid (sHeadOf number (c : Int) ch = []) := Lib.hid (if_neg (fun hh => hn0 hh.2.2.1))
          rw [HH2.out] at HHB
          have hnh : nh = 0 := by rw [← HHB.out.len]; rfl
          subst hnh
          clear HHB HH2 hsb
          go_wp2
          go_ret
          exact ⟨rfl, HNB.out⟩
      · have hc0' : count < 0 := by omega
        have HH2 : Hid (sHeadOf number count ch = []) := Lib.hid (if_neg (fun hh => hc0 hh.1))
        have HF2 : Hid (sFootOf count ch = []) := Lib.hid (if_neg (fun hh => hc0 hh.1))
        rw [HH2.out] at HHz
        rw [HF2.out] at HFo
        have hnh : nh = 0 := by rw [← HHz.out.len]; rfl
        have hnf : nf = 0 := by rw [← HFo.out.len]; rfl
        subst hnh hnf
        clear HHz HFo HH2 HF2
        go_wp2
        go_ret
        exact ⟨rfl, NZ.out⟩
    · have ht' : (ny : Int) < 1 := by omega
      rw [if_neg (show ¬ sFramed ch t from fun hh => ht (by have := hh.1.1; rw [HYL.out] at this; exact this))] at o7
      rw [if_neg (show ¬ sFramed ch t from fun hh => ht (by have := hh.1.1; rw [HYL.out] at this; exact this))] at r7
      obtain ⟨a1, n1, c1, rfl⟩ := own_slice o7
      have e1 : n1 = 0 := by rw [← (Rd.of_own o7).len]; rfl
      have e2 : n2 = 0 := by rw [← r7.len]; rfl
      subst e1 e2
      clear o7 r7 ht
      go_upto_region 13 with fail
      by_cases hc0 : 0 ≤ count
      · have hc0' : ¬ count < 0 := by omega
        obtain ⟨c, rfl⟩ := Int.eq_ofNat_of_zero_le hc0
        have HFo2 : Hid (sFootOf (c : Int) ch = sFoot c ch) := Lib.hid (by unfold sFootOf; rw [if_pos ⟨hc0, HCH.out⟩, Int.toNat_natCast])
        rw [HFo2.out] at HFo
        have NA : New wz wz.drew := (Below.refl _ _).drew
        have HFA := Lib.hid (HFo.out.new NA)
        have HNA := Lib.hid (New.trans NZ.out NA)
        have HHA := Lib.hid (HHz.out.new NA)
        have HRF := Lib.hid (fun wx => refFoot13 wx (c : Int) c ch (IntWalk.u64_in _ (by omega)) (by omega) (by rw [HCH.out]; decide))
        have hqF : ((bstr (sFoot c ch)).toList == (bstr (sFoot c ch)).toList) = true := by simp
        clear HFo HFo2 NA HHz NZ
        generalize sFoot c ch = FT at *
        go_wp2
        refine region_ord (Str1i (.slice af nf cf) FT) [(0, true), (1, true), (2, true), (3, true), (4, false), (5, true)] (by kernel_rfl) (by kernel_rfl) (run_str (P := Tryd.prog) Tryd.underlying22 Tryd.underlying5 Tryd.underlying9 HFA.out) (fun _ => ?_)
        generalize wz.drew = wa at *
        unfold Str1i
        iterate 4 (apply ord_take; (simp only [List.getElem?_toArray, List.getElem?_cons_succ, List.getElem?_cons_zero]; rfl); rfl; (intro w hSw; (try dsimp only at hSw); go_simp; try with_reducible rfl); intro _; try simp only [Act.put, List.setIfInBounds_toArray, List.set_cons_zero, List.set_cons_succ])
        (apply ord_only; (simp only [List.getElem?_toArray, List.getElem?_cons_succ, List.getElem?_cons_zero]; rfl); rfl; intro K hK)
        go_simp
        refine (HRF.out wa).mono ?_
        rintro _ wb ⟨rfl, nb'⟩
        have HNB := Lib.hid (New.trans HNA.out nb')
        have HHB := Lib.hid (HHA.out.new nb')
        have hsb := run_str (P := Tryd.prog) Tryd.underlying22 Tryd.underlying5 Tryd.underlying9 (HFA.out.new nb')
        clear nb' HNA HHA HFA HRF
        refine hK.out _ _ (hsb) (fun _ => ?_)
        clear hK K
        try simp only [Act.put, List.setIfInBounds_toArray, List.set_cons_zero, List.set_cons_succ]
        iterate 1 (apply ord_take; (simp only [List.getElem?_toArray, List.getElem?_cons_succ, List.getElem?_cons_zero]; rfl); rfl; (intro w hSw; (try dsimp only at hSw); go_simp; try with_reducible rfl); intro _; try simp only [Act.put, List.setIfInBounds_toArray, List.set_cons_zero, List.set_cons_succ])
        apply ord_done
        clear hqF
        by_cases hn0 : 0 ≤ number
        · have hn0' : ¬ number < 0 := by omega
          by_cases hn4 : number ≤ 4294967295
          · have hn4' : ¬ 4294967295 < number := by omega
            obtain ⟨n, rfl⟩ := Int.eq_ofNat_of_zero_le hn0
            have HH2 : Hid (sHeadOf (n : Int) (c : Int) ch = sHead n c ch) := Lib.hid (by unfold sHeadOf; rw [if_pos ⟨hc0, HCH.out, hn0, hn4⟩, Int.toNat_natCast, Int.toNat_natCast])
            rw [HH2.out] at HHB
            have HRH := Lib.hid (fun wx => refHead13 wx n c ch (by omega) (by omega) HCH.out)
            have hqH : ((bstr (sHead n c ch)).toList == (bstr (sHead n c ch)).toList) = true := by simp
            have NC : New wb wb.drew := (Below.refl _ _).drew
            have HNC := Lib.hid (New.trans HNB.out NC)
            have HHC := Lib.hid (HHB.out.new NC)
            clear HHB HH2 NC HNB hsb
            generalize sHead n c ch = HT at *
            go_wp2
            refine region_ord (Str1i (.slice ah nh ch') HT) [(0, true), (1, true), (2, true), (3, true), (4, true), (5, false), (6, true), (7, true)] (by kernel_rfl) (by kernel_rfl) (run_str (P := Tryd.prog) Tryd.underlying22 Tryd.underlying5 Tryd.underlying9 HHC.out) (fun _ => ?_)
            generalize wb.drew = wc at *
            unfold Str1i
            iterate 5 (apply ord_take; (simp only [List.getElem?_toArray, List.getElem?_cons_succ, List.getElem?_cons_zero]; rfl); rfl; (intro w hSw; (try dsimp only at hSw); go_simp; try with_reducible rfl); intro _; try simp only [Act.put, List.setIfInBounds_toArray, List.set_cons_zero, List.set_cons_succ])
            (apply ord_only; (simp only [List.getElem?_toArray, List.getElem?_cons_succ, List.getElem?_cons_zero]; rfl); rfl; intro K hK)
            go_simp
            refine (HRH.out wc).mono ?_
            rintro _ wd ⟨rfl, nd⟩
            have hsd := run_str (P := Tryd.prog) Tryd.underlying22 Tryd.underlying5 Tryd.underlying9 (HHC.out.new nd)
            have HND := Lib.hid (New.trans HNC.out nd)
            clear nd HHC HNC HRH
            refine hK.out _ _ (hsd) (fun _ => ?_)
            clear hK K
            try simp only [Act.put, List.setIfInBounds_toArray, List.set_cons_zero, List.set_cons_succ]
            iterate 2 (apply ord_take; (simp only [List.getElem?_toArray, List.getElem?_cons_succ, List.getElem?_cons_zero]; rfl); rfl; (intro w hSw; (try dsimp only at hSw); go_simp; try with_reducible rfl); intro _; try simp only [Act.put, List.setIfInBounds_toArray, List.set_cons_zero, List.set_cons_succ])
            apply ord_done
            go_wp2
            go_ret
            exact ⟨rfl, HND.out⟩
          · have hn4' : 4294967295 < number := by omega
            have HH2 : Hid (sHeadOf number (c : Int) ch = []) := Lib.hid (if_neg (fun hh => hn4 hh.2.2.2))
            rw [HH2.out] at HHB
            have hnh : nh = 0 := by rw [← HHB.out.len]; rfl
            subst hnh
            clear HHB HH2 hsb
            go_wp2
            go_ret
            exact ⟨rfl, HNB.out⟩
        · have hn0' : number < 0 := by omega
          have HH2 : Hid (sHeadOf number (c : Int) ch = []) := Lib.hid (if_neg (fun hh => hn0 hh.2.2.1))
          rw [HH2.out] at HHB
          have hnh : nh = 0 := by rw [← HHB.out.len]; rfl
          subst hnh
          clear HHB HH2 hsb
          go_wp2
          go_ret
          exact ⟨rfl, HNB.out⟩
      · have hc0' : count < 0 := by omega
        have HH2 : Hid (sHeadOf number count ch = []) := Lib.hid (if_neg (fun hh => hc0 hh.1))
        have HF2 : Hid (sFootOf count ch = []) := Lib.hid (if_neg (fun hh => hc0 hh.1))
        rw [HH2.out] at HHz
        rw [HF2.out] at HFo
        have hnh : nh = 0 := by rw [← HHz.out.len]; rfl
        have hnf : nf = 0 := by rw [← HFo.out.len]; rfl
        subst hnh hnf
        clear HHz HFo HH2 HF2
        go_wp2
        go_ret
        exact ⟨rfl, NZ.out⟩
  · have hp' : ((nx : Int) == 32) = false := by simp; omega
    have hp'' : ((nx : Int) != 32) = true := by simp; omega
    rw [if_neg (show ¬ sFramed ch t from fun hh => hp (by have := hh.2; rw [HXL.out] at this; exact this))] at o7
    rw [if_neg (show ¬ sFramed ch t from fun hh => hp (by have := hh.2; rw [HXL.out] at this; exact this))] at r7
    obtain ⟨a1, n1, c1, rfl⟩ := own_slice o7
    have e1 : n1 = 0 := by rw [← (Rd.of_own o7).len]; rfl
    have e2 : n2 = 0 := by rw [← r7.len]; rfl
    have HH2 : Hid (sHeadOf number count ch = []) := Lib.hid (if_neg (fun hh => hp (by have := hh.2.1; rw [HXL.out] at this; exact this)))
    have HF2 : Hid (sFootOf count ch = []) := Lib.hid (if_neg (fun hh => hp (by have := hh.2; rw [HXL.out] at this; exact this)))
    rw [HH2.out] at HHz
    rw [HF2.out] at HFo
    have hnh : nh = 0 := by rw [← HHz.out.len]; rfl
    have hnf : nf = 0 := by rw [← HFo.out.len]; rfl
    subst e1 e2 hnh hnf
    clear o7 r7 HHz HFo HH2 HF2 hp
    go_wp2
    go_ret
    exact ⟨rfl, NZ.out⟩

theorem pair_of {zs : List Int} (h : zs.length = 2) (hw : ∀ z ∈ zs, (Lit.int .i64 z).wf = true) : ∃ a b, zs = [a, b] ∧ (-9223372036854775808 ≤ a ∧ a ≤ 9223372036854775807) ∧ (-9223372036854775808 ≤ b ∧ b ≤ 9223372036854775807) := by
  match zs, h with
  | [a, b], _ => exact ⟨a, b, rfl, i64_of_wf (hw a (by simp)), i64_of_wf (hw b (by simp))⟩

theorem partsLaw (w : World) (x : Value) (ch : List UInt8) (hx : Rd w x ch) (y : Value) (t : List UInt8) (hy : Rd w y t) (zs : List Int) (hl : zs.length = 2) (hw : ∀ z ∈ zs, (Lit.int .i64 z).wf = true) (hL : Laid w) :
    Calls Tryd.prog 3 #[x, y, .agg (zs.map (Value.int .i64)).toArray] w fun e w' => e = .returned (.bool true) ∧ New w w' := by
  obtain ⟨a, b, rfl, ha, hb⟩ := pair_of hl hw
  exact partsWalk w x y ch t hx hy a b ha hb hL

end Go.Proofs.YtjkhklbeimgggaaDoor
