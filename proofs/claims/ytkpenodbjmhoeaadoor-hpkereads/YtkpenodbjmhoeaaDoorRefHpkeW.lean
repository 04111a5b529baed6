/-
  The reference's Write, Read of layer 8.
-/
import Derived.Test.YtkpenodbjmhoeaaDoorHpkeWire
import Derived.Test.YtkpenodbjmhoeaaDoorRefEye
import Derived.Test.YtkpenodbjmhoeaaDoorRef01
import Derived.Test.YtkpenodbjmhoeaaDoorBase
namespace Go.Proofs.YtkpenodbjmhoeaaDoor
set_option linter.unusedVariables false
set_option linter.unusedSimpArgs false
open Go.RowKit

def CellsW2 (g : Nat) (x y : Value) (w : World) : Prop := w.cell? ⟨g, 0, none⟩ = some x ∧ w.cell? ⟨g, 1, none⟩ = some y

set_option maxRecDepth 100000 in
set_option maxHeartbeats 400000 in
theorem refWrite8 (w : World) (f : Nat) (l : List UInt8) (hf : f < 18446744073709551616) (hl : l.length ≤ 1000000) :
    Calls Tryd.prog 22 #[.agg #[.int .u64 (f : Int), .string (bstr l)]] w fun e w' => e = .returned (.string (bstr (hwOf f l))) ∧ New w w' := by
  have H1 := Lib.hid fun wx => refNumber wx f 8 hf (by omega)
  have H2 := Lib.hid fun wx => refText wx l 2 hl (by omega)
  have j1 := bstr_append (be 8 f) (be 2 l.length ++ l)
  have HE : Hid (hwOf f l = be 8 f ++ (be 2 l.length ++ l)) := Lib.hid rfl
  rw [← HE.out] at j1
  have z1 : (bstr (be 8 f)).size = 8 := by rw [bstr_size, be_length]
  have z2 : (bstr (be 2 l.length ++ l)).size ≤ 1000002 := by rw [bstr_size, List.length_append, be_length]; omega
  have s1 : ¬ 9223372036854775807 < 8 + (bstr (be 2 l.length ++ l)).size := by omega
  generalize hwOf f l = R at *
  generalize be 2 l.length ++ l = B at *
  generalize be 8 f = A at *
  clear hl HE
  go_enter Tryd.func22, Tryd.ntmps22
  go_upto_region 1 with fail
  generalize hw1 : World.alloc w _ = w1
  have HC1 : Hid (At2 w1 w.heap.size 34 (.int .u64 (f : Int)) (.string (bstr l))) := Lib.hid (by rw [← hw1]; exact heap_alloc_new _ _)
  have N1 : New w w1 := by rw [← hw1]; exact (Below.refl _ _).alloc (Nat.le_refl _) _
  clear hw1
  have N2 : New w1 w1.drew := (Below.refl _ _).drew
  have HC2 := Lib.hid (HC1.out.new N2)
  have NN2 := New.trans N1 N2
  clear HC1 N1 N2
  refine region_ord (CellsW2 w.heap.size (.int .u64 (f : Int)) (.string (bstr l))) [(0, true), (1, true), (3, true), (4, true), (2, false), (5, false), (6, true), (7, true)] (by kernel_rfl) (by kernel_rfl) HC2.out.cells (fun _ => ?_)
  generalize w1.drew = w2 at *
  unfold CellsW2
  iterate 4 (apply ord_take; (simp only [List.getElem?_toArray, List.getElem?_cons_succ, List.getElem?_cons_zero]; rfl); rfl; (intro w hSw; (try dsimp only at hSw); go_simp; try with_reducible rfl); intro _; try simp only [Act.put, List.setIfInBounds_toArray, List.set_cons_zero, List.set_cons_succ])
  (apply ord_only; (simp only [List.getElem?_toArray, List.getElem?_cons_succ, List.getElem?_cons_zero]; rfl); rfl; intro K hK)
  go_simp
  refine (H1.out w2).mono ?_
  rintro e w3 ⟨rfl, N3⟩
  have HC3 := Lib.hid (HC2.out.new N3)
  have NN3 := New.trans NN2 N3
  clear N3 NN2 HC2
  refine hK.out _ _ (HC3.out.cells) (fun _ => ?_)
  clear hK K
  try simp only [Act.put, List.setIfInBounds_toArray, List.set_cons_zero, List.set_cons_succ]
  (apply ord_only; (simp only [List.getElem?_toArray, List.getElem?_cons_succ, List.getElem?_cons_zero]; rfl); rfl; intro K hK)
  go_simp
  refine (H2.out w3).mono ?_
  rintro e w4 ⟨rfl, N4⟩
  have HC4 := Lib.hid (HC3.out.new N4)
  have NN4 := New.trans NN3 N4
  clear N4 NN3 HC3
  refine hK.out _ _ (HC4.out.cells) (fun _ => ?_)
  clear hK K
  try simp only [Act.put, List.setIfInBounds_toArray, List.set_cons_zero, List.set_cons_succ]
  iterate 2 (apply ord_take; (simp only [List.getElem?_toArray, List.getElem?_cons_succ, List.getElem?_cons_zero]; rfl); rfl; (intro w hSw; (try dsimp only at hSw); go_simp; try with_reducible rfl); intro _; try simp only [Act.put, List.setIfInBounds_toArray, List.set_cons_zero, List.set_cons_succ])
  apply ord_done
  go_wp2
  go_ret
  exact ⟨rfl, NN4⟩

def RReadTo (w : World) (q : Nat) (most : Int) (r : List UInt8) (err : Int) (e : Ending) (w' : World) : Prop :=
  e = .returned (.agg #[.int .u64 (hrFrom most r err : Int), .string (bstr (hrText most r err))]) ∧ REyeTo w q (hrT most r err).2.1 (hrT most r err).2.2 w'

theorem At2.set1 {w : World} {g : Nat} {t : TypeId} {x y : Value} (h : At2 w g t x y) (v : Value) : At2 (w.setCell ⟨g, 1, none⟩ v) g t x v := by
  unfold At2
  rw [heap_setCell_same _ _ _ _ _ _ h]
  rfl


set_option maxRecDepth 100000 in
set_option maxHeartbeats 1000000 in
theorem refRead8 (w : World) (q : Nat) (r : List UInt8) (err most : Int) (h : REye w q r err) (hb : r.length ≤ 140737488355328) :
    Calls Tryd.prog 21 #[.pointer (some ⟨q, 0, none⟩), .int .i64 most] w (RReadTo w q most r err) := by
  have HE := Lib.hid h
  have HRL := Lib.hid hb
  clear h hb
  have hlt : eNum 8 r err < 18446744073709551616 := eNum_lt 8 r err
  have HR := Lib.hid (fun wx => refRight7 wx (eNum 8 r err) hlt)
  have HT : Hid (hrT most r err = eText 2 most (eTake (8 : Nat) r err).2.1 (hrErr1 r err)) := Lib.hid rfl
  have HPW : Hid (q < w.heap.size) := Lib.hid (lt_of_block HE.out)
  go_enter Tryd.func21, Tryd.ntmps21
  go_wp2_with fail
  generalize hw1 : World.alloc w _ = w1
  have HC1 : Hid (At2 w1 w.heap.size 34 (.int .u64 0) (.string (ByteArray.mk #[]))) := Lib.hid (by rw [← hw1]; exact heap_alloc_new _ _)
  have N1 : New w w1 := by rw [← hw1]; exact (Below.refl _ _).alloc (Nat.le_refl _) _
  have hz1 : w.heap.size < w1.heap.size := by rw [← hw1]; simp
  clear hw1
  refine (reyeNumber w1 q r err 8 (HE.out.new N1) (by omega) HRL.out).mono ?_
  rintro e w2 ⟨rfl, E2⟩
  go_upto_region 2 with fail
  generalize hw3 : World.alloc w2 _ = w3
  have HS3 : Hid (At2 w3 w2.heap.size 34 (.int .u64 (eNum 8 r err : Int)) (.string (ByteArray.mk #[]))) := Lib.hid (by rw [← hw3]; exact heap_alloc_new _ _)
  have N3 : New w2 w3 := by rw [← hw3]; exact (Below.refl _ _).alloc (Nat.le_refl _) _
  clear hw3
  have hqr : ¬ w.heap.size = q := by have := HPW.out; omega
  have hz2 : w1.heap.size ≤ w2.heap.size := E2.2.size
  have HC3 := Lib.hid ((HC1.out.only E2.2 hqr).new N3)
  have HE3 := Lib.hid (E2.1.new N3)
  have O3 : Only (fun k => k = q) w w3 := ((New.only N1).trans E2.2 (fun _ _ h => h)).trans (New.only (F := fun _ => False) N3) (fun _ _ h => h.elim)
  clear E2 N1 N3 HC1
  have hqs : ¬ w2.heap.size = q := by have := HPW.out; omega
  have hrs : ¬ w.heap.size = w2.heap.size := by omega
  have hgr : w.heap.size ≤ w.heap.size := Nat.le_refl _
  have hgs : w.heap.size ≤ w2.heap.size := by omega
  obtain ⟨gr, er⟩ : ∃ g, w.heap.size = g := ⟨_, rfl⟩
  obtain ⟨gs, es⟩ : ∃ g, w2.heap.size = g := ⟨_, rfl⟩
  have hgr : w.heap.size ≤ gr := by omega
  rw [es] at HS3 hqs hrs hgs
  rw [er] at HC3 hqr hrs
  rw [es, er]
  clear es er hz1 hz2
  obtain ⟨q0, q1, p0, p1⟩ := HE3.out.cells
  obtain ⟨s0, s1⟩ := HS3.out.cells
  obtain ⟨r1, Hr1⟩ : ∃ x, Hid ((eTake (8 : Nat) r err).2.1 = x) := ⟨_, Lib.hid rfl⟩
  obtain ⟨e1, He1⟩ : ∃ x, Hid ((eTake (8 : Nat) r err).2.2 = x) := ⟨_, Lib.hid rfl⟩
  have HL1 : Hid (r1.length ≤ 140737488355328) := Lib.hid (by rw [← Hr1.out]; exact Nat.le_trans (eTake_rest _ _ _) HRL.out)
  rw [Hr1.out] at HE3 HT q0
  rw [He1.out] at HE3 q1
  by_cases h0 : e1 = 0
  · subst h0
    by_cases hr : rightP (eNum 8 r err) = true
    · have HE1 : Hid (hrErr1 r err = 0) := Lib.hid ((if_pos hr).trans He1.out)
      rw [hr] at HR
      go_wp2_with fail
      refine (HR.out w3).mono ?_
      rintro e w4 ⟨rfl, rfl⟩
      clear q0 q1 p0 p1 s0 s1 hr He1 Hr1
      have HEf := HE3
      have Of := O3
      have HCf := HC3
      have HSf := HS3
      obtain ⟨wf, hwf⟩ : ∃ wf, wf = w3 := ⟨_, rfl⟩
      rw [← hwf] at HEf Of HCf HSf
      rw [← hwf]
      rw [← HE1.out] at HEf
      clear hwf HE3 O3 HC3 HS3 HE1
      go_wp2_with fail
      refine (reyeText wf q r1 (hrErr1 r err) most 2 HEf.out (by omega) HL1.out).mono ?_
      rintro e w4 ⟨rfl, E4⟩
      rw [← HT.out] at E4 ⊢
      have HC4 := Lib.hid (HCf.out.only E4.2 hqr)
      have HS4 := Lib.hid (HSf.out.only E4.2 hqs)
      have O4 : Only (fun k => k = q) w w4 := Of.trans E4.2 (fun _ _ h => h)
      have HE4 := Lib.hid E4.1
      clear HEf Of HCf HSf E4 HT
      obtain ⟨t3, H3⟩ : ∃ x, Hid (hrT most r err = x) := ⟨_, Lib.hid rfl⟩
      rw [H3.out] at HE4 ⊢
      obtain ⟨s0, s1⟩ := HS4.out.cells
      obtain ⟨f0, f1⟩ := HS4.out.frozen
      go_upto_region 5 with fail
      clear s0 s1 f0 f1
      have OS : Only (fun k => k = gs) w4 (w4.setCell ⟨gs, 1, none⟩ (.string (bstr t3.1))) := (Only.refl (fun k => k = gs) w4).setCell (p := ⟨gs, 1, none⟩) (fun _ => rfl) _
      have HS5 := Lib.hid (HS4.out.set1 (.string (bstr t3.1)))
      have HC5 := Lib.hid (HC4.out.only OS hrs)
      have HE5 := Lib.hid (HE4.out.only OS (fun e => hqs e.symm))
      have O5 : Only (fun k => k = q) w (w4.setCell ⟨gs, 1, none⟩ (.string (bstr t3.1))) := O4.setCell (p := ⟨gs, 1, none⟩) (fun (h : gs < w.heap.size) => absurd h (Nat.not_lt.2 hgs)) _
      clear OS HS4 HC4 HE4 O4
      generalize w4.setCell ⟨gs, 1, none⟩ (.string (bstr t3.1)) = w5 at *
      obtain ⟨s0, s1⟩ := HS5.out.cells
      obtain ⟨r0, r1'⟩ := HC5.out.cells
      obtain ⟨f0, f1⟩ := HC5.out.frozen
      obtain ⟨q0, q1, -, -⟩ := HE5.out.cells
      have HOW : Hid (∀ u v, REyeTo w q t3.2.1 t3.2.2 ((w5.setCell ⟨gr, 0, none⟩ u).setCell ⟨gr, 1, none⟩ v)) := Lib.hid fun u v =>
        ⟨HE5.out.only (set2_only w5 gr u v) (fun e => hqr e.symm), (O5.setCell (p := ⟨gr, 0, none⟩) (fun (h : gr < w.heap.size) => absurd h (Nat.not_lt.2 hgr)) u).setCell (p := ⟨gr, 1, none⟩) (fun (h : gr < w.heap.size) => absurd h (Nat.not_lt.2 hgr)) v⟩
      by_cases he : t3.2.2 = 0
      · have HF : Hid (hrFrom most r err = eNum 8 r err) := Lib.hid (by unfold hrFrom; rw [H3.out]; exact if_pos he)
        have HX : Hid (hrText most r err = t3.1) := Lib.hid (by unfold hrText; rw [H3.out]; exact if_pos he)
        have de : (t3.2.2 != 0) = false := by rw [he]; rfl
        clear he
        generalize eNum 8 r err = FR at *
        go_wp2
        refine bodyPost_ret (results_cell_row rfl _ _ gr _ _ _ _ rfl (set2 _ _ HC5.out) Tryd.underlying34 rfl (by kernel_rfl)) rfl ?_
        exact ⟨by rw [HF.out, HX.out], by rw [H3.out]; exact HOW.out _ _⟩
      · have HF : Hid (hrFrom most r err = 0) := Lib.hid (by unfold hrFrom; rw [H3.out]; exact if_neg he)
        have HX : Hid (hrText most r err = []) := Lib.hid (by unfold hrText; rw [H3.out]; exact if_neg he)
        have de : (t3.2.2 != 0) = true := by simpa using he
        clear he
        generalize eNum 8 r err = FR at *
        go_wp2
        refine bodyPost_ret (results_cell_row rfl _ _ gr _ _ _ _ rfl (set2 _ _ HC5.out) Tryd.underlying34 rfl (by kernel_rfl)) rfl ?_
        exact ⟨by rw [HF.out, HX.out]; rfl, by rw [H3.out]; exact HOW.out _ _⟩
    · have hr' : rightP (eNum 8 r err) = false := by simpa using hr
      have HE1 : Hid (hrErr1 r err = 30) := Lib.hid ((if_neg hr).trans (by rw [He1.out]; rfl))
      rw [hr'] at HR
      go_wp2_with fail
      refine (HR.out w3).mono ?_
      rintro e w4 ⟨rfl, rfl⟩
      have HEf : Hid (REye (w3.setCell ⟨q, 1, none⟩ (.int .i64 30)) q r1 (hrErr1 r err)) := Lib.hid (by rw [HE1.out]; exact (reyeSetErr HE3.out).1)
      have Of : Only (fun k => k = q) w (w3.setCell ⟨q, 1, none⟩ (.int .i64 30)) := O3.trans (reyeSetErr (x := 30) HE3.out).2 (fun _ _ h => h)
      have HCf := Lib.hid (HC3.out.only (reyeSetErr (x := 30) HE3.out).2 hqr)
      have HSf := Lib.hid (HS3.out.only (reyeSetErr (x := 30) HE3.out).2 hqs)
      clear s0 s1 hr hr' He1 Hr1 HE3 O3 HC3 HS3 HE1
      go_upto_region 4 with fail
      clear q0 q1 p0 p1
      generalize w3.setCell ⟨q, 1, none⟩ (.int .i64 30) = wf at *
      go_wp2_with fail
      refine (reyeText wf q r1 (hrErr1 r err) most 2 HEf.out (by omega) HL1.out).mono ?_
      rintro e w4 ⟨rfl, E4⟩
      rw [← HT.out] at E4 ⊢
      have HC4 := Lib.hid (HCf.out.only E4.2 hqr)
      have HS4 := Lib.hid (HSf.out.only E4.2 hqs)
      have O4 : Only (fun k => k = q) w w4 := Of.trans E4.2 (fun _ _ h => h)
      have HE4 := Lib.hid E4.1
      clear HEf Of HCf HSf E4 HT
      obtain ⟨t3, H3⟩ : ∃ x, Hid (hrT most r err = x) := ⟨_, Lib.hid rfl⟩
      rw [H3.out] at HE4 ⊢
      obtain ⟨s0, s1⟩ := HS4.out.cells
      obtain ⟨f0, f1⟩ := HS4.out.frozen
      go_upto_region 5 with fail
      clear s0 s1 f0 f1
      have OS : Only (fun k => k = gs) w4 (w4.setCell ⟨gs, 1, none⟩ (.string (bstr t3.1))) := (Only.refl (fun k => k = gs) w4).setCell (p := ⟨gs, 1, none⟩) (fun _ => rfl) _
      have HS5 := Lib.hid (HS4.out.set1 (.string (bstr t3.1)))
      have HC5 := Lib.hid (HC4.out.only OS hrs)
      have HE5 := Lib.hid (HE4.out.only OS (fun e => hqs e.symm))
      have O5 : Only (fun k => k = q) w (w4.setCell ⟨gs, 1, none⟩ (.string (bstr t3.1))) := O4.setCell (p := ⟨gs, 1, none⟩) (fun (h : gs < w.heap.size) => absurd h (Nat.not_lt.2 hgs)) _
      clear OS HS4 HC4 HE4 O4
      generalize w4.setCell ⟨gs, 1, none⟩ (.string (bstr t3.1)) = w5 at *
      obtain ⟨s0, s1⟩ := HS5.out.cells
      obtain ⟨r0, r1'⟩ := HC5.out.cells
      obtain ⟨f0, f1⟩ := HC5.out.frozen
      obtain ⟨q0, q1, -, -⟩ := HE5.out.cells
      have HOW : Hid (∀ u v, REyeTo w q t3.2.1 t3.2.2 ((w5.setCell ⟨gr, 0, none⟩ u).setCell ⟨gr, 1, none⟩ v)) := Lib.hid fun u v =>
        ⟨HE5.out.only (set2_only w5 gr u v) (fun e => hqr e.symm), (O5.setCell (p := ⟨gr, 0, none⟩) (fun (h : gr < w.heap.size) => absurd h (Nat.not_lt.2 hgr)) u).setCell (p := ⟨gr, 1, none⟩) (fun (h : gr < w.heap.size) => absurd h (Nat.not_lt.2 hgr)) v⟩
      by_cases he : t3.2.2 = 0
      · have HF : Hid (hrFrom most r err = eNum 8 r err) := Lib.hid (by unfold hrFrom; rw [H3.out]; exact if_pos he)
        have HX : Hid (hrText most r err = t3.1) := Lib.hid (by unfold hrText; rw [H3.out]; exact if_pos he)
        have de : (t3.2.2 != 0) = false := by rw [he]; rfl
        clear he
        generalize eNum 8 r err = FR at *
        go_wp2
        refine bodyPost_ret (results_cell_row rfl _ _ gr _ _ _ _ rfl (set2 _ _ HC5.out) Tryd.underlying34 rfl (by kernel_rfl)) rfl ?_
        exact ⟨by rw [HF.out, HX.out], by rw [H3.out]; exact HOW.out _ _⟩
      · have HF : Hid (hrFrom most r err = 0) := Lib.hid (by unfold hrFrom; rw [H3.out]; exact if_neg he)
        have HX : Hid (hrText most r err = []) := Lib.hid (by unfold hrText; rw [H3.out]; exact if_neg he)
        have de : (t3.2.2 != 0) = true := by simpa using he
        clear he
        generalize eNum 8 r err = FR at *
        go_wp2
        refine bodyPost_ret (results_cell_row rfl _ _ gr _ _ _ _ rfl (set2 _ _ HC5.out) Tryd.underlying34 rfl (by kernel_rfl)) rfl ?_
        exact ⟨by rw [HF.out, HX.out]; rfl, by rw [H3.out]; exact HOW.out _ _⟩
  · have d0 : (e1 == 0) = false := by simpa using h0
    have HE1 : Hid (hrErr1 r err = e1) := Lib.hid (by
      unfold hrErr1
      rw [He1.out]
      split
      · rfl
      · unfold eFail; rw [if_neg h0])
    clear h0
    have HEf := HE3
    have Of := O3
    have HCf := HC3
    have HSf := HS3
    rw [← HE1.out] at HEf
    clear HE3 O3 HC3 HS3 HE1 He1 Hr1
    go_upto_region 4 with fail
    clear q0 q1 p0 p1 s0 s1
    obtain ⟨wf, hwf⟩ : ∃ wf, wf = w3 := ⟨_, rfl⟩
    rw [← hwf] at HEf Of HCf HSf
    rw [← hwf]
    clear hwf
    go_wp2_with fail
    refine (reyeText wf q r1 (hrErr1 r err) most 2 HEf.out (by omega) HL1.out).mono ?_
    rintro e w4 ⟨rfl, E4⟩
    rw [← HT.out] at E4 ⊢
    have HC4 := Lib.hid (HCf.out.only E4.2 hqr)
    have HS4 := Lib.hid (HSf.out.only E4.2 hqs)
    have O4 : Only (fun k => k = q) w w4 := Of.trans E4.2 (fun _ _ h => h)
    have HE4 := Lib.hid E4.1
    clear HEf Of HCf HSf E4 HT
    obtain ⟨t3, H3⟩ : ∃ x, Hid (hrT most r err = x) := ⟨_, Lib.hid rfl⟩
    rw [H3.out] at HE4 ⊢
    obtain ⟨s0, s1⟩ := HS4.out.cells
    obtain ⟨f0, f1⟩ := HS4.out.frozen
    go_upto_region 5 with fail
    clear s0 s1 f0 f1
    have OS : Only (fun k => k = gs) w4 (w4.setCell ⟨gs, 1, none⟩ (.string (bstr t3.1))) := (Only.refl (fun k => k = gs) w4).setCell (p := ⟨gs, 1, none⟩) (fun _ => rfl) _
    have HS5 := Lib.hid (HS4.out.set1 (.string (bstr t3.1)))
    have HC5 := Lib.hid (HC4.out.only OS hrs)
    have HE5 := Lib.hid (HE4.out.only OS (fun e => hqs e.symm))
    have O5 : Only (fun k => k = q) w (w4.setCell ⟨gs, 1, none⟩ (.string (bstr t3.1))) := O4.setCell (p := ⟨gs, 1, none⟩) (fun (h : gs < w.heap.size) => absurd h (Nat.not_lt.2 hgs)) _
    clear OS HS4 HC4 HE4 O4
    generalize w4.setCell ⟨gs, 1, none⟩ (.string (bstr t3.1)) = w5 at *
    obtain ⟨s0, s1⟩ := HS5.out.cells
    obtain ⟨r0, r1'⟩ := HC5.out.cells
    obtain ⟨f0, f1⟩ := HC5.out.frozen
    obtain ⟨q0, q1, -, -⟩ := HE5.out.cells
    have HOW : Hid (∀ u v, REyeTo w q t3.2.1 t3.2.2 ((w5.setCell ⟨gr, 0, none⟩ u).setCell ⟨gr, 1, none⟩ v)) := Lib.hid fun u v =>
      ⟨HE5.out.only (set2_only w5 gr u v) (fun e => hqr e.symm), (O5.setCell (p := ⟨gr, 0, none⟩) (fun (h : gr < w.heap.size) => absurd h (Nat.not_lt.2 hgr)) u).setCell (p := ⟨gr, 1, none⟩) (fun (h : gr < w.heap.size) => absurd h (Nat.not_lt.2 hgr)) v⟩
    by_cases he : t3.2.2 = 0
    · have HF : Hid (hrFrom most r err = eNum 8 r err) := Lib.hid (by unfold hrFrom; rw [H3.out]; exact if_pos he)
      have HX : Hid (hrText most r err = t3.1) := Lib.hid (by unfold hrText; rw [H3.out]; exact if_pos he)
      have de : (t3.2.2 != 0) = false := by rw [he]; rfl
      clear he
      generalize eNum 8 r err = FR at *
      go_wp2
      refine bodyPost_ret (results_cell_row rfl _ _ gr _ _ _ _ rfl (set2 _ _ HC5.out) Tryd.underlying34 rfl (by kernel_rfl)) rfl ?_
      exact ⟨by rw [HF.out, HX.out], by rw [H3.out]; exact HOW.out _ _⟩
    · have HF : Hid (hrFrom most r err = 0) := Lib.hid (by unfold hrFrom; rw [H3.out]; exact if_neg he)
      have HX : Hid (hrText most r err = []) := Lib.hid (by unfold hrText; rw [H3.out]; exact if_neg he)
      have de : (t3.2.2 != 0) = true := by simpa using he
      clear he
      generalize eNum 8 r err = FR at *
      go_wp2
      refine bodyPost_ret (results_cell_row rfl _ _ gr _ _ _ _ rfl (set2 _ _ HC5.out) Tryd.underlying34 rfl (by kernel_rfl)) rfl ?_
      exact ⟨by rw [HF.out, HX.out]; rfl, by rw [H3.out]; exact HOW.out _ _⟩

end Go.Proofs.YtkpenodbjmhoeaaDoor
