/-
  The reference's keys, Seal, Open of layer 8.
-/
import Derived.Test.YtkpenodbjmhoeaaDoorHpkeSpec
import Derived.Test.YtkpenodbjmhoeaaDoorRefSealA
import Derived.Test.YtkpenodbjmhoeaaDoorRefMac
import Derived.Test.YtkpenodbjmhoeaaDoorRefKdf
import Derived.Test.YtkpenodbjmhoeaaDoorCell2
import Derived.Test.YtkpenodbjmhoeaaDoorBase
namespace Go.Proofs.YtkpenodbjmhoeaaDoor
set_option linter.unusedVariables false
set_option linter.unusedSimpArgs false
open Go.RowKit

set_option maxRecDepth 100000 in
set_option maxHeartbeats 1000000 in
theorem refKeys8 (w : World) (sh info : List UInt8) (f t : Nat) (hf : f < 18446744073709551616) (ht : t < 18446744073709551616) (hsl : sh.length ≤ 1000) (hil : info.length ≤ 65535) :
    Calls Tryd.prog 31 #[.string (bstr sh), .int .u64 (f : Int), .int .u64 (t : Int), .string (bstr info)] w fun e w' => e = .returned (.tuple #[.string (bstr (hKey sh f t info)), .string (bstr (hNon sh f t info))]) ∧ New w w' := by
  have O1 := Lib.hid fun wx => refOctets7 wx f hf
  have O2 := Lib.hid fun wx => refOctets7 wx t ht
  have j1 := bstr_append sh (be 8 f)
  have j2 := bstr_append (sh ++ be 8 f) (be 8 t)
  have z1 : (bstr sh).size ≤ 1000 := by rw [bstr_size]; exact hsl
  have z2 : (bstr (be 8 f)).size = 8 := by rw [bstr_size, be_length]
  have z3 : (bstr (be 8 t)).size = 8 := by rw [bstr_size, be_length]
  have z4 : (bstr (sh ++ be 8 f)).size ≤ 2000 := by rw [bstr_size, List.length_append, be_length]; omega
  have HT : Hid (∀ wx, Calls Tryd.prog 58 #[.string (ByteArray.mk #[]), .string (bstr ((sh ++ be 8 f) ++ be 8 t))] wx fun e w' => e = .returned (.string (bstr (hSec sh f t))) ∧ New wx w') := Lib.hid fun wx => refTag wx [] ((sh ++ be 8 f) ++ be 8 t) (by simp) (by rw [List.length_append, List.length_append, be_length, be_length]; omega)
  have K1 : Hid (∀ wx, Calls Tryd.prog 37 #[.string (bstr (hSec sh f t)), .string (ByteArray.mk #[107, 101, 121]), .string (bstr info), .int .i64 48] wx fun e w' => e = .returned (.string (bstr (hKey sh f t info))) ∧ New wx w') := Lib.hid fun wx => refLabel04 wx (hSec sh f t) keyLab info 48 (by rw [hSec_length]; decide) (by decide) (by omega) (by decide)
  have K2 : Hid (∀ wx, Calls Tryd.prog 37 #[.string (bstr (hSec sh f t)), .string (ByteArray.mk #[110, 111, 110, 99, 101]), .string (bstr info), .int .i64 16] wx fun e w' => e = .returned (.string (bstr (hNon sh f t info))) ∧ New wx w') := Lib.hid fun wx => refLabel04 wx (hSec sh f t) nonceLab info 16 (by rw [hSec_length]; decide) (by decide) (by omega) (by decide)
  generalize hKey sh f t info = KEY at *
  generalize hNon sh f t info = NON at *
  generalize hSec sh f t = SEC at *
  generalize (sh ++ be 8 f) ++ be 8 t = A2 at *
  generalize sh ++ be 8 f = A1 at *
  generalize be 8 f = B1 at *
  generalize be 8 t = B2 at *
  clear hsl hil
  go_enter Tryd.func31, Tryd.ntmps31
  go_wp2_with fail
  refine (O1.out w).mono ?_
  rintro e w1 ⟨rfl, N1⟩
  go_wp2_with fail
  refine (O2.out w1).mono ?_
  rintro e w2 ⟨rfl, N2⟩
  go_wp2_with fail
  refine (HT.out w2).mono ?_
  rintro e w3 ⟨rfl, N3⟩
  have NN3 := New.trans (New.trans N1 N2) N3
  clear z1 z2 z3 z4 j1 j2 HT O1 O2 N1 N2 N3
  go_wp2_with fail
  refine (K1.out w3).mono ?_
  rintro e w4 ⟨rfl, N4⟩
  go_wp2_with fail
  refine (K2.out w4).mono ?_
  rintro e w5 ⟨rfl, N5⟩
  go_wp2
  go_ret2
  exact ⟨rfl, New.trans NN3 (New.trans N4 N5)⟩

set_option maxRecDepth 100000 in
set_option maxHeartbeats 1000000 in
theorem refSeal8 (w : World) (p : Nat) (info beside t draw : List UInt8) (hp : p < 18446744073709551616) (hil : info.length ≤ 65535) (hbl : beside.length ≤ 1000000) (htl : t.length ≤ 1000000) (hdl : draw.length ≤ 1099511627776) :
    Calls Tryd.prog 10 #[.int .u64 (p : Int), .string (bstr info), .string (bstr beside), .string (bstr t), .string (bstr draw)] w fun e w' => e = .returned (.tuple #[.agg #[.int .u64 (hsFrom p draw : Int), .string (bstr (hsText p info beside t draw))], .int .i64 (hsErr p)]) ∧ New w w' := by
  have HR := Lib.hid (fun wx => refRight7 wx p hp)
  have zi : (bstr info).size = info.length := bstr_size info
  have di : ¬ (65535 : Int) < (info.length : Int) := by omega
  by_cases hr : rightP p = true
  · have HF : Hid (hsFrom p draw = hFrom draw) := Lib.hid (if_pos hr)
    have HX : Hid (hsText p info beside t draw = hText p info beside t draw) := Lib.hid (if_pos hr)
    have HE : Hid (hsErr p = 0) := Lib.hid (if_pos hr)
    rw [hr] at HR
    clear hr
    rw [HF.out, HX.out, HE.out]
    have hkl := (keyOfSec_le draw).2
    have hfl := hFrom_lt draw
    have HK := Lib.hid (fun wx => refKey7 wx draw hdl)
    have HP : Hid (∀ wx, Calls Tryd.prog 14 #[.int .u64 (keyOfSec draw : Int)] wx fun e w' => e = .returned (.int .u64 (hFrom draw : Int)) ∧ wx = w') := Lib.hid (fun wx => refPublic7 wx (keyOfSec draw) (by omega))
    have HS : Hid (∀ wx, Calls Tryd.prog 32 #[.int .u64 (keyOfSec draw : Int), .int .u64 (p : Int)] wx fun e w' => e = .returned (.string (bstr (hSh p draw))) ∧ New wx w') := Lib.hid (fun wx => refShared7 wx (keyOfSec draw) p (by omega) hp)
    have HV := Lib.hid (fun wx => refKeys8 wx (hSh p draw) info (hFrom draw) p hfl hp (by rw [hSh_length]; decide) hil)
    have HM : Hid (∀ wx, Calls Tryd.prog 33 #[.string (bstr (hKey (hSh p draw) (hFrom draw) p info)), .string (bstr (hNon (hSh p draw) (hFrom draw) p info)), .string (bstr beside), .string (bstr t)] wx fun e w' => e = .returned (.string (bstr (hText p info beside t draw))) ∧ New wx w') := Lib.hid (fun wx => refSeal06 wx _ _ beside t (hKey_length _ _ _ _) (hNon_length _ _ _ _) hbl htl)
    generalize hText p info beside t draw = TX at *
    generalize hKey (hSh p draw) (hFrom draw) p info = KEY at *
    generalize hNon (hSh p draw) (hFrom draw) p info = NON at *
    generalize hSh p draw = SH at *
    generalize hFrom draw = FR at *
    generalize keyOfSec draw = KS at *
    clear hil hbl htl hdl HF HX HE
    go_enter Tryd.func10, Tryd.ntmps10
    go_wp2_with fail
    generalize hw1 : World.alloc w _ = w1
    have HC1 : Hid (At2 w1 w.heap.size 34 (.int .u64 0) (.string (ByteArray.mk #[]))) := Lib.hid (by rw [← hw1]; exact heap_alloc_new _ _)
    have N1 : New w w1 := by rw [← hw1]; exact (Below.refl _ _).alloc (Nat.le_refl _) _
    clear hw1
    refine (HR.out w1).mono ?_
    rintro e w2 ⟨rfl, rfl⟩
    go_wp2_with fail
    refine (HK.out w1).mono ?_
    rintro e w2 ⟨rfl, N2⟩
    go_wp2_with fail
    refine (HP.out w2).mono ?_
    rintro e w3 ⟨rfl, rfl⟩
    go_wp2_with fail
    refine (HS.out w2).mono ?_
    rintro e w3 ⟨rfl, N3⟩
    go_wp2_with fail
    refine (HV.out w3).mono ?_
    rintro e w4 ⟨rfl, N4⟩
    go_wp2_with fail
    refine (HM.out w4).mono ?_
    rintro e w5 ⟨rfl, N5⟩
    have NN := New.trans N2 (New.trans N3 (New.trans N4 N5))
    have HC5 := Lib.hid (HC1.out.new NN)
    have NW := New.trans N1 NN
    clear N1 N2 N3 N4 N5 NN HC1 HR HK HP HS HV HM
    obtain ⟨c0, c1⟩ := HC5.out.cells
    obtain ⟨f0, f1⟩ := HC5.out.frozen
    go_wp2
    refine bodyPost_ret (results_cell_tmp rfl _ _ w.heap.size _ _ _ _ rfl (set2 _ _ HC5.out) Tryd.underlying34 rfl (by kernel_rfl)) rfl ?_
    exact ⟨rfl, set2_new _ _ NW (Nat.le_refl _)⟩
  · have hr' : rightP p = false := by simpa using hr
    have HF : Hid (hsFrom p draw = 0) := Lib.hid (if_neg hr)
    have HX : Hid (hsText p info beside t draw = []) := Lib.hid (if_neg hr)
    have HE : Hid (hsErr p = 30) := Lib.hid (if_neg hr)
    rw [hr'] at HR
    clear hr hr'
    rw [HF.out, HX.out, HE.out]
    go_enter Tryd.func10, Tryd.ntmps10
    go_wp2_with fail
    generalize hw1 : World.alloc w _ = w1
    have HC1 : Hid (At2 w1 w.heap.size 34 (.int .u64 0) (.string (ByteArray.mk #[]))) := Lib.hid (by rw [← hw1]; exact heap_alloc_new _ _)
    have N1 : New w w1 := by rw [← hw1]; exact (Below.refl _ _).alloc (Nat.le_refl _) _
    clear hw1
    refine (HR.out w1).mono ?_
    rintro e w2 ⟨rfl, rfl⟩
    obtain ⟨c0, c1⟩ := HC1.out.cells
    obtain ⟨f0, f1⟩ := HC1.out.frozen
    go_wp2
    refine bodyPost_ret (results_cell_tmp rfl _ _ w.heap.size _ _ _ _ rfl (set2 _ _ HC1.out) Tryd.underlying34 rfl (by kernel_rfl)) rfl ?_
    exact ⟨rfl, set2_new _ _ N1 (Nat.le_refl _)⟩

def CellsR2 (g : Nat) (x y : Value) (w : World) : Prop := w.cell? ⟨g, 0, none⟩ = some x ∧ w.cell? ⟨g, 1, none⟩ = some y



set_option maxRecDepth 100000 in
set_option maxHeartbeats 1000000 in
theorem refOpen8 (w : World) (k f : Nat) (s info beside : List UInt8) (hk : k < 18446744073709551616) (hf : f < 18446744073709551616) (hsl : s.length ≤ 1000000) (hil : info.length ≤ 65535) (hbl : beside.length ≤ 1000000) :
    Calls Tryd.prog 12 #[.int .u64 (k : Int), .agg #[.int .u64 (f : Int), .string (bstr s)], .string (bstr info), .string (bstr beside)] w fun e w' => e = .returned (.tuple #[.string (bstr (hoText k f s info beside)), .int .i64 (hoErr k f s info beside)]) ∧ New w w' := by
  have HR := Lib.hid (fun wx => refRight7 wx f hf)
  have zi : (bstr info).size = info.length := bstr_size info
  have di : ¬ (65535 : Int) < (info.length : Int) := by omega
  by_cases h1 : rightP f = true
  · rw [h1] at HR
    by_cases h2 : 1 ≤ k
    · have d1 : ¬ (k : Int) < 1 := by omega
      by_cases h3 : k ≤ 2305843009213693949
      · have d2 : ¬ (2305843009213693949 : Int) < (k : Int) := by omega
        have hr : hoRight k f = true := by unfold hoRight; rw [h1, decide_eq_true ⟨h2, h3⟩]; rfl
        have HE : Hid (hoErr k f s info beside = openErr (hKey (be 8 (powP f k)) f (powP 3 k) info) (hNon (be 8 (powP f k)) f (powP 3 k) info) beside s) := Lib.hid (if_pos hr)
        have HX : Hid (hoText k f s info beside = openText (hKey (be 8 (powP f k)) f (powP 3 k) info) (hNon (be 8 (powP f k)) f (powP 3 k) info) beside s) := Lib.hid (if_pos hr)
        rw [HE.out, HX.out]
        have hpl := powP_lt 3 k
        have HP := Lib.hid (fun wx => refPublic7 wx k hk)
        have HH := Lib.hid (fun wx => refShared7 wx k f hk hf)
        have HV := Lib.hid (fun wx => refKeys8 wx (be 8 (powP f k)) info f (powP 3 k) hf (by omega) (by rw [be_length]; decide) hil)
        have HM := Lib.hid (fun wx => refOpen06 wx (hKey (be 8 (powP f k)) f (powP 3 k) info) (hNon (be 8 (powP f k)) f (powP 3 k) info) beside s (hKey_length _ _ _ _) (hNon_length _ _ _ _) hbl hsl)
        generalize openErr (hKey (be 8 (powP f k)) f (powP 3 k) info) (hNon (be 8 (powP f k)) f (powP 3 k) info) beside s = ER at *
        generalize openText (hKey (be 8 (powP f k)) f (powP 3 k) info) (hNon (be 8 (powP f k)) f (powP 3 k) info) beside s = TX at *
        generalize hKey (be 8 (powP f k)) f (powP 3 k) info = KEY at *
        generalize hNon (be 8 (powP f k)) f (powP 3 k) info = NON at *
        generalize be 8 (powP f k) = SH at *
        generalize powP 3 k = PU at *
        clear h1 h2 h3 hr hsl hil hbl HE HX
        go_enter Tryd.func12, Tryd.ntmps12
        go_wp2_with fail
        generalize hw1 : World.alloc w _ = w1
        have HC1 : Hid (At2 w1 w.heap.size 34 (.int .u64 (f : Int)) (.string (bstr s))) := Lib.hid (by rw [← hw1]; exact heap_alloc_new _ _)
        have N1 : New w w1 := by rw [← hw1]; exact (Below.refl _ _).alloc (Nat.le_refl _) _
        clear hw1
        refine (HR.out w1).mono ?_
        rintro e w2 ⟨rfl, rfl⟩
        clear HR
        obtain ⟨c0, c1⟩ := HC1.out.cells
        go_upto_region 5 with fail
        clear c0 c1
        have N2 : New w1 w1.drew := (Below.refl _ _).drew
        have HC2 := Lib.hid (HC1.out.new N2)
        have NN2 := New.trans N1 N2
        clear HC1 N1 N2
        refine region_ord (CellsR2 w.heap.size (.int .u64 (f : Int)) (.string (bstr s))) [(0, true), (1, true), (2, true), (4, true), (5, true), (6, true), (8, true), (3, false), (7, false), (9, false), (10, true), (11, true), (12, true), (13, true), (14, true)] (by kernel_rfl) (by kernel_rfl) HC2.out.cells (fun _ => ?_)
        generalize w1.drew = w2 at *
        unfold CellsR2
        iterate 7 (apply ord_take; (simp only [List.getElem?_toArray, List.getElem?_cons_succ, List.getElem?_cons_zero]; rfl); rfl; (intro w hSw; (try dsimp only at hSw); go_simp; try with_reducible rfl); intro _; try simp only [Act.put, List.setIfInBounds_toArray, List.set_cons_zero, List.set_cons_succ])
        (apply ord_only; (simp only [List.getElem?_toArray, List.getElem?_cons_succ, List.getElem?_cons_zero]; rfl); rfl; intro K hK)
        go_simp
        refine (HH.out w2).mono ?_
        rintro e w3 ⟨rfl, N3⟩
        have HC3 := Lib.hid (HC2.out.new N3)
        have NN3 := New.trans NN2 N3
        clear N3 NN2 HC2
        refine hK.out _ _ (HC3.out.cells) (fun _ => ?_)
        clear hK K
        try simp only [Act.put, List.setIfInBounds_toArray, List.set_cons_zero, List.set_cons_succ]
        (apply ord_only; (simp only [List.getElem?_toArray, List.getElem?_cons_succ, List.getElem?_cons_zero]; rfl); rfl; intro K hK)
        go_simp
        refine (HP.out w3).mono ?_
        rintro e w4 ⟨rfl, rfl⟩
        refine hK.out _ _ (HC3.out.cells) (fun _ => ?_)
        clear hK K
        try simp only [Act.put, List.setIfInBounds_toArray, List.set_cons_zero, List.set_cons_succ]
        (apply ord_only; (simp only [List.getElem?_toArray, List.getElem?_cons_succ, List.getElem?_cons_zero]; rfl); rfl; intro K hK)
        go_simp
        refine (HV.out w3).mono ?_
        rintro e w4 ⟨rfl, N4⟩
        have HC4 := Lib.hid (HC3.out.new N4)
        have NN4 := New.trans NN3 N4
        clear N4 NN3 HC3
        refine hK.out _ _ (HC4.out.cells) (fun _ => ?_)
        clear hK K
        try simp only [Act.put, List.setIfInBounds_toArray, List.set_cons_zero, List.set_cons_succ]
        iterate 5 (apply ord_take; (simp only [List.getElem?_toArray, List.getElem?_cons_succ, List.getElem?_cons_zero]; rfl); rfl; (intro w hSw; (try dsimp only at hSw); go_simp; try with_reducible rfl); intro _; try simp only [Act.put, List.setIfInBounds_toArray, List.set_cons_zero, List.set_cons_succ])
        apply ord_done
        obtain ⟨c0, c1⟩ := HC4.out.cells
        go_wp2_with fail
        refine (HM.out w4).mono ?_
        rintro e w5 ⟨rfl, N5⟩
        clear c0 c1
        go_wp2
        go_ret2
        exact ⟨rfl, New.trans NN4 N5⟩
      · have d2 : (2305843009213693949 : Int) < (k : Int) := by omega
        have hr : hoRight k f = false := by unfold hoRight; rw [decide_eq_false (fun h => h3 h.2), Bool.and_false]
        have HE : Hid (hoErr k f s info beside = 30) := Lib.hid (if_neg (by rw [hr]; simp))
        have HX : Hid (hoText k f s info beside = []) := Lib.hid (if_neg (by rw [hr]; simp))
        clear hr
        rw [HE.out, HX.out]
        go_enter Tryd.func12, Tryd.ntmps12
        go_wp2_with fail
        generalize hw1 : World.alloc w _ = w1
        have HC1 : Hid (At2 w1 w.heap.size 34 (.int .u64 (f : Int)) (.string (bstr s))) := Lib.hid (by rw [← hw1]; exact heap_alloc_new _ _)
        have N1 : New w w1 := by rw [← hw1]; exact (Below.refl _ _).alloc (Nat.le_refl _) _
        clear hw1
        refine (HR.out w1).mono ?_
        rintro e w2 ⟨rfl, rfl⟩
        clear HR
        go_wp2
        go_ret2
        exact ⟨rfl, N1⟩
    · have d1 : (k : Int) < 1 := by omega
      have hr : hoRight k f = false := by unfold hoRight; rw [decide_eq_false (fun h => h2 h.1), Bool.and_false]
      have HE : Hid (hoErr k f s info beside = 30) := Lib.hid (if_neg (by rw [hr]; simp))
      have HX : Hid (hoText k f s info beside = []) := Lib.hid (if_neg (by rw [hr]; simp))
      clear hr
      rw [HE.out, HX.out]
      go_enter Tryd.func12, Tryd.ntmps12
      go_wp2_with fail
      generalize hw1 : World.alloc w _ = w1
      have HC1 : Hid (At2 w1 w.heap.size 34 (.int .u64 (f : Int)) (.string (bstr s))) := Lib.hid (by rw [← hw1]; exact heap_alloc_new _ _)
      have N1 : New w w1 := by rw [← hw1]; exact (Below.refl _ _).alloc (Nat.le_refl _) _
      clear hw1
      refine (HR.out w1).mono ?_
      rintro e w2 ⟨rfl, rfl⟩
      clear HR
      go_wp2
      go_ret2
      exact ⟨rfl, N1⟩
  · have h1' : rightP f = false := by simpa using h1
    rw [h1'] at HR
    have hr : hoRight k f = false := by unfold hoRight; rw [h1', Bool.false_and]
    have HE : Hid (hoErr k f s info beside = 30) := Lib.hid (if_neg (by rw [hr]; simp))
    have HX : Hid (hoText k f s info beside = []) := Lib.hid (if_neg (by rw [hr]; simp))
    clear hr
    rw [HE.out, HX.out]
    go_enter Tryd.func12, Tryd.ntmps12
    go_wp2_with fail
    generalize hw1 : World.alloc w _ = w1
    have HC1 : Hid (At2 w1 w.heap.size 34 (.int .u64 (f : Int)) (.string (bstr s))) := Lib.hid (by rw [← hw1]; exact heap_alloc_new _ _)
    have N1 : New w w1 := by rw [← hw1]; exact (Below.refl _ _).alloc (Nat.le_refl _) _
    clear hw1
    refine (HR.out w1).mono ?_
    rintro e w2 ⟨rfl, rfl⟩
    clear HR
    go_wp2
    go_ret2
    exact ⟨rfl, N1⟩

end Go.Proofs.YtkpenodbjmhoeaaDoor
