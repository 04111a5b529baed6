/-
  hpke.Open.
-/
import Derived.Test.YtkpenodbjmhoeaaDoorHpkeOps
import Derived.Test.YtkpenodbjmhoeaaDoorBase
namespace Go.Proofs.YtkpenodbjmhoeaaDoor
set_option linter.unusedVariables false
set_option linter.unusedSimpArgs false
open Go.RowKit

/-- what Open gives: its text is new memory -/
def OpenTo (w : World) (k f : Nat) (s info beside : List UInt8) (e : Ending) (w' : World) : Prop :=
  ∃ a n c, e = .returned (.tuple #[.slice a n c, .int .i64 (hoErr k f s info beside)]) ∧ Rd w' (.slice a n c) (hoText k f s info beside) ∧ New w w' ∧ ∀ k, blk (.slice a n c) = some k → w.heap.size ≤ k

/-- the two cells of what is sealed -/
def Cells2 (g : Nat) (x y : Value) (w : World) : Prop := w.cell? ⟨g, 0, none⟩ = some x ∧ w.cell? ⟨g, 1, none⟩ = some y



set_option maxRecDepth 100000 in
set_option maxHeartbeats 1000000 in
theorem hpkeOpen (w : World) (k f : Nat) (xs xi xb : Value) (s info beside : List UInt8) (hk : k < 18446744073709551616) (hf : f < 18446744073709551616) (hs : Rd w xs s) (hsl : s.length ≤ 1000000) (hi : Rd w xi info) (hil : info.length ≤ 65535) (hb : Rd w xb beside) (hbl : beside.length ≤ 1000000) (hL : Laid w) :
    Calls Tryd.prog 11 #[.int .u64 (k : Int), .agg #[.int .u64 (f : Int), xs], xi, xb] w (OpenTo w k f s info beside) := by
  have HS := Lib.hid hs
  have HI := Lib.hid hi
  have HB := Lib.hid hb
  have HL := Lib.hid hL
  obtain ⟨sa, ns, cs, rfl, -⟩ := hs
  obtain ⟨ai, ni, ci, rfl, -⟩ := hi
  obtain ⟨ab, nb, cb, rfl, -⟩ := hb
  have HSL := Lib.hid hsl
  have HIL := Lib.hid hil
  have HBL := Lib.hid hbl
  clear hL hsl hil hbl
  have HR := Lib.hid (fun wx => powRight wx f hf)
  by_cases h1 : rightP f = true
  · rw [h1] at HR
    by_cases h2 : 1 ≤ k
    · have d1 : ¬ (k : Int) < 1 := by omega
      by_cases h3 : k ≤ 2305843009213693949
      · have d2 : ¬ (2305843009213693949 : Int) < (k : Int) := by omega
        have hr : hoRight k f = true := by unfold hoRight; rw [h1, decide_eq_true ⟨h2, h3⟩]; rfl
        have HE : Hid (hoErr k f s info beside = openErr (hKey (be 8 (powP f k)) f (powP 3 k) info) (hNon (be 8 (powP f k)) f (powP 3 k) info) beside s) := Lib.hid (if_pos hr)
        have HX : Hid (hoText k f s info beside = openText (hKey (be 8 (powP f k)) f (powP 3 k) info) (hNon (be 8 (powP f k)) f (powP 3 k) info) beside s) := Lib.hid (if_pos hr)
        have HP : Hid (∀ wx, Calls Tryd.prog 27 #[.int .u64 (k : Int)] wx fun e w' => e = .returned (.int .u64 (powP 3 k : Int)) ∧ New wx w') := Lib.hid (fun wx => powPublic wx k hk)
        have HH : Hid (∀ wx, Calls Tryd.prog 29 #[.int .u64 (k : Int), .int .u64 (f : Int)] wx (OctTo wx (be 8 (powP f k)))) := Lib.hid (fun wx => powShared wx k f hk hf)
        have HBE := Lib.hid (be_length 8 (powP f k))
        have hpl := powP_lt 3 k
        have HKL := Lib.hid (hKey_length (be 8 (powP f k)) f (powP 3 k) info)
        have HNL := Lib.hid (hNon_length (be 8 (powP f k)) f (powP 3 k) info)
        have HV := Lib.hid (fun wx v h1 h2 h3 => hpkeDerived wx v (.slice ai ni ci) (be 8 (powP f k)) info f (powP 3 k) hf (by omega) h1 (by rw [HBE.out]; decide) h2 HIL.out h3)
        generalize hKey (be 8 (powP f k)) f (powP 3 k) info = KEY at *
        generalize hNon (be 8 (powP f k)) f (powP 3 k) info = NON at *
        generalize be 8 (powP f k) = SH at *
        generalize powP 3 k = PU at *
        clear h1 h2 h3 hr
        go_enter Tryd.func11, Tryd.ntmps11
        go_wp2_with fail
        generalize hw1 : World.alloc w _ = w1
        have HC1 : Hid (At2 w1 w.heap.size 29 (.int .u64 (f : Int)) (.slice sa ns cs)) := Lib.hid (by rw [← hw1]; exact heap_alloc_new _ _)
        have N1 : New w w1 := by rw [← hw1]; exact (Below.refl _ _).alloc (Nat.le_refl _) _
        clear hw1
        refine (HR.out w1).mono ?_
        rintro e w2 ⟨rfl, rfl⟩
        clear HR
        obtain ⟨c0, c1⟩ := HC1.out.cells
        go_upto_region 3 with fail
        clear c0 c1
        have N2 : New w1 w1.drew := (Below.refl _ _).drew
        have HC2 := Lib.hid (HC1.out.new N2)
        have NN2 := New.trans N1 N2
        clear HC1 N1 N2
        refine region_ord (Cells2 w.heap.size (.int .u64 (f : Int)) (.slice sa ns cs)) [(0, true), (1, true), (2, true), (4, true), (5, true), (6, true), (8, true), (3, false), (7, false), (9, false), (10, true), (11, true), (12, true), (13, true), (14, true), (15, true), (16, true)] (by kernel_rfl) (by kernel_rfl) HC2.out.cells (fun _ => ?_)
        generalize w1.drew = w2 at *
        unfold Cells2
        iterate 7 (apply ord_take; (simp only [List.getElem?_toArray, List.getElem?_cons_succ, List.getElem?_cons_zero]; rfl); rfl; (intro w hSw; (try dsimp only at hSw); go_simp; try with_reducible rfl); intro _; try simp only [Act.put, List.setIfInBounds_toArray, List.set_cons_zero, List.set_cons_succ])
        (apply ord_only; (simp only [List.getElem?_toArray, List.getElem?_cons_succ, List.getElem?_cons_zero]; rfl); rfl; intro K hK)
        go_simp
        refine (HH.out w2).mono ?_
        rintro e w3 ⟨a3, c3, rfl, r3, -, N3⟩
        rw [HBE.out] at r3 ⊢
        have R3 := Lib.hid r3
        have HC3 := Lib.hid (HC2.out.new N3)
        have NN3 := New.trans NN2 N3
        clear r3 N3 NN2 HC2
        refine hK.out _ _ (HC3.out.cells) (fun _ => ?_)
        clear hK K
        try simp only [Act.put, List.setIfInBounds_toArray, List.set_cons_zero, List.set_cons_succ]
        (apply ord_only; (simp only [List.getElem?_toArray, List.getElem?_cons_succ, List.getElem?_cons_zero]; rfl); rfl; intro K hK)
        go_simp
        refine (HP.out w3).mono ?_
        rintro e w4 ⟨rfl, N4⟩
        have R4 := Lib.hid (R3.out.new N4)
        have HC4 := Lib.hid (HC3.out.new N4)
        have NN4 := New.trans NN3 N4
        clear N4 NN3 HC3 R3
        refine hK.out _ _ (HC4.out.cells) (fun _ => ?_)
        clear hK K
        try simp only [Act.put, List.setIfInBounds_toArray, List.set_cons_zero, List.set_cons_succ]
        (apply ord_only; (simp only [List.getElem?_toArray, List.getElem?_cons_succ, List.getElem?_cons_zero]; rfl); rfl; intro K hK)
        go_simp
        refine (HV.out w4 _ R4.out (HI.out.new NN4) (HL.out.new NN4)).mono ?_
        rintro e w5 ⟨a5, c5, b5, d5, rfl, r5, s5, N5⟩
        have R5 := Lib.hid r5
        have S5 := Lib.hid s5
        have NN5 := New.trans NN4 N5
        have HC5 := Lib.hid (HC4.out.new N5)
        clear HC4 N5 NN4 r5 s5 HV R4
        refine hK.out _ _ (HC5.out.cells) (fun _ => ?_)
        clear hK K
        try simp only [Act.put, List.setIfInBounds_toArray, List.set_cons_zero, List.set_cons_succ]
        iterate 7 (apply ord_take; (simp only [List.getElem?_toArray, List.getElem?_cons_succ, List.getElem?_cons_zero]; rfl); rfl; (intro w hSw; (try dsimp only at hSw); go_simp; try with_reducible rfl); intro _; try simp only [Act.put, List.setIfInBounds_toArray, List.set_cons_zero, List.set_cons_succ])
        apply ord_done
        obtain ⟨c0, c1⟩ := HC5.out.cells
        go_wp2_with fail
        refine (sealOpen w5 _ _ _ _ KEY NON beside s R5.out HKL.out S5.out HNL.out (HB.out.new NN5) HBL.out (HS.out.new NN5) HSL.out (HL.out.new NN5)).mono ?_
        rintro e w6 ⟨a6, n6, c6, rfl, r6, N6, hb6⟩
        have R6 := Lib.hid r6
        have NN6 := New.trans NN5 N6
        have HB6 : Hid (∀ k, blk (.slice a6 n6 c6) = some k → w.heap.size ≤ k) := Lib.hid fun k hk => by have := hb6 k hk; have := NN5.size; omega
        clear c0 c1 r6 N6 hb6 HC5 R5 S5
        go_wp2
        go_ret2
        exact ⟨a6, n6, c6, by rw [HE.out]; rfl, by rw [HX.out]; exact R6.out, NN6, HB6.out⟩
      · have d2 : (2305843009213693949 : Int) < (k : Int) := by omega
        have hr : hoRight k f = false := by unfold hoRight; rw [decide_eq_false (fun h => h3 h.2), Bool.and_false]
        have HE : Hid (hoErr k f s info beside = 30) := Lib.hid (if_neg (by rw [hr]; simp))
        have HX : Hid (hoText k f s info beside = []) := Lib.hid (if_neg (by rw [hr]; simp))
        clear hr
        go_enter Tryd.func11, Tryd.ntmps11
        go_wp2_with fail
        generalize hw1 : World.alloc w _ = w1
        have HC1 : Hid (At2 w1 w.heap.size 29 (.int .u64 (f : Int)) (.slice sa ns cs)) := Lib.hid (by rw [← hw1]; exact heap_alloc_new _ _)
        have N1 : New w w1 := by rw [← hw1]; exact (Below.refl _ _).alloc (Nat.le_refl _) _
        clear hw1
        refine (HR.out w1).mono ?_
        rintro e w2 ⟨rfl, rfl⟩
        clear HR
        go_wp2
        go_ret2
        exact ⟨none, 0, 0, by rw [HE.out]; rfl, by rw [HX.out]; exact Rd.nil _, N1, fun k hk => by cases hk⟩
    · have d1 : (k : Int) < 1 := by omega
      have hr : hoRight k f = false := by unfold hoRight; rw [decide_eq_false (fun h => h2 h.1), Bool.and_false]
      have HE : Hid (hoErr k f s info beside = 30) := Lib.hid (if_neg (by rw [hr]; simp))
      have HX : Hid (hoText k f s info beside = []) := Lib.hid (if_neg (by rw [hr]; simp))
      clear hr
      go_enter Tryd.func11, Tryd.ntmps11
      go_wp2_with fail
      generalize hw1 : World.alloc w _ = w1
      have HC1 : Hid (At2 w1 w.heap.size 29 (.int .u64 (f : Int)) (.slice sa ns cs)) := Lib.hid (by rw [← hw1]; exact heap_alloc_new _ _)
      have N1 : New w w1 := by rw [← hw1]; exact (Below.refl _ _).alloc (Nat.le_refl _) _
      clear hw1
      refine (HR.out w1).mono ?_
      rintro e w2 ⟨rfl, rfl⟩
      clear HR
      go_wp2
      go_ret2
      exact ⟨none, 0, 0, by rw [HE.out]; rfl, by rw [HX.out]; exact Rd.nil _, N1, fun k hk => by cases hk⟩
  · have h1' : rightP f = false := by simpa using h1
    rw [h1'] at HR
    have hr : hoRight k f = false := by unfold hoRight; rw [h1', Bool.false_and]
    have HE : Hid (hoErr k f s info beside = 30) := Lib.hid (if_neg (by rw [hr]; simp))
    have HX : Hid (hoText k f s info beside = []) := Lib.hid (if_neg (by rw [hr]; simp))
    clear hr
    go_enter Tryd.func11, Tryd.ntmps11
    go_wp2_with fail
    generalize hw1 : World.alloc w _ = w1
    have HC1 : Hid (At2 w1 w.heap.size 29 (.int .u64 (f : Int)) (.slice sa ns cs)) := Lib.hid (by rw [← hw1]; exact heap_alloc_new _ _)
    have N1 : New w w1 := by rw [← hw1]; exact (Below.refl _ _).alloc (Nat.le_refl _) _
    clear hw1
    refine (HR.out w1).mono ?_
    rintro e w2 ⟨rfl, rfl⟩
    clear HR
    go_wp2
    go_ret2
    exact ⟨none, 0, 0, by rw [HE.out]; rfl, by rw [HX.out]; exact Rd.nil _, N1, fun k hk => by cases hk⟩

end Go.Proofs.YtkpenodbjmhoeaaDoor
