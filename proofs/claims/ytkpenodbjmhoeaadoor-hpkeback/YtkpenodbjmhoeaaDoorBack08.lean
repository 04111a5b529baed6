/-
  The law HpkeBack, walked.
-/
import Derived.Test.YtkpenodbjmhoeaaDoorLaw08
import Derived.Test.YtkpenodbjmhoeaaDoorRefHpke
import Derived.Test.YtkpenodbjmhoeaaDoorBase
namespace Go.Proofs.YtkpenodbjmhoeaaDoor
set_option linter.unusedVariables false
set_option linter.unusedSimpArgs false
open Go.RowKit

def Cells4 (g : Nat) (x y z v : Value) (w : World) : Prop := w.cell? ⟨g, 0, none⟩ = some x ∧ w.cell? ⟨g, 1, none⟩ = some y ∧ w.cell? ⟨g, 2, none⟩ = some z ∧ w.cell? ⟨g, 3, none⟩ = some v


theorem CaseAt.only {F : Nat → Prop} {w w' : World} {g : Nat} {x y z v : Value} (h : CaseAt w g x y z v) (hn : Only F w w') (hg : ¬ F g) : CaseAt w' g x y z v := (hn.block g (lt_of_block h) hg).trans h







set_option maxRecDepth 100000 in
set_option maxHeartbeats 2000000 in
theorem backWalk (w : World) (u : Value) (s : List UInt8) (hu : Rd w u s) (x y z v : Value) (info beside t draw : List UInt8) (hx : Rd w x info) (hy : Rd w y beside) (hz : Rd w z t) (hv : Rd w v draw) (hL : Laid w) :
    Calls Tryd.prog 5 #[u, .agg #[x, y, z, v]] w fun e w' => e = .returned (.bool true) ∧ New w w' := by
  have hx' := hx
  have hy' := hy
  have hz' := hz
  have hv' := hv
  obtain ⟨ax, nx, cx, rfl, hax, -⟩ := hx'
  obtain ⟨ay, ny, cy, rfl, hay, -⟩ := hy'
  obtain ⟨az, nz, cz, rfl, haz, -⟩ := hz'
  obtain ⟨av, nv, cv, rfl, hav, -⟩ := hv'
  have HX := Lib.hid hx
  have HY := Lib.hid hy
  have HZ := Lib.hid hz
  have HV := Lib.hid hv
  have HL := Lib.hid hL
  have HAX := Lib.hid hax
  have HAY := Lib.hid hay
  have HAZ := Lib.hid haz
  have HAV := Lib.hid hav
  clear hx hy hz hv hL hax hay haz hav
  have hu' := hu
  obtain ⟨au, nu, cu, rfl, hau, -⟩ := hu'
  have HU := Lib.hid hu
  have HAU := Lib.hid hau
  clear hu hau
  by_cases hs : nx ≤ 200 ∧ ny ≤ 200 ∧ nz ≤ 200 ∧ nv ≤ 100
  · have ds : decide (nx ≤ 200 ∧ ny ≤ 200 ∧ nz ≤ 200 ∧ nv ≤ 100) = true := by simpa using hs
    have LX : Hid (info.length ≤ 65535) := by show _ ≤ _; rw [HAX.out]; omega
    have LY : Hid (beside.length ≤ 1000000) := by show _ ≤ _; rw [HAY.out]; omega
    have LZ : Hid (t.length ≤ 900000) := by show _ ≤ _; rw [HAZ.out]; omega
    have LV : Hid (draw.length ≤ 1099511627776) := by show _ ≤ _; rw [HAV.out]; omega
    by_cases h4 : 100 < nu
    · have d4 : decide ((100 : Int) < (nu : Int)) = true := by simp; omega
      clear h4 hs
      go_enter Tryd.func5, Tryd.ntmps5
      go_wp2_with fail
      generalize hw1 : World.alloc w _ = w1
      have HC1 : Hid (CaseAt w1 w.heap.size (.slice ax nx cx) (.slice ay ny cy) (.slice az nz cz) (.slice av nv cv)) := Lib.hid (by rw [← hw1]; exact heap_alloc_new _ _)
      have N1 : New w w1 := by rw [← hw1]; exact (Below.refl _ _).alloc (Nat.le_refl _) _
      clear hw1
      generalize w.heap.size = g at *
      refine (awake08 w1 (HL.out.new N1)).mono ?_
      rintro e w2 ⟨rfl, N2⟩
      have NN2 := New.trans N1 N2
      have HC2 := Lib.hid (HC1.out.new N2)
      clear HC1 N2 N1
      obtain ⟨c0, c1, c2, c3⟩ := HC2.out.cells
      go_wp2_with fail
      clear c0 c1 c2 c3
      refine (small08 w2 ax ay az av nx cx ny cy nz cz nv cv).mono ?_
      rintro e w3 ⟨rfl, N3⟩
      rw [ds]
      have NN3 := New.trans NN2 N3
      have HC3 := Lib.hid (HC2.out.new N3)
      clear HC2 N3 NN2
      go_wp2_with fail
      refine (awake08 w3 (HL.out.new NN3)).mono ?_
      rintro e w4 ⟨rfl, N4⟩
      go_wp2
      go_ret
      exact ⟨rfl, New.trans NN3 N4⟩
    · have d4 : decide ((100 : Int) < (nu : Int)) = false := by simp; omega
      have LU : Hid (s.length ≤ 1099511627776) := by show _ ≤ _; rw [HAU.out]; omega
      have HNZ : Hid (nz ≤ 200) := Lib.hid hs.2.2.1
      clear h4 HAU hs HAX HAY HAV
      have HK := Lib.hid (fun wx => refKey7 wx s LU.out)
      have hkl := keyOfSec_le s
      have HP := Lib.hid (fun wx => refPublic7 wx (keyOfSec s) (by omega))
      have hpl := powP_lt 3 (keyOfSec s)
      have HRP := Lib.hid (fun wx => refRight7 wx (powP 3 (keyOfSec s)) (by omega))
      have HKD := Lib.hid (fun wx => refKey7 wx draw LV.out)
      have hdl := (keyOfSec_le draw).2
      have HPD : Hid (∀ wx, Calls Tryd.prog 14 #[.int .u64 (keyOfSec draw : Int)] wx fun e w' => e = .returned (.int .u64 (hFrom draw : Int)) ∧ wx = w') := Lib.hid (fun wx => refPublic7 wx (keyOfSec draw) (by omega))
      have HRD := Lib.hid (fun wx => refRight7 wx (hFrom draw) (hFrom_lt draw))
      have HBK := Lib.hid (fun h2 h3 => hpke_back (keyOfSec s) info beside t draw hkl h2 h3)
      have HTL : Hid (rightP (powP 3 (keyOfSec s)) = true → (hsText (powP 3 (keyOfSec s)) info beside t draw).length = t.length + 16) := Lib.hid (fun h => by unfold hsText; rw [if_pos h, hText_length])
      have HTX : Hid ((hsText (powP 3 (keyOfSec s)) info beside t draw).length ≤ 1000000) := Lib.hid (Nat.le_trans (hsText_length _ _ _ _ _) (by have := LZ.out; omega))
      have HFR := Lib.hid (hsFrom_lt (powP 3 (keyOfSec s)) draw)
      have HKK : Hid (keyOfSec s < 18446744073709551616) := Lib.hid (by omega)
      have HSE := Lib.hid (fun wx hi hb ht hd hL => hpkeSeal wx (.slice ax nx cx) (.slice ay ny cy) (.slice az nz cz) (.slice av nv cv) (powP 3 (keyOfSec s)) info beside t draw (by omega) hi LX.out hb LY.out ht (by have := LZ.out; omega) hd LV.out hL)
      unfold SealTo at HSE
      generalize hsFrom (powP 3 (keyOfSec s)) draw = FR at *
      generalize hsText (powP 3 (keyOfSec s)) info beside t draw = TX at *
      generalize hsErr (powP 3 (keyOfSec s)) = ER at *
      generalize powP 3 (keyOfSec s) = PU at *
      generalize keyOfSec s = KS at *
      generalize hFrom draw = FD at *
      generalize keyOfSec draw = KD at *
      clear hkl hpl hdl
      go_enter Tryd.func5, Tryd.ntmps5
      go_wp2_with fail
      generalize hw1 : World.alloc w _ = w1
      have HC1 : Hid (CaseAt w1 w.heap.size (.slice ax nx cx) (.slice ay ny cy) (.slice az nz cz) (.slice av nv cv)) := Lib.hid (by rw [← hw1]; exact heap_alloc_new _ _)
      have N1 : New w w1 := by rw [← hw1]; exact (Below.refl _ _).alloc (Nat.le_refl _) _
      clear hw1
      generalize w.heap.size = g at *
      refine (awake08 w1 (HL.out.new N1)).mono ?_
      rintro e w2 ⟨rfl, N2⟩
      have NN2 := New.trans N1 N2
      have HC2 := Lib.hid (HC1.out.new N2)
      clear HC1 N2 N1
      obtain ⟨c0, c1, c2, c3⟩ := HC2.out.cells
      go_wp2_with fail
      clear c0 c1 c2 c3
      refine (small08 w2 ax ay az av nx cx ny cy nz cz nv cv).mono ?_
      rintro e w3 ⟨rfl, N3⟩
      rw [ds]
      have NN3 := New.trans NN2 N3
      have HC3 := Lib.hid (HC2.out.new N3)
      clear HC2 N3 NN2
      have k0 := run_str (P := Tryd.prog) Tryd.underlying23 Tryd.underlying5 Tryd.underlying9 (HU.out.new NN3)
      go_wp2_with fail
      refine (HK.out w3).mono ?_
      rintro e w4 ⟨rfl, N4⟩
      have NN4 := (New.trans NN3 N4).drew
      have HC4 := Lib.hid ((HC3.out.new N4).new (show New w4 w4.drew from (Below.refl _ _).drew))
      clear HC3 N4 NN3 k0 HK HU
      go_upto_region 4 with fail
      refine region_ordT (Cells4 g (.slice ax nx cx) (.slice ay ny cy) (.slice az nz cz) (.slice av nv cv)) (.take 0 (.take 2 (.take 3 (.take 4 (.take 5 (.take 6 (.take 7 (.take 8 (.take 9 (.two 1 14 (.two 10 14 (.take 11 (.take 12 (.take 13 (.only 14 (.only 15 (.take 16 .nil)))))) (.only 10 (.take 11 (.take 12 (.take 13 (.only 15 (.take 16 .nil))))))) (.only 1 (.only 10 (.take 11 (.take 12 (.take 13 (.only 15 (.take 16 .nil))))))))))))))))) (by kernel_rfl) (by kernel_rfl) HC4.out.cells (fun _ => ?_)
      generalize w4.drew = w5 at *
      unfold Cells4
      iterate 9 (apply ordT_take; (simp only [List.getElem?_toArray, List.getElem?_cons_succ, List.getElem?_cons_zero]; rfl); rfl; (intro w hSw; (try dsimp only at hSw); go_simp; try with_reducible rfl); intro _; try simp only [Act.put, List.setIfInBounds_toArray, List.set_cons_zero, List.set_cons_succ])
      (apply ordT_two; (simp only [List.getElem?_toArray, List.getElem?_cons_succ, List.getElem?_cons_zero]; rfl); rfl; (simp only [List.getElem?_toArray, List.getElem?_cons_succ, List.getElem?_cons_zero]; rfl); rfl)
      · intro K hK
        go_simp
        refine (HP.out w5).mono ?_
        rintro e w6 ⟨rfl, rfl⟩
        refine hK.out _ _ (HC4.out.cells) (fun _ => ?_)
        clear hK K
        try simp only [Act.put, List.setIfInBounds_toArray, List.set_cons_zero, List.set_cons_succ]
        (apply ordT_two; (simp only [List.getElem?_toArray, List.getElem?_cons_succ, List.getElem?_cons_zero]; rfl); rfl; (simp only [List.getElem?_toArray, List.getElem?_cons_succ, List.getElem?_cons_zero]; rfl); rfl)
        · intro K hK
          go_simp
          refine (HSE.out w5 (HX.out.new NN4) (HY.out.new NN4) (HZ.out.new NN4) (HV.out.new NN4) (HL.out.new NN4)).mono ?_
          rintro e w6 ⟨a5, n5, c5, rfl, r5, N5, -⟩
          have R5 := Lib.hid r5
          have HC5 := Lib.hid (HC4.out.new N5)
          have NN5 := New.trans NN4 N5
          clear r5 N5 NN4 HC4
          refine hK.out _ _ (HC5.out.cells) (fun _ => ?_)
          clear hK K
          try simp only [Act.put, List.setIfInBounds_toArray, List.set_cons_zero, List.set_cons_succ]
          iterate 3 (apply ordT_take; (simp only [List.getElem?_toArray, List.getElem?_cons_succ, List.getElem?_cons_zero]; rfl); rfl; (intro w hSw; (try dsimp only at hSw); go_simp; try with_reducible rfl); intro _; try simp only [Act.put, List.setIfInBounds_toArray, List.set_cons_zero, List.set_cons_succ])
          (apply ordT_only; (simp only [List.getElem?_toArray, List.getElem?_cons_succ, List.getElem?_cons_zero]; rfl); rfl; intro K hK)
          go_simp
          generalize hwa : World.alloc w6 _ = wa
          have HSa : Hid (At2 wa w6.heap.size 29 (.int .u64 0) (.slice none 0 0)) := Lib.hid (by rw [← hwa]; exact heap_alloc_new _ _)
          have Na : New w6 wa := by rw [← hwa]; exact (Below.refl _ _).alloc (Nat.le_refl _) _
          have HCa := Lib.hid (HC5.out.new Na)
          have Ra := Lib.hid (R5.out.new Na)
          have NNa := New.trans NN5 Na
          have hap : ∀ k, blk (.slice a5 n5 c5) = some k → TX ≠ [] → ¬ k = w6.heap.size := fun k hk hne e => by have := R5.out.lt hk hne; omega
          have hgg : ¬ g = w6.heap.size := by have := lt_of_block HC5.out; omega
          have hgw := NN5.size
          clear hwa HC5 R5 NN5 Na
          generalize w6.heap.size = gs at *
          refine hK.out _ _ (HCa.out.cells) (fun _ => ?_)
          clear hK K
          try simp only [Act.put, List.setIfInBounds_toArray, List.set_cons_zero, List.set_cons_succ]
          have HAP : Hid (∀ k, blk (.slice a5 n5 c5) = some k → TX ≠ [] → ¬ k = gs) := Lib.hid hap
          have HCz : Hid (CaseAt ((wa.setCell ⟨gs, 0, none⟩ (.int .u64 (FR : Int))).setCell ⟨gs, 1, none⟩ (.slice a5 n5 c5)) g (.slice ax nx cx) (.slice ay ny cy) (.slice az nz cz) (.slice av nv cv)) := Lib.hid (HCa.out.only (set2_only wa gs _ _) hgg)
          have HSz : Hid (At2 ((wa.setCell ⟨gs, 0, none⟩ (.int .u64 (FR : Int))).setCell ⟨gs, 1, none⟩ (.slice a5 n5 c5)) gs 29 (.int .u64 (FR : Int)) (.slice a5 n5 c5)) := Lib.hid (set2 _ _ HSa.out)
          have Rz : Hid (Rd ((wa.setCell ⟨gs, 0, none⟩ (.int .u64 (FR : Int))).setCell ⟨gs, 1, none⟩ (.slice a5 n5 c5)) (.slice a5 n5 c5) TX) := Lib.hid (Ra.out.only (set2_only wa gs _ _) fun k hk hne e => HAP.out k hk hne e)
          have NNz : New w ((wa.setCell ⟨gs, 0, none⟩ (.int .u64 (FR : Int))).setCell ⟨gs, 1, none⟩ (.slice a5 n5 c5)) := set2_new _ _ NNa hgw
          obtain ⟨c0, c1⟩ := HSa.out.cells
          obtain ⟨f0, f1⟩ := HSa.out.frozen
          clear HAP hap HCa Ra NNa hgg hgw
          (apply ordT_only; (simp only [List.getElem?_toArray, List.getElem?_cons_succ, List.getElem?_cons_zero]; rfl); rfl; intro K hK)
          go_simp
          clear c0 c1 f0 f1 HSa
          generalize ((wa.setCell ⟨gs, 0, none⟩ (.int .u64 (FR : Int))).setCell ⟨gs, 1, none⟩ (.slice a5 n5 c5)) = wz at *
          refine hK.out _ _ (HCz.out.cells) (fun _ => ?_)
          clear hK K
          try simp only [Act.put, List.setIfInBounds_toArray, List.set_cons_zero, List.set_cons_succ]
          iterate 1 (apply ordT_take; (simp only [List.getElem?_toArray, List.getElem?_cons_succ, List.getElem?_cons_zero]; rfl); rfl; (intro w hSw; (try dsimp only at hSw); go_simp; try with_reducible rfl); intro _; try simp only [Act.put, List.setIfInBounds_toArray, List.set_cons_zero, List.set_cons_succ])
          apply ordT_done
          obtain ⟨c0, c1, c2, c3⟩ := HCz.out.cells
          have k3 := run_str (P := Tryd.prog) Tryd.underlying23 Tryd.underlying5 Tryd.underlying9 (HV.out.new NNz)
          by_cases r1 : rightP PU = true
          · rw [r1] at HRP
            go_wp2_with fail
            refine (HP.out wz).mono ?_
            rintro e w7 ⟨rfl, rfl⟩
            go_wp2_with fail
            refine (HRP.out wz).mono ?_
            rintro e w7 ⟨rfl, rfl⟩
            go_wp2_with fail
            refine (HKD.out wz).mono ?_
            rintro e w7 ⟨rfl, N7⟩
            have NN7 := New.trans NNz N7
            have HC7 := Lib.hid (HCz.out.new N7)
            have HS7 := Lib.hid (HSz.out.new N7)
            have R7 := Lib.hid (Rz.out.new N7)
            clear c0 c1 c2 c3 k3 HCz HSz Rz N7 NNz
            go_wp2_with fail
            refine (HPD.out w7).mono ?_
            rintro e w8 ⟨rfl, rfl⟩
            by_cases r2 : rightP FD = true
            · rw [r2] at HRD
              obtain ⟨e1, e2, e3⟩ := HBK.out r1 r2
              have E1 := Lib.hid e1
              have E2 := Lib.hid e2
              have E3 := Lib.hid e3
              have hn5 := R7.out
              obtain ⟨_, _, _, hq, hn5, -⟩ := hn5
              cases hq
              rw [HTL.out r1] at hn5
              have kn : ((n5 : Int) == wrap64 ((nz : Int) + 16)) = true := by have := HAZ.out; have := HNZ.out; rw [Go.IntWalk.wrap64_in _ (by omega)]; simp; omega
              clear e1 e2 e3 hn5 r1 r2 HBK HTL
              go_wp2_with fail
              refine (HRD.out w7).mono ?_
              rintro e w8 ⟨rfl, rfl⟩
              obtain ⟨c0, c1, c2, c3⟩ := HC7.out.cells
              obtain ⟨s0, s1⟩ := HS7.out.cells
              go_wp2_with fail
              refine (hpkeOpen w7 KS FR _ _ _ TX info beside HKK.out HFR.out R7.out HTX.out (HX.out.new NN7) LX.out (HY.out.new NN7) LY.out (HL.out.new NN7)).mono ?_
              rintro e w9 ⟨a9, n9, c9, rfl, r9, N9, -⟩
              rw [E2.out]
              rw [E3.out] at r9
              have NN9 := New.trans NN7 N9
              have HC9 := Lib.hid (HC7.out.new N9)
              have HS9 := Lib.hid (HS7.out.new N9)
              clear c0 c1 c2 c3 s0 s1 HC7 HS7
              obtain ⟨c0, c1, c2, c3⟩ := HC9.out.cells
              obtain ⟨s0, s1⟩ := HS9.out.cells
              have k0 := run_str (P := Tryd.prog) Tryd.underlying23 Tryd.underlying5 Tryd.underlying9 r9
              have k1 := run_str (P := Tryd.prog) Tryd.underlying23 Tryd.underlying5 Tryd.underlying9 (HZ.out.new NN9)
              have kb : ((bstr t).toList == (bstr t).toList) = true := by simp
              rw [E1.out]
              clear r9 E1 E2 E3 HC9 HS9 R7
              go_wp2
              go_ret
              exact ⟨rfl, NN9⟩
            · have r2' : rightP FD = false := by simpa using r2
              rw [r2'] at HRD
              clear r2 r2' r1
              go_wp2_with fail
              refine (HRD.out w7).mono ?_
              rintro e w8 ⟨rfl, rfl⟩
              go_wp2
              go_ret
              exact ⟨rfl, NN7⟩
          · have r1' : rightP PU = false := by simpa using r1
            rw [r1'] at HRP
            clear r1 r1'
            go_wp2_with fail
            refine (HP.out wz).mono ?_
            rintro e w7 ⟨rfl, rfl⟩
            go_wp2_with fail
            refine (HRP.out wz).mono ?_
            rintro e w7 ⟨rfl, rfl⟩
            clear c0 c1 c2 c3 k3
            go_wp2
            go_ret
            exact ⟨rfl, NNz⟩
        · intro K hK
          go_simp
          generalize hwl : World.alloc w5 _ = wl
          have HSl : Hid (At2 wl w5.heap.size 29 (.int .u64 0) (.slice none 0 0)) := Lib.hid (by rw [← hwl]; exact heap_alloc_new _ _)
          have Nl : New w5 wl := by rw [← hwl]; exact (Below.refl _ _).alloc (Nat.le_refl _) _
          have hz : w5.heap.size < wl.heap.size := by rw [← hwl]; simp
          have HCl := Lib.hid (HC4.out.new Nl)
          have NNl := New.trans NN4 Nl
          have hgg : ¬ g = w5.heap.size := by have := lt_of_block HC4.out; omega
          have hgw := NN4.size
          clear hwl HC4 NN4 Nl
          generalize w5.heap.size = gs at *
          refine hK.out _ _ (HCl.out.cells) (fun _ => ?_)
          clear hK K
          try simp only [Act.put, List.setIfInBounds_toArray, List.set_cons_zero, List.set_cons_succ]
          (apply ordT_only; (simp only [List.getElem?_toArray, List.getElem?_cons_succ, List.getElem?_cons_zero]; rfl); rfl; intro K hK)
          go_simp
          refine (HSE.out wl (HX.out.new NNl) (HY.out.new NNl) (HZ.out.new NNl) (HV.out.new NNl) (HL.out.new NNl)).mono ?_
          rintro e wa ⟨a5, n5, c5, rfl, r5, N5, hb5⟩
          have Ra := Lib.hid r5
          have HCa := Lib.hid (HCl.out.new N5)
          have HSa := Lib.hid (HSl.out.new N5)
          have NNa := New.trans NNl N5
          have hap : ∀ k, blk (.slice a5 n5 c5) = some k → TX ≠ [] → ¬ k = gs := fun k hk _ e => by have := hb5 k hk; omega
          clear r5 N5 hb5 HCl HSl NNl hz
          refine hK.out _ _ (HCa.out.cells) (fun _ => ?_)
          clear hK K
          try simp only [Act.put, List.setIfInBounds_toArray, List.set_cons_zero, List.set_cons_succ]
          iterate 3 (apply ordT_take; (simp only [List.getElem?_toArray, List.getElem?_cons_succ, List.getElem?_cons_zero]; rfl); rfl; (intro w hSw; (try dsimp only at hSw); go_simp; try with_reducible rfl); intro _; try simp only [Act.put, List.setIfInBounds_toArray, List.set_cons_zero, List.set_cons_succ])
          have HAP : Hid (∀ k, blk (.slice a5 n5 c5) = some k → TX ≠ [] → ¬ k = gs) := Lib.hid hap
          have HCz : Hid (CaseAt ((wa.setCell ⟨gs, 0, none⟩ (.int .u64 (FR : Int))).setCell ⟨gs, 1, none⟩ (.slice a5 n5 c5)) g (.slice ax nx cx) (.slice ay ny cy) (.slice az nz cz) (.slice av nv cv)) := Lib.hid (HCa.out.only (set2_only wa gs _ _) hgg)
          have HSz : Hid (At2 ((wa.setCell ⟨gs, 0, none⟩ (.int .u64 (FR : Int))).setCell ⟨gs, 1, none⟩ (.slice a5 n5 c5)) gs 29 (.int .u64 (FR : Int)) (.slice a5 n5 c5)) := Lib.hid (set2 _ _ HSa.out)
          have Rz : Hid (Rd ((wa.setCell ⟨gs, 0, none⟩ (.int .u64 (FR : Int))).setCell ⟨gs, 1, none⟩ (.slice a5 n5 c5)) (.slice a5 n5 c5) TX) := Lib.hid (Ra.out.only (set2_only wa gs _ _) fun k hk hne e => HAP.out k hk hne e)
          have NNz : New w ((wa.setCell ⟨gs, 0, none⟩ (.int .u64 (FR : Int))).setCell ⟨gs, 1, none⟩ (.slice a5 n5 c5)) := set2_new _ _ NNa hgw
          obtain ⟨c0, c1⟩ := HSa.out.cells
          obtain ⟨f0, f1⟩ := HSa.out.frozen
          clear HAP hap HCa Ra NNa hgg hgw
          (apply ordT_only; (simp only [List.getElem?_toArray, List.getElem?_cons_succ, List.getElem?_cons_zero]; rfl); rfl; intro K hK)
          go_simp
          clear c0 c1 f0 f1 HSa
          generalize ((wa.setCell ⟨gs, 0, none⟩ (.int .u64 (FR : Int))).setCell ⟨gs, 1, none⟩ (.slice a5 n5 c5)) = wz at *
          refine hK.out _ _ (HCz.out.cells) (fun _ => ?_)
          clear hK K
          try simp only [Act.put, List.setIfInBounds_toArray, List.set_cons_zero, List.set_cons_succ]
          iterate 1 (apply ordT_take; (simp only [List.getElem?_toArray, List.getElem?_cons_succ, List.getElem?_cons_zero]; rfl); rfl; (intro w hSw; (try dsimp only at hSw); go_simp; try with_reducible rfl); intro _; try simp only [Act.put, List.setIfInBounds_toArray, List.set_cons_zero, List.set_cons_succ])
          apply ordT_done
          obtain ⟨c0, c1, c2, c3⟩ := HCz.out.cells
          have k3 := run_str (P := Tryd.prog) Tryd.underlying23 Tryd.underlying5 Tryd.underlying9 (HV.out.new NNz)
          by_cases r1 : rightP PU = true
          · rw [r1] at HRP
            go_wp2_with fail
            refine (HP.out wz).mono ?_
            rintro e w7 ⟨rfl, rfl⟩
            go_wp2_with fail
            refine (HRP.out wz).mono ?_
            rintro e w7 ⟨rfl, rfl⟩
            go_wp2_with fail
            refine (HKD.out wz).mono ?_
            rintro e w7 ⟨rfl, N7⟩
            have NN7 := New.trans NNz N7
            have HC7 := Lib.hid (HCz.out.new N7)
            have HS7 := Lib.hid (HSz.out.new N7)
            have R7 := Lib.hid (Rz.out.new N7)
            clear c0 c1 c2 c3 k3 HCz HSz Rz N7 NNz
            go_wp2_with fail
            refine (HPD.out w7).mono ?_
            rintro e w8 ⟨rfl, rfl⟩
            by_cases r2 : rightP FD = true
            · rw [r2] at HRD
              obtain ⟨e1, e2, e3⟩ := HBK.out r1 r2
              have E1 := Lib.hid e1
              have E2 := Lib.hid e2
              have E3 := Lib.hid e3
              have hn5 := R7.out
              obtain ⟨_, _, _, hq, hn5, -⟩ := hn5
              cases hq
              rw [HTL.out r1] at hn5
              have kn : ((n5 : Int) == wrap64 ((nz : Int) + 16)) = true := by have := HAZ.out; have := HNZ.out; rw [Go.IntWalk.wrap64_in _ (by omega)]; simp; omega
              clear e1 e2 e3 hn5 r1 r2 HBK HTL
              go_wp2_with fail
              refine (HRD.out w7).mono ?_
              rintro e w8 ⟨rfl, rfl⟩
              obtain ⟨c0, c1, c2, c3⟩ := HC7.out.cells
              obtain ⟨s0, s1⟩ := HS7.out.cells
              go_wp2_with fail
              refine (hpkeOpen w7 KS FR _ _ _ TX info beside HKK.out HFR.out R7.out HTX.out (HX.out.new NN7) LX.out (HY.out.new NN7) LY.out (HL.out.new NN7)).mono ?_
              rintro e w9 ⟨a9, n9, c9, rfl, r9, N9, -⟩
              rw [E2.out]
              rw [E3.out] at r9
              have NN9 := New.trans NN7 N9
              have HC9 := Lib.hid (HC7.out.new N9)
              have HS9 := Lib.hid (HS7.out.new N9)
              clear c0 c1 c2 c3 s0 s1 HC7 HS7
              obtain ⟨c0, c1, c2, c3⟩ := HC9.out.cells
              obtain ⟨s0, s1⟩ := HS9.out.cells
              have k0 := run_str (P := Tryd.prog) Tryd.underlying23 Tryd.underlying5 Tryd.underlying9 r9
              have k1 := run_str (P := Tryd.prog) Tryd.underlying23 Tryd.underlying5 Tryd.underlying9 (HZ.out.new NN9)
              have kb : ((bstr t).toList == (bstr t).toList) = true := by simp
              rw [E1.out]
              clear r9 E1 E2 E3 HC9 HS9 R7
              go_wp2
              go_ret
              exact ⟨rfl, NN9⟩
            · have r2' : rightP FD = false := by simpa using r2
              rw [r2'] at HRD
              clear r2 r2' r1
              go_wp2_with fail
              refine (HRD.out w7).mono ?_
              rintro e w8 ⟨rfl, rfl⟩
              go_wp2
              go_ret
              exact ⟨rfl, NN7⟩
          · have r1' : rightP PU = false := by simpa using r1
            rw [r1'] at HRP
            clear r1 r1'
            go_wp2_with fail
            refine (HP.out wz).mono ?_
            rintro e w7 ⟨rfl, rfl⟩
            go_wp2_with fail
            refine (HRP.out wz).mono ?_
            rintro e w7 ⟨rfl, rfl⟩
            clear c0 c1 c2 c3 k3
            go_wp2
            go_ret
            exact ⟨rfl, NNz⟩
      · intro K hK
        go_simp
        generalize hwl : World.alloc w5 _ = wl
        have HSl : Hid (At2 wl w5.heap.size 29 (.int .u64 0) (.slice none 0 0)) := Lib.hid (by rw [← hwl]; exact heap_alloc_new _ _)
        have Nl : New w5 wl := by rw [← hwl]; exact (Below.refl _ _).alloc (Nat.le_refl _) _
        have hz : w5.heap.size < wl.heap.size := by rw [← hwl]; simp
        have HCl := Lib.hid (HC4.out.new Nl)
        have NNl := New.trans NN4 Nl
        have hgg : ¬ g = w5.heap.size := by have := lt_of_block HC4.out; omega
        have hgw := NN4.size
        clear hwl HC4 NN4 Nl
        generalize w5.heap.size = gs at *
        refine hK.out _ _ (HCl.out.cells) (fun _ => ?_)
        clear hK K
        try simp only [Act.put, List.setIfInBounds_toArray, List.set_cons_zero, List.set_cons_succ]
        (apply ordT_only; (simp only [List.getElem?_toArray, List.getElem?_cons_succ, List.getElem?_cons_zero]; rfl); rfl; intro K hK)
        go_simp
        refine (HP.out wl).mono ?_
        rintro e w6 ⟨rfl, rfl⟩
        refine hK.out _ _ (HCl.out.cells) (fun _ => ?_)
        clear hK K
        try simp only [Act.put, List.setIfInBounds_toArray, List.set_cons_zero, List.set_cons_succ]
        (apply ordT_only; (simp only [List.getElem?_toArray, List.getElem?_cons_succ, List.getElem?_cons_zero]; rfl); rfl; intro K hK)
        go_simp
        refine (HSE.out wl (HX.out.new NNl) (HY.out.new NNl) (HZ.out.new NNl) (HV.out.new NNl) (HL.out.new NNl)).mono ?_
        rintro e wa ⟨a5, n5, c5, rfl, r5, N5, hb5⟩
        have Ra := Lib.hid r5
        have HCa := Lib.hid (HCl.out.new N5)
        have HSa := Lib.hid (HSl.out.new N5)
        have NNa := New.trans NNl N5
        have hap : ∀ k, blk (.slice a5 n5 c5) = some k → TX ≠ [] → ¬ k = gs := fun k hk _ e => by have := hb5 k hk; omega
        clear r5 N5 hb5 HCl HSl NNl hz
        refine hK.out _ _ (HCa.out.cells) (fun _ => ?_)
        clear hK K
        try simp only [Act.put, List.setIfInBounds_toArray, List.set_cons_zero, List.set_cons_succ]
        iterate 3 (apply ordT_take; (simp only [List.getElem?_toArray, List.getElem?_cons_succ, List.getElem?_cons_zero]; rfl); rfl; (intro w hSw; (try dsimp only at hSw); go_simp; try with_reducible rfl); intro _; try simp only [Act.put, List.setIfInBounds_toArray, List.set_cons_zero, List.set_cons_succ])
        have HAP : Hid (∀ k, blk (.slice a5 n5 c5) = some k → TX ≠ [] → ¬ k = gs) := Lib.hid hap
        have HCz : Hid (CaseAt ((wa.setCell ⟨gs, 0, none⟩ (.int .u64 (FR : Int))).setCell ⟨gs, 1, none⟩ (.slice a5 n5 c5)) g (.slice ax nx cx) (.slice ay ny cy) (.slice az nz cz) (.slice av nv cv)) := Lib.hid (HCa.out.only (set2_only wa gs _ _) hgg)
        have HSz : Hid (At2 ((wa.setCell ⟨gs, 0, none⟩ (.int .u64 (FR : Int))).setCell ⟨gs, 1, none⟩ (.slice a5 n5 c5)) gs 29 (.int .u64 (FR : Int)) (.slice a5 n5 c5)) := Lib.hid (set2 _ _ HSa.out)
        have Rz : Hid (Rd ((wa.setCell ⟨gs, 0, none⟩ (.int .u64 (FR : Int))).setCell ⟨gs, 1, none⟩ (.slice a5 n5 c5)) (.slice a5 n5 c5) TX) := Lib.hid (Ra.out.only (set2_only wa gs _ _) fun k hk hne e => HAP.out k hk hne e)
        have NNz : New w ((wa.setCell ⟨gs, 0, none⟩ (.int .u64 (FR : Int))).setCell ⟨gs, 1, none⟩ (.slice a5 n5 c5)) := set2_new _ _ NNa hgw
        obtain ⟨c0, c1⟩ := HSa.out.cells
        obtain ⟨f0, f1⟩ := HSa.out.frozen
        clear HAP hap HCa Ra NNa hgg hgw
        (apply ordT_only; (simp only [List.getElem?_toArray, List.getElem?_cons_succ, List.getElem?_cons_zero]; rfl); rfl; intro K hK)
        go_simp
        clear c0 c1 f0 f1 HSa
        generalize ((wa.setCell ⟨gs, 0, none⟩ (.int .u64 (FR : Int))).setCell ⟨gs, 1, none⟩ (.slice a5 n5 c5)) = wz at *
        refine hK.out _ _ (HCz.out.cells) (fun _ => ?_)
        clear hK K
        try simp only [Act.put, List.setIfInBounds_toArray, List.set_cons_zero, List.set_cons_succ]
        iterate 1 (apply ordT_take; (simp only [List.getElem?_toArray, List.getElem?_cons_succ, List.getElem?_cons_zero]; rfl); rfl; (intro w hSw; (try dsimp only at hSw); go_simp; try with_reducible rfl); intro _; try simp only [Act.put, List.setIfInBounds_toArray, List.set_cons_zero, List.set_cons_succ])
        apply ordT_done
        obtain ⟨c0, c1, c2, c3⟩ := HCz.out.cells
        have k3 := run_str (P := Tryd.prog) Tryd.underlying23 Tryd.underlying5 Tryd.underlying9 (HV.out.new NNz)
        by_cases r1 : rightP PU = true
        · rw [r1] at HRP
          go_wp2_with fail
          refine (HP.out wz).mono ?_
          rintro e w7 ⟨rfl, rfl⟩
          go_wp2_with fail
          refine (HRP.out wz).mono ?_
          rintro e w7 ⟨rfl, rfl⟩
          go_wp2_with fail
          refine (HKD.out wz).mono ?_
          rintro e w7 ⟨rfl, N7⟩
          have NN7 := New.trans NNz N7
          have HC7 := Lib.hid (HCz.out.new N7)
          have HS7 := Lib.hid (HSz.out.new N7)
          have R7 := Lib.hid (Rz.out.new N7)
          clear c0 c1 c2 c3 k3 HCz HSz Rz N7 NNz
          go_wp2_with fail
          refine (HPD.out w7).mono ?_
          rintro e w8 ⟨rfl, rfl⟩
          by_cases r2 : rightP FD = true
          · rw [r2] at HRD
            obtain ⟨e1, e2, e3⟩ := HBK.out r1 r2
            have E1 := Lib.hid e1
            have E2 := Lib.hid e2
            have E3 := Lib.hid e3
            have hn5 := R7.out
            obtain ⟨_, _, _, hq, hn5, -⟩ := hn5
            cases hq
            rw [HTL.out r1] at hn5
            have kn : ((n5 : Int) == wrap64 ((nz : Int) + 16)) = true := by have := HAZ.out; have := HNZ.out; rw [Go.IntWalk.wrap64_in _ (by omega)]; simp; omega
            clear e1 e2 e3 hn5 r1 r2 HBK HTL
            go_wp2_with fail
            refine (HRD.out w7).mono ?_
            rintro e w8 ⟨rfl, rfl⟩
            obtain ⟨c0, c1, c2, c3⟩ := HC7.out.cells
            obtain ⟨s0, s1⟩ := HS7.out.cells
            go_wp2_with fail
            refine (hpkeOpen w7 KS FR _ _ _ TX info beside HKK.out HFR.out R7.out HTX.out (HX.out.new NN7) LX.out (HY.out.new NN7) LY.out (HL.out.new NN7)).mono ?_
            rintro e w9 ⟨a9, n9, c9, rfl, r9, N9, -⟩
            rw [E2.out]
            rw [E3.out] at r9
            have NN9 := New.trans NN7 N9
            have HC9 := Lib.hid (HC7.out.new N9)
            have HS9 := Lib.hid (HS7.out.new N9)
            clear c0 c1 c2 c3 s0 s1 HC7 HS7
            obtain ⟨c0, c1, c2, c3⟩ := HC9.out.cells
            obtain ⟨s0, s1⟩ := HS9.out.cells
            have k0 := run_str (P := Tryd.prog) Tryd.underlying23 Tryd.underlying5 Tryd.underlying9 r9
            have k1 := run_str (P := Tryd.prog) Tryd.underlying23 Tryd.underlying5 Tryd.underlying9 (HZ.out.new NN9)
            have kb : ((bstr t).toList == (bstr t).toList) = true := by simp
            rw [E1.out]
            clear r9 E1 E2 E3 HC9 HS9 R7
            go_wp2
            go_ret
            exact ⟨rfl, NN9⟩
          · have r2' : rightP FD = false := by simpa using r2
            rw [r2'] at HRD
            clear r2 r2' r1
            go_wp2_with fail
            refine (HRD.out w7).mono ?_
            rintro e w8 ⟨rfl, rfl⟩
            go_wp2
            go_ret
            exact ⟨rfl, NN7⟩
        · have r1' : rightP PU = false := by simpa using r1
          rw [r1'] at HRP
          clear r1 r1'
          go_wp2_with fail
          refine (HP.out wz).mono ?_
          rintro e w7 ⟨rfl, rfl⟩
          go_wp2_with fail
          refine (HRP.out wz).mono ?_
          rintro e w7 ⟨rfl, rfl⟩
          clear c0 c1 c2 c3 k3
          go_wp2
          go_ret
          exact ⟨rfl, NNz⟩
  · have ds : decide (nx ≤ 200 ∧ ny ≤ 200 ∧ nz ≤ 200 ∧ nv ≤ 100) = false := by simpa using hs
    clear hs
    go_enter Tryd.func5, Tryd.ntmps5
    go_wp2_with fail
    generalize hw1 : World.alloc w _ = w1
    have HC1 : Hid (CaseAt w1 w.heap.size (.slice ax nx cx) (.slice ay ny cy) (.slice az nz cz) (.slice av nv cv)) := Lib.hid (by rw [← hw1]; exact heap_alloc_new _ _)
    have N1 : New w w1 := by rw [← hw1]; exact (Below.refl _ _).alloc (Nat.le_refl _) _
    clear hw1
    generalize w.heap.size = g at *
    refine (awake08 w1 (HL.out.new N1)).mono ?_
    rintro e w2 ⟨rfl, N2⟩
    have NN2 := New.trans N1 N2
    have HC2 := Lib.hid (HC1.out.new N2)
    clear HC1 N2 N1
    obtain ⟨c0, c1, c2, c3⟩ := HC2.out.cells
    go_wp2_with fail
    clear c0 c1 c2 c3
    refine (small08 w2 ax ay az av nx cx ny cy nz cz nv cv).mono ?_
    rintro e w3 ⟨rfl, N3⟩
    rw [ds]
    have NN3 := New.trans NN2 N3
    have HC3 := Lib.hid (HC2.out.new N3)
    clear HC2 N3 NN2
    go_wp2_with fail
    refine (awake08 w3 (HL.out.new NN3)).mono ?_
    rintro e w4 ⟨rfl, N4⟩
    go_wp2
    go_ret
    exact ⟨rfl, New.trans NN3 N4⟩

end Go.Proofs.YtkpenodbjmhoeaaDoor
