/-
  KeysCrashes' walk, over what it wants of the program.
-/
import Derived.Test.YtnekcdpfphgpbaaLaw16
import Derived.Test.YtnekcdpfphgpbaaRefRest
import Derived.Test.YtnekcdpfphgpbaaBase
namespace Go.Proofs.Ytnekcdpfphgpbaa
set_option linter.unusedVariables false
set_option linter.unusedSimpArgs false
set_option maxRecDepth 100000
open Go.RowKit

set_option maxHeartbeats 1000000 in
theorem crashLaw16 {KM : KObj} (A : KeyApi KM) (hAw : ∀ w : World, Calls Try.prog 5 #[] w fun e w' => e = .returned (.bool true) ∧ New w w') (w : World) (z : Value) (l : List ActK) (hz : RdActK w z l) (cv : Int) (hcv : 0 ≤ cv ∧ cv ≤ 255) (y : Value) (keep : List Int) (hy : RdV w y (keep.map (Value.int .i64))) :
    Calls Try.prog 3 #[z, .int .u8 cv, y] w fun e w' => e = .returned (.bool true) ∧ New w w' := by
  have HZ := Lib.hid hz
  have HY := Lib.hid hy
  have AWk := Lib.hid hAw
  obtain ⟨az, nz, cz, rfl⟩ : ∃ a n c, z = .slice a n c := by obtain ⟨⟨a, n, c, e, _⟩, _⟩ := hz; exact ⟨a, n, c, e⟩
  obtain ⟨ay, ny, cy, rfl, hny, hly, hmy, -⟩ := id hy
  rw [List.length_map] at hny
  unfold maxLen at hmy
  have HNz := Lib.hid hz.len
  have HNy := Lib.hid hny
  have hnz : nz ≤ 9223372036854775807 := by have := HNz.out; omega
  have hny2 : ny ≤ 9223372036854775807 := by omega
  clear hz hy hny hly hmy hAw
  cases hsa : smallK l 20 with
  | false =>
    have HSA := Lib.hid hsa
    clear hsa
    go_enter Try.func3, Try.ntmps3
    go_wp2_with fail
    refine (AWk.out w).mono ?_
    rintro _ w1 ⟨rfl, N1⟩
    have HN1 := Lib.hid N1
    clear N1
    have HSm := Lib.hid (small16 w1 _ l 20 (HZ.out.new HN1.out) (by decide))
    rw [HSA.out, show ((20 : Nat) : Int) = 20 from rfl] at HSm
    go_wp2_with fail
    refine HSm.out.mono ?_
    rintro _ w9 ⟨rfl, rfl⟩
    clear HSm
    go_wp2_with fail
    refine (AWk.out w1).mono ?_
    rintro _ w2 ⟨rfl, N2⟩
    have HN2 := Lib.hid (New.trans HN1.out N2)
    clear N2
    go_wp2
    go_ret
    exact ⟨rfl, HN2.out⟩
  | true =>
    have HSA := Lib.hid hsa
    have HNl : Hid (nz ≤ 20) := Lib.hid (by have := HNz.out; unfold smallK at hsa; rw [Bool.and_eq_true] at hsa; have := of_decide_eq_true hsa.1; omega)
    clear hsa
    by_cases h30 : 20 < ny
    · have h30' : (20 : Int) < (ny : Int) := by omega
      go_enter Try.func3, Try.ntmps3
      go_wp2_with fail
      refine (AWk.out w).mono ?_
      rintro _ w1 ⟨rfl, N1⟩
      have HN1 := Lib.hid N1
      clear N1
      have HSm := Lib.hid (small16 w1 _ l 20 (HZ.out.new HN1.out) (by decide))
      rw [HSA.out, show ((20 : Nat) : Int) = 20 from rfl] at HSm
      go_wp2_with fail
      refine HSm.out.mono ?_
      rintro _ w9 ⟨rfl, rfl⟩
      clear HSm
      go_wp2_with fail
      refine (AWk.out w1).mono ?_
      rintro _ w2 ⟨rfl, N2⟩
      have HN2 := Lib.hid (New.trans HN1.out N2)
      clear N2
      go_wp2
      go_ret
      exact ⟨rfl, HN2.out⟩
    have h30' : ¬ (20 : Int) < (ny : Int) := by omega
    have hnz25 := HNl.out
    clear hnz
    have he : ∀ (wx : World) (k : Nat), (binOp .eql 26 (.pointer (some ⟨k, 0, none⟩)) (.pointer none)).run Try.prog wx = .ok (.bool false) wx := fun _ _ => rfl
    have he2 : ∀ (wx : World) (k : Nat), (binOp .eql 30 (.pointer (some ⟨k, 0, none⟩)) (.pointer none)).run Try.prog wx = .ok (.bool false) wx := fun _ _ => rfl
    go_enter Try.func3, Try.ntmps3
    go_wp2_with fail
    refine (AWk.out w).mono ?_
    rintro _ w1 ⟨rfl, N1⟩
    have HN1 := Lib.hid N1
    clear N1
    have HSm := Lib.hid (small16 w1 _ l 20 (HZ.out.new HN1.out) (by decide))
    rw [HSA.out, show ((20 : Nat) : Int) = 20 from rfl] at HSm
    go_wp2_with fail
    refine HSm.out.mono ?_
    rintro _ w9 ⟨rfl, rfl⟩
    clear HSm
    have HNw := Lib.hid (diskNew w1 16 (by omega))
    go_wp2_with fail
    refine HNw.out.mono ?_
    rintro _ w2 ⟨g, rfl, hd, hn2⟩
    have HD2 := Lib.hid hd
    have HN2 := Lib.hid hn2
    clear hd hn2 HNw
    have HOp := Lib.hid (A.open_ HD2.out 0 8 (by omega) (by omega) (by omega))
    go_wp2_with fail
    refine HOp.out.mono ?_
    rintro _ w3 ⟨p, D', rfl, ht, hon⟩
    have HTo := Lib.hid (And.intro ht hon)
    clear ht hon HOp HD2
    have hmk : ∀ wx : World, (Instr.makeSlice 35 (.int .i64 8) (.int .i64 8)).run Try.prog wx = .ok (.slice (some ⟨wx.heap.size, 0, none⟩) 8 8) (wx.alloc (.cells ((List.replicate 8 false).map Value.bool).toArray 4)) := fun wx => run_makeBools 8 (by omega) wx
    go_upto_region 10 with fail
    clear hmk
    generalize hw4 : World.alloc w3 _ = w4
    have HRow : Hid (w4.heap[w3.heap.size]? = some (.cells ((List.replicate 8 false).map Value.bool).toArray 4 (0, 0))) := Lib.hid (by rw [← hw4, heap_alloc_new]; rfl)
    have N4 : New w3 w4 := by rw [← hw4]; exact (Below.refl _ _).alloc (Nat.le_refl _) _
    have HS0 := Lib.hid (KcSt.start A (New.trans HN1.out HN2.out) (fun k hk => Nat.le_trans HN1.out.size hk) HTo.out.1 HTo.out.2 N4 HRow.out)
    clear hw4 N4 HRow HTo HN1 HN2
    obtain ⟨kb, Hkb⟩ : ∃ x, Hid (w3.heap.size = x) := ⟨_, Lib.hid rfl⟩
    rw [Hkb.out] at HS0
    rw [Hkb.out]
    go_wp2
    go_loopw [12, 13, 14] (fun u i _ wr => ∃ k : Nat, k ≤ nz ∧ i = .int .i64 k ∧ (((k < nz ∨ nz = 0) ∧ u = .int .i64 (-1) ∧ ∃ L kept, KcSt KM w g p kb (-1) L kept kept wr) ∨ (k = nz ∧ 0 < nz ∧ ∃ kept v, u = .int .i64 v ∧ KcFin w g kb kept v wr))) (fun _ i _ _ => nz - (intOf i).toNat)
    case atStart => exact ⟨0, Nat.zero_le _, rfl, .inl ⟨by omega, rfl, _, _, HS0.out⟩⟩
    case round =>
      clear HS0 h30'
      obtain ⟨k, hk, rfl, hor⟩ := hrel
      by_cases hlt : k < nz
      rotate_left
      · obtain rfl : k = nz := by omega
        have hli : ¬ (k : Int) < (k : Int) := by omega
        obtain ⟨kept, v, rfl, hfin⟩ := kcFinOf hor
        have HF := Lib.hid hfin
        clear hor hfin hlt hk
        have HCr := Lib.hid (kcCrash HF.out (.slice ay ny cy) keep HY.out (by have := HNy.out; omega))
        go_wp2_with fail
        refine HCr.out.mono ?_
        rintro _ w5 ⟨⟨cr, rfl⟩, C, hmid⟩
        have HOp := Lib.hid (kcOpen A hmid)
        clear hmid HCr HF
        go_wp2_with fail
        refine HOp.out.mono ?_
        rintro _ w6 ⟨p2, L, rfl, hend⟩
        have HE6 := Lib.hid hend
        clear hend HOp
        go_wp2
        go_loopw [16, 17, 18] (fun i _ _ wr => ∃ b : Nat, b ≤ 8 ∧ i = .int .i64 b ∧ KcEnd KM w g p2 kb L kept v wr) (fun i _ _ _ => 8 - (intOf i).toNat)
        case atStart => exact ⟨0, by omega, rfl, HE6.out⟩
        case round =>
          clear HE6
          obtain ⟨b, hb, rfl, hend⟩ := hrel
          have HE := Lib.hid hend
          clear hend
          by_cases hlt : b < 8
          rotate_left
          · obtain rfl : b = 8 := by omega
            go_wp2
            go_ret
            exact ⟨rfl, HE.out.new⟩
          have hbi : (b : Int) < 8 := by omega
          obtain ⟨F, hobj⟩ := HE.out.obj
          have HGt := Lib.hid (A.get hobj HE.out.ok (by rw [HE.out.len]; omega) b (by omega))
          obtain ⟨x, hx⟩ : ∃ x, kept[b]? = some x := ⟨_, List.getElem?_eq_getElem (by rw [HE.out.row.2]; exact hlt)⟩
          have HX := Lib.hid hx
          obtain ⟨c, HC, hc1⟩ : ∃ c : Nat, Hid (c ≤ 255 ∧ (40 * b) % 256 = c) ∧ IntKind.u8.wrap (40 * (b : Int)) = (c : Int) := ⟨(40 * b) % 256, Lib.hid ⟨by omega, rfl⟩, by rw [IntKind.wrap_u8]; omega⟩
          have hc0 : IntKind.i64.wrap (40 * (b : Int)) = 40 * (b : Int) := IntWalk.i64_in _ (by omega)
          clear hobj hx
          cases hg : kGetK L b with
          | none =>
            rw [hg] at HGt
            have HAg : Hid ((b : Int) ≠ v → x = false) := Lib.hid (fun hne => by have := HE.out.agr.has b hlt hne; rw [HX.out, hg] at this; cases this; rfl)
            clear hg
            go_wp2_with fail
            refine HGt.out.mono ?_
            rintro _ w7 ⟨N7, v7, rfl, ⟨a7, n7, c7, rfl⟩, -⟩
            have HE8 := Lib.hid (HE.out.more A (N7.drew))
            have HS : Hid (KcR kb b x w7.drew) := Lib.hid (HE8.out.row.cell HX.out)
            clear N7 HGt HE
            go_upto_region 33 with fail
            refine region_ord (KcR kb b x) [(0, true), (1, true), (2, true), (3, true), (4, true), (5, true), (6, true), (7, true), (8, true), (9, true), (10, true), (11, true), (12, true), (13, true), (14, true), (15, true), (16, true), (17, true), (18, true), (19, false), (20, false), (21, true), (22, true), (23, true)] (by kernel_rfl) (by kernel_rfl) HS.out (fun _ => ?_)
            generalize w7.drew = w8 at *
            unfold KcR
            by_cases hbv : (b : Int) = v
            · subst hbv
              iterate 4 (apply ord_take; (simp only [List.getElem?_toArray, List.getElem?_cons_succ, List.getElem?_cons_zero]; rfl); rfl; (intro w hSw; (try dsimp only at hSw); go_simp; try with_reducible rfl); intro _; try simp only [Act.put, List.setIfInBounds_toArray, List.set_cons_zero, List.set_cons_succ])
              iterate 6 (apply ord_skip; (simp only [List.getElem?_toArray, List.getElem?_cons_succ, List.getElem?_cons_zero]; rfl); rfl; intro _; try simp only [Act.put, List.setIfInBounds_toArray, List.set_cons_zero, List.set_cons_succ])
              iterate 4 (apply ord_take; (simp only [List.getElem?_toArray, List.getElem?_cons_succ, List.getElem?_cons_zero]; rfl); rfl; (intro w hSw; (try dsimp only at hSw); go_simp; try with_reducible rfl); intro _; try simp only [Act.put, List.setIfInBounds_toArray, List.set_cons_zero, List.set_cons_succ])
              iterate 5 (apply ord_skip; (simp only [List.getElem?_toArray, List.getElem?_cons_succ, List.getElem?_cons_zero]; rfl); rfl; intro _; try simp only [Act.put, List.setIfInBounds_toArray, List.set_cons_zero, List.set_cons_succ])
              (apply ord_pass; (simp only [List.getElem?_toArray, List.getElem?_cons_succ, List.getElem?_cons_zero]; rfl); rfl; intro _; try simp only [Act.put, List.setIfInBounds_toArray, List.set_cons_zero, List.set_cons_succ])
              (apply ord_pass; (simp only [List.getElem?_toArray, List.getElem?_cons_succ, List.getElem?_cons_zero]; rfl); rfl; intro _; try simp only [Act.put, List.setIfInBounds_toArray, List.set_cons_zero, List.set_cons_succ])
              (apply ord_skip; (simp only [List.getElem?_toArray, List.getElem?_cons_succ, List.getElem?_cons_zero]; rfl); rfl; intro _; try simp only [Act.put, List.setIfInBounds_toArray, List.set_cons_zero, List.set_cons_succ])
              iterate 2 (apply ord_take; (simp only [List.getElem?_toArray, List.getElem?_cons_succ, List.getElem?_cons_zero]; rfl); rfl; (intro w hSw; (try dsimp only at hSw); go_simp; try with_reducible rfl); intro _; try simp only [Act.put, List.setIfInBounds_toArray, List.set_cons_zero, List.set_cons_succ])
              apply ord_done
              have HEX := HE8
              go_wp2
              go_roundw
              case rel => exact ⟨b + 1, by omega, by go_num, HEX.out⟩
              case measure => simp [intOf]; omega
            · obtain rfl : x = false := HAg.out hbv
              have hb2 : ((b : Int) != v) = true := by simpa using hbv
              iterate 14 (apply ord_take; (simp only [List.getElem?_toArray, List.getElem?_cons_succ, List.getElem?_cons_zero]; rfl); rfl; (intro w hSw; (try dsimp only at hSw); go_simp; try with_reducible rfl); intro _; try simp only [Act.put, List.setIfInBounds_toArray, List.set_cons_zero, List.set_cons_succ])
              iterate 5 (apply ord_skip; (simp only [List.getElem?_toArray, List.getElem?_cons_succ, List.getElem?_cons_zero]; rfl); rfl; intro _; try simp only [Act.put, List.setIfInBounds_toArray, List.set_cons_zero, List.set_cons_succ])
              (apply ord_pass; (simp only [List.getElem?_toArray, List.getElem?_cons_succ, List.getElem?_cons_zero]; rfl); rfl; intro _; try simp only [Act.put, List.setIfInBounds_toArray, List.set_cons_zero, List.set_cons_succ])
              (apply ord_pass; (simp only [List.getElem?_toArray, List.getElem?_cons_succ, List.getElem?_cons_zero]; rfl); rfl; intro _; try simp only [Act.put, List.setIfInBounds_toArray, List.set_cons_zero, List.set_cons_succ])
              (apply ord_skip; (simp only [List.getElem?_toArray, List.getElem?_cons_succ, List.getElem?_cons_zero]; rfl); rfl; intro _; try simp only [Act.put, List.setIfInBounds_toArray, List.set_cons_zero, List.set_cons_succ])
              iterate 2 (apply ord_take; (simp only [List.getElem?_toArray, List.getElem?_cons_succ, List.getElem?_cons_zero]; rfl); rfl; (intro w hSw; (try dsimp only at hSw); go_simp; try with_reducible rfl); intro _; try simp only [Act.put, List.setIfInBounds_toArray, List.set_cons_zero, List.set_cons_succ])
              apply ord_done
              have HEX := HE8
              go_wp2
              go_roundw
              case rel => exact ⟨b + 1, by omega, by go_num, HEX.out⟩
              case measure => simp [intOf]; omega
          | some t =>
            rw [hg] at HGt
            have HAg : Hid ((b : Int) ≠ v → x = true) := Lib.hid (fun hne => by have := HE.out.agr.has b hlt hne; rw [HX.out, hg] at this; cases this; rfl)
            have hkt : t = keyL16 (c : Int) := by have := HE.out.agr.key b t hlt hg; rw [this]; unfold keyAt16; rw [HC.out.2]
            subst hkt
            clear hg
            go_wp2_with fail
            refine HGt.out.mono ?_
            rintro _ w7 ⟨N7, v7, rfl, ⟨a7, n7, c7, rfl⟩, hrd, -⟩
            have HE8 := Lib.hid (HE.out.more A (N7.drew))
            have ND : New w7 w7.drew := (Below.refl _ _).drew
            have HR8 := Lib.hid ((hrd _ rfl).new ND)
            have HS : Hid (KcR2 kb b x (.slice a7 n7 c7) (keyL16 (c : Int)) w7.drew) := Lib.hid ⟨HE8.out.row.cell HX.out, str10 HR8.out⟩
            clear N7 HGt HE hrd ND
            go_upto_region 33 with fail
            refine region_ord (KcR2 kb b x (.slice a7 n7 c7) (keyL16 (c : Int))) [(0, true), (1, true), (2, true), (3, true), (4, true), (5, true), (6, true), (7, true), (8, true), (9, true), (10, true), (11, true), (12, true), (13, true), (14, true), (15, true), (16, true), (17, true), (18, true), (19, false), (20, false), (21, true), (22, true), (23, true)] (by kernel_rfl) (by kernel_rfl) HS.out (fun _ => ?_)
            generalize w7.drew = w8 at *
            unfold KcR2 Str10
            by_cases hbv : (b : Int) = v
            · subst hbv
              iterate 4 (apply ord_take; (simp only [List.getElem?_toArray, List.getElem?_cons_succ, List.getElem?_cons_zero]; rfl); rfl; (intro w hSw; (try dsimp only at hSw); go_simp; try with_reducible rfl); intro _; try simp only [Act.put, List.setIfInBounds_toArray, List.set_cons_zero, List.set_cons_succ])
              iterate 6 (apply ord_skip; (simp only [List.getElem?_toArray, List.getElem?_cons_succ, List.getElem?_cons_zero]; rfl); rfl; intro _; try simp only [Act.put, List.setIfInBounds_toArray, List.set_cons_zero, List.set_cons_succ])
              iterate 4 (apply ord_take; (simp only [List.getElem?_toArray, List.getElem?_cons_succ, List.getElem?_cons_zero]; rfl); rfl; (intro w hSw; (try dsimp only at hSw); go_simp; try with_reducible rfl); intro _; try simp only [Act.put, List.setIfInBounds_toArray, List.set_cons_zero, List.set_cons_succ])
              iterate 5 (apply ord_take; (simp only [List.getElem?_toArray, List.getElem?_cons_succ, List.getElem?_cons_zero]; rfl); rfl; (intro w hSw; (try dsimp only at hSw); go_simp; try with_reducible rfl); intro _; try simp only [Act.put, List.setIfInBounds_toArray, List.set_cons_zero, List.set_cons_succ])
              (apply ord_only; (simp only [List.getElem?_toArray, List.getElem?_cons_succ, List.getElem?_cons_zero]; rfl); rfl; intro K hK)
              have HKy := Lib.hid (key16 w8 (c : Int) (by have := HC.out.1; omega))
              go_simp
              refine HKy.out.mono ?_
              rintro _ w9 ⟨g9, rfl, hrow9, hge9, N9⟩
              have hst9 := str10 (w := w9) (x := .slice (some ⟨g9, 0, none⟩) 32 32) (a := keyL16 (c : Int)) (by have := rd_row10 hrow9 (by rw [keyL16_length]; omega); rwa [keyL16_length] at this)
              have HSt9 := Lib.hid hst9
              have HE9 := Lib.hid (HE8.out.more A N9)
              have HR9 := Lib.hid (HR8.out.new N9)
              clear hrow9 hge9 N9 HKy hst9
              refine hK.out _ _ (⟨HE9.out.row.cell HX.out, str10 HR9.out⟩) (fun _ => ?_)
              clear hK K
              try simp only [Act.put, List.setIfInBounds_toArray, List.set_cons_zero, List.set_cons_succ]
              (apply ord_only; (simp only [List.getElem?_toArray, List.getElem?_cons_succ, List.getElem?_cons_zero]; rfl); rfl; intro K hK)
              have hst9 := HSt9.out
              unfold Str10 at hst9
              go_simp
              clear hst9
              refine hK.out _ _ (⟨HE9.out.row.cell HX.out, str10 HR9.out⟩) (fun _ => ?_)
              clear hK K
              try simp only [Act.put, List.setIfInBounds_toArray, List.set_cons_zero, List.set_cons_succ]
              iterate 3 (apply ord_take; (simp only [List.getElem?_toArray, List.getElem?_cons_succ, List.getElem?_cons_zero]; rfl); rfl; (intro w hSw; (try dsimp only at hSw); go_simp; try with_reducible rfl); intro _; try simp only [Act.put, List.setIfInBounds_toArray, List.set_cons_zero, List.set_cons_succ])
              apply ord_done
              have HEX := HE9
              go_wp2
              go_roundw
              case rel => exact ⟨b + 1, by omega, by go_num, HEX.out⟩
              case measure => simp [intOf]; omega
            · obtain rfl : x = true := HAg.out hbv
              have hb2 : ((b : Int) != v) = true := by simpa using hbv
              iterate 14 (apply ord_take; (simp only [List.getElem?_toArray, List.getElem?_cons_succ, List.getElem?_cons_zero]; rfl); rfl; (intro w hSw; (try dsimp only at hSw); go_simp; try with_reducible rfl); intro _; try simp only [Act.put, List.setIfInBounds_toArray, List.set_cons_zero, List.set_cons_succ])
              iterate 5 (apply ord_take; (simp only [List.getElem?_toArray, List.getElem?_cons_succ, List.getElem?_cons_zero]; rfl); rfl; (intro w hSw; (try dsimp only at hSw); go_simp; try with_reducible rfl); intro _; try simp only [Act.put, List.setIfInBounds_toArray, List.set_cons_zero, List.set_cons_succ])
              (apply ord_only; (simp only [List.getElem?_toArray, List.getElem?_cons_succ, List.getElem?_cons_zero]; rfl); rfl; intro K hK)
              have HKy := Lib.hid (key16 w8 (c : Int) (by have := HC.out.1; omega))
              go_simp
              refine HKy.out.mono ?_
              rintro _ w9 ⟨g9, rfl, hrow9, hge9, N9⟩
              have hst9 := str10 (w := w9) (x := .slice (some ⟨g9, 0, none⟩) 32 32) (a := keyL16 (c : Int)) (by have := rd_row10 hrow9 (by rw [keyL16_length]; omega); rwa [keyL16_length] at this)
              have HSt9 := Lib.hid hst9
              have HE9 := Lib.hid (HE8.out.more A N9)
              have HR9 := Lib.hid (HR8.out.new N9)
              clear hrow9 hge9 N9 HKy hst9
              refine hK.out _ _ (⟨HE9.out.row.cell HX.out, str10 HR9.out⟩) (fun _ => ?_)
              clear hK K
              try simp only [Act.put, List.setIfInBounds_toArray, List.set_cons_zero, List.set_cons_succ]
              (apply ord_only; (simp only [List.getElem?_toArray, List.getElem?_cons_succ, List.getElem?_cons_zero]; rfl); rfl; intro K hK)
              have hst9 := HSt9.out
              unfold Str10 at hst9
              go_simp
              clear hst9
              refine hK.out _ _ (⟨HE9.out.row.cell HX.out, str10 HR9.out⟩) (fun _ => ?_)
              clear hK K
              try simp only [Act.put, List.setIfInBounds_toArray, List.set_cons_zero, List.set_cons_succ]
              iterate 3 (apply ord_take; (simp only [List.getElem?_toArray, List.getElem?_cons_succ, List.getElem?_cons_zero]; rfl); rfl; (intro w hSw; (try dsimp only at hSw); go_simp; try with_reducible rfl); intro _; try simp only [Act.put, List.setIfInBounds_toArray, List.set_cons_zero, List.set_cons_succ])
              apply ord_done
              have HEX := HE9
              go_wp2
              go_roundw
              case rel => exact ⟨b + 1, by omega, by go_num, HEX.out⟩
              case measure => simp [intOf]; omega
      have hli : (k : Int) < (nz : Int) := by omega
      obtain ⟨rfl, L, kept, hst⟩ := kcStOf hor (by omega)
      have HS := Lib.hid hst
      obtain ⟨x, hx⟩ : ∃ x, l[k]? = some x := ⟨_, List.getElem?_eq_getElem (by have := HNz.out; omega)⟩
      have HXk := Lib.hid hx
      obtain ⟨b, Hb, hb8⟩ : ∃ b : Nat, Hid (x.n % 8 = (b : Int)) ∧ b < 8 := ⟨(x.n % 8).toNat, Lib.hid (by omega), by omega⟩
      have HRs := Lib.hid fun wx => refRest2 wx x.n 8 (by decide) (by decide)
      rw [Hb.out] at HRs
      obtain ⟨y0, hy0⟩ : ∃ y, kept[b]? = some y := ⟨_, List.getElem?_eq_getElem (by rw [HS.out.row.2]; exact hb8)⟩
      have HY0 := Lib.hid hy0
      obtain ⟨bz, off, rfl, c0, c1, c2, c3, c4⟩ := (HZ.out.new HS.out.new).at HXk.out
      clear hor hst hx hy0
      by_cases hlast : k + 1 = nz
      · have hl1 : (nz : Int) - 1 = (k : Int) := by omega
        go_wp2_with fail
        refine (HRs.out _).mono ?_
        rintro _ w9 ⟨rfl, rfl⟩
        clear c0 c1 c2 c3 c4
        have HLi := Lib.hid (kcLimit A HS.out (cv % 5) (by omega))
        go_wp2_with fail
        refine HLi.out.mono ?_
        rintro _ w5 ⟨rfl, hst⟩
        replace HS := Lib.hid hst
        clear hst HLi
        obtain ⟨q5, Hq5⟩ : ∃ q, Hid (cv % 5 = q) := ⟨_, Lib.hid rfl⟩
        rw [Hq5.out] at HS
        have hcell := HS.out.row.cell HY0.out
        cases y0 with
        | true =>
          have HSh := Lib.hid (kcShred A HS.out hb8 HY0.out)
          go_wp2_with fail
          refine HSh.out.mono ?_
          clear hcell
          rintro _ w6 (⟨rfl, q', L', hq, hst6⟩ | ⟨⟨ye, rfl⟩, hst6 | hst6⟩)
          · have HS6 := Lib.hid hst6
            clear HS HSh
            -- kept[b] = y2
            have hcell := HS6.out.row.cell HY0.out
            have hfz := frozen_of_row _ _ b _ _ HS6.out.row.1
            have HS7 := Lib.hid (KcSt.set A HS6.out)
            clear hst6
            go_wp2
            clear hcell hfz
            go_roundw
            case rel => exact ⟨k + 1, by omega, by go_num, .inr ⟨hlast, by omega, _, -1, rfl, HS7.out.fin (-1)⟩⟩
            case measure => simp [intOf]; omega
          · obtain ⟨q', hq, hst6⟩ := hst6
            have HS6 := Lib.hid hst6
            clear hst6 HS HSh
            go_wp2
            go_roundw
            case rel => exact ⟨k + 1, by omega, by go_num, .inr ⟨hlast, by omega, _, (b : Int), rfl, HS6.out.fin (b : Int)⟩⟩
            case measure => simp [intOf]; omega
          · obtain ⟨hq, hst6⟩ := hst6
            have HS6 := Lib.hid hst6
            clear hst6 HS HSh
            go_wp2
            go_roundw
            case rel => exact ⟨k + 1, by omega, by go_num, .inr ⟨hlast, by omega, _, (b : Int), rfl, HS6.out⟩⟩
            case measure => simp [intOf]; omega
        | false =>
          obtain ⟨c, HC, hc1⟩ : ∃ c : Nat, Hid (c ≤ 255 ∧ (40 * b) % 256 = c) ∧ IntKind.u8.wrap (40 * (b : Int)) = (c : Int) := ⟨(40 * b) % 256, Lib.hid ⟨by omega, rfl⟩, by rw [IntKind.wrap_u8]; omega⟩
          have hc0 : IntKind.i64.wrap (40 * (b : Int)) = 40 * (b : Int) := IntWalk.i64_in _ (by omega)
          have HKy := Lib.hid (fun wx => key16 wx (c : Int) (by have := HC.out.1; omega))
          go_wp2_with fail
          refine (HKy.out _).mono ?_
          clear hcell
          rintro _ w5k ⟨g9, rfl, hrow9, hge9, N9⟩
          have hkc : keyL16 (c : Int) = keyAt16 b := by unfold keyAt16; rw [HC.out.2]
          rw [hkc] at hrow9
          have HPt := Lib.hid (kcPut A HS.out N9 hrow9 hge9 hb8 HY0.out)
          clear hrow9 hge9 N9 hkc HKy HC hc0 hc1
          go_wp2_with fail
          refine HPt.out.mono ?_
          rintro _ w6 (⟨rfl, q', L', hq, hst6⟩ | ⟨⟨ye, rfl⟩, hst6 | hst6⟩)
          · have HS6 := Lib.hid hst6
            clear HS HPt
            -- kept[b] = y2
            have hcell := HS6.out.row.cell HY0.out
            have hfz := frozen_of_row _ _ b _ _ HS6.out.row.1
            have HS7 := Lib.hid (KcSt.set A HS6.out)
            clear hst6
            go_wp2
            clear hcell hfz
            go_roundw
            case rel => exact ⟨k + 1, by omega, by go_num, .inr ⟨hlast, by omega, _, -1, rfl, HS7.out.fin (-1)⟩⟩
            case measure => simp [intOf]; omega
          · obtain ⟨q', hq, hst6⟩ := hst6
            have HS6 := Lib.hid hst6
            clear hst6 HS HPt
            go_wp2
            go_roundw
            case rel => exact ⟨k + 1, by omega, by go_num, .inr ⟨hlast, by omega, _, (b : Int), rfl, HS6.out.fin (b : Int)⟩⟩
            case measure => simp [intOf]; omega
          · obtain ⟨hq, hst6⟩ := hst6
            have HS6 := Lib.hid hst6
            clear hst6 HS HPt
            go_wp2
            go_roundw
            case rel => exact ⟨k + 1, by omega, by go_num, .inr ⟨hlast, by omega, _, (b : Int), rfl, HS6.out⟩⟩
            case measure => simp [intOf]; omega
      · have hl1 : ¬ (k : Int) = (nz : Int) - 1 := by omega
        go_wp2_with fail
        refine (HRs.out _).mono ?_
        rintro _ w9 ⟨rfl, rfl⟩
        clear c0 c1 c2 c3 c4
        have hcell := HS.out.row.cell HY0.out
        cases y0 with
        | true =>
          have HSh := Lib.hid (kcShred A HS.out hb8 HY0.out)
          go_wp2_with fail
          refine HSh.out.mono ?_
          clear hcell
          rintro _ w6 (⟨rfl, q', L', hq, hst6⟩ | ⟨⟨ye, rfl⟩, hst6 | hst6⟩)
          · obtain rfl := hq rfl
            have HS6 := Lib.hid hst6
            clear HS HSh
            -- kept[b] = y2
            have hcell := HS6.out.row.cell HY0.out
            have hfz := frozen_of_row _ _ b _ _ HS6.out.row.1
            have HS7 := Lib.hid (KcSt.set A HS6.out)
            clear hst6
            go_wp2
            clear hcell hfz
            go_roundw
            case rel => exact ⟨k + 1, by omega, by go_num, .inl ⟨.inl (by omega), rfl, _, _, HS7.out⟩⟩
            case measure => simp [intOf]; omega
          · obtain ⟨q', hq, hst6⟩ := hst6
            obtain rfl := hq rfl
            have HS6 := Lib.hid hst6
            clear hst6 HS HSh
            go_wp2
            go_roundw
            case rel => exact ⟨k + 1, by omega, by go_num, .inl ⟨.inl (by omega), rfl, _, _, HS6.out⟩⟩
            case measure => simp [intOf]; omega
          · exact absurd rfl hst6.1
        | false =>
          obtain ⟨c, HC, hc1⟩ : ∃ c : Nat, Hid (c ≤ 255 ∧ (40 * b) % 256 = c) ∧ IntKind.u8.wrap (40 * (b : Int)) = (c : Int) := ⟨(40 * b) % 256, Lib.hid ⟨by omega, rfl⟩, by rw [IntKind.wrap_u8]; omega⟩
          have hc0 : IntKind.i64.wrap (40 * (b : Int)) = 40 * (b : Int) := IntWalk.i64_in _ (by omega)
          have HKy := Lib.hid (fun wx => key16 wx (c : Int) (by have := HC.out.1; omega))
          go_wp2_with fail
          refine (HKy.out _).mono ?_
          clear hcell
          rintro _ w5k ⟨g9, rfl, hrow9, hge9, N9⟩
          have hkc : keyL16 (c : Int) = keyAt16 b := by unfold keyAt16; rw [HC.out.2]
          rw [hkc] at hrow9
          have HPt := Lib.hid (kcPut A HS.out N9 hrow9 hge9 hb8 HY0.out)
          clear hrow9 hge9 N9 hkc HKy HC hc0 hc1
          go_wp2_with fail
          refine HPt.out.mono ?_
          rintro _ w6 (⟨rfl, q', L', hq, hst6⟩ | ⟨⟨ye, rfl⟩, hst6 | hst6⟩)
          · obtain rfl := hq rfl
            have HS6 := Lib.hid hst6
            clear HS HPt
            -- kept[b] = y2
            have hcell := HS6.out.row.cell HY0.out
            have hfz := frozen_of_row _ _ b _ _ HS6.out.row.1
            have HS7 := Lib.hid (KcSt.set A HS6.out)
            clear hst6
            go_wp2
            clear hcell hfz
            go_roundw
            case rel => exact ⟨k + 1, by omega, by go_num, .inl ⟨.inl (by omega), rfl, _, _, HS7.out⟩⟩
            case measure => simp [intOf]; omega
          · obtain ⟨q', hq, hst6⟩ := hst6
            obtain rfl := hq rfl
            have HS6 := Lib.hid hst6
            clear hst6 HS HPt
            go_wp2
            go_roundw
            case rel => exact ⟨k + 1, by omega, by go_num, .inl ⟨.inl (by omega), rfl, _, _, HS6.out⟩⟩
            case measure => simp [intOf]; omega
          · exact absurd rfl hst6.1

end Go.Proofs.Ytnekcdpfphgpbaa
