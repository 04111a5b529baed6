/-
  LogCrashes' walk.
-/
import Derived.Test.YtijkmpcgkhijgaaGreatDoorCrashB
import Derived.Test.YtijkmpcgkhijgaaGreatDoorOpen
import Derived.Test.YtijkmpcgkhijgaaGreatDoorArgInts
namespace Go.Proofs.YtijkmpcgkhijgaaGreatDoor
set_option linter.unusedVariables false
set_option linter.unusedSimpArgs false
set_option maxRecDepth 100000
open Go.RowKit

set_option maxHeartbeats 4000000 in
theorem crashLaw (w : World) (z : Value) (l : List ActL) (hz : RdAct w z l) (cv : Int) (hcv : 0 ≤ cv ∧ cv ≤ 255) (y : Value) (keep : List Int) (hy : RdV w y (keep.map (Value.int .i64))) (hL : Laid w) :
    Calls Tryz.prog 3 #[z, .int .u8 cv, y] w fun e w' => e = .returned (.bool true) ∧ New w w' := by
  have HZ := Lib.hid hz
  have HY := Lib.hid hy
  have HLa := Lib.hid hL
  obtain ⟨az, nz, cz, rfl⟩ : ∃ a n c, z = .slice a n c := by obtain ⟨⟨a, n, c, e, _⟩, _⟩ := hz; exact ⟨a, n, c, e⟩
  obtain ⟨ay, ny, cy, rfl, hny, hly, hmy, -⟩ := id hy
  rw [List.length_map] at hny
  unfold maxLen at hmy
  have HNz := Lib.hid hz.len
  have HNy := Lib.hid hny
  have hnz : nz ≤ 9223372036854775807 := by have := HNz.out; omega
  have hny2 : ny ≤ 9223372036854775807 := by omega
  have he : ∀ (wx : World) (k : Nat), (binOp .eql 26 (.pointer (some ⟨k, 0, none⟩)) (.pointer none)).run Tryz.prog wx = .ok (.bool false) wx := fun _ _ => rfl
  clear hz hy hL hny hly hmy
  cases hsa : smallA l 25 with
  | false =>
    have HSA := Lib.hid hsa
    clear hsa
    go_enter Tryz.func3, Tryz.ntmps3
    go_wp2_with fail
    refine (awake15 w HLa.out).mono ?_
    rintro _ w1 ⟨rfl, N1⟩
    have HN1 := Lib.hid N1
    clear N1
    have HSm := Lib.hid (small15 w1 _ l 25 (HZ.out.new HN1.out) (by decide))
    rw [HSA.out, show ((25 : Nat) : Int) = 25 from rfl] at HSm
    go_wp2_with fail
    refine HSm.out.mono ?_
    rintro _ w9 ⟨rfl, rfl⟩
    clear HSm
    go_wp2_with fail
    refine (awake15 w1 (HLa.out.new HN1.out)).mono ?_
    rintro _ w2 ⟨rfl, N2⟩
    have HN2 := Lib.hid (New.trans HN1.out N2)
    clear N2
    go_wp2
    go_ret
    exact ⟨rfl, HN2.out⟩
  | true =>
    have HSA := Lib.hid hsa
    have HNl : Hid (nz ≤ 25) := Lib.hid (by have := HNz.out; unfold smallA at hsa; rw [Bool.and_eq_true] at hsa; have := of_decide_eq_true hsa.1; omega)
    clear hsa
    by_cases h30 : 30 < ny
    · have h30' : (30 : Int) < (ny : Int) := by omega
      go_enter Tryz.func3, Tryz.ntmps3
      go_wp2_with fail
      refine (awake15 w HLa.out).mono ?_
      rintro _ w1 ⟨rfl, N1⟩
      have HN1 := Lib.hid N1
      clear N1
      have HSm := Lib.hid (small15 w1 _ l 25 (HZ.out.new HN1.out) (by decide))
      rw [HSA.out, show ((25 : Nat) : Int) = 25 from rfl] at HSm
      go_wp2_with fail
      refine HSm.out.mono ?_
      rintro _ w9 ⟨rfl, rfl⟩
      clear HSm
      go_wp2_with fail
      refine (awake15 w1 (HLa.out.new HN1.out)).mono ?_
      rintro _ w2 ⟨rfl, N2⟩
      have HN2 := Lib.hid (New.trans HN1.out N2)
      clear N2
      go_wp2
      go_ret
      exact ⟨rfl, HN2.out⟩
    have h30' : ¬ (30 : Int) < (ny : Int) := by omega
    have hnz25 := HNl.out
    clear hnz
    go_enter Tryz.func3, Tryz.ntmps3
    go_wp2_with fail
    refine (awake15 w HLa.out).mono ?_
    rintro _ w1 ⟨rfl, N1⟩
    have HN1 := Lib.hid N1
    clear N1
    have HSm := Lib.hid (small15 w1 _ l 25 (HZ.out.new HN1.out) (by decide))
    rw [HSA.out, show ((25 : Nat) : Int) = 25 from rfl] at HSm
    go_wp2_with fail
    refine HSm.out.mono ?_
    rintro _ w9 ⟨rfl, rfl⟩
    clear HSm
    have HOp := Lib.hid (opened15 w1 3 4 (by decide) (by decide) (HLa.out.new HN1.out))
    rw [show ((3 : Nat) : Int) = 3 from rfl, show ((4 : Nat) : Int) = 4 from rfl] at HOp
    go_wp2_with fail
    refine HOp.out.mono ?_
    rintro _ w2 ⟨r, g, p, s0, B0, rfl, -, hst⟩
    have HS0 := Lib.hid (hst.base HN1.out)
    clear hst HOp HN1
    go_wp2
    go_loopw [8, 9, 10] (fun v i _ wr => ∃ (k : Nat) (laid : List (List UInt8)), k ≤ nz ∧ i = .int .i64 k ∧ laid.length ≤ k ∧ (((k < nz ∨ nz = 0) ∧ ∃ s B Bd, LwSt w 4 3 r g p (-1) s B Bd v laid (fun _ => False) wr) ∨ (k = nz ∧ 0 < nz ∧ ∃ sure, CrFin w 4 3 r g p sure v laid (fun _ => False) wr))) (fun _ i _ _ => nz - (intOf i).toNat)
    case atStart => exact ⟨0, [], Nat.zero_le _, rfl, Nat.le_refl _, .inl ⟨by omega, s0, _, _, HS0.out⟩⟩
    case round =>
      clear HS0 s0 B0 h30'
      obtain ⟨k, laid, hk, rfl, hlk, hor⟩ := hrel
      have HLk := Lib.hid hlk
      by_cases hlt : k < nz
      rotate_left
      · obtain rfl : k = nz := by omega
        have hli : ¬ (k : Int) < (k : Int) := by omega
        obtain ⟨sure, hfin⟩ := crFinOf hor
        have HF := Lib.hid hfin
        clear hor hfin hlt hk hlk
        obtain ⟨av, cv', rfl, -⟩ := ownSl_form HF.out.own
        have x0 := HF.out.at0
        have x1 := HF.out.at1
        obtain ⟨F, s, ⟨vch, vts, vtl, ps, ho⟩, hsu⟩ := HF.out.log
        have HSu := Lib.hid (lgSure ho)
        rw [hsu] at HSu
        clear ho hsu
        go_wp2_with fail
        refine HSu.out.mono ?_
        rintro _ w9 ⟨rfl, rfl⟩
        clear HSu
        have HCr := Lib.hid (cfCrash HF.out (.slice ay ny cy) keep HY.out (by have := HNy.out; omega))
        go_wp2_with fail
        refine HCr.out.mono ?_
        rintro _ w2 ⟨⟨cr, rfl⟩, C, hmid, hCl, hsure⟩
        have HM2 := Lib.hid hmid
        have HCC := Lib.hid (And.intro hCl hsure)
        clear hmid hCl hsure HCr HF x0 x1
        have x0 := HM2.out.at0
        have HIm := Lib.hid (devImage HM2.out.dev)
        go_wp2_with fail
        refine HIm.out.mono ?_
        rintro _ w3 ⟨g3, c3, rfl, hr3, hc3, hm3, -, N3⟩
        have HM3 := Lib.hid (HM2.out.more N3)
        have hst := run_str (P := Tryz.prog) Tryz.underlying42 Tryz.underlying5 Tryz.underlying9 (hr3.rd hc3 hm3)
        clear N3 hr3 hc3 hm3 HIm HM2 x0
        have HLd := Lib.hid (rdkLoad w3 C 13 HCC.out.1 (by decide))
        go_wp2_with fail
        refine HLd.out.mono ?_
        rintro _ w4 ⟨ge, vS, rfl, hrd, N4⟩
        clear hst
        have HOp1 := Lib.hid (crOpen1 HM3.out N4 hrd HLa.out (by decide) (by decide))
        have x0 := (HM3.out.more N4).at0
        have HB0 := Lib.hid HM3.out.new.size
        rw [show ((3 : Nat) : Int) = 3 from rfl, show ((4 : Nat) : Int) = 4 from rfl] at HOp1
        clear hrd N4 HLd HM3
        go_wp2_with fail
        refine HOp1.out.mono ?_
        rintro _ w5 ⟨p2, X5, C5, rfl, hm5, ho5, hvg, hs5⟩
        obtain ⟨tt, tc, hf1, hf2, hf3, hf4, hf5⟩ := crFacts HCC.out.1 hs5 HCC.out.2
        obtain ⟨s2, Hs2⟩ : ∃ s2, Hid (ldS (secs C 1 (3 * 4)) (128 * 4) 3 = s2) := ⟨_, Lib.hid rfl⟩
        obtain ⟨s3, Hs3⟩ : ∃ s3, Hid (ldS (secs C5 1 (3 * 4)) (128 * 4) 3 = s3) := ⟨_, Lib.hid rfl⟩
        rw [Hs2.out] at hf1 hf2 ho5
        rw [Hs3.out] at hf3 hf4
        have HT := Lib.hid hf5
        have HE2 := Lib.hid (And.intro hf1 hf2)
        have HE3 := Lib.hid (And.intro hf3 hf4)
        have HM5 := Lib.hid hm5
        have HO5 := Lib.hid ho5
        have HVg := Lib.hid hvg
        clear hf1 hf2 hf3 hf4 hf5 hm5 ho5 hvg hs5 HOp1 x0 HCC
        obtain ⟨F2, hl2, -⟩ := HO5.out.log
        have HTx := lgTextsAt hl2 (by rw [HE2.out.1]; have := HT.out.2.2.1; omega) (by rw [HE2.out.1]; exact HT.out.2.1)
        rw [HE2.out.1] at HTx
        replace HTx := Lib.hid HTx
        clear hl2
        go_wp2_with fail
        refine HTx.out.mono ?_
        rintro _ w6 ⟨N6, a6, n6, c6, qs6, rfl, hr6, hq6⟩
        have hq6l : qs6.length = tt.length := by rw [← hq6, List.length_map]
        have HRt := refTextsOwn w6 _ qs6 hr6 (by have := HT.out.2.2.1; omega)
        rw [hq6] at HRt
        replace HRt := Lib.hid HRt
        have HN6 := Lib.hid N6
        clear N6 hr6 hq6 hq6l HTx
        go_wp2_with fail
        refine HRt.out.mono ?_
        rintro _ w7 ⟨N7, a7, c7, rfl, hw7⟩
        obtain ⟨X7, hm7, ho7, hg7⟩ := crGot HM5.out HO5.out HN6.out N7 hw7
        have HM7 := Lib.hid hm7
        have HO7 := Lib.hid ho7
        have HGg := Lib.hid hg7
        have x0 := HM7.out.at0
        clear hm7 ho7 hg7 N7 hw7 HRt HN6 HM5 HO5
        have HCr := Lib.hid (crCrash HM7.out HO7.out)
        go_wp2_with fail
        refine HCr.out.mono ?_
        rintro _ w8 ⟨⟨c8, rfl⟩, hm8, ho8⟩
        have HM8 := Lib.hid hm8
        have HO8 := Lib.hid ho8
        clear hm8 ho8 HCr HM7 HO7 x0
        have x0 := HM8.out.at0
        have HOp2 := Lib.hid (crOpen2 HM8.out HO8.out HLa.out (by decide) (by decide))
        rw [show ((3 : Nat) : Int) = 3 from rfl, show ((4 : Nat) : Int) = 4 from rfl, Hs3.out] at HOp2
        clear HM8 HO8
        go_wp2_with fail
        refine HOp2.out.mono ?_
        rintro _ w9 ⟨p3, rfl, he9⟩
        have HV9 := Lib.hid (he9.more (Below.refl _ _).drew)
        clear he9 HOp2 x0
        go_upto_region 26 with fail
        refine region_ordT (fun _ => True) (.take 0 (.take 1 (.take 2 (.take 3 (.take 4 (.take 5 (.take 6 (.take 7 (.take 10 (.only 8 (.only 9 (.only 11 (.take 12 (.take 13 (.take 14 (.take 15 (.take 18 (.only 16 (.two 17 19 (.only 19 (.only 20 (.take 21 (.take 22 .nil)))) (.two 17 20 (.only 20 (.take 21 (.take 22 .nil))) (.only 17 (.take 21 (.take 22 .nil))))))))))))))))))))))) (by kernel_rfl) (by kernel_rfl) trivial (fun _ => ?_)
        generalize w9.drew = w9' at *
        iterate 9 (apply ordT_take; (simp only [List.getElem?_toArray, List.getElem?_cons_succ, List.getElem?_cons_zero]; rfl); rfl; (intro w hSw; (try dsimp only at hSw); go_simp; try with_reducible rfl); intro _; try simp only [Act.put, List.setIfInBounds_toArray, List.set_cons_zero, List.set_cons_succ])
        obtain ⟨F3, hl3⟩ := HV9.out.two
        have HTx := lgTextsAt hl3 (by rw [HE3.out.1]; have := HT.out.2.2.1; omega) (by rw [HE3.out.1]; exact HT.out.2.1)
        rw [HE3.out.1] at HTx
        replace HTx := Lib.hid HTx
        clear hl3
        (apply ordT_only; (simp only [List.getElem?_toArray, List.getElem?_cons_succ, List.getElem?_cons_zero]; rfl); rfl; intro K hK)
        go_simp
        refine HTx.out.mono ?_
        rintro _ wa ⟨Na, aa, na, ca, qsa, rfl, hra, hqa⟩
        have HVa := Lib.hid (HV9.out.more Na)
        have hqal : qsa.length = tt.length := by rw [← hqa, List.length_map]
        have HRt := refTexts wa _ qsa hra (by have := HT.out.2.2.1; omega)
        rw [hqa] at HRt
        replace HRt := Lib.hid HRt
        clear Na hra hqa hqal HTx HV9
        refine hK.out _ _ (trivial) (fun _ => ?_)
        clear hK K
        try simp only [Act.put, List.setIfInBounds_toArray, List.set_cons_zero, List.set_cons_succ]
        (apply ordT_only; (simp only [List.getElem?_toArray, List.getElem?_cons_succ, List.getElem?_cons_zero]; rfl); rfl; intro K hK)
        go_simp
        refine HRt.out.mono ?_
        rintro _ wb ⟨Nb, ab, cb, rfl, hrb⟩
        have HVb := Lib.hid (HVa.out.more Nb)
        have HSm := Lib.hid (refSameEq wb _ _ tt hrb HVb.out.obj.rdg (by have := HT.out.2.2.1; omega))
        clear Nb hrb HRt HVa
        refine hK.out _ _ (trivial) (fun _ => ?_)
        clear hK K
        try simp only [Act.put, List.setIfInBounds_toArray, List.set_cons_zero, List.set_cons_succ]
        (apply ordT_only; (simp only [List.getElem?_toArray, List.getElem?_cons_succ, List.getElem?_cons_zero]; rfl); rfl; intro K hK)
        go_simp
        refine HSm.out.mono ?_
        rintro _ wc ⟨rfl, Nc⟩
        have HVc := Lib.hid (HVb.out.more Nc)
        clear Nc HSm HVb
        refine hK.out _ _ (trivial) (fun _ => ?_)
        clear hK K
        try simp only [Act.put, List.setIfInBounds_toArray, List.set_cons_zero, List.set_cons_succ]
        iterate 5 (apply ordT_take; (simp only [List.getElem?_toArray, List.getElem?_cons_succ, List.getElem?_cons_zero]; rfl); rfl; (intro w hSw; (try dsimp only at hSw); go_simp; try with_reducible rfl); intro _; try simp only [Act.put, List.setIfInBounds_toArray, List.set_cons_zero, List.set_cons_succ])
        obtain ⟨F3, hl3⟩ := HVc.out.two
        have HCh := lgChainAt hl3
        rw [HE3.out.2] at HCh
        replace HCh := Lib.hid HCh
        clear hl3
        (apply ordT_only; (simp only [List.getElem?_toArray, List.getElem?_cons_succ, List.getElem?_cons_zero]; rfl); rfl; intro K hK)
        go_simp
        refine HCh.out.mono ?_
        rintro _ wd ⟨ad, nd, cd, rfl, hrd, Nd, -⟩
        have HC1 := Lib.hid hrd
        have HV := Lib.hid (HVc.out.more Nd)
        obtain ⟨F2, hl2, -⟩ := HV.out.obj.log
        have HL2 := Lib.hid hl2
        clear hrd Nd HCh HVc hl2
        refine hK.out _ _ (trivial) (fun _ => ?_)
        clear hK K
        try simp only [Act.put, List.setIfInBounds_toArray, List.set_cons_zero, List.set_cons_succ]
        (apply ordT_two; (simp only [List.getElem?_toArray, List.getElem?_cons_succ, List.getElem?_cons_zero]; rfl); rfl; (simp only [List.getElem?_toArray, List.getElem?_cons_succ, List.getElem?_cons_zero]; rfl); rfl)
        · intro K hK
          -- string(again.Chain())
          have hc1 := run_str (P := Tryz.prog) Tryz.underlying42 Tryz.underlying5 Tryz.underlying9 HC1.out
          go_simp
          clear hc1
          refine hK.out _ _ (trivial) (fun _ => ?_)
          clear hK K
          try simp only [Act.put, List.setIfInBounds_toArray, List.set_cons_zero, List.set_cons_succ]
          (apply ordT_only; (simp only [List.getElem?_toArray, List.getElem?_cons_succ, List.getElem?_cons_zero]; rfl); rfl; intro K hK)
          have HCh := lgChainAt HL2.out
          rw [HE2.out.2] at HCh
          replace HCh := Lib.hid HCh
          go_simp
          refine HCh.out.mono ?_
          rintro _ wf ⟨af, nf, cf, rfl, hrf, Nf, -⟩
          have HC2 := Lib.hid hrf
          have HC1' := Lib.hid (HC1.out.new Nf)
          have HV' := Lib.hid (HV.out.more Nf)
          clear hrf Nf HCh HC1 HV HL2
          have HC1 := HC1'
          have HV := HV'
          clear HC1' HV'
          refine hK.out _ _ (trivial) (fun _ => ?_)
          clear hK K
          try simp only [Act.put, List.setIfInBounds_toArray, List.set_cons_zero, List.set_cons_succ]
          (apply ordT_only; (simp only [List.getElem?_toArray, List.getElem?_cons_succ, List.getElem?_cons_zero]; rfl); rfl; intro K hK)
          have hc2 := run_str (P := Tryz.prog) Tryz.underlying42 Tryz.underlying5 Tryz.underlying9 HC2.out
          go_simp
          clear hc2
          refine hK.out _ _ (trivial) (fun _ => ?_)
          clear hK K
          try simp only [Act.put, List.setIfInBounds_toArray, List.set_cons_zero, List.set_cons_succ]
          iterate 2 (apply ordT_take; (simp only [List.getElem?_toArray, List.getElem?_cons_succ, List.getElem?_cons_zero]; rfl); rfl; (intro w hSw; (try dsimp only at hSw); go_simp; try with_reducible rfl); intro _; try simp only [Act.put, List.setIfInBounds_toArray, List.set_cons_zero, List.set_cons_succ])
          apply ordT_done
          have hrf := crRef HV.out HVg.out HGg.out (by rw [secL_length]) HB0.out
          rw [HT.out.1] at hrf
          have HRf := Lib.hid hrf
          clear hrf
          go_wp2_with fail
          refine HRf.out.mono ?_
          rintro _ we ⟨gm, mT, rfl, hc8, hmT, hlv, hgt, hne⟩
          have hl1 : laid.length ≤ 1099511627776 := by have := HLk.out; have := HNl.out; omega
          have hl2 : tt.length ≤ 1099511627776 := by have := HT.out.2.2.1; omega
          have HBg1 := Lib.hid (refBegins we _ mT laid tt hlv hmT hl1 hl2)
          have HLV := Lib.hid hlv
          have HGT := Lib.hid hgt
          have HNE := Lib.hid hne
          have HSure : Hid (sure ≤ tt.length) := Lib.hid HT.out.2.2.2
          have hsi : (sure : Int) ≤ (tt.length : Int) := by have := HT.out.2.2.2; omega
          have HL12 := Lib.hid (And.intro hl1 hl2)
          clear HRf hmT hlv hgt hne hl1 hl2 HV HC1 HC2
          cases hbb : beginsL laid tt with
          | false =>
            rw [hbb] at HBg1
            clear hbb
            go_wp2_with fail
            refine HBg1.out.mono ?_
            rintro _ wg ⟨rfl, Ng⟩
            have HNg := Lib.hid (New.trans HNE.out Ng)
            clear Ng HBg1
            go_wp2
            go_ret
            exact ⟨rfl, HNg.out⟩
          | true =>
            rw [hbb] at HBg1
            go_wp2_with fail
            refine HBg1.out.mono ?_
            rintro _ wg ⟨rfl, Ng⟩
            have HBg2 := refBegins wg _ _ laid tt (HLV.out.new Ng) (HGT.out.new Ng) HL12.out.1 HL12.out.2
            rw [hbb] at HBg2
            replace HBg2 := Lib.hid HBg2
            have HNg := Lib.hid (New.trans HNE.out Ng)
            clear Ng HBg1 hbb hc8
            go_wp2_with fail
            refine HBg2.out.mono ?_
            rintro _ wh ⟨rfl, Nh⟩
            have HNh := Lib.hid (New.trans HNg.out Nh)
            clear Nh HBg2
            go_wp2
            go_ret
            exact ⟨rfl, HNh.out⟩
        · intro K hK
          have HCh := lgChainAt HL2.out
          rw [HE2.out.2] at HCh
          replace HCh := Lib.hid HCh
          go_simp
          refine HCh.out.mono ?_
          rintro _ wf ⟨af, nf, cf, rfl, hrf, Nf, -⟩
          have HC2 := Lib.hid hrf
          have HC1' := Lib.hid (HC1.out.new Nf)
          have HV' := Lib.hid (HV.out.more Nf)
          clear hrf Nf HCh HC1 HV HL2
          have HC1 := HC1'
          have HV := HV'
          clear HC1' HV'
          refine hK.out _ _ (trivial) (fun _ => ?_)
          clear hK K
          try simp only [Act.put, List.setIfInBounds_toArray, List.set_cons_zero, List.set_cons_succ]
          (apply ordT_two; (simp only [List.getElem?_toArray, List.getElem?_cons_succ, List.getElem?_cons_zero]; rfl); rfl; (simp only [List.getElem?_toArray, List.getElem?_cons_succ, List.getElem?_cons_zero]; rfl); rfl)
          · intro K hK
            -- string(again.Chain())
            have hc1 := run_str (P := Tryz.prog) Tryz.underlying42 Tryz.underlying5 Tryz.underlying9 HC1.out
            go_simp
            clear hc1
            refine hK.out _ _ (trivial) (fun _ => ?_)
            clear hK K
            try simp only [Act.put, List.setIfInBounds_toArray, List.set_cons_zero, List.set_cons_succ]
            (apply ordT_only; (simp only [List.getElem?_toArray, List.getElem?_cons_succ, List.getElem?_cons_zero]; rfl); rfl; intro K hK)
            have hc2 := run_str (P := Tryz.prog) Tryz.underlying42 Tryz.underlying5 Tryz.underlying9 HC2.out
            go_simp
            clear hc2
            refine hK.out _ _ (trivial) (fun _ => ?_)
            clear hK K
            try simp only [Act.put, List.setIfInBounds_toArray, List.set_cons_zero, List.set_cons_succ]
            iterate 2 (apply ordT_take; (simp only [List.getElem?_toArray, List.getElem?_cons_succ, List.getElem?_cons_zero]; rfl); rfl; (intro w hSw; (try dsimp only at hSw); go_simp; try with_reducible rfl); intro _; try simp only [Act.put, List.setIfInBounds_toArray, List.set_cons_zero, List.set_cons_succ])
            apply ordT_done
            have hrf := crRef HV.out HVg.out HGg.out (by rw [secL_length]) HB0.out
            rw [HT.out.1] at hrf
            have HRf := Lib.hid hrf
            clear hrf
            go_wp2_with fail
            refine HRf.out.mono ?_
            rintro _ we ⟨gm, mT, rfl, hc8, hmT, hlv, hgt, hne⟩
            have hl1 : laid.length ≤ 1099511627776 := by have := HLk.out; have := HNl.out; omega
            have hl2 : tt.length ≤ 1099511627776 := by have := HT.out.2.2.1; omega
            have HBg1 := Lib.hid (refBegins we _ mT laid tt hlv hmT hl1 hl2)
            have HLV := Lib.hid hlv
            have HGT := Lib.hid hgt
            have HNE := Lib.hid hne
            have HSure : Hid (sure ≤ tt.length) := Lib.hid HT.out.2.2.2
            have hsi : (sure : Int) ≤ (tt.length : Int) := by have := HT.out.2.2.2; omega
            have HL12 := Lib.hid (And.intro hl1 hl2)
            clear HRf hmT hlv hgt hne hl1 hl2 HV HC1 HC2
            cases hbb : beginsL laid tt with
            | false =>
              rw [hbb] at HBg1
              clear hbb
              go_wp2_with fail
              refine HBg1.out.mono ?_
              rintro _ wg ⟨rfl, Ng⟩
              have HNg := Lib.hid (New.trans HNE.out Ng)
              clear Ng HBg1
              go_wp2
              go_ret
              exact ⟨rfl, HNg.out⟩
            | true =>
              rw [hbb] at HBg1
              go_wp2_with fail
              refine HBg1.out.mono ?_
              rintro _ wg ⟨rfl, Ng⟩
              have HBg2 := refBegins wg _ _ laid tt (HLV.out.new Ng) (HGT.out.new Ng) HL12.out.1 HL12.out.2
              rw [hbb] at HBg2
              replace HBg2 := Lib.hid HBg2
              have HNg := Lib.hid (New.trans HNE.out Ng)
              clear Ng HBg1 hbb hc8
              go_wp2_with fail
              refine HBg2.out.mono ?_
              rintro _ wh ⟨rfl, Nh⟩
              have HNh := Lib.hid (New.trans HNg.out Nh)
              clear Nh HBg2
              go_wp2
              go_ret
              exact ⟨rfl, HNh.out⟩
          · intro K hK
            have hc2 := run_str (P := Tryz.prog) Tryz.underlying42 Tryz.underlying5 Tryz.underlying9 HC2.out
            go_simp
            clear hc2
            refine hK.out _ _ (trivial) (fun _ => ?_)
            clear hK K
            try simp only [Act.put, List.setIfInBounds_toArray, List.set_cons_zero, List.set_cons_succ]
            (apply ordT_only; (simp only [List.getElem?_toArray, List.getElem?_cons_succ, List.getElem?_cons_zero]; rfl); rfl; intro K hK)
            -- string(again.Chain())
            have hc1 := run_str (P := Tryz.prog) Tryz.underlying42 Tryz.underlying5 Tryz.underlying9 HC1.out
            go_simp
            clear hc1
            refine hK.out _ _ (trivial) (fun _ => ?_)
            clear hK K
            try simp only [Act.put, List.setIfInBounds_toArray, List.set_cons_zero, List.set_cons_succ]
            iterate 2 (apply ordT_take; (simp only [List.getElem?_toArray, List.getElem?_cons_succ, List.getElem?_cons_zero]; rfl); rfl; (intro w hSw; (try dsimp only at hSw); go_simp; try with_reducible rfl); intro _; try simp only [Act.put, List.setIfInBounds_toArray, List.set_cons_zero, List.set_cons_succ])
            apply ordT_done
            have hrf := crRef HV.out HVg.out HGg.out (by rw [secL_length]) HB0.out
            rw [HT.out.1] at hrf
            have HRf := Lib.hid hrf
            clear hrf
            go_wp2_with fail
            refine HRf.out.mono ?_
            rintro _ we ⟨gm, mT, rfl, hc8, hmT, hlv, hgt, hne⟩
            have hl1 : laid.length ≤ 1099511627776 := by have := HLk.out; have := HNl.out; omega
            have hl2 : tt.length ≤ 1099511627776 := by have := HT.out.2.2.1; omega
            have HBg1 := Lib.hid (refBegins we _ mT laid tt hlv hmT hl1 hl2)
            have HLV := Lib.hid hlv
            have HGT := Lib.hid hgt
            have HNE := Lib.hid hne
            have HSure : Hid (sure ≤ tt.length) := Lib.hid HT.out.2.2.2
            have hsi : (sure : Int) ≤ (tt.length : Int) := by have := HT.out.2.2.2; omega
            have HL12 := Lib.hid (And.intro hl1 hl2)
            clear HRf hmT hlv hgt hne hl1 hl2 HV HC1 HC2
            cases hbb : beginsL laid tt with
            | false =>
              rw [hbb] at HBg1
              clear hbb
              go_wp2_with fail
              refine HBg1.out.mono ?_
              rintro _ wg ⟨rfl, Ng⟩
              have HNg := Lib.hid (New.trans HNE.out Ng)
              clear Ng HBg1
              go_wp2
              go_ret
              exact ⟨rfl, HNg.out⟩
            | true =>
              rw [hbb] at HBg1
              go_wp2_with fail
              refine HBg1.out.mono ?_
              rintro _ wg ⟨rfl, Ng⟩
              have HBg2 := refBegins wg _ _ laid tt (HLV.out.new Ng) (HGT.out.new Ng) HL12.out.1 HL12.out.2
              rw [hbb] at HBg2
              replace HBg2 := Lib.hid HBg2
              have HNg := Lib.hid (New.trans HNE.out Ng)
              clear Ng HBg1 hbb hc8
              go_wp2_with fail
              refine HBg2.out.mono ?_
              rintro _ wh ⟨rfl, Nh⟩
              have HNh := Lib.hid (New.trans HNg.out Nh)
              clear Nh HBg2
              go_wp2
              go_ret
              exact ⟨rfl, HNh.out⟩
      have hli : (k : Int) < (nz : Int) := by omega
      obtain ⟨s, B, Bd, hst⟩ := crStOf hor (by omega)
      have HS := Lib.hid hst
      obtain ⟨x, hx⟩ : ∃ x, l[k]? = some x := ⟨_, List.getElem?_eq_getElem (by have := HNz.out; omega)⟩
      have HXk := Lib.hid hx
      have HRs := Lib.hid fun wx => refRest2 wx x.kind 2 (by decide) (by decide)
      clear hor hst hx
      by_cases hlast : k + 1 = nz
      · have hl1 : (nz : Int) - 1 = (k : Int) := by omega
        obtain ⟨x0, x1⟩ := HS.out.cells
        have HLi := Lib.hid (lwLimit HS.out (cv % 4) (by omega))
        go_wp2_with fail
        refine HLi.out.mono ?_
        rintro _ w3 ⟨rfl, hst⟩
        have HS3 := Lib.hid hst
        clear hst HLi HS x0 x1
        obtain ⟨x0, x1⟩ := HS3.out.cells
        obtain ⟨b, off, rfl, c0, c1, c2, c3⟩ := (HZ.out.new HS3.out.new).at HXk.out
        have HFl := Lib.hid (lwFlushLast HS3.out (by decide) (by decide))
        go_wp2_with fail
        refine (HRs.out _).mono ?_
        rintro _ w9 ⟨rfl, rfl⟩
        clear c0 c1 c2 c3
        by_cases h1 : x.kind % 2 = 1
        · go_wp2_with fail
          refine HFl.out.mono ?_
          rintro _ w4 ⟨⟨y, rfl⟩, sure, hf⟩
          have HF4 := Lib.hid hf
          clear hf HFl x0 x1 HS3
          go_wp2
          go_roundw
          case rel => exact ⟨k + 1, laid, by omega, by go_num, by omega, .inr ⟨hlast, by omega, sure, HF4.out⟩⟩
          case measure => simp [intOf]; omega
        · go_wp2_with fail
          refine HFl.out.mono ?_
          rintro _ w4 ⟨⟨y, rfl⟩, sure, hf⟩
          have HF4 := Lib.hid hf
          clear hf HFl x0 x1 HS3
          go_wp2
          go_roundw
          case rel => exact ⟨k + 1, laid, by omega, by go_num, by omega, .inr ⟨hlast, by omega, sure, HF4.out⟩⟩
          case measure => simp [intOf]; omega
      · have hl1 : ¬ (k : Int) = (nz : Int) - 1 := by omega
        obtain ⟨b, off, rfl, c0, c1, c2, c3⟩ := (HZ.out.new HS.out.new).at HXk.out
        go_wp2_with fail
        refine (HRs.out _).mono ?_
        rintro _ w9 ⟨rfl, rfl⟩
        by_cases h1 : x.kind % 2 = 1
        · clear c0 c1 c2 c3
          obtain ⟨x0, x1⟩ := HS.out.cells
          have HFl := Lib.hid (lwFlush HS.out (by decide) (by decide))
          go_wp2_with fail
          refine HFl.out.mono ?_
          rintro _ w4 ⟨rfl, s4, Bd4, hst4, -⟩
          have HS4 := Lib.hid hst4
          clear hst4 HFl x0 x1 HS
          go_wp2
          go_roundw
          case rel => exact ⟨k + 1, laid, by omega, by go_num, by omega, .inl ⟨.inl (by omega), s4, _, Bd4, HS4.out⟩⟩
          case measure => simp [intOf]; omega
        · have HTx := Lib.hid fun wx => text15 wx x
          go_wp2_with fail
          refine (HTx.out _).mono ?_
          rintro _ w3 ⟨t, ht, v3, rfl, hown3, N3⟩
          clear c0 c1 c2 c3
          have HS3 := Lib.hid (HS.out.avoid N3)
          have HBk : Hid (∀ j, blk v3 = some j → (fun j => (fun _ => False) j ∨ (wr.heap.size ≤ j ∧ j < w3.heap.size)) j) := Lib.hid (fun j hj => .inr ⟨own_from hown3 j hj, own_lt15 hown3 j hj⟩)
          have HO3 := Lib.hid hown3
          obtain ⟨a3, d3, rfl, -⟩ := ownSl_form hown3
          have HTl : Hid (t.length ≤ 399) := Lib.hid ht
          obtain ⟨n3, Hn3⟩ : ∃ n, Hid (t.length = n) := ⟨_, Lib.hid rfl⟩
          clear hown3 N3 HS HTx ht
          rw [Hn3.out] at HBk HO3
          rw [Hn3.out]
          obtain ⟨x0, x1⟩ := HS3.out.cells
          by_cases hre : s.refuse (128 * 4) 3 (t.length : Int) = 0
          · have HAp := Lib.hid (lwAppend HS3.out HLa.out (by decide) (by decide) (.slice a3 n3 d3) t (Rd.of_own (by rw [Hn3.out]; exact HO3.out)) (fun j hj => .inr (HBk.out j hj)) hre)
            go_wp2_with fail
            refine HAp.out.mono ?_
            rintro _ w4 ⟨rfl, B4, hst4, hkp⟩
            have HS4 := Lib.hid hst4
            have hst := run_str (P := Tryz.prog) Tryz.underlying42 Tryz.underlying5 Tryz.underlying9 (Rd.of_own (l := t) (by rw [Hn3.out]; exact own_moreT HO3.out (fun j hj _ => hkp j (HBk.out j hj))))
            clear hst4 hkp HAp HS3 HO3 HBk hre x0 x1
            obtain ⟨av, cv', rfl, -⟩ := ownSl_form HS4.out.own
            obtain ⟨i0, hi0, hz0, hz1, hz2⟩ := info_parts infoStr
            obtain ⟨v', wa, happ, hown', hO', hb', hlt'⟩ := run_append_u (P := Tryz.prog) w.heap.size w4 28 28 9 i0 _ 16 Tryz.underlying28 hi0 hz0 hz1 hz2 rfl _ laid.length (laid.map strV) HS4.out.own (.string (bstr t)) rfl (by omega) (by omega) HS4.out.new.size
            obtain ⟨av', cv'', rfl, -⟩ := ownSl_form hown'
            have HAPP := Lib.hid happ
            have HS5 := Lib.hid ((HS4.out.push hO' (laid' := laid ++ [t]) (by rw [List.length_append, List.map_append]; exact hown') hb').xmono (Y := fun _ => False) (fun _ f => f.elim))
            clear happ hown' hO' hb' hlt' hi0 hz0 hz1 hz2 HS4
            go_wp2_with (at_builtin; refine wpList_app1 rfl _ _ 28 rfl _ _ rfl rfl HAPP.out ?_)
            go_roundw
            case rel => exact ⟨k + 1, laid ++ [t], by omega, by go_num, by rw [List.length_append]; simp; omega, .inl ⟨.inl (by omega), _, _, _, HS5.out⟩⟩
            case measure => simp [intOf]; omega
          · have HAp := Lib.hid (lwAppendNo HS3.out (by decide) (by decide) (.slice a3 n3 d3) t (Rd.of_own (by rw [Hn3.out]; exact HO3.out)) hre)
            go_wp2_with fail
            refine HAp.out.mono ?_
            rintro _ w4 ⟨⟨y, rfl⟩, hst4⟩
            have HS4 := Lib.hid (hst4.xmono (Y := fun _ => False) (fun _ f => f.elim))
            clear hst4 HAp HS3 HO3 HBk hre x0 x1
            go_wp2
            go_roundw
            case rel => exact ⟨k + 1, laid, by omega, by go_num, by omega, .inl ⟨.inl (by omega), s, _, _, HS4.out⟩⟩
            case measure => simp [intOf]; omega

theorem crashWalk (w : World) (z : Value) (l : List ActL) (hz : RdAct w z l) (a : Int) (ha : (Lit.int .u8 a).wf = true) (y : Value) (keep : List Int) (hy : RdV w y (keep.map (Value.int .i64))) (hL : Laid w) :
    Calls Tryz.prog 3 #[z, .int .u8 a, y] w fun e w' => e = .returned (.bool true) ∧ New w w' :=
  crashLaw w z l hz a (by have := wf_u8_lt ha; omega) y keep hy hL

end Go.Proofs.YtijkmpcgkhijgaaGreatDoor
