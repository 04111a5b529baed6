/-
  SuperOctets' walk.
-/
import Derived.Test.YtcdhfglehmeecaaLaw14
import Derived.Test.YtcdhfglehmeecaaSupEq
import Derived.Test.YtcdhfglehmeecaaRefSupA
namespace Go.Proofs.Ytcdhfglehmeecaa
set_option linter.unusedVariables false
set_option linter.unusedSimpArgs false
open Go.RowKit

/-- what the last region reads: the argument, what was read, the octets as a string -/
def Oc10 (g1 g5 : Nat) (s : SupN) (v : Value) (w : World) : Prop := (NwAt g1 s w ∧ NwAt g5 s w) ∧ (convert 25 9 v).run Try.prog w = .ok (.string (bstr (supEnc s))) w

set_option maxRecDepth 100000 in
set_option maxHeartbeats 2000000 in
theorem octetsWalk (w : World) (s : SupN) : Calls Try.prog 3 #[s.val] w fun e w' => e = .returned (.bool true) ∧ New w w' := by
  rw [SupN.val_eq]
  go_enter Try.func3, Try.ntmps3
  go_upto_region 1 with fail
  generalize hw1 : World.alloc w _ = w1
  have HS1 : Hid (SupB w1 w.heap.size s) := Lib.hid (by rw [← hw1]; exact heap_alloc_new _ _)
  have N1 : Hid (New w w1) := Lib.hid (by rw [← hw1]; exact (Below.refl _ _).alloc (Nat.le_refl _) _)
  clear hw1
  obtain ⟨g1, hg⟩ : ∃ g, w.heap.size = g := ⟨_, rfl⟩
  rw [hg] at HS1
  rw [hg]
  clear hg
  go_wp2_with fail
  refine (awake14 w1).mono ?_
  rintro _ w2 ⟨rfl, M2⟩
  have HS2 := Lib.hid (HS1.out.new M2)
  have N2 := Lib.hid (New.trans N1.out M2)
  clear HS1 N1 M2
  obtain ⟨x0, x1, x2, x3, x4⟩ := HS2.out.at
  have HOc := Lib.hid (supOctets w2 s)
  rw [SupN.val_eq] at HOc
  go_wp2_with fail
  refine HOc.out.mono ?_
  rintro e w3 ⟨M3, hf, ht⟩
  have HS3 := Lib.hid (HS2.out.new M3)
  have N3 := Lib.hid (New.trans N2.out M3)
  clear HOc HS2 N2 M3 x0 x1 x2 x3 x4
  obtain ⟨o, ho⟩ : ∃ o, s.okB = o := ⟨_, rfl⟩
  rw [ho] at hf ht
  have HOK := Lib.hid ho
  clear ho
  cases o
  · obtain rfl := hf rfl
    clear hf ht
    go_upto_region 4 with fail
    have HR1 := Lib.hid (fun wx => supRight wx s)
    have HR2 := Lib.hid (fun wx => refRight14 wx s)
    rw [HOK.out, SupN.val_eq] at HR1 HR2
    refine region_ord (NwAt g1 s) [(0, true), (2, true), (1, false), (3, false), (4, true), (5, true), (6, true), (7, true), (8, false), (9, true), (10, true)] (by kernel_rfl) (by kernel_rfl) HS3.out.at (fun _ => ?_)
    replace HS3 : Hid (SupB w3.drew g1 s) := Lib.hid HS3.out
    replace N3 := Lib.hid N3.out.drew
    generalize w3.drew = wd at *
    unfold NwAt
    iterate 2 (apply ord_take; (simp only [List.getElem?_toArray, List.getElem?_cons_succ, List.getElem?_cons_zero]; rfl); rfl; (intro w hSw; (try dsimp only at hSw); go_simp; try with_reducible rfl); intro _; try simp only [Act.put, List.setIfInBounds_toArray, List.set_cons_zero, List.set_cons_succ])
    (apply ord_only; (simp only [List.getElem?_toArray, List.getElem?_cons_succ, List.getElem?_cons_zero]; rfl); rfl; intro K hK)
    have HJ := HR1
    go_simp
    refine (HJ.out wd).mono ?_
    rintro _ we ⟨rfl, M⟩
    replace N3 := Lib.hid (New.trans N3.out M)
    replace HS3 := Lib.hid (HS3.out.new M)
    clear M HJ wd
    rename World => wd
    refine hK.out _ _ (HS3.out.at) (fun _ => ?_)
    clear hK K
    try simp only [Act.put, List.setIfInBounds_toArray, List.set_cons_zero, List.set_cons_succ]
    (apply ord_only; (simp only [List.getElem?_toArray, List.getElem?_cons_succ, List.getElem?_cons_zero]; rfl); rfl; intro K hK)
    have HJ := HR2
    go_simp
    refine (HJ.out wd).mono ?_
    rintro _ we ⟨rfl, M⟩
    replace N3 := Lib.hid (New.trans N3.out M)
    replace HS3 := Lib.hid (HS3.out.new M)
    clear M HJ wd
    rename World => wd
    refine hK.out _ _ (HS3.out.at) (fun _ => ?_)
    clear hK K
    try simp only [Act.put, List.setIfInBounds_toArray, List.set_cons_zero, List.set_cons_succ]
    iterate 4 (apply ord_take; (simp only [List.getElem?_toArray, List.getElem?_cons_succ, List.getElem?_cons_zero]; rfl); rfl; (intro w hSw; (try dsimp only at hSw); go_simp; try with_reducible rfl); intro _; try simp only [Act.put, List.setIfInBounds_toArray, List.set_cons_zero, List.set_cons_succ])
    (apply ord_only; (simp only [List.getElem?_toArray, List.getElem?_cons_succ, List.getElem?_cons_zero]; rfl); rfl; intro K hK)
    have HJ := HR1
    go_simp
    refine (HJ.out wd).mono ?_
    rintro _ we ⟨rfl, M⟩
    replace N3 := Lib.hid (New.trans N3.out M)
    replace HS3 := Lib.hid (HS3.out.new M)
    clear M HJ wd
    rename World => wd
    refine hK.out _ _ (HS3.out.at) (fun _ => ?_)
    clear hK K
    try simp only [Act.put, List.setIfInBounds_toArray, List.set_cons_zero, List.set_cons_succ]
    iterate 2 (apply ord_take; (simp only [List.getElem?_toArray, List.getElem?_cons_succ, List.getElem?_cons_zero]; rfl); rfl; (intro w hSw; (try dsimp only at hSw); go_simp; try with_reducible rfl); intro _; try simp only [Act.put, List.setIfInBounds_toArray, List.set_cons_zero, List.set_cons_succ])
    apply ord_done
    clear HR1 HR2
    have HSc := Lib.hid (fun wx => supSectorsAt wx s)
    rw [SupN.val_eq, show supSectors s = 0 from if_neg (by rw [HOK.out]; decide)] at HSc
    obtain ⟨x0, x1, x2, x3, x4⟩ := HS3.out.at
    go_wp2_with fail
    refine (HSc.out wd).mono ?_
    rintro _ we ⟨rfl, M⟩
    have N4 := Lib.hid (New.trans N3.out M)
    clear M HSc HS3 N3 x0 x1 x2 x3 x4
    go_wp2
    go_ret
    exact ⟨rfl, N4.out⟩
  obtain ⟨gb, rfl, -, hr⟩ := ht rfl
  have HR3 : Hid (Rd w3 (.slice (some ⟨gb, 0, none⟩) 128 128) (supEnc s)) := Lib.hid (by
    have hrd := rd_of_row (w := w3) (g := gb) (l := supEnc s) (t := 5) (fr := (0, 0)) hr (by rw [supEnc_length]; decide)
    rwa [supEnc_length] at hrd)
  clear hf ht hr
  go_upto_region 4 with fail
  have HR1 := Lib.hid (fun wx => supRight wx s)
  have HR2 := Lib.hid (fun wx => refRight14 wx s)
  rw [HOK.out, SupN.val_eq] at HR1 HR2
  refine region_ord (NwAt g1 s) [(0, true), (2, true), (1, false), (3, false), (4, true), (5, true), (6, true), (7, true), (8, false), (9, true), (10, true)] (by kernel_rfl) (by kernel_rfl) HS3.out.at (fun _ => ?_)
  replace HS3 : Hid (SupB w3.drew g1 s) := Lib.hid HS3.out
  replace N3 := Lib.hid N3.out.drew
  replace HR3 : Hid (Rd w3.drew (.slice (some ⟨gb, 0, none⟩) 128 128) (supEnc s)) := Lib.hid (HR3.out.new (show New w3 w3.drew from (Below.refl _ _).drew))
  generalize w3.drew = wd at *
  unfold NwAt
  iterate 2 (apply ord_take; (simp only [List.getElem?_toArray, List.getElem?_cons_succ, List.getElem?_cons_zero]; rfl); rfl; (intro w hSw; (try dsimp only at hSw); go_simp; try with_reducible rfl); intro _; try simp only [Act.put, List.setIfInBounds_toArray, List.set_cons_zero, List.set_cons_succ])
  (apply ord_only; (simp only [List.getElem?_toArray, List.getElem?_cons_succ, List.getElem?_cons_zero]; rfl); rfl; intro K hK)
  have HJ := HR1
  go_simp
  refine (HJ.out wd).mono ?_
  rintro _ we ⟨rfl, M⟩
  replace N3 := Lib.hid (New.trans N3.out M)
  replace HS3 := Lib.hid (HS3.out.new M)
  replace HR3 := Lib.hid (HR3.out.new M)
  clear M HJ wd
  rename World => wd
  refine hK.out _ _ (HS3.out.at) (fun _ => ?_)
  clear hK K
  try simp only [Act.put, List.setIfInBounds_toArray, List.set_cons_zero, List.set_cons_succ]
  (apply ord_only; (simp only [List.getElem?_toArray, List.getElem?_cons_succ, List.getElem?_cons_zero]; rfl); rfl; intro K hK)
  have HJ := HR2
  go_simp
  refine (HJ.out wd).mono ?_
  rintro _ we ⟨rfl, M⟩
  replace N3 := Lib.hid (New.trans N3.out M)
  replace HS3 := Lib.hid (HS3.out.new M)
  replace HR3 := Lib.hid (HR3.out.new M)
  clear M HJ wd
  rename World => wd
  refine hK.out _ _ (HS3.out.at) (fun _ => ?_)
  clear hK K
  try simp only [Act.put, List.setIfInBounds_toArray, List.set_cons_zero, List.set_cons_succ]
  iterate 4 (apply ord_take; (simp only [List.getElem?_toArray, List.getElem?_cons_succ, List.getElem?_cons_zero]; rfl); rfl; (intro w hSw; (try dsimp only at hSw); go_simp; try with_reducible rfl); intro _; try simp only [Act.put, List.setIfInBounds_toArray, List.set_cons_zero, List.set_cons_succ])
  (apply ord_only; (simp only [List.getElem?_toArray, List.getElem?_cons_succ, List.getElem?_cons_zero]; rfl); rfl; intro K hK)
  have HJ := HR1
  go_simp
  refine (HJ.out wd).mono ?_
  rintro _ we ⟨rfl, M⟩
  replace N3 := Lib.hid (New.trans N3.out M)
  replace HS3 := Lib.hid (HS3.out.new M)
  replace HR3 := Lib.hid (HR3.out.new M)
  clear M HJ wd
  rename World => wd
  refine hK.out _ _ (HS3.out.at) (fun _ => ?_)
  clear hK K
  try simp only [Act.put, List.setIfInBounds_toArray, List.set_cons_zero, List.set_cons_succ]
  iterate 2 (apply ord_take; (simp only [List.getElem?_toArray, List.getElem?_cons_succ, List.getElem?_cons_zero]; rfl); rfl; (intro w hSw; (try dsimp only at hSw); go_simp; try with_reducible rfl); intro _; try simp only [Act.put, List.setIfInBounds_toArray, List.set_cons_zero, List.set_cons_succ])
  apply ord_done
  clear HR1 HR2
  obtain ⟨m, HM⟩ : ∃ m, Hid (s.gen.tmod 2 = m) := ⟨_, Lib.hid rfl⟩
  have hm : m = 0 ∨ m = 1 := by
    have h1 := ((s.okB_iff).1 HOK.out).1
    have := HM.out
    rw [Int.tmod_eq_emod_of_nonneg (by omega)] at this
    omega
  have HRd := Lib.hid (fun wx x (hx : Rd wx x (supEnc s)) (p : Int) => supReadAt wx x (supEnc s) p hx)
  have hp1 : supRead (supEnc s) m = some s := by rw [supRead_enc HOK.out, HM.out, if_pos rfl]
  have hp2 : supRead (supEnc s) (1 - m) = none := by rw [supRead_enc HOK.out, HM.out, if_neg (by omega)]
  have HA := Lib.hid (fun wx (hx : Rd wx (.slice (some ⟨gb, 0, none⟩) 128 128) (supEnc s)) => HRd.out wx _ hx m)
  have HB := Lib.hid (fun wx (hx : Rd wx (.slice (some ⟨gb, 0, none⟩) 128 128) (supEnc s)) => HRd.out wx _ hx (1 - m))
  rw [hp1] at HA
  rw [hp2] at HB
  have hmb : 0 ≤ m ∧ m ≤ 1 := by omega
  have hmt := HM.out
  clear hp1 hp2 HRd hm
  obtain ⟨x0, -, -, -, -⟩ := HS3.out.at
  go_wp2_with fail
  refine (HA.out wd HR3.out).mono ?_
  rintro _ w4 ⟨rfl, M⟩
  have HS4 := Lib.hid (HS3.out.new M)
  have HR4 := Lib.hid (HR3.out.new M)
  have N4 := Lib.hid (New.trans N3.out M)
  clear M HS3 HR3 N3 x0 HA
  rw [show supGot (some s) = s from rfl, show (some s : Option SupN).isSome = true from rfl, SupN.val_eq]
  go_upto_region 9 with fail
  generalize hw5 : World.alloc w4 _ = w5
  have HT5 : Hid (SupB w5 w4.heap.size s) := Lib.hid (by rw [← hw5]; exact heap_alloc_new _ _)
  have M5 : New w4 w5 := by rw [← hw5]; exact (Below.refl _ _).alloc (Nat.le_refl _) _
  have HS5 := Lib.hid (HS4.out.new M5)
  have HR5 := Lib.hid (HR4.out.new M5)
  have N5 := Lib.hid (New.trans N4.out M5)
  clear hw5 HS4 HR4 N4 M5
  obtain ⟨g5, hg⟩ : ∃ g, w4.heap.size = g := ⟨_, rfl⟩
  rw [hg] at HT5
  rw [hg]
  clear hg
  obtain ⟨x0, -, -, -, -⟩ := HS5.out.at
  go_wp2_with fail
  refine (HB.out w5 HR5.out).mono ?_
  rintro _ w6 ⟨rfl, M⟩
  have HS6 := Lib.hid (HS5.out.new M)
  have HT6 := Lib.hid (HT5.out.new M)
  have HR6 := Lib.hid (HR5.out.new M)
  have N6 := Lib.hid (New.trans N5.out M)
  clear M HS5 HT5 HR5 N5 x0 HB hmt hmb
  rw [show supGot none = supZero from rfl, show (none : Option SupN).isSome = false from rfl, SupN.val_eq]
  go_upto_region 10 with fail
  generalize hw7 : World.alloc w6 _ = w7
  have M7 : New w6 w7 := by rw [← hw7]; exact (Below.refl _ _).alloc (Nat.le_refl _) _
  have HS7 := Lib.hid (HS6.out.new M7)
  have HT7 := Lib.hid (HT6.out.new M7)
  have HR7 := Lib.hid (HR6.out.new M7)
  have N7 := Lib.hid (New.trans N6.out M7)
  clear hw7 HS6 HT6 HR6 N6 M7
  have HRO := Lib.hid (fun wx => refOctets14 wx s HOK.out)
  have HSc := Lib.hid (fun wx => supSectorsAt wx s)
  obtain ⟨-, -, h3, h4, h5⟩ := (s.okB_iff).1 HOK.out
  obtain ⟨mm, hmm⟩ : ∃ m, s.segs * s.size = m := ⟨_, rfl⟩
  have hm1 : 0 ≤ mm ∧ mm ≤ 131072 := by
    rw [← hmm]
    exact ⟨Int.mul_nonneg (by omega) (by omega), Int.le_trans (Int.mul_le_mul (show s.segs ≤ 256 by omega) (show s.size ≤ 512 by omega) (by omega) (by omega)) (by omega)⟩
  have HSS : Hid (supSectors s = 2 + 2 * s.slots + mm) := Lib.hid (by unfold supSectors; rw [if_pos HOK.out, hmm])
  rw [SupN.val_eq, HSS.out] at HSc
  rw [SupN.val_eq] at HRO
  have hq : ((bstr (supEnc s)).toList == (bstr (supEnc s)).toList) = true := by simp
  refine region_ord (Oc10 g1 g5 s (.slice (some ⟨gb, 0, none⟩) 128 128)) [(0, true), (1, true), (2, true), (3, false), (4, true), (5, true), (6, true), (7, true), (8, true), (9, true), (10, true), (11, true), (12, true), (13, true), (14, true), (15, true), (16, true), (17, true), (18, true), (20, true), (21, true), (22, true), (23, true), (24, true), (25, true), (26, true), (27, true), (28, true), (29, true), (19, false), (30, true), (31, true), (32, true)] (by kernel_rfl) (by kernel_rfl) ⟨⟨HS7.out.at, HT7.out.at⟩, run_str (P := Try.prog) Try.underlying25 Try.underlying5 Try.underlying9 HR7.out⟩ (fun _ => ?_)
  replace HS7 : Hid (SupB w7.drew g1 s) := Lib.hid HS7.out
  replace HT7 : Hid (SupB w7.drew g5 s) := Lib.hid HT7.out
  replace HR7 : Hid (Rd w7.drew (.slice (some ⟨gb, 0, none⟩) 128 128) (supEnc s)) := Lib.hid (HR7.out.new (show New w7 w7.drew from (Below.refl _ _).drew))
  replace N7 := Lib.hid N7.out.drew
  generalize w7.drew = wd at *
  unfold Oc10 NwAt
  iterate 3 (apply ord_take; (simp only [List.getElem?_toArray, List.getElem?_cons_succ, List.getElem?_cons_zero]; rfl); rfl; (intro w hSw; (try dsimp only at hSw); go_simp; try with_reducible rfl); intro _; try simp only [Act.put, List.setIfInBounds_toArray, List.set_cons_zero, List.set_cons_succ])
  (apply ord_only; (simp only [List.getElem?_toArray, List.getElem?_cons_succ, List.getElem?_cons_zero]; rfl); rfl; intro K hK)
  go_simp
  refine (HRO.out wd).mono ?_
  rintro _ we ⟨rfl, M⟩
  replace HS7 := Lib.hid (HS7.out.new M)
  replace HT7 := Lib.hid (HT7.out.new M)
  replace HR7 := Lib.hid (HR7.out.new M)
  replace N7 := Lib.hid (New.trans N7.out M)
  clear M HRO wd
  rename World => wd
  refine hK.out _ _ (⟨⟨HS7.out.at, HT7.out.at⟩, run_str (P := Try.prog) Try.underlying25 Try.underlying5 Try.underlying9 HR7.out⟩) (fun _ => ?_)
  clear hK K
  try simp only [Act.put, List.setIfInBounds_toArray, List.set_cons_zero, List.set_cons_succ]
  iterate 25 (apply ord_take; (simp only [List.getElem?_toArray, List.getElem?_cons_succ, List.getElem?_cons_zero]; rfl); rfl; (intro w hSw; (try dsimp only at hSw); go_simp; try with_reducible rfl); intro _; try simp only [Act.put, List.setIfInBounds_toArray, List.set_cons_zero, List.set_cons_succ])
  (apply ord_only; (simp only [List.getElem?_toArray, List.getElem?_cons_succ, List.getElem?_cons_zero]; rfl); rfl; intro K hK)
  go_simp
  refine (HSc.out wd).mono ?_
  rintro _ we ⟨rfl, M⟩
  replace HS7 := Lib.hid (HS7.out.new M)
  replace HT7 := Lib.hid (HT7.out.new M)
  replace HR7 := Lib.hid (HR7.out.new M)
  replace N7 := Lib.hid (New.trans N7.out M)
  clear M HSc wd
  rename World => wd
  refine hK.out _ _ (⟨⟨HS7.out.at, HT7.out.at⟩, run_str (P := Try.prog) Try.underlying25 Try.underlying5 Try.underlying9 HR7.out⟩) (fun _ => ?_)
  clear hK K
  try simp only [Act.put, List.setIfInBounds_toArray, List.set_cons_zero, List.set_cons_succ]
  iterate 3 (apply ord_take; (simp only [List.getElem?_toArray, List.getElem?_cons_succ, List.getElem?_cons_zero]; rfl); rfl; (intro w hSw; (try dsimp only at hSw); go_simp; try with_reducible rfl); intro _; try simp only [Act.put, List.setIfInBounds_toArray, List.set_cons_zero, List.set_cons_succ])
  apply ord_done
  have hw : IntKind.i64.wrap (IntKind.i64.wrap (2 + IntKind.i64.wrap (2 * s.slots)) + IntKind.i64.wrap mm) = 2 + 2 * s.slots + mm := by
    rw [IntWalk.i64_in (2 * s.slots) (by omega), IntWalk.i64_in (2 + 2 * s.slots) (by omega), IntWalk.i64_in mm (by omega), IntWalk.i64_in _ (by omega)]
  go_wp2
  go_ret
  exact ⟨by rw [hw, beq_self_eq_true]; rfl, N7.out⟩

theorem octetsLaw (w : World) (s : SupN) (hn : s.nums) : Calls Try.prog 3 #[s.val] w fun e w' => e = .returned (.bool true) ∧ New w w' := octetsWalk w s

end Go.Proofs.Ytcdhfglehmeecaa
