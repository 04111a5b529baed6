/-
  The reference's Right, number, Octets of layer 14.
  The reference's Read of layer 14.
  The reference's Newest of layer 14.
-/
import Derived.Test.YtcdhfglehmeecaaSupA
import Derived.Test.YtcdhfglehmeecaaRefCrc
import Derived.Test.YtcdhfglehmeecaaRefVal
import Derived.Test.YtcdhfglehmeecaaSlZero
namespace Go.Proofs.Ytcdhfglehmeecaa
set_option linter.unusedVariables false
set_option linter.unusedSimpArgs false
open Go.RowKit

theorem okB_not (s : SupN) : s.okB = (!decide (s.gen < 1) && (!decide (1099511627776 < s.gen) && (!decide (s.boot < 0) && (!decide (1099511627776 < s.boot) && (decide (1 ≤ s.slots) && (decide (s.slots ≤ 64) && (decide (1 ≤ s.segs) && (decide (s.segs ≤ 256) && (decide (2 ≤ s.size) && decide (s.size ≤ 512)))))))))) := by
  unfold SupN.okB insideS
  rw [show decide (1 ≤ s.gen) = !decide (s.gen < 1) by simp only [← decide_not, Int.not_lt], show decide (s.gen ≤ 1099511627776) = !decide (1099511627776 < s.gen) by simp only [← decide_not, Int.not_lt], show decide (0 ≤ s.boot) = !decide (s.boot < 0) by simp only [← decide_not, Int.not_lt], show decide (s.boot ≤ 1099511627776) = !decide (1099511627776 < s.boot) by simp only [← decide_not, Int.not_lt]]
  simp only [Bool.and_assoc]

set_option maxRecDepth 100000 in
set_option maxHeartbeats 1000000 in
theorem refRight14 (w : World) (s : SupN) : Calls Try.prog 9 #[s.val] w (NewRet w (.bool s.okB)) := by
  rw [okB_not, SupN.val_eq]
  obtain ⟨g, b, sl, se, si⟩ := s
  dsimp only
  obtain ⟨c1, d1⟩ : ∃ x, decide (g < 1) = x := ⟨_, rfl⟩
  obtain ⟨c2, d2⟩ : ∃ x, decide (1099511627776 < g) = x := ⟨_, rfl⟩
  obtain ⟨c3, d3⟩ : ∃ x, decide (b < 0) = x := ⟨_, rfl⟩
  obtain ⟨c4, d4⟩ : ∃ x, decide (1099511627776 < b) = x := ⟨_, rfl⟩
  obtain ⟨c5, d5⟩ : ∃ x, decide (1 ≤ sl) = x := ⟨_, rfl⟩
  obtain ⟨c6, d6⟩ : ∃ x, decide (sl ≤ 64) = x := ⟨_, rfl⟩
  obtain ⟨c7, d7⟩ : ∃ x, decide (1 ≤ se) = x := ⟨_, rfl⟩
  obtain ⟨c8, d8⟩ : ∃ x, decide (se ≤ 256) = x := ⟨_, rfl⟩
  obtain ⟨c9, d9⟩ : ∃ x, decide (2 ≤ si) = x := ⟨_, rfl⟩
  obtain ⟨c10, d10⟩ : ∃ x, decide (si ≤ 512) = x := ⟨_, rfl⟩
  rw [d1, d2, d3, d4, d5, d6, d7, d8, d9, d10]
  have N1 : New w (w.alloc (.cells #[.int .i64 g, .int .i64 b, .int .i64 sl, .int .i64 se, .int .i64 si] 23)) := (Below.refl _ _).alloc (Nat.le_refl _) _
  go_enter Try.func9, Try.ntmps9
  cases c1
  rotate_left
  · go_wp2
    go_ret
    exact ⟨rfl, N1⟩
  rw [Bool.not_false, Bool.true_and]
  cases c2
  rotate_left
  · go_wp2
    go_ret
    exact ⟨rfl, N1⟩
  rw [Bool.not_false, Bool.true_and]
  cases c3
  rotate_left
  · go_wp2
    go_ret
    exact ⟨rfl, N1⟩
  rw [Bool.not_false, Bool.true_and]
  cases c4
  rotate_left
  · go_wp2
    go_ret
    exact ⟨rfl, N1⟩
  rw [Bool.not_false, Bool.true_and]
  go_upto_region 3 with fail
  clear d1 d2 d3 d4
  cases c5
  · go_wp2
    go_ret
    exact ⟨rfl, N1⟩
  rw [Bool.true_and]
  cases c6
  · go_wp2
    go_ret
    exact ⟨rfl, N1⟩
  rw [Bool.true_and]
  cases c7
  · go_wp2
    go_ret
    exact ⟨rfl, N1⟩
  rw [Bool.true_and]
  cases c8
  · go_wp2
    go_ret
    exact ⟨rfl, N1⟩
  rw [Bool.true_and]
  cases c9
  · go_wp2
    go_ret
    exact ⟨rfl, N1⟩
  rw [Bool.true_and]
  cases c10
  · go_wp2
    go_ret
    exact ⟨rfl, N1⟩
  · go_wp2
    go_ret
    exact ⟨rfl, N1⟩

theorem refNumber14 (w : World) (l : List UInt8) (hl : l.length ≤ 8) : Calls Try.prog 31 #[.string (bstr l)] w fun e w' => e = .returned (.int .i64 (wrap64 (val l : Int))) ∧ w = w' := by
  have HV := Lib.hid (refValue w l hl)
  generalize val l = n at *
  generalize bstr l = B at *
  go_enter Try.func31, Try.ntmps31
  go_wp2_with fail
  refine HV.out.mono ?_
  rintro _ w1 ⟨rfl, rfl⟩
  go_wp2
  go_ret
  exact ⟨rfl, rfl⟩

set_option maxRecDepth 100000 in
set_option maxHeartbeats 1000000 in
theorem refOctets14 (w : World) (s : SupN) (hs : s.okB = true) : Calls Try.prog 12 #[s.val] w (NewRet w (.string (bstr (supEnc s)))) := by
  obtain ⟨h1, h2, h3, h4, h5⟩ := (s.okB_iff).1 hs
  clear hs
  obtain ⟨X, HX⟩ : ∃ X, Hid (X = s) := ⟨_, Lib.hid rfl⟩
  rw [← HX.out]
  obtain ⟨g, b, sl, se, si⟩ := s
  dsimp only at h1 h2 h3 h4 h5
  obtain ⟨n1, rfl⟩ := Int.eq_ofNat_of_zero_le (show 0 ≤ g by omega)
  obtain ⟨n2, rfl⟩ := Int.eq_ofNat_of_zero_le (show 0 ≤ b by omega)
  obtain ⟨n3, rfl⟩ := Int.eq_ofNat_of_zero_le (show 0 ≤ sl by omega)
  obtain ⟨n4, rfl⟩ := Int.eq_ofNat_of_zero_le (show 0 ≤ se by omega)
  obtain ⟨n5, rfl⟩ := Int.eq_ofNat_of_zero_le (show 0 ≤ si by omega)
  have hw1 : IntKind.u64.wrap (n1 : Int) = (n1 : Int) := IntWalk.u64_in _ (by omega)
  have hw2 : IntKind.u64.wrap (n2 : Int) = (n2 : Int) := IntWalk.u64_in _ (by omega)
  have hw3 : IntKind.u64.wrap (n3 : Int) = (n3 : Int) := IntWalk.u64_in _ (by omega)
  have hw4 : IntKind.u64.wrap (n4 : Int) = (n4 : Int) := IntWalk.u64_in _ (by omega)
  have hw5 : IntKind.u64.wrap (n5 : Int) = (n5 : Int) := IntWalk.u64_in _ (by omega)
  have HC1 := Lib.hid (fun wx => refNumber wx n1 8 (by omega) (by omega))
  have HC2 := Lib.hid (fun wx => refNumber wx n2 8 (by omega) (by omega))
  have HC3 := Lib.hid (fun wx => refNumber wx n3 4 (by omega) (by omega))
  have HC4 := Lib.hid (fun wx => refNumber wx n4 4 (by omega) (by omega))
  have HC5 := Lib.hid (fun wx => refNumber wx n5 4 (by omega) (by omega))
  have HW := Lib.hid (fun wx => refWith11 wx (supRaw X) (by rw [supRaw_length]; omega))
  have HE : Hid ([101, 110, 103, 115] ++ be 8 n1 ++ be 8 n2 ++ be 4 n3 ++ be 4 n4 ++ be 4 n5 = supRaw X) := Lib.hid (by rw [HX.out]; unfold supRaw; simp only [Int.toNat_natCast])
  have z0 : ({ data := #[101, 110, 103, 115] } : ByteArray).size = 4 := rfl
  have z1 : (bstr (be 8 n1)).size = 8 := by rw [bstr_size, be_length]
  have z2 : (bstr (be 8 n2)).size = 8 := by rw [bstr_size, be_length]
  have z3 : (bstr (be 4 n3)).size = 4 := by rw [bstr_size, be_length]
  have z4 : (bstr (be 4 n4)).size = 4 := by rw [bstr_size, be_length]
  have z5 : (bstr (be 4 n5)).size = 4 := by rw [bstr_size, be_length]
  have j1 : ({ data := #[101, 110, 103, 115] } : ByteArray) ++ bstr (be 8 n1) = bstr ([101, 110, 103, 115] ++ be 8 n1) := bstr_append [101, 110, 103, 115] _
  have j2 : bstr ([101, 110, 103, 115] ++ be 8 n1) ++ bstr (be 8 n2) = bstr ([101, 110, 103, 115] ++ be 8 n1 ++ be 8 n2) := bstr_append _ _
  have j3 : bstr ([101, 110, 103, 115] ++ be 8 n1 ++ be 8 n2) ++ bstr (be 4 n3) = bstr ([101, 110, 103, 115] ++ be 8 n1 ++ be 8 n2 ++ be 4 n3) := bstr_append _ _
  have j4 : bstr ([101, 110, 103, 115] ++ be 8 n1 ++ be 8 n2 ++ be 4 n3) ++ bstr (be 4 n4) = bstr ([101, 110, 103, 115] ++ be 8 n1 ++ be 8 n2 ++ be 4 n3 ++ be 4 n4) := bstr_append _ _
  have j5 : bstr ([101, 110, 103, 115] ++ be 8 n1 ++ be 8 n2 ++ be 4 n3 ++ be 4 n4) ++ bstr (be 4 n5) = bstr (supRaw X) := by rw [← HE.out]; exact bstr_append _ _
  have y1 : (bstr ([101, 110, 103, 115] ++ be 8 n1)).size = 12 := by rw [bstr_size]; simp [be_length]
  have y2 : (bstr ([101, 110, 103, 115] ++ be 8 n1 ++ be 8 n2)).size = 20 := by rw [bstr_size]; simp [be_length]
  have y3 : (bstr ([101, 110, 103, 115] ++ be 8 n1 ++ be 8 n2 ++ be 4 n3)).size = 24 := by rw [bstr_size]; simp [be_length]
  have y4 : (bstr ([101, 110, 103, 115] ++ be 8 n1 ++ be 8 n2 ++ be 4 n3 ++ be 4 n4)).size = 28 := by rw [bstr_size]; simp [be_length]
  have z6 : (bstr (crcWith (supRaw X))).size = 36 := by rw [bstr_size, crcWith_length, supRaw_length]
  have j6 : bstr (crcWith (supRaw X)) ++ bstr (List.replicate 92 0) = bstr (supEnc X) := by
    rw [bstr_append]; unfold supEnc; rw [crcWith_length, supRaw_length]
  have z7 : (bstr (List.replicate 92 0)).size = 92 := by rw [bstr_size]; simp
  have hmk : ∀ wx : World, (Instr.makeSlice 25 (.int .i64 92) (.int .i64 92)).run Try.prog wx = .ok (.slice (some ⟨wx.heap.size, 0, none⟩) 92 92) (wx.alloc (.cells (List.replicate 92 (bv 0)).toArray 5)) := fun wx => by
    have := run_make10 92 (by omega) wx
    rwa [List.map_replicate] at this
  have hst := zeroStr 92 (by omega)
  have HXV : Hid (X.val = .agg #[.int .i64 n1, .int .i64 n2, .int .i64 n3, .int .i64 n4, .int .i64 n5]) := Lib.hid (by rw [HX.out]; rfl)
  rw [HXV.out]
  generalize supEnc X = L9 at *
  generalize crcWith (supRaw X) = L8 at *
  generalize supRaw X = L7 at *
  clear HXV HX HE h1 h2 h3 h4 h5
  generalize ([101, 110, 103, 115] ++ be 8 n1 ++ be 8 n2 ++ be 4 n3 ++ be 4 n4) = L4 at *
  generalize ([101, 110, 103, 115] ++ be 8 n1 ++ be 8 n2 ++ be 4 n3) = L3 at *
  generalize ([101, 110, 103, 115] ++ be 8 n1 ++ be 8 n2) = L2 at *
  generalize ([101, 110, 103, 115] ++ be 8 n1) = L1 at *
  generalize be 8 n1 = M1 at *
  generalize be 8 n2 = M2 at *
  generalize be 4 n3 = M3 at *
  generalize be 4 n4 = M4 at *
  generalize be 4 n5 = M5 at *
  generalize bstr (List.replicate 92 0) = BZ at *
  generalize hR : (List.replicate 92 (bv 0)).toArray = RZ at *
  clear hR
  go_enter Try.func12, Try.ntmps12
  go_upto_region 1 with fail
  generalize hw0 : World.alloc w _ = w0
  have HG1 : Hid (SupB w0 w.heap.size ⟨n1, n2, n3, n4, n5⟩) := Lib.hid (by rw [← hw0]; exact heap_alloc_new _ _)
  have N1 : Hid (New w w0) := Lib.hid (by rw [← hw0]; exact (Below.refl _ _).alloc (Nat.le_refl _) _)
  clear hw0
  obtain ⟨g1, hg⟩ : ∃ g, w.heap.size = g := ⟨_, rfl⟩
  rw [hg] at HG1
  rw [hg]
  clear hg
  refine region_ord (NwAt g1 ⟨n1, n2, n3, n4, n5⟩) [(0, true), (1, true), (2, true), (5, true), (6, true), (7, true), (10, true), (11, true), (12, true), (15, true), (16, true), (17, true), (20, true), (21, true), (22, true), (3, false), (4, true), (8, false), (9, true), (13, false), (14, true), (18, false), (19, true), (23, false), (24, true), (25, true)] (by kernel_rfl) (by kernel_rfl) HG1.out.at (fun _ => ?_)
  replace HG1 : Hid (SupB w0.drew g1 ⟨n1, n2, n3, n4, n5⟩) := Lib.hid HG1.out
  replace N1 := Lib.hid N1.out.drew
  generalize w0.drew = wd at *
  unfold NwAt
  iterate 15 (apply ord_take; (simp only [List.getElem?_toArray, List.getElem?_cons_succ, List.getElem?_cons_zero]; rfl); rfl; (intro w hSw; (try dsimp only at hSw); obtain ⟨q0, q1, q2, q3, q4⟩ := hSw; go_simp; try with_reducible rfl); intro _; try simp only [Act.put, List.setIfInBounds_toArray, List.set_cons_zero, List.set_cons_succ])
  have HJ := HC1
  (apply ord_only; (simp only [List.getElem?_toArray, List.getElem?_cons_succ, List.getElem?_cons_zero]; rfl); rfl; intro K hK)
  go_simp
  refine (HJ.out wd).mono ?_
  rintro _ we ⟨rfl, M⟩
  replace N1 := Lib.hid (New.trans N1.out M)
  replace HG1 := Lib.hid (HG1.out.new M)
  clear M HJ wd
  rename World => wd
  refine hK.out _ _ (HG1.out.at) (fun _ => ?_)
  clear hK K
  try simp only [Act.put, List.setIfInBounds_toArray, List.set_cons_zero, List.set_cons_succ]
  (apply ord_take; (simp only [List.getElem?_toArray, List.getElem?_cons_succ, List.getElem?_cons_zero]; rfl); rfl; (intro w hSw; (try dsimp only at hSw); go_simp; try with_reducible rfl); intro _; try simp only [Act.put, List.setIfInBounds_toArray, List.set_cons_zero, List.set_cons_succ])
  have HJ := HC2
  (apply ord_only; (simp only [List.getElem?_toArray, List.getElem?_cons_succ, List.getElem?_cons_zero]; rfl); rfl; intro K hK)
  go_simp
  refine (HJ.out wd).mono ?_
  rintro _ we ⟨rfl, M⟩
  replace N1 := Lib.hid (New.trans N1.out M)
  replace HG1 := Lib.hid (HG1.out.new M)
  clear M HJ wd
  rename World => wd
  refine hK.out _ _ (HG1.out.at) (fun _ => ?_)
  clear hK K
  try simp only [Act.put, List.setIfInBounds_toArray, List.set_cons_zero, List.set_cons_succ]
  (apply ord_take; (simp only [List.getElem?_toArray, List.getElem?_cons_succ, List.getElem?_cons_zero]; rfl); rfl; (intro w hSw; (try dsimp only at hSw); go_simp; try with_reducible rfl); intro _; try simp only [Act.put, List.setIfInBounds_toArray, List.set_cons_zero, List.set_cons_succ])
  have HJ := HC3
  (apply ord_only; (simp only [List.getElem?_toArray, List.getElem?_cons_succ, List.getElem?_cons_zero]; rfl); rfl; intro K hK)
  go_simp
  refine (HJ.out wd).mono ?_
  rintro _ we ⟨rfl, M⟩
  replace N1 := Lib.hid (New.trans N1.out M)
  replace HG1 := Lib.hid (HG1.out.new M)
  clear M HJ wd
  rename World => wd
  refine hK.out _ _ (HG1.out.at) (fun _ => ?_)
  clear hK K
  try simp only [Act.put, List.setIfInBounds_toArray, List.set_cons_zero, List.set_cons_succ]
  (apply ord_take; (simp only [List.getElem?_toArray, List.getElem?_cons_succ, List.getElem?_cons_zero]; rfl); rfl; (intro w hSw; (try dsimp only at hSw); go_simp; try with_reducible rfl); intro _; try simp only [Act.put, List.setIfInBounds_toArray, List.set_cons_zero, List.set_cons_succ])
  have HJ := HC4
  (apply ord_only; (simp only [List.getElem?_toArray, List.getElem?_cons_succ, List.getElem?_cons_zero]; rfl); rfl; intro K hK)
  go_simp
  refine (HJ.out wd).mono ?_
  rintro _ we ⟨rfl, M⟩
  replace N1 := Lib.hid (New.trans N1.out M)
  replace HG1 := Lib.hid (HG1.out.new M)
  clear M HJ wd
  rename World => wd
  refine hK.out _ _ (HG1.out.at) (fun _ => ?_)
  clear hK K
  try simp only [Act.put, List.setIfInBounds_toArray, List.set_cons_zero, List.set_cons_succ]
  (apply ord_take; (simp only [List.getElem?_toArray, List.getElem?_cons_succ, List.getElem?_cons_zero]; rfl); rfl; (intro w hSw; (try dsimp only at hSw); go_simp; try with_reducible rfl); intro _; try simp only [Act.put, List.setIfInBounds_toArray, List.set_cons_zero, List.set_cons_succ])
  have HJ := HC5
  (apply ord_only; (simp only [List.getElem?_toArray, List.getElem?_cons_succ, List.getElem?_cons_zero]; rfl); rfl; intro K hK)
  go_simp
  refine (HJ.out wd).mono ?_
  rintro _ we ⟨rfl, M⟩
  replace N1 := Lib.hid (New.trans N1.out M)
  replace HG1 := Lib.hid (HG1.out.new M)
  clear M HJ wd
  rename World => wd
  refine hK.out _ _ (HG1.out.at) (fun _ => ?_)
  clear hK K
  try simp only [Act.put, List.setIfInBounds_toArray, List.set_cons_zero, List.set_cons_succ]
  (apply ord_take; (simp only [List.getElem?_toArray, List.getElem?_cons_succ, List.getElem?_cons_zero]; rfl); rfl; (intro w hSw; (try dsimp only at hSw); go_simp; try with_reducible rfl); intro _; try simp only [Act.put, List.setIfInBounds_toArray, List.set_cons_zero, List.set_cons_succ])
  (apply ord_take; (simp only [List.getElem?_toArray, List.getElem?_cons_succ, List.getElem?_cons_zero]; rfl); rfl; (intro w hSw; (try dsimp only at hSw); go_simp; try with_reducible rfl); intro _; try simp only [Act.put, List.setIfInBounds_toArray, List.set_cons_zero, List.set_cons_succ])
  apply ord_done
  go_wp2_with fail
  refine (HW.out wd).mono ?_
  rintro _ w3 ⟨rfl, n3⟩
  go_wp2
  go_ret
  exact ⟨rfl, New.trans N1.out (New.trans n3 ((Below.refl _ _).alloc (Nat.le_refl _) _))⟩

end Go.Proofs.Ytcdhfglehmeecaa

namespace Go.Proofs.Ytcdhfglehmeecaa
set_option linter.unusedVariables false
set_option linter.unusedSimpArgs false
open Go.RowKit

theorem val_cut4 {b : List UInt8} {k : Nat} (h : k + 4 ≤ b.length) : wrap64 (val (sCut b k 4) : Int) = (val (sCut b k 4) : Int) := by
  have h1 := eNum_lt 4 (b.drop k) 0
  rw [(eAt h).1] at h1
  exact wrap_small _ (by omega)

/-- ways that all come to one end -/
structure Boxed (p : Prop) : Prop where
  out : p
theorem both_ways {G H : Prop} (h : Boxed G → Boxed H) (g : G) : Boxed H := h ⟨g⟩

set_option maxRecDepth 100000 in
set_option maxHeartbeats 2000000 in
theorem refReadSup (w : World) (l : List UInt8) (place : Int) : Calls Try.prog 15 #[.string (bstr l), .int .i64 place] w (NewRet w (.tuple #[(supGot (supRead l place)).val, .bool (supRead l place).isSome])) := by
  obtain ⟨O, HO⟩ : ∃ O, Hid (supRead l place = O) := ⟨_, Lib.hid rfl⟩
  rw [HO.out]
  have hz : (bstr l).size = l.length := bstr_size l
  go_enter Try.func15, Try.ntmps15
  go_upto_region 1 with fail
  generalize hw1 : World.alloc w _ = w1
  have HG1 : Hid (SupB w1 w.heap.size supZero) := Lib.hid (by rw [← hw1]; exact heap_alloc_new _ _)
  have N1 : Hid (New w w1) := Lib.hid (by rw [← hw1]; exact (Below.refl _ _).alloc (Nat.le_refl _) _)
  clear hw1
  obtain ⟨g0, hg⟩ : ∃ g, w.heap.size = g := ⟨_, rfl⟩
  rw [hg] at HG1
  rw [hg]
  have HB0 : Hid (w.heap.size ≤ g0) := Lib.hid (by omega)
  clear hg
  by_cases h128 : l.length = 128
  rotate_left
  · have d : ((l.length : Int) != 128) = true := by simpa using (show ¬ (l.length : Int) = 128 by omega)
    have HN : Hid (O = none) := Lib.hid (by rw [← HO.out]; exact supRead_len h128)
    clear h128
    obtain ⟨z0, z1, z2, z3, z4⟩ := HG1.out.at
    obtain ⟨u0, u1, u2, u3, u4⟩ := HG1.out.frozen
    go_wp2
    refine bodyPost_ret (results_cell_tmp rfl _ _ g0 _ _ _ _ rfl (HG1.out.put supZero) Try.underlying23 rfl (by kernel_rfl)) rfl ?_
    exact ⟨by rw [HN.out]; rfl, put5_new N1.out HB0.out _ _ _ _ _⟩
  rw [h128] at hz
  have HL := Lib.hid h128
  obtain ⟨X, HX⟩ : ∃ X, Hid (supFld l = X) := ⟨_, Lib.hid rfl⟩
  have c1 : (bstr l).extract 4 12 = bstr (sCut l 4 8) := bstr_cut l 4 12
  have c2 : (bstr l).extract 12 20 = bstr (sCut l 12 8) := bstr_cut l 12 20
  have c3 : (bstr l).extract 20 24 = bstr (sCut l 20 4) := bstr_cut l 20 24
  have c4 : (bstr l).extract 24 28 = bstr (sCut l 24 4) := bstr_cut l 24 28
  have c5 : (bstr l).extract 28 32 = bstr (sCut l 28 4) := bstr_cut l 28 32
  have HC1 : Hid (∀ wx : World, Calls Try.prog 31 #[.string (bstr (sCut l 4 8))] wx fun e w' => e = .returned (.int .i64 X.gen) ∧ wx = w') := Lib.hid (fun wx => by
    rw [← HX.out]; exact refNumber14 wx _ (by rw [sCut_length (by omega)]; omega))
  have HC2 : Hid (∀ wx : World, Calls Try.prog 31 #[.string (bstr (sCut l 12 8))] wx fun e w' => e = .returned (.int .i64 X.boot) ∧ wx = w') := Lib.hid (fun wx => by
    rw [← HX.out]; exact refNumber14 wx _ (by rw [sCut_length (by omega)]; omega))
  have HC3 : Hid (∀ wx : World, Calls Try.prog 31 #[.string (bstr (sCut l 20 4))] wx fun e w' => e = .returned (.int .i64 X.slots) ∧ wx = w') := Lib.hid (fun wx => by
    have h := refNumber14 wx (sCut l 20 4) (by rw [sCut_length (by omega)]; omega)
    rw [val_cut4 (by omega)] at h
    rw [← HX.out]; exact h)
  have HC4 : Hid (∀ wx : World, Calls Try.prog 31 #[.string (bstr (sCut l 24 4))] wx fun e w' => e = .returned (.int .i64 X.segs) ∧ wx = w') := Lib.hid (fun wx => by
    have h := refNumber14 wx (sCut l 24 4) (by rw [sCut_length (by omega)]; omega)
    rw [val_cut4 (by omega)] at h
    rw [← HX.out]; exact h)
  have HC5 : Hid (∀ wx : World, Calls Try.prog 31 #[.string (bstr (sCut l 28 4))] wx fun e w' => e = .returned (.int .i64 X.size) ∧ wx = w') := Lib.hid (fun wx => by
    have h := refNumber14 wx (sCut l 28 4) (by rw [sCut_length (by omega)]; omega)
    rw [val_cut4 (by omega)] at h
    rw [← HX.out]; exact h)
  have HR := Lib.hid (fun wx => refRight14 wx X)
  have HOc := Lib.hid (fun wx (h : X.okB = true) => refOctets14 wx X h)
  rw [SupN.val_eq] at HR HOc
  generalize sCut l 4 8 = C1 at *
  generalize sCut l 12 8 = C2 at *
  generalize sCut l 20 4 = C3 at *
  generalize sCut l 24 4 = C4 at *
  generalize sCut l 28 4 = C5 at *
  generalize hB : bstr l = B at *
  have HBL := Lib.hid hB
  clear hB h128
  go_wp2_with fail
  refine region_ordT (fun _ => True) (.take 0 (.take 1 (.take 3 (.take 4 (.take 6 (.take 7 (.take 9 (.take 10 (.take 12 (.take 13 (.two 2 16 (.two 5 16 (.two 8 16 (.two 11 16 (.two 14 16 (.take 15 (.only 16 (.only 17 .nil))) (.only 14 (.take 15 (.only 17 .nil)))) (.only 11 (.only 14 (.take 15 (.only 17 .nil))))) (.only 8 (.only 11 (.only 14 (.take 15 (.only 17 .nil)))))) (.only 5 (.only 8 (.only 11 (.only 14 (.take 15 (.only 17 .nil))))))) (.only 2 (.only 5 (.only 8 (.only 11 (.only 14 (.take 15 (.only 17 .nil)))))))))))))))))) (by kernel_rfl) (by kernel_rfl) trivial (fun _ => ?_)
  replace HG1 : Hid (SupB w1.drew g0 supZero) := Lib.hid HG1.out
  replace N1 := Lib.hid N1.out.drew
  generalize w1.drew = wd at *
  refine Boxed.out ?_
  apply both_ways
  · intro HEND
    refine ⟨?_⟩
    iterate 10 (apply ordT_take; (simp only [List.getElem?_toArray, List.getElem?_cons_succ, List.getElem?_cons_zero]; rfl); rfl; (intro w hSw; (try dsimp only at hSw); go_simp; try with_reducible rfl); intro _; try simp only [Act.put, List.setIfInBounds_toArray, List.set_cons_zero, List.set_cons_succ])
    (apply ordT_two; (simp only [List.getElem?_toArray, List.getElem?_cons_succ, List.getElem?_cons_zero]; rfl); rfl; (simp only [List.getElem?_toArray, List.getElem?_cons_succ, List.getElem?_cons_zero]; rfl); rfl) <;> intro K hK
    rotate_left
    ·
      go_simp
      refine hK.out _ _ (trivial) (fun _ => ?_)
      clear hK K
      try simp only [Act.put, List.setIfInBounds_toArray, List.set_cons_zero, List.set_cons_succ]
      (apply ordT_only; (simp only [List.getElem?_toArray, List.getElem?_cons_succ, List.getElem?_cons_zero]; rfl); rfl; intro K hK)
      have HJ := HC1
      go_simp
      refine (HJ.out _).mono ?_
      rintro _ we ⟨rfl, rfl⟩
      refine hK.out _ _ (trivial) (fun _ => ?_)
      clear hK K
      try simp only [Act.put, List.setIfInBounds_toArray, List.set_cons_zero, List.set_cons_succ]
      (apply ordT_only; (simp only [List.getElem?_toArray, List.getElem?_cons_succ, List.getElem?_cons_zero]; rfl); rfl; intro K hK)
      have HJ := HC2
      go_simp
      refine (HJ.out _).mono ?_
      rintro _ we ⟨rfl, rfl⟩
      refine hK.out _ _ (trivial) (fun _ => ?_)
      clear hK K
      try simp only [Act.put, List.setIfInBounds_toArray, List.set_cons_zero, List.set_cons_succ]
      (apply ordT_only; (simp only [List.getElem?_toArray, List.getElem?_cons_succ, List.getElem?_cons_zero]; rfl); rfl; intro K hK)
      have HJ := HC3
      go_simp
      refine (HJ.out _).mono ?_
      rintro _ we ⟨rfl, rfl⟩
      refine hK.out _ _ (trivial) (fun _ => ?_)
      clear hK K
      try simp only [Act.put, List.setIfInBounds_toArray, List.set_cons_zero, List.set_cons_succ]
      (apply ordT_only; (simp only [List.getElem?_toArray, List.getElem?_cons_succ, List.getElem?_cons_zero]; rfl); rfl; intro K hK)
      have HJ := HC4
      go_simp
      refine (HJ.out _).mono ?_
      rintro _ we ⟨rfl, rfl⟩
      refine hK.out _ _ (trivial) (fun _ => ?_)
      clear hK K
      try simp only [Act.put, List.setIfInBounds_toArray, List.set_cons_zero, List.set_cons_succ]
      (apply ordT_only; (simp only [List.getElem?_toArray, List.getElem?_cons_succ, List.getElem?_cons_zero]; rfl); rfl; intro K hK)
      have HJ := HC5
      go_simp
      refine (HJ.out _).mono ?_
      rintro _ we ⟨rfl, rfl⟩
      refine hK.out _ _ (trivial) (fun _ => ?_)
      clear hK K
      try simp only [Act.put, List.setIfInBounds_toArray, List.set_cons_zero, List.set_cons_succ]
      (apply ordT_take; (simp only [List.getElem?_toArray, List.getElem?_cons_succ, List.getElem?_cons_zero]; rfl); rfl; (intro w hSw; (try dsimp only at hSw); go_simp; try with_reducible rfl); intro _; try simp only [Act.put, List.setIfInBounds_toArray, List.set_cons_zero, List.set_cons_succ])
      (apply ordT_only; (simp only [List.getElem?_toArray, List.getElem?_cons_succ, List.getElem?_cons_zero]; rfl); rfl; intro K hK)
      go_simp
      refine hK.out _ _ (trivial) (fun _ => ?_)
      clear hK K
      try simp only [Act.put, List.setIfInBounds_toArray, List.set_cons_zero, List.set_cons_succ]
      apply ordT_done
      exact HEND.out
    have HJ := HC1
    go_simp
    refine (HJ.out wd).mono ?_
    rintro _ we ⟨rfl, rfl⟩
    refine hK.out _ _ (trivial) (fun _ => ?_)
    clear hK K
    try simp only [Act.put, List.setIfInBounds_toArray, List.set_cons_zero, List.set_cons_succ]
    (apply ordT_two; (simp only [List.getElem?_toArray, List.getElem?_cons_succ, List.getElem?_cons_zero]; rfl); rfl; (simp only [List.getElem?_toArray, List.getElem?_cons_succ, List.getElem?_cons_zero]; rfl); rfl) <;> intro K hK
    rotate_left
    ·
      go_simp
      refine hK.out _ _ (trivial) (fun _ => ?_)
      clear hK K
      try simp only [Act.put, List.setIfInBounds_toArray, List.set_cons_zero, List.set_cons_succ]
      (apply ordT_only; (simp only [List.getElem?_toArray, List.getElem?_cons_succ, List.getElem?_cons_zero]; rfl); rfl; intro K hK)
      have HJ := HC2
      go_simp
      refine (HJ.out _).mono ?_
      rintro _ we ⟨rfl, rfl⟩
      refine hK.out _ _ (trivial) (fun _ => ?_)
      clear hK K
      try simp only [Act.put, List.setIfInBounds_toArray, List.set_cons_zero, List.set_cons_succ]
      (apply ordT_only; (simp only [List.getElem?_toArray, List.getElem?_cons_succ, List.getElem?_cons_zero]; rfl); rfl; intro K hK)
      have HJ := HC3
      go_simp
      refine (HJ.out _).mono ?_
      rintro _ we ⟨rfl, rfl⟩
      refine hK.out _ _ (trivial) (fun _ => ?_)
      clear hK K
      try simp only [Act.put, List.setIfInBounds_toArray, List.set_cons_zero, List.set_cons_succ]
      (apply ordT_only; (simp only [List.getElem?_toArray, List.getElem?_cons_succ, List.getElem?_cons_zero]; rfl); rfl; intro K hK)
      have HJ := HC4
      go_simp
      refine (HJ.out _).mono ?_
      rintro _ we ⟨rfl, rfl⟩
      refine hK.out _ _ (trivial) (fun _ => ?_)
      clear hK K
      try simp only [Act.put, List.setIfInBounds_toArray, List.set_cons_zero, List.set_cons_succ]
      (apply ordT_only; (simp only [List.getElem?_toArray, List.getElem?_cons_succ, List.getElem?_cons_zero]; rfl); rfl; intro K hK)
      have HJ := HC5
      go_simp
      refine (HJ.out _).mono ?_
      rintro _ we ⟨rfl, rfl⟩
      refine hK.out _ _ (trivial) (fun _ => ?_)
      clear hK K
      try simp only [Act.put, List.setIfInBounds_toArray, List.set_cons_zero, List.set_cons_succ]
      (apply ordT_take; (simp only [List.getElem?_toArray, List.getElem?_cons_succ, List.getElem?_cons_zero]; rfl); rfl; (intro w hSw; (try dsimp only at hSw); go_simp; try with_reducible rfl); intro _; try simp only [Act.put, List.setIfInBounds_toArray, List.set_cons_zero, List.set_cons_succ])
      (apply ordT_only; (simp only [List.getElem?_toArray, List.getElem?_cons_succ, List.getElem?_cons_zero]; rfl); rfl; intro K hK)
      go_simp
      refine hK.out _ _ (trivial) (fun _ => ?_)
      clear hK K
      try simp only [Act.put, List.setIfInBounds_toArray, List.set_cons_zero, List.set_cons_succ]
      apply ordT_done
      exact HEND.out
    have HJ := HC2
    go_simp
    refine (HJ.out wd).mono ?_
    rintro _ we ⟨rfl, rfl⟩
    refine hK.out _ _ (trivial) (fun _ => ?_)
    clear hK K
    try simp only [Act.put, List.setIfInBounds_toArray, List.set_cons_zero, List.set_cons_succ]
    (apply ordT_two; (simp only [List.getElem?_toArray, List.getElem?_cons_succ, List.getElem?_cons_zero]; rfl); rfl; (simp only [List.getElem?_toArray, List.getElem?_cons_succ, List.getElem?_cons_zero]; rfl); rfl) <;> intro K hK
    rotate_left
    ·
      go_simp
      refine hK.out _ _ (trivial) (fun _ => ?_)
      clear hK K
      try simp only [Act.put, List.setIfInBounds_toArray, List.set_cons_zero, List.set_cons_succ]
      (apply ordT_only; (simp only [List.getElem?_toArray, List.getElem?_cons_succ, List.getElem?_cons_zero]; rfl); rfl; intro K hK)
      have HJ := HC3
      go_simp
      refine (HJ.out _).mono ?_
      rintro _ we ⟨rfl, rfl⟩
      refine hK.out _ _ (trivial) (fun _ => ?_)
      clear hK K
      try simp only [Act.put, List.setIfInBounds_toArray, List.set_cons_zero, List.set_cons_succ]
      (apply ordT_only; (simp only [List.getElem?_toArray, List.getElem?_cons_succ, List.getElem?_cons_zero]; rfl); rfl; intro K hK)
      have HJ := HC4
      go_simp
      refine (HJ.out _).mono ?_
      rintro _ we ⟨rfl, rfl⟩
      refine hK.out _ _ (trivial) (fun _ => ?_)
      clear hK K
      try simp only [Act.put, List.setIfInBounds_toArray, List.set_cons_zero, List.set_cons_succ]
      (apply ordT_only; (simp only [List.getElem?_toArray, List.getElem?_cons_succ, List.getElem?_cons_zero]; rfl); rfl; intro K hK)
      have HJ := HC5
      go_simp
      refine (HJ.out _).mono ?_
      rintro _ we ⟨rfl, rfl⟩
      refine hK.out _ _ (trivial) (fun _ => ?_)
      clear hK K
      try simp only [Act.put, List.setIfInBounds_toArray, List.set_cons_zero, List.set_cons_succ]
      (apply ordT_take; (simp only [List.getElem?_toArray, List.getElem?_cons_succ, List.getElem?_cons_zero]; rfl); rfl; (intro w hSw; (try dsimp only at hSw); go_simp; try with_reducible rfl); intro _; try simp only [Act.put, List.setIfInBounds_toArray, List.set_cons_zero, List.set_cons_succ])
      (apply ordT_only; (simp only [List.getElem?_toArray, List.getElem?_cons_succ, List.getElem?_cons_zero]; rfl); rfl; intro K hK)
      go_simp
      refine hK.out _ _ (trivial) (fun _ => ?_)
      clear hK K
      try simp only [Act.put, List.setIfInBounds_toArray, List.set_cons_zero, List.set_cons_succ]
      apply ordT_done
      exact HEND.out
    have HJ := HC3
    go_simp
    refine (HJ.out wd).mono ?_
    rintro _ we ⟨rfl, rfl⟩
    refine hK.out _ _ (trivial) (fun _ => ?_)
    clear hK K
    try simp only [Act.put, List.setIfInBounds_toArray, List.set_cons_zero, List.set_cons_succ]
    (apply ordT_two; (simp only [List.getElem?_toArray, List.getElem?_cons_succ, List.getElem?_cons_zero]; rfl); rfl; (simp only [List.getElem?_toArray, List.getElem?_cons_succ, List.getElem?_cons_zero]; rfl); rfl) <;> intro K hK
    rotate_left
    ·
      go_simp
      refine hK.out _ _ (trivial) (fun _ => ?_)
      clear hK K
      try simp only [Act.put, List.setIfInBounds_toArray, List.set_cons_zero, List.set_cons_succ]
      (apply ordT_only; (simp only [List.getElem?_toArray, List.getElem?_cons_succ, List.getElem?_cons_zero]; rfl); rfl; intro K hK)
      have HJ := HC4
      go_simp
      refine (HJ.out _).mono ?_
      rintro _ we ⟨rfl, rfl⟩
      refine hK.out _ _ (trivial) (fun _ => ?_)
      clear hK K
      try simp only [Act.put, List.setIfInBounds_toArray, List.set_cons_zero, List.set_cons_succ]
      (apply ordT_only; (simp only [List.getElem?_toArray, List.getElem?_cons_succ, List.getElem?_cons_zero]; rfl); rfl; intro K hK)
      have HJ := HC5
      go_simp
      refine (HJ.out _).mono ?_
      rintro _ we ⟨rfl, rfl⟩
      refine hK.out _ _ (trivial) (fun _ => ?_)
      clear hK K
      try simp only [Act.put, List.setIfInBounds_toArray, List.set_cons_zero, List.set_cons_succ]
      (apply ordT_take; (simp only [List.getElem?_toArray, List.getElem?_cons_succ, List.getElem?_cons_zero]; rfl); rfl; (intro w hSw; (try dsimp only at hSw); go_simp; try with_reducible rfl); intro _; try simp only [Act.put, List.setIfInBounds_toArray, List.set_cons_zero, List.set_cons_succ])
      (apply ordT_only; (simp only [List.getElem?_toArray, List.getElem?_cons_succ, List.getElem?_cons_zero]; rfl); rfl; intro K hK)
      go_simp
      refine hK.out _ _ (trivial) (fun _ => ?_)
      clear hK K
      try simp only [Act.put, List.setIfInBounds_toArray, List.set_cons_zero, List.set_cons_succ]
      apply ordT_done
      exact HEND.out
    have HJ := HC4
    go_simp
    refine (HJ.out wd).mono ?_
    rintro _ we ⟨rfl, rfl⟩
    refine hK.out _ _ (trivial) (fun _ => ?_)
    clear hK K
    try simp only [Act.put, List.setIfInBounds_toArray, List.set_cons_zero, List.set_cons_succ]
    (apply ordT_two; (simp only [List.getElem?_toArray, List.getElem?_cons_succ, List.getElem?_cons_zero]; rfl); rfl; (simp only [List.getElem?_toArray, List.getElem?_cons_succ, List.getElem?_cons_zero]; rfl); rfl) <;> intro K hK
    rotate_left
    ·
      go_simp
      refine hK.out _ _ (trivial) (fun _ => ?_)
      clear hK K
      try simp only [Act.put, List.setIfInBounds_toArray, List.set_cons_zero, List.set_cons_succ]
      (apply ordT_only; (simp only [List.getElem?_toArray, List.getElem?_cons_succ, List.getElem?_cons_zero]; rfl); rfl; intro K hK)
      have HJ := HC5
      go_simp
      refine (HJ.out _).mono ?_
      rintro _ we ⟨rfl, rfl⟩
      refine hK.out _ _ (trivial) (fun _ => ?_)
      clear hK K
      try simp only [Act.put, List.setIfInBounds_toArray, List.set_cons_zero, List.set_cons_succ]
      (apply ordT_take; (simp only [List.getElem?_toArray, List.getElem?_cons_succ, List.getElem?_cons_zero]; rfl); rfl; (intro w hSw; (try dsimp only at hSw); go_simp; try with_reducible rfl); intro _; try simp only [Act.put, List.setIfInBounds_toArray, List.set_cons_zero, List.set_cons_succ])
      (apply ordT_only; (simp only [List.getElem?_toArray, List.getElem?_cons_succ, List.getElem?_cons_zero]; rfl); rfl; intro K hK)
      go_simp
      refine hK.out _ _ (trivial) (fun _ => ?_)
      clear hK K
      try simp only [Act.put, List.setIfInBounds_toArray, List.set_cons_zero, List.set_cons_succ]
      apply ordT_done
      exact HEND.out
    have HJ := HC5
    go_simp
    refine (HJ.out wd).mono ?_
    rintro _ we ⟨rfl, rfl⟩
    refine hK.out _ _ (trivial) (fun _ => ?_)
    clear hK K
    try simp only [Act.put, List.setIfInBounds_toArray, List.set_cons_zero, List.set_cons_succ]
    (apply ordT_take; (simp only [List.getElem?_toArray, List.getElem?_cons_succ, List.getElem?_cons_zero]; rfl); rfl; (intro w hSw; (try dsimp only at hSw); go_simp; try with_reducible rfl); intro _; try simp only [Act.put, List.setIfInBounds_toArray, List.set_cons_zero, List.set_cons_succ])
    (apply ordT_only; (simp only [List.getElem?_toArray, List.getElem?_cons_succ, List.getElem?_cons_zero]; rfl); rfl; intro K hK)
    go_simp
    refine hK.out _ _ (trivial) (fun _ => ?_)
    clear hK K
    try simp only [Act.put, List.setIfInBounds_toArray, List.set_cons_zero, List.set_cons_succ]
    (apply ordT_only; (simp only [List.getElem?_toArray, List.getElem?_cons_succ, List.getElem?_cons_zero]; rfl); rfl; intro K hK)
    go_simp
    refine hK.out _ _ (trivial) (fun _ => ?_)
    clear hK K
    try simp only [Act.put, List.setIfInBounds_toArray, List.set_cons_zero, List.set_cons_succ]
    apply ordT_done
    exact HEND.out
  generalize hw1 : World.alloc wd _ = w3
  have HS : Hid (SupB w3 wd.heap.size X) := Lib.hid (by rw [← hw1]; exact heap_alloc_new _ _)
  have N3 : New wd w3 := by rw [← hw1]; exact (Below.refl _ _).alloc (Nat.le_refl _) _
  have HG3 := Lib.hid (HG1.out.new N3)
  have N13 := Lib.hid (New.trans N1.out N3)
  clear hw1 HG1 N3 N1 HC1 HC2 HC3 HC4 HC5 c1 c2 c3 c4 c5
  obtain ⟨g, hg⟩ : ∃ g, wd.heap.size = g := ⟨_, rfl⟩
  rw [hg] at HS
  rw [hg]
  clear hg
  obtain ⟨o, ho⟩ : ∃ o, X.okB = o := ⟨_, rfl⟩
  rw [ho] at HR
  obtain ⟨x0, x1, x2, x3, x4⟩ := HS.out.at
  go_wp2_with fail
  refine (HR.out w3).mono ?_
  rintro _ w4 ⟨rfl, N4⟩
  have HS4 := Lib.hid (HS.out.new N4)
  have HG4 := Lib.hid (HG3.out.new N4)
  have N14 := Lib.hid (New.trans N13.out N4)
  clear HS HG3 N13 N4 HR x0 x1 x2 x3 x4
  cases o
  · have HN : Hid (O = none) := Lib.hid (by rw [← HO.out]; exact supRead_bad (by rw [HX.out]; exact ho))
    have HGZ := HG4
    have NZ := N14
    clear ho
    obtain ⟨z0, z1, z2, z3, z4⟩ := HGZ.out.at
    obtain ⟨u0, u1, u2, u3, u4⟩ := HGZ.out.frozen
    go_wp2
    refine bodyPost_ret (results_cell_tmp rfl _ _ g0 _ _ _ _ rfl (HGZ.out.put supZero) Try.underlying23 rfl (by kernel_rfl)) rfl ?_
    exact ⟨by rw [HN.out]; rfl, put5_new NZ.out HB0.out _ _ _ _ _⟩
  have HOc4 := Lib.hid (HOc.out w4 ho)
  have HOK := Lib.hid ho
  clear HOc ho
  obtain ⟨x0, x1, x2, x3, x4⟩ := HS4.out.at
  go_wp2_with fail
  refine HOc4.out.mono ?_
  rintro _ w5 ⟨rfl, N5⟩
  have HS5 := Lib.hid (HS4.out.new N5)
  have HG5 := Lib.hid (HG4.out.new N5)
  have N15 := Lib.hid (New.trans N14.out N5)
  clear HS4 HG4 N14 N5 HOc4 x0 x1 x2 x3 x4
  obtain ⟨m, HM⟩ : ∃ m, Hid (X.gen.tmod 2 = m) := ⟨_, Lib.hid rfl⟩
  by_cases hb : supEnc X = l
  rotate_left
  · have d1 : ((bstr (supEnc X)).toList == B.toList) = false := by rw [← HBL.out, bstr_list, bstr_list]; simpa using hb
    have d2 : ((bstr (supEnc X)).toList != B.toList) = true := by rw [← HBL.out, bstr_list, bstr_list]; simpa using hb
    have HN : Hid (O = none) := Lib.hid (by rw [← HO.out]; exact supRead_off (by rw [HX.out]; exact hb))
    have HGZ := HG5
    have NZ := N15
    clear hb
    obtain ⟨z0, z1, z2, z3, z4⟩ := HGZ.out.at
    obtain ⟨u0, u1, u2, u3, u4⟩ := HGZ.out.frozen
    go_wp2
    refine bodyPost_ret (results_cell_tmp rfl _ _ g0 _ _ _ _ rfl (HGZ.out.put supZero) Try.underlying23 rfl (by kernel_rfl)) rfl ?_
    exact ⟨by rw [HN.out]; rfl, put5_new NZ.out HB0.out _ _ _ _ _⟩
  have d1 : ((bstr (supEnc X)).toList == B.toList) = true := by rw [← HBL.out, bstr_list, bstr_list]; simpa using hb
  have d2 : ((bstr (supEnc X)).toList != B.toList) = false := by rw [← HBL.out, bstr_list, bstr_list]; simpa using hb
  obtain ⟨x0, x1, x2, x3, x4⟩ := HS5.out.at
  by_cases hp : m = place
  rotate_left
  · have d : (X.gen.tmod 2 != place) = true := by rw [HM.out]; simpa using hp
    have HN : Hid (O = none) := Lib.hid (by rw [← HO.out]; exact supRead_place (by rw [HX.out, HM.out]; exact hp))
    have HGZ := HG5
    have NZ := N15
    clear hb hp
    obtain ⟨z0, z1, z2, z3, z4⟩ := HGZ.out.at
    obtain ⟨u0, u1, u2, u3, u4⟩ := HGZ.out.frozen
    go_wp2
    refine bodyPost_ret (results_cell_tmp rfl _ _ g0 _ _ _ _ rfl (HGZ.out.put supZero) Try.underlying23 rfl (by kernel_rfl)) rfl ?_
    exact ⟨by rw [HN.out]; rfl, put5_new NZ.out HB0.out _ _ _ _ _⟩
  have d : (X.gen.tmod 2 != place) = false := by rw [HM.out]; simpa using hp
  have HN : Hid (O = some X) := Lib.hid (by
    rw [← HO.out]
    unfold supRead
    rw [HX.out]
    exact if_pos ⟨HL.out, HOK.out, hb, by rw [HM.out]; exact hp⟩)
  clear hb hp
  obtain ⟨z0, z1, z2, z3, z4⟩ := HG5.out.at
  obtain ⟨u0, u1, u2, u3, u4⟩ := HG5.out.frozen
  go_wp2
  refine bodyPost_ret (results_cell_tmp rfl _ _ g0 _ _ _ _ rfl (HG5.out.put X) Try.underlying23 rfl (by kernel_rfl)) rfl ?_
  exact ⟨by rw [HN.out]; rfl, put5_new N15.out HB0.out _ _ _ _ _⟩

end Go.Proofs.Ytcdhfglehmeecaa

namespace Go.Proofs.Ytcdhfglehmeecaa
set_option linter.unusedVariables false
set_option linter.unusedSimpArgs false
open Go.RowKit

set_option maxRecDepth 100000 in
set_option maxHeartbeats 1000000 in
theorem refNewestSup (w : World) (l : List UInt8) : Calls Try.prog 14 #[.string (bstr l)] w (NewRet w (.tuple #[(supGot (supNewest l)).val, .bool (supNewest l).isSome])) := by
  obtain ⟨O, HO⟩ : ∃ O, Hid (supNewest l = O) := ⟨_, Lib.hid rfl⟩
  rw [HO.out]
  have hz : (bstr l).size = l.length := bstr_size l
  have hd1 : (bstr l).extract 0 128 = bstr (sec l 0) := bstr_cut l 0 128
  have hd2 : (bstr l).extract 128 256 = bstr (sec l 1) := bstr_cut l 128 256
  have HC1 := Lib.hid (fun wx => refReadSup wx (sec l 0) 0)
  have HC2 := Lib.hid (fun wx => refReadSup wx (sec l 1) 1)
  go_enter Try.func14, Try.ntmps14
  go_upto_region 1 with fail
  generalize hw1 : World.alloc w _ = w1
  have HG1 : Hid (SupB w1 w.heap.size supZero) := Lib.hid (by rw [← hw1]; exact heap_alloc_new _ _)
  have N1 : Hid (New w w1) := Lib.hid (by rw [← hw1]; exact (Below.refl _ _).alloc (Nat.le_refl _) _)
  clear hw1
  obtain ⟨g2, hg⟩ : ∃ g, w.heap.size = g := ⟨_, rfl⟩
  rw [hg] at HG1
  rw [hg]
  have HB2 : Hid (w.heap.size ≤ g2) := Lib.hid (by omega)
  clear hg
  by_cases h256 : l.length < 256
  · have d : decide ((l.length : Int) < 256) = true := by simp; omega
    have HV : Hid (O = none) := Lib.hid (by rw [← HO.out]; exact if_neg (by omega))
    have HG := HG1
    have HN := N1
    clear h256 hd1 hd2
    obtain ⟨z0, z1, z2, z3, z4⟩ := HG.out.at
    obtain ⟨u0, u1, u2, u3, u4⟩ := HG.out.frozen
    go_wp2
    refine bodyPost_ret (results_cell_tmp rfl _ _ g2 _ _ _ _ rfl (HG.out.put supZero) Try.underlying23 rfl (by kernel_rfl)) rfl ?_
    exact ⟨by rw [HV.out]; rfl, put5_new HN.out HB2.out _ _ _ _ _⟩
  have d : decide ((l.length : Int) < 256) = false := by simp; omega
  obtain ⟨o, Ho⟩ : ∃ o, Hid (supRead (sec l 0) 0 = o) := ⟨_, Lib.hid rfl⟩
  obtain ⟨p, Hp⟩ : ∃ p, Hid (supRead (sec l 1) 1 = p) := ⟨_, Lib.hid rfl⟩
  have HOP : Hid (O = supNewer o p) := Lib.hid (by
    rw [← HO.out, ← Ho.out, ← Hp.out]
    exact if_pos (by omega))
  rw [Ho.out] at HC1
  rw [Hp.out] at HC2
  have hlen : 256 ≤ l.length := by omega
  clear h256
  go_wp2_with fail
  refine (HC1.out w1).mono ?_
  rintro _ w2 ⟨rfl, N2⟩
  rw [SupN.val_eq]
  go_upto_region 4 with fail
  generalize hw3 : World.alloc w2 _ = w3
  have HS3 : Hid (SupB w3 w2.heap.size (supGot o)) := Lib.hid (by rw [← hw3]; exact heap_alloc_new _ _)
  have N3 : New w2 w3 := by rw [← hw3]; exact (Below.refl _ _).alloc (Nat.le_refl _) _
  have HG3 := Lib.hid ((HG1.out.new N2).new N3)
  have N13 := Lib.hid (New.trans N1.out (New.trans N2 N3))
  clear hw3 HG1 N1 N2 N3 HC1
  obtain ⟨g4, hg⟩ : ∃ g, w2.heap.size = g := ⟨_, rfl⟩
  rw [hg] at HS3
  rw [hg]
  clear hg
  go_wp2_with fail
  refine (HC2.out w3).mono ?_
  rintro _ w4 ⟨rfl, N4⟩
  rw [SupN.val_eq]
  go_upto_region 5 with fail
  generalize hw5 : World.alloc w4 _ = w5
  have HT5 : Hid (SupB w5 w4.heap.size (supGot p)) := Lib.hid (by rw [← hw5]; exact heap_alloc_new _ _)
  have N5 : New w4 w5 := by rw [← hw5]; exact (Below.refl _ _).alloc (Nat.le_refl _) _
  have HG := Lib.hid ((HG3.out.new N4).new N5)
  have HS := Lib.hid ((HS3.out.new N4).new N5)
  have HN := Lib.hid (New.trans N13.out (New.trans N4 N5))
  clear hw5 HG3 HS3 N13 N4 N5 HC2
  obtain ⟨g6, hg⟩ : ∃ g, w4.heap.size = g := ⟨_, rfl⟩
  rw [hg] at HT5
  rw [hg]
  clear hg hd1 hd2 hz hlen d
  obtain ⟨x0, x1, x2, x3, x4⟩ := HS.out.at
  obtain ⟨y0, y1, y2, y3, y4⟩ := HT5.out.at
  cases o with
  | none =>
    rw [show (none : Option SupN).isSome = false from rfl]
    cases p with
    | none =>
      rw [show (none : Option SupN).isSome = false from rfl]
      have HV : Hid (O = none) := Lib.hid (by rw [HOP.out]; rfl)
      clear HOP HO
      obtain ⟨z0, z1, z2, z3, z4⟩ := HG.out.at
      obtain ⟨u0, u1, u2, u3, u4⟩ := HG.out.frozen
      go_wp2
      refine bodyPost_ret (results_cell_tmp rfl _ _ g2 _ _ _ _ rfl (HG.out.put (supGot none)) Try.underlying23 rfl (by kernel_rfl)) rfl ?_
      exact ⟨by rw [HV.out]; rfl, put5_new HN.out HB2.out _ _ _ _ _⟩
    | some t =>
      rw [show (some t : Option SupN).isSome = true from rfl]
      have HV : Hid (O = some t) := Lib.hid (by rw [HOP.out]; rfl)
      clear HOP HO
      obtain ⟨z0, z1, z2, z3, z4⟩ := HG.out.at
      obtain ⟨u0, u1, u2, u3, u4⟩ := HG.out.frozen
      go_wp2
      refine bodyPost_ret (results_cell_tmp rfl _ _ g2 _ _ _ _ rfl (HG.out.put (supGot (some t))) Try.underlying23 rfl (by kernel_rfl)) rfl ?_
      exact ⟨by rw [HV.out]; rfl, put5_new HN.out HB2.out _ _ _ _ _⟩
  | some s =>
    rw [show (some s : Option SupN).isSome = true from rfl]
    cases p with
    | none =>
      rw [show (none : Option SupN).isSome = false from rfl]
      have HV : Hid (O = some s) := Lib.hid (by rw [HOP.out]; rfl)
      clear HOP HO
      obtain ⟨z0, z1, z2, z3, z4⟩ := HG.out.at
      obtain ⟨u0, u1, u2, u3, u4⟩ := HG.out.frozen
      go_wp2
      refine bodyPost_ret (results_cell_tmp rfl _ _ g2 _ _ _ _ rfl (HG.out.put (supGot (some s))) Try.underlying23 rfl (by kernel_rfl)) rfl ?_
      exact ⟨by rw [HV.out]; rfl, put5_new HN.out HB2.out _ _ _ _ _⟩
    | some t =>
      rw [show (some t : Option SupN).isSome = true from rfl]
      by_cases hgt : s.gen < t.gen
      · have HV : Hid (O = some t) := Lib.hid (by rw [HOP.out]; exact if_pos hgt)
        have d : decide ((supGot (some s)).gen < (supGot (some t)).gen) = true := decide_eq_true hgt
        clear HOP HO hgt
        obtain ⟨z0, z1, z2, z3, z4⟩ := HG.out.at
        obtain ⟨u0, u1, u2, u3, u4⟩ := HG.out.frozen
        go_wp2
        refine bodyPost_ret (results_cell_tmp rfl _ _ g2 _ _ _ _ rfl (HG.out.put (supGot (some t))) Try.underlying23 rfl (by kernel_rfl)) rfl ?_
        exact ⟨by rw [HV.out]; rfl, put5_new HN.out HB2.out _ _ _ _ _⟩
      · have HV : Hid (O = some s) := Lib.hid (by rw [HOP.out]; exact if_neg hgt)
        have d : decide ((supGot (some s)).gen < (supGot (some t)).gen) = false := decide_eq_false hgt
        clear HOP HO hgt
        obtain ⟨z0, z1, z2, z3, z4⟩ := HG.out.at
        obtain ⟨u0, u1, u2, u3, u4⟩ := HG.out.frozen
        go_wp2
        refine bodyPost_ret (results_cell_tmp rfl _ _ g2 _ _ _ _ rfl (HG.out.put (supGot (some s))) Try.underlying23 rfl (by kernel_rfl)) rfl ?_
        exact ⟨by rw [HV.out]; rfl, put5_new HN.out HB2.out _ _ _ _ _⟩

end Go.Proofs.Ytcdhfglehmeecaa
