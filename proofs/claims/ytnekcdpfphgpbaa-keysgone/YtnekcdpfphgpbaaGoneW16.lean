/-
  KeysGone's walk, over what it wants of the program.
-/
import Derived.Test.YtnekcdpfphgpbaaGone16
import Derived.Test.YtnekcdpfphgpbaaDskAll
import Derived.Test.YtnekcdpfphgpbaaRefTxt
import Derived.Test.YtnekcdpfphgpbaaTextsOwn
import Derived.Test.YtnekcdpfphgpbaaRefRest
import Derived.Test.YtnekcdpfphgpbaaAppAny
namespace Go.Proofs.Ytnekcdpfphgpbaa
set_option linter.unusedVariables false
set_option linter.unusedSimpArgs false
set_option maxRecDepth 100000
open Go.RowKit

set_option maxHeartbeats 1000000 in
theorem goneLaw16 {KM : KObj} (A : KeyApi KM) (hAw : ∀ w : World, Calls Try.prog 5 #[] w fun e w' => e = .returned (.bool true) ∧ New w w') (w : World) (z : Value) (l : List ActK) (hz : RdActK w z l) (y : Value) (k : List UInt8) (hy : Rd w y k) (n0 n1 : Int) (hn0 : -9223372036854775808 ≤ n0 ∧ n0 ≤ 9223372036854775807) (hn1 : -9223372036854775808 ≤ n1 ∧ n1 ≤ 9223372036854775807) :
    Calls Try.prog 4 #[z, y, .agg #[.int .i64 n0, .int .i64 n1]] w fun e w' => e = .returned (.bool true) ∧ New w w' := by
  have HZ := Lib.hid hz
  have HY := Lib.hid hy
  have AWk := Lib.hid hAw
  obtain ⟨az, nz, cz, rfl⟩ : ∃ a n c, z = .slice a n c := by obtain ⟨⟨a, n, c, e, _⟩, _⟩ := hz; exact ⟨a, n, c, e⟩
  obtain ⟨ay, ny, cy, rfl, hny, hly, hmy, -⟩ := id hy
  unfold maxLen at hmy
  have HNz := Lib.hid hz.len
  have HNy := Lib.hid hny
  have hnz : nz ≤ 9223372036854775807 := by have := HNz.out; omega
  have hny2 : ny ≤ 9223372036854775807 := by omega
  clear hz hy hny hly hmy hAw
  go_enter Try.func4, Try.ntmps4
  go_upto_region 1 with fail
  generalize hw0 : World.alloc w _ = w0
  obtain ⟨nb, Hnb⟩ : ∃ nb, Hid (w.heap.size = nb) := ⟨_, Lib.hid rfl⟩
  rw [Hnb.out]
  have N0 : New w w0.drew := by rw [← hw0]; exact ((Below.refl _ _).alloc (Nat.le_refl _) _).drew
  have HBx : Hid (At2 w0.drew nb 48 (.int .i64 n0) (.int .i64 n1)) := Lib.hid (At2.new (by rw [← hw0, ← Hnb.out]; exact heap_alloc_new _ _) ((Below.refl _ _).drew))
  have HN := Lib.hid N0
  clear hw0
  refine region_ord (Str10 (.slice ay ny cy) k) [(0, false), (1, true), (2, true), (3, true), (4, false), (5, true), (6, true), (7, true), (8, true), (9, true), (10, true), (11, true), (12, true), (13, true), (14, true), (15, false), (16, false), (17, true), (18, true)] (by kernel_rfl) (by kernel_rfl) (str10 (HY.out.new HN.out)) (fun _ => ?_)
  generalize w0.drew = w1 at *
  clear N0
  unfold Str10
  (apply ord_only; (simp only [List.getElem?_toArray, List.getElem?_cons_succ, List.getElem?_cons_zero]; rfl); rfl; intro K hK)
  go_simp
  refine (AWk.out w1).mono ?_
  rintro _ w2 ⟨rfl, N2⟩
  replace HN := Lib.hid (New.trans HN.out N2)
  replace HBx := Lib.hid (HBx.out.new N2)
  clear N2
  refine hK.out _ _ (str10 (HY.out.new HN.out)) (fun _ => ?_)
  clear hK K
  try simp only [Act.put, List.setIfInBounds_toArray, List.set_cons_zero, List.set_cons_succ]
  iterate 3 (apply ord_take; (simp only [List.getElem?_toArray, List.getElem?_cons_succ, List.getElem?_cons_zero]; rfl); rfl; (intro w hSw; (try dsimp only at hSw); go_simp; try with_reducible rfl); intro _; try simp only [Act.put, List.setIfInBounds_toArray, List.set_cons_zero, List.set_cons_succ])
  have HSm := Lib.hid (small16 w2 _ l 15 (HZ.out.new HN.out) (by decide))
  rw [show ((15 : Nat) : Int) = 15 from rfl] at HSm
  (apply ord_only; (simp only [List.getElem?_toArray, List.getElem?_cons_succ, List.getElem?_cons_zero]; rfl); rfl; intro K hK)
  go_simp
  refine HSm.out.mono ?_
  rintro _ w9 ⟨rfl, rfl⟩
  clear HSm
  refine hK.out _ _ (str10 (HY.out.new HN.out)) (fun _ => ?_)
  clear hK K
  try simp only [Act.put, List.setIfInBounds_toArray, List.set_cons_zero, List.set_cons_succ]
  cases hsa : smallK l 15 with
  | false =>
    iterate 3 (apply ord_take; (simp only [List.getElem?_toArray, List.getElem?_cons_succ, List.getElem?_cons_zero]; rfl); rfl; (intro w hSw; (try dsimp only at hSw); go_simp; try with_reducible rfl); intro _; try simp only [Act.put, List.setIfInBounds_toArray, List.set_cons_zero, List.set_cons_succ])
    iterate 3 (apply ord_skip; (simp only [List.getElem?_toArray, List.getElem?_cons_succ, List.getElem?_cons_zero]; rfl); rfl; intro _; try simp only [Act.put, List.setIfInBounds_toArray, List.set_cons_zero, List.set_cons_succ])
    iterate 2 (apply ord_take; (simp only [List.getElem?_toArray, List.getElem?_cons_succ, List.getElem?_cons_zero]; rfl); rfl; (intro w hSw; (try dsimp only at hSw); go_simp; try with_reducible rfl); intro _; try simp only [Act.put, List.setIfInBounds_toArray, List.set_cons_zero, List.set_cons_succ])
    iterate 2 (apply ord_skip; (simp only [List.getElem?_toArray, List.getElem?_cons_succ, List.getElem?_cons_zero]; rfl); rfl; intro _; try simp only [Act.put, List.setIfInBounds_toArray, List.set_cons_zero, List.set_cons_succ])
    (apply ord_pass; (simp only [List.getElem?_toArray, List.getElem?_cons_succ, List.getElem?_cons_zero]; rfl); rfl; intro _; try simp only [Act.put, List.setIfInBounds_toArray, List.set_cons_zero, List.set_cons_succ])
    (apply ord_pass; (simp only [List.getElem?_toArray, List.getElem?_cons_succ, List.getElem?_cons_zero]; rfl); rfl; intro _; try simp only [Act.put, List.setIfInBounds_toArray, List.set_cons_zero, List.set_cons_succ])
    (apply ord_skip; (simp only [List.getElem?_toArray, List.getElem?_cons_succ, List.getElem?_cons_zero]; rfl); rfl; intro _; try simp only [Act.put, List.setIfInBounds_toArray, List.set_cons_zero, List.set_cons_succ])
    (apply ord_take; (simp only [List.getElem?_toArray, List.getElem?_cons_succ, List.getElem?_cons_zero]; rfl); rfl; (intro w hSw; (try dsimp only at hSw); go_simp; try with_reducible rfl); intro _; try simp only [Act.put, List.setIfInBounds_toArray, List.set_cons_zero, List.set_cons_succ])
    apply ord_done
    go_wp2_with fail
    refine (AWk.out _).mono ?_
    rintro _ wz ⟨rfl, Nz⟩
    have HNz2 := Lib.hid (New.trans HN.out Nz)
    clear Nz
    go_wp2
    go_ret
    exact ⟨rfl, HNz2.out⟩
  | true =>
    have HNl : Hid (nz ≤ 15) := Lib.hid (by have := HNz.out; unfold smallK at hsa; rw [Bool.and_eq_true] at hsa; have := of_decide_eq_true hsa.1; omega)
    clear hsa
    by_cases h32 : ny = 32
    rotate_left
    · have h32' : ((ny : Int) != 32) = true := by simp; omega
      iterate 6 (apply ord_take; (simp only [List.getElem?_toArray, List.getElem?_cons_succ, List.getElem?_cons_zero]; rfl); rfl; (intro w hSw; (try dsimp only at hSw); go_simp; try with_reducible rfl); intro _; try simp only [Act.put, List.setIfInBounds_toArray, List.set_cons_zero, List.set_cons_succ])
      iterate 2 (apply ord_take; (simp only [List.getElem?_toArray, List.getElem?_cons_succ, List.getElem?_cons_zero]; rfl); rfl; (intro w hSw; (try dsimp only at hSw); go_simp; try with_reducible rfl); intro _; try simp only [Act.put, List.setIfInBounds_toArray, List.set_cons_zero, List.set_cons_succ])
      iterate 2 (apply ord_skip; (simp only [List.getElem?_toArray, List.getElem?_cons_succ, List.getElem?_cons_zero]; rfl); rfl; intro _; try simp only [Act.put, List.setIfInBounds_toArray, List.set_cons_zero, List.set_cons_succ])
      (apply ord_pass; (simp only [List.getElem?_toArray, List.getElem?_cons_succ, List.getElem?_cons_zero]; rfl); rfl; intro _; try simp only [Act.put, List.setIfInBounds_toArray, List.set_cons_zero, List.set_cons_succ])
      (apply ord_pass; (simp only [List.getElem?_toArray, List.getElem?_cons_succ, List.getElem?_cons_zero]; rfl); rfl; intro _; try simp only [Act.put, List.setIfInBounds_toArray, List.set_cons_zero, List.set_cons_succ])
      (apply ord_skip; (simp only [List.getElem?_toArray, List.getElem?_cons_succ, List.getElem?_cons_zero]; rfl); rfl; intro _; try simp only [Act.put, List.setIfInBounds_toArray, List.set_cons_zero, List.set_cons_succ])
      (apply ord_take; (simp only [List.getElem?_toArray, List.getElem?_cons_succ, List.getElem?_cons_zero]; rfl); rfl; (intro w hSw; (try dsimp only at hSw); go_simp; try with_reducible rfl); intro _; try simp only [Act.put, List.setIfInBounds_toArray, List.set_cons_zero, List.set_cons_succ])
      apply ord_done
      go_wp2_with fail
      refine (AWk.out _).mono ?_
      rintro _ wz ⟨rfl, Nz⟩
      have HNz2 := Lib.hid (New.trans HN.out Nz)
      clear Nz
      go_wp2
      go_ret
      exact ⟨rfl, HNz2.out⟩
    subst h32
    iterate 10 (apply ord_take; (simp only [List.getElem?_toArray, List.getElem?_cons_succ, List.getElem?_cons_zero]; rfl); rfl; (intro w hSw; (try dsimp only at hSw); go_simp; try with_reducible rfl); intro _; try simp only [Act.put, List.setIfInBounds_toArray, List.set_cons_zero, List.set_cons_succ])
    have hmk : ∀ wx : World, (Instr.makeSlice 37 (.int .i64 32) (.int .i64 32)).run Try.prog wx = .ok (.slice (some ⟨wx.heap.size, 0, none⟩) 32 32) (wx.alloc (.cells ((List.replicate 32 (0 : UInt8)).map bv).toArray 5)) := fun wx => run_make10 32 (by omega) wx
    generalize hRZ : ((List.replicate 32 (0 : UInt8)).map bv).toArray = RZ at hmk
    (apply ord_only; (simp only [List.getElem?_toArray, List.getElem?_cons_succ, List.getElem?_cons_zero]; rfl); rfl; intro K hK)
    go_simp
    generalize hwm : World.alloc w2 _ = wm
    obtain ⟨gm, Hgm⟩ : ∃ x, Hid (w2.heap.size = x) := ⟨_, Lib.hid rfl⟩
    have NM : New w2 wm := by rw [← hwm]; exact (Below.refl _ _).alloc (Nat.le_refl _) _
    have hrm := rd_row10 (w := wm) (g := gm) (l := List.replicate 32 0) (by rw [← hwm, ← Hgm.out, hRZ]; exact heap_alloc_new _ _) (by simp)
    rw [List.length_replicate] at hrm
    rw [Hgm.out]
    obtain ⟨Z, HZe⟩ : ∃ Z : List UInt8, Hid (List.replicate 32 0 = Z) := ⟨_, Lib.hid rfl⟩
    rw [HZe.out] at hrm
    have HM := Lib.hid hrm
    replace HN := Lib.hid (New.trans HN.out NM)
    replace HBx := Lib.hid (HBx.out.new NM)
    clear hwm NM hrm hmk hRZ
    refine hK.out _ _ (str10 (HY.out.new HN.out)) (fun _ => ?_)
    clear hK K
    try simp only [Act.put, List.setIfInBounds_toArray, List.set_cons_zero, List.set_cons_succ]
    (apply ord_only; (simp only [List.getElem?_toArray, List.getElem?_cons_succ, List.getElem?_cons_zero]; rfl); rfl; intro K hK)
    have hst := str10 HM.out
    unfold Str10 at hst
    go_simp
    clear hst HM
    refine hK.out _ _ (str10 (HY.out.new HN.out)) (fun _ => ?_)
    clear hK K
    try simp only [Act.put, List.setIfInBounds_toArray, List.set_cons_zero, List.set_cons_succ]
    have hq : ((bstr k).toList == (bstr Z).toList) = decide (k = Z) := by
      rw [bstr_list, bstr_list, Bool.eq_iff_iff]; simp
    by_cases hk0 : k = Z
    · rw [decide_eq_true hk0] at hq
      clear hk0
      generalize bstr k = S1 at *
      generalize bstr Z = S2 at *
      iterate 2 (apply ord_take; (simp only [List.getElem?_toArray, List.getElem?_cons_succ, List.getElem?_cons_zero]; rfl); rfl; (intro w hSw; (try dsimp only at hSw); go_simp; try with_reducible rfl); intro _; try simp only [Act.put, List.setIfInBounds_toArray, List.set_cons_zero, List.set_cons_succ])
      apply ord_done
      go_wp2_with fail
      refine (AWk.out _).mono ?_
      rintro _ wz ⟨rfl, Nz⟩
      have HNz2 := Lib.hid (New.trans HN.out Nz)
      clear Nz
      go_wp2
      go_ret
      exact ⟨rfl, HNz2.out⟩
    rw [decide_eq_false hk0] at hq
    have HK0 : Hid (k ≠ List.replicate 32 0) := Lib.hid (by rw [HZe.out]; exact hk0)
    have HKl : Hid (k.length = 32) := HNy
    clear hk0
    iterate 2 (apply ord_take; (simp only [List.getElem?_toArray, List.getElem?_cons_succ, List.getElem?_cons_zero]; rfl); rfl; (intro w hSw; (try dsimp only at hSw); go_simp; try with_reducible rfl); intro _; try simp only [Act.put, List.setIfInBounds_toArray, List.set_cons_zero, List.set_cons_succ])
    apply ord_done
    clear hq
    have he : ∀ (wx : World) (k : Nat), (binOp .eql 26 (.pointer (some ⟨k, 0, none⟩)) (.pointer none)).run Try.prog wx = .ok (.bool false) wx := fun _ _ => rfl
    have he2 : ∀ (wx : World) (k : Nat), (binOp .eql 30 (.pointer (some ⟨k, 0, none⟩)) (.pointer none)).run Try.prog wx = .ok (.bool false) wx := fun _ _ => rfl
    have HNw := Lib.hid (diskNew wm 16 (by omega))
    go_wp2_with fail
    refine HNw.out.mono ?_
    rintro _ w3 ⟨g, rfl, hd, hn3⟩
    have HD3 := Lib.hid hd
    have HN3 := Lib.hid hn3
    clear hd hn3 HNw
    have HOp := Lib.hid (A.open_ HD3.out 0 8 (by omega) (by omega) (by omega))
    go_wp2_with fail
    refine HOp.out.mono ?_
    rintro _ w4 ⟨p, D', rfl, ht, hon⟩
    have HS0 := Lib.hid (KgSt.start (k := k) A (New.trans HN.out HN3.out) ((HBx.out).new HN3.out) (by have := Hnb.out; omega) (fun j hj => ⟨Nat.le_trans HN.out.size hj, by have h9 := lt_of_block HBx.out; omega⟩) ht hon)
    clear ht hon HOp HD3 HN3 HN HBx
    go_wp2
    go_loopw [11, 12, 13] (fun lv iv _ wr => ∃ (i : Nat) (L : List KSlot) (lb : Bool), i ≤ nz ∧ iv = .int .i64 i ∧ lv = .bool lb ∧ KgSt KM w g p nb (.cells #[.int .i64 n0, .int .i64 n1] 48) L k wr ∧ Hid (KgL L lb)) (fun _ iv _ _ => nz - (intOf iv).toNat)
    case atStart => exact ⟨0, _, false, Nat.zero_le _, rfl, rfl, HS0.out, Lib.hid (fun hh => by cases hh)⟩
    case round =>
      clear HS0
      obtain ⟨i, L, lb, hi, rfl, rfl, hst, HLb⟩ := hrel
      have HS := Lib.hid hst
      clear hst
      by_cases hlt : i < nz
      rotate_left
      · obtain rfl : i = nz := by omega
        have hli : ¬ (i : Int) < (i : Int) := by omega
        cases lb with
        | false =>
          go_wp2
          go_ret
          exact ⟨rfl, HS.out.new⟩
        | true =>
          have HSh := kgShred A HS.out (b := 100) (by omega)
          rw [show ((100 : Nat) : Int) = 100 from rfl] at HSh
          replace HSh := Lib.hid HSh
          go_wp2_with fail
          refine HSh.out.mono ?_
          rintro _ w5 ⟨L5, hst5, (⟨rfl, hf5⟩ | ⟨hf5, -⟩), -⟩
          rotate_left
          · exact absurd (kGetK_none hf5) (HLb.out rfl)
          have HS5 := Lib.hid hst5
          have HF5 := Lib.hid hf5
          have HS5ok := Lib.hid (And.intro hst5.ok hst5.len)
          clear hst5 hf5 HSh HS HLb hlt hi
          obtain ⟨D5, hd5, hg5⟩ := HS5.out.gone HF5.out HK0.out HKl.out
          obtain ⟨t5, Ht5, HG5⟩ : ∃ t : List (List UInt8), Hid ((List.range 16).map (sec D5) ++ ([] : List Wr).map (·.2) = t) ∧ Hid (t.length = 16 ∧ ∀ x ∈ t, within16 k x = false ∧ x.length ≤ 128) := ⟨_, Lib.hid rfl, Lib.hid ⟨by simp, fun x hx => by
            obtain ⟨t, ht, rfl⟩ : ∃ t, t < 16 ∧ sec D5 t = x := by simpa using hx
            exact ⟨hg5 t ht, by unfold sec; simp; omega⟩⟩⟩
          have HAl := diskAll hd5 (by simp)
          rw [Ht5.out] at HAl
          replace HAl := Lib.hid HAl
          clear hd5 hg5 Ht5
          go_wp2_with fail
          refine HAl.out.mono ?_
          rintro _ w6 ⟨N6, a6, n6, c6, qs6, rfl, hr6, hq6⟩
          have hq6l : qs6.length = 16 := by have := congrArg List.length hq6; rw [List.length_map, HG5.out.1] at this; exact this
          have HTx := refTexts16 w6 _ qs6 hr6 (by omega)
          rw [hq6] at HTx
          replace HTx := Lib.hid HTx
          have HS6 := Lib.hid (HS5.out.more A N6)
          clear N6 hr6 hq6 hq6l HAl HS5
          go_wp2_with fail
          refine HTx.out.mono ?_
          rintro _ w7 ⟨N7, a7, c7, rfl, hw7⟩
          have HW7 := Lib.hid hw7
          have HN7 := Lib.hid N7
          obtain ⟨x0, x1⟩ := At2.cells ((HS6.out.more A N7).box)
          clear N7 hw7 HTx
          go_wp2_with fail
          have hry := rdv_int1 w7 n1
          generalize hw8 : World.alloc w7 _ = w8 at *
          have N8 : New w7 w8 := by rw [← hw8]; exact (Below.refl _ _).alloc (Nat.le_refl _) _
          have HCr := Lib.hid (kgCrash A HS6.out (New.trans HN7.out N8) _ [n1] hry (fun j hj => by simp [blk] at hj; subst hj; exact HN7.out.size) (by simp))
          have HW8 := Lib.hid (own_more HW7.out N8)
          have HSz8 := Lib.hid (New.trans HN7.out N8).size
          clear hw8 N8 hry x0 x1 HW7
          refine HCr.out.mono ?_
          rintro _ w9 ⟨⟨xc, rfl⟩, hst9, ho9, Fo, hob9, hfo⟩
          have HObj := Lib.hid hob9
          have HFo := Lib.hid hfo
          clear hob9 hfo
          have HS9 := Lib.hid hst9
          have HW9 := Lib.hid (ownsRow_only HW8.out ho9 (fun j hj hh => by have := own_from HW8.out j hj; have := hh.2; omega))
          have HSz9 := Lib.hid (Nat.le_trans HSz8.out ho9.size)
          have HSz6 := Lib.hid HS6.out.new.size
          clear hst9 ho9 HCr HW8 HS6 HSz8 HN7
          obtain ⟨D9, hd9, hg9⟩ := HS9.out.gone HF5.out HK0.out HKl.out
          obtain ⟨t9, Ht9, HG9⟩ : ∃ t : List (List UInt8), Hid ((List.range 16).map (sec D9) ++ ([] : List Wr).map (·.2) = t) ∧ Hid (t.length = 16 ∧ ∀ x ∈ t, within16 k x = false ∧ x.length ≤ 128) := ⟨_, Lib.hid rfl, Lib.hid ⟨by simp, fun x hx => by
            obtain ⟨t, ht, rfl⟩ : ∃ t, t < 16 ∧ sec D9 t = x := by simpa using hx
            exact ⟨hg9 t ht, by unfold sec; simp; omega⟩⟩⟩
          have HAl := diskAll hd9 (by simp)
          rw [Ht9.out] at HAl
          replace HAl := Lib.hid HAl
          clear hd9 hg9 Ht9
          go_wp2_with fail
          refine HAl.out.mono ?_
          rintro _ wa ⟨Na, aa, na, ca, qsa, rfl, hra, hqa⟩
          have hqal : qsa.length = 16 := by have := congrArg List.length hqa; rw [List.length_map, HG9.out.1] at this; exact this
          have HTx := refTexts16 wa _ qsa hra (by omega)
          rw [hqa] at HTx
          replace HTx := Lib.hid HTx
          have HNa := Lib.hid Na
          clear Na hra hqa hqal HAl
          go_wp2_with fail
          refine HTx.out.mono ?_
          rintro _ wb ⟨Nb, ab, cb, rfl, hwb⟩
          have HSb := Lib.hid (HS9.out.more A (New.trans HNa.out Nb))
          have HWb := Lib.hid (own_more HW9.out (New.trans HNa.out Nb))
          have HRb := Lib.hid (RdV.of_own hwb)
          have HObb := Lib.hid (A.only HObj.out (New.only (F := fun _ => False) (New.trans HNa.out Nb)) (fun _ _ f => f))
          have HSzb : Hid (w6.heap.size ≤ wb.heap.size) := Lib.hid (Nat.le_trans HSz9.out (New.trans HNa.out Nb).size)
          clear Nb hwb HTx HNa HS9 HW9 HSz9
          obtain ⟨i0, hi0, hz0, hz1, hz2⟩ := info_parts infoStr
          obtain ⟨v', wc, happ, hown', hO', hb'⟩ := run_append_any (P := Try.prog) wb w6.heap.size 51 51 9 i0 _ 16 Try.underlying51 hi0 hz0 hz1 hz2 rfl _ _ _ HWb.out _ _ HRb.out (fun u hu => by obtain ⟨q, -, rfl⟩ := List.mem_map.1 hu; rfl) (by rw [HG5.out.1, List.length_map, HG9.out.1]; omega) (by rw [HG5.out.1, List.length_map, HG9.out.1]; omega) HSzb.out
          have HAPP := Lib.hid happ
          have HRc := Lib.hid (RdV.of_own hown')
          have HObc := Lib.hid (A.only HObb.out hO' (fun j hj hh => by have := HFo.out j hj; have := own_from HWb.out j hh; omega))
          have HNc : Hid (New w wc) := Lib.hid (Below.trans HSb.out.new (hO'.below HSb.out.new.size (fun j hj => by have := own_from HWb.out j hj; have h3 := HSz6.out; omega)))
          obtain ⟨av, cv, rfl, -⟩ := ownSl_form hown'
          have hnT : t5.length + (t9.map strV).length = 32 := by rw [List.length_map, HG5.out.1, HG9.out.1]
          rw [hnT] at HAPP HRc
          clear happ hown' hb' hi0 hz0 hz1 hz2 hO' HObb HWb HRb HSzb
          go_upto_region 26 with (at_builtin; refine wpList_app1 rfl _ _ 51 rfl _ _ rfl rfl HAPP.out ?_)
          clear HAPP hnT
          obtain ⟨T, HT, HRT⟩ : ∃ T : List (List UInt8), Hid (T.length = 32 ∧ ∀ x ∈ T, within16 k x = false ∧ x.length ≤ 128) ∧ Hid (RdV wc (.slice av 32 cv) (T.map strV)) := ⟨t5 ++ t9, Lib.hid ⟨by rw [List.length_append, HG5.out.1, HG9.out.1], fun x hx => (List.mem_append.1 hx).elim (HG5.out.2 x) (HG9.out.2 x)⟩, Lib.hid (by rw [List.map_append]; exact HRc.out)⟩
          clear HRc HG5 HG9
          go_wp2
          go_loopw [15] (fun jv wr => ∃ j : Nat, j ≤ 32 ∧ jv = .int .i64 j ∧ New wc wr) (fun jv _ => 32 - (intOf jv).toNat)
          case atStart => exact ⟨0, by omega, rfl, Below.refl _ _⟩
          case round =>
            obtain ⟨j, hj, rfl, hnj⟩ := hrel
            have HNj := Lib.hid hnj
            by_cases hjt : j < 32
            · have hji : (j : Int) < 32 := by omega
              have NJ : New wc wr.drew := hnj.drew
              obtain ⟨t, ht⟩ : ∃ t, T[j]? = some t := ⟨_, List.getElem?_eq_getElem (by rw [HT.out.1]; exact hjt)⟩
              have HTt := Lib.hid (HT.out.2 t (List.mem_of_getElem? ht))
              obtain ⟨ba, oa, rfl, hcj⟩ := (HRT.out.new NJ).cell (by omega)
              have hc1 := hcj j (strV t) (by rw [List.getElem?_map, ht]; rfl)
              have HC : Hid (KgR2 (.slice ay 32 cy) k ba (oa + j) t wr.drew) := Lib.hid ⟨str10 (HY.out.new (New.trans HNc.out NJ)), hc1⟩
              have HWi := Lib.hid (fun wx => refWithin16 wx k t (by rw [HKl.out]; omega) (by have := HTt.out.2; omega))
              rw [HTt.out.1] at HWi
              have HNJ := Lib.hid NJ
              clear hcj hc1 ht NJ hnj
              go_wp2
              refine region_ord (KgR2 (.slice ay 32 cy) k ba (oa + j) t) [(0, true), (1, true), (2, true), (3, true), (4, true), (5, true), (6, false)] (by kernel_rfl) (by kernel_rfl) HC.out (fun _ => ?_)
              generalize wr.drew = wj at *
              unfold KgR2 Str10
              iterate 6 (apply ord_take; (simp only [List.getElem?_toArray, List.getElem?_cons_succ, List.getElem?_cons_zero]; rfl); rfl; (intro w hSw; (try dsimp only at hSw); go_simp; try with_reducible rfl); intro _; try simp only [Act.put, List.setIfInBounds_toArray, List.set_cons_zero, List.set_cons_succ])
              (apply ord_only; (simp only [List.getElem?_toArray, List.getElem?_cons_succ, List.getElem?_cons_zero]; rfl); rfl; intro K hK)
              go_simp
              refine (HWi.out wj).mono ?_
              rintro _ w9 ⟨rfl, rfl⟩
              have hC := HC.out
              unfold KgR2 Str10 at hC
              refine hK.out _ _ (hC) (fun _ => ?_)
              clear hK K
              try simp only [Act.put, List.setIfInBounds_toArray, List.set_cons_zero, List.set_cons_succ]
              apply ord_done
              go_wp2
              go_roundw
              case rel => exact ⟨j + 1, by omega, by go_num, HNJ.out⟩
              case measure => simp [intOf]; omega
            · obtain rfl : j = 32 := by omega
              have hji : ¬ (32 : Int) < 32 := by omega
              have HGt := A.get (A.only HObc.out (New.only (F := fun _ => False) hnj) (fun _ _ f => f)) HS5ok.out.1 (by rw [HS5ok.out.2]; omega) 100 (by omega)
              rw [kGetK_none HF5.out, show ((100 : Nat) : Int) = 100 from rfl] at HGt
              replace HGt := Lib.hid HGt
              clear hnj
              go_wp2_with fail
              refine HGt.out.mono ?_
              rintro _ we ⟨Ne, ve, rfl, ⟨a0, n0', c0', rfl⟩, -⟩
              have HNe := Lib.hid (New.trans HNc.out (New.trans HNj.out Ne))
              clear Ne HGt
              go_wp2
              go_ret
              exact ⟨rfl, HNe.out⟩
      have hli : (i : Int) < (nz : Int) := by omega
      obtain ⟨x, hx⟩ : ∃ x, l[i]? = some x := ⟨_, List.getElem?_eq_getElem (by have := HNz.out; omega)⟩
      have HXk := Lib.hid hx
      have HXb : Hid (0 ≤ x.b ∧ x.b ≤ 255) := Lib.hid (HZ.out.2 x (List.mem_of_getElem? hx)).2.2.1
      obtain ⟨b, Hb, hb7⟩ : ∃ b : Nat, Hid (x.n % 7 = (b : Int)) ∧ b < 7 := ⟨(x.n % 7).toNat, Lib.hid (by omega), by omega⟩
      have HRs := Lib.hid fun wx => refRest2 wx x.n 7 (by decide) (by decide)
      rw [Hb.out] at HRs
      obtain ⟨bz, off, haz, c0, c1, c2, c3, c4⟩ := (HZ.out.new HS.out.new).at HXk.out
      subst haz
      clear hx
      go_wp2_with fail
      refine (HRs.out _).mono ?_
      rintro _ w9 ⟨rfl, rfl⟩
      clear c0 c1 c2 c3 c4 HRs
      have HS4 := Lib.hid (HS.out.more A ((Below.refl _ _).drew))
      obtain ⟨bz', off', haz, -, -, c2, -, -⟩ := (HZ.out.new HS4.out.new).at HXk.out
      cases haz
      have HC : Hid (KgR (.slice ay 32 cy) k bz (off + i * 5 + 2) x.b wr.drew) := Lib.hid ⟨str10 (HY.out.new HS4.out.new), c2⟩
      have HCell : Hid (∀ wx, New w wx → KgR (.slice ay 32 cy) k bz (off + i * 5 + 2) x.b wx) := Lib.hid (fun wx hw => by
        obtain ⟨bz', off', haz, -, -, c2, -, -⟩ := (HZ.out.new hw).at HXk.out
        cases haz
        exact ⟨str10 (HY.out.new hw), c2⟩)
      clear c2
      go_upto_region 14 with fail
      refine region_ord (KgR (.slice ay 32 cy) k bz (off + i * 5 + 2) x.b) [(0, true), (1, true), (2, true), (3, true), (4, true), (5, true), (6, true), (7, true), (8, false), (9, false), (10, false), (11, false)] (by kernel_rfl) (by kernel_rfl) HC.out (fun _ => ?_)
      clear HC HS
      generalize wr.drew = w5 at *
      unfold KgR Str10
      iterate 8 (apply ord_take; (simp only [List.getElem?_toArray, List.getElem?_cons_succ, List.getElem?_cons_zero]; rfl); rfl; (intro w hSw; (try dsimp only at hSw); go_simp; try with_reducible rfl); intro _; try simp only [Act.put, List.setIfInBounds_toArray, List.set_cons_zero, List.set_cons_succ])
      have HKy := Lib.hid (key16 w5 x.b HXb.out)
      (apply ord_only; (simp only [List.getElem?_toArray, List.getElem?_cons_succ, List.getElem?_cons_zero]; rfl); rfl; intro K hK)
      go_simp
      refine HKy.out.mono ?_
      rintro _ w6 ⟨g6, rfl, hrow, hge, N6⟩
      have hst6 := str10 (w := w6) (x := .slice (some ⟨g6, 0, none⟩) 32 32) (a := keyL16 x.b) (by have := rd_row10 hrow (by rw [keyL16_length]; omega); rwa [keyL16_length] at this)
      have HSt6 := Lib.hid hst6
      have HS6 := Lib.hid (HS4.out.more A N6)
      clear hrow hge N6 HKy hst6 HS4
      refine hK.out _ _ (HCell.out _ HS6.out.new) (fun _ => ?_)
      clear hK K
      try simp only [Act.put, List.setIfInBounds_toArray, List.set_cons_zero, List.set_cons_succ]
      (apply ord_only; (simp only [List.getElem?_toArray, List.getElem?_cons_succ, List.getElem?_cons_zero]; rfl); rfl; intro K hK)
      have hst6 := HSt6.out
      unfold Str10 at hst6
      go_simp
      clear hst6 HSt6
      refine hK.out _ _ (HCell.out _ HS6.out.new) (fun _ => ?_)
      clear hK K
      try simp only [Act.put, List.setIfInBounds_toArray, List.set_cons_zero, List.set_cons_succ]
      have HOc := Lib.hid (refOctets16 w6 b (keyL16 x.b) (by omega) (keyL16_length _))
      (apply ord_only; (simp only [List.getElem?_toArray, List.getElem?_cons_succ, List.getElem?_cons_zero]; rfl); rfl; intro K hK)
      go_simp
      refine HOc.out.mono ?_
      rintro _ w7 ⟨rfl, N7⟩
      have HS7 := Lib.hid (HS6.out.more A N7)
      clear N7 HOc HS6
      refine hK.out _ _ (HCell.out _ HS7.out.new) (fun _ => ?_)
      clear hK K
      try simp only [Act.put, List.setIfInBounds_toArray, List.set_cons_zero, List.set_cons_succ]
      have HWi := Lib.hid (refWithin16 w7 k (keyEnc b (keyL16 x.b)) (by rw [HKl.out]; omega) (by rw [keyEnc_length (keyL16_length _)]; omega))
      (apply ord_only; (simp only [List.getElem?_toArray, List.getElem?_cons_succ, List.getElem?_cons_zero]; rfl); rfl; intro K hK)
      go_simp
      refine HWi.out.mono ?_
      rintro _ w8 ⟨rfl, rfl⟩
      clear HWi
      refine hK.out _ _ (HCell.out _ HS7.out.new) (fun _ => ?_)
      clear hK K
      try simp only [Act.put, List.setIfInBounds_toArray, List.set_cons_zero, List.set_cons_succ]
      apply ord_done
      cases hwi : within16 k (keyEnc b (keyL16 x.b)) with
      | true =>
        go_wp2
        go_ret
        exact ⟨rfl, HS7.out.new⟩
      | false =>
        have HG := Lib.hid hwi
        clear hwi
        obtain ⟨mv, Hmv⟩ : ∃ mv : Int, Hid (n0 % (nz : Int) = mv) := ⟨_, Lib.hid rfl⟩
        have HRn := Lib.hid fun wx => refRest2 wx n0 (nz : Int) (by omega) (by have := HNl.out; omega)
        rw [Hmv.out] at HRn
        obtain ⟨x0, x1⟩ := At2.cells HS7.out.box
        by_cases him : mv = (i : Int)
        · subst him
          have HPt := kgPut A HS7.out (Below.refl _ _) (HY.out.new HS7.out.new) HKl.out (fun j hj => .inl (HY.out.lt hj (by intro e; have := HKl.out; rw [e] at this; cases this))) (b := 100) (by omega) (.inr rfl)
          rw [show ((100 : Nat) : Int) = 100 from rfl] at HPt
          replace HPt := Lib.hid HPt
          go_wp2_with fail
          refine (HRn.out _).mono ?_
          rintro _ w9 ⟨rfl, rfl⟩
          clear x0 x1 HRn
          go_wp2_with fail
          refine HPt.out.mono ?_
          rintro _ wq ⟨L2, hst2, (⟨rfl, h100⟩ | ⟨yq, rfl⟩), hg2⟩
          · have HS := Lib.hid hst2
            have HLb2 : Hid (KgL L2 true) := Lib.hid (fun _ => h100)
            clear hst2 h100 hg2 HPt HS7 HLb
            have HLb := HLb2
            -- Kind % 2
            obtain ⟨bz', off', haz, c0, c1, c2, c3, c4⟩ := (HZ.out.new HS.out.new).at HXk.out
            cases haz
            by_cases hk2 : x.kind.tmod 2 = 0
            · have HKy := Lib.hid (fun wx => key16 wx x.b HXb.out)
              go_wp2_with fail
              refine (HKy.out _).mono ?_
              rintro _ wk ⟨g9, rfl, hrow9, hge9, N9⟩
              have hrd9 := rd_row10 hrow9 (by rw [keyL16_length]; omega)
              rw [keyL16_length] at hrd9
              have HPt := Lib.hid (kgPut A HS.out N9 hrd9 (keyL16_length _) (fun j hj => .inr (by simp [blk] at hj; subst hj; exact hge9)) (b := b) (by omega) (.inl HG.out))
              clear hrow9 hge9 N9 hrd9 HKy c0 c1 c2 c3 c4
              go_wp2_with fail
              refine HPt.out.mono ?_
              rintro _ wp ⟨L', hst', (⟨rfl, -⟩ | ⟨yv, rfl⟩), hg'⟩
              · have HS' := Lib.hid hst'
                have HL' : Hid (KgL L' true) := Lib.hid (fun hh => by rw [hg' 100 (by omega)]; exact HLb.out hh)
                clear hst' hg' HPt HS HLb
                go_wp2
                go_roundw
                case rel => exact ⟨i + 1, L', true, by omega, by go_num, rfl, HS'.out, HL'⟩
                case measure => simp [intOf]; omega
              · have HS' := Lib.hid hst'
                have HL' : Hid (KgL L' true) := Lib.hid (fun hh => by rw [hg' 100 (by omega)]; exact HLb.out hh)
                clear hst' hg' HPt HS HLb
                go_wp2
                go_roundw
                case rel => exact ⟨i + 1, L', true, by omega, by go_num, rfl, HS'.out, HL'⟩
                case measure => simp [intOf]; omega
            · have hk2' : (x.kind.tmod 2 == 0) = false := by simpa using hk2
              have HSh := Lib.hid (kgShred A HS.out (b := b) (by omega))
              go_wp2_with fail
              refine HSh.out.mono ?_
              clear c0 c1 c2 c3 c4
              rintro _ wp ⟨L', hst', (⟨rfl, -⟩ | ⟨-, yv, rfl⟩), hg'⟩
              · have HS' := Lib.hid hst'
                have HL' : Hid (KgL L' true) := Lib.hid (fun hh => by rw [hg' 100 (by omega)]; exact HLb.out hh)
                clear hst' hg' HSh HS HLb
                go_wp2
                go_roundw
                case rel => exact ⟨i + 1, L', true, by omega, by go_num, rfl, HS'.out, HL'⟩
                case measure => simp [intOf]; omega
              · have HS' := Lib.hid hst'
                have HL' : Hid (KgL L' true) := Lib.hid (fun hh => by rw [hg' 100 (by omega)]; exact HLb.out hh)
                clear hst' hg' HSh HS HLb
                go_wp2
                go_roundw
                case rel => exact ⟨i + 1, L', true, by omega, by go_num, rfl, HS'.out, HL'⟩
                case measure => simp [intOf]; omega
          · have HS := Lib.hid hst2
            have HLb2 : Hid (KgL L2 false) := Lib.hid (fun hh => by cases hh)
            clear hst2 hg2 HPt HS7 HLb
            have HLb := HLb2
            -- Kind % 2
            obtain ⟨bz', off', haz, c0, c1, c2, c3, c4⟩ := (HZ.out.new HS.out.new).at HXk.out
            cases haz
            by_cases hk2 : x.kind.tmod 2 = 0
            · have HKy := Lib.hid (fun wx => key16 wx x.b HXb.out)
              go_wp2_with fail
              refine (HKy.out _).mono ?_
              rintro _ wk ⟨g9, rfl, hrow9, hge9, N9⟩
              have hrd9 := rd_row10 hrow9 (by rw [keyL16_length]; omega)
              rw [keyL16_length] at hrd9
              have HPt := Lib.hid (kgPut A HS.out N9 hrd9 (keyL16_length _) (fun j hj => .inr (by simp [blk] at hj; subst hj; exact hge9)) (b := b) (by omega) (.inl HG.out))
              clear hrow9 hge9 N9 hrd9 HKy c0 c1 c2 c3 c4
              go_wp2_with fail
              refine HPt.out.mono ?_
              rintro _ wp ⟨L', hst', (⟨rfl, -⟩ | ⟨yv, rfl⟩), hg'⟩
              · have HS' := Lib.hid hst'
                have HL' : Hid (KgL L' false) := Lib.hid (fun hh => by rw [hg' 100 (by omega)]; exact HLb.out hh)
                clear hst' hg' HPt HS HLb
                go_wp2
                go_roundw
                case rel => exact ⟨i + 1, L', false, by omega, by go_num, rfl, HS'.out, HL'⟩
                case measure => simp [intOf]; omega
              · have HS' := Lib.hid hst'
                have HL' : Hid (KgL L' false) := Lib.hid (fun hh => by rw [hg' 100 (by omega)]; exact HLb.out hh)
                clear hst' hg' HPt HS HLb
                go_wp2
                go_roundw
                case rel => exact ⟨i + 1, L', false, by omega, by go_num, rfl, HS'.out, HL'⟩
                case measure => simp [intOf]; omega
            · have hk2' : (x.kind.tmod 2 == 0) = false := by simpa using hk2
              have HSh := Lib.hid (kgShred A HS.out (b := b) (by omega))
              go_wp2_with fail
              refine HSh.out.mono ?_
              clear c0 c1 c2 c3 c4
              rintro _ wp ⟨L', hst', (⟨rfl, -⟩ | ⟨-, yv, rfl⟩), hg'⟩
              · have HS' := Lib.hid hst'
                have HL' : Hid (KgL L' false) := Lib.hid (fun hh => by rw [hg' 100 (by omega)]; exact HLb.out hh)
                clear hst' hg' HSh HS HLb
                go_wp2
                go_roundw
                case rel => exact ⟨i + 1, L', false, by omega, by go_num, rfl, HS'.out, HL'⟩
                case measure => simp [intOf]; omega
              · have HS' := Lib.hid hst'
                have HL' : Hid (KgL L' false) := Lib.hid (fun hh => by rw [hg' 100 (by omega)]; exact HLb.out hh)
                clear hst' hg' HSh HS HLb
                go_wp2
                go_roundw
                case rel => exact ⟨i + 1, L', false, by omega, by go_num, rfl, HS'.out, HL'⟩
                case measure => simp [intOf]; omega
        · have him2 : ((i : Int) == mv) = false := by simpa using fun e => him e.symm
          go_wp2_with fail
          refine (HRn.out _).mono ?_
          rintro _ w9 ⟨rfl, rfl⟩
          clear x0 x1 HRn
          have HS := HS7
          -- Kind % 2
          obtain ⟨bz', off', haz, c0, c1, c2, c3, c4⟩ := (HZ.out.new HS.out.new).at HXk.out
          cases haz
          by_cases hk2 : x.kind.tmod 2 = 0
          · have HKy := Lib.hid (fun wx => key16 wx x.b HXb.out)
            go_wp2_with fail
            refine (HKy.out _).mono ?_
            rintro _ wk ⟨g9, rfl, hrow9, hge9, N9⟩
            have hrd9 := rd_row10 hrow9 (by rw [keyL16_length]; omega)
            rw [keyL16_length] at hrd9
            have HPt := Lib.hid (kgPut A HS.out N9 hrd9 (keyL16_length _) (fun j hj => .inr (by simp [blk] at hj; subst hj; exact hge9)) (b := b) (by omega) (.inl HG.out))
            clear hrow9 hge9 N9 hrd9 HKy c0 c1 c2 c3 c4
            go_wp2_with fail
            refine HPt.out.mono ?_
            rintro _ wp ⟨L', hst', (⟨rfl, -⟩ | ⟨yv, rfl⟩), hg'⟩
            · have HS' := Lib.hid hst'
              have HL' : Hid (KgL L' lb) := Lib.hid (fun hh => by rw [hg' 100 (by omega)]; exact HLb.out hh)
              clear hst' hg' HPt HS HLb
              go_wp2
              go_roundw
              case rel => exact ⟨i + 1, L', lb, by omega, by go_num, rfl, HS'.out, HL'⟩
              case measure => simp [intOf]; omega
            · have HS' := Lib.hid hst'
              have HL' : Hid (KgL L' lb) := Lib.hid (fun hh => by rw [hg' 100 (by omega)]; exact HLb.out hh)
              clear hst' hg' HPt HS HLb
              go_wp2
              go_roundw
              case rel => exact ⟨i + 1, L', lb, by omega, by go_num, rfl, HS'.out, HL'⟩
              case measure => simp [intOf]; omega
          · have hk2' : (x.kind.tmod 2 == 0) = false := by simpa using hk2
            have HSh := Lib.hid (kgShred A HS.out (b := b) (by omega))
            go_wp2_with fail
            refine HSh.out.mono ?_
            clear c0 c1 c2 c3 c4
            rintro _ wp ⟨L', hst', (⟨rfl, -⟩ | ⟨-, yv, rfl⟩), hg'⟩
            · have HS' := Lib.hid hst'
              have HL' : Hid (KgL L' lb) := Lib.hid (fun hh => by rw [hg' 100 (by omega)]; exact HLb.out hh)
              clear hst' hg' HSh HS HLb
              go_wp2
              go_roundw
              case rel => exact ⟨i + 1, L', lb, by omega, by go_num, rfl, HS'.out, HL'⟩
              case measure => simp [intOf]; omega
            · have HS' := Lib.hid hst'
              have HL' : Hid (KgL L' lb) := Lib.hid (fun hh => by rw [hg' 100 (by omega)]; exact HLb.out hh)
              clear hst' hg' HSh HS HLb
              go_wp2
              go_roundw
              case rel => exact ⟨i + 1, L', lb, by omega, by go_num, rfl, HS'.out, HL'⟩
              case measure => simp [intOf]; omega

end Go.Proofs.Ytnekcdpfphgpbaa
