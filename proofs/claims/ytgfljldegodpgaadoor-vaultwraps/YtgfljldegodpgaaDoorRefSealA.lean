/-
  The reference's Mask of layer 6.
  The reference's functions of layer 6.
-/
import Derived.Test.YtgfljldegodpgaaDoorRefMac
import Derived.Test.YtgfljldegodpgaaDoorRefVal
import Derived.Test.YtgfljldegodpgaaDoorSealA
import Derived.Test.YtgfljldegodpgaaDoorRefAesA
import Derived.Test.YtgfljldegodpgaaDoorBase
import Derived.Test.YtgfljldegodpgaaDoorShaA
namespace Go.Proofs.YtgfljldegodpgaaDoor
set_option linter.unusedVariables false
set_option linter.unusedSimpArgs false
open Go.RowKit

theorem ctrX_take_succ (key nonce t : List UInt8) (i : Nat) (h : i < t.length) : (ctrX key nonce t).take (i + 1) = (ctrX key nonce t).take i ++ [bxor (t.getD i 0) (padAt key nonce i)] := by
  have hg := ctrX_get key nonce t i h
  rw [List.getD_eq_getElem?_getD, List.getElem?_eq_getElem (by rw [ctrX_length]; exact h)] at hg
  rw [List.take_add_one, List.getElem?_eq_getElem (by rw [ctrX_length]; exact h)]
  show _ ++ [_] = _
  rw [show (ctrX key nonce t)[i]'(by rw [ctrX_length]; exact h) = xAt key nonce t i from hg]
  rfl

theorem OwnT.drew {w : World} {l : List UInt8} {v : Value} {wr : World} (h : OwnT w l v wr) : OwnT w l v wr.drew := ⟨h.own, h.new.drew⟩

theorem OwnT.then {w : World} {l : List UInt8} {v : Value} {wr w' : World} (h : OwnT w l v wr) (hn : New wr w') : OwnT w l v w' := by
  refine ⟨⟨h.own.1, ?_⟩, New.trans h.new hn⟩
  rcases h.own.2 with h0 | ⟨g, cap, cur, e1, hb1, e3, rest⟩
  · exact .inl h0
  · exact .inr ⟨g, cap, cur, e1, hb1, (hn.block g (lt_of_block e3)).trans e3, rest⟩

attribute [local go_sem] u8_bxor

set_option maxRecDepth 100000 in
set_option maxHeartbeats 2000000 in
theorem refMask06 (w : World) (key nonce t : List UInt8) (hk : key.length = 48) (hn : nonce.length = 16) (ht : t.length ≤ 1000000) :
    Calls Tryd.prog 34 #[.string (bstr key), .string (bstr nonce), .string (bstr t)] w fun e w' => e = .returned (.string (bstr (ctrX key nonce t))) ∧ New w w' := by
  obtain ⟨i0, hi0, hz0, hz1, hz2⟩ := info_parts infoByte
  have z1 : (bstr key).size = 48 := by rw [bstr_size]; exact hk
  have z2 : (bstr nonce).size = 16 := by rw [bstr_size]; exact hn
  have z3 : (bstr t).size = t.length := bstr_size t
  have x1 := bstr_to key 16
  have x2 := bstr_from nonce 12 16 hn
  have x3 := bstr_to nonce 12
  have HK : Hid ((key.take 16).length = 16) := by show _ = _; rw [List.length_take]; omega
  have HNL := Lib.hid hn
  have HD4 : Hid ((nonce.drop 12).length = 4) := by show _ = _; rw [List.length_drop]; omega
  have HT12 : Hid ((nonce.take 12).length = 12) := by show _ = _; rw [List.length_take]; omega
  have HTP : Hid (∀ j i, i < 16 → 16 * j + i < t.length → (ctrX key nonce t).take (16 * j + (i + 1)) = (ctrX key nonce t).take (16 * j + i) ++ [bxor (t.getD (16 * j + i) 0) ((enc (key.take 16) (ctrB nonce j) 10).getD i 0)]) := by
    refine Lib.hid fun j i hi hl => ?_
    rw [← Nat.add_assoc, ctrX_take_succ key nonce t _ hl]
    unfold padAt padB
    rw [show (16 * j + i) / 16 = j by omega, show (16 * j + i) % 16 = i by omega]
  have HCB : Hid (∀ j, ctrB nonce j = nonce.take 12 ++ be 4 ((val (nonce.drop 12) + j) % 4294967296)) := Lib.hid fun j => rfl
  have HCL := Lib.hid fun j => ctrB_length nonce j hn
  have HXL := Lib.hid (ctrX_length key nonce t)
  have HRV := Lib.hid fun wx => refValue wx (nonce.drop 12) (by rw [HD4.out]; decide)
  have hv4 : val (nonce.drop 12) < 4294967296 := val_lt64 _ 4 (by rw [HD4.out]; decide)
  clear hk hn
  generalize ctrX key nonce t = X at *
  generalize key.take 16 = Ky at *
  generalize nonce.drop 12 = ND at *
  generalize nonce.take 12 = NA at *
  generalize val ND = v at *
  obtain ⟨n, HN⟩ : ∃ n, Hid (t.length = n) := ⟨_, Lib.hid rfl⟩
  rw [HN.out] at z3 ht HTP HXL
  have HWL : Hid ((wTo Ky 40).length = 176) := by show _ = _; rw [wTo_length Ky HK.out]
  have HEQ := Lib.hid fun b hb => refEnc_eq Ky b HK.out hb 10 (Nat.le_refl _)
  go_enter Tryd.func34, Tryd.ntmps34
  go_wp2_with fail
  refine (refBoxes5 w).mono ?_
  rintro e w1 ⟨g1, rfl, hg1, hrow1, N1⟩
  have HX1 := Lib.hid (IRd.of_row hrow1)
  clear hrow1
  go_wp2_with fail
  refine (refInts5 w1 Ky (by rw [HK.out]; decide)).mono ?_
  rintro e w2 ⟨v2, rfl, ho2⟩
  obtain ⟨gk, ck, rfl, hck, -, -, -, hrk⟩ := IRd.of_own ho2.own (by rw [HK.out]; decide)
  rw [HK.out]
  have HX2 := Lib.hid (HX1.out.new ho2.new)
  have HRK := Lib.hid hrk
  have N2 := New.trans N1 ho2.new
  clear hrk ho2 HX1 N1 hck
  go_wp2_with fail
  refine (refKeys5 w2 gk ck g1 Ky HRK.out HK.out HX2.out).mono ?_
  rintro e w3 ⟨v3, rfl, ho3⟩
  obtain ⟨gW, cW, rfl, hcW, -, -, -, hrW⟩ := IRd.of_own ho3.own (by rw [HWL.out]; decide)
  rw [HWL.out]
  have HX3 := Lib.hid (HX2.out.new ho3.new)
  have HRW := Lib.hid hrW
  have HN3 := Lib.hid (New.trans N2 ho3.new)
  clear hrW ho3 HX2 N2 HRK hcW hg1
  go_wp2_with fail
  refine (HRV.out w3).mono ?_
  rintro e w4 ⟨rfl, rfl⟩
  clear HRV x1 z1 x2
  go_wp2
  go_loopw [10, 11] (fun o i wr => ∃ j : Nat, 16 * j < n + 16 ∧ i = .int .i64 ((16 * j : Nat) : Int) ∧ OwnT w3 (X.take (16 * j)) o wr) (fun _ i _ => n + 16 - (intOf i).toNat)
  case atStart => exact ⟨0, by omega, rfl, ⟨World.ownsRow_nil w3 _ _ 1, Below.refl _ _⟩⟩
  case round =>
    obtain ⟨j, hj, rfl, hin⟩ := hrel
    obtain ⟨q, Hq⟩ : ∃ q, Hid (16 * j = q) := ⟨_, Lib.hid rfl⟩
    rw [Hq.out] at hin hj ⊢
    by_cases hlt : q < n
    · have hlti : decide ((q : Int) < (n : Int)) = true := by simp; omega
      have d1 : (q : Int).tdiv 16 = (j : Int) := by rw [Int.tdiv_eq_ediv_of_nonneg (by omega)]; have := Hq.out; omega
      have hjn : j ≤ 1000000 := by have := Hq.out; omega
      have d2 : IntKind.i64.wrap (j : Int) = (j : Int) := IntWalk.i64_in _ (by omega)
      have d3 : IntKind.u64.wrap (j : Int) = (j : Int) := IntWalk.u64_in _ (by omega)
      have d4 : IntKind.u64.wrap ((v : Int) + (j : Int)) = ((v + j : Nat) : Int) := by rw [show (v : Int) + (j : Int) = ((v + j : Nat) : Int) by omega]; exact IntWalk.u64_in _ (by omega)
      obtain ⟨m, hm⟩ : ∃ m, (v + j) % 4294967296 = m := ⟨_, rfl⟩
      have d5 : ((v + j : Nat) : Int).tmod 4294967296 = (m : Int) := by rw [Int.tmod_eq_emod_of_nonneg (by omega)]; omega
      have d6 : IntKind.u64.wrap (m : Int) = (m : Int) := IntWalk.u64_in _ (by omega)
      have hm4 : m < 4294967296 := by omega
      have HNB := Lib.hid fun wx => refNumber wx m 4 (by omega) (by omega)
      have j1 := bstr_append NA (be 4 m)
      rw [← hm, ← HCB.out j, hm] at j1
      clear hm
      have s0 : (bstr NA).size = 12 := by rw [bstr_size, HT12.out]
      have s1 : (bstr (be 4 m)).size = 4 := by rw [bstr_size, be_length]
      generalize v + j = vj at *
      generalize be 4 m = B4 at *
      have HCLj := Lib.hid (HCL.out j)
      have HTPj := Lib.hid (HTP.out j)
      have HENC := Lib.hid (HEQ.out (ctrB nonce j) (HCL.out j))
      rw [Hq.out] at HTPj
      generalize ctrB nonce j = C at *
      have HIN := Lib.hid hin.drew
      clear hin
      go_upto_region 8 with fail
      refine region_ord (fun _ => True) [(0, true), (1, true), (2, true), (3, true), (4, true), (5, true), (6, true), (7, true), (8, false), (9, true), (10, true)] (by kernel_rfl) (by kernel_rfl) trivial (fun _ => ?_)
      generalize wr.drew = wd at *
      iterate 8 (apply ord_take; (simp only [List.getElem?_toArray, List.getElem?_cons_succ, List.getElem?_cons_zero]; rfl); rfl; (intro w hSw; (try dsimp only at hSw); go_simp; try with_reducible rfl); intro _; try simp only [Act.put, List.setIfInBounds_toArray, List.set_cons_zero, List.set_cons_succ])
      (apply ord_only; (simp only [List.getElem?_toArray, List.getElem?_cons_succ, List.getElem?_cons_zero]; rfl); rfl; intro K hK)
      go_simp
      refine (HNB.out wd).mono ?_
      rintro e w4 ⟨rfl, N4⟩
      have HI4 := Lib.hid (HIN.out.then N4)
      clear HIN N4 HNB
      refine hK.out _ _ (trivial) (fun _ => ?_)
      clear hK K
      try simp only [Act.put, List.setIfInBounds_toArray, List.set_cons_zero, List.set_cons_succ]
      iterate 2 (apply ord_take; (simp only [List.getElem?_toArray, List.getElem?_cons_succ, List.getElem?_cons_zero]; rfl); rfl; (intro w hSw; (try dsimp only at hSw); go_simp; try with_reducible rfl); intro _; try simp only [Act.put, List.setIfInBounds_toArray, List.set_cons_zero, List.set_cons_succ])
      apply ord_done
      clear d1 d2 d3 d4 d5 d6 j1 s0 s1
      go_wp2_with fail
      refine (refInts5 w4 C (by rw [HCLj.out]; decide)).mono ?_
      rintro e w5 ⟨v5, rfl, ho5⟩
      obtain ⟨gB, cB, rfl, hcB, -, -, -, hrB⟩ := IRd.of_own ho5.own (by rw [HCLj.out]; decide)
      rw [HCLj.out]
      have HI5 := Lib.hid (HI4.out.then ho5.new)
      have HRB := Lib.hid hrB
      clear HI4 ho5 hrB hcB
      go_wp2_with fail
      refine (refBlock5 w5 gW cW g1 gB cB (wTo Ky 40) C (HRW.out.new HI5.out.new) HWL.out (HX3.out.new HI5.out.new) HRB.out HCLj.out).mono ?_
      rintro e w6 ⟨gm, rfl, hgm, hrow6, N6⟩
      rw [HENC.out] at hrow6
      have HI6 := Lib.hid (HI5.out.then N6)
      have hgm6 := lt_of_block hrow6
      have HM6 := Lib.hid (IRd.of_row hrow6)
      have HML : Hid ((enc Ky C 10).length = 16) := Lib.hid (enc_length Ky C HCLj.out 10)
      have hnb6 : u10.ownBlock ≠ some gm := fun e => by have := (HI5.out.own.lt gm e).2; omega
      clear hrow6 HI5 HRB N6 HENC hgm
      generalize enc Ky C 10 = M at *
      go_wp2
      go_loopw [10, 14] (fun o k wr => ∃ i : Nat, i ≤ 16 ∧ q + i ≤ n ∧ k = .int .i64 i ∧ OwnT w3 (X.take (q + i)) o wr ∧ IRd wr gm M ∧ gm < wr.heap.size ∧ o.ownBlock ≠ some gm) (fun _ k _ => 16 - (intOf k).toNat)
      case atStart => exact ⟨0, by omega, by omega, rfl, HI6.out, HM6.out, hgm6, hnb6⟩
      case round =>
        clear HI6 HM6 hgm6 hnb6
        obtain ⟨i, hi, hqi, rfl, hin, hrm, hgm, hnb⟩ := hrel
        by_cases h16 : i < 16
        · have e1 : decide ((i : Int) < 16) = true := by simp; omega
          by_cases hqn : q + i < n
          · have e2 : decide ((q : Int) + (i : Int) < (n : Int)) = true := by simp; omega
            have HIN := Lib.hid hin
            have HRM := Lib.hid hrm
            clear hin hrm
            go_upto_region 13 with fail
            obtain ⟨b, hb⟩ : ∃ b, t[q + i]? = some b := ⟨_, List.getElem?_eq_getElem (by rw [HN.out]; exact hqn)⟩
            have HB : Hid (t.getD (q + i) 0 = b) := by show _ = _; rw [List.getD_eq_getElem?_getD, hb]; rfl
            have hst := HTPj.out i h16 hqn
            rw [HB.out] at hst
            have hc := HRM.out.cell i (by rw [HML.out]; exact h16)
            generalize M.getD i 0 = y at hc hst
            have HST := Lib.hid hst
            obtain ⟨p, Hp⟩ : ∃ p, Hid (q + i = p) := ⟨_, Lib.hid rfl⟩
            rw [Hp.out] at hb HIN HST
            have hix := fun wx => run_index_str wx t p b hb
            have hp1 : p ≤ 1000000 := by have := Hp.out; omega
            have a1 : IntKind.i64.wrap ((q : Int) + (i : Int)) = (p : Int) := by rw [show (q : Int) + (i : Int) = (p : Int) by rw [← Hp.out]; omega]; exact IntWalk.i64_in _ (by omega)
            have hyl := y.toNat_lt
            have a2 : IntKind.u8.wrap (y.toNat : Int) = (y.toNat : Int) := IntWalk.u8_in _ (by omega)
            have a3 : (i : Int) < 16 := by omega
            have HPL : Hid ((X.take p).length = p) := by show _ = _; rw [List.length_take, HXL.out, ← Hp.out]; omega
            generalize X.take p = L at *
            have hin := HIN.out
            clear HIN
            obtain ⟨ao, no, co, rfl, -⟩ := Rd.of_own hin.own
            have HID := Lib.hid hin.drew
            have HD : Hid (wr.drew.cell? ⟨gm, i, none⟩ = some (iv y)) := Lib.hid hc
            have hgmd : gm < wr.drew.heap.size := hgm
            have HRD : Hid (IRd wr.drew gm M) := Lib.hid ⟨fun i hi => HRM.out.cell i hi⟩
            clear hst hb HB hin HRM hc hgm
            refine region_ord (fun w' => w'.cell? ⟨gm, i, none⟩ = some (iv y)) [(0, true), (1, true), (2, true), (3, true), (4, true), (5, true), (6, true), (7, true), (8, true), (9, true), (10, true), (11, true), (12, false), (13, false), (14, true)] (by kernel_rfl) (by kernel_rfl) HD.out (fun _ => ?_)
            generalize wr.drew = wd at *
            iterate 12 (apply ord_take; (simp only [List.getElem?_toArray, List.getElem?_cons_succ, List.getElem?_cons_zero]; rfl); rfl; (intro w hSw; (try dsimp only at hSw); go_simp; try with_reducible rfl); intro _; try simp only [Act.put, List.setIfInBounds_toArray, List.set_cons_zero, List.set_cons_succ])
            (apply ord_only; (simp only [List.getElem?_toArray, List.getElem?_cons_succ, List.getElem?_cons_zero]; rfl); rfl; intro K hK)
            go_simp
            have Na : New wd (wd.alloc (.cells #[.int .u8 ((bxor b y).toNat : Int)] 5)) := (Below.refl _ _).alloc (Nat.le_refl _) _
            refine hK.out _ _ ((Na.cell (p := ⟨gm, i, none⟩) hgmd).trans HD.out) (fun _ => ?_)
            clear hK K
            try simp only [Act.put, List.setIfInBounds_toArray, List.set_cons_zero, List.set_cons_succ]
            (apply ord_only; (simp only [List.getElem?_toArray, List.getElem?_cons_succ, List.getElem?_cons_zero]; rfl); rfl; intro K hK)
            have hn3 := HID.out.new.size
            obtain ⟨v8, w8, hr8, ho8, hgr8, hob8⟩ := run_append_bytes (P := Tryd.prog) (wd.alloc (.cells #[.int .u8 ((bxor b y).toNat : Int)] 5)) w3.heap.size 22 22 5 i0 _ Tryd.underlying22 hi0 hz0 hz1 hz2 rfl (.slice ao no co) L.length _ (HID.out.own.alloc _) _ [bxor b y] (rd_one wd rfl) (by rw [HPL.out]; simp; omega) (by simp; omega)
            refine oper_append2 (.tmp 57) (.tmp 69) 22 22 rfl _ _ rfl rfl hr8 ?_
            have hbk8 : w8.heap[gm]? = (wd.alloc (.cells #[.int .u8 ((bxor b y).toNat : Int)] 5)).heap[gm]? := hgr8.block gm (Nat.lt_of_lt_of_le hgmd Na.size) (fun e => hnb e.symm)
            have hct8 : w8.cell? ⟨gm, i, none⟩ = some (iv y) := (World.cell?_of_block hbk8).trans ((Na.cell (p := ⟨gm, i, none⟩) hgmd).trans HD.out)
            have HRM8 : Hid (IRd w8 gm M) := Lib.hid ⟨fun i hi => (World.cell?_of_block hbk8).trans ((HRD.out.new Na).cell i hi)⟩
            have HO8 : Hid (OwnT w3 (L ++ [bxor b y]) v8 w8) := Lib.hid (HID.out.next (q := [bxor b y]) (o := .cells #[.int .u8 ((bxor b y).toNat : Int)] 5) ho8 hgr8)
            have hgm8 : gm < w8.heap.size := Nat.lt_of_lt_of_le hgmd (Nat.le_trans Na.size hgr8.size)
            have hnb8 : v8.ownBlock ≠ some gm := by
              rcases hob8 with h | h
              · rw [h]; exact hnb
              · rw [h]; simp; omega
            clear hr8 ho8 hgr8 hob8 hbk8 hnb HRD HID
            refine hK.out _ _ (hct8) (fun _ => ?_)
            clear hK K
            try simp only [Act.put, List.setIfInBounds_toArray, List.set_cons_zero, List.set_cons_succ]
            iterate 1 (apply ord_take; (simp only [List.getElem?_toArray, List.getElem?_cons_succ, List.getElem?_cons_zero]; rfl); rfl; (intro w hSw; (try dsimp only at hSw); go_simp; try with_reducible rfl); intro _; try simp only [Act.put, List.setIfInBounds_toArray, List.set_cons_zero, List.set_cons_succ])
            apply ord_done
            clear a1 a2 HD Na hct8 hix hgmd
            go_wp2
            go_roundw
            case rel => exact ⟨i + 1, by omega, by omega, by go_num, by rw [HST.out]; exact HO8.out, HRM8.out, hgm8, hnb8⟩
            case measure => simp [intOf]; omega
          · have e2 : decide ((q : Int) + (i : Int) < (n : Int)) = false := by simp; omega
            have HX : Hid (X.take (q + i) = X.take (16 * (j + 1))) := by
              show _ = _
              rw [List.take_of_length_le (by rw [HXL.out]; omega), List.take_of_length_le (by rw [HXL.out]; have := Hq.out; omega)]
            rw [HX.out] at hin
            have HIN := Lib.hid hin
            clear hin hrm HX
            go_wp2
            go_roundw
            case rel => exact ⟨j + 1, by have := Hq.out; omega, by rw [← Hq.out]; go_num, HIN.out⟩
            case measure => simp [intOf]; omega
        · obtain rfl : i = 16 := by omega
          rw [show q + 16 = 16 * (j + 1) by rw [← Hq.out]; omega] at hin
          rw [show ((16 : Nat) : Int) = 16 from rfl]
          have HIN := Lib.hid hin
          clear hin hrm
          go_wp2
          go_roundw
          case rel => exact ⟨j + 1, by have := Hq.out; omega, by rw [← Hq.out]; go_num, HIN.out⟩
          case measure => simp [intOf]; omega
    · have hlti : decide ((q : Int) < (n : Int)) = false := by simp; omega
      rw [List.take_of_length_le (by rw [HXL.out]; omega)] at hin
      have ks := run_str (P := Tryd.prog) Tryd.underlying22 Tryd.underlying5 Tryd.underlying9 (Rd.of_own hin.own)
      have HNW := Lib.hid (New.trans HN3.out hin.new)
      clear hin
      go_wp2
      go_ret
      exact ⟨rfl, HNW.out⟩

end Go.Proofs.YtgfljldegodpgaaDoor

namespace Go.Proofs.YtgfljldegodpgaaDoor
set_option linter.unusedVariables false
set_option linter.unusedSimpArgs false
open Go.RowKit

set_option maxRecDepth 100000 in
set_option maxHeartbeats 1000000 in
theorem refTag06 (w : World) (key nonce beside m : List UInt8) (hk : key.length = 48) (hn : nonce.length ≤ 1000) (hb : beside.length ≤ 1000000) (hm : m.length ≤ 1000000) :
    Calls Tryd.prog 35 #[.string (bstr key), .string (bstr nonce), .string (bstr beside), .string (bstr m)] w fun e w' => e = .returned (.string (bstr (stag key nonce beside m))) ∧ New w w' := by
  have z1 : (bstr key).size = 48 := by rw [bstr_size]; exact hk
  have x1 := bstr_from key 16 48 hk
  have HS : Hid (stag key nonce beside m = (hmac (key.drop 16) (be 4 beside.length ++ (beside ++ (nonce ++ m)))).take 16) := Lib.hid rfl
  have HKL : Hid ((key.drop 16).length ≤ 1099511627776) := by show _ ≤ _; rw [List.length_drop]; omega
  have z2 : (bstr beside).size = beside.length := bstr_size beside
  have z3 : (bstr nonce).size ≤ 1000 := by rw [bstr_size]; exact hn
  have z4 : (bstr m).size ≤ 1000000 := by rw [bstr_size]; exact hm
  have y1 : IntKind.u64.wrap (beside.length : Int) = (beside.length : Int) := IntWalk.u64_in _ (by omega)
  have H1 := Lib.hid fun wx => refNumber wx beside.length 4 (by omega) (by omega)
  have z5 : (bstr (be 4 beside.length)).size = 4 := by rw [bstr_size, be_length]
  have j1 := bstr_append (be 4 beside.length) beside
  have j2 := bstr_append (be 4 beside.length ++ beside) nonce
  have j3 := bstr_append ((be 4 beside.length ++ beside) ++ nonce) m
  have z6 : (bstr (be 4 beside.length ++ beside)).size ≤ 1000004 := by rw [bstr_size, List.length_append, be_length]; omega
  have z7 : (bstr ((be 4 beside.length ++ beside) ++ nonce)).size ≤ 1001004 := by rw [bstr_size, List.length_append, List.length_append, be_length]; omega
  have s1 : ¬ 9223372036854775807 < 4 + beside.length := by omega
  have s2 : ¬ 9223372036854775807 < (bstr (be 4 beside.length ++ beside)).size + (bstr nonce).size := by omega
  have s3 : ¬ 9223372036854775807 < (bstr ((be 4 beside.length ++ beside) ++ nonce)).size + (bstr m).size := by omega
  have H2 := Lib.hid fun wx => refTag wx (key.drop 16) (((be 4 beside.length ++ beside) ++ nonce) ++ m) HKL.out (by rw [List.length_append, List.length_append, List.length_append, be_length]; omega)
  have HE : Hid (((be 4 beside.length ++ beside) ++ nonce) ++ m = be 4 beside.length ++ (beside ++ (nonce ++ m))) := by show _ = _; simp only [List.append_assoc]
  rw [HE.out] at H2 j3
  generalize be 4 beside.length ++ (beside ++ (nonce ++ m)) = T at *
  have z8 : (bstr (hmac (key.drop 16) T)).size = 32 := by rw [bstr_size, hmac_length]
  have x2 := bstr_to (hmac (key.drop 16) T) 16
  rw [← HS.out] at x2
  generalize hmac (key.drop 16) T = R at *
  generalize stag key nonce beside m = R' at *
  generalize key.drop 16 = K2 at *
  generalize ((be 4 beside.length ++ beside) ++ nonce) = A3 at *
  generalize (be 4 beside.length ++ beside) = A2 at *
  generalize be 4 beside.length = A1 at *
  generalize beside.length = nb at *
  go_enter Tryd.func35, Tryd.ntmps35
  go_upto_region 1 with fail
  have N1 : New w w.drew := (Below.refl _ _).drew
  refine region_ord (fun _ => True) [(0, true), (1, true), (2, true), (3, true), (4, true), (6, true), (8, true), (10, true), (5, false), (7, true), (9, true), (11, true), (12, false), (13, true), (14, true)] (by kernel_rfl) (by kernel_rfl) trivial (fun _ => ?_)
  generalize w.drew = w1 at *
  iterate 8 (apply ord_take; (simp only [List.getElem?_toArray, List.getElem?_cons_succ, List.getElem?_cons_zero]; rfl); rfl; (intro w hSw; (try dsimp only at hSw); go_simp; try with_reducible rfl); intro _; try simp only [Act.put, List.setIfInBounds_toArray, List.set_cons_zero, List.set_cons_succ])
  (apply ord_only; (simp only [List.getElem?_toArray, List.getElem?_cons_succ, List.getElem?_cons_zero]; rfl); rfl; intro K hK)
  go_simp
  refine (H1.out w1).mono ?_
  rintro e w2 ⟨rfl, N2⟩
  have NN2 := New.trans N1 N2
  clear N1 N2
  refine hK.out _ _ (trivial) (fun _ => ?_)
  clear hK K
  try simp only [Act.put, List.setIfInBounds_toArray, List.set_cons_zero, List.set_cons_succ]
  iterate 3 (apply ord_take; (simp only [List.getElem?_toArray, List.getElem?_cons_succ, List.getElem?_cons_zero]; rfl); rfl; (intro w hSw; (try dsimp only at hSw); go_simp; try with_reducible rfl); intro _; try simp only [Act.put, List.setIfInBounds_toArray, List.set_cons_zero, List.set_cons_succ])
  (apply ord_only; (simp only [List.getElem?_toArray, List.getElem?_cons_succ, List.getElem?_cons_zero]; rfl); rfl; intro K hK)
  go_simp
  refine (H2.out w2).mono ?_
  rintro e w3 ⟨rfl, N3⟩
  have NN3 := New.trans NN2 N3
  clear NN2 N3
  refine hK.out _ _ (trivial) (fun _ => ?_)
  clear hK K
  try simp only [Act.put, List.setIfInBounds_toArray, List.set_cons_zero, List.set_cons_succ]
  iterate 2 (apply ord_take; (simp only [List.getElem?_toArray, List.getElem?_cons_succ, List.getElem?_cons_zero]; rfl); rfl; (intro w hSw; (try dsimp only at hSw); go_simp; try with_reducible rfl); intro _; try simp only [Act.put, List.setIfInBounds_toArray, List.set_cons_zero, List.set_cons_succ])
  apply ord_done
  go_wp2
  go_ret
  exact ⟨rfl, NN3⟩

set_option maxRecDepth 100000 in
set_option maxHeartbeats 400000 in
theorem refSeal06 (w : World) (key nonce beside t : List UInt8) (hk : key.length = 48) (hn : nonce.length = 16) (hb : beside.length ≤ 1000000) (ht : t.length ≤ 1000000) :
    Calls Tryd.prog 20 #[.string (bstr key), .string (bstr nonce), .string (bstr beside), .string (bstr t)] w fun e w' => e = .returned (.string (bstr (sealOf key nonce beside t))) ∧ New w w' := by
  have H1 := Lib.hid (refMask06 w key nonce t hk hn ht)
  have H2 := Lib.hid fun wx => refTag06 wx key nonce beside (ctrX key nonce t) hk (by omega) hb (by rw [ctrX_length]; exact ht)
  have j1 := bstr_append (ctrX key nonce t) (stag key nonce beside (ctrX key nonce t))
  have HE : Hid (sealOf key nonce beside t = ctrX key nonce t ++ stag key nonce beside (ctrX key nonce t)) := Lib.hid rfl
  rw [← HE.out] at j1
  have z1 : (bstr (ctrX key nonce t)).size ≤ 1000000 := by rw [bstr_size, ctrX_length]; exact ht
  have z2 : (bstr (stag key nonce beside (ctrX key nonce t))).size = 16 := by rw [bstr_size, stag_length]
  clear HE hk hn hb ht
  generalize sealOf key nonce beside t = R at *
  generalize stag key nonce beside (ctrX key nonce t) = T at *
  generalize ctrX key nonce t = X at *
  go_enter Tryd.func20, Tryd.ntmps20
  go_wp2_with fail
  refine H1.out.mono ?_
  rintro e w1 ⟨rfl, N1⟩
  go_wp2_with fail
  refine (H2.out w1).mono ?_
  rintro e w2 ⟨rfl, N2⟩
  go_wp2
  go_ret
  exact ⟨rfl, New.trans N1 N2⟩

set_option maxRecDepth 100000 in
set_option maxHeartbeats 1000000 in
theorem refOpen06 (w : World) (key nonce beside s : List UInt8) (hk : key.length = 48) (hn : nonce.length = 16) (hb : beside.length ≤ 1000000) (hs : s.length ≤ 1000000) :
    Calls Tryd.prog 23 #[.string (bstr key), .string (bstr nonce), .string (bstr beside), .string (bstr s)] w fun e w' => e = .returned (.tuple #[.string (bstr (openText key nonce beside s)), .int .i64 (openErr key nonce beside s)]) ∧ New w w' := by
  have z1 : (bstr s).size = s.length := bstr_size s
  by_cases h16 : s.length < 16
  · have HE : Hid (openErr key nonce beside s = 10) := by show _ = _; unfold openErr; rw [if_pos h16]
    have HX : Hid (openText key nonce beside s = []) := by show _ = _; unfold openText; rw [if_pos h16]
    rw [HE.out, HX.out]
    have hd : decide ((s.length : Int) < 16) = true := by simp; omega
    clear HE HX
    go_enter Tryd.func23, Tryd.ntmps23
    go_wp2
    go_ret2
    exact ⟨rfl, Below.refl _ _⟩
  · obtain ⟨m, hm⟩ : ∃ m, s.length - 16 = m := ⟨_, rfl⟩
    obtain ⟨n, hsn⟩ : ∃ n, s.length = n := ⟨_, rfl⟩
    have hd : decide ((n : Int) < 16) = false := by simp; omega
    have x1 := bstr_to s m
    have x2 := bstr_from s m n hsn
    have H1 := Lib.hid fun wx => refMask06 wx key nonce (s.take m) hk hn (by rw [List.length_take]; omega)
    have H2 := Lib.hid fun wx => refTag06 wx key nonce beside (s.take m) hk (by omega) hb (by rw [List.length_take]; omega)
    have HR : Hid (rightTag key nonce beside s ↔ s.drop m = stag key nonce beside (s.take m)) := by show _ ↔ _; unfold rightTag; rw [hm]
    have hmn : (n : Int) - 16 = (m : Int) := by omega
    have hmn' : m ≤ n := by omega
    have HET : Hid (openErr key nonce beside s = if rightTag key nonce beside s then 0 else 14) := by show _ = _; unfold openErr; rw [if_neg h16]
    have HXT : Hid (openText key nonce beside s = if rightTag key nonce beside s then ctrX key nonce (s.take m) else []) := by show _ = _; unfold openText; rw [if_neg h16]; subst hm; rfl
    rw [hsn] at z1 hs
    clear hm h16 hsn
    generalize ctrX key nonce (s.take m) = X at *
    generalize stag key nonce beside (s.take m) = T at *
    generalize s.take m = A at *
    generalize s.drop m = B at *
    go_enter Tryd.func23, Tryd.ntmps23
    go_upto_region 4 with fail
    have N1 : New w w.drew := (Below.refl _ _).drew
    refine region_ord (fun _ => True) [(0, true), (1, true), (2, true), (3, true), (4, true), (5, true), (7, true), (8, true), (9, true), (6, false), (10, true)] (by kernel_rfl) (by kernel_rfl) trivial (fun _ => ?_)
    generalize w.drew = w1 at *
    iterate 9 (apply ord_take; (simp only [List.getElem?_toArray, List.getElem?_cons_succ, List.getElem?_cons_zero]; rfl); rfl; (intro w hSw; (try dsimp only at hSw); go_simp; try with_reducible rfl); intro _; try simp only [Act.put, List.setIfInBounds_toArray, List.set_cons_zero, List.set_cons_succ])
    (apply ord_only; (simp only [List.getElem?_toArray, List.getElem?_cons_succ, List.getElem?_cons_zero]; rfl); rfl; intro K hK)
    go_simp
    refine (H2.out w1).mono ?_
    rintro e w2 ⟨rfl, N2⟩
    have NN2 := New.trans N1 N2
    clear N1 N2
    refine hK.out _ _ (trivial) (fun _ => ?_)
    clear hK K
    try simp only [Act.put, List.setIfInBounds_toArray, List.set_cons_zero, List.set_cons_succ]
    by_cases hr : rightTag key nonce beside s
    · rw [if_pos hr] at HET HXT
      have kb : ((bstr T).toList == (bstr B).toList) = true := by rw [HR.out.1 hr]; simp
      clear hr HR
      iterate 1 (apply ord_take; (simp only [List.getElem?_toArray, List.getElem?_cons_succ, List.getElem?_cons_zero]; rfl); rfl; (intro w hSw; (try dsimp only at hSw); go_simp; try with_reducible rfl); intro _; try simp only [Act.put, List.setIfInBounds_toArray, List.set_cons_zero, List.set_cons_succ])
      apply ord_done
      go_wp2_with fail
      refine (H1.out w2).mono ?_
      rintro e w3 ⟨rfl, N3⟩
      go_wp2
      go_ret2
      exact ⟨by rw [HET.out, HXT.out]; rfl, New.trans NN2 N3⟩
    · rw [if_neg hr] at HET HXT
      have kb : ((bstr T).toList == (bstr B).toList) = false := by
        rw [beq_eq_false_iff_ne, bstr_list, bstr_list]
        exact fun e => hr (HR.out.2 e.symm)
      clear hr HR
      iterate 1 (apply ord_take; (simp only [List.getElem?_toArray, List.getElem?_cons_succ, List.getElem?_cons_zero]; rfl); rfl; (intro w hSw; (try dsimp only at hSw); go_simp; try with_reducible rfl); intro _; try simp only [Act.put, List.setIfInBounds_toArray, List.set_cons_zero, List.set_cons_succ])
      apply ord_done
      go_wp2
      go_ret2
      exact ⟨by rw [HET.out, HXT.out]; rfl, NN2⟩

end Go.Proofs.YtgfljldegodpgaaDoor
