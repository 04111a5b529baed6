/-
  The reference of layer 18: Beside, Path; Ints.
-/
import Derived.Test.YtalpifocahnfjaaDoorRefShp2
import Derived.Test.YtalpifocahnfjaaDoorRefInts
namespace Go.Proofs.YtalpifocahnfjaaDoor
set_option linter.unusedVariables false
set_option linter.unusedSimpArgs false
set_option maxRecDepth 100000
open Go.RowKit

set_option maxHeartbeats 1000000 in
theorem refBeside18 (w : World) (node leaves : Int) : Calls Tryd.prog 20 #[.int .i64 node, .int .i64 leaves] w fun e w' => e = .returned (.tuple #[.int .i64 (shBeside node leaves), .bool (decide (shUp node leaves))]) ∧ New w w' := by
  have HA := Lib.hid (refAbove18 w node leaves)
  by_cases hu : shUp node leaves
  rotate_left
  · have HE : Hid (shBeside node leaves = 0) := Lib.hid (if_neg hu)
    rw [decide_eq_false hu] at HA ⊢
    rw [HE.out]
    generalize shAbove node leaves = A at *
    clear hu
    go_enter Tryd.func20, Tryd.ntmps20
    go_wp2_with fail
    refine HA.out.mono ?_
    rintro _ w1 ⟨rfl, n1⟩
    have N1 := Lib.hid n1
    clear n1
    go_wp2
    go_ret2
    exact ⟨rfl, N1.out⟩
  rw [decide_eq_true hu] at HA ⊢
  obtain ⟨m, hm, rfl⟩ := fits_mem hu.1
  have h32 := fits_le hm
  obtain ⟨n, rfl⟩ := Int.eq_ofNat_of_zero_le hu.2.1
  have h3 := hu.2.2.1
  have h4 := hu.2.2.2
  obtain ⟨g1, g2, g3, g4⟩ := up_facts m hm n (by omega) (by omega)
  have HE : Hid (shBeside (n : Int) (m : Int) = (sib n : Int) ∧ shAbove (n : Int) (m : Int) = (up n : Int)) := Lib.hid ⟨by unfold shBeside; rw [if_pos hu, Int.toNat_natCast], by unfold shAbove; rw [if_pos hu, Int.toNat_natCast]⟩
  rw [HE.out.2] at HA
  rw [HE.out.1]
  obtain ⟨-, -, k3⟩ := shKid_nat (n := up n) (by omega)
  obtain ⟨k4, k5⟩ := k3 g2
  have HK := Lib.hid fun wx => refKids18 wx (up n : Int)
  rw [k4, k5] at HK
  obtain ⟨l, hl⟩ : ∃ l, up n - 2 ^ (lv (up n) - 1) = l := ⟨_, rfl⟩
  obtain ⟨r, hr⟩ : ∃ r, up n + 2 ^ (lv (up n) - 1) = r := ⟨_, rfl⟩
  rw [hl, hr] at g4 HK
  generalize shKid (up n : Int) = B at *
  generalize up n = u at *
  generalize sib n = S at *
  clear hu hm h3 h4 g1 g2 g3 HE k3 k4 k5 hl hr
  rcases g4 with ⟨rfl, rfl⟩ | ⟨hne, rfl⟩
  · go_enter Tryd.func20, Tryd.ntmps20
    go_wp2_with fail
    refine HA.out.mono ?_
    rintro _ w1 ⟨rfl, n1⟩
    have N1 := Lib.hid n1
    clear n1
    go_wp2_with fail
    refine (HK.out w1).mono ?_
    rintro _ w2 ⟨rfl, rfl⟩
    go_wp2
    go_ret2
    exact ⟨rfl, N1.out⟩
  · have d : ((l : Int) == (n : Int)) = false := by rw [beq_eq_false_iff_ne]; omega
    clear hne
    go_enter Tryd.func20, Tryd.ntmps20
    go_wp2_with fail
    refine HA.out.mono ?_
    rintro _ w1 ⟨rfl, n1⟩
    have N1 := Lib.hid n1
    clear n1
    go_wp2_with fail
    refine (HK.out w1).mono ?_
    rintro _ w2 ⟨rfl, rfl⟩
    go_wp2
    go_ret2
    exact ⟨rfl, N1.out⟩

/-- what Path returns -/
def PathTo18 (w : World) (l : List Int) (e : Ending) (w' : World) : Prop := ∃ a n c, e = .returned (.slice a n c) ∧ RdV w' (.slice a n c) (l.map (Value.int .i64)) ∧ New w w'

set_option maxHeartbeats 1000000 in
theorem refPath18 (w : World) (leaf leaves : Int) : Calls Tryd.prog 23 #[.int .i64 leaf, .int .i64 leaves] w (PathTo18 w (shPath leaf leaves)) := by
  obtain ⟨i0, hi0, hz0, hz1, hz2⟩ := info_parts infoInt18
  have HF := Lib.hid (refFits18 w leaves)
  obtain ⟨A, HA⟩ : ∃ A, Hid (shPath leaf leaves = A) := ⟨_, Lib.hid rfl⟩
  rw [HA.out]
  have NO : Hid (¬ shLeaf leaf leaves → PathTo18 w A (.returned (.slice none 0 0)) w) := Lib.hid (fun h => ⟨none, 0, 0, rfl, by rw [← HA.out]; unfold shPath; rw [if_neg h]; exact RdV.nil w, Below.refl _ _⟩)
  by_cases hf : shFits leaves = true
  rotate_left
  · have HE := Lib.hid (NO.out (fun h => hf h.1))
    rw [show shFits leaves = false by simpa using hf] at HF
    clear hf
    go_enter Tryd.func23, Tryd.ntmps23
    go_wp2_with fail
    refine HF.out.mono ?_
    rintro _ w1 ⟨rfl, rfl⟩
    go_wp2
    go_ret
    exact HE.out
  rw [hf] at HF
  by_cases h0 : leaf < 0
  · have HE := Lib.hid (NO.out (fun h => by have := h.2.1; omega))
    clear hf
    go_enter Tryd.func23, Tryd.ntmps23
    go_wp2_with fail
    refine HF.out.mono ?_
    rintro _ w1 ⟨rfl, rfl⟩
    go_wp2
    go_ret
    exact HE.out
  by_cases h1 : leaves ≤ leaf
  · have HE := Lib.hid (NO.out (fun h => by have := h.2.2; omega))
    clear hf
    go_enter Tryd.func23, Tryd.ntmps23
    go_wp2_with fail
    refine HF.out.mono ?_
    rintro _ w1 ⟨rfl, rfl⟩
    go_wp2
    go_ret
    exact HE.out
  have hle : shLeaf leaf leaves := ⟨hf, by omega, by omega⟩
  obtain ⟨m, hm, rfl⟩ := fits_mem hf
  have h32 := fits_le hm
  obtain ⟨n, rfl⟩ := Int.eq_ofNat_of_zero_le (show 0 ≤ leaf by omega)
  obtain ⟨g1, g2⟩ := way_path m hm n (by omega)
  have HE : Hid (A = (pathL n m).map (fun n : Nat => (n : Int))) := Lib.hid (by rw [← HA.out]; unfold shPath; rw [if_pos hle, Int.toNat_natCast, Int.toNat_natCast])
  have HW := Lib.hid (refWay18 w (2 * n) m hm (by omega))
  rw [show ((2 * n : Nat) : Int) = 2 * (n : Int) by omega] at HW
  have hwl := wayF_length 6 0 (2 * m - 2) (2 * n)
  obtain ⟨W, hWe⟩ : ∃ W, wayF 6 0 (2 * m - 2) (2 * n) = W := ⟨_, rfl⟩
  rw [hWe] at g1 g2 HW hwl
  obtain ⟨T, hT⟩ : ∃ T, W.take (W.length - 1) = T := ⟨_, rfl⟩
  rw [hT] at g1
  have htl : T.length + 1 = W.length := by rw [← hT, List.length_take]; omega
  have HT : Hid (T.reverse = pathL n m ∧ ∀ i x, T[i]? = some x → W[i]? = some x) := Lib.hid ⟨g1, fun i x hx => by
    rw [← hT, List.getElem?_take] at hx
    split at hx
    · exact hx
    · cases hx⟩
  have HTl : Hid (T.length + 1 = W.length ∧ W.length ≤ 6) := Lib.hid ⟨htl, hwl⟩
  clear hf hle hm g1 g2 hwl hWe hT htl NO HA
  go_enter Tryd.func23, Tryd.ntmps23
  go_wp2_with fail
  refine HF.out.mono ?_
  rintro _ w1 ⟨rfl, rfl⟩
  go_wp2_with fail
  refine HW.out.mono ?_
  rintro _ w1 ⟨v, rfl, ho⟩
  have HO := Lib.hid ho
  obtain ⟨a, c, rfl, hc, hcell⟩ := ownSl_form ho.own
  obtain ⟨gb, rfl, hcl⟩ := hcell (by have := HTl.out; omega)
  have HCL := Lib.hid hcl
  obtain ⟨L, hL⟩ : ∃ L, W.length = L := ⟨_, rfl⟩
  have HLe := Lib.hid hL
  have hl6 : L ≤ 6 ∧ 1 ≤ L := by have := HTl.out; omega
  rw [hL]
  clear hcell hcl hc ho hL h0 h1 h32 HF HW
  obtain ⟨t, ht⟩ : ∃ t, T.length = t := ⟨_, rfl⟩
  have HTt := Lib.hid ht
  have hLt : L = t + 1 := by have := HTl.out; have := HLe.out; omega
  have e2 : (L : Int) - 2 = (t : Int) - 1 := by omega
  have HS : Hid (OwnI18 w1 (.slice none 0 0) ((T.drop t).reverse) w1) := Lib.hid (by rw [List.drop_of_length_le (by omega)]; exact ⟨⟨rfl, .inl ⟨rfl, rfl⟩⟩, Below.refl _ _⟩)
  have HGB : Hid (gb < w1.heap.size) := Lib.hid (World.block_lt_of_cell? w1 _ (HCL.out 0 (iv18 (W.getD 0 0)) (by rw [List.getElem?_map, List.getD_eq_getElem?_getD, List.getElem?_eq_getElem (by have := HLe.out; omega)]; rfl)))
  clear ht
  go_upto_region 6 with fail
  go_loopw [6, 7] (fun vo vi wr => ∃ r : Nat, vi = .int .i64 ((r : Int) - 1) ∧ r ≤ t ∧ OwnI18 w1 vo ((T.drop r).reverse) wr) (fun _ vi _ => (intOf vi + 1).toNat)
  case atStart => exact ⟨t, by go_num, Nat.le_refl _, HS.out⟩
  case round =>
    obtain ⟨r, rfl, hr, hin⟩ := hrel
    have HI := Lib.hid hin
    clear hin HS e2
    obtain ⟨ao, co, hv, hco, -⟩ := ownSl_form HI.out.own
    subst hv
    by_cases hr0 : r = 0
    · subst hr0
      have hdr : RdV wr (.slice ao ((T.drop 0).reverse).length co) (A.map (Value.int .i64)) := by
        have h1 := RdV.of_own HI.out.own
        rw [HE.out, ← HT.out.1]
        rw [List.drop_zero] at h1 ⊢
        rw [List.map_map]
        exact h1
      have HR := Lib.hid hdr
      obtain ⟨k, hk⟩ : ∃ k, ((T.drop 0).reverse).length = k := ⟨_, rfl⟩
      rw [hk] at HR
      rw [hk]
      clear hdr hk hr hco
      go_wp2
      go_ret
      exact ⟨_, _, _, rfl, HR.out, New.trans HO.out.new HI.out.new⟩
    · obtain ⟨q, rfl⟩ : ∃ q, r = q + 1 := ⟨r - 1, by omega⟩
      have hqT : q < T.length := by have := HTt.out; omega
      obtain ⟨x, hx⟩ : ∃ x, T[q]? = some x := ⟨_, List.getElem?_eq_getElem hqT⟩
      have hdq : (T.drop q).reverse = (T.drop (q + 1)).reverse ++ [x] := by
        rw [List.drop_eq_getElem_cons hqT, List.reverse_cons]
        rw [List.getElem?_eq_getElem hqT] at hx
        cases hx; rfl
      have hxw := HT.out.2 q x hx
      have hcx : wr.cell? ⟨gb, q, none⟩ = some (iv18 x) := (World.cell?_of_block (HI.out.new.block gb HGB.out)).trans (HCL.out q (iv18 x) (by rw [List.getElem?_map, hxw]; rfl))
      have hlen : ((T.drop (q + 1)).reverse).length ≤ 6 := by rw [List.length_reverse, List.length_drop]; have := HTl.out; omega
      obtain ⟨v', wa, happ, hown', hO', hb', hlt'⟩ := run_append_u (P := Tryd.prog) w1.heap.size wr 33 33 3 i0 _ 8 Tryd.underlying33 hi0 hz0 hz1 hz2 rfl _ ((T.drop (q + 1)).reverse).length (((T.drop (q + 1)).reverse).map iv18) HI.out.own (iv18 x) rfl (by omega) (by omega) HI.out.new.size
      have HAPP := Lib.hid happ
      have HN : Hid (OwnI18 w1 v' ((T.drop q).reverse) wa) := Lib.hid ⟨by rw [hdq, List.length_append, List.map_append]; exact hown', Below.trans HI.out.new (hO'.below HI.out.new.size (fun j hj => own_from HI.out.own j hj))⟩
      have e3 : ((q + 1 : Nat) : Int) - 1 = (q : Int) := by omega
      have hqt : q ≤ t := by omega
      have hqL : (q : Int) < (L : Int) := by omega
      obtain ⟨k, hk⟩ : ∃ k, ((T.drop (q + 1)).reverse).length = k := ⟨_, rfl⟩
      rw [hk] at HAPP
      rw [hk]
      clear happ hown' hO' hb' hlt' hx hxw hdq hlen hk hco hr hr0
      go_wp2_with (at_builtin; refine wpList_app1 rfl _ _ 33 rfl _ _ rfl rfl HAPP.out ?_)
      go_roundw
      case rel => exact ⟨q, by go_num, hqt, HN.out⟩
      case measure => simp [intOf]


end Go.Proofs.YtalpifocahnfjaaDoor
