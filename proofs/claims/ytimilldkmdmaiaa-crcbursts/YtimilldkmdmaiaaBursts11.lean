/-
  CrcBursts: the walk.
-/
import Derived.Test.YtimilldkmdmaiaaLaw11
import Derived.Test.YtimilldkmdmaiaaRefRest
import Derived.Test.YtimilldkmdmaiaaBase
import Derived.Laws.OwnMore
namespace Go.Proofs.Ytimilldkmdmaiaa
set_option linter.unusedVariables false
set_option linter.unusedSimpArgs false
open Go.RowKit

theorem own_get {w : World} {base g n c : Nat} {l : List UInt8} (h : w.ownsRow base 5 1 (.slice (some ⟨g, 0, none⟩) n c) n (l.map bv)) (hl : l.length = n) (i : Nat) (hi : i < n) : w.cell? ⟨g, i, none⟩ = some (bv (l.getD i 0)) := by
  rw [h.cellAt i (by omega), List.getElem?_map, List.getD_eq_getElem?_getD, List.getElem?_eq_getElem (by omega)]
  rfl

/-- a byte of a row of one's own is set -/
theorem own_set {w : World} {base g n c : Nat} {l : List UInt8} (h : w.ownsRow base 5 1 (.slice (some ⟨g, 0, none⟩) n c) n (l.map bv)) (i : Nat) (u : UInt8) :
    (w.setCell ⟨g, i, none⟩ (bv u)).ownsRow base 5 1 (.slice (some ⟨g, 0, none⟩) n c) n ((l.set i u).map bv) := by
  have h2 := (h.stored i (bv u)).1
  rw [← List.map_set] at h2
  exact h2

theorem bit_of (t : UInt32) (j : Nat) : bits .and .u32 ((t.toNat : Int) / 2 ^ j) 1 = ((t.toNat / 2 ^ j % 2 : Nat) : Int) := by
  have e : (t.toNat : Int) / 2 ^ j = ((t.toNat / 2 ^ j : Nat) : Int) := by rw [Int.natCast_ediv, Int.natCast_pow]; rfl
  rw [e, show (1 : Int) = ((1 : Nat) : Int) from rfl, u32_and_nat _ _ (Nat.lt_of_le_of_lt (Nat.div_le_self _ _) (u32_lt t)) (by decide), nat_mask1]

theorem shl_of (P r8 : Nat) (h : P % 8 = r8) : Op.shift .shl .u8 1 .i64 ((P : Int) % 8) = pure (.int .u8 ((UInt8.ofNat (2 ^ r8)).toNat : Int)) := by
  have h8 : r8 < 8 := by omega
  have e : (P : Int) % 8 = (r8 : Int) := by rw [← h]; rfl
  rw [e, shift_shl_any .u8 .i64 1 (r8 : Int) (by omega)]
  clear e h
  have h' : r8 = 0 ∨ r8 = 1 ∨ r8 = 2 ∨ r8 = 3 ∨ r8 = 4 ∨ r8 = 5 ∨ r8 = 6 ∨ r8 = 7 := by omega
  rcases h' with rfl | rfl | rfl | rfl | rfl | rfl | rfl | rfl <;> rfl

attribute [local go_sem] u8_bxor

/-- what the checked sequence is on the way -/
def BuIn (w : World) (g N c : Nat) (m : List UInt8) (wr : World) : Prop :=
  wr.ownsRow w.heap.size 5 1 (.slice (some ⟨g, 0, none⟩) N c) N (m.map bv) ∧ m.length = N ∧ New w wr

set_option maxRecDepth 100000 in
set_option maxHeartbeats 2000000 in
theorem burstsWalk (w : World) (x : Value) (l : List UInt8) (hx : Rd w x l) (n : Int) (hn : (Lit.int .i64 n).wf = true) (t : UInt32) :
    Calls Try.prog 5 #[x, .int .i64 n, wv t] w fun e w' => e = .returned (.bool true) ∧ New w w' := by
  have HX := Lib.hid hx
  obtain ⟨ax, mx, cx, rfl, hax, hxc, hxm, -, -⟩ := hx
  unfold maxLen at hxm
  clear hn
  by_cases h1 : 400 < mx
  · have hd1 : decide ((400 : Int) < (mx : Int)) = true := by simp; omega
    clear hax
    go_enter Try.func5, Try.ntmps5
    go_wp2_with fail
    refine (awake11 w).mono ?_
    rintro e w1 ⟨rfl, N1⟩
    go_wp2_with fail
    refine (awake11 w1).mono ?_
    rintro e w2 ⟨rfl, N2⟩
    go_wp2
    go_ret
    exact ⟨rfl, New.trans N1 N2⟩
  have hd1 : decide ((400 : Int) < (mx : Int)) = false := by simp; omega
  by_cases h2 : t = 0
  · have hd2 : ((t.toNat : Int) == 0) = true := by rw [h2]; rfl
    clear hax
    go_enter Try.func5, Try.ntmps5
    go_wp2_with fail
    refine (awake11 w).mono ?_
    rintro e w1 ⟨rfl, N1⟩
    go_wp2_with fail
    refine (awake11 w1).mono ?_
    rintro e w2 ⟨rfl, N2⟩
    go_wp2
    go_ret
    exact ⟨rfl, New.trans N1 N2⟩
  have HT0 := Lib.hid h2
  have hd2 : ((t.toNat : Int) == 0) = false := by
    rw [beq_eq_false_iff_ne]
    intro e
    exact h2 (UInt32.toNat_inj.1 (by show t.toNat = 0; omega))
  clear h2
  have HLen := Lib.hid hax
  clear hax
  go_enter Try.func5, Try.ntmps5
  go_wp2_with fail
  refine (awake11 w).mono ?_
  rintro e w1 ⟨rfl, N1⟩
  go_wp2_with fail
  refine (crcWith_calls w1 _ l (HX.out.new N1) (by rw [HLen.out]; omega)).mono ?_
  rintro e w2 ⟨a2, n2, c2, rfl, r2, N2', o2⟩
  have N2 := N1.trans N2'
  have hn2 : n2 = mx + 4 := by rw [← r2.len, crcWith_length, HLen.out]
  subst hn2
  have hcl : (crcWith l).length = mx + 4 := r2.len
  rw [hcl] at o2
  obtain ⟨g, c3, e3, hg, -⟩ := o2.form (by omega)
  cases e3
  have HG : Hid (w.heap.size ≤ g) := Lib.hid (Nat.le_trans N1.size hg)
  have HB : Hid (BuIn w g (mx + 4) c2 (crcWith l) w2) := ⟨own_base o2 N1.size, hcl, N2⟩
  clear o2 r2 N2' hcl N2
  have hm0 : ((8 * (mx : Int)) + 1) % 18446744073709551616 = (8 * (mx : Int)) + 1 := by omega
  obtain ⟨bt, hbt, HK⟩ : ∃ k : Nat, k ≤ 8 * mx ∧ Hid (n % (8 * (mx : Int) + 1) = (k : Int)) := by
    have e2 := Int.emod_nonneg n (b := 8 * (mx : Int) + 1) (by omega)
    have e3 := Int.emod_lt_of_pos n (b := 8 * (mx : Int) + 1) (by omega)
    exact ⟨(n % (8 * (mx : Int) + 1)).toNat, by omega, Lib.hid (by omega)⟩
  go_wp2_with fail
  refine (refRest2 w2 n (8 * (mx : Int) + 1) (by omega) (by omega)).mono ?_
  rintro e w3 ⟨rfl, rfl⟩
  rw [HK.out]
  clear hm0 HK
  by_cases h3 : 8 * mx < bt + 32
  · have hd3 : decide ((8 * (mx : Int) - 32) < (bt : Int)) = true := by simp; omega
    go_wp2_with fail
    refine (refRest2 w2 n 4 (by omega) (by omega)).mono ?_
    rintro e w3 ⟨rfl, rfl⟩
    obtain ⟨r, hr, HR⟩ : ∃ r : Nat, r < 4 ∧ Hid (n % 4 = (r : Int)) := ⟨(n % 4).toNat, by omega, Lib.hid (by omega)⟩
    rw [HR.out]
    have hi1 : (mx : Int) + (r : Int) < (mx : Int) + 4 := by omega
    have hi2 : ((mx : Int) + (r : Int)).toNat = mx + r := by omega
    obtain ⟨HO, HL, HN⟩ := HB.out
    have hc := own_get HO HL (mx + r) (by omega)
    have hf := HO.frozenAt (mx + r)
    obtain ⟨q, HQ, HQ0⟩ : ∃ q : UInt8, Hid (1 + (t.toNat : Int) % 255 = (q.toNat : Int)) ∧ Hid (q ≠ 0) := by
      refine ⟨UInt8.ofNat (1 + t.toNat % 255), Lib.hid ?_, fun e => ?_⟩
      · rw [UInt8.toNat_ofNat']; omega
      · have := congrArg UInt8.toNat e
        rw [UInt8.toNat_ofNat'] at this
        simp at this
        omega
    obtain ⟨y, HY⟩ : ∃ y, Hid ((crcWith l).getD (mx + r) 0 = y) := ⟨_, Lib.hid rfl⟩
    rw [HY.out] at hc
    have HOk : Hid (crcOk ((crcWith l).set (mx + r) (bxor y q)) = false) := Lib.hid (crc_byte l (mx + r) _ (by rw [HLen.out]; omega) (by rw [HLen.out]; omega) (by rw [HY.out]; exact xor_ne y q HQ0.out))
    have HS := Lib.hid (own_set HO (mx + r) (bxor y q))
    have HML : Hid (((crcWith l).set (mx + r) (bxor y q)).length = mx + 4) := Lib.hid (by rw [List.length_set, HL])
    have HNN : Hid (New w (w2.setCell ⟨g, mx + r, none⟩ (bv (bxor y q)))) := Lib.hid (HN.setCell HG.out _)
    clear HB HO HL HN HY
    generalize (crcWith l).set (mx + r) (bxor y q) = M at *
    go_wp2_with fail
    rw [HQ.out, u8_bxor]
    clear hc hf
    generalize w2.setCell ⟨g, mx + r, none⟩ (bv (bxor y q)) = w3 at *
    have HR3 : Rd w3 (.slice (some ⟨g, 0, none⟩) (mx + 4) c2) M := Rd.of_own (base := w.heap.size) (e := 5) (by rw [HML.out]; exact HS.out)
    refine (crcTake w3 _ M HR3 (by rw [HML.out]; omega)).mono ?_
    rintro e w4 ⟨a4, n4, c4, rfl, -, N4, -⟩
    rw [HOk.out]
    go_wp2
    go_ret
    exact ⟨rfl, HNN.out.trans N4⟩
  · have hd3 : decide ((8 * (mx : Int) - 32) < (bt : Int)) = false := by simp; omega
    have HF0 : Hid (flips (crcWith l) bt t 0 = crcWith l) := Lib.hid rfl
    rw [← HF0.out] at HB
    go_wp2
    go_loopw [12, 13] (fun i _ wr => ∃ j : Nat, j ≤ 32 ∧ i = .int .i64 j ∧ BuIn w g (mx + 4) c2 (flips (crcWith l) bt t j) wr) (fun i _ _ => 32 - (intOf i).toNat)
    case atStart => exact ⟨0, by omega, rfl, HB.out⟩
    case round =>
      obtain ⟨j, hj, rfl, hB⟩ := hrel
      clear HB HF0
      have HB := Lib.hid hB
      clear hB
      by_cases hlt : j < 32
      · have h32 : (j : Int) < 32 := by omega
        have hb0 := bit_of t j
        by_cases hbit : t.toNat / 2 ^ j % 2 = 1
        · rw [hbit] at hb0
          have hb : (bits .and .u32 ((t.toNat : Int) / 2 ^ j) 1 == 1) = true := by rw [hb0]; rfl
          have HFl : Hid (flips (crcWith l) bt t (j + 1) = flip1 (flips (crcWith l) bt t j) (bt + j)) := by show _ = _; rw [flips, if_pos hbit]
          clear hb0 hbit
          have h31 : bt + j < 8 * mx := by omega
          have HSum : Hid ((bt : Int) + (j : Int) = ((bt + j : Nat) : Int)) := by show _ = _; omega
          go_wp2_with fail
          rw [HSum.out]
          clear hb HSum
          obtain ⟨P, HP⟩ : ∃ P, Hid (bt + j = P) := ⟨_, Lib.hid rfl⟩
          rw [HP.out] at h31 HFl ⊢
          obtain ⟨b1, HB1, hb1⟩ : ∃ b1, Hid (P / 8 = b1) ∧ b1 < mx := ⟨_, Lib.hid rfl, by omega⟩
          obtain ⟨r8, HR8, hr8⟩ : ∃ r8, Hid (P % 8 = r8) ∧ r8 < 8 := ⟨_, Lib.hid rfl, by omega⟩
          have hq1 : IntKind.i64.wrap ((P : Int) / 8) = (b1 : Int) := by
            rw [IntWalk.i64_in _ (by omega), ← HB1.out]; rfl
          obtain ⟨q, HQ⟩ : ∃ q, Hid (UInt8.ofNat (2 ^ r8) = q) := ⟨_, Lib.hid rfl⟩
          have hsh : Op.shift .shl .u8 1 .i64 ((P : Int).tmod 8) = pure (.int .u8 (q.toNat : Int)) := by
            rw [Int.tmod_eq_emod_of_nonneg (by omega), ← HQ.out]; exact shl_of P r8 HR8.out
          obtain ⟨HO, HL, HN⟩ := HB.out
          obtain ⟨y, HY⟩ : ∃ y, Hid ((flips (crcWith l) bt t j).getD b1 0 = y) := ⟨_, Lib.hid rfl⟩
          have hc := own_get HO HL b1 (by omega)
          rw [HY.out] at hc
          have hf := HO.frozenAt b1
          have hbm : (b1 : Int) < (mx : Int) + 4 := by omega
          have HBN : Hid (BuIn w g (mx + 4) c2 (flips (crcWith l) bt t (j + 1)) (wr.setCell ⟨g, b1, none⟩ (bv (bxor y q)))) := by
            refine Lib.hid ⟨?_, by rw [flips_length]; rw [flips_length] at HL; exact HL, HN.setCell HG.out _⟩
            have h := own_set HO b1 (bxor y q)
            rw [HFl.out]
            unfold flip1
            rw [HB1.out, HR8.out, HQ.out, HY.out]
            exact h
          refine region_ord (fun _ => True) [(0, true), (1, true), (2, true), (3, true), (4, true), (5, true), (6, true), (8, true), (9, true), (10, true), (7, false), (11, true), (12, true), (13, false)] (by kernel_rfl) (by kernel_rfl) trivial (fun _ => ?_)
          iterate 10 (apply ord_take; (simp only [List.getElem?_toArray, List.getElem?_cons_succ, List.getElem?_cons_zero]; rfl); rfl; (intro w hSw; (try dsimp only at hSw); go_simp; try with_reducible rfl); intro _; try simp only [Act.put, List.setIfInBounds_toArray, List.set_cons_zero, List.set_cons_succ])
          (apply ord_only; (simp only [List.getElem?_toArray, List.getElem?_cons_succ, List.getElem?_cons_zero]; rfl); rfl; intro K hK)
          have hc' : wr.drew.cell? ⟨g, b1, none⟩ = some (bv y) := hc
          have hf' : wr.drew.frozen? ⟨g, b1, none⟩ = false := hf
          go_simp
          refine hK.out _ _ (trivial) (fun _ => ?_)
          clear hK K
          try simp only [Act.put, List.setIfInBounds_toArray, List.set_cons_zero, List.set_cons_succ]
          iterate 2 (apply ord_take; (simp only [List.getElem?_toArray, List.getElem?_cons_succ, List.getElem?_cons_zero]; rfl); rfl; (intro w hSw; (try dsimp only at hSw); go_simp; try with_reducible rfl); intro _; try simp only [Act.put, List.setIfInBounds_toArray, List.set_cons_zero, List.set_cons_succ])
          (apply ord_only; (simp only [List.getElem?_toArray, List.getElem?_cons_succ, List.getElem?_cons_zero]; rfl); rfl; intro K hK)
          go_simp
          have HBN' : Hid (BuIn w g (mx + 4) c2 (flips (crcWith l) bt t (j + 1)) (wr.setCell ⟨g, b1, none⟩ (bv (bxor y q))).drew) := Lib.hid ⟨HBN.out.1, HBN.out.2.1, HBN.out.2.2.drew⟩
          refine hK.out _ _ (trivial) (fun _ => ?_)
          clear hK K
          try simp only [Act.put, List.setIfInBounds_toArray, List.set_cons_zero, List.set_cons_succ]
          apply ord_done
          clear hc hf hc' hf' HBN
          generalize (wr.setCell ⟨g, b1, none⟩ (bv (bxor y q))).drew = wz at *
          go_wp2_with fail
          go_roundw
          case rel => exact ⟨j + 1, by omega, by go_num, HBN'.out⟩
          case measure => simp [intOf]; omega
        · have hbit0 : t.toNat / 2 ^ j % 2 = 0 := by omega
          rw [hbit0] at hb0
          have hb : (bits .and .u32 ((t.toNat : Int) / 2 ^ j) 1 == 1) = false := by rw [hb0]; rfl
          have HFl : Hid (flips (crcWith l) bt t (j + 1) = flips (crcWith l) bt t j) := by show _ = _; rw [flips, if_neg hbit]
          clear hb0 hbit hbit0
          go_wp2_with fail
          go_roundw
          case rel => exact ⟨j + 1, by omega, by go_num, by rw [HFl.out]; exact HB.out⟩
          case measure => simp [intOf]; omega
      · obtain rfl : j = 32 := by omega
        have HOk : Hid (crcOk (flips (crcWith l) bt t 32) = false) := Lib.hid (crc_flips l bt t HT0.out (by rw [HLen.out]; omega))
        obtain ⟨HO, HL, HN⟩ := HB.out
        generalize flips (crcWith l) bt t 32 = M at *
        have HR3 : Rd wr (.slice (some ⟨g, 0, none⟩) (mx + 4) c2) M := Rd.of_own (base := w.heap.size) (e := 5) (by rw [HL]; exact HO)
        have HC := Lib.hid (crcTake wr _ M HR3 (by rw [HL]; omega))
        have HNN := Lib.hid HN
        clear HO HL HN HB HR3
        rw [show ((32 : Nat) : Int) = 32 from rfl]
        go_wp2_with fail
        refine HC.out.mono ?_
        rintro e w4 ⟨a4, n4, c4, rfl, -, N4, -⟩
        rw [HOk.out]
        go_wp2
        go_ret
        exact ⟨rfl, HNN.out.trans N4⟩

/-- the row's third argument as a word -/
theorem burstsLaw (w : World) (x : Value) (l : List UInt8) (hx : Rd w x l) (n : Int) (hn : (Lit.int .i64 n).wf = true) (t : Int) (ht : (Lit.int .u32 t).wf = true) :
    Calls Try.prog 5 #[x, .int .i64 n, .int .u32 t] w fun e w' => e = .returned (.bool true) ∧ New w w' := by
  have h' : IntKind.u32.min ≤ t ∧ t ≤ IntKind.u32.max := by simpa [Lit.wf] using ht
  rw [show IntKind.u32.min = 0 from rfl, show IntKind.u32.max = 4294967295 from rfl] at h'
  have e : t = ((UInt32.ofNat t.toNat).toNat : Int) := by rw [UInt32.toNat_ofNat_of_lt' (by show _ < 4294967296; omega)]; omega
  rw [e]
  exact burstsWalk w x l hx n hn _

end Go.Proofs.Ytimilldkmdmaiaa
