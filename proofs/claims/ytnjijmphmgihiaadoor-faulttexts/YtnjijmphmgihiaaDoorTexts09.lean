/-
  The law FaultTexts, walked.
-/
import Derived.Test.YtnjijmphmgihiaaDoorCodes09
namespace Go.Proofs.YtnjijmphmgihiaaDoor
set_option linter.unusedVariables false
set_option linter.unusedSimpArgs false
open Go.RowKit

theorem errAt_drop (L : List Lk) (c : Cor) (k i : Nat) : errAt (L.drop k) c i = errAt L c (k + i) := by
  unfold errAt; rw [List.getElem?_drop]

theorem Chain.drop {w : World} {L : List Lk} {c : Cor} (h : Chain w L c) (k : Nat) : Chain w (L.drop k) c := by
  refine ⟨fun i hi => ?_, fun i j hi hj hij => ?_⟩
  · rw [List.length_drop] at hi
    rw [List.getElem_drop, errAt_drop]
    exact h.cells (k + i) (by omega)
  · rw [List.length_drop] at hi hj
    rw [List.getElem_drop, List.getElem_drop]
    exact h.apart (k + i) (k + j) (by omega) (by omega) (by omega)

theorem chainTxt_drop_le (l : List (List UInt8 × Int)) (k : Nat) : (chainTxt (l.drop k)).length ≤ (chainTxt l).length := by
  conv => rhs; rw [← List.take_append_drop k l]
  unfold chainTxt
  rw [List.flatMap_append, List.length_append]
  omega

theorem chainTxt_small : ∀ (l : List (List UInt8 × Int)), (∀ d ∈ l, d.1.length ≤ 50 ∧ -9223372036854775808 ≤ d.2 ∧ d.2 ≤ 9223372036854775807) → (chainTxt l).length ≤ l.length * 100 := by
  intro l
  induction l with
  | nil => intro _; simp [chainTxt]
  | cons d r ih =>
    intro h
    have h1 := ih (fun x hx => h x (by simp [hx]))
    obtain ⟨h2, h3, h4⟩ := h d (by simp)
    have h5 := itoa_len d.2 h3 h4
    unfold chainTxt at h1 ⊢
    rw [List.flatMap_cons, List.length_append, List.length_cons]
    have h6 : (linkTxt d).length = d.1.length + 1 + (Lib.itoa d.2).length + 2 := by simp [linkTxt]; omega
    omega

/-- what region 8 of FaultTexts reads -/
def Rd9 (b off y : Nat) (op : List UInt8) (pos : Int) (w : World) : Prop :=
  (w.cell? ⟨b, off, none⟩ = some (.string (bstr op)) ∧ w.cell? ⟨b, off + 1, none⟩ = some (.int .i64 pos)) ∧ w.cell? ⟨y, 0, none⟩ = some (.string (bstr op)) ∧ w.cell? ⟨y, 1, none⟩ = some (.int .i64 pos)

theorem Rd9.new {b off y : Nat} {op : List UInt8} {pos : Int} {w w' : World} (h : Rd9 b off y op pos w) (hn : New w w') : Rd9 b off y op pos w' := by
  obtain ⟨⟨h1, h2⟩, h3, h4⟩ := h
  exact ⟨⟨by rw [hn.cell (p := ⟨b, off, none⟩) (World.block_lt_of_cell? w _ h1)]; exact h1, by rw [hn.cell (p := ⟨b, off + 1, none⟩) (World.block_lt_of_cell? w _ h2)]; exact h2⟩, by rw [hn.cell (p := ⟨y, 0, none⟩) (World.block_lt_of_cell? w _ h3)]; exact h3, by rw [hn.cell (p := ⟨y, 1, none⟩) (World.block_lt_of_cell? w _ h4)]; exact h4⟩

theorem slice_link (b off m c k : Nat) (hk : k < m) (hm : m ≤ c) (wx : World) : (Instr.slice 22 (.slice (some ⟨b, off, none⟩) m c) (some (.int .i64 (k : Int))) none none).run Tryd.prog wx = .ok (.slice (some ⟨b, off + k * 2, none⟩) (m - k) (c - k)) wx := by
  have hs : (sizeOf (Tryd.prog.elem 22)).run Tryd.prog wx = .ok 2 wx := by kernel_rfl
  rw [run_slice_l wx 22 (some ⟨b, off, none⟩) m c (by kernel_rfl) .i64 (k : Int) (by omega) (by omega), hs]
  simp only [Result.andThen_ok, sliced, Int.toNat_natCast, Option.map_some]
  rw [if_neg (by omega), Addr.add_lit]



set_option maxRecDepth 100000 in
set_option maxHeartbeats 4000000 in
theorem textsWalk (w : World) (v : Value) (l : List (List UInt8 × Int)) (n : Int) (hv : RdLk w v l) (h0 : -9223372036854775808 ≤ n) (h1 : n ≤ 9223372036854775807) (hL : Laid9 w) :
    Calls Tryd.prog 5 #[v, .int .i64 n] w fun e w' => e = .returned (.bool true) ∧ New w w' := by
  obtain ⟨a, m, c, rfl⟩ : ∃ a n c, v = .slice a n c := by obtain ⟨_, ⟨a, n, c, e, _⟩, _⟩ := hv; exact ⟨a, n, c, e⟩
  obtain ⟨hm, hmc, -⟩ := hv.len
  subst hm
  have HV := Lib.hid hv
  have HL := Lib.hid hL
  clear hv hL
  by_cases hs : small9B l = true
  · obtain ⟨hlen, hops⟩ := small9_len hs
    by_cases hl0 : l = []
    · have e0 : (l.length : Int) = 0 := by rw [hl0]; rfl
      have e1 : ((l.length : Int) == 0) = true := by rw [beq_iff_eq]; exact e0
      clear e0 hl0
      go_enter Tryd.func5, Tryd.ntmps5
      go_wp2_with fail
      refine (awake09 w HL.out).mono ?_
      rintro e w1 ⟨rfl, N1⟩
      go_wp2_with fail
      refine (small09 w1 _ l (HV.out.new N1)).mono ?_
      rintro e w1' ⟨rfl, rfl⟩
      rw [hs]
      go_wp2_with fail
      refine (awake09 w1 (HL.out.new N1)).mono ?_
      rintro e w2 ⟨rfl, N2⟩
      have HN := Lib.hid (New.trans N1 N2)
      clear N1 N2
      go_wp2
      go_ret
      exact ⟨rfl, HN.out⟩
    · have hpos := List.length_pos_iff.2 hl0
      have e1 : ((l.length : Int) == 0) = false := by rw [beq_eq_false_iff_ne]; omega
      by_cases hn0 : n = 0
      · subst hn0
        go_enter Tryd.func5, Tryd.ntmps5
        go_wp2_with fail
        refine (awake09 w HL.out).mono ?_
        rintro e w1 ⟨rfl, N1⟩
        go_wp2_with fail
        refine (small09 w1 _ l (HV.out.new N1)).mono ?_
        rintro e w1' ⟨rfl, rfl⟩
        rw [hs]
        go_wp2_with fail
        refine (awake09 w1 (HL.out.new N1)).mono ?_
        rintro e w2 ⟨rfl, N2⟩
        have HN := Lib.hid (New.trans N1 N2)
        clear N1 N2
        go_wp2
        go_ret
        exact ⟨rfl, HN.out⟩
      · have e2 : (n == 0) = false := beq_eq_false_iff_ne.2 hn0
        obtain ⟨b, off, rfl, hsl⟩ := HV.out.sl hpos
        have HSL := Lib.hid hsl
        have HTS : Hid ((chainTxt l).length ≤ 100000) := by
          have h2 := chainTxt_small l (fun d hd => by
            obtain ⟨j, hj, rfl⟩ := List.getElem_of_mem hd
            exact ⟨hops _ hd, hsl.rng j hj⟩)
          exact Lib.hid (by omega)
        clear hsl
        go_enter Tryd.func5, Tryd.ntmps5
        go_wp2_with fail
        refine (awake09 w HL.out).mono ?_
        rintro e w1 ⟨rfl, N1⟩
        go_wp2_with fail
        refine (small09 w1 _ l (HV.out.new N1)).mono ?_
        rintro e w1' ⟨rfl, rfl⟩
        rw [hs]
        go_wp2_with fail
        refine (madeAt w1 _ l n (HV.out.new N1) (by omega)).mono ?_
        rintro e w2 ⟨x0, rfl, N2, -, hch⟩
        obtain ⟨L, hkp, hC, rfl⟩ := hch hl0 hn0
        have HN2 := Lib.hid (New.trans N1 N2)
        have HC := Lib.hid hC
        have HKP := Lib.hid hkp
        have hl2 : L.length = l.length := by have := congrArg List.length hkp; simpa using this
        have HL2 := Lib.hid hl2
        have HPR : Hid (∀ i (h : i < L.length) (h' : i < l.length), (L[i]).op = (l[i]).1 ∧ (L[i]).pos = (l[i]).2) := by
          refine Lib.hid (fun i h h' => ?_)
          have h3 : (L.map Lk.kp)[i]? = l[i]? := by rw [hkp]
          rw [List.getElem?_map, List.getElem?_eq_getElem h, List.getElem?_eq_getElem h'] at h3
          simp only [Option.map_some, Option.some.injEq] at h3
          rw [← h3]
          exact ⟨rfl, rfl⟩
        clear N1 N2 hch hkp hC hl2
        generalize hv0 : errAt L (.num n) 0 = v0
        have HV0 := Lib.hid hv0
        clear hv0
        go_wp2_with fail
        go_loopw [5, 6] (fun v i wr => ∃ k : Nat, k ≤ l.length ∧ i = .int .i64 k ∧ v = errAt L (.num n) k ∧ New w2 wr) (fun _ i _ => l.length - (intOf i).toNat)
        case atStart => exact ⟨0, Nat.zero_le _, rfl, HV0.out.symm, newRefl _⟩
        case round =>
          clear HV0
          obtain ⟨k, hk, rfl, rfl, N3⟩ := hrel
          have HN3 := Lib.hid N3
          clear N3
          by_cases hlt : k < l.length
          · have hltL : k < L.length := by rw [HL2.out]; exact hlt
            have HX := Lib.hid (errAt_lt (c := .num n) hltL)
            have HRD : Hid (Rd9 b (off + k * 2) (L[k]).b (l[k]).1 (l[k]).2 wr) := by
              obtain ⟨c0, c1, c2⟩ := (HC.out.new HN3.out).cell hltL
              obtain ⟨p1, p2⟩ := HPR.out k hltL hlt
              rw [p1] at c0
              rw [p2] at c1
              exact Lib.hid ⟨(HSL.out.new (New.trans HN2.out HN3.out)).cells k hlt, c0, c1⟩
            have HER : Hid (∀ wx, New w2 wx → Calls Tryd.prog 18 #[.pointer (some ⟨(L[k]).b, 0, none⟩)] wx fun e w' => e = .returned (.string (bstr (chainTxt (l.drop k) ++ numTxt n))) ∧ New wx w') := by
              refine Lib.hid (fun wx hn => ?_)
              have hmap : (L.drop k).map Lk.kp = l.drop k := by rw [List.map_drop, HKP.out]
              have h := errorAt wx (L.drop k) (.num n) (some ⟨(L[k]).b, 0, none⟩) (by rw [errAt_drop]; exact HX.out) ((HC.out.new hn).drop k) (HL.out.new (New.trans HN2.out hn)).1 (HL.out.new (New.trans HN2.out hn)).2 (by rw [List.length_drop, HL2.out]; omega)
                (fun i hi => by
                  rw [List.length_drop] at hi
                  rw [List.getElem_drop]
                  have hll := HL2.out
                  rw [(HPR.out (k + i) (by omega) (by omega)).2]
                  exact HSL.out.rng (k + i) (by omega)) ⟨h0, h1⟩ (by rw [hmap]; exact Nat.le_trans (chainTxt_drop_le l k) (Nat.le_trans HTS.out (by decide)))
              rw [hmap] at h
              exact h
            have HTX : Hid (∀ wx, New w2 wx → Calls Tryd.prog 19 #[.slice (some ⟨b, off + k * 2, none⟩) (l.length - k) (c - k), .int .i64 n] wx fun e w' => e = .returned (.string (bstr (chainTxt (l.drop k) ++ numTxt n))) ∧ New wx w') := by
              refine Lib.hid (fun wx hn => ?_)
              have h := refText9 wx b (off + k * 2) (c - k) (l.drop k) n ((HSL.out.new (New.trans HN2.out hn)).drop k) (by rw [List.length_drop]; omega) (by rw [List.length_drop]; omega) h0 h1 (Nat.le_trans (chainTxt_drop_le l k) (Nat.le_trans HTS.out (by decide)))
              rw [List.length_drop] at h
              exact h
            have HUW : Hid (∀ wx, New w2 wx → Calls Tryd.prog 20 #[.pointer (some ⟨(L[k]).b, 0, none⟩)] wx fun e w' => e = .returned (errAt L (.num n) (k + 1)) ∧ wx = w') := Lib.hid (fun wx hn => unwrapAt wx _ _ ((HC.out.new hn).cell hltL).2.2)
            have hsl := slice_link b off l.length c k hlt hmc
            generalize hT : bstr (chainTxt (l.drop k) ++ numTxt n) = T at *
            generalize hnx : errAt L (.num n) (k + 1) = nx at *
            have HNX := Lib.hid hnx
            rw [HX.out]
            generalize hy : (L[k]).b = y at *
            generalize hd : l[k] = d at *
            obtain ⟨op, pos⟩ := d
            clear hT hnx hy hd HX
            go_wp2_with fail
            generalize hw3 : World.alloc wr _ = w3
            have HA : Hid (At1 w3.drew wr.heap.size 42 (.pointer none)) := Lib.hid (by rw [← hw3]; exact heap_alloc_new _ _)
            have N34 : New wr w3.drew := by rw [← hw3]; exact (newAlloc (newRefl _) _).drew
            have HRD3 : Hid (Rd9 b (off + k * 2) y op pos w3.drew) := Lib.hid (HRD.out.new N34)
            clear hw3
            refine region_ord (Rd9 b (off + k * 2) y op pos) [(0, true), (1, true), (2, false), (3, true), (4, true), (5, false), (6, true), (7, true), (8, true), (13, true), (14, true), (15, true), (16, true), (17, true), (9, false), (10, true), (11, true), (12, true), (18, true), (19, true), (20, true), (25, true), (26, true), (27, true), (28, true), (29, true), (21, false), (22, true), (23, true), (24, true), (30, true), (31, true), (32, true), (35, true), (36, true), (37, true), (38, true), (33, false), (34, false), (39, false), (40, true), (41, true)] (by kernel_rfl) (by kernel_rfl) HRD3.out (fun _ => ?_)
            generalize w3.drew = w4 at *
            unfold Rd9
            iterate 2 (apply ord_take; (simp only [List.getElem?_toArray, List.getElem?_cons_succ, List.getElem?_cons_zero]; rfl); rfl; (intro w hSw; (try dsimp only at hSw); go_simp; try with_reducible rfl); intro _; try simp only [Act.put, List.setIfInBounds_toArray, List.set_cons_zero, List.set_cons_succ])
            (apply ord_only; (simp only [List.getElem?_toArray, List.getElem?_cons_succ, List.getElem?_cons_zero]; rfl); rfl; intro K hK)
            go_simp
            refine (asHitF _ _ _ w4 (HL.out.new (New.trans HN2.out (New.trans HN3.out N34))).1 HA.out).mono ?_
            rintro e w5 ⟨rfl, h5, ho⟩
            have N5 := new_only N34 ho
            have HRD5 := Lib.hid (HRD.out.new N5)
            have HN5 := Lib.hid (New.trans HN3.out N5)
            have hc5 := h5.cell
            have HA5 := Lib.hid h5
            clear h5 ho N34 HA HRD3
            refine hK.out _ _ (HRD5.out) (fun _ => ?_)
            clear hK K
            try simp only [Act.put, List.setIfInBounds_toArray, List.set_cons_zero, List.set_cons_succ]
            iterate 2 (apply ord_take; (simp only [List.getElem?_toArray, List.getElem?_cons_succ, List.getElem?_cons_zero]; rfl); rfl; (intro w hSw; (try dsimp only at hSw); go_simp; try with_reducible rfl); intro _; try simp only [Act.put, List.setIfInBounds_toArray, List.set_cons_zero, List.set_cons_succ])
            (apply ord_only; (simp only [List.getElem?_toArray, List.getElem?_cons_succ, List.getElem?_cons_zero]; rfl); rfl; intro K hK)
            go_simp
            refine hK.out _ _ (HRD5.out) (fun _ => ?_)
            clear hK K
            try simp only [Act.put, List.setIfInBounds_toArray, List.set_cons_zero, List.set_cons_succ]
            iterate 8 (apply ord_take; (simp only [List.getElem?_toArray, List.getElem?_cons_succ, List.getElem?_cons_zero]; rfl); rfl; (intro w hSw; (try dsimp only at hSw); go_simp; try with_reducible rfl); intro _; try simp only [Act.put, List.setIfInBounds_toArray, List.set_cons_zero, List.set_cons_succ])
            (apply ord_only; (simp only [List.getElem?_toArray, List.getElem?_cons_succ, List.getElem?_cons_zero]; rfl); rfl; intro K hK)
            go_simp
            refine hK.out _ _ (HRD5.out) (fun _ => ?_)
            clear hK K
            try simp only [Act.put, List.setIfInBounds_toArray, List.set_cons_zero, List.set_cons_succ]
            iterate 11 (apply ord_take; (simp only [List.getElem?_toArray, List.getElem?_cons_succ, List.getElem?_cons_zero]; rfl); rfl; (intro w hSw; (try dsimp only at hSw); go_simp; try with_reducible rfl); intro _; try simp only [Act.put, List.setIfInBounds_toArray, List.set_cons_zero, List.set_cons_succ])
            (apply ord_only; (simp only [List.getElem?_toArray, List.getElem?_cons_succ, List.getElem?_cons_zero]; rfl); rfl; intro K hK)
            go_simp
            refine hK.out _ _ (HRD5.out) (fun _ => ?_)
            clear hK K
            try simp only [Act.put, List.setIfInBounds_toArray, List.set_cons_zero, List.set_cons_succ]
            iterate 10 (apply ord_take; (simp only [List.getElem?_toArray, List.getElem?_cons_succ, List.getElem?_cons_zero]; rfl); rfl; (intro w hSw; (try dsimp only at hSw); go_simp; try with_reducible rfl); intro _; try simp only [Act.put, List.setIfInBounds_toArray, List.set_cons_zero, List.set_cons_succ])
            (apply ord_only; (simp only [List.getElem?_toArray, List.getElem?_cons_succ, List.getElem?_cons_zero]; rfl); rfl; intro K hK)
            go_simp
            refine hK.out _ _ (HRD5.out) (fun _ => ?_)
            clear hK K
            try simp only [Act.put, List.setIfInBounds_toArray, List.set_cons_zero, List.set_cons_succ]
            (apply ord_only; (simp only [List.getElem?_toArray, List.getElem?_cons_succ, List.getElem?_cons_zero]; rfl); rfl; intro K hK)
            go_simp
            refine (HER.out w5 HN5.out).mono ?_
            rintro e w6 ⟨rfl, N6⟩
            have HRD6 := Lib.hid (HRD5.out.new N6)
            have HN6 := Lib.hid (New.trans HN5.out N6)
            have HA6 := Lib.hid (HA5.out.new N6)
            clear N6 HRD5 HN5 HA5 hc5
            refine hK.out _ _ (HRD6.out) (fun _ => ?_)
            clear hK K
            try simp only [Act.put, List.setIfInBounds_toArray, List.set_cons_zero, List.set_cons_succ]
            (apply ord_only; (simp only [List.getElem?_toArray, List.getElem?_cons_succ, List.getElem?_cons_zero]; rfl); rfl; intro K hK)
            go_simp
            refine (HTX.out w6 HN6.out).mono ?_
            rintro e w7 ⟨rfl, N7⟩
            have HRD7 := Lib.hid (HRD6.out.new N7)
            have HN7 := Lib.hid (New.trans HN6.out N7)
            have HA7 := Lib.hid (HA6.out.new N7)
            clear N7 HRD6 HN6 HA6
            refine hK.out _ _ (HRD7.out) (fun _ => ?_)
            clear hK K
            try simp only [Act.put, List.setIfInBounds_toArray, List.set_cons_zero, List.set_cons_succ]
            iterate 2 (apply ord_take; (simp only [List.getElem?_toArray, List.getElem?_cons_succ, List.getElem?_cons_zero]; rfl); rfl; (intro w hSw; (try dsimp only at hSw); go_simp; try with_reducible rfl); intro _; try simp only [Act.put, List.setIfInBounds_toArray, List.set_cons_zero, List.set_cons_succ])
            apply ord_done
            have hc7 := HA7.out.cell
            go_wp2_with fail
            refine (HUW.out w7 HN7.out).mono ?_
            rintro e w7' ⟨rfl, rfl⟩
            go_wp2
            go_roundw
            case rel => exact ⟨k + 1, by omega, by go_num, HNX.out.symm, HN7.out⟩
            case measure => simp [intOf] <;> omega
          · have hkL : k = l.length := by omega
            have HX := Lib.hid (errAt_ge (L := L) (c := .num n) (i := k) (by rw [HL2.out]; omega))
            rw [HX.out, show Cor.val (.num n) = .iface 28 (.int .i64 n) from rfl]
            go_wp2_with fail
            generalize hw3 : World.alloc wr _ = w3
            have HA : Hid (At1 w3 wr.heap.size 28 (.int .i64 0)) := Lib.hid (by rw [← hw3]; exact heap_alloc_new _ _)
            have N3 : New wr w3 := by rw [← hw3]; exact newAlloc (newRefl _) _
            clear hw3
            refine (asHitN n _ _ w3 (HL.out.new (New.trans HN2.out (New.trans HN3.out N3))).1 HA.out).mono ?_
            rintro e w5 ⟨rfl, h5, ho⟩
            have HN5 := Lib.hid (New.trans HN2.out (New.trans HN3.out (new_only N3 ho)))
            have hc5 := h5.cell
            clear h5 ho N3 HA
            go_wp2
            go_ret
            exact ⟨rfl, HN5.out⟩
  · have hs2 : small9B l = false := by simpa using hs
    go_enter Tryd.func5, Tryd.ntmps5
    go_wp2_with fail
    refine (awake09 w HL.out).mono ?_
    rintro e w1 ⟨rfl, N1⟩
    go_wp2_with fail
    refine (small09 w1 _ l (HV.out.new N1)).mono ?_
    rintro e w1' ⟨rfl, rfl⟩
    rw [hs2]
    go_wp2_with fail
    refine (awake09 w1 (HL.out.new N1)).mono ?_
    rintro e w2 ⟨rfl, N2⟩
    have HN := Lib.hid (New.trans N1 N2)
    clear N1 N2
    go_wp2
    go_ret
    exact ⟨rfl, HN.out⟩

end Go.Proofs.YtnjijmphmgihiaaDoor
