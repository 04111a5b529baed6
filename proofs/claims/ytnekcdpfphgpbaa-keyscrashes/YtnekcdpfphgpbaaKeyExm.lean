/-
  keys: sector, examine.
-/
import Derived.Test.YtnekcdpfphgpbaaKeyPut2
import Derived.Test.YtnekcdpfphgpbaaDskRow
import Derived.Test.YtnekcdpfphgpbaaSetRow
namespace Go.Proofs.Ytnekcdpfphgpbaa
set_option linter.unusedVariables false
set_option linter.unusedSimpArgs false
set_option maxRecDepth 100000
open Go.RowKit

/-- clear of a whole row -/
theorem run_clear_all {w : World} {k : Nat} {l : List UInt8} (hr : RowB w k l) (hl : 0 < l.length) (c : Nat) :
    ∃ w', (∀ ty, (Builtin.clear_ #[37] ty #[.slice (some ⟨k, 0, none⟩) l.length c]).run Try.prog w = .ok (.tuple #[]) w') ∧ RowB w' k (List.replicate l.length 0) ∧ Only (fun i => i = k) w w' := by
  obtain ⟨cs, hg⟩ := hr
  obtain ⟨⟨ys, h2, h3, h4⟩, h5⟩ := setCells_row k 5 (List.replicate l.length (bv 0)) 0 w _ hg (by rw [List.length_replicate, List.length_append, List.length_map]; omega)
  refine ⟨_, fun ty => ?_, ⟨cs, ?_⟩, h5⟩
  · have := Lib.run_clear_slice w 37 5 ty (bv 0) Try.underlying37 (fun w => by kernel_rfl) rfl rfl k 0 l.length c (by omega) (fun j hj => ?_) (fun j hj => frozen_of_row w k _ _ _ hg)
    · exact this
    · rw [cell_of_row _ _ _ _ _ _ hg, List.getElem?_toArray, List.getElem?_append_left (by rw [List.length_map]; omega), List.getElem?_map, List.getElem?_eq_getElem (by omega)]
      rfl
  · rw [h2]
    congr 3
    apply List.ext_getElem?
    intro j
    rw [h4, List.length_replicate]
    by_cases hj : j < l.length
    · rw [if_pos (by omega), List.getElem?_replicate, if_pos (by omega), List.getElem?_append_left (by rw [List.length_map, List.length_replicate]; omega), List.getElem?_map, List.getElem?_replicate, if_pos hj]
      rfl
    · rw [if_neg (by omega), List.getElem?_append_right (by rw [List.length_map]; omega), List.getElem?_append_right (by rw [List.length_map, List.length_replicate]; omega), List.length_map, List.length_map, List.length_replicate]

theorem keySector (w : World) (gk m c t : Nat) (ht : t < m) (hm : m ≤ 128) (hc : 128 * m ≤ c) (hcm : c ≤ maxLen) :
    Calls Try.prog 41 #[.slice (some ⟨gk, 0, none⟩) (128 * m) c, .int .i64 (t : Int)] w fun e w' => e = .returned (.slice (some ⟨gk, 128 * t, none⟩) 128 (c - 128 * t)) ∧ w = w' := by
  unfold maxLen at hcm
  have h1 : (t : Int) * 128 = ((128 * t : Nat) : Int) := by omega
  have h2 : ((t : Int) + 1) * 128 = ((128 * t + 128 : Nat) : Int) := by omega
  have HSl : Hid (∀ wx : World, (Instr.slice 37 (.slice (some ⟨gk, 0, none⟩) (128 * m) c) (some (.int .i64 ((128 * t : Nat) : Int))) (some (.int .i64 ((128 * t + 128 : Nat) : Int))) none).run Try.prog wx = .ok (.slice (some ⟨gk, 128 * t, none⟩) 128 (c - 128 * t)) wx) := by
    refine Lib.hid (fun wx => ?_)
    rw [run_slice_lh wx 37 _ (128 * m) c Try.underlying37 .i64 .i64 _ _ (by omega) (by omega) (by omega)]
    have hz : (sizeOf (Try.prog.elem 37)).run Try.prog wx = .ok 1 wx := by kernel_rfl
    rw [hz]
    simp only [Result.andThen_ok, sliced, Nat.mul_one, Int.toNat_natCast, Option.map_some, Addr.add_mid, Nat.zero_add]
    rw [if_neg (by omega), show 128 * t + 128 - 128 * t = 128 by omega]
  have hq : 128 * t + 128 ≤ 20000 := by omega
  generalize (128 * t + 128 : Nat) = q at *
  generalize (128 * t : Nat) = r at *
  generalize (128 * m : Nat) = M at *
  have hs := HSl.out
  clear ht hm hc hcm HSl
  go_enter Try.func41, Try.ntmps41
  go_wp2
  go_ret
  exact ⟨rfl, rfl⟩

/-- what a slot holds behind Open: by its first copy, in the table L -/
def exW (L : List KSlot) (f : List UInt8) : KSlot := kGot L f

structure ExTo (w : World) (n g : Nat) (F G : Nat → Prop) (p sl frm : Nat) (L : List KSlot) (D : List UInt8) (i : Nat) (s' : KSlot) (e : Ending) (w' : World) : Prop where
  ret : e = .returned (.int .i64 0)
  tab : KTab w' F p sl g frm (L.set i s') false
  only : Only (fun k => G k ∨ k = sl) w w'
  dev : ∃ D', Dvc (-1) w' n g (fun k => G k ∨ w.heap.size ≤ k) D' D' [] ∧ ∀ t, sec D' t = if t = frm + 2 * i ∨ t = frm + 2 * i + 1 then slotB s' else sec D t

theorem kGot_ok (L : List KSlot) (f : List UInt8) : (kGot L f).ok := by
  intro p hp
  unfold kGot at hp
  cases hd : keyDec f with
  | none => rw [hd] at hp; cases hp
  | some q =>
    rw [hd] at hp
    have hp' : (if kFind L q.1 = none then some q else none) = some p := hp
    split at hp'
    · cases hp'; exact ⟨(keyDec_some hd).1, (keyDec_some hd).2.1⟩
    · cases hp'

/-- what the tail of examine starts from -/
structure ExMid (w : World) (n g : Nat) (F G : Nat → Prop) (p sl frm : Nat) (L : List KSlot) (D : List UInt8) (i : Nat) (s' : KSlot) (gk o1 o2 c1 c2 gw cw : Nat) (f s2 : List UInt8) (wr : World) : Prop where
  tab : KTab wr F p sl g frm (L.set i s') false
  dev : Dvc (-1) wr n g G D D []
  only : Only (fun k => G k ∨ k = sl) w wr
  first : Rd wr (.slice (some ⟨gk, o1, none⟩) 128 c1) f
  second : Rd wr (.slice (some ⟨gk, o2, none⟩) 128 c2) s2
  want : Rd wr (.slice (some ⟨gw, 0, none⟩) 128 cw) (slotB s')
  gwN : w.heap.size ≤ gw

section
variable {w : World} {n g : Nat} {F G : Nat → Prop} {p sl frm : Nat} {L : List KSlot} {D : List UInt8} {i : Nat} {s' : KSlot} {gk o1 o2 c1 c2 gw cw : Nat} {f s2 : List UInt8} {wr w' : World}

theorem ExMid.same (h : ExMid w n g F G p sl frm L D i s' gk o1 o2 c1 c2 gw cw f s2 wr) (h1 : sec D (frm + 2 * i) = slotB s') (h2 : sec D (frm + 2 * i + 1) = slotB s') : ExTo w n g F G p sl frm L D i s' (.returned (.int .i64 0)) wr :=
  ⟨rfl, h.tab, h.only, D, h.dev.narrow (fun k _ hk => .inl hk), fun t => by
    split
    · rename_i h3; rcases h3 with rfl | rfl
      · exact h1
      · exact h2
    · rfl⟩

theorem ExMid.stored (h : ExMid w n g F G p sl frm L D i s' gk o1 o2 c1 c2 gw cw f s2 wr) (hs : s'.ok) (hi : frm + 2 * i + 2 ≤ n) (m : Nat) (hm : m = 0 ∨ (m = 1 ∧ sec D (frm + 2 * i) = slotB s')) {e : Ending} (hst : StTo16 (-1) wr n g F G p sl frm (L.set i s') D (frm + 2 * i) (slotB s') m e w') : ExTo w n g F G p sl frm L D i s' e w' := by
  rcases hst with ⟨rfl, ht, q', hq, hd⟩ | ⟨hq, -⟩
  · rw [hq rfl] at hd
    have hl := h.dev.lens.1
    have hb := slotB_length hs
    refine ⟨rfl, ht, h.only.trans hd.2 (fun k _ hk => .inl hk), _, hd.1.narrow (fun k _ hk => hk.elim .inl (fun h' => .inr (Nat.le_trans h.only.size h'))), fun t => ?_⟩
    rcases hm with rfl | ⟨rfl, h1⟩
    · rw [kDone_two0, sec_lay hb (by rw [lay_length (by rw [hb]; omega)]; omega), sec_lay hb (by omega)]
      by_cases h2 : t = frm + 2 * i + 1
      · rw [if_pos h2, if_pos (.inr h2)]
      · rw [if_neg h2]
        by_cases h3 : t = frm + 2 * i
        · rw [if_pos h3, if_pos (.inl h3)]
        · rw [if_neg h3, if_neg (fun h => h.elim h3 h2)]
    · rw [kDone_two1, sec_lay hb (by omega)]
      by_cases h2 : t = frm + 2 * i + 1
      · rw [if_pos h2, if_pos (.inr h2)]
      · rw [if_neg h2]
        by_cases h3 : t = frm + 2 * i
        · rw [if_pos (.inl h3), h3, h1]
        · rw [if_neg (fun h => h.elim h3 h2)]
  · exact absurd rfl hq
end



set_option maxHeartbeats 4000000 in
theorem keyExamine {w : World} {n g : Nat} {F G : Nat → Prop} {p sl frm : Nat} {L : List KSlot} {D : List UInt8} (ht : KTab w F p sl g frm L false) (hd : Dvc (-1) w n g G D D []) (hF : ∀ k, F k → k < w.heap.size) (hG : ∀ k, G k → k < w.heap.size) (hFG : ∀ k, F k → ¬ G k)
    (i : Nat) (hLi : L[i]? = some none) (hi : frm + 2 * i + 2 ≤ n) (gk o1 o2 c1 c2 : Nat) (f s2 : List UInt8) (hf : Rd w (.slice (some ⟨gk, o1, none⟩) 128 c1) f) (hs2 : Rd w (.slice (some ⟨gk, o2, none⟩) 128 c2) s2) (hgk : gk < w.heap.size) (hgs : gk ≠ sl) (h1 : sec D (frm + 2 * i) = f) (h2 : sec D (frm + 2 * i + 1) = s2) :
    Calls Try.prog 42 #[.pointer (some ⟨p, 0, none⟩), .int .i64 (i : Int), .slice (some ⟨gk, o1, none⟩) 128 c1, .slice (some ⟨gk, o2, none⟩) 128 c2] w (ExTo w n g F G p sl frm L D i (kGot L f)) := by
  have HT := Lib.hid ht
  have HD := Lib.hid hd
  have HFG : Hid ((∀ k, F k → k < w.heap.size ∧ k < w.heap.size) ∧ (∀ k, G k → k < w.heap.size ∧ k < w.heap.size) ∧ (∀ k, F k → ¬ G k)) := Lib.hid ⟨fun k hk => ⟨hF k hk, hF k hk⟩, fun k hk => ⟨hG k hk, hG k hk⟩, hFG⟩
  have HIL : Hid (L[i]? = some none ∧ frm + 2 * i + 2 ≤ n) := Lib.hid ⟨hLi, hi⟩
  have HF : Hid (f.length = 128 ∧ s2.length = 128 ∧ gk < w.heap.size) := Lib.hid ⟨hf.len, hs2.len, hgk⟩
  have HGK : Hid (gk ≠ sl) := Lib.hid hgs
  have HFi := Lib.hid hf
  have HSe := Lib.hid hs2
  have HSEC : Hid (sec D (frm + 2 * i) = f ∧ sec D (frm + 2 * i + 1) = s2) := Lib.hid ⟨h1, h2⟩
  obtain ⟨s', HS'⟩ : ∃ s', Hid (kGot L f = s') := ⟨_, Lib.hid rfl⟩
  rw [HS'.out]
  have HSO : Hid (s'.ok) := Lib.hid (by rw [← HS'.out]; exact kGot_ok L f)
  have HC := Lib.hid (bytesClone w _ f hf (by intro e; have := hf.len; rw [e] at this; cases this) (by rw [hf.len]; decide))
  clear ht hd hF hG hFG hLi hi hf hs2 hgk hgs h1 h2
  go_enter Try.func42, Try.ntmps42
  go_wp2_with fail
  refine HC.out.mono ?_
  rintro _ w1 ⟨gw, cw, rfl, hrow, hcw1, hcw2, hgw, N1⟩
  have hf128 := HF.out.1
  rw [hf128] at hcw1 ⊢
  have HGW : Hid (w.heap.size ≤ gw ∧ 128 ≤ cw ∧ cw ≤ maxLen) := Lib.hid ⟨hgw, hcw1, hcw2⟩
  have HW1 := Lib.hid hrow
  have N1 := Lib.hid N1
  have HP := Lib.hid (keyParsed w1 _ f (HFi.out.new N1.out) HF.out.1)
  clear hf128 hrow hcw1 hcw2 hgw HC
  go_wp2_with fail
  refine HP.out.mono ?_
  rintro _ w2 ⟨rfl, N2⟩
  have HW2 : Hid (RowB w2 gw f) := Lib.hid (HW1.out.same (N2.block gw HW1.out.lt))
  have N2 := Lib.hid (New.trans N1.out N2)
  obtain ⟨O, HO⟩ : ∃ O, Hid (keyDec f = O) := ⟨_, Lib.hid rfl⟩
  rw [HO.out]
  have hOok : KSlot.ok O := by
    intro q hq
    have := keyDec_some (by rw [HO.out]; exact hq)
    exact ⟨this.1, this.2.1⟩
  have HOOK := Lib.hid hOok
  have hz := zSlot_run
  clear HP N1 HW1 hOok
  go_upto_region 3 with (refine wpList_store_row rfl 71 _ _ rfl w2.heap.size (sCells O).toArray rfl rfl _ _ (heap_alloc_new _ _) (sizeSl HOOK.out) (by rw [List.size_toArray, List.size_toArray, sCells_length HOOK.out]; rfl) (all_oneCell_toArray (sCells_one _)) ?_)
  generalize hw3 : World.setRow _ _ _ = w3
  have N3 : New w2 w3 := by rw [← hw3]; exact below_setRow ((Below.refl _ _).alloc (Nat.le_refl _) _) (Nat.le_refl _) _
  have HS3 : Hid (AtN w3 w2.heap.size 71 (sCells O)) := Lib.hid (by rw [← hw3]; exact setRow_heap _ _ _ _ _ _ (heap_alloc_new _ _))
  have HW3 : Hid (RowB w3 gw f) := Lib.hid (HW2.out.same (N3.block gw HW2.out.lt))
  have HGS : Hid (w.heap.size ≤ w2.heap.size ∧ gw ≠ w2.heap.size) := Lib.hid ⟨N2.out.size, Nat.ne_of_lt HW2.out.lt⟩
  have N3 := Lib.hid (New.trans N2.out N3)
  clear hw3 hz HW2 N2
  obtain ⟨gs, hgs⟩ : ∃ gs, w2.heap.size = gs := ⟨_, rfl⟩
  rw [hgs] at HS3 HGS
  rw [hgs]
  clear hgs
  cases hO : O with
  | none =>
    subst hO
    have HSN : Hid (s' = none) := Lib.hid (by rw [← HS'.out]; unfold kGot; rw [HO.out])
    have HW4 := HW3
    have N4 := N3
    have hcl := run_clear_all HW4.out (by rw [HF.out.1]; decide) cw
    rw [HF.out.1] at hcl
    obtain ⟨w5, hcl, hrow5, O5⟩ := hcl
    have hm0 : ExMid w n g F G p sl frm L D i s' gk o1 o2 c1 c2 gw cw f s2 w5 := by
      have hg : ¬ F gw ∧ ¬ G gw := ⟨fun h => by have := (HFG.out.1 _ h).2; have := HGW.out.1; omega, fun h => by have := (HFG.out.2.1 _ h).2; have := HGW.out.1; omega⟩
      have hgk : gk ≠ gw := by have := HGW.out.1; have := HF.out.2.2; omega
      have ht5 : KTab w5 F p sl g frm L false := (HT.out.new N4.out).only O5 (fun k hk e => by subst e; exact hg.1 hk)
      refine ⟨?_, (HD.out.new N4.out).only O5 (fun k hk e => by subst e; exact hg.2 hk), (New.only (F := fun k => G k ∨ k = sl) (Below.trans N4.out (O5.below N4.out.size (fun k hk => by subst hk; exact HGW.out.1)))), (HFi.out.new N4.out).only O5 (fun k hk _ e => by cases hk; exact hgk e), (HSe.out.new N4.out).only O5 (fun k hk _ e => by cases hk; exact hgk e), ?_, HGW.out.1⟩
      · rw [HSN.out]
        have hset : L.set i none = L := by
          apply List.ext_getElem?
          intro j
          rw [List.getElem?_set]
          split
          · rename_i h; subst h; rw [HIL.out.1]; split
            · rfl
            · rename_i h2; exact absurd (List.getElem?_eq_some_iff.1 HIL.out.1).1 h2
          · rfl
        rw [hset]; exact ht5
      · rw [HSN.out]
        have h6 := hrow5.rd (c := cw) (by rw [List.length_replicate]; exact HGW.out.2.1) HGW.out.2.2
        rw [List.length_replicate] at h6
        exact h6
    clear hrow5 O5
    go_upto_region 6 with fail
    clear hcl
    have HM := Lib.hid hm0
    clear hm0
    have HQ := Lib.hid (bytesEq w5 _ _ f (slotB s') HM.out.first HM.out.want)
    by_cases hfw : f = slotB s'
    rotate_left
    · rw [decide_eq_false hfw] at HQ
      have HST := Lib.hid (keyStore HM.out.tab HFG.out.2.2 HM.out.dev i 0 (by decide) HIL.out.2 gw 0 cw (slotB s') HM.out.want (fun h => by have := (HFG.out.2.1 _ h).2; have := HM.out.gwN; omega) (by have := (HFG.out.1 _ HT.out.fp).2; have := HM.out.gwN; omega))
      clear hfw
      go_wp2_with fail
      refine HQ.out.mono ?_
      rintro _ w6 ⟨rfl, rfl⟩
      go_wp2_with fail
      refine HST.out.mono ?_
      rintro _ w6 hst
      have HE := Lib.hid (HM.out.stored HSO.out HIL.out.2 0 (.inl rfl) hst)
      obtain rfl := HE.out.ret
      clear hst HST HQ
      go_wp2
      go_ret
      exact HE.out
    rw [decide_eq_true hfw] at HQ
    have HFW := Lib.hid hfw
    have HQ2 := Lib.hid (bytesEq w5 _ _ s2 (slotB s') HM.out.second HM.out.want)
    clear hfw
    by_cases hsw : s2 = slotB s'
    · rw [decide_eq_true hsw] at HQ2
      have HE := Lib.hid (HM.out.same (HSEC.out.1.trans HFW.out) (HSEC.out.2.trans hsw))
      clear hsw
      go_wp2_with fail
      refine HQ.out.mono ?_
      rintro _ w6 ⟨rfl, rfl⟩
      go_wp2_with fail
      refine HQ2.out.mono ?_
      rintro _ w6 ⟨rfl, rfl⟩
      clear HQ HQ2
      go_wp2
      go_ret
      exact HE.out
    · rw [decide_eq_false hsw] at HQ2
      have HST := Lib.hid (keyStore HM.out.tab HFG.out.2.2 HM.out.dev i 1 (by decide) HIL.out.2 gw 0 cw (slotB s') HM.out.want (fun h => by have := (HFG.out.2.1 _ h).2; have := HM.out.gwN; omega) (by have := (HFG.out.1 _ HT.out.fp).2; have := HM.out.gwN; omega))
      clear hsw
      go_wp2_with fail
      refine HQ.out.mono ?_
      rintro _ w6 ⟨rfl, rfl⟩
      go_wp2_with fail
      refine HQ2.out.mono ?_
      rintro _ w6 ⟨rfl, rfl⟩
      go_wp2_with fail
      refine HST.out.mono ?_
      rintro _ w6 hst
      have HE := Lib.hid (HM.out.stored HSO.out HIL.out.2 1 (.inr ⟨rfl, HSEC.out.1.trans HFW.out⟩) hst)
      obtain rfl := HE.out.ret
      clear hst HST HQ HQ2
      go_wp2
      go_ret
      exact HE.out
  | some q =>
    subst hO
    have HOf := Lib.hid (keyOf (HT.out.new N3.out) q.1)
    have x1 := HS3.out.cell 1 (v := .int .i64 (q.1 : Int)) rfl
    cases hfind : kFind L q.1 with
    | some j =>
      have HSN : Hid (s' = none) := Lib.hid (by rw [← HS'.out]; unfold kGot; rw [HO.out]; exact if_neg (by rw [hfind]; exact fun h => nomatch h))
      have he : firstI (kHas q.1) L = (j : Int) := by unfold firstI; rw [show L.findIdx? (kHas q.1) = some j from hfind]
      rw [he] at HOf
      clear he hfind
      go_wp2_with fail
      refine HOf.out.mono ?_
      rintro _ w4 ⟨rfl, n4⟩
      have HW4 : Hid (RowB w4 gw f) := Lib.hid (HW3.out.same (n4.block gw HW3.out.lt))
      have N4 := Lib.hid (New.trans N3.out n4)
      clear n4 HOf x1 HW3 N3 HS3
      have hcl := run_clear_all HW4.out (by rw [HF.out.1]; decide) cw
      rw [HF.out.1] at hcl
      obtain ⟨w5, hcl, hrow5, O5⟩ := hcl
      have hm0 : ExMid w n g F G p sl frm L D i s' gk o1 o2 c1 c2 gw cw f s2 w5 := by
        have hg : ¬ F gw ∧ ¬ G gw := ⟨fun h => by have := (HFG.out.1 _ h).2; have := HGW.out.1; omega, fun h => by have := (HFG.out.2.1 _ h).2; have := HGW.out.1; omega⟩
        have hgk : gk ≠ gw := by have := HGW.out.1; have := HF.out.2.2; omega
        have ht5 : KTab w5 F p sl g frm L false := (HT.out.new N4.out).only O5 (fun k hk e => by subst e; exact hg.1 hk)
        refine ⟨?_, (HD.out.new N4.out).only O5 (fun k hk e => by subst e; exact hg.2 hk), (New.only (F := fun k => G k ∨ k = sl) (Below.trans N4.out (O5.below N4.out.size (fun k hk => by subst hk; exact HGW.out.1)))), (HFi.out.new N4.out).only O5 (fun k hk _ e => by cases hk; exact hgk e), (HSe.out.new N4.out).only O5 (fun k hk _ e => by cases hk; exact hgk e), ?_, HGW.out.1⟩
        · rw [HSN.out]
          have hset : L.set i none = L := by
            apply List.ext_getElem?
            intro j
            rw [List.getElem?_set]
            split
            · rename_i h; subst h; rw [HIL.out.1]; split
              · rfl
              · rename_i h2; exact absurd (List.getElem?_eq_some_iff.1 HIL.out.1).1 h2
            · rfl
          rw [hset]; exact ht5
        · rw [HSN.out]
          have h6 := hrow5.rd (c := cw) (by rw [List.length_replicate]; exact HGW.out.2.1) HGW.out.2.2
          rw [List.length_replicate] at h6
          exact h6
      clear hrow5 O5
      go_upto_region 6 with fail
      clear hcl
      have HM := Lib.hid hm0
      clear hm0
      have HQ := Lib.hid (bytesEq w5 _ _ f (slotB s') HM.out.first HM.out.want)
      by_cases hfw : f = slotB s'
      rotate_left
      · rw [decide_eq_false hfw] at HQ
        have HST := Lib.hid (keyStore HM.out.tab HFG.out.2.2 HM.out.dev i 0 (by decide) HIL.out.2 gw 0 cw (slotB s') HM.out.want (fun h => by have := (HFG.out.2.1 _ h).2; have := HM.out.gwN; omega) (by have := (HFG.out.1 _ HT.out.fp).2; have := HM.out.gwN; omega))
        clear hfw
        go_wp2_with fail
        refine HQ.out.mono ?_
        rintro _ w6 ⟨rfl, rfl⟩
        go_wp2_with fail
        refine HST.out.mono ?_
        rintro _ w6 hst
        have HE := Lib.hid (HM.out.stored HSO.out HIL.out.2 0 (.inl rfl) hst)
        obtain rfl := HE.out.ret
        clear hst HST HQ
        go_wp2
        go_ret
        exact HE.out
      rw [decide_eq_true hfw] at HQ
      have HFW := Lib.hid hfw
      have HQ2 := Lib.hid (bytesEq w5 _ _ s2 (slotB s') HM.out.second HM.out.want)
      clear hfw
      by_cases hsw : s2 = slotB s'
      · rw [decide_eq_true hsw] at HQ2
        have HE := Lib.hid (HM.out.same (HSEC.out.1.trans HFW.out) (HSEC.out.2.trans hsw))
        clear hsw
        go_wp2_with fail
        refine HQ.out.mono ?_
        rintro _ w6 ⟨rfl, rfl⟩
        go_wp2_with fail
        refine HQ2.out.mono ?_
        rintro _ w6 ⟨rfl, rfl⟩
        clear HQ HQ2
        go_wp2
        go_ret
        exact HE.out
      · rw [decide_eq_false hsw] at HQ2
        have HST := Lib.hid (keyStore HM.out.tab HFG.out.2.2 HM.out.dev i 1 (by decide) HIL.out.2 gw 0 cw (slotB s') HM.out.want (fun h => by have := (HFG.out.2.1 _ h).2; have := HM.out.gwN; omega) (by have := (HFG.out.1 _ HT.out.fp).2; have := HM.out.gwN; omega))
        clear hsw
        go_wp2_with fail
        refine HQ.out.mono ?_
        rintro _ w6 ⟨rfl, rfl⟩
        go_wp2_with fail
        refine HQ2.out.mono ?_
        rintro _ w6 ⟨rfl, rfl⟩
        go_wp2_with fail
        refine HST.out.mono ?_
        rintro _ w6 hst
        have HE := Lib.hid (HM.out.stored HSO.out HIL.out.2 1 (.inr ⟨rfl, HSEC.out.1.trans HFW.out⟩) hst)
        obtain rfl := HE.out.ret
        clear hst HST HQ HQ2
        go_wp2
        go_ret
        exact HE.out
    | none =>
      have HSN : Hid (s' = some q) := Lib.hid (by rw [← HS'.out]; unfold kGot; rw [HO.out]; exact if_pos hfind)
      have HFQ : Hid (f = slotB s') := Lib.hid (by rw [HSN.out]; exact (keyDec_some HO.out).2.2)
      have he : firstI (kHas q.1) L = -1 := by unfold firstI; rw [show L.findIdx? (kHas q.1) = none from hfind]
      rw [he] at HOf
      clear he hfind
      go_wp2_with fail
      refine HOf.out.mono ?_
      rintro _ w4 ⟨rfl, n4⟩
      have HW4 : Hid (RowB w4.drew gw f) := Lib.hid (HW3.out.same (n4.block gw HW3.out.lt))
      have HS4 : Hid (AtN w4.drew gs 71 (sCells (some q))) := Lib.hid (HS3.out.new n4.drew)
      have N4 : Hid (New w w4.drew) := Lib.hid (New.trans N3.out n4).drew
      have HT4 : Hid (KTab w4.drew F p sl g frm L false) := Lib.hid (HT.out.new N4.out)
      have HLI : Hid (i < L.length) := Lib.hid (List.getElem?_eq_some_iff.1 HIL.out.1).1
      obtain ⟨nL, hn⟩ : ∃ n, L.length = n := ⟨_, rfl⟩
      have hil : i < nL := by rw [← hn]; exact HLI.out
      have hin : (i : Int) < (nL : Int) := by omega
      have HNL := Lib.hid hn
      have HC : Hid (SlS p gs (.slice (some ⟨sl, 0, none⟩) nL nL) (some q) w4.drew) := Lib.hid (by
        have := HT4.out.at_.cells.2.2.1
        rw [HNL.out] at this
        exact ⟨this, HS4.out.range⟩)
      have HTH1 : Hid (w4.drew.there sl (i * 34) (sCells (some q)).toArray.size) := Lib.hid (by rw [List.size_toArray, sCells_length HOOK.out]; exact slot_there HT4.out.slots HT4.out.ok HLI.out)
      clear n4 HOf x1 HW3 N3 HS3 hn
      go_upto_region 4 with fail
      refine region_ord (SlS p gs (.slice (some ⟨sl, 0, none⟩) nL nL) (some q)) [(0, true), (1, true), (2, true), (3, true), (4, true), (5, true), (6, true), (7, false)] (by kernel_rfl) (by kernel_rfl) HC.out (fun _ => ?_)
      generalize w4.drew = w6 at *
      unfold SlS
      iterate 5 (apply ord_take; (simp only [List.getElem?_toArray, List.getElem?_cons_succ, List.getElem?_cons_zero]; rfl); rfl; (intro w hSw; (try dsimp only at hSw); go_simp; try with_reducible rfl); intro _; try simp only [Act.put, List.setIfInBounds_toArray, List.set_cons_zero, List.set_cons_succ])
      (apply ord_take; (simp only [List.getElem?_toArray, List.getElem?_cons_succ, List.getElem?_cons_zero]; rfl); rfl; (intro w hSw; exact exec_loadSl rfl rfl hSw.2 HOOK.out); intro _; try simp only [Act.put, List.setIfInBounds_toArray, List.set_cons_zero, List.set_cons_succ])
      iterate 1 (apply ord_take; (simp only [List.getElem?_toArray, List.getElem?_cons_succ, List.getElem?_cons_zero]; rfl); rfl; (intro w hSw; (try dsimp only at hSw); go_simp; try with_reducible rfl); intro _; try simp only [Act.put, List.setIfInBounds_toArray, List.set_cons_zero, List.set_cons_succ])
      (apply ord_only; (simp only [List.getElem?_toArray, List.getElem?_cons_succ, List.getElem?_cons_zero]; rfl); rfl; intro K hK)
      refine wp_store_mid 71 _ _ rfl sl (i * 34) (sCells (some q)).toArray rfl rfl HTH1.out (sizeSl HOOK.out) (all_oneCell_toArray (sCells_one _)) ?_
      rw [List.toList_toArray]
      have HT7 := HT4.out.put HLI.out HOOK.out
      have O7 := (slot_set HT4.out.slots HT4.out.ok HLI.out HOOK.out).2
      generalize w6.setCells sl (i * 34) (sCells (some q)) = w5 at *
      have hfs := (HFG.out.1 _ HT.out.fs).1
      have HS7 : AtN w5 gs 71 (sCells (some q)) := HS4.out.only O7 (fun e => by have := HGS.out.1; omega)
      have hc7 : w5.cell? ⟨p, 2, none⟩ = some (.slice (some ⟨sl, 0, none⟩) nL nL) := by
        have := HT7.at_.cells.2.2.1
        rw [List.length_set, HNL.out] at this
        exact this
      have hm0 : ExMid w n g F G p sl frm L D i s' gk o1 o2 c1 c2 gw cw f s2 w5 := by
        have hgk : gk ≠ sl ∨ True := .inr trivial
        refine ⟨by rw [HSN.out]; exact HT7, (HD.out.new N4.out).only O7 (fun k hk e => by subst e; exact HFG.out.2.2 _ HT.out.fs hk), (New.only (F := fun k => G k ∨ k = sl) N4.out).trans O7 (fun k _ e => .inr e), (HFi.out.new N4.out).only O7 (fun k hk _ e => by cases hk; exact HGK.out e), (HSe.out.new N4.out).only O7 (fun k hk _ e => by cases hk; exact HGK.out e), ?_, HGW.out.1⟩
        have h6 := (HW4.out.same (O7.block gw HW4.out.lt (fun e => by have := HGW.out.1; omega))).rd (c := cw) (by rw [HF.out.1]; exact HGW.out.2.1) HGW.out.2.2
        rw [HF.out.1, HFQ.out] at h6
        exact h6
      refine hK.out _ _ ⟨hc7, HS7.range⟩ (fun _ => ?_)
      clear hK K hc7 HS7 O7 HT7 HT4 HS4 HTH1 HC HW4 hfs
      try simp only [Act.put, List.setIfInBounds_toArray, List.set_cons_zero, List.set_cons_succ]
      apply ord_done
      go_upto_region 6 with fail
      have HM := Lib.hid hm0
      clear hm0
      have HQ := Lib.hid (bytesEq w5 _ _ f (slotB s') HM.out.first HM.out.want)
      by_cases hfw : f = slotB s'
      rotate_left
      · rw [decide_eq_false hfw] at HQ
        have HST := Lib.hid (keyStore HM.out.tab HFG.out.2.2 HM.out.dev i 0 (by decide) HIL.out.2 gw 0 cw (slotB s') HM.out.want (fun h => by have := (HFG.out.2.1 _ h).2; have := HM.out.gwN; omega) (by have := (HFG.out.1 _ HT.out.fp).2; have := HM.out.gwN; omega))
        clear hfw
        go_wp2_with fail
        refine HQ.out.mono ?_
        rintro _ w6 ⟨rfl, rfl⟩
        go_wp2_with fail
        refine HST.out.mono ?_
        rintro _ w6 hst
        have HE := Lib.hid (HM.out.stored HSO.out HIL.out.2 0 (.inl rfl) hst)
        obtain rfl := HE.out.ret
        clear hst HST HQ
        go_wp2
        go_ret
        exact HE.out
      rw [decide_eq_true hfw] at HQ
      have HFW := Lib.hid hfw
      have HQ2 := Lib.hid (bytesEq w5 _ _ s2 (slotB s') HM.out.second HM.out.want)
      clear hfw
      by_cases hsw : s2 = slotB s'
      · rw [decide_eq_true hsw] at HQ2
        have HE := Lib.hid (HM.out.same (HSEC.out.1.trans HFW.out) (HSEC.out.2.trans hsw))
        clear hsw
        go_wp2_with fail
        refine HQ.out.mono ?_
        rintro _ w6 ⟨rfl, rfl⟩
        go_wp2_with fail
        refine HQ2.out.mono ?_
        rintro _ w6 ⟨rfl, rfl⟩
        clear HQ HQ2
        go_wp2
        go_ret
        exact HE.out
      · rw [decide_eq_false hsw] at HQ2
        have HST := Lib.hid (keyStore HM.out.tab HFG.out.2.2 HM.out.dev i 1 (by decide) HIL.out.2 gw 0 cw (slotB s') HM.out.want (fun h => by have := (HFG.out.2.1 _ h).2; have := HM.out.gwN; omega) (by have := (HFG.out.1 _ HT.out.fp).2; have := HM.out.gwN; omega))
        clear hsw
        go_wp2_with fail
        refine HQ.out.mono ?_
        rintro _ w6 ⟨rfl, rfl⟩
        go_wp2_with fail
        refine HQ2.out.mono ?_
        rintro _ w6 ⟨rfl, rfl⟩
        go_wp2_with fail
        refine HST.out.mono ?_
        rintro _ w6 hst
        have HE := Lib.hid (HM.out.stored HSO.out HIL.out.2 1 (.inr ⟨rfl, HSEC.out.1.trans HFW.out⟩) hst)
        obtain rfl := HE.out.ret
        clear hst HST HQ HQ2
        go_wp2
        go_ret
        exact HE.out

end Go.Proofs.Ytnekcdpfphgpbaa
