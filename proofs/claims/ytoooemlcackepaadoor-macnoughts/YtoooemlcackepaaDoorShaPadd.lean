/-
  sha.padded.
-/
import Derived.Test.YtoooemlcackepaaDoorShaPad
import Derived.Test.YtoooemlcackepaaDoorParts
import Derived.Test.YtoooemlcackepaaDoorOrd
namespace Go.Proofs.YtoooemlcackepaaDoor
set_option linter.unusedVariables false
set_option linter.unusedSimpArgs false
open Go.RowKit

theorem infoBytes : (Tryd.prog.info? 22).map (fun i => (i.zero, i.size, i.bytes)) = some (some (.slice none 0 0), 1, 24) := by kernel_rfl

/-- the parts and the padding -/
def PaddedRet (w : World) (ps : List (Value × List UInt8)) (e : Ending) (w' : World) : Prop :=
  ∃ v' pv, e = .returned v' ∧ RdL w' v' (ps ++ [(pv, padOf (allOf ps).length)]) ∧ New w w' ∧ (∀ k, blk v' = some k → w.heap.size ≤ k) ∧ ∀ k, blk pv = some k → w.heap.size ≤ k

set_option maxRecDepth 100000 in
set_option maxHeartbeats 400000 in
theorem shaPadded (w : World) (v : Value) (ps : List (Value × List UInt8)) (hv : RdL w v ps) (hn : (allOf ps).length ≤ 1152921504606846976) (hps : ps.length ≤ 1000000) :
    Calls Tryd.prog 20 #[v] w (PaddedRet w ps) := by
  obtain ⟨hv1, hv2⟩ := hv
  have hv1' := hv1
  obtain ⟨a, n, c, rfl, hl, hnc, hcm, _, _⟩ := hv1'
  rw [List.length_map] at hl
  have HL := Lib.hid hl
  have HV1 := Lib.hid hv1
  have HV2 := Lib.hid hv2
  have hn1 : n ≤ 1000000 := by omega
  unfold maxLen at hcm
  clear hl hv1 hv2
  go_enter Tryd.func20, Tryd.ntmps20
  go_wp2
  go_loop [3, 8] (fun s i => ∃ k : Nat, k ≤ n ∧ i = .int .i64 k ∧ s = .int .i64 ((allOf (ps.take k)).length : Nat)) (fun _ i => n - (intOf i).toNat)
  case atStart => exact ⟨0, Nat.zero_le _, rfl, rfl⟩
  case round =>
    obtain ⟨k, hk, rfl, rfl⟩ := hrel
    by_cases hlt : k < n
    · obtain ⟨b, off, rfl, hcell⟩ := HV1.out.cell (by omega)
      obtain ⟨p, hp⟩ : ∃ p, ps[k]? = some p := ⟨_, List.getElem?_eq_getElem (by rw [HL.out]; exact hlt)⟩
      have hck := hcell k p.1 (by rw [List.getElem?_map, hp]; rfl)
      clear hcell
      obtain ⟨ap, np, cp, ep, hpl, _⟩ := HV2.out p (List.mem_of_getElem? hp)
      have HT := Lib.hid (allOf_take ps k p hp)
      have hle := allOf_take_le ps (k + 1)
      rw [HT.out, List.length_append, hpl] at hle
      have HPL := Lib.hid hpl
      rw [ep] at hck
      clear hpl hp ep
      obtain ⟨m, HM⟩ : ∃ m, Hid ((allOf (ps.take k)).length = m) := ⟨_, Lib.hid rfl⟩
      rw [HM.out] at hle ⊢
      go_wp2
      go_round
      case rel => exact ⟨k + 1, by omega, by go_num, by rw [HT.out, List.length_append, HM.out, HPL.out]; go_num⟩
      case measure => simp [intOf]; omega
    · obtain rfl : k = n := by omega
      have hE : allOf (ps.take k) = allOf ps := by rw [List.take_of_length_le (by rw [HL.out]; exact Nat.le_refl _)]
      rw [hE]
      clear hE
      obtain ⟨m, HM⟩ : ∃ m, Hid ((allOf ps).length = m) := ⟨_, Lib.hid rfl⟩
      rw [HM.out] at hn ⊢
      go_wp2
      refine region_ord (fun _ => True) [(0, true), (1, true), (2, true), (3, true), (4, true), (5, true), (6, true), (7, false), (8, false), (9, false), (10, true)] (by kernel_rfl) (by kernel_rfl) trivial (fun _ => ?_)
      iterate 7 (apply ord_take; (simp only [List.getElem?_toArray, List.getElem?_cons_succ, List.getElem?_cons_zero]; rfl); rfl; (intro w hSw; (try dsimp only at hSw); go_simp; try with_reducible rfl); intro _; try simp only [Act.put, List.setIfInBounds_toArray, List.set_cons_zero, List.set_cons_succ])
      (apply ord_only; (simp only [List.getElem?_toArray, List.getElem?_cons_succ, List.getElem?_cons_zero]; rfl); rfl; intro K hK)
      go_simp
      refine (shaPadding _ m hn).mono ?_
      rintro e w1 ⟨pv, rfl, hown, hnew⟩
      have hrd := Rd.of_own hown
      have hrd' := hrd
      obtain ⟨ap, np, cp, rfl, _⟩ := hrd'
      have HRD := Lib.hid hrd
      have HFP := Lib.hid (own_from hown)
      clear hown hrd
      refine hK.out _ _ trivial (fun _ => ?_)
      clear hK K
      try simp only [Act.put, List.setIfInBounds_toArray, List.set_cons_zero, List.set_cons_succ]
      (apply ord_only; (simp only [List.getElem?_toArray, List.getElem?_cons_succ, List.getElem?_cons_zero]; rfl); rfl; intro K hK)
      go_simp
      refine hK.out _ _ trivial (fun _ => ?_)
      clear hK K
      try simp only [Act.put, List.setIfInBounds_toArray, List.set_cons_zero, List.set_cons_succ]
      (apply ord_only; (simp only [List.getElem?_toArray, List.getElem?_cons_succ, List.getElem?_cons_zero]; rfl); rfl; intro K hK)
      obtain ⟨i0, hi0, hz0, hz1, hz2⟩ := info_parts infoBytes
      have hn2 : New w (w1.alloc (.cells #[.slice ap np cp] 22)) := (New.trans (Below.refl _ _).drew hnew).alloc (New.trans (Below.refl _ _).drew hnew).size _
      obtain ⟨v', w2, hr, hrv, hn3, hfr⟩ := run_append_one (P := Tryd.prog) (w1.alloc (.cells #[.slice ap np cp] 22)) 30 30 22 i0 _ 24 Tryd.underlying30 hi0 hz0 hz1 hz2 rfl a k c (ps.map (·.1)) (HV1.out.new hn2) ⟨w1.heap.size, 0, none⟩ (.slice ap np cp) (by rw [cell_of_row _ _ _ _ _ _ (heap_alloc_new _ _)]; rfl) rfl (by omega) (by omega)
      refine oper_append (.tmp 22) (.tmp 25) 30 rfl _ _ rfl rfl hr (hK.out _ _ trivial (fun _ => ?_))
      clear hK K hr
      try simp only [Act.put, List.setIfInBounds_toArray, List.set_cons_zero, List.set_cons_succ]
      iterate 1 (apply ord_take; (simp only [List.getElem?_toArray, List.getElem?_cons_succ, List.getElem?_cons_zero]; rfl); rfl; (intro w hSw; (try dsimp only at hSw); go_simp; try with_reducible rfl); intro _; try simp only [Act.put, List.setIfInBounds_toArray, List.set_cons_zero, List.set_cons_succ])
      apply ord_done
      go_wp2
      go_ret
      refine ⟨v', .slice ap np cp, rfl, ⟨?_, ?_⟩, New.trans hn2 hn3, fun j hj => Nat.le_trans hn2.size (hfr j hj), fun j hj => HFP.out j hj⟩
      · simpa using hrv
      · intro p hp
        rcases List.mem_append.1 hp with h | h
        · exact (HV2.out p h).new (New.trans hn2 hn3)
        · rw [List.mem_singleton.1 h, HM.out]
          exact (HRD.out.new ((Below.refl _ _).alloc (Nat.le_refl _) _)).new hn3

end Go.Proofs.YtoooemlcackepaaDoor
