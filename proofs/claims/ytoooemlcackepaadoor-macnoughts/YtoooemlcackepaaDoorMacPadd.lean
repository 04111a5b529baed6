/-
  mac.padded.
-/
import Derived.Test.YtoooemlcackepaaDoorMacMask
import Derived.Test.YtoooemlcackepaaDoorSum1
namespace Go.Proofs.YtoooemlcackepaaDoor
set_option linter.unusedVariables false
set_option linter.unusedSimpArgs false
open Go.RowKit

theorem splice_pad (l : List UInt8) : splice (List.replicate 64 (bv 0)) 0 (l.map bv) = (pad64 l).map bv := by
  unfold splice pad64
  rw [List.take_zero, List.nil_append, Nat.zero_add, List.length_map, List.drop_replicate, List.map_append, List.map_replicate]

theorem copy_src {w : World} {a : Option Addr} {n c : Nat} {l : List UInt8} (h : Rd w (.slice a n c) l) {d : Option Addr} {g : Nat} (hd : d = some ⟨g, 0, none⟩ := by rfl) : 0 < (l.map bv).length → d = some ⟨g, 0, none⟩ ∧ ∃ ad, a = some ad ∧ ∀ j v, (l.map bv)[j]? = some v → w.cell? (ad.add j) = some v := by
  intro h0
  obtain ⟨a', n', c', e, h1, h2, h3, h4, h5⟩ := h
  cases e
  rw [List.length_map] at h0
  refine ⟨hd, ?_⟩
  cases a with
  | none => have := (h4 rfl).1; omega
  | some ad =>
    refine ⟨ad, rfl, fun j v hj => ?_⟩
    rw [List.getElem?_map] at hj
    cases hb : l[j]? with
    | none => rw [hb] at hj; cases hj
    | some b => rw [hb] at hj; cases hj; exact h5 ad rfl j b hb

/-- copy(block[:], key) -/
theorem run_copy_key {w : World} {g : Nat} {a : Option Addr} {n c : Nat} {l : List UInt8} (hg : w.heap[g]? = some (.cells ((List.replicate 64 (bv 0))).toArray 31)) (h : Rd w (.slice a n c) l) (hl : l.length = n) (h64 : n ≤ 64) :
    ∃ w', (Builtin.copy_ #[22, 22] 3 #[.slice (some ⟨g, 0, none⟩) 64 64, .slice a n c]).run Tryd.prog w = .ok (.int .i64 n) w' ∧ w'.heap[g]? = some (.cells ((pad64 l).map bv).toArray 31) ∧ Below g w w' := by
  by_cases h0 : n = 0
  · subst h0
    obtain rfl : l = [] := List.eq_nil_of_length_eq_zero hl
    exact ⟨w, run_copy_none (P := Tryd.prog) w 22 22 3 5 _ _ 64 64 0 c Tryd.underlying22 (by kernel_rfl) (by simp), by rw [hg]; simp [pad64], Below.refl _ _⟩
  · obtain ⟨_, ad, rfl, hc⟩ := copy_src h (d := some ⟨g, 0, none⟩) (g := g) rfl (by rw [List.length_map]; omega)
    have hr := run_copy_row (P := Tryd.prog) w 22 22 3 5 g 0 64 64 ad n c _ _ (l.map bv) Tryd.underlying22 (by kernel_rfl) hg (by rw [List.length_map, hl]; exact (Nat.min_eq_left h64).symm) hc (by rw [List.length_map, hl]; simpa using h64) (oneCell_bv l)
    rw [List.length_map, hl] at hr
    refine ⟨_, hr, ?_, below_setRow (Below.refl _ _) (Nat.le_refl _) _⟩
    rw [setRow_heap _ _ _ _ _ _ hg]
    have e := splice_pad l
    unfold splice at e
    rw [List.length_map, hl] at e
    rw [← e]
    simp

set_option maxRecDepth 100000 in
set_option maxHeartbeats 1000000 in
theorem macPadded (w : World) (v : Value) (l : List UInt8) (hv : Rd w v l) (hl : l.length ≤ 1099511627776) (hL : Laid w) :
    Calls Tryd.prog 12 #[v] w fun e w' => e = .returned (.agg ((pad64 (keyOf l)).map bv).toArray) ∧ New w w' := by
  have hv' := hv
  obtain ⟨a, n, c, rfl, hvl, hvc, hvm, _, _⟩ := hv'
  have HV := Lib.hid hv
  have HVL := Lib.hid hvl
  have HL := Lib.hid hL
  unfold maxLen at hvm
  have hn : n ≤ 1099511627776 := by omega
  clear hv hvl hL hl
  by_cases h64 : 64 < n
  · have hd : decide ((64 : Int) < (n : Int)) = true := by simp; omega
    have HK : Hid (keyOf l = sha256 l) := by show _ = _; unfold keyOf; rw [if_pos (by rw [HVL.out]; exact h64)]
    go_enter Tryd.func12, Tryd.ntmps12
    go_wp2_with fail
    generalize hw1 : World.alloc w _ = w1
    have hg1 : w1.heap[w.heap.size]? = some (.cells ((List.replicate 64 (bv 0))).toArray 31) := by rw [← hw1]; exact heap_alloc_new _ _
    have hn1 : New w w1 := by rw [← hw1]; exact (Below.refl _ _).alloc (Nat.le_refl _) _
    have hs1 : w1.heap.size = w.heap.size + 1 := by rw [← hw1]; simp
    clear hw1
    refine (sum1 w1 _ _ l hs1.symm (HV.out.new hn1) (by rw [HVL.out]; exact hn) (HL.out.new hn1)).mono ?_
    rintro e w2 ⟨a2, n2, c2, rfl, r2, rfl, N2⟩
    have HR2 := Lib.hid r2
    have HL2 := Lib.hid (r2.len)
    have HB1 := Lib.hid ((N2.block _ (lt_of_block hg1)).trans hg1)
    have HN2 := Lib.hid (New.trans hn1 N2)
    clear r2 hg1
    go_upto_region 4 with fail
    generalize hw3 : World.alloc w2 _ = w3
    have hg3 : w3.heap[w2.heap.size]? = some (.cells ((List.replicate 64 (bv 0))).toArray 31) := by rw [← hw3]; exact heap_alloc_new _ _
    have hn3 : New w2 w3 := by rw [← hw3]; exact (Below.refl _ _).alloc (Nat.le_refl _) _
    have hr3 := HR2.out.new hn3
    have hsl := fun wx => arr64_all wx w2.heap.size
    clear hw3
    obtain ⟨w4, hcp, hg5, hn4⟩ := run_copy_key hg3 hr3 HL2.out (by omega)
    clear hg3 hr3
    have hlen : ((pad64 (sha256 l)).map bv).toArray.size = 64 := by rw [List.size_toArray, List.length_map, pad64_length _ (by rw [HL2.out]; omega)]
    have hb1 : w4.heap[w.heap.size]? = some (.cells ((List.replicate 64 (bv 0))).toArray 31) := by
      have h1 := HB1.out
      have hlt := lt_of_block h1
      exact ((hn4.block _ hlt).trans (hn3.block _ hlt)).trans h1
    go_upto_region 5 with fail
    clear hcp hsl
    refine wp_region_lit ?_
    refine wpList_load_row rfl 31 _ rfl w2.heap.size rfl _ _ _ _ hg5 Tryd.underlying31 rfl (by rw [hlen]; kernel_rfl) ?_
    refine wpList_store_row rfl 31 _ _ rfl w.heap.size ((pad64 (sha256 l)).map bv).toArray rfl rfl _ _ hb1 (by rw [hlen]; kernel_rfl) (by rw [hlen]; rfl) (allOneB _) ?_
    go_wp2
    refine bodyPost_ret (v := .agg ((pad64 (sha256 l)).map bv).toArray) (results_cell_row rfl _ _ w.heap.size _ _ _ _ rfl (setRow_heap _ _ _ _ _ _ hb1) Tryd.underlying31 rfl (by rw [hlen]; kernel_rfl)) rfl ⟨by rw [HK.out], ?_⟩
    exact below_setRow (New.trans HN2.out (Below.trans hn3 hn4)) (Nat.le_refl _) _
  · have hd : decide ((64 : Int) < (n : Int)) = false := by simp; omega
    have HK : Hid (keyOf l = l) := by show _ = _; unfold keyOf; rw [if_neg (by rw [HVL.out]; exact h64)]
    go_enter Tryd.func12, Tryd.ntmps12
    go_upto_region 3 with fail
    generalize hw1 : World.alloc w _ = w1
    have hg1 : w1.heap[w.heap.size]? = some (.cells ((List.replicate 64 (bv 0))).toArray 31) := by rw [← hw1]; exact heap_alloc_new _ _
    have hn1 : New w w1 := by rw [← hw1]; exact (Below.refl _ _).alloc (Nat.le_refl _) _
    clear hw1
    have HR2 := Lib.hid (HV.out.new hn1)
    have HL2 := HVL
    have HB1 := Lib.hid hg1
    have HN2 := Lib.hid hn1
    clear hg1
    go_upto_region 4 with fail
    generalize hw3 : World.alloc w1 _ = w3
    have hg3 : w3.heap[w1.heap.size]? = some (.cells ((List.replicate 64 (bv 0))).toArray 31) := by rw [← hw3]; exact heap_alloc_new _ _
    have hn3 : New w1 w3 := by rw [← hw3]; exact (Below.refl _ _).alloc (Nat.le_refl _) _
    have hr3 := HR2.out.new hn3
    have hsl := fun wx => arr64_all wx w1.heap.size
    clear hw3
    obtain ⟨w4, hcp, hg5, hn4⟩ := run_copy_key hg3 hr3 HL2.out (by omega)
    clear hg3 hr3
    have hlen : ((pad64 l).map bv).toArray.size = 64 := by rw [List.size_toArray, List.length_map, pad64_length _ (by rw [HL2.out]; omega)]
    have hb1 : w4.heap[w.heap.size]? = some (.cells ((List.replicate 64 (bv 0))).toArray 31) := by
      have h1 := HB1.out
      have hlt := lt_of_block h1
      exact ((hn4.block _ hlt).trans (hn3.block _ hlt)).trans h1
    go_upto_region 5 with fail
    clear hcp hsl
    refine wp_region_lit ?_
    refine wpList_load_row rfl 31 _ rfl w1.heap.size rfl _ _ _ _ hg5 Tryd.underlying31 rfl (by rw [hlen]; kernel_rfl) ?_
    refine wpList_store_row rfl 31 _ _ rfl w.heap.size ((pad64 l).map bv).toArray rfl rfl _ _ hb1 (by rw [hlen]; kernel_rfl) (by rw [hlen]; rfl) (allOneB _) ?_
    go_wp2
    refine bodyPost_ret (v := .agg ((pad64 l).map bv).toArray) (results_cell_row rfl _ _ w.heap.size _ _ _ _ rfl (setRow_heap _ _ _ _ _ _ hb1) Tryd.underlying31 rfl (by rw [hlen]; kernel_rfl)) rfl ⟨by rw [HK.out], ?_⟩
    exact below_setRow (New.trans HN2.out (Below.trans hn3 hn4)) (Nat.le_refl _) _

end Go.Proofs.YtoooemlcackepaaDoor
