/-
  The statements of layer 10: their own helpers: filled, awake.
-/
import Derived.Test.YtmalbfpipdebaaaDskLoad
import Derived.Test.YtmalbfpipdebaaaDskCrash
import Derived.Test.YtmalbfpipdebaaaDskDev
namespace Go.Proofs.Ytmalbfpipdebaaa
set_option linter.unusedVariables false
set_option linter.unusedSimpArgs false
open Go.RowKit

/-- a sector full of a byte -/
def full (c : UInt8) : List UInt8 := List.replicate 128 c

theorem full_length (c : UInt8) : (full c).length = 128 := by simp [full]

/-- the first j of 128 bytes are c -/
def fullTo (c : UInt8) (j : Nat) : List UInt8 := List.replicate j c ++ List.replicate (128 - j) 0

theorem fullTo_length (c : UInt8) (j : Nat) (h : j ≤ 128) : (fullTo c j).length = 128 := by simp [fullTo]; omega

theorem fullTo_set (c : UInt8) (j : Nat) (h : j < 128) : (fullTo c j).set j c = fullTo c (j + 1) := by
  unfold fullTo
  obtain ⟨r, hr⟩ : ∃ r, 128 - j = r + 1 := ⟨127 - j, by omega⟩
  rw [hr, show 128 - (j + 1) = r by omega, List.set_append_right _ _ (by simp), List.length_replicate, Nat.sub_self, List.replicate_succ (n := r), List.set_cons_zero, List.replicate_succ', List.append_assoc]
  rfl

/-- a new sector -/
def FullTo (w : World) (c : UInt8) (e : Ending) (w' : World) : Prop :=
  e = .returned (.slice (some ⟨w.heap.size, 0, none⟩) 128 128) ∧ RowB w' w.heap.size (full c) ∧ New w w' ∧ w.heap.size < w'.heap.size

set_option maxRecDepth 100000 in
set_option maxHeartbeats 1000000 in
theorem filled10 (w : World) (c : UInt8) : Calls Try.prog 12 #[.int .i64 128, .int .u8 (c.toNat : Int)] w (FullTo w c) := by
  have hm : ∀ wx : World, (Instr.makeSlice 22 (.int .i64 128) (.int .i64 128)).run Try.prog wx = .ok (.slice (some ⟨wx.heap.size, 0, none⟩) 128 128) (wx.alloc (.cells ((fullTo c 0).map bv).toArray 5)) := fun wx => run_make10 128 (by decide) wx
  go_enter Try.func12, Try.ntmps12
  go_upto_region 2 with fail
  generalize hw1 : World.alloc w _ = w1
  have HI0 : Hid (w1.heap[w.heap.size]? = some (.cells ((fullTo c 0).map bv).toArray 5 (0, 0)) ∧ New w w1) := by
    rw [← hw1]
    exact Lib.hid ⟨heap_alloc_new _ _, (Below.refl _ _).alloc (Nat.le_refl _) _⟩
  clear hw1 hm
  obtain ⟨b, Hb⟩ : ∃ b, Hid (w.heap.size = b) := ⟨_, Lib.hid rfl⟩
  rw [Hb.out] at HI0 ⊢
  go_wp2
  go_loopw [6] (fun i wr => ∃ j : Nat, j ≤ 128 ∧ i = .int .i64 j ∧ wr.heap[b]? = some (.cells ((fullTo c j).map bv).toArray 5 (0, 0)) ∧ New w wr) (fun i _ => 128 - (intOf i).toNat)
  case atStart => exact ⟨0, by omega, rfl, HI0.out⟩
  case round =>
    clear HI0
    obtain ⟨j, hj, rfl, hrow, hn⟩ := hrel
    have HR := Lib.hid hrow
    have HN := Lib.hid hn
    clear hrow hn
    by_cases hlt : j < 128
    · have hc : ∃ u, wr.cell? ⟨b, j, none⟩ = some u := by
        rw [cell_of_row _ _ _ _ _ _ HR.out, List.getElem?_toArray, List.getElem?_map, List.getElem?_eq_getElem (by rw [fullTo_length _ _ hj]; exact hlt)]
        exact ⟨_, rfl⟩
      obtain ⟨u, hc⟩ := hc
      have hf := frozen_of_row _ _ j _ _ HR.out
      have HR2 : Hid ((wr.setCell ⟨b, j, none⟩ (bv c)).heap[b]? = some (.cells ((fullTo c (j + 1)).map bv).toArray 5 (0, 0))) := by
        refine Lib.hid ?_
        rw [heap_setCell_same _ _ _ _ _ _ HR.out, List.setIfInBounds_toArray, ← List.map_set, fullTo_set c j hlt]
      have HN2 := Lib.hid (HN.out.setCell (p := ⟨b, j, none⟩) (by show w.heap.size ≤ b; rw [Hb.out]; exact Nat.le_refl _) (bv c))
      clear HR HN
      go_wp2
      go_roundw
      case rel => exact ⟨j + 1, by omega, by go_num, HR2.out, HN2.out⟩
      case measure => simp [intOf]; omega
    · obtain rfl : j = 128 := by omega
      go_wp2
      go_ret
      refine ⟨by rw [Hb.out]; rfl, ?_, HN.out, by rw [Hb.out]; exact lt_of_block HR.out⟩
      rw [Hb.out]
      exact ⟨[], by rw [List.append_nil]; simpa only [fullTo, full, Nat.sub_self, List.replicate_zero, List.append_nil] using HR.out⟩


theorem awake_cr (a b d : List UInt8) : crAll [(0, a), (0, b)] d [1, 0] = ([true, true], 2, lay (lay d 0 b) 0 a) := by
  simp [crAll, crStep]

theorem awake_sec {a b d l : List UInt8} (ha : a.length = 128) (hb : b.length = 128) (hd : d.length = 128 * 2) (hl : l.length = 128 * 2) : sec (loseAll (crAll [(0, a), (0, b)] d [1, 0]).2.2 [(0, a), (0, b)] l) 0 = a := by
  rw [awake_cr]
  have h1 : (lay d 0 b).length = 128 * 2 := by rw [lay_length (by omega)]; exact hd
  have h2 : (lay (lay d 0 b) 0 a).length = 128 * 2 := by rw [lay_length (by omega)]; exact h1
  have hok : OkW 2 [(0, a), (0, b)] := by
    intro p hp
    rcases List.mem_cons.1 hp with rfl | hp
    · exact ⟨(show 0 < 2 by decide), ha⟩
    · obtain rfl := List.mem_singleton.1 hp; exact ⟨(show 0 < 2 by decide), hb⟩
  rw [(loseAll_sec h2 hok hl).1 ⟨(0, a), by simp, rfl⟩]
  show sec (lay _ _ _) 0 = _
  rw [sec_lay ha (by omega), if_pos rfl]

set_option maxRecDepth 100000 in
set_option maxHeartbeats 4000000 in
theorem awake10 (w : World) : Calls Try.prog 5 #[] w fun e w' => e = .returned (.bool true) ∧ New w w' := by
  go_enter Try.func5, Try.ntmps5
  go_wp2_with fail
  refine (diskNew w 2 (by decide)).mono ?_
  rintro e w1 ⟨g, rfl, hd1, hn1⟩
  have HD1 := Lib.hid hd1
  have HN1 := Lib.hid hn1
  clear hd1 hn1
  go_wp2_with fail
  refine (filled10 w1 97).mono ?_
  rintro e w2 ⟨rfl, hr2, hn2, hs2⟩
  have HD2 := Lib.hid (HD1.out.avoid hn2)
  have HR2 := Lib.hid hr2
  have HN2 := Lib.hid (New.trans HN1.out hn2)
  have hb2 : w.heap.size ≤ w1.heap.size := HN1.out.size
  clear hr2 hn2 hs2 HD1 HN1
  generalize w1.heap.size = b1 at *
  go_wp2_with fail
  refine (diskWrite HD2.out 0 (by decide) b1 128 (full 97) HR2.out (full_length _) (by decide) (fun h => h.2 rfl) (by simp)).mono ?_
  rintro e w3 ⟨rfl, hd3⟩
  have HN3 := Lib.hid (hd3.grow HN2.out (fun k hk => hk.1))
  have HD3 := Lib.hid (hd3.above (G := fun k => w.heap.size ≤ k) (fun k hk => hk.1) (fun k hk => Nat.le_trans HN2.out.size hk))
  clear hd3 HD2 HN2 HR2 hb2
  go_wp2_with fail
  refine (filled10 w3 98).mono ?_
  rintro e w4 ⟨rfl, hr4, hn4, hs4⟩
  have HD4 := Lib.hid (HD3.out.avoid hn4)
  have HR4 := Lib.hid hr4
  have HN4 := Lib.hid (New.trans HN3.out hn4)
  have hb4 : w.heap.size ≤ w3.heap.size := HN3.out.size
  clear hr4 hn4 hs4 HD3 HN3
  generalize w3.heap.size = b3 at *
  go_wp2_with fail
  refine (diskWrite HD4.out 0 (by decide) b3 128 (full 98) HR4.out (full_length _) (by decide) (fun h => h.2 rfl) (by simp)).mono ?_
  rintro e w5 ⟨rfl, hd5⟩
  have HN5 := Lib.hid (hd5.grow HN4.out (fun k hk => hk.1))
  have HD5 := Lib.hid (hd5.above (G := fun k => w.heap.size ≤ k) (fun k hk => hk.1) (fun k hk => Nat.le_trans HN4.out.size hk))
  clear hd5 HD4 HN4 HR4 hb4
  rw [List.nil_append, List.cons_append, List.nil_append] at HD5
  go_wp2_with fail
  refine (devWaiting HD5.out).mono ?_
  rintro e w5' ⟨rfl, rfl⟩
  go_wp2_with fail
  generalize hw6 : World.alloc w5 _ = w6
  have hn6 : New w5 w6 := by rw [← hw6]; exact (Below.refl _ _).alloc (Nat.le_refl _) _
  have HK : Hid (RdV w6 (.slice (some ⟨w5.heap.size, 0, none⟩) 2 2) (([1, 0] : List Int).map (Value.int .i64))) := Lib.hid (by rw [← hw6]; exact RdV.made w5 [.int .i64 1, .int .i64 0] 3 (0, 0) (by decide))
  have HD6 := Lib.hid (HD5.out.avoid hn6)
  have HN6 := Lib.hid (New.trans HN5.out hn6)
  clear hw6 hn6 HD5 HN5
  generalize w5.heap.size = b5 at *
  refine (diskCrash HD6.out _ [1, 0] HK.out (fun k hk _ h => by cases hk; exact h.2 rfl) (by decide) (by decide)).mono ?_
  rintro e w7 ⟨rfl, hd7⟩
  have HL := HD6.out.lens
  have HS : Hid (sec (loseAll (crAll [(0, full 97), (0, full 98)] (zeros (128 * 2)) [1, 0]).2.2 [(0, full 97), (0, full 98)] (lay (lay (zeros (128 * 2)) 0 (full 97)) 0 (full 98))) 0 = full 97) := Lib.hid (awake_sec (full_length _) (full_length _) HL.1 HL.2.1)
  have HC : Hid ((crAll [(0, full 97), (0, full 98)] (zeros (128 * 2)) [1, 0]).2.1 = 2) := Lib.hid (by rw [awake_cr])
  have HN7 := Lib.hid (hd7.grow HN6.out (fun k hk => hk.1))
  have HD7 := Lib.hid (hd7.above (G := fun k => w.heap.size ≤ k) (fun k hk => hk.1) (fun k hk => Nat.le_trans HN6.out.size hk))
  clear hd7 HD6 HN6 HK HL
  rw [HC.out]
  generalize loseAll (crAll [(0, full 97), (0, full 98)] (zeros (128 * 2)) [1, 0]).2.2 _ _ = L7 at *
  generalize (crAll [(0, full 97), (0, full 98)] (zeros (128 * 2)) [1, 0]).2.2 = D7 at *
  go_wp2_with fail
  refine (diskRead HD7.out 0 (by decide)).mono ?_
  rintro e w8 ⟨a8, c8, rfl, hr8, hd8⟩
  rw [HS.out] at hr8
  have HR8 := Lib.hid (hr8.new (show New w8 w8.drew from (Below.refl _ _).drew))
  have HN8 := Lib.hid (hd8.grow HN7.out (fun k hk => hk)).drew
  clear hr8 hd8 HD7 HN7 HS
  go_upto_region 6 with fail
  refine region_ord (Str10 (.slice a8 128 c8) (full 97)) [(0, true), (1, true), (2, true), (3, true), (4, true), (5, true), (6, true), (7, true), (8, true), (9, false), (10, false), (11, true), (12, true), (13, true)] (by kernel_rfl) (by kernel_rfl) (str10 HR8.out) (fun _ => ?_)
  generalize w8.drew = w9 at *
  unfold Str10
  have HF : Hid (∀ wx, Calls Try.prog 12 #[.int .i64 128, .int .u8 97] wx fun e w' => e = .returned (.slice (some ⟨wx.heap.size, 0, none⟩) 128 128) ∧ RowB w' wx.heap.size (full 97) ∧ New wx w') :=
    Lib.hid (fun wx => (filled10 wx 97).mono fun e w' h => ⟨h.1, h.2.1, h.2.2.1⟩)
  have HA := Lib.hid (full_length 97)
  generalize full 97 = A at *
  iterate 9 (apply ord_take; (simp only [List.getElem?_toArray, List.getElem?_cons_succ, List.getElem?_cons_zero]; rfl); rfl; (intro w hSw; (try dsimp only at hSw); go_simp; try with_reducible rfl); intro _; try simp only [Act.put, List.setIfInBounds_toArray, List.set_cons_zero, List.set_cons_succ])
  (apply ord_only; (simp only [List.getElem?_toArray, List.getElem?_cons_succ, List.getElem?_cons_zero]; rfl); rfl; intro K hK)
  go_simp
  refine (HF.out w9).mono ?_
  rintro e wa ⟨rfl, hra, hna⟩
  have hrd := hra.rd (c := 128) (by rw [HA.out]; decide) (by decide)
  rw [HA.out] at hrd
  have HRa := Lib.hid hrd
  have HR9 := Lib.hid (HR8.out.new hna)
  have HN9 := Lib.hid (New.trans HN8.out hna)
  clear hra hna hrd HR8 HN8
  generalize w9.heap.size = b9 at *
  refine hK.out _ _ (str10 HR9.out) (fun _ => ?_)
  clear hK K
  try simp only [Act.put, List.setIfInBounds_toArray, List.set_cons_zero, List.set_cons_succ]
  (apply ord_only; (simp only [List.getElem?_toArray, List.getElem?_cons_succ, List.getElem?_cons_zero]; rfl); rfl; intro K hK)
  have ks := run_str (P := Try.prog) Try.underlying22 Try.underlying5 Try.underlying9 HRa.out
  go_simp
  clear ks
  refine hK.out _ _ (str10 HR9.out) (fun _ => ?_)
  clear hK K
  try simp only [Act.put, List.setIfInBounds_toArray, List.set_cons_zero, List.set_cons_succ]
  iterate 3 (apply ord_take; (simp only [List.getElem?_toArray, List.getElem?_cons_succ, List.getElem?_cons_zero]; rfl); rfl; (intro w hSw; (try dsimp only at hSw); go_simp; try with_reducible rfl); intro _; try simp only [Act.put, List.setIfInBounds_toArray, List.set_cons_zero, List.set_cons_succ])
  apply ord_done
  go_wp2
  go_ret
  exact ⟨rfl, HN9.out⟩

end Go.Proofs.Ytmalbfpipdebaaa
