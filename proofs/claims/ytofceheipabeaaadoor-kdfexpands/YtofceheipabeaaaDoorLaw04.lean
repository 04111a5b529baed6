/-
  The statements of layer 4: their own helper.
-/
import Derived.Test.YtofceheipabeaaaDoorRefMac
import Derived.Test.YtofceheipabeaaaDoorKdfA
import Derived.Test.YtofceheipabeaaaDoorMacA
namespace Go.Proofs.YtofceheipabeaaaDoor
set_option linter.unusedVariables false
set_option linter.unusedSimpArgs false
open Go.RowKit

def saltTo (j : Nat) : List UInt8 := (List.range 13).map fun k => if k < j then UInt8.ofNat k else 0
def textTo (j : Nat) : List UInt8 := (List.range 22).map fun k => if k < j then 11 else 0

theorem saltTo_set : ∀ j, j < 13 → (saltTo j).set j (UInt8.ofNat j) = saltTo (j + 1) := by decide
theorem saltTo_past : ∀ j, j < 22 → 13 ≤ j → saltTo (j + 1) = saltTo j := by decide
theorem textTo_set : ∀ j, j < 22 → (textTo j).set j 11 = textTo (j + 1) := by decide
theorem saltTo_length (j : Nat) : (saltTo j).length = 13 := by simp [saltTo]
theorem textTo_length (j : Nat) : (textTo j).length = 22 := by simp [textTo]

set_option maxRecDepth 100000 in
theorem hex_rfc : hexOf (hmac (saltTo 22) (textTo 22)) = [48, 55, 55, 55, 48, 57, 51, 54, 50, 99, 50, 101, 51, 50, 100, 102, 48, 100, 100, 99, 51, 102, 48, 100, 99, 52, 55, 98, 98, 97, 54, 51, 57, 48, 98, 54, 99, 55, 51, 98, 98, 53, 48, 102, 57, 99, 51, 49, 50, 50, 101, 99, 56, 52, 52, 97, 100, 55, 99, 50, 98, 51, 101, 53] := by
  kernel_rfl

structure WakeIn (w : World) (p q j : Nat) (wr : World) : Prop where
  pq : p ≠ q
  hp : w.heap.size ≤ p
  hq : w.heap.size ≤ q
  salt : wr.heap[p]? = some (.cells ((saltTo j).map bv).toArray 5)
  text : wr.heap[q]? = some (.cells ((textTo j).map bv).toArray 5)
  new : New w wr

theorem WakeIn.one {w : World} {p q j : Nat} {wr : World} (h : WakeIn w p q j wr) (hj : j < 22) (h13 : 13 ≤ j) : WakeIn w p q (j + 1) (wr.setCell ⟨q, j, none⟩ (.int .u8 11)) := by
  refine ⟨h.pq, h.hp, h.hq, ?_, ?_, h.new.setCell h.hq _⟩
  · rw [saltTo_past j hj h13]; exact (Below.heap_setCell _ _ _ _ h.pq).trans h.salt
  · rw [heap_setCell_same _ _ _ _ _ _ h.text, List.setIfInBounds_toArray, ← textTo_set j hj, List.map_set]; rfl

theorem WakeIn.two {w : World} {p q j : Nat} {wr : World} (h : WakeIn w p q j wr) (hj : j < 13) : WakeIn w p q (j + 1) ((wr.setCell ⟨q, j, none⟩ (.int .u8 11)).setCell ⟨p, j, none⟩ (.int .u8 (j : Int))) := by
  have hs : (wr.setCell ⟨q, j, none⟩ (.int .u8 11)).heap[p]? = some (.cells ((saltTo j).map bv).toArray 5) := (Below.heap_setCell _ _ _ _ h.pq).trans h.salt
  refine ⟨h.pq, h.hp, h.hq, ?_, ?_, (h.new.setCell h.hq _).setCell h.hp _⟩
  · rw [heap_setCell_same _ _ _ _ _ _ hs, List.setIfInBounds_toArray, ← saltTo_set j hj, List.map_set]
    unfold bv
    rw [show ((UInt8.ofNat j).toNat : Int) = (j : Int) by rw [UInt8.toNat_ofNat']; omega]
  · refine (Below.heap_setCell _ _ _ _ (Ne.symm h.pq)).trans ?_
    rw [heap_setCell_same _ _ _ _ _ _ h.text, List.setIfInBounds_toArray, ← textTo_set j (by omega), List.map_set]; rfl

theorem byte_at {w : World} {p j : Nat} {l : List UInt8} {t : TypeId} (h : w.heap[p]? = some (.cells (l.map bv).toArray t)) (hj : j < l.length) : w.cell? ⟨p, j, none⟩ = some (bv (l.getD j 0)) := byte_cell h hj

set_option maxRecDepth 100000 in
set_option maxHeartbeats 400000 in
theorem awake04 (w : World) (hL : Laid w) : Calls Tryd.prog 6 #[] w fun e w' => e = .returned (.bool true) ∧ New w w' := by
  have HL := Lib.hid hL
  clear hL
  go_enter Tryd.func6, Tryd.ntmps6
  have m13 : ∀ wx : World, (Instr.makeSlice 22 (.int .i64 13) (.int .i64 13)).run Tryd.prog wx = .ok (.slice (some ⟨wx.heap.size, 0, none⟩) 13 13) (wx.alloc (.cells ((saltTo 0).map bv).toArray 5)) := fun wx => run_make_bytes 13 13 (by omega) (by omega) (by omega) wx
  have m22 : ∀ wx : World, (Instr.makeSlice 22 (.int .i64 22) (.int .i64 22)).run Tryd.prog wx = .ok (.slice (some ⟨wx.heap.size, 0, none⟩) 22 22) (wx.alloc (.cells ((textTo 0).map bv).toArray 5)) := fun wx => run_make_bytes 22 22 (by omega) (by omega) (by omega) wx
  go_wp2
  go_region
  · have HI0 : Hid (WakeIn w w.heap.size (w.heap.size + 1) 0 ((w.alloc (.cells ((saltTo 0).map bv).toArray 5)).alloc (.cells ((textTo 0).map bv).toArray 5)).drew) := by
      have N1 : New w (w.alloc (.cells ((saltTo 0).map bv).toArray 5)) := (Below.refl _ _).alloc (Nat.le_refl _) _
      have N2 : New (w.alloc (.cells ((saltTo 0).map bv).toArray 5)) ((w.alloc (.cells ((saltTo 0).map bv).toArray 5)).alloc (.cells ((textTo 0).map bv).toArray 5)) := (Below.refl _ _).alloc (Nat.le_refl _) _
      have e1 := heap_alloc_new w (.cells ((saltTo 0).map bv).toArray 5)
      have e2 := heap_alloc_new (w.alloc (.cells ((saltTo 0).map bv).toArray 5)) (.cells ((textTo 0).map bv).toArray 5)
      rw [show (w.alloc (.cells ((saltTo 0).map bv).toArray 5)).heap.size = w.heap.size + 1 by simp] at e2
      have e3 := (N2.block w.heap.size (by simp)).trans e1
      exact ⟨by omega, by omega, by omega, e3, e2, (New.trans N1 N2).drew⟩
    generalize ((w.alloc (.cells ((saltTo 0).map bv).toArray 5)).alloc (.cells ((textTo 0).map bv).toArray 5)).drew = W at *
    obtain ⟨p, hp⟩ : ∃ p, p = w.heap.size := ⟨_, rfl⟩
    obtain ⟨q, hq⟩ : ∃ q, q = (w.heap.size + 1) := ⟨_, rfl⟩
    rw [← hq, ← hp] at HI0
    rw [← hq, ← hp]
    clear hp hq
    go_wp2
    go_loopw [3] (fun i wr => ∃ j : Nat, j ≤ 22 ∧ i = .int .i64 j ∧ WakeIn w p q j wr) (fun i _ => 22 - (intOf i).toNat)
    case atStart => exact ⟨0, by omega, rfl, HI0.out⟩
    case round =>
      obtain ⟨j, hj, rfl, hin⟩ := hrel
      by_cases hlt : j < 22
      · have h22 : (j : Int) < 22 := by omega
        have hc1 := byte_at hin.text (j := j) (by rw [textTo_length]; exact hlt)
        have hf1 := frozen_of_row wr q j _ _ hin.text
        by_cases h13 : j < 13
        · have hi13 : (j : Int) < 13 := by omega
          have hs : (wr.setCell ⟨q, j, none⟩ (.int .u8 11)).heap[p]? = some (.cells ((saltTo j).map bv).toArray 5) := (Below.heap_setCell _ _ _ _ hin.pq).trans hin.salt
          have hc2 := byte_at hs (j := j) (by rw [saltTo_length]; exact h13)
          have hf2 := frozen_of_row _ p j _ _ hs
          have HP := Lib.hid (hin.two h13)
          clear hin hs
          go_wp2
          go_roundw
          case rel => exact ⟨j + 1, by omega, by go_num, HP.out⟩
          case measure => simp [intOf]; omega
        · have hi13 : ¬ (j : Int) < 13 := by omega
          have HP := Lib.hid (hin.one hlt (by omega))
          clear hin
          go_wp2
          go_roundw
          case rel => exact ⟨j + 1, by omega, by go_num, HP.out⟩
          case measure => simp [intOf]; omega
      · obtain rfl : j = 22 := by omega
        have r1 := rd_of_row hin.salt (by rw [saltTo_length]; decide)
        have r2 := rd_of_row hin.text (by rw [textTo_length]; decide)
        rw [saltTo_length] at r1
        rw [textTo_length] at r2
        have HK := Lib.hid (kdfExtract wr _ _ _ _ r1 (by rw [saltTo_length]; decide) r2 (by rw [textTo_length]; decide) (HL.out.new hin.new))
        have HN := Lib.hid hin.new
        have HX := Lib.hid hex_rfc
        have hxl := hmac_length (saltTo 22) (textTo 22)
        clear hin r1 r2
        generalize hmac (saltTo 22) (textTo 22) = L at *
        rw [show ((22 : Nat) : Int) = 22 from rfl]
        go_wp2_with fail
        refine HK.out.mono ?_
        rintro e w1 ⟨a, n, c, rfl, hr, rfl, hn1⟩
        have ks := run_str (P := Tryd.prog) Tryd.underlying22 Tryd.underlying5 Tryd.underlying9 hr
        clear hr
        go_wp2_with fail
        refine (refHex w1 L (by omega)).mono ?_
        rintro e w2 ⟨rfl, hn2⟩
        have kb : ((bstr (hexOf L)).toList == [48, 55, 55, 55, 48, 57, 51, 54, 50, 99, 50, 101, 51, 50, 100, 102, 48, 100, 100, 99, 51, 102, 48, 100, 99, 52, 55, 98, 98, 97, 54, 51, 57, 48, 98, 54, 99, 55, 51, 98, 98, 53, 48, 102, 57, 99, 51, 49, 50, 50, 101, 99, 56, 52, 52, 97, 100, 55, 99, 50, 98, 51, 101, 53]) = true := by rw [bstr_list, HX.out]; decide
        clear hxl ks
        go_wp2
        go_ret
        exact ⟨rfl, New.trans HN.out (New.trans hn1 hn2)⟩
  · have HI0 : Hid (WakeIn w (w.heap.size + 1) w.heap.size 0 ((w.alloc (.cells ((textTo 0).map bv).toArray 5)).alloc (.cells ((saltTo 0).map bv).toArray 5)).drew) := by
      have N1 : New w (w.alloc (.cells ((textTo 0).map bv).toArray 5)) := (Below.refl _ _).alloc (Nat.le_refl _) _
      have N2 : New (w.alloc (.cells ((textTo 0).map bv).toArray 5)) ((w.alloc (.cells ((textTo 0).map bv).toArray 5)).alloc (.cells ((saltTo 0).map bv).toArray 5)) := (Below.refl _ _).alloc (Nat.le_refl _) _
      have e1 := heap_alloc_new w (.cells ((textTo 0).map bv).toArray 5)
      have e2 := heap_alloc_new (w.alloc (.cells ((textTo 0).map bv).toArray 5)) (.cells ((saltTo 0).map bv).toArray 5)
      rw [show (w.alloc (.cells ((textTo 0).map bv).toArray 5)).heap.size = w.heap.size + 1 by simp] at e2
      have e3 := (N2.block w.heap.size (by simp)).trans e1
      exact ⟨by omega, by omega, by omega, e2, e3, (New.trans N1 N2).drew⟩
    generalize ((w.alloc (.cells ((textTo 0).map bv).toArray 5)).alloc (.cells ((saltTo 0).map bv).toArray 5)).drew = W at *
    obtain ⟨p, hp⟩ : ∃ p, p = (w.heap.size + 1) := ⟨_, rfl⟩
    obtain ⟨q, hq⟩ : ∃ q, q = w.heap.size := ⟨_, rfl⟩
    rw [← hp, ← hq] at HI0
    rw [← hp, ← hq]
    clear hp hq
    go_wp2
    go_loopw [3] (fun i wr => ∃ j : Nat, j ≤ 22 ∧ i = .int .i64 j ∧ WakeIn w p q j wr) (fun i _ => 22 - (intOf i).toNat)
    case atStart => exact ⟨0, by omega, rfl, HI0.out⟩
    case round =>
      obtain ⟨j, hj, rfl, hin⟩ := hrel
      by_cases hlt : j < 22
      · have h22 : (j : Int) < 22 := by omega
        have hc1 := byte_at hin.text (j := j) (by rw [textTo_length]; exact hlt)
        have hf1 := frozen_of_row wr q j _ _ hin.text
        by_cases h13 : j < 13
        · have hi13 : (j : Int) < 13 := by omega
          have hs : (wr.setCell ⟨q, j, none⟩ (.int .u8 11)).heap[p]? = some (.cells ((saltTo j).map bv).toArray 5) := (Below.heap_setCell _ _ _ _ hin.pq).trans hin.salt
          have hc2 := byte_at hs (j := j) (by rw [saltTo_length]; exact h13)
          have hf2 := frozen_of_row _ p j _ _ hs
          have HP := Lib.hid (hin.two h13)
          clear hin hs
          go_wp2
          go_roundw
          case rel => exact ⟨j + 1, by omega, by go_num, HP.out⟩
          case measure => simp [intOf]; omega
        · have hi13 : ¬ (j : Int) < 13 := by omega
          have HP := Lib.hid (hin.one hlt (by omega))
          clear hin
          go_wp2
          go_roundw
          case rel => exact ⟨j + 1, by omega, by go_num, HP.out⟩
          case measure => simp [intOf]; omega
      · obtain rfl : j = 22 := by omega
        have r1 := rd_of_row hin.salt (by rw [saltTo_length]; decide)
        have r2 := rd_of_row hin.text (by rw [textTo_length]; decide)
        rw [saltTo_length] at r1
        rw [textTo_length] at r2
        have HK := Lib.hid (kdfExtract wr _ _ _ _ r1 (by rw [saltTo_length]; decide) r2 (by rw [textTo_length]; decide) (HL.out.new hin.new))
        have HN := Lib.hid hin.new
        have HX := Lib.hid hex_rfc
        have hxl := hmac_length (saltTo 22) (textTo 22)
        clear hin r1 r2
        generalize hmac (saltTo 22) (textTo 22) = L at *
        rw [show ((22 : Nat) : Int) = 22 from rfl]
        go_wp2_with fail
        refine HK.out.mono ?_
        rintro e w1 ⟨a, n, c, rfl, hr, rfl, hn1⟩
        have ks := run_str (P := Tryd.prog) Tryd.underlying22 Tryd.underlying5 Tryd.underlying9 hr
        clear hr
        go_wp2_with fail
        refine (refHex w1 L (by omega)).mono ?_
        rintro e w2 ⟨rfl, hn2⟩
        have kb : ((bstr (hexOf L)).toList == [48, 55, 55, 55, 48, 57, 51, 54, 50, 99, 50, 101, 51, 50, 100, 102, 48, 100, 100, 99, 51, 102, 48, 100, 99, 52, 55, 98, 98, 97, 54, 51, 57, 48, 98, 54, 99, 55, 51, 98, 98, 53, 48, 102, 57, 99, 51, 49, 50, 50, 101, 99, 56, 52, 52, 97, 100, 55, 99, 50, 98, 51, 101, 53]) = true := by rw [bstr_list, HX.out]; decide
        clear hxl ks
        go_wp2
        go_ret
        exact ⟨rfl, New.trans HN.out (New.trans hn1 hn2)⟩

end Go.Proofs.YtofceheipabeaaaDoor
