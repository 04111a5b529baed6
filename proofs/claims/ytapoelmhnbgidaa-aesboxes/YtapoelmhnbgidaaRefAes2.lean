/-
  The reference's Boxes of layer 5.
-/
import Derived.Test.YtapoelmhnbgidaaRefAes1
import Derived.Test.YtapoelmhnbgidaaRefTab5
import Derived.Laws.MakeOwn
import Derived.OwnWalk
import Derived.Deep.OwnRows
namespace Go.Proofs.Ytapoelmhnbgidaa
set_option linter.unusedVariables false
set_option linter.unusedSimpArgs false
open Go.RowKit

theorem infoInt : (Try.prog.info? 3).map (fun i => (i.zero, i.size, i.bytes)) = some (some (.int .i64 0), 1, 8) := by kernel_rfl

/-- make([]int, n) -/
theorem run_make_ints (n : Nat) (hn : n ≤ 1000000) (wx : World) :
    (Instr.makeSlice 30 (.int .i64 (n : Int)) (.int .i64 (n : Int))).run Try.prog wx = .ok (.slice (some ⟨wx.heap.size, 0, none⟩) n n) (wx.alloc (.cells ((List.replicate n (0 : UInt8)).map iv).toArray 3)) := by
  have h := run_make_row' (P := Try.prog) 30 3 (.int .i64 0) 8 Try.underlying30 infoInt rfl .i64 .i64 n (by omega) (by omega) wx
  rw [h]
  have e : madeCells #[Value.int .i64 0] n = ((List.replicate n (0 : UInt8)).map iv).toArray := by
    apply Array.ext
    · simp [size_madeCells]
    · intro i h1 h2
      simp [madeCells, Nat.mod_one]
  rw [e]

theorem int_cell {wr : World} {p : Nat} {b : List UInt8} {i : Nat} {t : TypeId} (h : wr.heap[p]? = some (.cells (b.map iv).toArray t)) (hi : i < b.length) : wr.cell? ⟨p, i, none⟩ = some (iv (b.getD i 0)) := by
  rw [cell_of_row _ _ _ _ _ _ h, List.getElem?_toArray, List.getElem?_map, List.getD_eq_getElem?_getD, List.getElem?_eq_getElem hi]
  rfl

structure ExpIn5 (w : World) (i : Nat) (wr : World) : Prop where
  exp : wr.heap[w.heap.size]? = some (.cells ((fillTo pow3 (List.replicate 256 0) i).map iv).toArray 3)
  log : wr.heap[w.heap.size + 1]? = some (.cells ((logTo i).map iv).toArray 3)
  size : wr.heap.size = w.heap.size + 1 + 1
  new : New w wr

theorem ExpIn5.put {w : World} {i : Nat} {wr : World} (h : ExpIn5 w i wr) : ExpIn5 w (i + 1) ((wr.setCell ⟨w.heap.size, i, none⟩ (iv (pow3 i))).setCell ⟨w.heap.size + 1, (pow3 i).toNat, none⟩ (iv (UInt8.ofNat i))) := by
  have h1 : (wr.setCell ⟨w.heap.size, i, none⟩ (iv (pow3 i))).heap[w.heap.size + 1]? = some (.cells ((logTo i).map iv).toArray 3) := by
    rw [heap_setCell_other _ _ _ _ (by show _ ≠ w.heap.size; omega)]; exact h.log
  refine ⟨?_, ?_, by simpa using h.size, (h.new.setCell (Nat.le_refl _) _).setCell (by show w.heap.size ≤ w.heap.size + 1; omega) _⟩
  · rw [heap_setCell_other _ _ _ _ (by show _ ≠ w.heap.size + 1; omega), heap_setCell_same _ _ _ _ _ _ h.exp, List.setIfInBounds_toArray, ← List.map_set]; rfl
  · rw [heap_setCell_same _ _ _ _ _ _ h1, List.setIfInBounds_toArray, ← List.map_set]; rfl

structure OutIn5 (w : World) (E : List UInt8) (i : Nat) (wr : World) : Prop where
  exp : wr.heap[w.heap.size]? = some (.cells (E.map iv).toArray 3)
  log : wr.heap[w.heap.size + 1]? = some (.cells (logTab.map iv).toArray 3)
  out : wr.heap[w.heap.size + 1 + 1]? = some (.cells ((fillTo (fun n => gbox (UInt8.ofNat n)) (List.replicate 256 0) i).map iv).toArray 3)
  new : New w wr

theorem OutIn5.put {w : World} {E : List UInt8} {i : Nat} {wr : World} (h : OutIn5 w E i wr) : OutIn5 w E (i + 1) (wr.setCell ⟨w.heap.size + 1 + 1, i, none⟩ (iv (gbox (UInt8.ofNat i)))) := by
  refine ⟨?_, ?_, ?_, h.new.setCell (by show w.heap.size ≤ w.heap.size + 1 + 1; omega) _⟩
  · rw [heap_setCell_other _ _ _ _ (by show _ ≠ w.heap.size + 1 + 1; omega)]; exact h.exp
  · rw [heap_setCell_other _ _ _ _ (by show _ ≠ w.heap.size + 1 + 1; omega)]; exact h.log
  · rw [heap_setCell_same _ _ _ _ _ _ h.out, List.setIfInBounds_toArray, ← List.map_set]; rfl

attribute [local go_sem] i64_bxor

set_option maxRecDepth 100000 in
set_option maxHeartbeats 1000000 in
theorem refBoxes5 (w : World) : Calls Try.prog 13 #[] w fun e w' => ∃ g, e = .returned (.slice (some ⟨g, 0, none⟩) 256 256) ∧ w.heap.size ≤ g ∧ w'.heap[g]? = some (.cells (boxTab.map iv).toArray 3) ∧ New w w' := by
  have mk := fun wx => run_make_ints 256 (by decide) wx
  rw [show ((256 : Nat) : Int) = 256 from rfl] at mk
  have HZ : Hid ((List.replicate 256 (0 : UInt8)).length = 256) := Lib.hid List.length_replicate
  obtain ⟨Z, HZE⟩ : ∃ Z, Hid (List.replicate 256 (0 : UInt8) = Z) := ⟨_, Lib.hid rfl⟩
  rw [HZE.out] at mk HZ
  go_enter Try.func13, Try.ntmps13
  go_upto_region 3 with fail
  generalize hw1 : World.alloc (World.alloc w _) _ = w1
  have hin : ExpIn5 w 0 w1 := by
    rw [← hw1, ← HZE.out]
    exact ⟨heap_alloc2_old _ _ _, heap_alloc2_new _ _ _, by simp, ((Below.refl _ _).alloc (Nat.le_refl _) _).alloc (by simp) _⟩
  clear hw1
  have HI0 := Lib.hid hin
  clear hin
  go_wp2
  go_loopw [3, 4] (fun x i wr => ∃ k : Nat, k ≤ 255 ∧ i = .int .i64 k ∧ x = iv (pow3 k) ∧ ExpIn5 w k wr) (fun _ i _ => 255 - (intOf i).toNat)
  case atStart => exact ⟨0, by omega, rfl, rfl, HI0.out⟩
  case round =>
    clear HI0
    obtain ⟨k, hk, rfl, rfl, hin⟩ := hrel
    by_cases hlt : k < 255
    · have hc1 := int_cell (i := k) hin.exp (by rw [fillTo_length, List.length_replicate]; omega)
      have hf1 := frozen_of_row _ _ k _ _ hin.exp
      have hx := u8_lt (pow3 k)
      have hc2 := int_cell (i := (pow3 k).toNat) hin.log (by rw [logTo_length]; exact hx)
      have hf2 := frozen_of_row _ _ (pow3 k).toNat _ _ hin.log
      have HP := Lib.hid hin.put
      have HS := Lib.hid (pow3_gmul k hlt)
      have h8 : (k : Int) < 255 := by omega
      have h9 : (k : Int) < 256 := by omega
      have E1 : Hid (((UInt8.ofNat k).toNat : Int) = (k : Int)) := by show _ = _; rw [UInt8.toNat_ofNat']; omega
      clear hin
      generalize UInt8.ofNat k = kk at HP E1
      generalize pow3 k = x at *
      generalize (logTo k).getD x.toNat 0 = z2 at hc2
      generalize List.getD (fillTo _ _ k) k 0 = z1 at hc1
      have h10 : (x.toNat : Int) < 256 := by omega
      go_wp2_with (go_at_call 15; refine (refMul5 _ _ 3).mono ?_; rintro e w' ⟨rfl, rfl⟩)
      go_roundw
      case rel =>
        refine ⟨k + 1, by omega, by go_num, by rw [HS.out], ?_⟩
        have h := HP.out
        unfold iv at h
        rw [E1.out] at h
        exact h
      case measure => simp [intOf]; omega
    · obtain rfl : k = 255 := by omega
      rw [show ((255 : Nat) : Int) = 255 from rfl]
      have hsz := hin.size
      go_upto_region 11 with fail
      generalize hw2 : World.alloc wr _ = w2
      have HPL : Hid (∀ i, i < 255 → (fillTo pow3 (List.replicate 256 0) 255).getD i 0 = pow3 i) := Lib.hid (fun i hi => fillTo_lt _ _ _ _ hi (by rw [List.length_replicate]; omega))
      have HLL : Hid ((fillTo pow3 (List.replicate 256 0) 255).length = 256) := by show _ = _; rw [fillTo_length, List.length_replicate]
      have hin2 : OutIn5 w (fillTo pow3 (List.replicate 256 0) 255) 0 w2 := by
        have hn2 : New wr w2 := by rw [← hw2]; exact (Below.refl _ _).alloc (Nat.le_refl _) _
        have hl := (hn2.block _ (lt_of_block hin.log)).trans hin.log
        rw [logTo_all] at hl
        refine ⟨(hn2.block _ (lt_of_block hin.exp)).trans hin.exp, hl, ?_, New.trans hin.new hn2⟩
        rw [← hw2, ← hsz, ← HZE.out]
        exact heap_alloc_new _ _
      clear hw2 hsz hin mk
      generalize fillTo pow3 (List.replicate 256 0) 255 = E at *
      have HI2 := Lib.hid hin2
      clear hin2
      go_wp2
      go_loopw [6] (fun c wr => ∃ k : Nat, k ≤ 256 ∧ c = .int .i64 k ∧ OutIn5 w E k wr) (fun c _ => 256 - (intOf c).toNat)
      case atStart => exact ⟨0, by omega, rfl, HI2.out⟩
      case round =>
        clear HI2
        obtain ⟨c, hc, rfl, hin⟩ := hrel
        by_cases hlt2 : c < 256
        · have HIN := Lib.hid hin
          have hoc := int_cell (i := c) hin.out (by rw [fillTo_length, List.length_replicate]; exact hlt2)
          have hof := frozen_of_row _ _ c _ _ hin.out
          have HP := Lib.hid hin.put
          have HY := Lib.hid (yTo_box (UInt8.ofNat c))
          have h256 : (c : Int) < 256 := by omega
          generalize List.getD (fillTo _ _ c) c 0 = oz at hoc
          obtain ⟨b, HBE⟩ : ∃ b, Hid (ginv (UInt8.ofNat c) = b) := ⟨_, Lib.hid rfl⟩
          rw [HBE.out] at HY
          by_cases hc0 : c = 0
          · have HB0 : Hid (b = 0) := by show _ = _; rw [← HBE.out, hc0]; exact ginv_0
            have hg : ¬ (0 : Int) < (c : Int) := by omega
            clear HIN hin hc0
            go_wp2
            go_loop [7, 8, 9] (fun v y k => ∃ j : Nat, j ≤ 4 ∧ k = .int .i64 j ∧ v = iv (rots b j) ∧ y = iv (yTo b j)) (fun _ _ k => 4 - (intOf k).toNat)
            case atStart => exact ⟨0, by omega, rfl, by rw [HB0.out]; rfl, by rw [HB0.out]; rfl⟩
            case round =>
              obtain ⟨j, hj, rfl, rfl, rfl⟩ := hrel
              by_cases hlt3 : j < 4
              · have HR : Hid (rots b (j + 1) = UInt8.ofNat (((rots b j).toNat * 2 + (rots b j).toNat / 128) % 256)) := Lib.hid rfl
                have HYS : Hid (yTo b (j + 1) = bxor (yTo b j) (rots b (j + 1))) := Lib.hid rfl
                have hj4 : (j : Int) < 4 := by omega
                have hx := u8_lt (rots b j)
                generalize rots b j = x at *
                have HST : Hid (((x.toNat : Int) * 2 + (x.toNat : Int) / 128) % 256 = ((rots b (j + 1)).toNat : Int)) := by
                  show _ = _
                  rw [HR.out, UInt8.toNat_ofNat']; omega
                generalize yTo b j = y at *
                have hx2 : (x.toNat : Int) < 256 := by omega
                go_wp2
                go_round
                case rel => exact ⟨j + 1, by omega, by go_num, congrArg (Value.int .i64) HST.out, by rw [HYS.out]; exact congrArg (Value.int .i64) (by rw [HST.out, i64_bxor])⟩
                case measure => simp [intOf]; omega
              · obtain rfl : j = 4 := by omega
                rw [show ((4 : Nat) : Int) = 4 from rfl, HY.out]
                generalize gbox (UInt8.ofNat c) = r at *
                go_wp2
                go_roundw
                case rel => exact ⟨c + 1, by omega, by go_num, HP.out⟩
                case measure => simp [intOf]; omega
          · have hg : (0 : Int) < (c : Int) := by omega
            have hcl := int_cell (i := c) hin.log (by show c < 256; exact hlt2)
            have hlt254 := logTab_lt c hlt2
            have HV := Lib.hid (logTab_inv c hlt2 hc0)
            rw [HBE.out] at HV
            have hm : (255 - (logTab.getD c 0).toNat) % 255 < 255 := Nat.mod_lt _ (by decide)
            have hce := int_cell (i := (255 - (logTab.getD c 0).toNat) % 255) hin.exp (by rw [HLL.out]; omega)
            rw [HPL.out _ hm, HV.out] at hce
            clear HV
            generalize logTab.getD c 0 = lc at *
            have H99 : Hid (bits .xor .i64 99 (b.toNat : Int) = ((yTo b 0).toNat : Int)) := Lib.hid (i64_bxor 99 b)
            have h9 : 0 ≤ 255 - (lc.toNat : Int) := by omega
            have h10 : ((255 - (lc.toNat : Int)) % 255).toNat = (255 - lc.toNat) % 255 := by omega
            have h11 : 0 ≤ (255 - (lc.toNat : Int)) % 255 := by omega
            have h12 : (255 - (lc.toNat : Int)) % 255 < 256 := by omega
            have h14 : (-(lc.toNat : Int) % 255).toNat = (255 - lc.toNat) % 255 := by omega
            have h15 : 0 ≤ -(lc.toNat : Int) % 255 := by omega
            have h16 : -(lc.toNat : Int) % 255 < 256 := by omega
            have h17 : (lc.toNat : Int) ≤ 254 := by omega
            generalize (255 - lc.toNat) % 255 = m at *
            clear HIN hin hc0 hm
            go_wp2
            clear h9 h10 h11 h12 h14 h15 h16 h17 hce hcl hlt254
            go_loop [7, 8, 9] (fun v y k => ∃ j : Nat, j ≤ 4 ∧ k = .int .i64 j ∧ v = iv (rots b j) ∧ y = iv (yTo b j)) (fun _ _ k => 4 - (intOf k).toNat)
            case atStart => exact ⟨0, by omega, rfl, rfl, congrArg (Value.int .i64) H99.out⟩
            case round =>
              obtain ⟨j, hj, rfl, rfl, rfl⟩ := hrel
              by_cases hlt3 : j < 4
              · have HR : Hid (rots b (j + 1) = UInt8.ofNat (((rots b j).toNat * 2 + (rots b j).toNat / 128) % 256)) := Lib.hid rfl
                have HYS : Hid (yTo b (j + 1) = bxor (yTo b j) (rots b (j + 1))) := Lib.hid rfl
                have hj4 : (j : Int) < 4 := by omega
                have hx := u8_lt (rots b j)
                generalize rots b j = x at *
                have HST : Hid (((x.toNat : Int) * 2 + (x.toNat : Int) / 128) % 256 = ((rots b (j + 1)).toNat : Int)) := by
                  show _ = _
                  rw [HR.out, UInt8.toNat_ofNat']; omega
                generalize yTo b j = y at *
                have hx2 : (x.toNat : Int) < 256 := by omega
                go_wp2
                go_round
                case rel => exact ⟨j + 1, by omega, by go_num, congrArg (Value.int .i64) HST.out, by rw [HYS.out]; exact congrArg (Value.int .i64) (by rw [HST.out, i64_bxor])⟩
                case measure => simp [intOf]; omega
              · obtain rfl : j = 4 := by omega
                rw [show ((4 : Nat) : Int) = 4 from rfl, HY.out]
                generalize gbox (UInt8.ofNat c) = r at *
                go_wp2
                go_roundw
                case rel => exact ⟨c + 1, by omega, by go_num, HP.out⟩
                case measure => simp [intOf]; omega
        · obtain rfl : c = 256 := by omega
          rw [show ((256 : Nat) : Int) = 256 from rfl]
          have ho := hin.out
          rw [boxes_all] at ho
          have HN := Lib.hid hin.new
          clear hin
          go_wp2
          go_ret
          exact ⟨_, rfl, by omega, ho, HN.out⟩

end Go.Proofs.Ytapoelmhnbgidaa
