/-
  The statements of layer 5: their own helpers.
-/
import Derived.Test.YtapoelmhnbgidaaAesBlock
import Derived.Test.YtapoelmhnbgidaaRefHex
namespace Go.Proofs.Ytapoelmhnbgidaa
set_option linter.unusedVariables false
set_option linter.unusedSimpArgs false
open Go.RowKit

def wakeKey : List UInt8 := [0, 1, 2, 3, 4, 5, 6, 7, 8, 9, 10, 11, 12, 13, 14, 15]
def wakeBlock : List UInt8 := [0, 17, 34, 51, 68, 85, 102, 119, 136, 153, 170, 187, 204, 221, 238, 255]

theorem wakeRk0 : rk wakeKey 0 = [0, 1, 2, 3, 4, 5, 6, 7, 8, 9, 10, 11, 12, 13, 14, 15] := rfl
theorem wakePw0 : dbls 1 0 = 1 := by decide +kernel
theorem wakeRk1 : rk wakeKey 1 = [214, 170, 116, 253, 210, 175, 114, 250, 218, 166, 120, 241, 214, 171, 118, 254] := by
  rw [rk, wakeRk0, wakePw0]; decide +kernel
theorem wakePw1 : dbls 1 1 = 2 := by decide +kernel
theorem wakeRk2 : rk wakeKey 2 = [182, 146, 207, 11, 100, 61, 189, 241, 190, 155, 197, 0, 104, 48, 179, 254] := by
  rw [rk, wakeRk1, wakePw1]; decide +kernel
theorem wakePw2 : dbls 1 2 = 4 := by decide +kernel
theorem wakeRk3 : rk wakeKey 3 = [182, 255, 116, 78, 210, 194, 201, 191, 108, 89, 12, 191, 4, 105, 191, 65] := by
  rw [rk, wakeRk2, wakePw2]; decide +kernel
theorem wakePw3 : dbls 1 3 = 8 := by decide +kernel
theorem wakeRk4 : rk wakeKey 4 = [71, 247, 247, 188, 149, 53, 62, 3, 249, 108, 50, 188, 253, 5, 141, 253] := by
  rw [rk, wakeRk3, wakePw3]; decide +kernel
theorem wakePw4 : dbls 1 4 = 16 := by decide +kernel
theorem wakeRk5 : rk wakeKey 5 = [60, 170, 163, 232, 169, 159, 157, 235, 80, 243, 175, 87, 173, 246, 34, 170] := by
  rw [rk, wakeRk4, wakePw4]; decide +kernel
theorem wakePw5 : dbls 1 5 = 32 := by decide +kernel
theorem wakeRk6 : rk wakeKey 6 = [94, 57, 15, 125, 247, 166, 146, 150, 167, 85, 61, 193, 10, 163, 31, 107] := by
  rw [rk, wakeRk5, wakePw5]; decide +kernel
theorem wakePw6 : dbls 1 6 = 64 := by decide +kernel
theorem wakeRk7 : rk wakeKey 7 = [20, 249, 112, 26, 227, 95, 226, 140, 68, 10, 223, 77, 78, 169, 192, 38] := by
  rw [rk, wakeRk6, wakePw6]; decide +kernel
theorem wakePw7 : dbls 1 7 = 128 := by decide +kernel
theorem wakeRk8 : rk wakeKey 8 = [71, 67, 135, 53, 164, 28, 101, 185, 224, 22, 186, 244, 174, 191, 122, 210] := by
  rw [rk, wakeRk7, wakePw7]; decide +kernel
theorem wakePw8 : dbls 1 8 = 27 := by decide +kernel
theorem wakeRk9 : rk wakeKey 9 = [84, 153, 50, 209, 240, 133, 87, 104, 16, 147, 237, 156, 190, 44, 151, 78] := by
  rw [rk, wakeRk8, wakePw8]; decide +kernel
theorem wakePw9 : dbls 1 9 = 54 := by decide +kernel
theorem wakeRk10 : rk wakeKey 10 = [19, 17, 29, 127, 227, 148, 74, 23, 243, 7, 167, 139, 77, 43, 48, 197] := by
  rw [rk, wakeRk9, wakePw9]; decide +kernel
theorem wakeEnc0 : enc wakeKey wakeBlock 0 = [0, 16, 32, 48, 64, 80, 96, 112, 128, 144, 160, 176, 192, 208, 224, 240] := by decide +kernel
theorem wakeEnc1 : enc wakeKey wakeBlock 1 = [137, 216, 16, 232, 133, 90, 206, 104, 45, 24, 67, 216, 203, 18, 143, 228] := by
  rw [enc, wakeEnc0, wakeRk1]; decide +kernel
theorem wakeEnc2 : enc wakeKey wakeBlock 2 = [73, 21, 89, 143, 85, 229, 215, 160, 218, 202, 148, 250, 31, 10, 99, 247] := by
  rw [enc, wakeEnc1, wakeRk2]; decide +kernel
theorem wakeEnc3 : enc wakeKey wakeBlock 3 = [250, 99, 106, 40, 37, 179, 57, 201, 64, 102, 138, 49, 87, 36, 77, 23] := by
  rw [enc, wakeEnc2, wakeRk3]; decide +kernel
theorem wakeEnc4 : enc wakeKey wakeBlock 4 = [36, 114, 64, 35, 105, 102, 179, 250, 110, 210, 117, 50, 136, 66, 91, 108] := by
  rw [enc, wakeEnc3, wakeRk4]; decide +kernel
theorem wakeEnc5 : enc wakeKey wakeBlock 5 = [200, 22, 119, 188, 155, 122, 201, 59, 37, 2, 121, 146, 176, 38, 25, 150] := by
  rw [enc, wakeEnc4, wakeRk5]; decide +kernel
theorem wakeEnc6 : enc wakeKey wakeBlock 6 = [198, 47, 225, 9, 247, 94, 237, 195, 204, 121, 57, 93, 132, 249, 207, 93] := by
  rw [enc, wakeEnc5, wakeRk6]; decide +kernel
theorem wakeEnc7 : enc wakeKey wakeBlock 7 = [209, 135, 108, 15, 121, 196, 48, 10, 180, 85, 148, 173, 214, 111, 244, 31] := by
  rw [enc, wakeEnc6, wakeRk7]; decide +kernel
theorem wakeEnc8 : enc wakeKey wakeBlock 8 = [253, 227, 186, 210, 5, 229, 208, 215, 53, 71, 150, 78, 241, 254, 55, 241] := by
  rw [enc, wakeEnc7, wakeRk8]; decide +kernel
theorem wakeEnc9 : enc wakeKey wakeBlock 9 = [189, 110, 124, 61, 242, 181, 119, 158, 11, 97, 33, 110, 139, 16, 182, 137] := by
  rw [enc, wakeEnc8, wakeRk9]; decide +kernel
theorem wakeEnc10 : enc wakeKey wakeBlock 10 = [105, 196, 224, 216, 106, 123, 4, 48, 216, 205, 183, 128, 112, 180, 197, 90] := by
  rw [enc, wakeEnc9, wakeRk10]; decide +kernel

theorem wake_hex : hexOf (enc wakeKey wakeBlock 10) = [54, 57, 99, 52, 101, 48, 100, 56, 54, 97, 55, 98, 48, 52, 51, 48, 100, 56, 99, 100, 98, 55, 56, 48, 55, 48, 98, 52, 99, 53, 53, 97] := by rw [wakeEnc10]; decide +kernel

theorem arr16_all (wx : World) (p : Nat) : (Instr.sliceAt 22 (.pointer (some ⟨p, 0, none⟩)) none none none).run Try.prog wx = .ok (.slice (some ⟨p, 0, none⟩) 16 16) wx := by
  rw [run_sliceAt_array_all wx _ _ arr16, arr16_size, arr16_len]
  simp only [Result.andThen_ok, slicedAt]
  rfl

set_option maxRecDepth 100000 in
set_option maxHeartbeats 400000 in
theorem lawText (w : World) (b : List UInt8) (hb : b.length = 16) :
    Calls Try.prog 8 #[.agg (b.map bv).toArray] w fun e w' => e = .returned (.string (bstr b)) ∧ New w w' := by
  have hsl := fun wx => arr16_all wx w.heap.size
  have hn : New w (w.alloc (.cells (b.map bv).toArray 22)) := (Below.refl _ _).alloc (Nat.le_refl _) _
  have hr : Rd (w.alloc (.cells (b.map bv).toArray 22)) (.slice (some ⟨w.heap.size, 0, none⟩) 16 16) b := by
    have := rd_of_row (heap_alloc_new w (.cells (b.map bv).toArray 22)) (by rw [hb]; decide)
    rwa [hb] at this
  have ks := run_str (P := Try.prog) Try.underlying38 Try.underlying5 Try.underlying9 hr
  clear hr hb
  go_enter Try.func8, Try.ntmps8
  go_wp2
  go_ret
  exact ⟨rfl, hn⟩

structure Wake5 (w : World) (j : Nat) (wr : World) : Prop where
  key : wr.heap[w.heap.size]? = some (.cells ((fillTo UInt8.ofNat zeros16 j).map bv).toArray 22)
  blk : wr.heap[w.heap.size + 1]? = some (.cells ((fillTo (fun n => UInt8.ofNat (17 * n)) zeros16 j).map bv).toArray 22)
  new : New w wr

theorem Wake5.put {w : World} {j : Nat} {wr : World} (h : Wake5 w j wr) : Wake5 w (j + 1) ((wr.setCell ⟨w.heap.size, j, none⟩ (bv (UInt8.ofNat j))).setCell ⟨w.heap.size + 1, j, none⟩ (bv (UInt8.ofNat (17 * j)))) := by
  have h1 : (wr.setCell ⟨w.heap.size, j, none⟩ (bv (UInt8.ofNat j))).heap[w.heap.size + 1]? = some (.cells ((fillTo (fun n => UInt8.ofNat (17 * n)) zeros16 j).map bv).toArray 22) := by
    rw [heap_setCell_other _ _ _ _ (by show _ ≠ w.heap.size; omega)]; exact h.blk
  refine ⟨?_, ?_, (h.new.setCell (Nat.le_refl _) _).setCell (by show w.heap.size ≤ w.heap.size + 1; omega) _⟩
  · rw [heap_setCell_other _ _ _ _ (by show _ ≠ w.heap.size + 1; omega), heap_setCell_same _ _ _ _ _ _ h.key, List.setIfInBounds_toArray, ← List.map_set]; rfl
  · rw [heap_setCell_same _ _ _ _ _ _ h1, List.setIfInBounds_toArray, ← List.map_set]; rfl

theorem wakeKey_all : fillTo UInt8.ofNat zeros16 16 = wakeKey := by decide +kernel
theorem wakeBlock_all : fillTo (fun n => UInt8.ofNat (17 * n)) zeros16 16 = wakeBlock := by decide +kernel

set_option maxRecDepth 100000 in
set_option maxHeartbeats 1000000 in
theorem awake05 (w : World) : Calls Try.prog 7 #[] w fun e w' => e = .returned (.bool true) ∧ New w w' := by
  go_enter Try.func7, Try.ntmps7
  go_upto_region 2 with fail
  generalize hw1 : World.alloc (World.alloc w _) _ = w1
  have hin : Wake5 w 0 w1 := by
    rw [← hw1]
    exact ⟨heap_alloc2_old _ _ _, heap_alloc2_new _ _ _, ((Below.refl _ _).alloc (Nat.le_refl _) _).alloc (by simp) _⟩
  clear hw1
  have HI0 := Lib.hid hin
  clear hin
  go_wp2
  go_loopw [3] (fun i wr => ∃ j : Nat, j ≤ 16 ∧ i = .int .i64 j ∧ Wake5 w j wr) (fun i _ => 16 - (intOf i).toNat)
  case atStart => exact ⟨0, by omega, rfl, HI0.out⟩
  case round =>
    clear HI0
    obtain ⟨j, hj, rfl, hin⟩ := hrel
    by_cases hlt : j < 16
    · have hc1 := byte_cell (i := j) hin.key (by rw [fillTo_length]; exact hlt)
      have hf1 := frozen_of_row _ _ j _ _ hin.key
      have hc2 := byte_cell (i := j) hin.blk (by rw [fillTo_length]; exact hlt)
      have hf2 := frozen_of_row _ _ j _ _ hin.blk
      have HP := Lib.hid hin.put
      have h16 : (j : Int) < 16 := by omega
      generalize List.getD (fillTo UInt8.ofNat zeros16 j) j 0 = z1 at hc1
      generalize List.getD (fillTo _ zeros16 j) j 0 = z2 at hc2
      have E1 : Hid (((UInt8.ofNat j).toNat : Int) = (j : Int)) := by show _ = _; rw [UInt8.toNat_ofNat']; omega
      have E2 : Hid (((UInt8.ofNat (17 * j)).toNat : Int) = 17 * (j : Int)) := by show _ = _; rw [UInt8.toNat_ofNat']; omega
      generalize UInt8.ofNat j = x1 at E1 HP
      generalize UInt8.ofNat (17 * j) = x2 at E2 HP
      clear hin
      go_wp2
      go_roundw
      case rel =>
        refine ⟨j + 1, by omega, by go_num, ?_⟩
        have h := HP.out
        unfold bv at h
        rw [E1.out, E2.out] at h
        exact h
      case measure => simp [intOf]; omega
    · obtain rfl : j = 16 := by omega
      rw [show ((16 : Nat) : Int) = 16 from rfl]
      have hk := hin.key
      have hb := hin.blk
      have HN := Lib.hid hin.new
      rw [wakeKey_all] at hk
      rw [wakeBlock_all] at hb
      clear hin
      have lk : wakeKey.length = 16 := rfl
      have lb : wakeBlock.length = 16 := rfl
      have HX := Lib.hid wake_hex
      have HL := Lib.hid (enc_length wakeKey wakeBlock lb 10)
      have HC : Hid (∀ wx, Calls Try.prog 9 #[.agg (wakeKey.map bv).toArray, .agg (wakeBlock.map bv).toArray] wx fun e w' => e = .returned (.agg ((enc wakeKey wakeBlock 10).map bv).toArray) ∧ New wx w') := Lib.hid (fun wx => aesBlock wx wakeKey wakeBlock lk lb)
      generalize enc wakeKey wakeBlock 10 = R at HX HL HC
      go_upto_region 7 with fail
      refine wp_region_lit ?_
      refine wpList_load_row rfl 22 _ rfl w.heap.size rfl _ _ _ _ hk Try.underlying22 rfl (by rw [size16 lk]; exact info16) ?_
      refine wpList_load_row rfl 22 _ rfl (w.heap.size + 1) rfl _ _ _ _ hb Try.underlying22 rfl (by rw [size16 lb]; exact info16) ?_
      clear hk hb lk lb
      generalize wakeKey = kk at *
      generalize wakeBlock = bb at *
      go_wp2_with fail
      refine (HC.out wr).mono ?_
      rintro e w2 ⟨rfl, N2⟩
      go_wp2_with fail
      refine (lawText w2 R HL.out).mono ?_
      rintro e w3 ⟨rfl, N3⟩
      go_wp2_with fail
      refine (refHex w3 R (by rw [HL.out]; decide)).mono ?_
      rintro e w4 ⟨rfl, N4⟩
      have kb : ((bstr (hexOf R)).toList == [54, 57, 99, 52, 101, 48, 100, 56, 54, 97, 55, 98, 48, 52, 51, 48, 100, 56, 99, 100, 98, 55, 56, 48, 55, 48, 98, 52, 99, 53, 53, 97]) = true := by rw [bstr_list, HX.out]; decide
      go_wp2
      go_ret
      exact ⟨rfl, New.trans (New.trans (New.trans HN.out N2) N3) N4⟩

end Go.Proofs.Ytapoelmhnbgidaa
