/-
  sha.expanded: the words of a block.
-/
import Derived.Test.YtoooemlcackepaaDoorMem
import Derived.Test.YtoooemlcackepaaDoorShaRot
import Derived.Test.YtoooemlcackepaaDoorShaSpec
import Derived.StillTailTactics
import Derived.Laws.Rows
import Derived.Laws.Slices
import Derived.Deep.Cut
import Derived.Laws.CopyOwn
namespace Go.Proofs.YtoooemlcackepaaDoor
set_option linter.unusedVariables false
set_option linter.unusedSimpArgs false
open Go.RowKit

/-- 64 words, of which the first are ws, as cells -/
def row64 (ws : List UInt32) : Array Value := ((ws ++ List.replicate (64 - ws.length) 0).map wv).toArray

theorem row64_get (ws : List UInt32) (i : Nat) (h : i < ws.length) : (row64 ws)[i]? = some (wv (ws.getD i 0)) := by
  unfold row64
  rw [List.getElem?_toArray, List.getElem?_map, List.getElem?_append_left h, List.getD_eq_getElem?_getD, List.getElem?_eq_getElem h]
  rfl

theorem row64_set (ws : List UInt32) (x : UInt32) (h : ws.length < 64) : (row64 ws).setIfInBounds ws.length (wv x) = row64 (ws ++ [x]) := by
  unfold row64
  obtain ⟨m, hm⟩ : ∃ m, 64 - ws.length = m + 1 := ⟨63 - ws.length, by omega⟩
  rw [hm, show 64 - (ws ++ [x]).length = m by simp; omega]
  simp [List.replicate_succ, List.map_append, List.set_append]

theorem row64_full (ws : List UInt32) (h : ws.length = 64) : row64 ws = (ws.map wv).toArray := by
  unfold row64; rw [h]; simp

theorem arr64 : Tryd.prog.underlying 31 = some (.array (Tryd.prog.arrayLen 31) (Tryd.prog.elem 31)) := by kernel_rfl
theorem arr64_len : Tryd.prog.arrayLen 31 = 64 := by kernel_rfl
theorem arr64_size (w : World) : (sizeOf (Tryd.prog.elem 31)).run Tryd.prog w = .ok 1 w := by kernel_rfl

/-- block[l:h] of an array behind a pointer -/
theorem run_slice64 (wx : World) (p l h : Nat) (hl : l ≤ h) (hh : h ≤ 64) (hl' : l < 64) :
    (Instr.sliceAt 31 (.pointer (some ⟨p, 0, none⟩)) (some (.int .i64 (l : Int))) (some (.int .i64 (h : Int))) none).run Tryd.prog wx = .ok (.slice (some ⟨p, l, none⟩) (h - l) (64 - l)) wx := by
  rw [run_sliceAt_array_lh wx _ _ arr64 .i64 .i64 _ _ (by omega) (by omega) (by rw [arr64_len]; omega), arr64_size, arr64_len]
  simp only [Result.andThen_ok, slicedAt, Int.toNat_natCast, Nat.mul_one]
  rw [if_neg (by omega), Addr.add_lit, Nat.zero_add]

theorem byte_cell {wr : World} {p : Nat} {b : List UInt8} {i : Nat} {t : TypeId} (h : wr.heap[p]? = some (.cells (b.map bv).toArray t)) (hi : i < b.length) : wr.cell? ⟨p, i, none⟩ = some (bv (b.getD i 0)) := by
  rw [cell_of_row _ _ _ _ _ _ h, List.getElem?_toArray, List.getElem?_map, List.getD_eq_getElem?_getD, List.getElem?_eq_getElem hi]
  rfl

theorem row64_zero (ws : List UInt32) (i : Nat) (h : ws.length ≤ i) (h' : i < 64) : (row64 ws)[i]? = some (wv 0) := by
  unfold row64
  rw [List.getElem?_toArray, List.getElem?_map, List.getElem?_append_right h, List.getElem?_replicate, if_pos (by omega)]
  rfl

theorem heap_old (w : World) (o : Obj) (i : Nat) (h : i < w.heap.size) : (w.alloc o).heap[i]? = w.heap[i]? := by
  show (w.heap.push o)[i]? = w.heap[i]?
  rw [Array.getElem?_push, if_neg (Nat.ne_of_lt h)]
theorem heap_new (w : World) (o : Obj) (i : Nat) (h : i = w.heap.size) : (w.alloc o).heap[i]? = some o := by
  subst h
  exact heap_alloc_new w o
theorem alloc3_0 (w : World) (A B C : Obj) : (((w.alloc A).alloc B).alloc C).heap[w.heap.size]? = some A := by
  rw [heap_old _ _ _ (by simp; omega), heap_old _ _ _ (by simp), heap_new _ _ _ rfl]
theorem alloc3_1 (w : World) (A B C : Obj) : (((w.alloc A).alloc B).alloc C).heap[w.heap.size + 1]? = some B := by
  rw [heap_old _ _ _ (by simp), heap_new _ _ _ (by simp)]
theorem alloc3_2 (w : World) (A B C : Obj) : (((w.alloc A).alloc B).alloc C).heap[w.heap.size + 1 + 1]? = some C := by
  rw [heap_new _ _ _ (by simp)]

structure ExpIn (w : World) (b : List UInt8) (ws : List UInt32) (wr : World) : Prop where
  blk : wr.heap[w.heap.size]? = some (.cells (b.map bv).toArray 31)
  res : wr.heap[w.heap.size + 1]? = some (.cells (row64 []) 48)
  words : wr.heap[w.heap.size + 1 + 1]? = some (.cells (row64 ws) 48)
  new : New w wr

theorem ExpIn.drew {w : World} {b : List UInt8} {ws : List UInt32} {wr : World} (h : ExpIn w b ws wr) : ExpIn w b ws wr.drew := ⟨h.blk, h.res, h.words, h.new.drew⟩

theorem ExpIn.drewN {w : World} {b : List UInt8} {ws : List UInt32} {wr : World} {n : Nat} (h : ExpIn w b ws wr) : ExpIn w b ws (wr.drewN n) := by
  exact ⟨h.blk, h.res, h.words, below_drewN h.new n⟩

theorem ExpIn.put {w : World} {b : List UInt8} {ws : List UInt32} {wr : World} (h : ExpIn w b ws wr) {x : UInt32} {t : Nat} (ht : ws.length = t) (hlt : t < 64) : ExpIn w b (ws ++ [x]) (wr.setCell ⟨w.heap.size + 1 + 1, t, none⟩ (wv x)) := by
  subst ht
  refine ⟨?_, ?_, ?_, ?_⟩
  · rw [heap_setCell_other _ _ _ _ (by show _ ≠ w.heap.size + 1 + 1; omega)]; exact h.blk
  · rw [heap_setCell_other _ _ _ _ (by show _ ≠ w.heap.size + 1 + 1; omega)]; exact h.res
  · rw [heap_setCell_same _ _ _ _ _ _ h.words, row64_set _ _ hlt]
  · exact h.new.setCell (by show w.heap.size ≤ w.heap.size + 1 + 1; omega) _

theorem ExpIn.cell {w : World} {b : List UInt8} {ws : List UInt32} {wr : World} (h : ExpIn w b ws wr) {i : Nat} (hi : i < ws.length) : wr.cell? ⟨w.heap.size + 1 + 1, i, none⟩ = some (wv (ws.getD i 0)) := by
  rw [cell_of_row _ _ _ _ _ _ h.words]
  exact row64_get ws i hi

theorem allOne (ws : List UInt32) : ((ws.map wv).toArray).all (·.oneCell') = true := by
  simp [Value.oneCell']

theorem u8_u32 (x : UInt8) : IntKind.u32.wrap (x.toNat : Int) = (x.toNat : Int) := by
  rw [IntKind.wrap_u32']; have := x.toNat_lt; omega

theorem u8_shl (x : UInt8) (m : Nat) (h : m ≤ 16777216) : IntKind.u32.wrap ((x.toNat : Int) * (m : Int)) = ((x.toNat * m : Nat) : Int) := by
  rw [IntKind.wrap_u32', ← Int.natCast_mul]
  have h1 := x.toNat_lt
  have h2 : x.toNat * m ≤ 255 * 16777216 := Nat.mul_le_mul (by omega) h
  omega

theorem word4_of (a b c d : UInt8) : bits .or .u32 (bits .or .u32 (bits .or .u32 (IntKind.u32.wrap (IntKind.u32.wrap (a.toNat : Int) * 16777216)) (IntKind.u32.wrap (IntKind.u32.wrap (b.toNat : Int) * 65536))) (IntKind.u32.wrap (IntKind.u32.wrap (c.toNat : Int) * 256))) (IntKind.u32.wrap (d.toNat : Int)) = ((word4 a b c d).toNat : Int) := by
  have ha := a.toNat_lt
  have hb := b.toNat_lt
  have hc := c.toNat_lt
  have hd := d.toNat_lt
  rw [u8_u32, u8_u32, u8_u32, u8_u32]
  rw [show (16777216 : Int) = ((16777216 : Nat) : Int) from rfl, show (65536 : Int) = ((65536 : Nat) : Int) from rfl, show (256 : Int) = ((256 : Nat) : Int) from rfl]
  rw [u8_shl a _ (by decide), u8_shl b _ (by decide), u8_shl c _ (by decide)]
  have l1 : a.toNat * 16777216 ||| b.toNat * 65536 < 2 ^ 32 := Nat.or_lt_two_pow (by omega) (by omega)
  have l2 : (a.toNat * 16777216 ||| b.toNat * 65536) ||| c.toNat * 256 < 2 ^ 32 := Nat.or_lt_two_pow l1 (by omega)
  have l3 : ((a.toNat * 16777216 ||| b.toNat * 65536) ||| c.toNat * 256) ||| d.toNat < 2 ^ 32 := Nat.or_lt_two_pow l2 (by omega)
  rw [u32_or_nat _ _ (by omega) (by omega), u32_or_nat _ _ (by omega) (by omega), u32_or_nat _ _ (by omega) (by omega)]
  unfold word4
  rw [UInt32.toNat_ofNat_of_lt' l3]

theorem word4_of' (a b c d : UInt8) : bits .or .u32 (bits .or .u32 (bits .or .u32 ((a.toNat : Int) % 4294967296 * 16777216 % 4294967296) ((b.toNat : Int) % 4294967296 * 65536 % 4294967296)) ((c.toNat : Int) % 4294967296 * 256 % 4294967296)) ((d.toNat : Int) % 4294967296) = ((word4 a b c d).toNat : Int) := by
  have h := word4_of a b c d
  simpa only [IntKind.wrap_u32'] using h

attribute [local go_sem] u32_bxor u32_add u32_add' shr3_of shr10_of

set_option maxRecDepth 100000 in
set_option maxHeartbeats 400000 in
theorem shaExpanded (w : World) (b : List UInt8) (hb : Hid (b.length = 64)) :
    Calls Tryd.prog 22 #[.agg (b.map bv).toArray] w fun e w' => e = .returned (.agg ((ext b 48).map wv).toArray) ∧ New w w' := by
  go_enter Tryd.func22, Tryd.ntmps22
  go_wp2
  go_loopw [11] (fun i wr => ∃ t : Nat, t ≤ 16 ∧ i = .int .i64 t ∧ ExpIn w b (head16 b t) wr) (fun i _ => 16 - (intOf i).toNat)
  case atStart =>
    refine ⟨0, by omega, rfl, ⟨?_, ?_, ?_, ?_⟩⟩
    · exact alloc3_0 _ _ _ _
    · exact alloc3_1 _ _ _ _
    · exact alloc3_2 _ _ _ _
    · exact (((Below.refl _ _).alloc (Nat.le_refl _) _).alloc (by simp) _).alloc (by simp; omega) _
  case round =>
    obtain ⟨t, ht, rfl, hin⟩ := hrel
    by_cases hlt : t < 16
    · have hsl := fun wx => run_slice64 wx w.heap.size (4 * t) (4 * t + 4) (by omega) (by omega) (by omega)
      rw [show ((4 * t : Nat) : Int) = 4 * (t : Int) by omega, show ((4 * t + 4 : Nat) : Int) = 4 * (t : Int) + 4 by omega, show 4 * t + 4 - 4 * t = 4 by omega] at hsl
      have hl : t ≤ (head16 b t).length := by rw [head16_length]; exact Nat.le_refl _
      have hc0 : wr.cell? ⟨w.heap.size, 4 * t, none⟩ = some (bv (b.getD (4 * t) 0)) := byte_cell hin.blk (by rw [hb.out]; omega)
      have hc1 : wr.cell? ⟨w.heap.size, 4 * t + 1, none⟩ = some (bv (b.getD (4 * t + 1) 0)) := byte_cell hin.blk (by rw [hb.out]; omega)
      have hc2 : wr.cell? ⟨w.heap.size, 4 * t + 2, none⟩ = some (bv (b.getD (4 * t + 2) 0)) := byte_cell hin.blk (by rw [hb.out]; omega)
      have hc3 : wr.cell? ⟨w.heap.size, 4 * t + 3, none⟩ = some (bv (b.getD (4 * t + 3) 0)) := byte_cell hin.blk (by rw [hb.out]; omega)
      have hfz := frozen_of_row wr (w.heap.size + 1 + 1) t _ _ hin.words
      have hcw : wr.cell? ⟨w.heap.size + 1 + 1, t, none⟩ = some (wv 0) := by
        rw [cell_of_row _ _ _ _ _ _ hin.words]
        exact row64_zero _ _ (by rw [head16_length]; exact Nat.le_refl _) (by omega)
      obtain ⟨x0, HX0⟩ : ∃ x, Hid (b.getD (4 * t) 0 = x) := ⟨_, rfl⟩
      rw [HX0.out] at hc0
      obtain ⟨x1, HX1⟩ : ∃ x, Hid (b.getD (4 * t + 1) 0 = x) := ⟨_, rfl⟩
      rw [HX1.out] at hc1
      obtain ⟨x2, HX2⟩ : ∃ x, Hid (b.getD (4 * t + 2) 0 = x) := ⟨_, rfl⟩
      rw [HX2.out] at hc2
      obtain ⟨x3, HX3⟩ : ∃ x, Hid (b.getD (4 * t + 3) 0 = x) := ⟨_, rfl⟩
      rw [HX3.out] at hc3
      have h64 : (t : Int) < 64 := by omega
      go_wp2
      refine wp_region_still_tail 24 (by kernel_rfl) (by kernel_rfl) ?_
      simp only [List.take_succ_cons, List.take_zero, List.drop_succ_cons, List.drop_zero]
      change wpStill _ _ wr.drew (fun a' => wpList _ _ _ _ a' wr.drew) _ _
      obtain ⟨wd, hwd⟩ : ∃ wd, wr.drew = wd := ⟨_, rfl⟩
      have hd0 : wd.cell? ⟨w.heap.size, 4 * t, none⟩ = some (bv x0) := by rw [← hwd]; exact hc0
      have hd1 : wd.cell? ⟨w.heap.size, 4 * t + 1, none⟩ = some (bv x1) := by rw [← hwd]; exact hc1
      have hd2 : wd.cell? ⟨w.heap.size, 4 * t + 2, none⟩ = some (bv x2) := by rw [← hwd]; exact hc2
      have hd3 : wd.cell? ⟨w.heap.size, 4 * t + 3, none⟩ = some (bv x3) := by rw [← hwd]; exact hc3
      have hdf : wd.frozen? ⟨w.heap.size + 1 + 1, t, none⟩ = false := by rw [← hwd]; exact hfz
      have hdw : wd.cell? ⟨w.heap.size + 1 + 1, t, none⟩ = some (wv 0) := by rw [← hwd]; exact hcw
      have hde : ExpIn w b (head16 b t) wd := by rw [← hwd]; exact hin.drew
      rw [hwd]
      clear hc0 hc1 hc2 hc3 hfz hcw hin hwd
      repeat still_step
      refine wpStill_nil ?_
      go_wp2
      go_roundw
      case rel =>
        refine ⟨t + 1, by omega, by go_num, ?_⟩
        rw [word4_of']
        unfold head16
        rw [HX0.out, HX1.out, HX2.out, HX3.out]
        exact hde.put (head16_length b t) (by omega)
      case measure => simp [intOf]; omega
    · obtain rfl : t = 16 := by omega
      rw [show ((16 : Nat) : Int) = 16 from rfl]
      go_wp2
      go_loopw [6] (fun i wr => ∃ t : Nat, 16 ≤ t ∧ t ≤ 64 ∧ i = .int .i64 t ∧ ExpIn w b (ext b (t - 16)) wr) (fun i _ => 64 - (intOf i).toNat)
      case atStart => exact ⟨16, by omega, by omega, rfl, hin⟩
      case round =>
        clear hin hlt ht
        obtain ⟨t, h16, ht, rfl, hin⟩ := hrel
        by_cases hlt : t < 64
        · have hl := ext_length b (t - 16)
          have hc15 : wr.cell? ⟨w.heap.size + 1 + 1, t - 15, none⟩ = some (wv ((ext b (t - 16)).getD (t - 15) 0)) := hin.cell (by omega)
          have hc2 : wr.cell? ⟨w.heap.size + 1 + 1, t - 2, none⟩ = some (wv ((ext b (t - 16)).getD (t - 2) 0)) := hin.cell (by omega)
          have hc7 : wr.cell? ⟨w.heap.size + 1 + 1, t - 7, none⟩ = some (wv ((ext b (t - 16)).getD (t - 7) 0)) := hin.cell (by omega)
          have hc16 : wr.cell? ⟨w.heap.size + 1 + 1, t - 16, none⟩ = some (wv ((ext b (t - 16)).getD (t - 16) 0)) := hin.cell (by omega)
          clear hl
          obtain ⟨x15, HX15⟩ : ∃ x, Hid ((ext b (t - 16)).getD (t - 15) 0 = x) := ⟨_, rfl⟩
          rw [HX15.out] at hc15
          obtain ⟨x2, HX2⟩ : ∃ x, Hid ((ext b (t - 16)).getD (t - 2) 0 = x) := ⟨_, rfl⟩
          rw [HX2.out] at hc2
          obtain ⟨x7, HX7⟩ : ∃ x, Hid ((ext b (t - 16)).getD (t - 7) 0 = x) := ⟨_, rfl⟩
          rw [HX7.out] at hc7
          obtain ⟨x16, HX16⟩ : ∃ x, Hid ((ext b (t - 16)).getD (t - 16) 0 = x) := ⟨_, rfl⟩
          rw [HX16.out] at hc16
          have hlt64 : (t : Int) < 64 := by omega
          go_wp2
          go_quiet (fail)
          go_wp2_with (go_at_call 25; refine (shaRightI _ _ _ (by decide) (by decide)).mono ?_; rintro e w' ⟨rfl, rfl⟩)
          refine wp_region_still_tail 15 (by kernel_rfl) (by kernel_rfl) ?_
          simp only [List.take_succ_cons, List.take_zero, List.drop_succ_cons, List.drop_zero]
          change wpStill _ _ (wr.drewN nq).drew (fun a' => wpList _ _ _ _ a' (wr.drewN nq).drew) _ _
          have hdc7 : (wr.drewN nq).drew.cell? ⟨w.heap.size + 1 + 1, t - 7, none⟩ = some (wv x7) := hc7
          have hdc16 : (wr.drewN nq).drew.cell? ⟨w.heap.size + 1 + 1, t - 16, none⟩ = some (wv x16) := hc16
          have hde : ExpIn w b (ext b (t - 16)) (wr.drewN nq).drew := hin.drewN.drew
          generalize (wr.drewN nq).drew = wd at hdc7 hdc16 hde
          clear hc15 hc2 hc7 hc16 hin
          have hdf : wd.frozen? ⟨w.heap.size + 1 + 1, t, none⟩ = false := frozen_of_row _ _ _ _ _ hde.words
          have hdw : wd.cell? ⟨w.heap.size + 1 + 1, t, none⟩ = some (wv 0) := by
            rw [cell_of_row _ _ _ _ _ _ hde.words]
            exact row64_zero _ _ (by rw [ext_length]; omega) (by omega)
          have i1 : IntKind.i64.wrap ((t : Int) - 7) = (t : Int) - 7 := IntWalk.i64_in _ (by omega)
          have i2 : IntKind.i64.wrap ((t : Int) - 16) = (t : Int) - 16 := IntWalk.i64_in _ (by omega)
          have i3 : 0 ≤ (t : Int) - 7 := by omega
          have i4 : 0 ≤ (t : Int) - 16 := by omega
          have i5 : ((t : Int) - 7).toNat = t - 7 := by omega
          have i6 : ((t : Int) - 16).toNat = t - 16 := by omega
          have i7 : (t : Int) - 7 < 64 := by omega
          have i8 : (t : Int) - 16 < 64 := by omega
          have j3 : 7 ≤ (t : Int) := by omega
          have j4 : 16 ≤ (t : Int) := by omega
          have j7 : (t : Int) < 64 + 7 := by omega
          have j8 : (t : Int) < 64 + 16 := by omega
          repeat still_step
          refine wpStill_nil ?_
          clear i1 i2 i3 i4 i5 i6 i7 i8 j3 j4 j7 j8
          go_wp2
          go_roundw
          case rel =>
            refine ⟨t + 1, by omega, by omega, by go_num, ?_⟩
            rw [show t + 1 - 16 = t - 16 + 1 by omega]
            unfold ext nextW s0 s1
            rw [show t - 16 + 14 = t - 2 by omega, show t - 16 + 9 = t - 7 by omega, show t - 16 + 1 = t - 15 by omega, HX15.out, HX2.out, HX7.out, HX16.out]
            exact hde.put (by rw [ext_length]; omega) (by omega)
          case measure => simp [intOf]; omega
        · obtain rfl : t = 64 := by omega
          have hw := hin.words
          rw [row64_full _ (by rw [ext_length])] at hw
          have hlen : ((ext b 48).map wv).toArray.size = 64 := by simp [ext_length]
          have HN := Lib.hid hin.new
          have HR := Lib.hid hin.res
          clear hin
          go_upto_region 15 with fail
          refine wp_region_lit ?_
          refine wpList_load_row rfl 48 _ rfl (w.heap.size + 1 + 1) rfl _ _ _ _ hw Tryd.underlying48 rfl (by rw [hlen]; kernel_rfl) ?_
          refine wpList_store_row rfl 48 _ _ rfl (w.heap.size + 1) ((ext b 48).map wv).toArray rfl rfl _ _ HR.out (by rw [hlen]; kernel_rfl) (by rw [hlen]; rfl) (allOne _) ?_
          go_wp2
          refine bodyPost_ret (v := .agg ((ext b 48).map wv).toArray) (results_cell_row rfl _ _ (w.heap.size + 1) _ _ _ _ rfl (setRow_heap _ _ _ _ _ _ HR.out) Tryd.underlying48 rfl (by rw [hlen]; kernel_rfl)) rfl ⟨rfl, ?_⟩
          exact below_setRow HN.out (by show w.heap.size ≤ w.heap.size + 1; omega) _

end Go.Proofs.YtoooemlcackepaaDoor
