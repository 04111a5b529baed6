/-
  aes: doubled, Mul, boxed, boxes, Box.
-/
import Derived.Test.YtapoelmhnbgidaaProg
import Derived.Test.YtapoelmhnbgidaaAesSpec
import Derived.Test.YtapoelmhnbgidaaBase
import Derived.KernelRfl
import Derived.Deep.QuietTactic
import Derived.BigQuiet
import Derived.IntWalk
import Derived.StillTailTactics
import Derived.Laws.Rows
import Derived.Laws.Slices
import Derived.Deep.Cut
namespace Go.Proofs.Ytapoelmhnbgidaa
set_option linter.unusedVariables false
set_option linter.unusedSimpArgs false
open Go.RowKit

attribute [local go_sem] u8_bxor

theorem ret_u8 {a b : Int} (h : a = b) : Ending.returned (.int .u8 a) = .returned (.int .u8 b) := by rw [h]

set_option maxHeartbeats 400000 in
theorem aesDoubled (w : World) (c : UInt8) : Calls Try.prog 23 #[bv c] w fun e w' => e = .returned (bv (dbl c)) ∧ w = w' := by
  have hc := u8_lt c
  by_cases h : c.toNat < 128
  · have h1 : (c.toNat : Int) < 128 := by omega
    have hd := dbl_lt c h
    go_enter Try.func23, Try.ntmps23
    go_wp2
    go_ret
    refine ⟨ret_u8 ?_, rfl⟩
    rw [hd, UInt8.toNat_ofNat']
    omega
  · have h1 : ¬ (c.toNat : Int) < 128 := by omega
    have HD := Lib.hid (dbl_ge c h)
    go_enter Try.func23, Try.ntmps23
    go_wp2
    go_ret
    refine ⟨ret_u8 ?_, rfl⟩
    rw [HD.out, ← u8_bxor, show ((UInt8.ofNat (c.toNat * 2 - 256)).toNat : Int) = (c.toNat : Int) * 2 % 256 by rw [UInt8.toNat_ofNat']; omega]
    rfl

theorem shr8_of (x : UInt8) (k : Nat) : ((x.toNat / 2 ^ k : Nat) : Int) / 2 = ((x.toNat / 2 ^ (k + 1) : Nat) : Int) := by
  rw [Nat.pow_succ, ← Nat.div_div_eq_div_mul]; omega

theorem and1_of (x : UInt8) (k : Nat) : bits .and .u8 ((x.toNat / 2 ^ k : Nat) : Int) 1 = ((x.toNat / 2 ^ k % 2 : Nat) : Int) := by
  rw [show (1 : Int) = ((1 : Nat) : Int) from rfl, u8_and_nat _ _ (Nat.lt_of_le_of_lt (Nat.div_le_self _ _) (u8_lt x)) (by decide), nat_mask1]

set_option maxRecDepth 100000 in
set_option maxHeartbeats 400000 in
theorem aesMul (w : World) (a b : UInt8) : Calls Try.prog 14 #[bv a, bv b] w fun e w' => e = .returned (bv (gmul a b)) ∧ w = w' := by
  go_enter Try.func14, Try.ntmps14
  go_wp2
  go_loop [0, 1, 5, 6] (fun x y p i => ∃ k : Nat, k ≤ 8 ∧ i = .int .i64 k ∧ x = bv (dbls a k) ∧ y = .int .u8 ((b.toNat / 2 ^ k : Nat) : Int) ∧ p = bv (mulTo a b k)) (fun _ _ _ i => 8 - (intOf i).toNat)
  case atStart => exact ⟨0, by omega, rfl, rfl, by simp, rfl⟩
  case round =>
    obtain ⟨k, hk, rfl, rfl, rfl, rfl⟩ := hrel
    by_cases hlt : k < 8
    · have h1 := and1_of b k
      have HY := Lib.hid (shr8_of b k)
      have h8 : (k : Int) < 8 := by omega
      have HD : Hid (dbls a (k + 1) = dbl (dbls a k)) := Lib.hid rfl
      have hb2 := Nat.mod_two_eq_zero_or_one (b.toNat / 2 ^ k)
      by_cases hbit : b.toNat / 2 ^ k % 2 = 1
      · have HM : Hid (mulTo a b (k + 1) = bxor (mulTo a b k) (dbls a k)) := by show _ = _; rw [mulTo, if_pos hbit]
        rw [hbit] at h1
        clear hbit hb2
        generalize b.toNat / 2 ^ k = y at h1 HY ⊢
        generalize dbls a k = x at HD HM ⊢
        generalize mulTo a b k = p at HM ⊢
        go_wp2_with (go_at_call 23; refine (aesDoubled _ _).mono ?_; rintro e w' ⟨rfl, rfl⟩)
        go_round
        case rel => exact ⟨k + 1, by omega, by go_num, by rw [HD.out], by rw [HY.out], by rw [HM.out]⟩
        case measure => simp [intOf]; omega
      · have HM : Hid (mulTo a b (k + 1) = mulTo a b k) := by show _ = _; rw [mulTo, if_neg hbit]
        have h0 : b.toNat / 2 ^ k % 2 = 0 := by omega
        rw [h0] at h1
        clear hbit hb2 h0
        generalize b.toNat / 2 ^ k = y at h1 HY ⊢
        generalize dbls a k = x at HD HM ⊢
        generalize mulTo a b k = p at HM ⊢
        go_wp2_with (go_at_call 23; refine (aesDoubled _ _).mono ?_; rintro e w' ⟨rfl, rfl⟩)
        go_round
        case rel => exact ⟨k + 1, by omega, by go_num, by rw [HD.out], by rw [HY.out], by rw [HM.out]⟩
        case measure => simp [intOf]; omega
    · obtain rfl : k = 8 := by omega
      have HG : Hid (gmul a b = mulTo a b 8) := Lib.hid rfl
      generalize mulTo a b 8 = p at HG ⊢
      rw [show ((8 : Nat) : Int) = 8 from rfl]
      go_wp2
      go_ret
      exact ⟨by rw [HG.out]; rfl, rfl⟩

theorem and7 (n : Nat) (h1 : 1 ≤ n) (h2 : n ≤ 4) : bits .and .u64 (n : Int) 7 = (n : Int) := by
  have h : n = 1 ∨ n = 2 ∨ n = 3 ∨ n = 4 := by omega
  rcases h with rfl | rfl | rfl | rfl <;> (clear h1 h2; decide)

theorem rotl8_of (x : UInt8) (n : Nat) : bits .or .u8 ((x.toNat * 2 ^ n % 256 : Nat) : Int) ((x.toNat / 2 ^ (8 - n) : Nat) : Int) = ((rotl8 x n).toNat : Int) := by
  have l1 : x.toNat * 2 ^ n % 256 < 2 ^ 8 := Nat.mod_lt _ (by decide)
  have l2 : x.toNat / 2 ^ (8 - n) < 2 ^ 8 := Nat.lt_of_le_of_lt (Nat.div_le_self _ _) (u8_lt x)
  rw [u8_or_nat _ _ l1 l2]
  unfold rotl8
  rw [UInt8.toNat_ofNat_of_lt' (Nat.or_lt_two_pow l1 l2)]

set_option maxHeartbeats 400000 in
theorem rotateLeft8 (w : World) (x : UInt8) (n : Nat) (h1 : 1 ≤ n) (h2 : n ≤ 4) :
    Calls Try.prog 29 #[bv x, .int .i64 (n : Int)] w fun e w' => e = .returned (bv (rotl8 x n)) ∧ w = w' := by
  have hb := and7 n h1 h2
  have HR := Lib.hid (rotl8_of x n)
  have h3 : (8 - (n : Int)).toNat = 8 - n := by omega
  have h4 : (8 - (n : Int)) % 18446744073709551616 = 8 - (n : Int) := by omega
  have h5 : (n : Int) % 18446744073709551616 = (n : Int) := by omega
  go_enter Try.func29, Try.ntmps29
  go_wp2
  go_ret
  refine ⟨ret_u8 ?_, rfl⟩
  rw [← HR.out, Int.natCast_ediv, Int.natCast_emod, Int.natCast_mul, Int.natCast_pow, Int.natCast_pow]
  rfl

set_option maxRecDepth 100000 in
set_option maxHeartbeats 400000 in
theorem aesBoxed (w : World) (b : UInt8) : Calls Try.prog 28 #[bv b] w fun e w' => e = .returned (bv (boxedTo b 4)) ∧ w = w' := by
  have HZ : Hid (bits .xor .u8 (b.toNat : Int) 99 = ((boxedTo b 0).toNat : Int)) := Lib.hid (u8_bxor b 99)
  go_enter Try.func28, Try.ntmps28
  go_wp2
  go_loop [3, 4] (fun o i => ∃ k : Nat, k ≤ 4 ∧ i = .int .i64 ((k + 1 : Nat) : Int) ∧ o = bv (boxedTo b k)) (fun _ i => 5 - (intOf i).toNat)
  case atStart => exact ⟨0, by omega, rfl, congrArg (Value.int .u8) HZ.out⟩
  case round =>
    obtain ⟨k, hk, rfl, rfl⟩ := hrel
    by_cases hlt : k < 4
    · have HB : Hid (boxedTo b (k + 1) = bxor (boxedTo b k) (rotl8 b (k + 1))) := Lib.hid rfl
      have h4 : ((k + 1 : Nat) : Int) ≤ 4 := by omega
      have HR : Hid (∀ wx, Calls Try.prog 29 #[bv b, .int .i64 ((k + 1 : Nat) : Int)] wx fun e w' => e = .returned (bv (rotl8 b (k + 1))) ∧ wx = w') := Lib.hid (fun wx => rotateLeft8 wx b (k + 1) (by omega) (by omega))
      obtain ⟨m, Hm⟩ : ∃ m, Hid (m = k + 1) := ⟨_, Lib.hid rfl⟩
      rw [← Hm.out] at HB HR h4 ⊢
      generalize rotl8 b m = r at HB HR
      generalize boxedTo b k = o at HB ⊢
      go_wp2_with (go_at_call 29; refine (HR.out _).mono ?_; rintro e w' ⟨rfl, rfl⟩)
      go_round
      case rel => exact ⟨k + 1, by omega, by rw [Hm.out]; go_num, by rw [← Hm.out, HB.out]⟩
      case measure => have := Hm.out; simp [intOf]; omega
    · obtain rfl : k = 4 := by omega
      obtain ⟨o, HO⟩ : ∃ o, Hid (boxedTo b 4 = o) := ⟨_, Lib.hid rfl⟩
      rw [show ((4 + 1 : Nat) : Int) = 5 from rfl, HO.out]
      go_wp2
      go_ret
      exact ⟨by rw [HO.out]; rfl, rfl⟩

/-- b[t] of an array value of bytes -/
theorem run_indexB {n : Nat} {ty : TypeId} (hu : Try.prog.underlying ty = some (.array n 5)) (l : List UInt8) (hl : l.length = n) (kd : IntKind) (t : Nat) (ht : t < n) (wx : World) :
    (Instr.index ty (.agg (l.map bv).toArray) (.int kd (t : Int))).run Try.prog wx = .ok (bv (l.getD t 0)) wx := by
  have hs : (sizeOf 5).run Try.prog wx = .ok 1 wx := by kernel_rfl
  have ha : (isAgg 5).run Try.prog wx = .ok false wx := by kernel_rfl
  have hg : l[t]? = some (l.getD t 0) := by
    rw [List.getD_eq_getElem?_getD, List.getElem?_eq_getElem (by omega)]; rfl
  have h0 : (0 : Int) ≤ t ∧ (t : Int) < (n : Nat) := ⟨by omega, by omega⟩
  have hp : (part 5 (l.map bv).toArray t).run Try.prog wx = .ok (bv (l.getD t 0)) wx := by
    unfold part
    rw [Sem.run_bind, ha]
    simp only [Result.andThen_ok, Bool.false_eq_true, if_false, List.getElem?_toArray, List.getElem?_map, hg, Option.map_some, Sem.run_pure]
  unfold Instr.index
  rw [Sem.run_bind]
  simp only [asIntOf, Sem.run_pure, Result.andThen_ok]
  rw [Sem.run_bind, run_underlying hu]
  simp only [Result.andThen_ok, if_pos h0]
  rw [Sem.run_bind, hs]
  simp only [Result.andThen_ok, Int.toNat_natCast, Nat.mul_one]
  exact hp

structure PowIn (w : World) (k : Nat) (wr : World) : Prop where
  res : wr.heap[w.heap.size]? = some (.cells ((List.replicate 256 (0 : UInt8)).map bv).toArray 39)
  pow : wr.heap[w.heap.size + 1]? = some (.cells ((fillTo pow3 (List.replicate 255 0) k).map bv).toArray 49)
  size : wr.heap.size = w.heap.size + 1 + 1
  new : New w wr

theorem PowIn.put {w : World} {k : Nat} {wr : World} (h : PowIn w k wr) : PowIn w (k + 1) (wr.setCell ⟨w.heap.size + 1, k, none⟩ (bv (pow3 k))) := by
  refine ⟨?_, ?_, by simpa using h.size, h.new.setCell (by show w.heap.size ≤ w.heap.size + 1; omega) _⟩
  · rw [heap_setCell_other _ _ _ _ (by show _ ≠ w.heap.size + 1; omega)]; exact h.res
  · rw [heap_setCell_same _ _ _ _ _ _ h.pow, List.setIfInBounds_toArray, ← List.map_set]; rfl

structure TabIn (w : World) (k : Nat) (wr : World) : Prop where
  res : wr.heap[w.heap.size]? = some (.cells ((List.replicate 256 (0 : UInt8)).map bv).toArray 39)
  pow : wr.heap[w.heap.size + 1]? = some (.cells ((fillTo pow3 (List.replicate 255 0) 255).map bv).toArray 49)
  new : New w wr
  tab : wr.heap[w.heap.size + 1 + 1]? = some (.cells ((tabTo k).map bv).toArray 39)

theorem TabIn.put {w : World} {k : Nat} {wr : World} (h : TabIn w k wr) : TabIn w (k + 1) (wr.setCell ⟨w.heap.size + 1 + 1, (pow3 k).toNat, none⟩ (bv (boxedTo (pow3 ((255 - k) % 255)) 4))) := by
  refine ⟨?_, ?_, h.new.setCell (by show w.heap.size ≤ w.heap.size + 1 + 1; omega) _, ?_⟩
  · rw [heap_setCell_other _ _ _ _ (by show _ ≠ w.heap.size + 1 + 1; omega)]; exact h.res
  · rw [heap_setCell_other _ _ _ _ (by show _ ≠ w.heap.size + 1 + 1; omega)]; exact h.pow
  · rw [heap_setCell_same _ _ _ _ _ _ h.tab, List.setIfInBounds_toArray, ← List.map_set]; rfl

def zero256 : Array Value := ((List.replicate 256 (0 : UInt8)).map bv).toArray
def zero255 : Array Value := ((List.replicate 255 (0 : UInt8)).map bv).toArray
theorem zero256_run (wx : World) : (zeroValue 39).run Try.prog wx = .ok (.agg zero256) wx := by kernel_rfl
theorem zero255_run (wx : World) : (zeroValue 49).run Try.prog wx = .ok (.agg zero255) wx := by kernel_rfl

set_option maxRecDepth 100000 in
set_option maxHeartbeats 1000000 in
theorem aesBoxesF (w : World) : Calls Try.prog 17 #[] w fun e w' => e = .returned (.agg (boxTab.map bv).toArray) ∧ New w w' := by
  have z1 := zero256_run
  have z2 := zero255_run
  go_enter Try.func17, Try.ntmps17
  go_upto_region 2 with fail
  generalize hw1 : World.alloc (World.alloc w _) _ = w1
  have hin0 : PowIn w 0 w1 := by
    rw [← hw1]
    exact ⟨heap_alloc2_old _ _ _, heap_alloc2_new _ _ _, by simp, ((Below.refl _ _).alloc (Nat.le_refl _) _).alloc (by simp) _⟩
  clear hw1 z2
  go_wp2
  go_loopw [2, 7] (fun p i wr => ∃ k : Nat, k ≤ 255 ∧ i = .int .i64 k ∧ p = bv (pow3 k) ∧ PowIn w k wr) (fun _ i _ => 255 - (intOf i).toNat)
  case atStart => exact ⟨0, by omega, rfl, rfl, hin0⟩
  case round =>
    clear hin0
    obtain ⟨k, hk, rfl, rfl, hin⟩ := hrel
    by_cases hlt : k < 255
    · have hc := byte_cell (i := k) hin.pow (by rw [fillTo_length, List.length_replicate]; exact hlt)
      have hf := frozen_of_row _ _ k _ _ hin.pow
      have HP := Lib.hid hin.put
      have HS := Lib.hid (pow3_succ k hlt)
      have h8 : (k : Int) < 255 := by omega
      clear hin
      generalize pow3 k = x at HP HS ⊢
      generalize (fillTo pow3 (List.replicate 255 0) k).getD k 0 = y at hc
      go_wp2_with (go_at_call 23; refine (aesDoubled _ _).mono ?_; rintro e w' ⟨rfl, rfl⟩)
      go_roundw
      case rel => exact ⟨k + 1, by omega, by go_num, by rw [HS.out], HP.out⟩
      case measure => simp [intOf]; omega
    · obtain rfl : k = 255 := by omega
      rw [show ((255 : Nat) : Int) = 255 from rfl]
      have hsz := hin.size
      go_upto_region 10 with fail
      generalize hw2 : World.alloc wr _ = w2
      have hn2 : New wr w2 := by rw [← hw2]; exact (Below.refl _ _).alloc (Nat.le_refl _) _
      have hg2 : w2.heap[w.heap.size + 1 + 1]? = some (.cells ((List.replicate 256 (0 : UInt8)).map bv).toArray 39) := by
        rw [← hw2, ← hsz]; exact heap_alloc_new _ _
      have hg1 := (hn2.block _ (lt_of_block hin.pow)).trans hin.pow
      have hg0 := (hn2.block _ (lt_of_block hin.res)).trans hin.res
      have hN2 := New.trans hin.new hn2
      clear hw2 hn2 hsz hin
      have hc := byte_cell (i := 0) hg2 (by rw [List.length_replicate]; decide)
      have hf := frozen_of_row _ _ 0 _ _ hg2
      have HI : Hid (TabIn w 0 (w2.setCell ⟨w.heap.size + 1 + 1, 0, none⟩ (bv (boxedTo 0 4)))) := by
        refine ⟨?_, ?_, hN2.setCell (by show w.heap.size ≤ w.heap.size + 1 + 1; omega) _, ?_⟩
        · rw [heap_setCell_other _ _ _ _ (by show _ ≠ w.heap.size + 1 + 1; omega)]; exact hg0
        · rw [heap_setCell_other _ _ _ _ (by show _ ≠ w.heap.size + 1 + 1; omega)]; exact hg1
        · rw [heap_setCell_same _ _ _ _ _ _ hg2, List.setIfInBounds_toArray, ← List.map_set]; rfl
      clear hg0 hg1 hg2 hN2
      generalize (List.replicate 256 (0 : UInt8)).getD 0 0 = y at hc
      go_upto_region 11 with (go_at_call 28; refine (aesBoxed _ 0).mono ?_; rintro e w' ⟨rfl, rfl⟩)
      generalize hw3 : World.setCell w2 _ _ = w3
      have hin : TabIn w 0 w3 := by rw [← hw3]; exact HI.out
      clear hw3 HI hc hf
      have HPL : Hid (∀ i, i < 255 → (fillTo pow3 (List.replicate 255 0) 255).getD i 0 = pow3 i) := Lib.hid (fun i hi => fillTo_lt _ _ _ _ hi (by rw [List.length_replicate]; exact hi))
      have HLL : Hid ((fillTo pow3 (List.replicate 255 0) 255).length = 255) := by show _ = _; rw [fillTo_length, List.length_replicate]
      obtain ⟨PL, HPE⟩ : ∃ PL, Hid (fillTo pow3 (List.replicate 255 0) 255 = PL) := ⟨_, Lib.hid rfl⟩
      rw [HPE.out] at HPL HLL
      have hlen : (PL.map bv).toArray.size = 255 := by rw [List.size_toArray, List.length_map, HLL.out]
      have hp := hin.pow
      rw [HPE.out] at hp
      refine wp_region_lit ?_
      refine wpList_load_row rfl 49 _ rfl (w.heap.size + 1) rfl _ _ _ _ hp Try.underlying49 rfl (by rw [hlen]; kernel_rfl) ?_
      clear hlen hp
      go_wp2
      go_loopw [21] (fun i wr => ∃ k : Nat, k ≤ 255 ∧ i = .int .i64 k ∧ TabIn w k wr) (fun i _ => 255 - (intOf i).toNat)
      case atStart => exact ⟨0, by omega, rfl, hin⟩
      case round =>
        clear hin
        obtain ⟨k, hk, rfl, hin⟩ := hrel
        by_cases hlt : k < 255
        · have hix := fun wx => run_indexB Try.underlying49 PL HLL.out .i64 k hlt wx
          rw [HPL.out k hlt] at hix
          have hm : (255 - k) % 255 < 255 := Nat.mod_lt _ (by decide)
          have hc1 := byte_cell (i := (255 - k) % 255) hin.pow (by rw [fillTo_length, List.length_replicate]; exact hm)
          rw [HPE.out, HPL.out _ hm] at hc1
          have hx := u8_lt (pow3 k)
          have hc2 := byte_cell (i := (pow3 k).toNat) hin.tab (by rw [tabTo_length]; exact hx)
          have hf := frozen_of_row _ _ (pow3 k).toNat _ _ hin.tab
          have HP := Lib.hid hin.put
          have h8 : (k : Int) < 255 := by omega
          have h9 : 0 ≤ 255 - (k : Int) := by omega
          have h10 : ((255 - (k : Int)) % 255).toNat = (255 - k) % 255 := by omega
          have h11 : 0 ≤ (255 - (k : Int)) % 255 := by omega
          have h12 : (255 - (k : Int)) % 255 < 255 := by omega
          have h13 : ((pow3 k).toNat : Int) < 256 := by omega
          have h14 : (-(k : Int) % 255).toNat = (255 - k) % 255 := by omega
          have h15 : 0 ≤ -(k : Int) % 255 := by omega
          have h16 : -(k : Int) % 255 < 255 := by omega
          clear hin hm
          generalize (255 - k) % 255 = m at hc1 HP h10 h14
          generalize pow3 m = y at hc1 HP
          generalize pow3 k = x at *
          generalize (tabTo k).getD x.toNat 0 = z at hc2
          go_wp2_with (go_at_call 28; refine (aesBoxed _ _).mono ?_; rintro e w' ⟨rfl, rfl⟩)
          go_roundw
          case rel => exact ⟨k + 1, by omega, by go_num, HP.out⟩
          case measure => simp [intOf]; omega
        · obtain rfl : k = 255 := by omega
          rw [show ((255 : Nat) : Int) = 255 from rfl]
          have hlen : (boxTab.map bv).toArray.size = 256 := by rw [List.size_toArray, List.length_map, boxTab_length]
          have hw := hin.tab
          rw [tabTo_all] at hw
          have HN := Lib.hid hin.new
          have HR := Lib.hid hin.res
          clear hin
          go_upto_region 16 with fail
          refine wp_region_lit ?_
          refine wpList_load_row rfl 39 _ rfl (w.heap.size + 1 + 1) rfl _ _ _ _ hw Try.underlying39 rfl (by rw [hlen]; kernel_rfl) ?_
          refine wpList_store_row rfl 39 _ _ rfl w.heap.size (boxTab.map bv).toArray rfl rfl _ _ HR.out (by rw [hlen]; kernel_rfl) (by rw [hlen]; rfl) (allOneB _) ?_
          go_wp2
          refine bodyPost_ret (v := .agg (boxTab.map bv).toArray) (results_cell_row rfl _ _ w.heap.size _ _ _ _ rfl (setRow_heap _ _ _ _ _ _ HR.out) Try.underlying39 rfl (by rw [hlen]; kernel_rfl)) rfl ⟨rfl, ?_⟩
          exact below_setRow HN.out (Nat.le_refl _) _

/-- Box -/
theorem aesBox (w : World) (c : UInt8) : Calls Try.prog 11 #[bv c] w fun e w' => e = .returned (bv (gbox c)) ∧ New w w' := by
  have hix := fun wx => run_indexB Try.underlying39 boxTab boxTab_length .u8 c.toNat (u8_lt c) wx
  have HG : Hid (gbox c = boxTab.getD c.toNat 0) := Lib.hid rfl
  go_enter Try.func11, Try.ntmps11
  go_wp2_with fail
  refine (aesBoxesF w).mono ?_
  rintro e w1 ⟨rfl, N1⟩
  generalize boxTab.getD c.toNat 0 = r at hix HG
  generalize boxTab = B at hix ⊢
  go_wp2
  go_ret
  exact ⟨by rw [HG.out]; rfl, N1⟩

end Go.Proofs.Ytapoelmhnbgidaa
