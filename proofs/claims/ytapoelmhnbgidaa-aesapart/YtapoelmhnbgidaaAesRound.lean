/-
  aes: added, replaced, rotated, mixed, next.
-/
import Derived.Test.YtapoelmhnbgidaaAesBox
namespace Go.Proofs.Ytapoelmhnbgidaa
set_option linter.unusedVariables false
set_option linter.unusedSimpArgs false
open Go.RowKit

attribute [local go_sem] u8_bxor

def zeros16 : List UInt8 := [0, 0, 0, 0, 0, 0, 0, 0, 0, 0, 0, 0, 0, 0, 0, 0]

def addB (b k : List UInt8) : List UInt8 := fillTo (fun n => bxor (b.getD n 0) (k.getD n 0)) b 16
def repB (b : List UInt8) : List UInt8 := fillTo (fun n => gbox (b.getD n 0)) b 16
def rotB (b : List UInt8) : List UInt8 := fillTo (fun n => b.getD ((n + 4 * (n % 4)) % 16) 0) zeros16 16
def mix4 (a b c d : UInt8) : UInt8 := bxor (bxor (bxor (bxor (dbl a) (dbl b)) b) c) d
def mixAt (b : List UInt8) (n : Nat) : UInt8 := mix4 (b.getD (n - n % 4 + n % 4) 0) (b.getD (n - n % 4 + (n % 4 + 1) % 4) 0) (b.getD (n - n % 4 + (n % 4 + 2) % 4) 0) (b.getD (n - n % 4 + (n % 4 + 3) % 4) 0)
def mixB (b : List UInt8) : List UInt8 := fillTo (mixAt b) zeros16 16
def keyA (k : List UInt8) (p : UInt8) : List UInt8 := k.set 0 (bxor (k.getD 0 0) p)
def keyB (k : List UInt8) (n : Nat) : List UInt8 := fillTo (fun r => bxor (k.getD r 0) (gbox (k.getD (12 + (r + 1) % 4) 0))) k n
def keyC (k : List UInt8) : Nat → List UInt8
  | 0 => k
  | n + 1 => (keyC k n).set (n + 4) (bxor ((keyC k n).getD (n + 4) 0) ((keyC k n).getD n 0))
def nextK (k : List UInt8) (p : UInt8) : List UInt8 := keyC (keyB (keyA k p) 4) 12

theorem addB_length (b k : List UInt8) : (addB b k).length = b.length := fillTo_length _ _ _
theorem repB_length (b : List UInt8) : (repB b).length = b.length := fillTo_length _ _ _
theorem rotB_length (b : List UInt8) : (rotB b).length = 16 := fillTo_length _ _ _
theorem mixB_length (b : List UInt8) : (mixB b).length = 16 := fillTo_length _ _ _
theorem keyB_length (k : List UInt8) (n : Nat) : (keyB k n).length = k.length := fillTo_length _ _ _
theorem keyC_length (k : List UInt8) (n : Nat) : (keyC k n).length = k.length := by
  induction n with
  | zero => rfl
  | succ n ih => unfold keyC; rw [List.length_set, ih]
theorem nextK_length (k : List UInt8) (p : UInt8) : (nextK k p).length = k.length := by
  unfold nextK keyA; rw [keyC_length, keyB_length, List.length_set]

/-- three rows that a call made -/
structure In3 (w : World) (A : List UInt8) (tA : TypeId) (B : List UInt8) (tB : TypeId) (C : List UInt8) (tC : TypeId) (wr : World) : Prop where
  a : wr.heap[w.heap.size]? = some (.cells (A.map bv).toArray tA)
  b : wr.heap[w.heap.size + 1]? = some (.cells (B.map bv).toArray tB)
  c : wr.heap[w.heap.size + 1 + 1]? = some (.cells (C.map bv).toArray tC)
  new : New w wr

section
variable {w wr : World} {A B C : List UInt8} {tA tB tC : TypeId}

theorem In3.made (w : World) (A B C : List UInt8) (tA tB tC : TypeId) : In3 w A tA B tB C tC (((w.alloc (.cells (A.map bv).toArray tA)).alloc (.cells (B.map bv).toArray tB)).alloc (.cells (C.map bv).toArray tC)) :=
  ⟨alloc3_0 _ _ _ _, alloc3_1 _ _ _ _, alloc3_2 _ _ _ _, (((Below.refl _ _).alloc (Nat.le_refl _) _).alloc (by simp) _).alloc (by simp; omega) _⟩

theorem In3.drew (h : In3 w A tA B tB C tC wr) : In3 w A tA B tB C tC wr.drew := ⟨h.a, h.b, h.c, h.new.drew⟩
theorem In3.drewN (h : In3 w A tA B tB C tC wr) (n : Nat) : In3 w A tA B tB C tC (wr.drewN n) := ⟨h.a, h.b, h.c, below_drewN h.new n⟩

theorem In3.setA (h : In3 w A tA B tB C tC wr) (i : Nat) (x : UInt8) : In3 w (A.set i x) tA B tB C tC (wr.setCell ⟨w.heap.size, i, none⟩ (bv x)) := by
  refine ⟨?_, ?_, ?_, h.new.setCell (Nat.le_refl _) _⟩
  · rw [heap_setCell_same _ _ _ _ _ _ h.a, List.setIfInBounds_toArray, ← List.map_set]
  · rw [heap_setCell_other _ _ _ _ (by show _ ≠ w.heap.size; omega)]; exact h.b
  · rw [heap_setCell_other _ _ _ _ (by show _ ≠ w.heap.size; omega)]; exact h.c

theorem In3.setC (h : In3 w A tA B tB C tC wr) (i : Nat) (x : UInt8) : In3 w A tA B tB (C.set i x) tC (wr.setCell ⟨w.heap.size + 1 + 1, i, none⟩ (bv x)) := by
  refine ⟨?_, ?_, ?_, h.new.setCell (by show w.heap.size ≤ w.heap.size + 1 + 1; omega) _⟩
  · rw [heap_setCell_other _ _ _ _ (by show _ ≠ w.heap.size + 1 + 1; omega)]; exact h.a
  · rw [heap_setCell_other _ _ _ _ (by show _ ≠ w.heap.size + 1 + 1; omega)]; exact h.b
  · rw [heap_setCell_same _ _ _ _ _ _ h.c, List.setIfInBounds_toArray, ← List.map_set]
end

set_option maxRecDepth 100000 in
set_option maxHeartbeats 400000 in
theorem aesAdded (w : World) (b k : List UInt8) (hb : b.length = 16) (hk : k.length = 16) :
    Calls Try.prog 18 #[.agg (b.map bv).toArray, .agg (k.map bv).toArray] w fun e w' => e = .returned (.agg ((addB b k).map bv).toArray) ∧ New w w' := by
  have HB := Lib.hid hb
  have HK := Lib.hid hk
  clear hb hk
  go_enter Try.func18, Try.ntmps18
  go_wp2
  go_loopw [6] (fun i wr => ∃ j : Nat, j ≤ 16 ∧ i = .int .i64 j ∧ In3 w (fillTo (fun n => bxor (b.getD n 0) (k.getD n 0)) b j) 22 k 22 zeros16 22 wr) (fun i _ => 16 - (intOf i).toNat)
  case atStart => exact ⟨0, by omega, rfl, In3.made _ _ _ _ _ _ _⟩
  case round =>
    obtain ⟨j, hj, rfl, hin⟩ := hrel
    by_cases hlt : j < 16
    · have hd := hin.drew
      have hc1 := byte_cell (i := j) hd.a (by rw [fillTo_length, HB.out]; exact hlt)
      rw [fillTo_ge _ _ _ _ (Nat.le_refl _)] at hc1
      have hc2 := byte_cell (i := j) hd.b (by rw [HK.out]; exact hlt)
      have hf := frozen_of_row _ _ j _ _ hd.a
      have HP := Lib.hid (hd.setA j (bxor (b.getD j 0) (k.getD j 0)))
      have h16 : (j : Int) < 16 := by omega
      clear hin hd
      obtain ⟨x, HX⟩ : ∃ x, Hid (b.getD j 0 = x) := ⟨_, Lib.hid rfl⟩
      obtain ⟨y, HY⟩ : ∃ y, Hid (k.getD j 0 = y) := ⟨_, Lib.hid rfl⟩
      rw [HX.out] at hc1
      rw [HY.out] at hc2
      rw [HX.out, HY.out] at HP
      go_wp2
      refine wp_region_still_tail 8 (by kernel_rfl) (by kernel_rfl) ?_
      simp only [List.take_succ_cons, List.take_zero, List.drop_succ_cons, List.drop_zero]
      change wpStill _ _ wr.drew (fun a' => wpList _ _ _ _ a' wr.drew) _ _
      generalize wr.drew = wd at *
      repeat still_step
      refine wpStill_nil ?_
      go_wp2
      go_roundw
      case rel =>
        refine ⟨j + 1, by omega, by go_num, ?_⟩
        rw [fillTo, HX.out, HY.out]
        exact HP.out
      case measure => simp [intOf]; omega
    · obtain rfl : j = 16 := by omega
      rw [show ((16 : Nat) : Int) = 16 from rfl]
      have HL : Hid ((addB b k).length = 16) := by show _ = _; rw [addB_length, HB.out]
      change In3 w (addB b k) _ _ _ _ _ _ at hin
      obtain ⟨R, HR⟩ : ∃ R, Hid (addB b k = R) := ⟨_, Lib.hid rfl⟩
      rw [HR.out] at hin HL
      have hlen : (R.map bv).toArray.size = 16 := by rw [List.size_toArray, List.length_map, HL.out]
      have HI := Lib.hid hin
      clear hin
      go_upto_region 6 with fail
      refine wp_region_lit ?_
      refine wpList_load_row rfl 22 _ rfl w.heap.size rfl _ _ _ _ HI.out.a Try.underlying22 rfl (by rw [hlen]; kernel_rfl) ?_
      refine wpList_store_row rfl 22 _ _ rfl (w.heap.size + 1 + 1) (R.map bv).toArray rfl rfl _ _ HI.out.c (by rw [hlen]; kernel_rfl) (by rw [hlen]; rfl) (allOneB _) ?_
      go_wp2
      refine bodyPost_ret (v := .agg (R.map bv).toArray) (results_cell_row rfl _ _ (w.heap.size + 1 + 1) _ _ _ _ rfl (setRow_heap _ _ _ _ _ _ HI.out.c) Try.underlying22 rfl (by rw [hlen]; kernel_rfl)) rfl ⟨by rw [HR.out], ?_⟩
      exact below_setRow HI.out.new (by show w.heap.size ≤ w.heap.size + 1 + 1; omega) _

set_option maxRecDepth 100000 in
set_option maxHeartbeats 400000 in
theorem aesReplaced (w : World) (b : List UInt8) (hb : b.length = 16) :
    Calls Try.prog 20 #[.agg (b.map bv).toArray, .agg (boxTab.map bv).toArray] w fun e w' => e = .returned (.agg ((repB b).map bv).toArray) ∧ New w w' := by
  have HB := Lib.hid hb
  clear hb
  have HT : Hid (∀ x : UInt8, boxTab.getD x.toNat 0 = gbox x) := Lib.hid (fun _ => rfl)
  have HTL := Lib.hid boxTab_length
  generalize boxTab = T at HT HTL ⊢
  go_enter Try.func20, Try.ntmps20
  go_upto_region 1 with fail
  generalize hw1 : World.alloc (World.alloc (World.alloc w _) _) _ = w1
  have hin : In3 w b 22 T 39 zeros16 22 w1 := by rw [← hw1]; exact In3.made _ _ _ _ _ _ _
  clear hw1
  have hlb : (b.map bv).toArray.size = 16 := by rw [List.size_toArray, List.length_map, HB.out]
  refine wp_region_lit ?_
  refine wpList_load_row rfl 22 _ rfl w.heap.size rfl _ _ _ _ hin.a Try.underlying22 rfl (by rw [hlb]; kernel_rfl) ?_
  clear hlb
  have HI0 := Lib.hid hin
  clear hin
  go_wp2
  go_loopw [8] (fun i wr => ∃ j : Nat, j ≤ 16 ∧ i = .int .i64 j ∧ In3 w (fillTo (fun n => gbox (b.getD n 0)) b j) 22 T 39 zeros16 22 wr) (fun i _ => 16 - (intOf i).toNat)
  case atStart => exact ⟨0, by omega, rfl, HI0.out⟩
  case round =>
    clear HI0
    obtain ⟨j, hj, rfl, hin⟩ := hrel
    by_cases hlt : j < 16
    · have hix := fun wx => run_indexB Try.underlying22 b HB.out .i64 j hlt wx
      have hc1 := byte_cell (i := j) hin.a (by rw [fillTo_length, HB.out]; exact hlt)
      rw [fillTo_ge _ _ _ _ (Nat.le_refl _)] at hc1
      have hf := frozen_of_row _ _ j _ _ hin.a
      obtain ⟨x, HX⟩ : ∃ x, Hid (b.getD j 0 = x) := ⟨_, Lib.hid rfl⟩
      rw [HX.out] at hc1
      have hx := u8_lt x
      have hc2 := byte_cell (i := x.toNat) hin.b (by rw [HTL.out]; exact hx)
      rw [HT.out] at hc2
      have HP := Lib.hid (hin.setA j (gbox x))
      have h16 : (j : Int) < 16 := by omega
      have h256 : (x.toNat : Int) < 256 := by omega
      simp only [HX.out] at hix
      obtain ⟨y, HG⟩ : ∃ y, Hid (gbox x = y) := ⟨_, Lib.hid rfl⟩
      rw [HG.out] at hc2 HP
      clear hin
      go_wp2
      go_roundw
      case rel =>
        refine ⟨j + 1, by omega, by go_num, ?_⟩
        rw [fillTo, HX.out, HG.out]
        exact HP.out
      case measure => simp [intOf]; omega
    · obtain rfl : j = 16 := by omega
      rw [show ((16 : Nat) : Int) = 16 from rfl]
      have HL : Hid ((repB b).length = 16) := by show _ = _; rw [repB_length, HB.out]
      change In3 w (repB b) _ _ _ _ _ _ at hin
      obtain ⟨R, HR⟩ : ∃ R, Hid (repB b = R) := ⟨_, Lib.hid rfl⟩
      rw [HR.out] at hin HL
      have hlen : (R.map bv).toArray.size = 16 := by rw [List.size_toArray, List.length_map, HL.out]
      have HI := Lib.hid hin
      clear hin
      go_upto_region 6 with fail
      refine wp_region_lit ?_
      refine wpList_load_row rfl 22 _ rfl w.heap.size rfl _ _ _ _ HI.out.a Try.underlying22 rfl (by rw [hlen]; kernel_rfl) ?_
      refine wpList_store_row rfl 22 _ _ rfl (w.heap.size + 1 + 1) (R.map bv).toArray rfl rfl _ _ HI.out.c (by rw [hlen]; kernel_rfl) (by rw [hlen]; rfl) (allOneB _) ?_
      go_wp2
      refine bodyPost_ret (v := .agg (R.map bv).toArray) (results_cell_row rfl _ _ (w.heap.size + 1 + 1) _ _ _ _ rfl (setRow_heap _ _ _ _ _ _ HI.out.c) Try.underlying22 rfl (by rw [hlen]; kernel_rfl)) rfl ⟨by rw [HR.out], ?_⟩
      exact below_setRow HI.out.new (by show w.heap.size ≤ w.heap.size + 1 + 1; omega) _

set_option maxRecDepth 100000 in
set_option maxHeartbeats 400000 in
theorem aesRotated (w : World) (b : List UInt8) (hb : b.length = 16) :
    Calls Try.prog 19 #[.agg (b.map bv).toArray] w fun e w' => e = .returned (.agg ((rotB b).map bv).toArray) ∧ New w w' := by
  have HB := Lib.hid hb
  clear hb
  go_enter Try.func19, Try.ntmps19
  go_wp2
  go_loopw [6] (fun i wr => ∃ j : Nat, j ≤ 16 ∧ i = .int .i64 j ∧ In3 w b 22 zeros16 22 (fillTo (fun n => b.getD ((n + 4 * (n % 4)) % 16) 0) zeros16 j) 22 wr) (fun i _ => 16 - (intOf i).toNat)
  case atStart => exact ⟨0, by omega, rfl, In3.made _ _ _ _ _ _ _⟩
  case round =>
    obtain ⟨j, hj, rfl, hin⟩ := hrel
    by_cases hlt : j < 16
    · have hm : (j + 4 * (j % 4)) % 16 < 16 := Nat.mod_lt _ (by decide)
      have hc1 := byte_cell (i := (j + 4 * (j % 4)) % 16) hin.a (by rw [HB.out]; exact hm)
      have hc2 := byte_cell (i := j) hin.c (by rw [fillTo_length]; exact hlt)
      have hf := frozen_of_row _ _ j _ _ hin.c
      have HP := Lib.hid (hin.setC j (b.getD ((j + 4 * (j % 4)) % 16) 0))
      have h16 : (j : Int) < 16 := by omega
      obtain ⟨r, Hr⟩ : ∃ r, Hid (j % 4 = r) := ⟨_, Lib.hid rfl⟩
      have hr : (j : Int) % 4 = (r : Int) := by rw [← Hr.out]; omega
      have hr4 : r < 4 := by rw [← Hr.out]; omega
      rw [Hr.out] at hc1 HP hm
      obtain ⟨m, Hm⟩ : ∃ m, Hid ((j + 4 * r) % 16 = m) := ⟨_, Lib.hid rfl⟩
      have hm2 : ((j : Int) + 4 * (r : Int)) % 16 = (m : Int) := by rw [← Hm.out]; omega
      rw [Hm.out] at hc1 HP hm
      have hm3 : (m : Int) < 16 := by omega
      obtain ⟨x, HX⟩ : ∃ x, Hid (b.getD m 0 = x) := ⟨_, Lib.hid rfl⟩
      rw [HX.out] at hc1 HP
      generalize List.getD (fillTo _ zeros16 j) j 0 = z at hc2
      clear hin
      go_wp2
      go_roundw
      case rel =>
        refine ⟨j + 1, by omega, by go_num, ?_⟩
        rw [fillTo, Hr.out, Hm.out, HX.out]
        exact HP.out
      case measure => simp [intOf]; omega
    · obtain rfl : j = 16 := by omega
      rw [show ((16 : Nat) : Int) = 16 from rfl]
      have HL := Lib.hid (rotB_length b)
      change In3 w _ _ _ _ (rotB b) _ _ at hin
      obtain ⟨R, HR⟩ : ∃ R, Hid (rotB b = R) := ⟨_, Lib.hid rfl⟩
      rw [HR.out] at hin HL
      have hlen : (R.map bv).toArray.size = 16 := by rw [List.size_toArray, List.length_map, HL.out]
      have HI := Lib.hid hin
      clear hin
      go_upto_region 8 with fail
      refine wp_region_lit ?_
      refine wpList_load_row rfl 22 _ rfl (w.heap.size + 1 + 1) rfl _ _ _ _ HI.out.c Try.underlying22 rfl (by rw [hlen]; kernel_rfl) ?_
      refine wpList_store_row rfl 22 _ _ rfl (w.heap.size + 1) (R.map bv).toArray rfl rfl _ _ HI.out.b (by rw [hlen]; kernel_rfl) (by rw [hlen]; rfl) (allOneB _) ?_
      go_wp2
      refine bodyPost_ret (v := .agg (R.map bv).toArray) (results_cell_row rfl _ _ (w.heap.size + 1) _ _ _ _ rfl (setRow_heap _ _ _ _ _ _ HI.out.b) Try.underlying22 rfl (by rw [hlen]; kernel_rfl)) rfl ⟨by rw [HR.out], ?_⟩
      exact below_setRow HI.out.new (by show w.heap.size ≤ w.heap.size + 1; omega) _

end Go.Proofs.Ytapoelmhnbgidaa
