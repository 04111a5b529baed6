/-
  mac.masked.
-/
import Derived.Test.YtoooemlcackepaaDoorMacSame
import Derived.Test.YtoooemlcackepaaDoorShaExp
namespace Go.Proofs.YtoooemlcackepaaDoor
set_option linter.unusedVariables false
set_option linter.unusedSimpArgs false
open Go.RowKit

/-- the first j bytes are xored -/
def maskTo (x : UInt8) (b : List UInt8) (j : Nat) : List UInt8 := maskB x (b.take j) ++ b.drop j

theorem maskTo_length (x : UInt8) (b : List UInt8) (j : Nat) : (maskTo x b j).length = b.length := by
  simp [maskTo, maskB]; omega

theorem maskTo_get (x : UInt8) (b : List UInt8) (j : Nat) (h : j < b.length) : (maskTo x b j).getD j 0 = b.getD j 0 := by
  unfold maskTo
  have e : (maskB x (b.take j)).length = j := by simp [maskB]; omega
  rw [List.getD_eq_getElem?_getD, List.getElem?_append_right (by omega), e, Nat.sub_self, List.getElem?_drop, List.getD_eq_getElem?_getD, Nat.add_zero]

theorem maskTo_set (x : UInt8) (b : List UInt8) (j : Nat) (h : j < b.length) : (maskTo x b j).set j (bxor (b.getD j 0) x) = maskTo x b (j + 1) := by
  unfold maskTo
  have e : (maskB x (b.take j)).length = j := by simp [maskB]; omega
  rw [List.set_append_right _ _ (by omega), e, Nat.sub_self, List.drop_eq_getElem_cons h, List.set_cons_zero, List.take_add_one, List.getElem?_eq_getElem h, List.getD_eq_getElem?_getD, List.getElem?_eq_getElem h]
  simp only [maskB, List.map_append, Option.toList_some, List.map_cons, List.map_nil, List.append_assoc, List.cons_append, List.nil_append, Option.getD_some]

structure MaskIn (w : World) (x : UInt8) (b : List UInt8) (j : Nat) (wr : World) : Prop where
  row : wr.heap[w.heap.size]? = some (.cells ((maskTo x b j).map bv).toArray 31)
  new : New w wr

theorem MaskIn.put {w : World} {x : UInt8} {b : List UInt8} {j : Nat} {wr : World} (h : MaskIn w x b j wr) (hj : j < b.length) : MaskIn w x b (j + 1) (wr.setCell ⟨w.heap.size, j, none⟩ (bv (bxor (b.getD j 0) x))) := by
  refine ⟨?_, h.new.setCell (Nat.le_refl _) _⟩
  rw [heap_setCell_same _ _ _ _ _ _ h.row, List.setIfInBounds_toArray, ← List.map_set, maskTo_set x b j hj]

theorem rd_of_row {w : World} {g : Nat} {l : List UInt8} {t : TypeId} {fr : Nat × Nat} (h : w.heap[g]? = some (.cells (l.map bv).toArray t fr)) (hl : l.length ≤ 9223372036854775807) : Rd w (.slice (some ⟨g, 0, none⟩) l.length l.length) l := by
  refine ⟨_, _, _, rfl, rfl, Nat.le_refl _, by simpa [maxLen] using hl, (fun h => by cases h), fun ad had i u hu => ?_⟩
  cases had
  rw [show (⟨g, 0, none⟩ : Addr).add i = ⟨g, i, none⟩ by unfold Addr.add; split <;> simp_all, cell_of_row _ _ _ _ _ _ h, List.getElem?_toArray, List.getElem?_map, hu]
  rfl

theorem arr64_all (wx : World) (p : Nat) : (Instr.sliceAt 31 (.pointer (some ⟨p, 0, none⟩)) none none none).run Tryd.prog wx = .ok (.slice (some ⟨p, 0, none⟩) 64 64) wx := by
  rw [run_sliceAt_array_all wx _ _ arr64, arr64_size, arr64_len]
  simp only [Result.andThen_ok, slicedAt]
  rfl

attribute [local go_sem] u8_bxor

set_option maxRecDepth 100000 in
set_option maxHeartbeats 400000 in
theorem macMasked (w : World) (b : List UInt8) (hb : Hid (b.length = 64)) (x : UInt8) :
    Calls Tryd.prog 13 #[.agg (b.map bv).toArray, bv x] w fun e w' => e = .returned (.slice (some ⟨w.heap.size, 0, none⟩) 64 64) ∧ Rd w' (.slice (some ⟨w.heap.size, 0, none⟩) 64 64) (maskB x b) ∧ New w w' := by
  go_enter Tryd.func13, Tryd.ntmps13
  go_wp2
  go_loopw [6] (fun i wr => ∃ j : Nat, j ≤ 64 ∧ i = .int .i64 j ∧ MaskIn w x b j wr) (fun i _ => 64 - (intOf i).toNat)
  case atStart =>
    refine ⟨0, by omega, rfl, ⟨?_, (Below.refl _ _).alloc (Nat.le_refl _) _⟩⟩
    rw [heap_alloc_new]; simp [maskTo, maskB]
  case round =>
    obtain ⟨j, hj, rfl, hin⟩ := hrel
    by_cases hlt : j < 64
    · have hlt' : j < b.length := by rw [hb.out]; exact hlt
      have hc : wr.cell? ⟨w.heap.size, j, none⟩ = some (bv (b.getD j 0)) := by
        have := byte_cell hin.row (i := j) (by rw [maskTo_length]; exact hlt')
        rwa [maskTo_get x b j hlt'] at this
      have hf := frozen_of_row wr w.heap.size j _ _ hin.row
      have HP := Lib.hid (hin.put hlt')
      have h64 : (j : Int) < 64 := by omega
      generalize b.getD j 0 = p at *
      clear hin hlt'
      go_wp2
      go_roundw
      case rel => exact ⟨j + 1, by omega, by go_num, HP.out⟩
      case measure => simp [intOf]; omega
    · obtain rfl : j = 64 := by omega
      have hr := rd_of_row hin.row (by rw [maskTo_length, hb.out]; decide)
      rw [maskTo_length, hb.out] at hr
      have e : maskTo x b 64 = maskB x b := by unfold maskTo; rw [List.take_of_length_le (by rw [hb.out]; exact Nat.le_refl _), List.drop_eq_nil_of_le (by rw [hb.out]; exact Nat.le_refl _), List.append_nil]
      rw [e] at hr
      have hsl := fun wx => arr64_all wx w.heap.size
      have HN := Lib.hid hin.new
      have HR := Lib.hid hr
      clear hr hin
      rw [show ((64 : Nat) : Int) = 64 from rfl]
      go_wp2
      go_ret
      exact ⟨rfl, HR.out, HN.out⟩

end Go.Proofs.YtoooemlcackepaaDoor
