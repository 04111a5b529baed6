/-
  append(b, make([]byte, m)...) onto a row of one's own.
-/
import Derived.Test.YtjkhklbeimgggaaDoorShaA
import Derived.Test.YtjkhklbeimgggaaDoorBase
import Derived.Lib.AppendZerosOnto
namespace Go.Proofs.YtjkhklbeimgggaaDoor
set_option linter.unusedVariables false
set_option linter.unusedSimpArgs false
open Go.RowKit

theorem zeroCells_bytes (m : Nat) : Builtin.zeroCells (Value.int .u8 0).cells m = (List.replicate m (bv 0)).toArray := by
  apply Array.ext
  · simp [Builtin.zeroCells, Value.cells]
  · intro i h1 h2
    simp [Builtin.zeroCells, Value.cells, Nat.mod_one]

theorem getElem?_bv {l : List UInt8} {j : Nat} {u : Value} (h : (l.map bv)[j]? = some u) : ∃ b, l[j]? = some b ∧ u = bv b := by
  rw [List.getElem?_map] at h
  cases hb : l[j]? with
  | none => rw [hb] at h; cases h
  | some b => rw [hb] at h; cases h; exact ⟨b, rfl, rfl⟩

/-- a longer row that begins with these bytes -/
theorem rd_of_longer {w : World} {g : Nat} {l r : List UInt8} {c : Nat} {t : TypeId} {fr : Nat × Nat} (h : w.heap[g]? = some (.cells ((l ++ r).map bv).toArray t fr)) (hl : l.length ≤ c) (hc : c ≤ maxLen) : Rd w (.slice (some ⟨g, 0, none⟩) l.length c) l := by
  refine ⟨_, _, _, rfl, rfl, hl, hc, (fun h => by cases h), fun ad had i u hu => ?_⟩
  cases had
  have hi : i < l.length := by
    rcases Nat.lt_or_ge i l.length with h | h
    · exact h
    · rw [List.getElem?_eq_none h] at hu; cases hu
  rw [show (⟨g, 0, none⟩ : Addr).add i = ⟨g, i, none⟩ by unfold Addr.add; split <;> simp_all, cell_of_row _ _ _ _ _ _ h, List.getElem?_toArray, List.getElem?_map, List.getElem?_append_left hi, hu]
  rfl

theorem run_append_zerosO (w : World) (base : Nat) (ao : Option Addr) (n c : Nat) (k : List UInt8) (hr : Rd w (.slice ao n c) k) (ho : (n = 0 ∧ c = 0) ∨ w.ownsRow base 5 1 (.slice ao n c) n (k.map bv)) (hb : base ≤ w.heap.size) (m : Nat) (hnm : n + m ≤ 1000000) :
    ∃ v' w', (Builtin.append_ #[22, 3] 22 #[.slice ao n c, .int .i64 m]).run Tryd.prog w = .ok v' w' ∧ Rd w' v' (k ++ List.replicate m 0) ∧ Below base w w' ∧ Only (fun j => blk (.slice ao n c) = some j) w w' := by
  obtain ⟨i0, hi0, hz0, hz1, hz2⟩ := info_parts infoByte
  have hkl := hr.len
  have hw : IntKind.i64.wrap (m : Int) = m := by rw [IntKind.wrap_i64]; omega
  have hneg : ¬ ((m : Int) < 0) := by omega
  have h48i : ¬ (281474976710656 < (m : Int)) := by omega
  by_cases hroom : n + m ≤ c
  · by_cases hm : m = 0
    · subst hm
      refine ⟨.slice ao n c, w, ?_, by simpa using hr, Below.refl _ _, Only.refl _ _⟩
      have hst : ∀ a : Addr, (storeCells a ([] : List Value) 0).run Tryd.prog w = .ok () w := fun a => by simp [storeCells]
      have hw0 : IntKind.i64.wrap (0 : Int) = 0 := by decide
      rw [Nat.add_zero] at hroom
      cases ao <;> simp [Builtin.append_, run_underlying (P := Tryd.prog) Tryd.underlying22, run_underlying (P := Tryd.prog) Tryd.underlying3, sizeOf, typeInfo, hi0, hz1, hz2, asInt, asIntOf, hw0, hroom, hst]
    · rcases ho with ⟨rfl, rfl⟩ | ho
      · omega
      · rcases ho.2 with ⟨e, h0⟩ | ⟨g, cap, cur, e, hbg, hg, hnc, hcm, hcs, htk⟩
        · cases e; omega
        · cases e
          rw [Nat.mul_one] at hcs htk
          have hst := run_storeCells_at Tryd.prog g n 5 (List.replicate m (bv 0)) 0 cur w hg (by simp; omega) (by intro v hv; rw [List.eq_of_mem_replicate hv]; rfl)
          have hns : ¬ (m * 1 = 0) := by omega
          have hrun : (Builtin.append_ #[22, 3] 22 #[.slice (some ⟨g, 0, none⟩) n c, .int .i64 m]).run Tryd.prog w = .ok (.slice (some ⟨g, 0, none⟩) (n + m) c) (w.setRow g (cur.toList.take (n + 0) ++ List.replicate m (bv 0) ++ cur.toList.drop (n + 0 + (List.replicate m (bv 0)).length)).toArray) := by
            simp only [Builtin.append_, List.getElem?_toArray, List.getElem?_cons_zero, List.getElem?_cons_succ, Sem.run_bind, run_underlying (P := Tryd.prog) Tryd.underlying22, run_underlying (P := Tryd.prog) Tryd.underlying3, Result.andThen_ok, Sem.run_pure]
            simp [sizeOf, typeInfo, zeroValue, hi0, hz0, hz1, hz2, asInt, asIntOf, hw, hneg, h48i, hroom, hm, zeroCells_bytes, Addr.add_lit, hst]
          have hcells : (cur.toList.take (n + 0) ++ List.replicate m (bv 0) ++ cur.toList.drop (n + 0 + (List.replicate m (bv 0)).length)) = ((k ++ List.replicate m 0).map bv) ++ cur.toList.drop (n + m) := by
            rw [Nat.add_zero, htk, List.length_replicate, List.map_append, List.map_replicate]
          rw [hcells] at hrun
          refine ⟨_, _, hrun, ?_, below_setRow (Below.refl _ _) hbg _, ⟨rfl, rfl, rfl, by simp [World.setRow], fun j _ hj => setRow_other w g j _ (fun e => hj (by rw [e]; rfl))⟩⟩
          have hrow := setRow_heap w g cur (((k ++ List.replicate m 0).map bv) ++ cur.toList.drop (n + m)).toArray 5 _ hg
          refine ⟨_, _, _, rfl, by simp; omega, hroom, hcm, (fun h => by cases h), fun ad had i u hu => ?_⟩
          cases had
          have hi : i < (k ++ List.replicate m 0).length := by
            rcases Nat.lt_or_ge i (k ++ List.replicate m 0).length with h | h
            · exact h
            · rw [List.getElem?_eq_none h] at hu; cases hu
          rw [show (⟨g, 0, none⟩ : Addr).add i = ⟨g, i, none⟩ by unfold Addr.add; split <;> simp_all, cell_of_row _ _ _ _ _ _ hrow, List.getElem?_toArray, List.getElem?_append_left (by rw [List.length_map]; exact hi), List.getElem?_map, hu]
          rfl
  · have hold : (Builtin.firstCells i0.size n (.slice ao n c)).run Tryd.prog w.drew = .ok (k.map bv).toArray w.drew := by
      rw [hz1]
      have hrd : Rd w.drew (.slice ao n c) k := hr
      obtain ⟨a', n', c', e, h1, h2, h3, h4, h5⟩ := hrd
      cases e
      cases ao with
      | none =>
        obtain ⟨rfl, rfl⟩ := h4 rfl
        obtain rfl : k = [] := List.eq_nil_of_length_eq_zero h1
        simp [Builtin.firstCells]
      | some ad =>
        exact run_firstCells_some w.drew 1 n ad n c (k.map bv) (by simp; omega) (fun j v hj => by obtain ⟨b, hb1, rfl⟩ := getElem?_bv hj; exact h5 ad rfl j b hb1)
    have hrun := Lib.run_append_grow_zeros (P := Tryd.prog) w 22 3 22 5 i0 _ .i64 .i64 Tryd.underlying22 Tryd.underlying3 hi0 hz0 ao n c (k.map bv) hold m (by
      rcases Nat.lt_or_ge 0 m with h | h
      · exact h
      · obtain ⟨_, _, _, e, _, h2, _⟩ := hr; cases e; omega) (by omega) (by omega) (by omega) (by rw [hz2]; omega) (growslice_fits (by omega) (by rw [hz2]; omega))
    have hge := grownCap_ge w (n + m) c 5
    have hcm := grownCap_le_maxLen w (n + m) c 5 (by unfold maxLen; omega)
    refine ⟨_, _, hrun, ?_, ((Below.refl base w).drew).alloc hb _, ((Only.refl _ w).drew).alloc _⟩
    rw [zeroCells_bytes, zeroCells_bytes]
    generalize grownCap w (n + m) c 5 - (n + m) = q
    generalize grownCap w (n + m) c 5 = C at *
    have hrow := heap_alloc_new w.drew (.cells (((k ++ List.replicate m 0) ++ List.replicate q 0).map bv).toArray 5)
    have h := rd_of_longer hrow (c := C) (by simp; omega) hcm
    have e : (k ++ List.replicate m (0 : UInt8)).length = n + m := by simp; omega
    rw [e] at h
    have e2 : (k.map bv).toArray ++ (List.replicate m (bv 0)).toArray ++ (List.replicate q (bv 0)).toArray = (((k ++ List.replicate m 0) ++ List.replicate q 0).map bv).toArray := by simp
    rw [e2]
    exact h

theorem run_append_zeros (w : World) (base : Nat) (ao : Option Addr) (n c : Nat) (k : List UInt8) (hr : Rd w (.slice ao n c) k) (ho : (n = 0 ∧ c = 0) ∨ w.ownsRow base 5 1 (.slice ao n c) n (k.map bv)) (hb : base ≤ w.heap.size) (m : Nat) (hnm : n + m ≤ 1000000) :
    ∃ v' w', (Builtin.append_ #[22, 3] 22 #[.slice ao n c, .int .i64 m]).run Tryd.prog w = .ok v' w' ∧ Rd w' v' (k ++ List.replicate m 0) ∧ Below base w w' := by
  obtain ⟨v', w', h1, h2, h3, -⟩ := run_append_zerosO w base ao n c k hr ho hb m hnm
  exact ⟨v', w', h1, h2, h3⟩

/-- 'append([]byte{}, b...)': what it reads as, and that it is a row of one's own or empty without room -/
theorem run_append_copy' {P : Program} (w : World) (t ty e : TypeId) (i : TypeInfo) (z : Value) (ht : P.underlying t = some (.slice e)) (hi : P.info? e = some i) (hz : i.zero = some z)
    (hsize : i.size = 1) (hby : i.bytes = 1) (hzs : z.cells.size = 1) (ao : Option Addr) (x : Value) (l : List UInt8) (hx : Rd w x l) (hbytes : l.length ≤ 140737488355328) :
    ∃ v' w', (Builtin.append_ #[t, t] ty #[.slice ao 0 0, x]).run P w = .ok v' w' ∧ Rd w' v' l ∧ New w w' ∧ ∀ a n c, v' = .slice a n c → (n = 0 ∧ c = 0) ∨ w'.ownsRow w.heap.size e 1 (.slice a n c) n (l.map bv) := by
  by_cases hl : l = []
  · subst hl
    obtain ⟨a, m, c, rfl, h1, h2, h3, h4, h5⟩ := hx
    simp only [List.length_nil] at h1
    subst h1
    have hr : (Builtin.append_ #[t, t] ty #[.slice ao 0 0, .slice a 0 c]).run P w = .ok (.slice ao 0 0) w := by
      cases ao <;> cases a <;> simp [Builtin.append_, run_underlying ht, sizeOf, typeInfo, hi, Builtin.lenOf, Builtin.firstCells, storeCells, loadCells, loadCellsFrom]
    exact ⟨_, _, hr, ⟨ao, 0, 0, rfl, rfl, Nat.le_refl _, by simp [maxLen], fun _ => ⟨rfl, rfl⟩, by simp⟩, Below.refl _ _, fun a n c e => by cases e; exact .inl ⟨rfl, rfl⟩⟩
  · obtain ⟨v', w', hr, hrv, hn, ho⟩ := run_append_copy (P := P) w t ty e i z ht hi hz hsize hby hzs ao x l hx hbytes
    refine ⟨v', w', hr, hrv, hn, fun a n c e => ?_⟩
    subst e
    have := ho hl
    rw [hrv.len] at this
    exact .inr this

end Go.Proofs.YtjkhklbeimgggaaDoor
