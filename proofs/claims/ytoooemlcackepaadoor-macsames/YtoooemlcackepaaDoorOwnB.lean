/-
  A row of bytes of the call's own, some stretch of which outside the places still to be written may be frozen (what a conversion of a string leaves): appends onto it. Over any program.
-/
import Derived.Test.YtoooemlcackepaaDoorParts
import Derived.Lib.FrozenHead2
import Derived.Lib.ConvBytes
namespace Go.Proofs.YtoooemlcackepaaDoor
set_option linter.unusedVariables false
set_option linter.unusedSimpArgs false
open Go.RowKit

/-- The slice value v owns the bytes l; nothing behind them is frozen. -/
def OwnB (w : World) (base : Nat) (e : TypeId) (v : Value) (l : List UInt8) : Prop :=
  ∃ g cap cur fz, v = .slice (some ⟨g, 0, none⟩) l.length cap ∧ base ≤ g ∧ w.heap[g]? = some (.cells cur e fz) ∧ (∀ i, l.length ≤ i → i < cur.size → i < fz.1 ∨ fz.2 ≤ i) ∧ l.length ≤ cap ∧ cap ≤ maxLen ∧ cur.size = cap ∧ cur.toList.take l.length = l.map bv

theorem OwnB.rd {w : World} {base : Nat} {e : TypeId} {v : Value} {l : List UInt8} (h : OwnB w base e v l) : Rd w v l := by
  obtain ⟨g, cap, cur, fz, rfl, hb, hg, hf, hc, hm, hs, ht⟩ := h
  refine ⟨_, _, _, rfl, rfl, hc, hm, (fun h => by cases h), fun ad had i u hu => ?_⟩
  cases had
  have hi : i < l.length := by
    rcases Nat.lt_or_ge i l.length with h | h
    · exact h
    · rw [List.getElem?_eq_none h] at hu; cases hu
  have hadd : (⟨g, 0, none⟩ : Addr).add i = ⟨g, i, none⟩ := by unfold Addr.add; split <;> simp_all
  rw [hadd, cell_of_row _ _ _ _ _ _ hg]
  have h1 : (cur.toList.take l.length)[i]? = some (bv u) := by rw [ht, List.getElem?_map, hu]; rfl
  rw [List.getElem?_take, if_pos hi] at h1
  simpa using h1

theorem OwnB.from {w : World} {base : Nat} {e : TypeId} {v : Value} {l : List UInt8} (h : OwnB w base e v l) : ∀ k, blk v = some k → base ≤ k := by
  obtain ⟨g, cap, cur, fz, rfl, hb, _⟩ := h
  intro k hk
  simp [blk] at hk; omega

theorem OwnB.alloc {w : World} {base : Nat} {e : TypeId} {v : Value} {l : List UInt8} (h : OwnB w base e v l) (o : Obj) : OwnB (w.alloc o) base e v l := by
  obtain ⟨g, cap, cur, fz, rfl, hb, hg, rest⟩ := h
  exact ⟨g, cap, cur, fz, rfl, hb, (Below.heap_alloc _ _ _ (Array.getElem?_eq_some_iff.1 hg).1).trans hg, rest⟩

theorem run_storeCells_free (P : Program) (g o : Nat) (t : TypeId) (fz : Nat × Nat) : ∀ (vs : List Value) (i : Nat) (cur : Array Value) (w : World), w.heap[g]? = some (.cells cur t fz) → (∀ j, o + i ≤ j → j < cur.size → j < fz.1 ∨ fz.2 ≤ j) → o + i + vs.length ≤ cur.size → (∀ v ∈ vs, v.oneCell' = true) →
    (storeCells ⟨g, o, none⟩ vs i).run P w = .ok () (w.setRow g (cur.toList.take (o + i) ++ vs ++ cur.toList.drop (o + i + vs.length)).toArray)
  | [], i, cur, w, hg, _, _, _ => by
    simp only [storeCells, List.append_nil, List.length_nil, Nat.add_zero, List.take_append_drop, Array.toArray_toList]
    rw [setRow_self w g cur t fz hg]
    rfl
  | v :: rest, i, cur, w, hg, hfz, hl, h1 => by
    have hi : o + i < cur.size := by simp at hl; omega
    have hadd : (⟨g, o, none⟩ : Addr).add i = ⟨g, o + i, none⟩ := by unfold Addr.add; split <;> simp_all
    have hcell : w.cell? ⟨g, o + i, none⟩ = some cur[o + i] := by simp [World.cell?, hg, hi]
    have hfro : w.frozen? ⟨g, o + i, none⟩ = false := by
      obtain ⟨lo, hi'⟩ := fz
      simp only [World.frozen?, hg, Bool.and_eq_false_iff, decide_eq_false_iff_not]
      rcases hfz (o + i) (Nat.le_refl _) hi with h | h
      · left; simp only at h; omega
      · right; simp only at h; omega
    have hst : (store ((⟨g, o, none⟩ : Addr).add i) v).run P w = .ok () (w.setRow g (cur.setIfInBounds (o + i) v)) := by
      rw [hadd, run_store P w _ v _ (h1 v (by simp)), hcell]
      simp [hfro, setCell_eq_setRow w g (o + i) cur t fz v hg]
    have ih := run_storeCells_free P g o t fz rest (i + 1) (cur.setIfInBounds (o + i) v) (w.setRow g (cur.setIfInBounds (o + i) v)) (setRow_heap w g cur _ t _ hg) (fun j h h' => hfz j (by omega) (by simpa using h')) (by simp at hl ⊢; omega) (fun x hx => h1 x (by simp [hx]))
    simp only [storeCells, Sem.run_bind, hst, Result.andThen_ok, ih, setRow_setRow]
    congr 3
    have e := list_seg_step cur.toList (o + i) v rest (by simp at hl ⊢; omega)
    simpa [Array.toList_setIfInBounds, Nat.add_assoc] using e

/-- an append onto it -/
theorem run_append_B {P : Program} (w : World) (base : Nat) (t ty e : TypeId) (i : TypeInfo) (z : Value) (ht : P.underlying t = some (.slice e)) (hi : P.info? e = some i) (hz : i.zero = some z)
    (hsize : i.size = 1) (hby : i.bytes = 1) (hzs : z.cells.size = 1) (v : Value) (l : List UInt8) (hown : OwnB w base e v l) (a : Addr) (c : Nat) (q : List UInt8) (hx : Rd w (.slice (some a) q.length c) q)
    (hbytes : l.length + q.length ≤ 140737488355328) (hbase : base ≤ w.heap.size) :
    ∃ v' w', (Builtin.append_ #[t, t] ty #[v, .slice (some a) q.length c]).run P w = .ok v' w' ∧ OwnB w' base e v' (l ++ q) ∧ w.grownBy w' v.ownBlock := by
  have hrd := hown.rd
  obtain ⟨g, cap, cur, fz, rfl, hb, hg, hf, hc, hm, hs, htk⟩ := hown
  have hnews : ∀ j u, (q.map bv)[j]? = some u → w.cell? (a.add j) = some u := fun j u hj => by
    obtain ⟨a', n', c', e', g1, g2, g3, g4, g5⟩ := hx
    cases e'
    rw [List.getElem?_map] at hj
    cases hb' : q[j]? with
    | none => rw [hb'] at hj; cases hj
    | some b => rw [hb'] at hj; cases hj; exact g5 a rfl j b hb'
  by_cases hroom : l.length + q.length ≤ cap
  · have hfc := run_firstCells_some (P := P) w i.size q.length a q.length c (q.map bv) (by rw [hsize]; simp) hnews
    have hst := run_storeCells_free P g l.length e fz (q.map bv) 0 cur w hg (fun j h h' => hf j (by omega) h') (by simp; omega) (oneCell_bv q)
    simp only [Nat.add_zero] at hst
    have hr : (Builtin.append_ #[t, t] ty #[.slice (some ⟨g, 0, none⟩) l.length cap, .slice (some a) q.length c]).run P w = .ok (.slice (some ⟨g, 0, none⟩) (l.length + q.length) cap) (w.setRow g (cur.toList.take l.length ++ q.map bv ++ cur.toList.drop (l.length + (q.map bv).length)).toArray) := by
      rw [hsize] at hfc
      simp [Builtin.append_, run_underlying ht, sizeOf, typeInfo, hi, hsize, Builtin.lenOf, hroom, hfc, Addr.add_lit]
      rw [hst]
      simp
    refine ⟨_, _, hr, ⟨g, cap, _, fz, by rw [List.length_append], hb, setRow_heap w g cur _ e _ hg, ?_, by simp; omega, hm, ?_, ?_⟩, ⟨rfl, rfl, rfl, by simp, fun k _ hk => setRow_other w g k _ (fun e => hk (by simp [Value.ownBlock, e]))⟩⟩
    · intro j h1 h2
      simp at h1
      refine hf j (by omega) ?_
      simp at h2
      omega
    · simp; omega
    · have e1 : (cur.toList.take l.length ++ q.map bv).length = (l ++ q).length := by simp; omega
      rw [← e1, List.take_left', htk, List.map_append]
      rfl
  · have hcells : ∀ j u, (l.map bv)[j]? = some u → w.cell? ((⟨g, 0, none⟩ : Addr).add j) = some u := fun j u hj => by
      obtain ⟨a', n', c', e', g1, g2, g3, g4, g5⟩ := hrd
      cases e'
      rw [List.getElem?_map] at hj
      cases hb' : l[j]? with
      | none => rw [hb'] at hj; cases hj
      | some b => rw [hb'] at hj; cases hj; exact g5 _ rfl j b hb'
    have hr := run_append_grow (P := P) w t ty e i z ht hi hz ⟨g, 0, none⟩ l.length cap (l.map bv) (by rw [hsize]; simp) hcells a q.length c (q.map bv) (by rw [hsize]; simp) hnews (by omega) (by omega) (growslice_fits (by omega) (by rw [hby]; omega))
    have hge := grownCap_ge w (l.length + q.length) cap e
    have hcm2 : grownCap w (l.length + q.length) cap e ≤ maxLen := grownCap_le_maxLen w (l.length + q.length) cap e (by unfold maxLen; omega)
    refine ⟨_, _, hr, ⟨w.heap.size, _, _, (0, 0), by rw [List.length_append], hbase, heap_alloc_new w.drew _, fun _ _ _ => .inr (Nat.zero_le _), by simp; omega, hcm2, ?_, ?_⟩, ⟨rfl, rfl, rfl, by simp, fun k hk _ => heap_alloc_old w.drew _ hk⟩⟩
    · simp only [Array.size_append, List.size_toArray, size_zeroCells, hzs, List.length_map]
      omega
    · simp only [Array.toList_append, List.append_assoc]
      rw [← List.append_assoc, ← List.map_append, show (l ++ q).length = ((l ++ q).map bv).length by simp]
      exact List.take_left

theorem wpList_append_B {P : Program} {w : World} {ops : Array Oper} {rest : List Oper} {o : Oper} {a : Act} {Q : Exit → Act → World → Prop} (hgd : o.guard = none) (s x : Operand) (t : TypeId)
    (ho : o.op = .call { callee := .builtin .append, args := #[s, x], argTypes := #[t, t] })
    (base : Nat) (e : TypeId) (i : TypeInfo) (z : Value) (ht : P.underlying t = some (.slice e)) (hi : P.info? e = some i) (hz : i.zero = some z)
    (hsize : i.size = 1) (hby : i.bytes = 1) (hzs : z.cells.size = 1)
    (v : Value) (l : List UInt8) (hs : a.eval s = v) (hown : OwnB w base e v l) (ad : Addr) (c : Nat) (q : List UInt8) (m : Nat) (hm : m = q.length) (hx : a.eval x = .slice (some ad) m c) (hu : Rd w (.slice (some ad) m c) q)
    (hbytes : l.length + q.length ≤ 140737488355328) (hbase : base ≤ w.heap.size)
    (h : ∀ v' w', OwnB w' base e v' (l ++ q) → w.grownBy w' v.ownBlock → wpList P ops Q rest (a.put o.dst v') w') : wpList P ops Q (o :: rest) a w := by
  subst hm
  refine wpList_plain hgd fun K hK => ?_
  obtain ⟨v', w', hr, h2, h3⟩ := run_append_B (P := P) w base t o.type e i z ht hi hz hsize hby hzs v l hown ad c q hu hbytes hbase
  unfold Oper.wp execOp
  simp only [ho, resolve, invoke, builtin, Sem.run_bind, Sem.run_pure, Result.andThen_ok, List.map_toArray, List.map_cons, List.map_nil, hs, hx, hr]
  exact hK _ _ (h v' w' h2 h3)

/-- []byte(s) -/
theorem ownB_of_string (w : World) (e : TypeId) (l : List UInt8) (hl : l.length ≤ 140737488355328) : OwnB (Lib.bytesWorld w e (bstr l)) w.heap.size e (.slice (some ⟨w.heap.size, 0, none⟩) l.length (grownCap w (bstr l).size 0 e)) l ∧ New w (Lib.bytesWorld w e (bstr l)) := by
  have hge := grownCap_ge w (bstr l).size 0 e
  rw [bstr_size] at hge
  refine ⟨⟨w.heap.size, _, _, _, rfl, Nat.le_refl _, Lib.bytesWorld_at_new w e (bstr l), fun i h1 h2 => .inl h2, by rw [bstr_size]; exact hge, ?_, ?_, ?_⟩, ?_⟩
  · exact grownCap_le_maxLen w _ 0 e (by rw [bstr_size]; unfold maxLen; omega)
  · have hz : (bstr l).size = l.length := bstr_size l
    unfold Lib.bytesCells
    rw [hz]
    simp only [Array.size_append, Array.size_map, Array.size_replicate]
    have hz2 : (bstr l).data.size = l.length := by simp [bstr]
    omega
  · unfold Lib.bytesCells; simp [bstr]
  · refine ⟨rfl, rfl, rfl, by rw [Lib.bytesWorld_size]; omega, fun j hj => Lib.bytesWorld_at_old w e (bstr l) j hj⟩

end Go.Proofs.YtoooemlcackepaaDoor
