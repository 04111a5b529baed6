/-
  keys: a slot's value built.
-/
import Derived.Test.YtnekcdpfphgpbaaKeyObj
import Derived.Test.YtnekcdpfphgpbaaDskA
import Derived.Laws.Tables
namespace Go.Proofs.Ytnekcdpfphgpbaa
set_option linter.unusedVariables false
set_option linter.unusedSimpArgs false
set_option maxRecDepth 100000
open Go.RowKit

theorem zSlot_run (w : World) : (zeroValue 71).run Try.prog w = .ok (.agg (sCells none).toArray) w := by kernel_rfl
theorem bSlot0_run (w : World) : (Instr.build 71 #[]).run Try.prog w = .ok (.agg (sCells none).toArray) w := run_build w _ _ _ (by kernel_rfl)
theorem bSlot1_run (w : World) : (Instr.build 71 #[(0, .bool true)]).run Try.prog w = .ok (.agg (sCells (some (0, List.replicate 32 0))).toArray) w := run_build w _ _ _ (by kernel_rfl)

theorem placesSl : (match Try.prog.underlying 71 with
    | some (.struct fields) => fields.toList.mapM (fun f => (Try.prog.info? f.type).map fun i => (f.offset, i.size))
    | _ => none) = some [(0, 1), (1, 1), (2, 32)] := by kernel_rfl

theorem infoSl_parts : ∃ i z, Try.prog.info? 71 = some i ∧ i.zero = some z ∧ z.cells.size = 34 := by
  have h : (Try.prog.info? 71).map (fun i => i.zero.map (fun z => z.cells.size)) = some (some 34) := by kernel_rfl
  cases hi : Try.prog.info? 71 with
  | none => rw [hi] at h; cases h
  | some i =>
    rw [hi] at h
    cases hz : i.zero with
    | none => simp [hz] at h
    | some z => simp [hz] at h; exact ⟨i, z, rfl, hz, h⟩

theorem fill3 (cells : Array Value) (u v : Value) (bs : List Value) (hu : u.cells = #[u]) (hv : v.cells = #[v]) (hb : bs.length = 32) (hc : cells.size = 34) :
    Instr.fill ([(0, 1), (1, 1), (2, 32)].toArray[·]?) cells [(0, u), (1, v), (2, .agg bs.toArray)] = some (u :: v :: bs).toArray := by
  have e1 : (Value.agg bs.toArray).cells = bs.toArray := rfl
  have s0 : u.cells.size = 1 := by rw [hu]; rfl
  have s1 : v.cells.size = 1 := by rw [hv]; rfl
  obtain ⟨g1, g2⟩ := Great.foldl_set 0 [u] 0 cells
  obtain ⟨k1, k2⟩ := Great.foldl_set 1 [v] 0 (([u].zipIdx 0).foldl (fun cs (x : Value × Nat) => cs.setIfInBounds (0 + x.2) x.1) cells)
  obtain ⟨m1, m2⟩ := Great.foldl_set 2 bs 0 (([v].zipIdx 0).foldl (fun cs (x : Value × Nat) => cs.setIfInBounds (1 + x.2) x.1) (([u].zipIdx 0).foldl (fun cs (x : Value × Nat) => cs.setIfInBounds (0 + x.2) x.1) cells))
  unfold Instr.fill
  simp only [List.getElem?_toArray, List.getElem?_cons_zero]
  rw [if_neg (show ¬ ((decide (u.cells.size ≠ 1) || decide (0 + u.cells.size > cells.size)) = true) by rw [s0, hc]; decide)]
  unfold Instr.fill
  simp only [List.getElem?_cons_succ, List.getElem?_cons_zero]
  rw [hu, hv]
  rw [if_neg (by
    rw [← Array.foldl_toList, Array.toList_zipIdx]
    show ¬ ((decide ((#[v] : Array Value).size ≠ 1) || decide (1 + (#[v] : Array Value).size > _)) = true)
    rw [g1, hc]; simp)]
  unfold Instr.fill
  simp only [List.getElem?_cons_succ, List.getElem?_cons_zero]
  rw [e1]
  rw [if_neg (by
    rw [← Array.foldl_toList, ← Array.foldl_toList, Array.toList_zipIdx, Array.toList_zipIdx]
    show ¬ ((decide (bs.toArray.size ≠ 32) || decide (2 + bs.toArray.size > _)) = true)
    rw [k1, g1, hc, List.size_toArray, hb]; decide)]
  unfold Instr.fill
  congr 1
  rw [← Array.foldl_toList, ← Array.foldl_toList, ← Array.foldl_toList, Array.toList_zipIdx, Array.toList_zipIdx, Array.toList_zipIdx]
  simp only [List.toList_toArray]
  apply Array.ext_getElem?
  intro k
  rw [m2 k, k1, g1]
  by_cases h0 : k = 0
  · subst h0
    rw [if_neg (by omega), k2 0, if_neg (by omega), g2 0, if_pos (by simp; omega)]
    simp
  · by_cases h1 : k = 1
    · subst h1
      rw [if_neg (by omega), k2 1, if_pos (by rw [g1]; simp; omega)]
      simp
    · by_cases h2 : k < 34
      · rw [if_pos (by omega)]
        obtain ⟨m, rfl⟩ : ∃ m, k = m + 2 := ⟨k - 2, by omega⟩
        simp
      · rw [if_neg (by omega), k2 k, if_neg (by rw [g1]; simp; omega), g2 k, if_neg (by simp; omega), Array.getElem?_eq_none (by omega), List.getElem?_toArray, List.getElem?_eq_none (by simp; omega)]

theorem bSlot3_run (b : Nat) (k : List UInt8) (hk : k.length = 32) (w : World) :
    (Instr.build 71 #[(0, .bool true), (1, .int .i64 (b : Int)), (2, .agg (k.map bv).toArray)]).run Try.prog w = .ok (.agg (sCells (some (b, k))).toArray) w := by
  refine run_build w _ _ _ ?_
  obtain ⟨i, z, hi, hz, hzs⟩ := infoSl_parts
  have hp := placesSl
  unfold Program.built
  rw [hi]
  cases hu : Try.prog.underlying 71 with
  | none => rw [hu] at hp; cases hp
  | some d =>
    rw [hu] at hp
    cases d <;> first | (cases hp; done) | skip
    case struct fields =>
      simp only at hp ⊢
      rw [hz, hp]
      exact fill3 _ _ _ _ rfl rfl (by rw [List.length_map]; exact hk) hzs

theorem run_arrayAt32 (a : Option Addr) (n c : Nat) (h : 32 ≤ n) (wx : World) : (Instr.arrayAt 69 (.slice a n c)).run Try.prog wx = .ok (.pointer a) wx := by
  unfold Instr.arrayAt
  rw [Sem.run_bind, run_underlying (P := Try.prog) Try.underlying69]
  simp only [Result.andThen_ok]
  rw [if_neg (by omega)]
  rfl

end Go.Proofs.Ytnekcdpfphgpbaa
