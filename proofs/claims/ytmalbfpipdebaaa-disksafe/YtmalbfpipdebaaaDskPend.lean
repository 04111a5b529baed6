/-
  A write as a value: built of its parts, laid in a row of its own, appended.
-/
import Derived.Test.YtmalbfpipdebaaaDskFns
import Derived.Great.BuildSlice
namespace Go.Proofs.Ytmalbfpipdebaaa
set_option linter.unusedVariables false
set_option linter.unusedSimpArgs false
open Go.RowKit

theorem infoWr : (Try.prog.info? 51).map (fun i => (i.zero.map (fun z => z.cells.size), i.size, i.bytes)) = some (some 129, 129, 136) := by kernel_rfl

theorem infoWr_parts : ∃ i z, Try.prog.info? 51 = some i ∧ i.zero = some z ∧ z.cells.size = 129 ∧ i.size = 129 ∧ i.bytes = 136 := by
  have h := infoWr
  cases hi : Try.prog.info? 51 with
  | none => rw [hi] at h; cases h
  | some i =>
    rw [hi] at h
    simp only [Option.map_some, Option.some.injEq, Prod.mk.injEq] at h
    cases hz : i.zero with
    | none => rw [hz] at h; simp at h
    | some z =>
      rw [hz] at h
      simp only [Option.map_some, Option.some.injEq] at h
      exact ⟨i, z, rfl, hz, h.1, h.2.1, h.2.2⟩

theorem placesWr : (match Try.prog.underlying 51 with
    | some (.struct fields) => fields.toList.mapM (fun f => (Try.prog.info? f.type).map fun i => (f.offset, i.size))
    | _ => none) = some [(0, 1), (1, 128)] := by kernel_rfl

theorem fill2 (cells : Array Value) (v : Value) (bs : List Value) (hv : v.cells = #[v]) (hb : bs.length = 128) (hc : cells.size = 129) :
    Instr.fill ([(0, 1), (1, 128)].toArray[·]?) cells [(0, v), (1, .agg bs.toArray)] = some (v :: bs).toArray := by
  have e1 : (Value.agg bs.toArray).cells = bs.toArray := rfl
  have s1 : v.cells.size = 1 := by rw [hv]; rfl
  obtain ⟨g1, g2⟩ := Great.foldl_set 0 [v] 0 cells
  obtain ⟨k1, k2⟩ := Great.foldl_set 1 bs 0 (([v].zipIdx 0).foldl (fun cs (x : Value × Nat) => cs.setIfInBounds (0 + x.2) x.1) cells)
  unfold Instr.fill
  simp only [List.getElem?_toArray, List.getElem?_cons_zero]
  rw [if_neg (show ¬ ((decide (v.cells.size ≠ 1) || decide (0 + v.cells.size > cells.size)) = true) by rw [s1, hc]; decide)]
  unfold Instr.fill
  simp only [List.getElem?_cons_succ, List.getElem?_cons_zero]
  rw [hv, e1]
  rw [if_neg (by
    rw [← Array.foldl_toList, Array.toList_zipIdx]
    show ¬ ((decide (bs.toArray.size ≠ 128) || decide (1 + bs.toArray.size > _)) = true)
    rw [g1, hc, List.size_toArray, hb]; decide)]
  unfold Instr.fill
  congr 1
  rw [← Array.foldl_toList, ← Array.foldl_toList, Array.toList_zipIdx, Array.toList_zipIdx]
  simp only [List.toList_toArray]
  apply Array.ext_getElem?
  intro k
  rw [k2 k, g1]
  by_cases h0 : k = 0
  · subst h0
    rw [if_neg (by omega), g2 0, if_pos (by simp; omega)]
    simp
  · by_cases h1 : k < 129
    · rw [if_pos (by omega)]
      obtain ⟨m, rfl⟩ : ∃ m, k = m + 1 := ⟨k - 1, by omega⟩
      simp
    · rw [if_neg (by omega), g2 k, if_neg (by simp; omega), Array.getElem?_eq_none (by omega), List.getElem?_toArray, List.getElem?_eq_none (by simp; omega)]

theorem built_write (s : Nat) (b : List UInt8) (hb : b.length = 128) :
    Try.prog.built 51 [(0, .int .i64 (s : Int)), (1, .agg (b.map bv).toArray)] = some (wcells (s, b)).toArray := by
  obtain ⟨i, z, hi, hz, hzs, -, -⟩ := infoWr_parts
  have hp := placesWr
  unfold Program.built
  rw [hi]
  cases hu : Try.prog.underlying 51 with
  | none => rw [hu] at hp; cases hp
  | some d =>
    rw [hu] at hp
    cases d <;> first | (cases hp; done) | skip
    case struct fields =>
      simp only at hp ⊢
      rw [hz, hp]
      exact fill2 _ _ _ rfl (by rw [List.length_map]; exact hb) hzs

theorem run_build_write (s : Nat) (b : List UInt8) (hb : b.length = 128) (w : World) :
    (Instr.build 51 #[(0, .int .i64 (s : Int)), (1, .agg (b.map bv).toArray)]).run Try.prog w = .ok (.agg (wcells (s, b)).toArray) w :=
  run_build w _ _ _ (built_write s b hb)

/-- one write in a new row -/
theorem run_row_write (s : Nat) (b : List UInt8) (hb : b.length = 128) (w : World) :
    (Instr.buildSlice 44 1 #[(0, .agg (wcells (s, b)).toArray)]).run Try.prog w = .ok (.slice (some ⟨w.heap.size, 0, none⟩) 1 1) (w.alloc (.cells (wcells (s, b)).toArray 51)) := by
  obtain ⟨i, z, hi, hz, hzs, hs, -⟩ := infoWr_parts
  refine run_buildSlice w 44 51 1 _ _ i z Try.underlying44 hi hz (by rw [hs]; decide) (by rw [hs]; decide) ?_
  have h := Great.fill_whole (s := 129) (by decide) [.agg (wcells (s, b)).toArray] ((Array.range (1 * i.size)).map (z.cells[· % z.cells.size]!)) (by
    intro v hv
    obtain rfl := List.mem_singleton.1 hv
    show (wcells (s, b)).toArray.size = 129
    rw [List.size_toArray, wcells_length hb]) (by simp [hs])
  rw [hs] at h ⊢
  simp only [List.zipIdx_cons, List.zipIdx_nil, List.map_cons, List.map_nil, List.flatMap_cons, List.flatMap_nil, List.append_nil] at h
  exact h

/-- [128]byte(b): where it points -/
theorem run_arrayAt128 (a : Option Addr) (n c : Nat) (h : 128 ≤ n) (wx : World) : (Instr.arrayAt 48 (.slice a n c)).run Try.prog wx = .ok (.pointer a) wx := by
  unfold Instr.arrayAt
  rw [Sem.run_bind, run_underlying (P := Try.prog) Try.underlying48]
  simp only [Result.andThen_ok]
  rw [if_neg (by omega)]
  rfl

theorem info128 : (Try.prog.info? 48).map (·.size) = some 128 := by kernel_rfl

/-- the load of 128 bytes -/
theorem run_load128 {w : World} {g : Nat} {b : List UInt8} (h : RowB w g b) (hb : b.length = 128) : (Instr.loadAt 48 (.pointer (some ⟨g, 0, none⟩))).run Try.prog w = .ok (.agg (b.map bv).toArray) w := by
  obtain ⟨cs, hg⟩ := h
  refine run_loadAt_mid w g 0 48 (b.map bv) _ (fun j v hj => ?_) Try.underlying48 rfl (by rw [List.length_map, hb]; exact info128)
  rw [Nat.zero_add, cell_of_row _ _ _ _ _ _ hg, List.getElem?_toArray, List.getElem?_append_left (List.getElem?_eq_some_iff.1 hj).1, hj]

/-- one write is appended -/
theorem run_append_write {w : World} {vp : Value} {P : List Wr} {s : Nat} {b : List UInt8} {r : Nat} (hown : w.ownsRow 0 51 129 vp P.length (pcells P)) (hb : b.length = 128) (hP : P.length ≤ 1000000)
    (hr : w.heap[r]? = some (.cells (wcells (s, b)).toArray 51 (0, 0))) :
    ∃ vp' w', (Builtin.append_ #[44, 44] 44 #[vp, .slice (some ⟨r, 0, none⟩) 1 1]).run Try.prog w = .ok vp' w' ∧
      w'.ownsRow 0 51 129 vp' (P.length + 1) (pcells P ++ wcells (s, b)) ∧ Only (fun k => blk vp = some k) w w' ∧ (blk vp' = blk vp ∨ ∀ k, blk vp' = some k → w.heap.size ≤ k) := by
  obtain ⟨i, z, hi, hz, hzs, hs, hby⟩ := infoWr_parts
  obtain ⟨v', w', h1, h2, h3, h4, h5⟩ := run_append_own_at (P := Try.prog) w 0 44 44 51 i z 129 136 Try.underlying44 hi hz hs hby hzs (by decide) vp P.length (pcells P) hown
    ⟨r, 0, none⟩ 1 1 (wcells (s, b)) (by rw [wcells_length hb]) (fun j u hj => by rw [Addr.add_mid, Nat.zero_add, cell_of_row _ _ _ _ _ _ hr, List.getElem?_toArray]; exact hj) (wcells_one _) (by unfold maxLen; omega) (by omega) (Nat.zero_le _)
  refine ⟨v', w', h1, h2, ⟨h3.os, h3.tape, h3.output, h3.size, fun k hk hne => h3.block k hk (fun e => hne (by rw [blk_own, ← e]))⟩, ?_⟩
  rw [blk_own, blk_own]
  rcases h5 with e | e
  · exact .inl e
  · exact .inr (fun k hk => by rw [e] at hk; cases hk; exact Nat.le_refl _)

end Go.Proofs.Ytmalbfpipdebaaa
