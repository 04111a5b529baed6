/-
  strings.Builder's WriteString; the texts of numbers and chains: Error.
-/
import Derived.Test.YtnjijmphmgihiaaDoorFltOps
import Derived.Test.YtnjijmphmgihiaaDoorShelf
import Derived.Defers
import Derived.Recover
namespace Go.Proofs.YtnjijmphmgihiaaDoor
set_option linter.unusedVariables false
set_option linter.unusedSimpArgs false
open Go.RowKit

theorem infoB9 : (Tryd.prog.info? 5).map (fun i => (i.zero, i.size, i.bytes)) = some (some (.int .u8 0), 1, 1) := by kernel_rfl
theorem sizeBld : (Tryd.prog.info? 76).map (·.size) = some 2 := by kernel_rfl
theorem liesBld : liesAt Tryd.prog Tryd.prog.depth 76 (2 / Tryd.prog.cellsOf 76) 0 76 1 = true := by kernel_rfl

theorem bstr_join9 (a b : List UInt8) : bstr a ++ bstr b = bstr (a ++ b) := by
  unfold bstr
  rw [ByteArray.mk_append_mk]

/-- the builder at b has these bytes, in a row of its own from base on -/
def Bld (w : World) (b base : Nat) (l : List UInt8) : Prop :=
  b < base ∧ ∃ p v, w.heap[b]? = some (.cells #[p, v] 76 (0, 0)) ∧ (p = .pointer none ∨ p = .pointer (some ⟨b, 0, none⟩)) ∧ w.ownsRow base 5 1 v l.length (l.map bv)

theorem shape_of9 {w : World} {b : Nat} {x y : Value} (h : w.heap[b]? = some (.cells #[x, y] 76 (0, 0))) : w.shape? b = some (76, 2) := by
  simp [World.shape?, h]

set_option maxRecDepth 100000 in
set_option maxHeartbeats 1000000 in
theorem copyOld (w : World) (b : Nat) (h0 : w.cell? ⟨b, 0, none⟩ = some (.pointer (some ⟨b, 0, none⟩))) :
    Calls Tryd.prog 41 #[.pointer (some ⟨b, 0, none⟩)] w fun e w' => e = .returned (.tuple #[]) ∧ w = w' := by
  obtain ⟨j, hj, _⟩ := Option.map_eq_some_iff.1 sizeBld
  have hq := fun wx => Lib.run_neq_ptr_same (P := Tryd.prog) wx ⟨b, 0, none⟩ Tryd.underlying73 hj
  go_enter Tryd.func41, Tryd.ntmps41
  go_wp2
  go_end0
  exact ⟨rfl, rfl⟩

set_option maxRecDepth 100000 in
set_option maxHeartbeats 1000000 in
theorem copyNew (w : World) (b : Nat) (y : Value) (hb : w.heap[b]? = some (.cells #[.pointer none, y] 76 (0, 0))) :
    Calls Tryd.prog 41 #[.pointer (some ⟨b, 0, none⟩)] w fun e w' => e = .returned (.tuple #[]) ∧ w' = w.setCell ⟨b, 0, none⟩ (.pointer (some ⟨b, 0, none⟩)) := by
  obtain ⟨j, hj, hjs⟩ := Option.map_eq_some_iff.1 sizeBld
  have h0 : w.cell? ⟨b, 0, none⟩ = some (.pointer none) := by rw [cell_of_row w b 0 _ _ _ hb]; rfl
  have hf : w.frozen? ⟨b, 0, none⟩ = false := frozen_of_row w b 0 _ _ hb
  have q1 := Lib.run_to_unsafe (P := Tryd.prog) w ⟨b, 0, none⟩ Tryd.underlying73 Tryd.underlying63 hj (by rw [hjs]; decide) (shape_of9 hb) (Nat.zero_lt_succ 1)
  have q2 := @run_callFunc_extern Tryd.prog 44 _ Extern.AbiNoEscape.same Tryd.func44 (by kernel_rfl) (by kernel_rfl) (by kernel_rfl) (by kernel_rfl)
  have q3 := fun x => Lib.run_noEscape (P := Tryd.prog) w x
  have q4 := Lib.run_from_unsafe (P := Tryd.prog) w ⟨b, 0, none⟩ Tryd.underlying63 Tryd.underlying73 hj (shape_of9 hb) liesBld
  clear hb
  go_enter Tryd.func41, Tryd.ntmps41
  go_wp2
  go_end0
  exact ⟨rfl, rfl⟩

theorem copyAny (w : World) (b base : Nat) (l : List UInt8) (h : Bld w b base l) :
    Calls Tryd.prog 41 #[.pointer (some ⟨b, 0, none⟩)] w fun e w' => e = .returned (.tuple #[]) ∧ (∃ v, w'.heap[b]? = some (.cells #[.pointer (some ⟨b, 0, none⟩), v] 76 (0, 0)) ∧ w'.ownsRow base 5 1 v l.length (l.map bv)) ∧ Only (fun k => k = b ∨ base ≤ k) w w' := by
  obtain ⟨hlt, p, v, hb, rfl | rfl, hown⟩ := h
  · refine (copyNew w b v hb).mono ?_
    rintro e w' ⟨rfl, rfl⟩
    refine ⟨rfl, ⟨v, ?_, ?_⟩, Only.setCell (F := fun k => k = b ∨ base ≤ k) (Only.refl _ _) (p := ⟨b, 0, none⟩) (fun _ => .inl rfl) _⟩
    · rw [heap_setCell_same _ _ _ _ _ _ hb]; rfl
    · refine hown.kept (row := some b) ⟨rfl, rfl, rfl, by simp [World.setCell], fun k _ hk => Below.heap_setCell _ _ _ _ (fun e => hk (by simp [e]))⟩ (.inr ?_)
      intro e
      have := own_from hown b (by rw [blk_own]; exact e)
      omega
  · refine (copyOld w b (by rw [cell_of_row w b 0 _ _ _ hb]; rfl)).mono ?_
    rintro e w' ⟨rfl, rfl⟩
    exact ⟨rfl, ⟨v, hb, hown⟩, Only.refl _ _⟩

set_option maxRecDepth 100000 in
set_option maxHeartbeats 1000000 in
theorem writeStr (w : World) (b base : Nat) (l m : List UInt8) (h : Bld w b base l) (hbase : base ≤ w.heap.size) (hlen : l.length + m.length ≤ 140737488355328) :
    Calls Tryd.prog 33 #[.pointer (some ⟨b, 0, none⟩), .string (bstr m)] w fun e w' => e = .returned (.tuple #[.int .i64 m.length, .nilIface]) ∧ Bld w' b base (l ++ m) ∧ Only (fun k => k = b ∨ base ≤ k) w w' := by
  obtain ⟨i0, hi, hz0, hz1, hz2⟩ := info_parts infoB9
  have hlt := h.1
  have HC := Lib.hid (copyAny w b base l h)
  have hms : (bstr m).size = m.length := bstr_size m
  clear h
  go_enter Tryd.func33, Tryd.ntmps33
  go_wp2_with fail
  refine HC.out.mono ?_
  rintro e w1 ⟨rfl, ⟨v, hbk, hown⟩, ho1⟩
  have c0 : w1.cell? ⟨b, 0, none⟩ = some (.pointer (some ⟨b, 0, none⟩)) := by rw [cell_of_row w1 b 0 _ _ _ hbk]; rfl
  have c1 : w1.cell? ⟨b, 1, none⟩ = some v := by rw [cell_of_row w1 b 1 _ _ _ hbk]; rfl
  have HB := Lib.hid hbk
  have HO := Lib.hid hown
  have HO1 := Lib.hid ho1
  have hsz := ho1.size
  clear hbk ho1 HC
  go_wp2_with (at_builtin; refine Lib.wpList_append_own_string (P := Tryd.prog) _ rfl _ _ 74 9 rfl base 5 i0 Tryd.underlying74 Tryd.underlying9 hi hz0 hz1 hz2 _ _ _ rfl HO.out (bstr m) rfl ?c3 ?c4 ?c5 ?_)
  case c3 => unfold maxLen; omega
  case c4 => omega
  case c5 => omega
  intro v' w2 hown' hgrow _
  have hlt1 : b < w1.heap.size := lt_of_block HB.out
  have hnb : v.ownBlock ≠ some b := fun e => by have := own_from HO.out b (by rw [blk_own]; exact e); omega
  have hb2 : w2.heap[b]? = some (.cells #[.pointer (some ⟨b, 0, none⟩), v] 76 (0, 0)) := by
    rw [hgrow.block b hlt1 (fun e => hnb e.symm)]
    exact HB.out
  have d0 : w2.cell? ⟨b, 0, none⟩ = some (.pointer (some ⟨b, 0, none⟩)) := by rw [cell_of_row w2 b 0 _ _ _ hb2]; rfl
  have d1 : w2.cell? ⟨b, 1, none⟩ = some v := by rw [cell_of_row w2 b 1 _ _ _ hb2]; rfl
  have f1 : w2.frozen? ⟨b, 1, none⟩ = false := frozen_of_row w2 b 1 _ _ hb2
  have hcells : Lib.strCells (bstr m) = m.map bv := by simp [Lib.strCells, bstr]
  obtain ⟨ao, n', cap, rfl⟩ : ∃ ao n' cap, v' = .slice ao n' cap := by
    rcases hown'.2 with ⟨hv, _⟩ | ⟨g, cap, cur, hv, _⟩
    · exact ⟨_, _, _, hv⟩
    · exact ⟨_, _, _, hv⟩
  have HR : Hid (Bld (w2.setCell ⟨b, 1, none⟩ (.slice ao n' cap)) b base (l ++ m)) := by
    have ho' : w2.ownsRow base 5 1 (.slice ao n' cap) (l ++ m).length ((l ++ m).map bv) := by
      rw [List.length_append, List.map_append, ← hcells, ← hms]; exact hown'
    refine Lib.hid ⟨hlt, .pointer (some ⟨b, 0, none⟩), .slice ao n' cap, ?_, .inr rfl, ?_⟩
    · rw [heap_setCell_same _ _ _ _ _ _ hb2]; rfl
    · refine ho'.kept (row := some b) ⟨rfl, rfl, rfl, by simp [World.setCell], fun k _ hk => Below.heap_setCell _ _ _ _ (fun e => hk (by simp [e]))⟩ (.inr ?_)
      intro e
      have := own_from ho' b (by rw [blk_own]; exact e)
      omega
  have HON : Hid (Only (fun k => k = b ∨ base ≤ k) w (w2.setCell ⟨b, 1, none⟩ (.slice ao n' cap))) := Lib.hid
    (Only.setCell (F := fun k => k = b ∨ base ≤ k) (Only.grown HO1.out hgrow (fun k hk _ => .inr (own_from HO.out k (by rw [blk_own]; exact hk)))) (p := ⟨b, 1, none⟩) (fun _ => .inl rfl) _)
  clear hown' hgrow hb2 hnb hcells hown
  go_wp2
  go_ret2
  exact ⟨by first | rfl | (rw [hms]), HR.out, HON.out⟩

end Go.Proofs.YtnjijmphmgihiaaDoor
