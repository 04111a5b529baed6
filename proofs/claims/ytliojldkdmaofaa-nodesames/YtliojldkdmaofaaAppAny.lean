/-
  append(v, x...) of one-cell values, x any slice that reads as some; append to a new row of nothing.
-/
import Derived.Test.YtliojldkdmaofaaBase
import Derived.Laws.AppendOwnNone
namespace Go.Proofs.Ytliojldkdmaofaa
set_option linter.unusedVariables false
set_option linter.unusedSimpArgs false
open Go.RowKit

theorem run_append_any {P : Program} (w : World) (base : Nat) (t ty e : TypeId) (i : TypeInfo) (z : Value) (bytes : Nat) (ht : P.underlying t = some (.slice e)) (hi : P.info? e = some i) (hz : i.zero = some z)
    (hsize : i.size = 1) (hby : i.bytes = bytes) (hzs : z.cells.size = 1)
    (v : Value) (n : Nat) (xs : List Value) (hown : w.ownsRow base e 1 v n xs) (x : Value) (vs : List Value) (hx : RdV w x vs) (hone : ∀ u ∈ vs, u.oneCell' = true)
    (hbytes : (n + vs.length) * bytes ≤ 140737488355328) (hm : n + vs.length ≤ 140737488355328) (hbase : base ≤ w.heap.size) :
    ∃ v' w', (Builtin.append_ #[t, t] ty #[v, x]).run P w = .ok v' w' ∧ w'.ownsRow base e 1 v' (n + vs.length) (xs ++ vs) ∧ Only (fun k => blk v = some k) w w' ∧ (blk v' = blk v ∨ ∃ k, blk v' = some k ∧ w.heap.size ≤ k) := by
  obtain ⟨a, m, c, rfl, h1, h2, h3, h4, h5⟩ := hx
  cases a with
  | none =>
    obtain ⟨rfl, rfl⟩ := h4 rfl
    obtain rfl : vs = [] := List.eq_nil_of_length_eq_zero h1
    have hrun := run_append_owned_none (P := P) (w := w) base t ty e i 1 ht hi v n xs hown
    exact ⟨v, w, hrun, by simpa using hown, Only.refl _ _, .inl rfl⟩
  | some ad =>
    subst h1
    obtain ⟨v', w', hr, r2, r3, _, r5⟩ := run_append_own_at (P := P) w base t ty e i z 1 bytes ht hi hz hsize hby hzs (by omega) v n xs hown ad vs.length c vs (by simp)
      (fun j u hj => h5 ad rfl j u hj) hone (by simp only [maxLen]; omega) (by omega) hbase
    refine ⟨v', w', hr, r2, Only.grown (Only.refl _ _) r3 (fun k hk _ => by rw [blk_own]; exact hk), ?_⟩
    rw [blk_own, blk_own]
    rcases r5 with h | h
    · exact .inl h
    · exact .inr ⟨_, h, Nat.le_refl _⟩

/-- a new row of nothing -/
theorem own_empty (w : World) (base : Nat) (e : TypeId) (hb : base ≤ w.heap.size) : (w.alloc (.cells #[] e)).ownsRow base e 1 (.slice (some ⟨w.heap.size, 0, none⟩) 0 0) 0 [] :=
  ⟨rfl, .inr ⟨w.heap.size, 0, #[], rfl, hb, heap_alloc_new _ _, Nat.le_refl _, by simp [maxLen], by simp, rfl⟩⟩

end Go.Proofs.Ytliojldkdmaofaa
