/-
  One value more in an own slice of one-cell elements: what it leaves of the rest.
-/
import Derived.Test.YtjkhklbeimgggaaDoorBase
import Derived.Maps.AppendAt
namespace Go.Proofs.YtjkhklbeimgggaaDoor
set_option linter.unusedVariables false
set_option linter.unusedSimpArgs false
open Go.RowKit

theorem ownSl_form {w : World} {base : Nat} {e : TypeId} {v : Value} {n : Nat} {xs : List Value} (h : w.ownsRow base e 1 v n xs) : ∃ a c, v = .slice a n c ∧ n ≤ c ∧ (0 < n → ∃ g, a = some ⟨g, 0, none⟩ ∧ ∀ i u, xs[i]? = some u → w.cell? ⟨g, i, none⟩ = some u) := by
  have h0 := h
  rcases h.2 with ⟨e1, e2⟩ | ⟨g, cap, cur, e1, hb1, e3, rest⟩
  · exact ⟨none, 0, by rw [e1, e2], by omega, fun hn => by omega⟩
  · refine ⟨some ⟨g, 0, none⟩, cap, e1, rest.1, fun _ => ⟨g, rfl, fun i u hu => ?_⟩⟩
    have h6 := h0.cells (g := g) (by rw [e1]; rfl) i u hu
    rwa [Addr.add_lit, Nat.zero_add] at h6

theorem own_more {w w' : World} {base : Nat} {e : TypeId} {v : Value} {n : Nat} {xs : List Value} (h : w.ownsRow base e 1 v n xs) (hn : New w w') : w'.ownsRow base e 1 v n xs := by
  refine ⟨h.1, ?_⟩
  rcases h.2 with h0 | ⟨g, cap, cur, e1, hb1, e3, rest⟩
  · exact .inl h0
  · exact .inr ⟨g, cap, cur, e1, hb1, (hn.block g (lt_of_block e3)).trans e3, rest⟩

/-- append(v, u), u from a new block -/
theorem run_append_u {P : Program} (base : Nat) (wr : World) (t ty e : TypeId) (i : TypeInfo) (z : Value) (bytes : Nat) (ht : P.underlying t = some (.slice e)) (hi : P.info? e = some i) (hz : i.zero = some z)
    (hsize : i.size = 1) (hby : i.bytes = bytes) (hzs : z.cells.size = 1) (v : Value) (n : Nat) (xs : List Value) (hown : wr.ownsRow base e 1 v n xs) (u : Value) (hu : u.oneCell' = true) (hb : (n + 1) * bytes ≤ 140737488355328) (hn : n + 1 ≤ 140737488355328) (hbase : base ≤ wr.heap.size) :
    ∃ v' w', (Builtin.append_ #[t, t] ty #[v, .slice (some ⟨wr.heap.size, 0, none⟩) 1 1]).run P (wr.alloc (.cells #[u] e)) = .ok v' w' ∧ w'.ownsRow base e 1 v' (n + 1) (xs ++ [u]) ∧ Only (fun k => blk v = some k) wr w' ∧ (blk v' = blk v ∨ ∃ k, blk v' = some k ∧ wr.heap.size ≤ k) ∧ (∀ k, blk v' = some k → k < w'.heap.size) := by
  have N1 : New wr (wr.alloc (.cells #[u] e)) := (Below.refl _ _).alloc (Nat.le_refl _) _
  obtain ⟨v', w', hr, r2, r3, _, r5⟩ := run_append_own_at (P := P) (w := wr.alloc (.cells #[u] e)) base t ty e i z 1 bytes ht hi hz hsize hby hzs (by omega) v n xs (own_more hown N1) ⟨wr.heap.size, 0, none⟩ 1 1 [u] rfl
    (fun j y hy => by
      cases j with
      | zero => cases hy; simp [Addr.add]
      | succ j => simp at hy) (by simpa using hu) (by simp only [maxLen]; omega) hb (Nat.le_trans hbase N1.size)
  refine ⟨v', w', hr, r2, ?_, ?_, ?_⟩
  · refine (Only.grown (New.only (F := fun k => blk v = some k) N1) r3 (fun k hk _ => ?_))
    rw [blk_own]; exact hk
  · rw [blk_own, blk_own]
    rcases r5 with h | h
    · exact .inl h
    · exact .inr ⟨_, h, N1.size⟩
  · intro k hk
    exact (r2.lt k (by rw [← blk_own]; exact hk)).2

theorem wpList_app1 {P : Program} {w : World} {ops : Array Oper} {rest : List Oper} {o : Oper} {a : Act} {Q : Exit → Act → World → Prop} (hgd : o.guard = none) (s x : Operand) (t : TypeId) (ho : o.op = .call { callee := .builtin .append, args := #[s, x], argTypes := #[t, t] })
    (vs vx : Value) (hs : a.eval s = vs) (hx : a.eval x = vx) {v' : Value} {w' : World} (hr : (Builtin.append_ #[t, t] o.type #[vs, vx]).run P w = .ok v' w') (h : wpList P ops Q rest (a.put o.dst v') w') : wpList P ops Q (o :: rest) a w :=
  wpList_plain hgd fun K hK => oper_append s x t ho vs vx hs hx hr (hK _ _ h)

end Go.Proofs.YtjkhklbeimgggaaDoor
