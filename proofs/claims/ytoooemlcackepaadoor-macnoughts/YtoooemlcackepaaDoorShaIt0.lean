/-
  The iterator's own step: bytes are copied into its block. Plain lemmas.
-/
import Derived.Test.YtoooemlcackepaaDoorShaPadd
import Derived.Test.YtoooemlcackepaaDoorInLaws
namespace Go.Proofs.YtoooemlcackepaaDoor
set_option linter.unusedVariables false
set_option linter.unusedSimpArgs false
open Go.RowKit

/-- between two steps of the iterator: c bytes have come; B: its block -/
structure ItIn (A : List UInt8) (v : Value) (ps : List (Value × List UInt8)) (J : Nat → World → Prop) (n1 B c : Nat) (wr : World) : Prop where
  rd : RdL wr v ps
  buf : ∃ buf : List UInt8, wr.heap[B]? = some (.cells (buf.map bv).toArray 31) ∧ buf.length = 64 ∧ buf.take (c % 64) = (A.drop (64 * (c / 64))).take (c % 64)
  j : J (c / 64) wr
  size : n1 ≤ wr.heap.size

theorem allOf_drop (ps : List (Value × List UInt8)) (k : Nat) (p : Value × List UInt8) (h : ps[k]? = some p) : ((allOf ps).drop (allOf (ps.take k)).length).take p.2.length = p.2 := by
  have e : allOf ps = allOf (ps.take k) ++ (p.2 ++ allOf (ps.drop (k + 1))) := by
    have h1 : ps = ps.take (k + 1) ++ ps.drop (k + 1) := (List.take_append_drop _ _).symm
    conv => lhs; rw [h1]
    rw [allOf_append, allOf_take ps k p h, List.append_assoc]
  rw [e, List.drop_left, List.take_left]

theorem splice_map (buf q : List UInt8) (x : Nat) : (buf.map bv).take x ++ (q.map bv ++ (buf.map bv).drop (x + (q.map bv).length)) = (buf.take x ++ (q ++ buf.drop (x + q.length))).map bv := by
  simp

theorem buf_step (A buf q : List UInt8) (c x k m : Nat) (hx : x = c % 64) (hk : k = c / 64) (hl : buf.length = 64) (hb : buf.take x = (A.drop (64 * k)).take x) (hq : q.length = m) (hA : (A.drop c).take m = q) (hm : x + m ≤ 64) :
    (buf.take x ++ (q ++ buf.drop (x + q.length))).length = 64 ∧ (buf.take x ++ (q ++ buf.drop (x + q.length))).take (x + m) = (A.drop (64 * k)).take (x + m) := by
  have hc : c = 64 * k + x := by omega
  refine ⟨by simp; omega, ?_⟩
  have h1 : (buf.take x).length = x := by simp; omega
  rw [← List.append_assoc, List.take_append_of_le_length (by simp; omega), List.take_of_length_le (by simp; omega), hb, List.take_add, List.drop_drop, ← hc, hA]

/-- copy(block[x:], part) -/
theorem copyIn {A : List UInt8} {v : Value} {ps : List (Value × List UInt8)} {J : Nat → World → Prop} {n1 B c : Nat} {wr : World} (h : ItIn A v ps J n1 B c wr) (hB : n1 ≤ B)
    (hJ : ∀ k A B, J k A → Below n1 A B → J k B) (h1 : ∀ k, blk v = some k → ps ≠ [] → k ≠ B) (h2 : ∀ p ∈ ps, ∀ k, blk p.1 = some k → p.2 ≠ [] → k ≠ B)
    {a : Option Addr} {len cap : Nat} {q : List UInt8} (hq : Rd wr (.slice a len cap) q) (hne : 0 < len) (hqb : ∀ k, blk (.slice a len cap) = some k → k ≠ B) (hA : (A.drop c).take len = q) :
    ∃ m w2, 0 < m ∧ m ≤ len ∧ c % 64 + m ≤ 64 ∧ (m = len ∨ c % 64 + m = 64) ∧ (Builtin.copy_ #[22, 22] 3 #[.slice (some ⟨B, c % 64, none⟩) (64 - c % 64) (64 - c % 64), .slice a len cap]).run Tryd.prog wr = .ok (.int .i64 (m : Int)) w2 ∧
      Below n1 wr w2 ∧ RdL w2 v ps ∧ Rd w2 (.slice a len cap) q ∧ (∃ buf : List UInt8, w2.heap[B]? = some (.cells (buf.map bv).toArray 31) ∧ buf.length = 64 ∧ buf.take (c % 64 + m) = (A.drop (64 * (c / 64))).take (c % 64 + m)) ∧ J (c / 64) w2 ∧ n1 ≤ w2.heap.size := by
  obtain ⟨buf, hbuf, hbl, hbt⟩ := h.buf
  have hx : c % 64 < 64 := Nat.mod_lt _ (by decide)
  have hlen := hq.len
  obtain ⟨m, hm⟩ : ∃ m, m = Nat.min len (64 - c % 64) := ⟨_, rfl⟩
  have hm1 : m ≤ len := by rw [hm]; exact Nat.min_le_left _ _
  have hm2 : m ≤ 64 - c % 64 := by rw [hm]; exact Nat.min_le_right _ _
  have hm3 : m = len ∨ m = 64 - c % 64 := by rw [hm]; show min len _ = _ ∨ min len _ = _; omega
  have hq' := hq
  obtain ⟨a', n', c', e, g1, g2, g3, g4, g5⟩ := hq'
  cases e
  cases a with
  | none => have := (g4 rfl).1; omega
  | some ad =>
    have hqm : (q.take m).length = m := by rw [List.length_take, hlen]; omega
    have hrun := run_copy_row (P := Tryd.prog) wr 22 22 3 5 B (c % 64) (64 - c % 64) (64 - c % 64) ad len cap (buf.map bv).toArray 31 ((q.take m).map bv) Tryd.underlying22 (by kernel_rfl) hbuf (by rw [List.length_map, hqm, hm])
      (fun j y hj => by
        rw [List.getElem?_map, List.getElem?_take] at hj
        split at hj
        · cases hb : q[j]? with
          | none => rw [hb] at hj; cases hj
          | some b => rw [hb] at hj; cases hj; exact g5 ad rfl j b hb
        · cases hj) (by simp [hqm, hbl]; omega) (oneCell_bv _)
    simp only at hrun
    have hst := buf_step A buf (q.take m) c (c % 64) (c / 64) m rfl rfl hbl hbt hqm (by rw [← hA, List.take_take]; congr 1; omega) (by omega)
    have ho : Only (fun k => k = B) wr (wr.setRow B (List.take (c % 64) (buf.map bv) ++ ((q.take m).map bv ++ List.drop (c % 64 + ((q.take m).map bv).length) (buf.map bv))).toArray) :=
      ⟨rfl, rfl, rfl, by simp, fun k _ hk => setRow_other _ _ _ _ hk⟩
    have hbel : Below n1 wr (wr.setRow B (List.take (c % 64) (buf.map bv) ++ ((q.take m).map bv ++ List.drop (c % 64 + ((q.take m).map bv).length) (buf.map bv))).toArray) := below_setRow (Below.refl _ _) hB _
    refine ⟨m, _, by omega, hm1, by omega, by omega, ?_, hbel, h.rd.only ho (fun k hk hn => h1 k hk hn) (fun p hp k hk hn => h2 p hp k hk hn), hq.only ho (fun k hk _ => hqb k hk), ⟨_, ?_, hst.1, hst.2⟩, hJ _ _ _ h.j hbel, by have := h.size; simpa using this⟩
    · rw [hrun, List.append_assoc, List.length_map, hqm]; rfl
    · rw [setRow_heap _ _ _ _ _ _ hbuf, splice_map]

end Go.Proofs.YtoooemlcackepaaDoor
