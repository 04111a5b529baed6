/-
  Slices of slices of bytes, over any program: 'RdV w v vs': the slice value v of one-cell elements holds vs; 'RdL w v ps': its elements read as bytes.
-/
import Derived.Test.YtoooemlcackepaaDoorMem
namespace Go.Proofs.YtoooemlcackepaaDoor
set_option linter.unusedVariables false
set_option linter.unusedSimpArgs false
open Go.RowKit

/-- The slice value v of elements of one cell each holds vs. -/
def RdV (w : World) (v : Value) (vs : List Value) : Prop :=
  ∃ a n c, v = .slice a n c ∧ vs.length = n ∧ n ≤ c ∧ c ≤ maxLen ∧ (a = none → n = 0 ∧ c = 0) ∧ ∀ ad, a = some ad → ∀ i u, vs[i]? = some u → w.cell? (ad.add i) = some u

theorem RdV.of_block {w w' : World} {v : Value} {vs : List Value} (h : RdV w v vs) (hb : ∀ k, blk v = some k → k < w.heap.size → w'.heap[k]? = w.heap[k]?) : RdV w' v vs := by
  obtain ⟨a, n, c, rfl, h1, h2, h3, h4, h5⟩ := h
  refine ⟨a, n, c, rfl, h1, h2, h3, h4, fun ad had i u hu => ?_⟩
  subst had
  have h6 := h5 ad rfl i u hu
  have hlt := World.block_lt_of_cell? w _ h6
  rw [Addr.add_block] at hlt
  rw [World.cell?_of_block (w := w) (by rw [Addr.add_block]; exact hb _ rfl hlt)]
  exact h6

theorem RdV.lt {w : World} {v : Value} {vs : List Value} (h : RdV w v vs) {k : Nat} (hk : blk v = some k) (hne : vs ≠ []) : k < w.heap.size := by
  obtain ⟨a, n, c, rfl, h1, h2, h3, h4, h5⟩ := h
  cases a with
  | none => simp [blk] at hk
  | some ad =>
    simp [blk] at hk; subst hk
    cases vs with
    | nil => exact absurd rfl hne
    | cons x r =>
      have := h5 ad rfl 0 x rfl
      have := World.block_lt_of_cell? w _ this
      rwa [Addr.add_block] at this

theorem RdV.only {F : Nat → Prop} {w w' : World} {v : Value} {vs : List Value} (h : RdV w v vs) (ho : Only F w w') (hF : ∀ k, blk v = some k → vs ≠ [] → ¬ F k) : RdV w' v vs := by
  by_cases e : vs = []
  · subst e
    obtain ⟨a, n, c, rfl, h1, h2, h3, h4, h5⟩ := h
    exact ⟨a, n, c, rfl, h1, h2, h3, h4, by simp⟩
  · exact h.of_block fun k hk hlt => ho.block k hlt (hF k hk e)

theorem RdV.new {w w' : World} {v : Value} {vs : List Value} (h : RdV w v vs) (ho : New w w') : RdV w' v vs := h.of_block fun k _ hlt => ho.block k hlt

theorem RdV.nil (w : World) : RdV w (.slice none 0 0) [] := ⟨none, 0, 0, rfl, rfl, Nat.le_refl _, by simp [maxLen], fun _ => ⟨rfl, rfl⟩, by simp⟩

/-- the cell of an element, at the address as a walk has it -/
theorem RdV.cell {w : World} {a : Option Addr} {n c : Nat} {vs : List Value} (h : RdV w (.slice a n c) vs) (hn : 0 < n) :
    ∃ b off, a = some ⟨b, off, none⟩ ∧ ∀ i u, vs[i]? = some u → w.cell? ⟨b, off + i, none⟩ = some u := by
  obtain ⟨a', n', c', e, h1, h2, h3, h4, h5⟩ := h
  cases e
  cases a with
  | none => have := (h4 rfl).1; omega
  | some ad =>
    obtain ⟨b, off, spot⟩ := ad
    have hs : spot = none := by
      cases vs with
      | nil => simp at h1; omega
      | cons x r =>
        have := h5 _ rfl 0 x rfl
        simp only [Addr.add, if_pos] at this
        unfold World.cell? at this
        split at this
        · cases spot with
          | none => rfl
          | some _ => simp at this
        · cases this
    subst hs
    refine ⟨b, off, rfl, fun i u hu => ?_⟩
    have := h5 _ rfl i u hu
    rwa [Addr.add_lit] at this

theorem RdV.of_own {w : World} {base : Nat} {e : TypeId} {v : Value} {vs : List Value} {n : Nat} (h : w.ownsRow base e 1 v n vs) : RdV w v vs := by
  have hl := h.1
  rw [Nat.mul_one] at hl
  rcases h.2 with ⟨rfl, h0⟩ | ⟨g, cap, cur, rfl, hb, hg, hnc, hcm, hcs, htake⟩
  · rw [h0] at hl
    obtain rfl : vs = [] := List.eq_nil_of_length_eq_zero hl
    exact RdV.nil w
  · refine ⟨_, _, _, rfl, hl, hnc, hcm, (fun h => by cases h), fun ad had i u hu => ?_⟩
    cases had
    exact h.cells (g := g) rfl i u hu

/-- a new block that holds these values -/
theorem RdV.made (w : World) (vs : List Value) (e : TypeId) (fr : Nat × Nat) (hl : vs.length ≤ 9223372036854775807) : RdV (w.alloc (.cells vs.toArray e fr)) (.slice (some ⟨w.heap.size, 0, none⟩) vs.length vs.length) vs := by
  refine ⟨_, _, _, rfl, rfl, Nat.le_refl _, by simpa [maxLen] using hl, (fun h => by cases h), fun ad had i u hu => ?_⟩
  cases had
  rw [World.news_of_block (heap_alloc_new w _) i u (by simp [hu])]

/-- The slice of slices v: its elements, each with the bytes that it reads as. -/
def RdL (w : World) (v : Value) (ps : List (Value × List UInt8)) : Prop := RdV w v (ps.map (·.1)) ∧ ∀ p ∈ ps, Rd w p.1 p.2

theorem RdL.new {w w' : World} {v : Value} {ps : List (Value × List UInt8)} (h : RdL w v ps) (ho : New w w') : RdL w' v ps := ⟨h.1.new ho, fun p hp => (h.2 p hp).new ho⟩

theorem RdL.only {F : Nat → Prop} {w w' : World} {v : Value} {ps : List (Value × List UInt8)} (h : RdL w v ps) (ho : Only F w w') (h1 : ∀ k, blk v = some k → ps ≠ [] → ¬ F k) (h2 : ∀ p ∈ ps, ∀ k, blk p.1 = some k → p.2 ≠ [] → ¬ F k) : RdL w' v ps :=
  ⟨h.1.only ho (fun k hk hne => h1 k hk (fun e => hne (by rw [e]; rfl))), fun p hp => (h.2 p hp).only ho (h2 p hp)⟩

/-- all bytes of the parts -/
def allOf (ps : List (Value × List UInt8)) : List UInt8 := ps.flatMap (·.2)

theorem allOf_append (a b : List (Value × List UInt8)) : allOf (a ++ b) = allOf a ++ allOf b := by simp [allOf]

theorem allOf_take (ps : List (Value × List UInt8)) (k : Nat) (p : Value × List UInt8) (h : ps[k]? = some p) : allOf (ps.take (k + 1)) = allOf (ps.take k) ++ p.2 := by
  rw [List.take_add_one, h, allOf_append]
  simp [allOf]

theorem allOf_take_le (ps : List (Value × List UInt8)) (k : Nat) : (allOf (ps.take k)).length ≤ (allOf ps).length := by
  have h : allOf ps = allOf (ps.take k) ++ allOf (ps.drop k) := by rw [← allOf_append, List.take_append_drop]
  rw [h, List.length_append]; omega

theorem own_from {w : World} {base : Nat} {e : TypeId} {size : Nat} {v : Value} {n : Nat} {xs : List Value} (h : w.ownsRow base e size v n xs) : ∀ k, blk v = some k → base ≤ k := by
  intro k hk
  rcases h.2 with ⟨rfl, _⟩ | ⟨g, cap, cur, rfl, hb, _⟩
  · simp [blk] at hk
  · simp [blk] at hk; omega

/-- append(v[:n:n], x) where x is one value -/
theorem run_append_one {P : Program} (w : World) (t ty e : TypeId) (i : TypeInfo) (z : Value) (bytes : Nat) (ht : P.underlying t = some (.slice e)) (hi : P.info? e = some i) (hz : i.zero = some z)
    (hsize : i.size = 1) (hby : i.bytes = bytes) (hzs : z.cells.size = 1) (a : Option Addr) (n c : Nat) (vs : List Value) (h : RdV w (.slice a n c) vs) (x : Addr) (u : Value) (hx : w.cell? x = some u) (hu : u.oneCell' = true) (hbytes : (n + 1) * bytes ≤ 140737488355328) (hn : n + 1 ≤ 9223372036854775807) :
    ∃ v' w', (Builtin.append_ #[t, t] ty #[.slice a n n, .slice (some x) 1 1]).run P w = .ok v' w' ∧ RdV w' v' (vs ++ [u]) ∧ New w w' ∧ ∀ k, blk v' = some k → w.heap.size ≤ k := by
  obtain ⟨a', n', c', e', h1, h2, h3, h4, h5⟩ := h
  cases e'
  have hnews : ∀ j y, [u][j]? = some y → w.cell? (x.add j) = some y := fun j y hy => by
    cases j with
    | zero => cases hy; simpa [Addr.add] using hx
    | succ j => simp at hy
  cases a with
  | some b =>
    obtain ⟨v', w', hrun, r1, r2⟩ := run_append_arg_grows (P := P) w t ty e i z 1 bytes ht hi hz hsize hby hzs (by omega) b n n vs (by omega) (fun j y hy => h5 b rfl j y hy) x 1 1 [u] rfl hnews (by omega) (by simp only [maxLen]; omega) hbytes
    exact ⟨v', w', hrun, RdV.of_own r1, Below.grown (Below.refl _ _) r2 (Nat.le_refl _) (by simp), own_from r1⟩
  | none =>
    obtain ⟨rfl, _⟩ := h4 rfl
    obtain rfl : vs = [] := List.eq_nil_of_length_eq_zero h1
    obtain ⟨v', w', hrun, r1, r2, _⟩ := run_append_own (P := P) w w.heap.size t ty e i z 1 bytes ht hi hz hsize hby hzs (by omega) (.slice none 0 0) 0 [] (World.ownsRow_nil w _ e 1) x 1 1 [u] rfl hnews (by simpa using hu) (by simp [maxLen]) (by simpa using hbytes) (Nat.le_refl _)
    exact ⟨v', w', hrun, RdV.of_own r1, Below.grown (Below.refl _ _) r2 (Nat.le_refl _) (by simp [Value.ownBlock]), own_from r1⟩

/-- an append whose run is known, as one operation -/
theorem oper_append {P : Program} {o : Oper} {a : Act} {w : World} {K : Act → World → Prop} {Q : Exit → Act → World → Prop} (s x : Operand) (t : TypeId) (ho : o.op = .call { callee := .builtin .append, args := #[s, x], argTypes := #[t, t] })
    (vs vx : Value) (hs : a.eval s = vs) (hx : a.eval x = vx) {v' : Value} {w' : World} (hr : (Builtin.append_ #[t, t] o.type #[vs, vx]).run P w = .ok v' w') (h : K (a.put o.dst v') w') : o.wp P a w K Q := by
  unfold Oper.wp execOp
  simp only [ho, resolve, invoke, builtin, Sem.run_bind, Sem.run_pure, Result.andThen_ok, List.map_toArray, List.map_cons, List.map_nil, hs, hx, hr]
  exact h

end Go.Proofs.YtoooemlcackepaaDoor
