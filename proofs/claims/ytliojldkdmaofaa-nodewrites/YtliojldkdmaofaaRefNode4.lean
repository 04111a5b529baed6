/-
  Layer 19: the reference's Read; what is kept meanwhile.
-/
import Derived.Test.YtliojldkdmaofaaRefNode3
import Derived.Test.YtliojldkdmaofaaRefEye
namespace Go.Proofs.Ytliojldkdmaofaa
set_option linter.unusedVariables false
set_option linter.unusedSimpArgs false
set_option maxRecDepth 100000
open Go.RowKit

theorem wpList_load_row19 {P : Program} {ops : Array Oper} {rest : List Oper} {o : Oper} {a : Act} {w : World} {Q : Exit → Act → World → Prop} (hw : Region.wanted o (yielded ops a.tmps) = true) (ty : TypeId) (x : Operand) (ho : o.op = .load ty x)
    (g : Nat) (hx : a.eval x = .pointer (some ⟨g, 0, none⟩)) (t : TypeId) (cs : Array Value) (fr : Nat × Nat) (d : TypeDesc) (hg : w.heap[g]? = some (.cells cs t fr))
    (hu : P.underlying ty = some d) (hd : (match d with | .struct _ | .array _ _ => true | _ => false) = true) (hi : (P.info? ty).map (·.size) = some cs.size)
    (h : wpList P ops Q rest (a.put o.dst (.agg cs)) w) : wpList P ops Q (o :: rest) a w := by
  show if Region.wanted o (yielded ops a.tmps) then _ else _
  rw [if_pos hw]
  exact .inl (wp_load_row ty x ho g hx t cs fr d hg hu hd hi h)

/-- []byte(s) -/
theorem str_bytes19 (w : World) (l : List UInt8) (hl : l.length ≤ 140737488355328) : ∃ a n c w', (convert 9 22 (.string (bstr l))).run Try.prog w = .ok (.slice a n c) w' ∧ Rd w' (.slice a n c) l ∧ New w w' ∧ ∀ k, blk (.slice a n c) = some k → w.heap.size ≤ k := by
  have h := Lib.run_convert_string_bytes (P := Try.prog) w 9 22 5 (bstr l) Try.underlying9 Try.underlying22 Try.underlying5
  obtain ⟨ho, hn⟩ := ownB_of_string w 5 l hl
  rw [bstr_size] at h ho
  exact ⟨_, _, _, _, h, ho.rd, hn, ho.from⟩

theorem own_kept19 {w w' : World} {base : Nat} {e : TypeId} {v : Value} {n : Nat} {xs : List Value} (h : w.ownsRow base e 1 v n xs) (hb : ∀ k, base ≤ k → k < w.heap.size → w'.heap[k]? = w.heap[k]?) : w'.ownsRow base e 1 v n xs := by
  refine ⟨h.1, ?_⟩
  rcases h.2 with h0 | ⟨g, cap, cur, rfl, hb1, e3, rest⟩
  · exact .inl h0
  · exact .inr ⟨g, cap, cur, rfl, hb1, (hb g hb1 (lt_of_block e3)).trans e3, rest⟩

theorem set19 (w : World) (g o : Nat) (u : Value) : Only (fun k => k = g) w (w.setCell ⟨g, o, none⟩ u) := (Only.refl (fun k => k = g) w).setCell (p := ⟨g, o, none⟩) (fun _ => rfl) u

/-- in the midst of reading: the node in block g, the reader at block q; what was read so far lies in blocks from w0's size on -/
structure RSt19 (w0 wr : World) (g q : Nat) (s : RS) (v : NodeV) (N : NodeL) : Prop where
  eye : REye wr q s.1 s.2
  only : Only (fun k => k = g ∨ k = q) w0 wr
  at_ : At5 wr g 26 (.int .i64 N.kind) v.nm (.int .u64 (N.key : Int)) v.pa v.un
  nm : Rd wr v.nm N.name
  pa : Rd wr v.pa N.parent
  own : wr.ownsRow w0.heap.size 3 1 v.un N.unm.length (N.unm.map (Value.int .i64))
  nb : ∀ k, blk v.nm = some k → w0.heap.size ≤ k
  pb : ∀ k, blk v.pa = some k → w0.heap.size ≤ k
  gq : g < w0.heap.size ∧ q < w0.heap.size ∧ g ≠ q
  sep : ∀ k, blk v.un = some k → (blk v.nm = some k → N.name = []) ∧ (blk v.pa = some k → N.parent = [])

section
variable {w0 wr w' : World} {g q : Nat} {s s' : RS} {v : NodeV} {N : NodeL}
theorem RSt19.step (h : RSt19 w0 wr g q s v N) (E : REyeTo wr q s'.1 s'.2 w') : RSt19 w0 w' g q s' v N :=
  ⟨E.1, h.only.trans E.2 (fun _ _ e => .inr e), h.at_.only E.2 (fun e => h.gq.2.2 e), h.nm.only E.2 (fun k hk _ e => by have := h.nb k hk; have := h.gq; omega), h.pa.only E.2 (fun k hk _ e => by have := h.pb k hk; have := h.gq; omega),
    own_kept19 h.own (fun k hk hl => E.2.block k hl (fun e => by have := h.gq; omega)), h.nb, h.pb, h.gq, h.sep⟩

theorem RSt19.new (h : RSt19 w0 wr g q s v N) (hn : New wr w') : RSt19 w0 w' g q s v N :=
  ⟨h.eye.new hn, h.only.trans (New.only (F := fun _ => False) hn) (fun _ _ e => e.elim), h.at_.new hn, h.nm.new hn, h.pa.new hn, own_more h.own hn, h.nb, h.pb, h.gq, h.sep⟩

theorem RSt19.g_only (h : RSt19 w0 wr g q s v N) (ho : Only (fun k => k = g) wr w') : REye w' q s.1 s.2 ∧ Only (fun k => k = g ∨ k = q) w0 w' ∧ Rd w' v.nm N.name ∧ Rd w' v.pa N.parent ∧ w'.ownsRow w0.heap.size 3 1 v.un N.unm.length (N.unm.map (Value.int .i64)) :=
  ⟨h.eye.only ho (fun e => h.gq.2.2 e.symm), h.only.trans ho (fun _ _ e => .inl e), h.nm.only ho (fun k hk _ e => by have := h.nb k hk; have := h.gq; omega), h.pa.only ho (fun k hk _ e => by have := h.pb k hk; have := h.gq; omega),
    own_kept19 h.own (fun k hk hl => ho.block k hl (fun e => by have := h.gq; omega))⟩

theorem RSt19.setName (h : RSt19 w0 wr g q s v N) (hu : blk v.un = none) {a : Value} {l : List UInt8} (r : Rd wr a l) (o : ∀ k, blk a = some k → w0.heap.size ≤ k) : RSt19 w0 (wr.setCell ⟨g, 1, none⟩ a) g q s { v with nm := a } { N with name := l } := by
  have ho := set19 wr g 1 a
  obtain ⟨h1, h2, h3, h4, h5⟩ := h.g_only ho
  exact ⟨h1, h2, h.at_.set1 a, r.only ho (fun k hk _ e => by have := o k hk; have := h.gq; omega), h4, h5, o, h.pb, h.gq, fun k hk => by rw [show blk v.un = some k from hk] at hu; cases hu⟩

theorem RSt19.setKey (h : RSt19 w0 wr g q s v N) (k : Nat) : RSt19 w0 (wr.setCell ⟨g, 2, none⟩ (.int .u64 (k : Int))) g q s v { N with key := k } := by
  have ho := set19 wr g 2 (.int .u64 (k : Int))
  obtain ⟨h1, h2, h3, h4, h5⟩ := h.g_only ho
  exact ⟨h1, h2, h.at_.set2 _, h3, h4, h5, h.nb, h.pb, h.gq, h.sep⟩

theorem RSt19.setParent (h : RSt19 w0 wr g q s v N) (hu : blk v.un = none) {a : Value} {l : List UInt8} (r : Rd wr a l) (o : ∀ k, blk a = some k → w0.heap.size ≤ k) : RSt19 w0 (wr.setCell ⟨g, 3, none⟩ a) g q s { v with pa := a } { N with parent := l } := by
  have ho := set19 wr g 3 a
  obtain ⟨h1, h2, h3, h4, h5⟩ := h.g_only ho
  exact ⟨h1, h2, h.at_.set3 a, h3, r.only ho (fun k hk _ e => by have := o k hk; have := h.gq; omega), h5, h.nb, o, h.gq, fun k hk => by rw [show blk v.un = some k from hk] at hu; cases hu⟩

theorem RSt19.push (h : RSt19 w0 wr g q s v N) {a : Value} {x : Int} (hown : w'.ownsRow w0.heap.size 3 1 a (N.unm.length + 1) (N.unm.map (Value.int .i64) ++ [.int .i64 x])) (ho : Only (fun k => blk v.un = some k) wr w')
    (hnew : blk a = blk v.un ∨ ∃ k, blk a = some k ∧ wr.heap.size ≤ k) : RSt19 w0 (w'.setCell ⟨g, 4, none⟩ a) g q s { v with un := a } { N with unm := N.unm ++ [x] } := by
  have hb : ∀ k, blk v.un = some k → w0.heap.size ≤ k := own_from h.own
  have ho2 := set19 w' g 4 a
  have hg : ¬ blk v.un = some g := fun e => by have := hb g e; have := h.gq; omega
  have hq : ¬ blk v.un = some q := fun e => by have := hb q e; have := h.gq; omega
  have hsz := ho.size
  have h01 := h.only.size
  have hab : ∀ k, blk a = some k → w0.heap.size ≤ k := own_from hown
  refine ⟨(h.eye.only ho hq).only ho2 (fun e => h.gq.2.2 e.symm), ?_, (h.at_.only ho hg).set4 a, ?_, ?_, ?_, h.nb, h.pb, h.gq, ?_⟩
  · exact (h.only.trans ho (fun i hi e => by have := hb i e; omega)).trans ho2 (fun _ _ e => .inl e)
  · exact (h.nm.only ho (fun k hk hne e => hne ((h.sep k e).1 hk))).only ho2 (fun k hk _ e => by have := h.nb k hk; have := h.gq; omega)
  · exact (h.pa.only ho (fun k hk hne e => hne ((h.sep k e).2 hk))).only ho2 (fun k hk _ e => by have := h.pb k hk; have := h.gq; omega)
  · rw [List.length_append, List.map_append]
    exact own_kept19 hown (fun k hk hl => ho2.block k hl (fun e => by have := h.gq; omega))
  · intro k hk
    rcases hnew with e | ⟨j, e, hj⟩
    · exact h.sep k (by rw [← e]; exact hk)
    · rw [show blk a = some k from hk] at e
      cases e
      refine ⟨fun e => ?_, fun e => ?_⟩
      · by_cases hn : N.name = []
        · exact hn
        · have := h.nm.lt e hn; omega
      · by_cases hn : N.parent = []
        · exact hn
        · have := h.pa.lt e hn; omega
end

end Go.Proofs.Ytliojldkdmaofaa
