/-
  Plain lemmas on memory, over any program: 'Only F w w'' (of the old blocks those outside F are as they were), 'Rd w v l' (the slice value v reads as the bytes l), what an append onto a row of the call's own does, whatever its source.
-/
import Derived.WalkKit
import Derived.WalkSpells
import Derived.WalkLawsBesides
import Derived.Deep.AppendLies
import Derived.Laws.AppendOwnNone
import Derived.Lib.Hide
import Derived.Laws.BytesArg
import Derived.Lib.SlBytesConst
namespace Go.Proofs.YtoooemlcackepaaDoor
set_option linter.unusedVariables false
set_option linter.unusedSimpArgs false
open Go.RowKit

/-- a byte as a value -/
abbrev bv (b : UInt8) : Value := .int .u8 (b.toNat : Int)

/-- Of the blocks that were there, those outside F are as they were. -/
structure Only (F : Nat → Prop) (w w' : World) : Prop where
  os : w'.os = w.os
  tape : w'.tape = w.tape
  output : w'.output = w.output
  size : w.heap.size ≤ w'.heap.size
  block : ∀ k, k < w.heap.size → ¬ F k → w'.heap[k]? = w.heap[k]?

theorem Only.refl (F : Nat → Prop) (w : World) : Only F w w := ⟨rfl, rfl, rfl, Nat.le_refl _, fun _ _ _ => rfl⟩

theorem Only.trans {F G : Nat → Prop} {a b c : World} (h : Only F a b) (k : Only G b c) (hG : ∀ i, i < a.heap.size → G i → F i) : Only F a c :=
  ⟨k.os.trans h.os, k.tape.trans h.tape, k.output.trans h.output, Nat.le_trans h.size k.size, fun i hi hF =>
    (k.block i (Nat.lt_of_lt_of_le hi h.size) (fun g => hF (hG i hi g))).trans (h.block i hi hF)⟩

theorem Only.mono {F G : Nat → Prop} {a b : World} (h : Only F a b) (hG : ∀ i, i < a.heap.size → F i → G i) : Only G a b :=
  ⟨h.os, h.tape, h.output, h.size, fun i hi hF => h.block i hi (fun f => hF (hG i hi f))⟩

theorem Only.drew {F : Nat → Prop} {a w : World} (h : Only F a w) : Only F a w.drew := ⟨h.os, h.tape, h.output, h.size, h.block⟩

theorem Only.alloc {F : Nat → Prop} {a w : World} (h : Only F a w) (o : Obj) : Only F a (w.alloc o) :=
  ⟨h.os, h.tape, h.output, by have := h.size; simp; omega, fun i hi hF => (Below.heap_alloc _ _ _ (by have := h.size; omega)).trans (h.block i hi hF)⟩

theorem Only.setCell {F : Nat → Prop} {a w : World} (h : Only F a w) {p : Addr} (hp : p.block < a.heap.size → F p.block) (u : Value) : Only F a (w.setCell p u) :=
  ⟨h.os, h.tape, h.output, by simpa using h.size, fun i hi hF => (Below.heap_setCell _ _ _ _ (fun e => hF (by subst e; exact hp hi))).trans (h.block i hi hF)⟩

theorem Only.grown {F : Nat → Prop} {a w w' : World} {row : Option Nat} (h : Only F a w) (hg : w.grownBy w' row) (hr : ∀ k, row = some k → k < a.heap.size → F k) : Only F a w' :=
  ⟨hg.os.trans h.os, hg.tape.trans h.tape, hg.output.trans h.output, Nat.le_trans h.size hg.size, fun i hi hF =>
    (hg.block i (Nat.lt_of_lt_of_le hi h.size) (fun e => hF (hr i e.symm hi))).trans (h.block i hi hF)⟩

theorem Only.of_below {B : Nat} {F : Nat → Prop} {a b : World} (h : Below B a b) (hF : ∀ k, B ≤ k → k < a.heap.size → F k) : Only F a b :=
  ⟨h.os, h.tape, h.output, h.size, fun i hi hf => h.block i (by rcases Nat.lt_or_ge i B with h1 | h1; exact h1; exact absurd (hF i h1 hi) hf)⟩

theorem Only.below {B : Nat} {F : Nat → Prop} {a b : World} (h : Only F a b) (hB : B ≤ a.heap.size) (hF : ∀ k, F k → B ≤ k) : Below B a b :=
  ⟨h.os, h.tape, h.output, h.size, fun i hi => h.block i (by omega) (fun f => by have := hF i f; omega)⟩

/-- nothing old has turned -/
abbrev New (w w' : World) : Prop := Below w.heap.size w w'

theorem Only.new {F : Nat → Prop} {a b : World} (h : Only F a b) (hF : ∀ k, F k → a.heap.size ≤ k) : New a b := h.below (Nat.le_refl _) hF

theorem New.only {F : Nat → Prop} {a b : World} (h : New a b) : Only F a b := Only.of_below h (fun k h1 h2 => by omega)

theorem New.trans {a b c : World} (h : New a b) (k : New b c) : New a c := Below.trans h (Below.mono k h.size)

/-- The slice value v reads as the bytes l. -/
def Rd (w : World) (v : Value) (l : List UInt8) : Prop :=
  ∃ a n c, v = .slice a n c ∧ l.length = n ∧ n ≤ c ∧ c ≤ maxLen ∧ (a = none → n = 0 ∧ c = 0) ∧ ∀ ad, a = some ad → ∀ i u, l[i]? = some u → w.cell? (ad.add i) = some (bv u)

theorem Addr.add_block (a : Addr) (n : Nat) : (a.add n).block = a.block := by unfold Addr.add; split <;> rfl

/-- the block of a slice value -/
def blk : Value → Option Nat
  | .slice (some a) _ _ => some a.block
  | _ => none

theorem blk_own (v : Value) : blk v = v.ownBlock := by cases v <;> first | rfl | (rename_i a _ _; cases a <;> rfl)

theorem Rd.of_block {w w' : World} {v : Value} {l : List UInt8} (h : Rd w v l) (hb : ∀ k, blk v = some k → l ≠ [] → w'.heap[k]? = w.heap[k]?) : Rd w' v l := by
  obtain ⟨a, n, c, rfl, h1, h2, h3, h4, h5⟩ := h
  refine ⟨a, n, c, rfl, h1, h2, h3, h4, fun ad had i u hu => ?_⟩
  subst had
  have hne : l ≠ [] := by rintro rfl; simp at hu
  rw [World.cell?_of_block (w := w) (by rw [Addr.add_block]; exact hb _ rfl hne)]
  exact h5 ad rfl i u hu

theorem Rd.lt {w : World} {v : Value} {l : List UInt8} (h : Rd w v l) {k : Nat} (hk : blk v = some k) (hne : l ≠ []) : k < w.heap.size := by
  obtain ⟨a, n, c, rfl, h1, h2, h3, h4, h5⟩ := h
  cases a with
  | none => simp [blk] at hk
  | some ad =>
    simp [blk] at hk; subst hk
    cases l with
    | nil => exact absurd rfl hne
    | cons x r =>
      have := h5 ad rfl 0 x rfl
      have := World.block_lt_of_cell? w _ this
      rwa [Addr.add_block] at this

/-- A slice of bytes reads as it did where its block is outside what was touched. -/
theorem Rd.only {F : Nat → Prop} {w w' : World} {v : Value} {l : List UInt8} (h : Rd w v l) (ho : Only F w w') (hF : ∀ k, blk v = some k → l ≠ [] → ¬ F k) : Rd w' v l :=
  h.of_block fun k hk hne => ho.block k (h.lt hk hne) (hF k hk hne)

theorem Rd.new {w w' : World} {v : Value} {l : List UInt8} (h : Rd w v l) (ho : New w w') : Rd w' v l :=
  h.of_block fun k hk hne => ho.block k (h.lt hk hne)

theorem Rd.drew {w : World} {v : Value} {l : List UInt8} (h : Rd w v l) : Rd w.drew v l := h

theorem Rd.len {w : World} {a : Option Addr} {n c : Nat} {l : List UInt8} (h : Rd w (.slice a n c) l) : l.length = n := by
  obtain ⟨a', n', c', e, h1, _⟩ := h
  simp only [Value.slice.injEq] at e
  omega

theorem Rd.nil (w : World) : Rd w (.slice none 0 0) [] := ⟨none, 0, 0, rfl, rfl, Nat.le_refl _, by simp [maxLen], fun _ => ⟨rfl, rfl⟩, by simp⟩

theorem Rd.cut {w : World} {a : Option Addr} {m c : Nat} {r : List UInt8} (h : Rd w (.slice a m c) r) {k c' : Nat} (hk : k ≤ m) (hc : k ≤ c') (hcc : c' ≤ c) : Rd w (.slice a k c') (r.take k) := by
  obtain ⟨a', m', c'', e, h1, h2, h3, h4, h5⟩ := h
  cases e
  refine ⟨a, k, c', rfl, by rw [List.length_take]; omega, hc, Nat.le_trans hcc h3, fun ha => by have := h4 ha; omega, fun ad had i u hu => h5 ad had i u ?_⟩
  rw [List.getElem?_take] at hu
  split at hu
  · exact hu
  · cases hu

theorem Addr.add_add (a : Addr) (k i : Nat) : (a.add k).add i = a.add (k + i) ∨ (i = 0 ∧ (a.add k).add i = a.add k) := by
  by_cases hi : i = 0
  · right; exact ⟨hi, by simp [Addr.add, hi]⟩
  · left
    unfold Addr.add
    by_cases hk : k = 0
    · simp [hk, hi]
    · simp [hk, hi, Nat.add_assoc]

theorem Rd.rest {w : World} {a : Option Addr} {m c : Nat} {r : List UInt8} (h : Rd w (.slice a m c) r) {k : Nat} (hk : k ≤ m) : Rd w (.slice (a.map (fun x => x.add k)) (m - k) (c - k)) (r.drop k) := by
  obtain ⟨a', m', c'', e, h1, h2, h3, h4, h5⟩ := h
  cases e
  refine ⟨_, _, _, rfl, by rw [List.length_drop]; omega, by omega, by omega, fun ha => ?_, fun ad had i u hu => ?_⟩
  · cases a with
    | none => have := h4 rfl; omega
    | some x => simp at ha
  · cases a with
    | none => simp at had
    | some x =>
      simp at had
      subst had
      rw [List.getElem?_drop] at hu
      rcases Addr.add_add x k i with e | ⟨e0, e⟩
      · rw [e]; exact h5 x rfl _ u hu
      · rw [e]; subst e0; exact h5 x rfl _ u hu

theorem blk_rest (a : Option Addr) (n c n' c' k : Nat) : blk (.slice (a.map (fun x => x.add k)) n c) = blk (.slice a n' c') := by
  cases a with
  | none => rfl
  | some x => simp [blk, Addr.add_block]

theorem blk_slice (a : Option Addr) (n c n' c' : Nat) : blk (.slice a n c) = blk (.slice a n' c') := by cases a <;> rfl

/-- The slice value v of elements of 'size' cells each: the elements' cells. -/
def RdN (w : World) (size : Nat) (v : Value) (css : List (List Value)) : Prop :=
  ∃ a n c, v = .slice a n c ∧ css.length = n ∧ n ≤ c ∧ c ≤ maxLen ∧ (a = none → n = 0 ∧ c = 0) ∧ ∀ ad, a = some ad → ∀ i x, css[i]? = some x → ∀ j u, x[j]? = some u → w.cell? (ad.add (i * size + j)) = some u

theorem RdN.of_block {w w' : World} {size : Nat} {v : Value} {css : List (List Value)} (h : RdN w size v css) (hb : ∀ k, blk v = some k → k < w.heap.size → w'.heap[k]? = w.heap[k]?) : RdN w' size v css := by
  obtain ⟨a, n, c, rfl, h1, h2, h3, h4, h5⟩ := h
  refine ⟨a, n, c, rfl, h1, h2, h3, h4, fun ad had i x hx j u hu => ?_⟩
  subst had
  have h6 := h5 ad rfl i x hx j u hu
  have hlt := World.block_lt_of_cell? w _ h6
  rw [Addr.add_block] at hlt
  rw [World.cell?_of_block (w := w) (by rw [Addr.add_block]; exact hb _ rfl hlt)]
  exact h6

theorem RdN.new {w w' : World} {size : Nat} {v : Value} {css : List (List Value)} (h : RdN w size v css) (ho : New w w') : RdN w' size v css := h.of_block fun k _ hlt => ho.block k hlt

/-- the cell of an element, at the address as a walk has it -/
theorem RdN.cell {w : World} {size : Nat} {a : Option Addr} {n c : Nat} {css : List (List Value)} (h : RdN w size (.slice a n c) css) (h0 : ∀ x, x ∈ css → x ≠ []) (hn : 0 < n) :
    ∃ b off, a = some ⟨b, off, none⟩ ∧ ∀ i x, css[i]? = some x → ∀ j u, x[j]? = some u → w.cell? ⟨b, off + (i * size + j), none⟩ = some u := by
  obtain ⟨a', n', c', e, h1, h2, h3, h4, h5⟩ := h
  cases e
  cases a with
  | none => have := (h4 rfl).1; omega
  | some ad =>
    obtain ⟨b, off, spot⟩ := ad
    have hs : spot = none := by
      cases css with
      | nil => simp at h1; omega
      | cons x r =>
        cases hx : x with
        | nil => exact absurd hx (h0 x (by simp))
        | cons u y =>
          have := h5 _ rfl 0 x rfl 0 u (by rw [hx]; rfl)
          simp only [Nat.zero_mul, Nat.add_zero, Addr.add, if_pos] at this
          unfold World.cell? at this
          split at this
          · cases spot with
            | none => rfl
            | some _ => simp at this
          · cases this
    subst hs
    refine ⟨b, off, rfl, fun i x hx j u hu => ?_⟩
    have := h5 _ rfl i x hx j u hu
    rwa [Addr.add_lit] at this

theorem oneCell_bv (l : List UInt8) : ∀ u ∈ l.map bv, u.oneCell' = true := by
  intro u hu
  obtain ⟨b, _, rfl⟩ := List.mem_map.1 hu
  rfl

/-- What is owned as bytes reads as these bytes. -/
theorem Rd.of_own {w : World} {base : Nat} {e : TypeId} {v : Value} {l : List UInt8} (h : w.ownsRow base e 1 v l.length (l.map bv)) : Rd w v l := by
  rcases h.2 with ⟨rfl, h0⟩ | ⟨g, cap, cur, rfl, hb, hg, hnc, hcm, hcs, htake⟩
  · obtain rfl : l = [] := List.eq_nil_of_length_eq_zero h0
    exact Rd.nil w
  · refine ⟨_, _, _, rfl, rfl, hnc, hcm, (fun h => by cases h), fun ad had i u hu => ?_⟩
    cases had
    exact h.cells (g := g) rfl i (bv u) (by rw [List.getElem?_map, hu]; rfl)

/-- a new block that holds bytes -/
theorem Rd.made (w : World) (l : List UInt8) (e : TypeId) (fr : Nat × Nat) (hl : l.length ≤ 9223372036854775807) : Rd (w.alloc (.cells (l.map bv).toArray e fr)) (.slice (some ⟨w.heap.size, 0, none⟩) l.length l.length) l := by
  refine ⟨_, _, _, rfl, rfl, Nat.le_refl _, by simpa [maxLen] using hl, (fun h => by cases h), fun ad had i u hu => ?_⟩
  cases had
  rw [World.news_of_block (heap_alloc_new w _) i (bv u) (by simp [hu])]

/-- bytes as a string -/
def bstr (l : List UInt8) : ByteArray := ⟨l.toArray⟩

theorem bstr_toList (l : List UInt8) : (bstr l).data.toList = l := by simp [bstr]

theorem bstr_list (l : List UInt8) : (bstr l).toList = l := ByteArray.toList_mk l
theorem bstr_size (l : List UInt8) : (bstr l).size = l.length := by simp [bstr, ByteArray.size]

/-- string(b) -/
theorem run_str {P : Program} {w : World} {src dst e : TypeId} (hs : P.underlying src = some (.slice e)) (he : P.underlying e = some (.int .u8)) (hd : P.underlying dst = some .string) {v : Value} {l : List UInt8} (h : Rd w v l) :
    (convert src dst v).run P w = .ok (.string (bstr l)) w := by
  obtain ⟨a, n, c, rfl, h1, h2, h3, h4, h5⟩ := h
  cases a with
  | none =>
    have := (h4 rfl).1
    subst this
    obtain rfl : l = [] := List.eq_nil_of_length_eq_zero h1
    exact run_convert_bytes_nil w src e hs he 0 c dst hd
  | some ad =>
    subst h1
    have hl : (loadCells ad l.length).run P w = .ok ((l.map fun b => (b.toNat : Int)).map (Value.int .u8)).toArray w := by
      have := run_loadCells_list (P := P) w ad (l.map bv) (fun j v hj => by
        rw [List.getElem?_map] at hj
        cases hb : l[j]? with
        | none => rw [hb] at hj; cases hj
        | some b => rw [hb] at hj; cases hj; exact h5 ad rfl j b hb)
      rw [List.length_map] at this
      rw [List.map_map]
      exact this
    rw [run_convert_bytes_string w src dst e _ _ c hs he hd, run_bytesToString w ad l.length c _ hl, foldl_push_bytes]
    have e : List.map ((fun n : Int => UInt8.ofNat n.toNat) ∘ fun b : UInt8 => (b.toNat : Int)) l = l := by
      conv => rhs; rw [← List.map_id l]
      exact List.map_congr_left fun b _ => by simp
    simp [bstr, ByteArray.empty, ByteArray.emptyWithCapacity]
    exact e

/-- APPEND ONTO A ROW OF ONE's OWN, whatever the source (nil too). -/
theorem run_append_bytes {P : Program} (w : World) (base : Nat) (t ty e : TypeId) (i : TypeInfo) (z : Value) (ht : P.underlying t = some (.slice e)) (hi : P.info? e = some i) (hz : i.zero = some z)
    (hsize : i.size = 1) (hby : i.bytes = 1) (hzs : z.cells.size = 1)
    (v : Value) (n : Nat) (xs : List Value) (hown : w.ownsRow base e 1 v n xs) (x : Value) (l : List UInt8) (hx : Rd w x l)
    (hbytes : n + l.length ≤ 140737488355328) (hbase : base ≤ w.heap.size) :
    ∃ v' w', (Builtin.append_ #[t, t] ty #[v, x]).run P w = .ok v' w' ∧ w'.ownsRow base e 1 v' (n + l.length) (xs ++ l.map bv) ∧ w.grownBy w' v.ownBlock ∧
      (v'.ownBlock = v.ownBlock ∨ v'.ownBlock = some w.heap.size) := by
  obtain ⟨a, m, c, rfl, h1, h2, h3, h4, h5⟩ := hx
  cases a with
  | none =>
    obtain ⟨rfl, rfl⟩ := h4 rfl
    obtain rfl : l = [] := List.eq_nil_of_length_eq_zero h1
    have hrun := run_append_owned_none (P := P) (w := w) base t ty e i 1 ht hi v n xs hown
    exact ⟨v, w, hrun, by simpa using hown, ⟨rfl, rfl, rfl, Nat.le_refl _, fun _ _ _ => rfl⟩, .inl rfl⟩
  | some ad =>
    subst h1
    obtain ⟨v', w', hr, r2, r3, _, r5⟩ := run_append_own_at (P := P) w base t ty e i z 1 1 ht hi hz hsize hby hzs (by omega) v n xs hown ad l.length c (l.map bv) (by simp)
      (fun j u hj => by
        rw [List.getElem?_map] at hj
        cases hb : l[j]? with
        | none => rw [hb] at hj; cases hj
        | some b => rw [hb] at hj; cases hj; exact h5 ad rfl j b hb) (oneCell_bv l) (by simp only [maxLen]; omega) (by omega) hbase
    exact ⟨v', w', hr, r2, r3, r5⟩

/-- the same, for the walk -/
theorem wpList_append_bytes {P : Program} {w : World} {ops : Array Oper} {rest : List Oper} {o : Oper} {a : Act} {Q : Exit → Act → World → Prop} (hgd : o.guard = none) (s x : Operand) (t : TypeId)
    (ho : o.op = .call { callee := .builtin .append, args := #[s, x], argTypes := #[t, t] })
    (base : Nat) (e : TypeId) (i : TypeInfo) (z : Value) (ht : P.underlying t = some (.slice e)) (hi : P.info? e = some i) (hz : i.zero = some z)
    (hsize : i.size = 1) (hby : i.bytes = 1) (hzs : z.cells.size = 1)
    (v : Value) (n : Nat) (xs : List Value) (hs : a.eval s = v) (hown : w.ownsRow base e 1 v n xs) (u : Value) (l : List UInt8) (hx : a.eval x = u) (hu : Rd w u l)
    (hbytes : n + l.length ≤ 140737488355328) (hbase : base ≤ w.heap.size)
    (h : ∀ v' w', w'.ownsRow base e 1 v' (n + l.length) (xs ++ l.map bv) → w.grownBy w' v.ownBlock → (v'.ownBlock = v.ownBlock ∨ v'.ownBlock = some w.heap.size) → wpList P ops Q rest (a.put o.dst v') w') : wpList P ops Q (o :: rest) a w := by
  refine wpList_plain hgd fun K hK => ?_
  obtain ⟨v', w', hr, h2, h3, h4⟩ := run_append_bytes (P := P) w base t o.type e i z ht hi hz hsize hby hzs v n xs hown u l hu hbytes hbase
  unfold Oper.wp execOp
  simp only [ho, resolve, invoke, builtin, Sem.run_bind, Sem.run_pure, Result.andThen_ok, List.map_toArray, List.map_cons, List.map_nil, hs, hx, hr]
  exact hK _ _ (h v' w' h2 h3 h4)

/-- a new row out of bytes: 'append(b[:0:0], b...)' -/
theorem run_append_copy {P : Program} (w : World) (t ty e : TypeId) (i : TypeInfo) (z : Value) (ht : P.underlying t = some (.slice e)) (hi : P.info? e = some i) (hz : i.zero = some z)
    (hsize : i.size = 1) (hby : i.bytes = 1) (hzs : z.cells.size = 1) (ao : Option Addr) (x : Value) (l : List UInt8) (hx : Rd w x l) (hbytes : l.length ≤ 140737488355328) :
    ∃ v' w', (Builtin.append_ #[t, t] ty #[.slice ao 0 0, x]).run P w = .ok v' w' ∧ Rd w' v' l ∧ New w w' ∧ (l ≠ [] → w'.ownsRow w.heap.size e 1 v' l.length (l.map bv)) := by
  obtain ⟨a, m, c, rfl, h1, h2, h3, h4, h5⟩ := hx
  cases hl : l with
  | nil =>
    subst hl
    simp only [List.length_nil] at h1
    subst h1
    have hr : (Builtin.append_ #[t, t] ty #[.slice ao 0 0, .slice a 0 c]).run P w = .ok (.slice ao 0 0) w := by
      cases ao <;> cases a <;> simp [Builtin.append_, run_underlying ht, sizeOf, typeInfo, hi, Builtin.lenOf, Builtin.firstCells, storeCells, loadCells, loadCellsFrom]
    exact ⟨_, _, hr, ⟨ao, 0, 0, rfl, rfl, Nat.le_refl _, by simp [maxLen], fun _ => ⟨rfl, rfl⟩, by simp⟩, Below.refl _ _, fun h => absurd rfl h⟩
  | cons b r =>
    rw [← hl]
    cases a with
    | none => have := (h4 rfl).1; rw [this] at h1; rw [hl] at h1; simp at h1
    | some ad =>
      subst h1
      have hpos : 0 < l.length := by rw [hl]; simp
      have hcells : ∀ j u, (l.map bv)[j]? = some u → w.cell? (ad.add j) = some u := fun j u hj => by
        rw [List.getElem?_map] at hj
        cases hb : l[j]? with
        | none => rw [hb] at hj; cases hj
        | some b => rw [hb] at hj; cases hj; exact h5 ad rfl j b hb
      cases ao with
      | some b =>
        obtain ⟨v', w', hrun, r1, r2⟩ := run_append_arg_grows (P := P) w t ty e i z 1 1 ht hi hz hsize hby hzs (by omega) b 0 0 [] rfl (by simp) ad l.length c (l.map bv) (by simp) hcells (by omega) (by simp only [maxLen]; omega) (by omega)
        simp only [Nat.zero_add, List.nil_append] at r1
        exact ⟨v', w', hrun, Rd.of_own r1, Below.grown (Below.refl _ _) r2 (Nat.le_refl _) (by simp), fun _ => r1⟩
      | none =>
        obtain ⟨v', w', hrun, r1, r2, _⟩ := run_append_own (P := P) w w.heap.size t ty e i z 1 1 ht hi hz hsize hby hzs (by omega) (.slice none 0 0) 0 [] (World.ownsRow_nil w _ e 1) ad l.length c (l.map bv) (by simp) hcells (oneCell_bv l) (by simp only [maxLen]; omega) (by omega) (Nat.le_refl _)
        simp only [Nat.zero_add, List.nil_append] at r1
        exact ⟨v', w', hrun, Rd.of_own r1, Below.grown (Below.refl _ _) r2 (Nat.le_refl _) (by simp [Value.ownBlock]), fun _ => r1⟩

theorem wpList_append_copy {P : Program} {w : World} {ops : Array Oper} {rest : List Oper} {o : Oper} {a : Act} {Q : Exit → Act → World → Prop} (hgd : o.guard = none) (s x : Operand) (t : TypeId)
    (ho : o.op = .call { callee := .builtin .append, args := #[s, x], argTypes := #[t, t] })
    (e : TypeId) (i : TypeInfo) (z : Value) (ht : P.underlying t = some (.slice e)) (hi : P.info? e = some i) (hz : i.zero = some z)
    (hsize : i.size = 1) (hby : i.bytes = 1) (hzs : z.cells.size = 1)
    (ao : Option Addr) (hs : a.eval s = .slice ao 0 0) (u : Value) (l : List UInt8) (hx : a.eval x = u) (hu : Rd w u l)
    (hbytes : l.length ≤ 140737488355328)
    (h : ∀ v' w', Rd w' v' l → New w w' → (l ≠ [] → w'.ownsRow w.heap.size e 1 v' l.length (l.map bv)) → wpList P ops Q rest (a.put o.dst v') w') : wpList P ops Q (o :: rest) a w := by
  refine wpList_plain hgd fun K hK => ?_
  obtain ⟨v', w', hr, h2, h3, h4⟩ := run_append_copy (P := P) w t o.type e i z ht hi hz hsize hby hzs ao u l hu hbytes
  unfold Oper.wp execOp
  simp only [ho, resolve, invoke, builtin, Sem.run_bind, Sem.run_pure, Result.andThen_ok, List.map_toArray, List.map_cons, List.map_nil, hs, hx, hr]
  exact hK _ _ (h v' w' h2 h3 h4)

end Go.Proofs.YtoooemlcackepaaDoor
