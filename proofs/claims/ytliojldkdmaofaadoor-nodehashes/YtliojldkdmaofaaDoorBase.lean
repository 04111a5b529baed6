/-
  Plain lemmas on memory, over any program: 'Only F w w'' (of the old blocks those outside F are as they were), 'Rd w v l' (the slice value v reads as the bytes l), what an append onto a row of the call's own does, whatever its source.
  Words of 32 bits: the model's operations on them as UInt32's own.
  Bytes: the model's operations on them as UInt8's own.
  Arrays and rows of bytes in memory: their cells.
  An append as one operation; what it leaves of the old row.
  Slices of slices of bytes, over any program: 'RdV w v vs': the slice value v of one-cell elements holds vs; 'RdL w v ps': its elements read as bytes.
  A region that draws its order, walked in ONE order, given as a plan: over any program. 'S': what every world meets that the region comes to, and what its loads need. An operation that only yields may be taken whenever it may come up; any other must be the only one that may come up.
  A region that draws its order, walked along a tree of plans: where two operations that write may come up, both are walked. Over any program.
  Laws for a walk inside a fence, over any program: an operation whose run is known; a whole array loaded or stored; a copy.
  A range over a function whose iterator writes memory of its own between two rounds, over any program: the rounds are counted; the iterator may turn whatever was laid since the loop began, but the loop's own two blocks; a round may turn the blocks E and lay new ones.
  A row of bytes of the call's own, some stretch of which outside the places still to be written may be frozen (what a conversion of a string leaves): appends onto it. Over any program.
  A struct of two cells: kept in a block of its own, returned from there.
  A block of four cells.
  One value more in an own slice of one-cell elements: what it leaves of the rest.
-/
import Derived.WalkKit
import Derived.WalkSpells
import Derived.WalkLawsBesides
import Derived.Deep.AppendLies
import Derived.Laws.AppendOwnNone
import Derived.Lib.Hide
import Derived.Laws.BytesArg
import Derived.Lib.SlBytesConst
import Derived.Laws.BitsAllLaws
import Derived.Laws.Rows
import Derived.Maps.AppendAt
import Derived.Deep.RegionHeld3
import Derived.OwnWalkIn
import Derived.TacticsInMore
import Derived.LoopNIn
import Derived.LoopIn
import Derived.Laws.CopyOwn
import Derived.OrdersIn
import Derived.RangeFuncCalls
import Derived.Shelf.Abstract
import Derived.RangeFuncNested
import Derived.RangeFuncBound
import Derived.RangeFuncLeaves
import Derived.Lib.FrozenHead2
import Derived.Lib.ConvBytes
namespace Go.Proofs.YtliojldkdmaofaaDoor
set_option linter.unusedVariables false
set_option linter.unusedSimpArgs false
open Go.RowKit

/-- a byte as a value -/
abbrev bv (b : UInt8) : Value := .int .u8 (b.toNat : Int)

/-- Of the blocks that were there, those outside F are as they were. -/
structure Only (F : Nat → Prop) (w w' : World) : Prop where
  os : w'.os = w.os
  tape : w'.tape = w.tape
  output : w'.output = w.output
  size : w.heap.size ≤ w'.heap.size
  block : ∀ k, k < w.heap.size → ¬ F k → w'.heap[k]? = w.heap[k]?

theorem Only.refl (F : Nat → Prop) (w : World) : Only F w w := ⟨rfl, rfl, rfl, Nat.le_refl _, fun _ _ _ => rfl⟩

theorem Only.trans {F G : Nat → Prop} {a b c : World} (h : Only F a b) (k : Only G b c) (hG : ∀ i, i < a.heap.size → G i → F i) : Only F a c :=
  ⟨k.os.trans h.os, k.tape.trans h.tape, k.output.trans h.output, Nat.le_trans h.size k.size, fun i hi hF =>
    (k.block i (Nat.lt_of_lt_of_le hi h.size) (fun g => hF (hG i hi g))).trans (h.block i hi hF)⟩

theorem Only.mono {F G : Nat → Prop} {a b : World} (h : Only F a b) (hG : ∀ i, i < a.heap.size → F i → G i) : Only G a b :=
  ⟨h.os, h.tape, h.output, h.size, fun i hi hF => h.block i hi (fun f => hF (hG i hi f))⟩

theorem Only.drew {F : Nat → Prop} {a w : World} (h : Only F a w) : Only F a w.drew := ⟨h.os, h.tape, h.output, h.size, h.block⟩

theorem Only.alloc {F : Nat → Prop} {a w : World} (h : Only F a w) (o : Obj) : Only F a (w.alloc o) :=
  ⟨h.os, h.tape, h.output, by have := h.size; simp; omega, fun i hi hF => (Below.heap_alloc _ _ _ (by have := h.size; omega)).trans (h.block i hi hF)⟩

theorem Only.setCell {F : Nat → Prop} {a w : World} (h : Only F a w) {p : Addr} (hp : p.block < a.heap.size → F p.block) (u : Value) : Only F a (w.setCell p u) :=
  ⟨h.os, h.tape, h.output, by simpa using h.size, fun i hi hF => (Below.heap_setCell _ _ _ _ (fun e => hF (by subst e; exact hp hi))).trans (h.block i hi hF)⟩

theorem Only.grown {F : Nat → Prop} {a w w' : World} {row : Option Nat} (h : Only F a w) (hg : w.grownBy w' row) (hr : ∀ k, row = some k → k < a.heap.size → F k) : Only F a w' :=
  ⟨hg.os.trans h.os, hg.tape.trans h.tape, hg.output.trans h.output, Nat.le_trans h.size hg.size, fun i hi hF =>
    (hg.block i (Nat.lt_of_lt_of_le hi h.size) (fun e => hF (hr i e.symm hi))).trans (h.block i hi hF)⟩

theorem Only.of_below {B : Nat} {F : Nat → Prop} {a b : World} (h : Below B a b) (hF : ∀ k, B ≤ k → k < a.heap.size → F k) : Only F a b :=
  ⟨h.os, h.tape, h.output, h.size, fun i hi hf => h.block i (by rcases Nat.lt_or_ge i B with h1 | h1; exact h1; exact absurd (hF i h1 hi) hf)⟩

theorem Only.below {B : Nat} {F : Nat → Prop} {a b : World} (h : Only F a b) (hB : B ≤ a.heap.size) (hF : ∀ k, F k → B ≤ k) : Below B a b :=
  ⟨h.os, h.tape, h.output, h.size, fun i hi => h.block i (by omega) (fun f => by have := hF i f; omega)⟩

/-- nothing old has turned -/
abbrev New (w w' : World) : Prop := Below w.heap.size w w'

theorem Only.new {F : Nat → Prop} {a b : World} (h : Only F a b) (hF : ∀ k, F k → a.heap.size ≤ k) : New a b := h.below (Nat.le_refl _) hF

theorem New.only {F : Nat → Prop} {a b : World} (h : New a b) : Only F a b := Only.of_below h (fun k h1 h2 => by omega)

theorem New.trans {a b c : World} (h : New a b) (k : New b c) : New a c := Below.trans h (Below.mono k h.size)

/-- The slice value v reads as the bytes l. -/
def Rd (w : World) (v : Value) (l : List UInt8) : Prop :=
  ∃ a n c, v = .slice a n c ∧ l.length = n ∧ n ≤ c ∧ c ≤ maxLen ∧ (a = none → n = 0 ∧ c = 0) ∧ ∀ ad, a = some ad → ∀ i u, l[i]? = some u → w.cell? (ad.add i) = some (bv u)

theorem Addr.add_block (a : Addr) (n : Nat) : (a.add n).block = a.block := by unfold Addr.add; split <;> rfl

/-- the block of a slice value -/
def blk : Value → Option Nat
  | .slice (some a) _ _ => some a.block
  | _ => none

theorem blk_own (v : Value) : blk v = v.ownBlock := by cases v <;> first | rfl | (rename_i a _ _; cases a <;> rfl)

theorem Rd.of_block {w w' : World} {v : Value} {l : List UInt8} (h : Rd w v l) (hb : ∀ k, blk v = some k → l ≠ [] → w'.heap[k]? = w.heap[k]?) : Rd w' v l := by
  obtain ⟨a, n, c, rfl, h1, h2, h3, h4, h5⟩ := h
  refine ⟨a, n, c, rfl, h1, h2, h3, h4, fun ad had i u hu => ?_⟩
  subst had
  have hne : l ≠ [] := by rintro rfl; simp at hu
  rw [World.cell?_of_block (w := w) (by rw [Addr.add_block]; exact hb _ rfl hne)]
  exact h5 ad rfl i u hu

theorem Rd.lt {w : World} {v : Value} {l : List UInt8} (h : Rd w v l) {k : Nat} (hk : blk v = some k) (hne : l ≠ []) : k < w.heap.size := by
  obtain ⟨a, n, c, rfl, h1, h2, h3, h4, h5⟩ := h
  cases a with
  | none => simp [blk] at hk
  | some ad =>
    simp [blk] at hk; subst hk
    cases l with
    | nil => exact absurd rfl hne
    | cons x r =>
      have := h5 ad rfl 0 x rfl
      have := World.block_lt_of_cell? w _ this
      rwa [Addr.add_block] at this

/-- A slice of bytes reads as it did where its block is outside what was touched. -/
theorem Rd.only {F : Nat → Prop} {w w' : World} {v : Value} {l : List UInt8} (h : Rd w v l) (ho : Only F w w') (hF : ∀ k, blk v = some k → l ≠ [] → ¬ F k) : Rd w' v l :=
  h.of_block fun k hk hne => ho.block k (h.lt hk hne) (hF k hk hne)

theorem Rd.new {w w' : World} {v : Value} {l : List UInt8} (h : Rd w v l) (ho : New w w') : Rd w' v l :=
  h.of_block fun k hk hne => ho.block k (h.lt hk hne)

theorem Rd.drew {w : World} {v : Value} {l : List UInt8} (h : Rd w v l) : Rd w.drew v l := h

theorem Rd.len {w : World} {a : Option Addr} {n c : Nat} {l : List UInt8} (h : Rd w (.slice a n c) l) : l.length = n := by
  obtain ⟨a', n', c', e, h1, _⟩ := h
  simp only [Value.slice.injEq] at e
  omega

theorem Rd.nil (w : World) : Rd w (.slice none 0 0) [] := ⟨none, 0, 0, rfl, rfl, Nat.le_refl _, by simp [maxLen], fun _ => ⟨rfl, rfl⟩, by simp⟩

theorem Rd.cut {w : World} {a : Option Addr} {m c : Nat} {r : List UInt8} (h : Rd w (.slice a m c) r) {k c' : Nat} (hk : k ≤ m) (hc : k ≤ c') (hcc : c' ≤ c) : Rd w (.slice a k c') (r.take k) := by
  obtain ⟨a', m', c'', e, h1, h2, h3, h4, h5⟩ := h
  cases e
  refine ⟨a, k, c', rfl, by rw [List.length_take]; omega, hc, Nat.le_trans hcc h3, fun ha => by have := h4 ha; omega, fun ad had i u hu => h5 ad had i u ?_⟩
  rw [List.getElem?_take] at hu
  split at hu
  · exact hu
  · cases hu

theorem Addr.add_add (a : Addr) (k i : Nat) : (a.add k).add i = a.add (k + i) ∨ (i = 0 ∧ (a.add k).add i = a.add k) := by
  by_cases hi : i = 0
  · right; exact ⟨hi, by simp [Addr.add, hi]⟩
  · left
    unfold Addr.add
    by_cases hk : k = 0
    · simp [hk, hi]
    · simp [hk, hi, Nat.add_assoc]

theorem Rd.rest {w : World} {a : Option Addr} {m c : Nat} {r : List UInt8} (h : Rd w (.slice a m c) r) {k : Nat} (hk : k ≤ m) : Rd w (.slice (a.map (fun x => x.add k)) (m - k) (c - k)) (r.drop k) := by
  obtain ⟨a', m', c'', e, h1, h2, h3, h4, h5⟩ := h
  cases e
  refine ⟨_, _, _, rfl, by rw [List.length_drop]; omega, by omega, by omega, fun ha => ?_, fun ad had i u hu => ?_⟩
  · cases a with
    | none => have := h4 rfl; omega
    | some x => simp at ha
  · cases a with
    | none => simp at had
    | some x =>
      simp at had
      subst had
      rw [List.getElem?_drop] at hu
      rcases Addr.add_add x k i with e | ⟨e0, e⟩
      · rw [e]; exact h5 x rfl _ u hu
      · rw [e]; subst e0; exact h5 x rfl _ u hu

theorem blk_rest (a : Option Addr) (n c n' c' k : Nat) : blk (.slice (a.map (fun x => x.add k)) n c) = blk (.slice a n' c') := by
  cases a with
  | none => rfl
  | some x => simp [blk, Addr.add_block]

theorem blk_slice (a : Option Addr) (n c n' c' : Nat) : blk (.slice a n c) = blk (.slice a n' c') := by cases a <;> rfl

/-- The slice value v of elements of 'size' cells each: the elements' cells. -/
def RdN (w : World) (size : Nat) (v : Value) (css : List (List Value)) : Prop :=
  ∃ a n c, v = .slice a n c ∧ css.length = n ∧ n ≤ c ∧ c ≤ maxLen ∧ (a = none → n = 0 ∧ c = 0) ∧ ∀ ad, a = some ad → ∀ i x, css[i]? = some x → ∀ j u, x[j]? = some u → w.cell? (ad.add (i * size + j)) = some u

theorem RdN.of_block {w w' : World} {size : Nat} {v : Value} {css : List (List Value)} (h : RdN w size v css) (hb : ∀ k, blk v = some k → k < w.heap.size → w'.heap[k]? = w.heap[k]?) : RdN w' size v css := by
  obtain ⟨a, n, c, rfl, h1, h2, h3, h4, h5⟩ := h
  refine ⟨a, n, c, rfl, h1, h2, h3, h4, fun ad had i x hx j u hu => ?_⟩
  subst had
  have h6 := h5 ad rfl i x hx j u hu
  have hlt := World.block_lt_of_cell? w _ h6
  rw [Addr.add_block] at hlt
  rw [World.cell?_of_block (w := w) (by rw [Addr.add_block]; exact hb _ rfl hlt)]
  exact h6

theorem RdN.new {w w' : World} {size : Nat} {v : Value} {css : List (List Value)} (h : RdN w size v css) (ho : New w w') : RdN w' size v css := h.of_block fun k _ hlt => ho.block k hlt

/-- the cell of an element, at the address as a walk has it -/
theorem RdN.cell {w : World} {size : Nat} {a : Option Addr} {n c : Nat} {css : List (List Value)} (h : RdN w size (.slice a n c) css) (h0 : ∀ x, x ∈ css → x ≠ []) (hn : 0 < n) :
    ∃ b off, a = some ⟨b, off, none⟩ ∧ ∀ i x, css[i]? = some x → ∀ j u, x[j]? = some u → w.cell? ⟨b, off + (i * size + j), none⟩ = some u := by
  obtain ⟨a', n', c', e, h1, h2, h3, h4, h5⟩ := h
  cases e
  cases a with
  | none => have := (h4 rfl).1; omega
  | some ad =>
    obtain ⟨b, off, spot⟩ := ad
    have hs : spot = none := by
      cases css with
      | nil => simp at h1; omega
      | cons x r =>
        cases hx : x with
        | nil => exact absurd hx (h0 x (by simp))
        | cons u y =>
          have := h5 _ rfl 0 x rfl 0 u (by rw [hx]; rfl)
          simp only [Nat.zero_mul, Nat.add_zero, Addr.add, if_pos] at this
          unfold World.cell? at this
          split at this
          · cases spot with
            | none => rfl
            | some _ => simp at this
          · cases this
    subst hs
    refine ⟨b, off, rfl, fun i x hx j u hu => ?_⟩
    have := h5 _ rfl i x hx j u hu
    rwa [Addr.add_lit] at this

theorem oneCell_bv (l : List UInt8) : ∀ u ∈ l.map bv, u.oneCell' = true := by
  intro u hu
  obtain ⟨b, _, rfl⟩ := List.mem_map.1 hu
  rfl

/-- What is owned as bytes reads as these bytes. -/
theorem Rd.of_own {w : World} {base : Nat} {e : TypeId} {v : Value} {l : List UInt8} (h : w.ownsRow base e 1 v l.length (l.map bv)) : Rd w v l := by
  rcases h.2 with ⟨rfl, h0⟩ | ⟨g, cap, cur, rfl, hb, hg, hnc, hcm, hcs, htake⟩
  · obtain rfl : l = [] := List.eq_nil_of_length_eq_zero h0
    exact Rd.nil w
  · refine ⟨_, _, _, rfl, rfl, hnc, hcm, (fun h => by cases h), fun ad had i u hu => ?_⟩
    cases had
    exact h.cells (g := g) rfl i (bv u) (by rw [List.getElem?_map, hu]; rfl)

/-- a new block that holds bytes -/
theorem Rd.made (w : World) (l : List UInt8) (e : TypeId) (fr : Nat × Nat) (hl : l.length ≤ 9223372036854775807) : Rd (w.alloc (.cells (l.map bv).toArray e fr)) (.slice (some ⟨w.heap.size, 0, none⟩) l.length l.length) l := by
  refine ⟨_, _, _, rfl, rfl, Nat.le_refl _, by simpa [maxLen] using hl, (fun h => by cases h), fun ad had i u hu => ?_⟩
  cases had
  rw [World.news_of_block (heap_alloc_new w _) i (bv u) (by simp [hu])]

/-- bytes as a string -/
def bstr (l : List UInt8) : ByteArray := ⟨l.toArray⟩

theorem bstr_toList (l : List UInt8) : (bstr l).data.toList = l := by simp [bstr]

theorem bstr_list (l : List UInt8) : (bstr l).toList = l := ByteArray.toList_mk l
theorem bstr_size (l : List UInt8) : (bstr l).size = l.length := by simp [bstr, ByteArray.size]

/-- string(b) -/
theorem run_str {P : Program} {w : World} {src dst e : TypeId} (hs : P.underlying src = some (.slice e)) (he : P.underlying e = some (.int .u8)) (hd : P.underlying dst = some .string) {v : Value} {l : List UInt8} (h : Rd w v l) :
    (convert src dst v).run P w = .ok (.string (bstr l)) w := by
  obtain ⟨a, n, c, rfl, h1, h2, h3, h4, h5⟩ := h
  cases a with
  | none =>
    have := (h4 rfl).1
    subst this
    obtain rfl : l = [] := List.eq_nil_of_length_eq_zero h1
    exact run_convert_bytes_nil w src e hs he 0 c dst hd
  | some ad =>
    subst h1
    have hl : (loadCells ad l.length).run P w = .ok ((l.map fun b => (b.toNat : Int)).map (Value.int .u8)).toArray w := by
      have := run_loadCells_list (P := P) w ad (l.map bv) (fun j v hj => by
        rw [List.getElem?_map] at hj
        cases hb : l[j]? with
        | none => rw [hb] at hj; cases hj
        | some b => rw [hb] at hj; cases hj; exact h5 ad rfl j b hb)
      rw [List.length_map] at this
      rw [List.map_map]
      exact this
    rw [run_convert_bytes_string w src dst e _ _ c hs he hd, run_bytesToString w ad l.length c _ hl, foldl_push_bytes]
    have e : List.map ((fun n : Int => UInt8.ofNat n.toNat) ∘ fun b : UInt8 => (b.toNat : Int)) l = l := by
      conv => rhs; rw [← List.map_id l]
      exact List.map_congr_left fun b _ => by simp
    simp [bstr, ByteArray.empty, ByteArray.emptyWithCapacity]
    exact e

/-- APPEND ONTO A ROW OF ONE's OWN, whatever the source (nil too). -/
theorem run_append_bytes {P : Program} (w : World) (base : Nat) (t ty e : TypeId) (i : TypeInfo) (z : Value) (ht : P.underlying t = some (.slice e)) (hi : P.info? e = some i) (hz : i.zero = some z)
    (hsize : i.size = 1) (hby : i.bytes = 1) (hzs : z.cells.size = 1)
    (v : Value) (n : Nat) (xs : List Value) (hown : w.ownsRow base e 1 v n xs) (x : Value) (l : List UInt8) (hx : Rd w x l)
    (hbytes : n + l.length ≤ 140737488355328) (hbase : base ≤ w.heap.size) :
    ∃ v' w', (Builtin.append_ #[t, t] ty #[v, x]).run P w = .ok v' w' ∧ w'.ownsRow base e 1 v' (n + l.length) (xs ++ l.map bv) ∧ w.grownBy w' v.ownBlock ∧
      (v'.ownBlock = v.ownBlock ∨ v'.ownBlock = some w.heap.size) := by
  obtain ⟨a, m, c, rfl, h1, h2, h3, h4, h5⟩ := hx
  cases a with
  | none =>
    obtain ⟨rfl, rfl⟩ := h4 rfl
    obtain rfl : l = [] := List.eq_nil_of_length_eq_zero h1
    have hrun := run_append_owned_none (P := P) (w := w) base t ty e i 1 ht hi v n xs hown
    exact ⟨v, w, hrun, by simpa using hown, ⟨rfl, rfl, rfl, Nat.le_refl _, fun _ _ _ => rfl⟩, .inl rfl⟩
  | some ad =>
    subst h1
    obtain ⟨v', w', hr, r2, r3, _, r5⟩ := run_append_own_at (P := P) w base t ty e i z 1 1 ht hi hz hsize hby hzs (by omega) v n xs hown ad l.length c (l.map bv) (by simp)
      (fun j u hj => by
        rw [List.getElem?_map] at hj
        cases hb : l[j]? with
        | none => rw [hb] at hj; cases hj
        | some b => rw [hb] at hj; cases hj; exact h5 ad rfl j b hb) (oneCell_bv l) (by simp only [maxLen]; omega) (by omega) hbase
    exact ⟨v', w', hr, r2, r3, r5⟩

/-- the same, for the walk -/
theorem wpList_append_bytes {P : Program} {w : World} {ops : Array Oper} {rest : List Oper} {o : Oper} {a : Act} {Q : Exit → Act → World → Prop} (hgd : o.guard = none) (s x : Operand) (t : TypeId)
    (ho : o.op = .call { callee := .builtin .append, args := #[s, x], argTypes := #[t, t] })
    (base : Nat) (e : TypeId) (i : TypeInfo) (z : Value) (ht : P.underlying t = some (.slice e)) (hi : P.info? e = some i) (hz : i.zero = some z)
    (hsize : i.size = 1) (hby : i.bytes = 1) (hzs : z.cells.size = 1)
    (v : Value) (n : Nat) (xs : List Value) (hs : a.eval s = v) (hown : w.ownsRow base e 1 v n xs) (u : Value) (l : List UInt8) (hx : a.eval x = u) (hu : Rd w u l)
    (hbytes : n + l.length ≤ 140737488355328) (hbase : base ≤ w.heap.size)
    (h : ∀ v' w', w'.ownsRow base e 1 v' (n + l.length) (xs ++ l.map bv) → w.grownBy w' v.ownBlock → (v'.ownBlock = v.ownBlock ∨ v'.ownBlock = some w.heap.size) → wpList P ops Q rest (a.put o.dst v') w') : wpList P ops Q (o :: rest) a w := by
  refine wpList_plain hgd fun K hK => ?_
  obtain ⟨v', w', hr, h2, h3, h4⟩ := run_append_bytes (P := P) w base t o.type e i z ht hi hz hsize hby hzs v n xs hown u l hu hbytes hbase
  unfold Oper.wp execOp
  simp only [ho, resolve, invoke, builtin, Sem.run_bind, Sem.run_pure, Result.andThen_ok, List.map_toArray, List.map_cons, List.map_nil, hs, hx, hr]
  exact hK _ _ (h v' w' h2 h3 h4)

/-- a new row out of bytes: 'append(b[:0:0], b...)' -/
theorem run_append_copy {P : Program} (w : World) (t ty e : TypeId) (i : TypeInfo) (z : Value) (ht : P.underlying t = some (.slice e)) (hi : P.info? e = some i) (hz : i.zero = some z)
    (hsize : i.size = 1) (hby : i.bytes = 1) (hzs : z.cells.size = 1) (ao : Option Addr) (x : Value) (l : List UInt8) (hx : Rd w x l) (hbytes : l.length ≤ 140737488355328) :
    ∃ v' w', (Builtin.append_ #[t, t] ty #[.slice ao 0 0, x]).run P w = .ok v' w' ∧ Rd w' v' l ∧ New w w' ∧ (l ≠ [] → w'.ownsRow w.heap.size e 1 v' l.length (l.map bv)) := by
  obtain ⟨a, m, c, rfl, h1, h2, h3, h4, h5⟩ := hx
  cases hl : l with
  | nil =>
    subst hl
    simp only [List.length_nil] at h1
    subst h1
    have hr : (Builtin.append_ #[t, t] ty #[.slice ao 0 0, .slice a 0 c]).run P w = .ok (.slice ao 0 0) w := by
      cases ao <;> cases a <;> simp [Builtin.append_, run_underlying ht, sizeOf, typeInfo, hi, Builtin.lenOf, Builtin.firstCells, storeCells, loadCells, loadCellsFrom]
    exact ⟨_, _, hr, ⟨ao, 0, 0, rfl, rfl, Nat.le_refl _, by simp [maxLen], fun _ => ⟨rfl, rfl⟩, by simp⟩, Below.refl _ _, fun h => absurd rfl h⟩
  | cons b r =>
    rw [← hl]
    cases a with
    | none => have := (h4 rfl).1; rw [this] at h1; rw [hl] at h1; simp at h1
    | some ad =>
      subst h1
      have hpos : 0 < l.length := by rw [hl]; simp
      have hcells : ∀ j u, (l.map bv)[j]? = some u → w.cell? (ad.add j) = some u := fun j u hj => by
        rw [List.getElem?_map] at hj
        cases hb : l[j]? with
        | none => rw [hb] at hj; cases hj
        | some b => rw [hb] at hj; cases hj; exact h5 ad rfl j b hb
      cases ao with
      | some b =>
        obtain ⟨v', w', hrun, r1, r2⟩ := run_append_arg_grows (P := P) w t ty e i z 1 1 ht hi hz hsize hby hzs (by omega) b 0 0 [] rfl (by simp) ad l.length c (l.map bv) (by simp) hcells (by omega) (by simp only [maxLen]; omega) (by omega)
        simp only [Nat.zero_add, List.nil_append] at r1
        exact ⟨v', w', hrun, Rd.of_own r1, Below.grown (Below.refl _ _) r2 (Nat.le_refl _) (by simp), fun _ => r1⟩
      | none =>
        obtain ⟨v', w', hrun, r1, r2, _⟩ := run_append_own (P := P) w w.heap.size t ty e i z 1 1 ht hi hz hsize hby hzs (by omega) (.slice none 0 0) 0 [] (World.ownsRow_nil w _ e 1) ad l.length c (l.map bv) (by simp) hcells (oneCell_bv l) (by simp only [maxLen]; omega) (by omega) (Nat.le_refl _)
        simp only [Nat.zero_add, List.nil_append] at r1
        exact ⟨v', w', hrun, Rd.of_own r1, Below.grown (Below.refl _ _) r2 (Nat.le_refl _) (by simp [Value.ownBlock]), fun _ => r1⟩

theorem wpList_append_copy {P : Program} {w : World} {ops : Array Oper} {rest : List Oper} {o : Oper} {a : Act} {Q : Exit → Act → World → Prop} (hgd : o.guard = none) (s x : Operand) (t : TypeId)
    (ho : o.op = .call { callee := .builtin .append, args := #[s, x], argTypes := #[t, t] })
    (e : TypeId) (i : TypeInfo) (z : Value) (ht : P.underlying t = some (.slice e)) (hi : P.info? e = some i) (hz : i.zero = some z)
    (hsize : i.size = 1) (hby : i.bytes = 1) (hzs : z.cells.size = 1)
    (ao : Option Addr) (hs : a.eval s = .slice ao 0 0) (u : Value) (l : List UInt8) (hx : a.eval x = u) (hu : Rd w u l)
    (hbytes : l.length ≤ 140737488355328)
    (h : ∀ v' w', Rd w' v' l → New w w' → (l ≠ [] → w'.ownsRow w.heap.size e 1 v' l.length (l.map bv)) → wpList P ops Q rest (a.put o.dst v') w') : wpList P ops Q (o :: rest) a w := by
  refine wpList_plain hgd fun K hK => ?_
  obtain ⟨v', w', hr, h2, h3, h4⟩ := run_append_copy (P := P) w t o.type e i z ht hi hz hsize hby hzs ao u l hu hbytes
  unfold Oper.wp execOp
  simp only [ho, resolve, invoke, builtin, Sem.run_bind, Sem.run_pure, Result.andThen_ok, List.map_toArray, List.map_cons, List.map_nil, hs, hx, hr]
  exact hK _ _ (h v' w' h2 h3 h4)

end Go.Proofs.YtliojldkdmaofaaDoor

namespace Go.Proofs.YtliojldkdmaofaaDoor
set_option linter.unusedVariables false
set_option linter.unusedSimpArgs false
open Go.RowKit

/-- a word as a value -/
abbrev wv (x : UInt32) : Value := .int .u32 (x.toNat : Int)

theorem u32_lt (x : UInt32) : x.toNat < 4294967296 := x.toNat_lt

/-- sum, xor, and, complement (names of our own: simp takes UInt32's apart) -/
def wadd (x y : UInt32) : UInt32 := x + y
def wxor (x y : UInt32) : UInt32 := x ^^^ y
def wand (x y : UInt32) : UInt32 := x &&& y
def wnot (x : UInt32) : UInt32 := ~~~x

theorem u32_add (x y : UInt32) : IntKind.u32.wrap ((x.toNat : Int) + (y.toNat : Int)) = ((wadd x y).toNat : Int) := by
  unfold wadd; rw [IntKind.wrap_u32', UInt32.toNat_add]; omega

theorem u32_add' (x y : UInt32) : ((x.toNat : Int) + (y.toNat : Int)) % 4294967296 = ((wadd x y).toNat : Int) := by
  have h := u32_add x y
  rwa [IntKind.wrap_u32'] at h

theorem u32_bxor (x y : UInt32) : bits .xor .u32 (x.toNat : Int) (y.toNat : Int) = ((wxor x y).toNat : Int) := by
  unfold wxor; rw [u32_xor_nat _ _ (u32_lt x) (u32_lt y), UInt32.toNat_xor]

theorem u32_band (x y : UInt32) : bits .and .u32 (x.toNat : Int) (y.toNat : Int) = ((wand x y).toNat : Int) := by
  unfold wand; rw [u32_and_nat _ _ (u32_lt x) (u32_lt y), UInt32.toNat_and]

theorem u32_bnot (x : UInt32) : bits .xor .u32 (if IntKind.u32.signed = true then -1 else IntKind.u32.max) (x.toNat : Int) = ((wnot x).toNat : Int) := by
  have e : (if IntKind.u32.signed = true then -1 else IntKind.u32.max : Int) = ((4294967295 : UInt32).toNat : Int) := by decide
  rw [e, u32_bxor]
  unfold wxor wnot
  have : (4294967295 : UInt32) ^^^ x = ~~~x := by
    rw [show (4294967295 : UInt32) = -1 by decide, UInt32.neg_one_xor]
  rw [this]

/-- x turned right by n bits -/
def rotr (x : UInt32) (n : Nat) : UInt32 := UInt32.ofNat (x.toNat / 2 ^ n ||| x.toNat * 2 ^ (32 - n) % 4294967296)

/-- x shifted right by n bits -/
def shr (x : UInt32) (n : Nat) : UInt32 := UInt32.ofNat (x.toNat / 2 ^ n)

theorem shr_toNat (x : UInt32) (n : Nat) : (shr x n).toNat = x.toNat / 2 ^ n := by
  unfold shr
  rw [UInt32.toNat_ofNat_of_lt']
  exact Nat.lt_of_le_of_lt (Nat.div_le_self _ _) (u32_lt x)

theorem rotr_toNat (x : UInt32) (n : Nat) : (rotr x n).toNat = (x.toNat / 2 ^ n ||| x.toNat * 2 ^ (32 - n) % 4294967296) := by
  unfold rotr
  rw [UInt32.toNat_ofNat_of_lt']
  exact Nat.or_lt_two_pow (n := 32) (Nat.lt_of_le_of_lt (Nat.div_le_self _ _) (u32_lt x)) (Nat.mod_lt _ (by decide))

theorem shr3_of (x : UInt32) : (x.toNat : Int) / 8 = ((shr x 3).toNat : Int) := by rw [shr_toNat]; omega
theorem shr10_of (x : UInt32) : (x.toNat : Int) / 1024 = ((shr x 10).toNat : Int) := by rw [shr_toNat]; omega

end Go.Proofs.YtliojldkdmaofaaDoor

namespace Go.Proofs.YtliojldkdmaofaaDoor
set_option linter.unusedVariables false
set_option linter.unusedSimpArgs false
open Go.RowKit

/-- bytes: xor, or (names of our own: simp takes UInt8's apart) -/
def bxor (x y : UInt8) : UInt8 := x ^^^ y
def bor (x y : UInt8) : UInt8 := x ||| y

theorem u8_lt (x : UInt8) : x.toNat < 256 := x.toNat_lt

theorem u8_bxor (x y : UInt8) : bits .xor .u8 (x.toNat : Int) (y.toNat : Int) = ((bxor x y).toNat : Int) := by
  unfold bxor; rw [u8_xor_nat _ _ (u8_lt x) (u8_lt y), UInt8.toNat_xor]

theorem u8_bor (x y : UInt8) : bits .or .u8 (x.toNat : Int) (y.toNat : Int) = ((bor x y).toNat : Int) := by
  unfold bor; rw [u8_or_nat _ _ (u8_lt x) (u8_lt y), UInt8.toNat_or]

end Go.Proofs.YtliojldkdmaofaaDoor

namespace Go.Proofs.YtliojldkdmaofaaDoor
set_option linter.unusedVariables false
set_option linter.unusedSimpArgs false
open Go.RowKit

theorem byte_cell {wr : World} {p : Nat} {b : List UInt8} {i : Nat} {t : TypeId} (h : wr.heap[p]? = some (.cells (b.map bv).toArray t)) (hi : i < b.length) : wr.cell? ⟨p, i, none⟩ = some (bv (b.getD i 0)) := by
  rw [cell_of_row _ _ _ _ _ _ h, List.getElem?_toArray, List.getElem?_map, List.getD_eq_getElem?_getD, List.getElem?_eq_getElem hi]
  rfl

theorem heap_old (w : World) (o : Obj) (i : Nat) (h : i < w.heap.size) : (w.alloc o).heap[i]? = w.heap[i]? := by
  show (w.heap.push o)[i]? = w.heap[i]?
  rw [Array.getElem?_push, if_neg (Nat.ne_of_lt h)]
theorem heap_new (w : World) (o : Obj) (i : Nat) (h : i = w.heap.size) : (w.alloc o).heap[i]? = some o := by
  subst h
  exact heap_alloc_new w o
theorem alloc3_0 (w : World) (A B C : Obj) : (((w.alloc A).alloc B).alloc C).heap[w.heap.size]? = some A := by
  rw [heap_old _ _ _ (by simp; omega), heap_old _ _ _ (by simp), heap_new _ _ _ rfl]
theorem alloc3_1 (w : World) (A B C : Obj) : (((w.alloc A).alloc B).alloc C).heap[w.heap.size + 1]? = some B := by
  rw [heap_old _ _ _ (by simp), heap_new _ _ _ (by simp)]
theorem alloc3_2 (w : World) (A B C : Obj) : (((w.alloc A).alloc B).alloc C).heap[w.heap.size + 1 + 1]? = some C := by
  rw [heap_new _ _ _ (by simp)]

theorem rd_of_row {w : World} {g : Nat} {l : List UInt8} {t : TypeId} {fr : Nat × Nat} (h : w.heap[g]? = some (.cells (l.map bv).toArray t fr)) (hl : l.length ≤ 9223372036854775807) : Rd w (.slice (some ⟨g, 0, none⟩) l.length l.length) l := by
  refine ⟨_, _, _, rfl, rfl, Nat.le_refl _, by simpa [maxLen] using hl, (fun h => by cases h), fun ad had i u hu => ?_⟩
  cases had
  rw [show (⟨g, 0, none⟩ : Addr).add i = ⟨g, i, none⟩ by unfold Addr.add; split <;> simp_all, cell_of_row _ _ _ _ _ _ h, List.getElem?_toArray, List.getElem?_map, hu]
  rfl

theorem allOneB (l : List UInt8) : ((l.map bv).toArray).all (·.oneCell') = true := by
  simp [Value.oneCell']

end Go.Proofs.YtliojldkdmaofaaDoor

namespace Go.Proofs.YtliojldkdmaofaaDoor
set_option linter.unusedVariables false
set_option linter.unusedSimpArgs false
open Go.RowKit

/-- an append whose run is known, as one operation -/
theorem oper_append2 {P : Program} {o : Oper} {a : Act} {w : World} {K : Act → World → Prop} {Q : Exit → Act → World → Prop} (s x : Operand) (t t2 : TypeId) (ho : o.op = .call { callee := .builtin .append, args := #[s, x], argTypes := #[t, t2] })
    (vs vx : Value) (hs : a.eval s = vs) (hx : a.eval x = vx) {v' : Value} {w' : World} (hr : (Builtin.append_ #[t, t2] o.type #[vs, vx]).run P w = .ok v' w') (h : K (a.put o.dst v') w') : o.wp P a w K Q := by
  unfold Oper.wp execOp
  simp only [ho, resolve, invoke, builtin, Sem.run_bind, Sem.run_pure, Result.andThen_ok, List.map_toArray, List.map_cons, List.map_nil, hs, hx, hr]
  exact h

/-- an append onto a row of one's own: the cells of the old row are there still -/
theorem run_append_keep {P : Program} (w : World) (base : Nat) (t ty e : TypeId) (i : TypeInfo) (z : Value) (bytes : Nat) (ht : P.underlying t = some (.slice e)) (hi : P.info? e = some i) (hz : i.zero = some z)
    (hsize : i.size = 1) (hby : i.bytes = bytes) (hzs : z.cells.size = 1) (g n cap : Nat) (xs : List Value) (hown : w.ownsRow base e 1 (.slice (some ⟨g, 0, none⟩) n cap) n xs)
    (a : Addr) (m c : Nat) (news : List Value) (hl : news.length = m) (hnews : ∀ j u, news[j]? = some u → w.cell? (a.add j) = some u) (h1 : ∀ u ∈ news, u.oneCell' = true)
    (h63 : n + m ≤ maxLen) (hbytes : (n + m) * bytes ≤ 140737488355328) (hbase : base ≤ w.heap.size) :
    ∃ v' w', (Builtin.append_ #[t, t] ty #[.slice (some ⟨g, 0, none⟩) n cap, .slice (some a) m c]).run P w = .ok v' w' ∧ w'.ownsRow base e 1 v' (n + m) (xs ++ news) ∧ w.grownBy w' (some g) ∧
      (v'.ownBlock = some g ∨ v'.ownBlock = some w.heap.size) ∧ ∀ j u, xs[j]? = some u → w'.cell? ⟨g, j, none⟩ = some u := by
  obtain ⟨v', w', hr, h2, h3, _, h5⟩ := run_append_own_at (P := P) w base t ty e i z 1 bytes ht hi hz hsize hby hzs (by decide) _ n xs hown a m c news (by rw [hl, Nat.mul_one]) hnews h1 h63 hbytes hbase
  refine ⟨v', w', hr, h2, h3, h5, fun j u hj => ?_⟩
  have hxl : xs.length = n := by have := hown.1; omega
  have hlt : j < xs.length := (List.getElem?_eq_some_iff.1 hj).1
  rcases hown.2 with ⟨h, _⟩ | ⟨g', cap', cur, e', hbg, hg, hnc, hcm, hcs, htake⟩
  · cases h
  · cases e'
    by_cases hroom : n + m ≤ cap
    · have hr2 := run_append_room (P := P) w t ty e i ht hi g n cap cur hg a m c news (by rw [hl, hsize, Nat.mul_one]) hnews h1 hroom (by rw [hl, hsize]; omega)
      rw [hr2] at hr
      cases hr
      have h6 := h2.cells (g := g) rfl j u (by rw [List.getElem?_append_left hlt]; exact hj)
      rwa [Addr.add_lit, Nat.zero_add] at h6
    · have h6 := hown.cells (g := g) rfl j u hj
      rw [Addr.add_lit, Nat.zero_add] at h6
      have hsmall : n + m ≤ 9223372036854775807 := by simp only [maxLen] at h63; omega
      have hr2 := run_append_grow (P := P) w t ty e i z ht hi hz ⟨g, 0, none⟩ n cap xs (by rw [hsize]; exact hown.1) (hown.cells (g := g) rfl) a m c news (by rw [hl, hsize, Nat.mul_one]) hnews (by omega) (by omega) (growslice_fits (by omega) (by rw [hby]; exact hbytes))
      rw [hr2] at hr
      cases hr
      have hbl := World.block_lt_of_cell? w _ h6
      rw [World.cell?_of_block (w := w) (show (World.alloc w.drew _).heap[g]? = w.heap[g]? from (Below.heap_alloc w.drew _ g hbl))]
      exact h6

end Go.Proofs.YtliojldkdmaofaaDoor

namespace Go.Proofs.YtliojldkdmaofaaDoor
set_option linter.unusedVariables false
set_option linter.unusedSimpArgs false
open Go.RowKit

/-- The slice value v of elements of one cell each holds vs. -/
def RdV (w : World) (v : Value) (vs : List Value) : Prop :=
  ∃ a n c, v = .slice a n c ∧ vs.length = n ∧ n ≤ c ∧ c ≤ maxLen ∧ (a = none → n = 0 ∧ c = 0) ∧ ∀ ad, a = some ad → ∀ i u, vs[i]? = some u → w.cell? (ad.add i) = some u

theorem RdV.of_block {w w' : World} {v : Value} {vs : List Value} (h : RdV w v vs) (hb : ∀ k, blk v = some k → k < w.heap.size → w'.heap[k]? = w.heap[k]?) : RdV w' v vs := by
  obtain ⟨a, n, c, rfl, h1, h2, h3, h4, h5⟩ := h
  refine ⟨a, n, c, rfl, h1, h2, h3, h4, fun ad had i u hu => ?_⟩
  subst had
  have h6 := h5 ad rfl i u hu
  have hlt := World.block_lt_of_cell? w _ h6
  rw [Addr.add_block] at hlt
  rw [World.cell?_of_block (w := w) (by rw [Addr.add_block]; exact hb _ rfl hlt)]
  exact h6

theorem RdV.lt {w : World} {v : Value} {vs : List Value} (h : RdV w v vs) {k : Nat} (hk : blk v = some k) (hne : vs ≠ []) : k < w.heap.size := by
  obtain ⟨a, n, c, rfl, h1, h2, h3, h4, h5⟩ := h
  cases a with
  | none => simp [blk] at hk
  | some ad =>
    simp [blk] at hk; subst hk
    cases vs with
    | nil => exact absurd rfl hne
    | cons x r =>
      have := h5 ad rfl 0 x rfl
      have := World.block_lt_of_cell? w _ this
      rwa [Addr.add_block] at this

theorem RdV.only {F : Nat → Prop} {w w' : World} {v : Value} {vs : List Value} (h : RdV w v vs) (ho : Only F w w') (hF : ∀ k, blk v = some k → vs ≠ [] → ¬ F k) : RdV w' v vs := by
  by_cases e : vs = []
  · subst e
    obtain ⟨a, n, c, rfl, h1, h2, h3, h4, h5⟩ := h
    exact ⟨a, n, c, rfl, h1, h2, h3, h4, by simp⟩
  · exact h.of_block fun k hk hlt => ho.block k hlt (hF k hk e)

theorem RdV.new {w w' : World} {v : Value} {vs : List Value} (h : RdV w v vs) (ho : New w w') : RdV w' v vs := h.of_block fun k _ hlt => ho.block k hlt

theorem RdV.nil (w : World) : RdV w (.slice none 0 0) [] := ⟨none, 0, 0, rfl, rfl, Nat.le_refl _, by simp [maxLen], fun _ => ⟨rfl, rfl⟩, by simp⟩

/-- the cell of an element, at the address as a walk has it -/
theorem RdV.cell {w : World} {a : Option Addr} {n c : Nat} {vs : List Value} (h : RdV w (.slice a n c) vs) (hn : 0 < n) :
    ∃ b off, a = some ⟨b, off, none⟩ ∧ ∀ i u, vs[i]? = some u → w.cell? ⟨b, off + i, none⟩ = some u := by
  obtain ⟨a', n', c', e, h1, h2, h3, h4, h5⟩ := h
  cases e
  cases a with
  | none => have := (h4 rfl).1; omega
  | some ad =>
    obtain ⟨b, off, spot⟩ := ad
    have hs : spot = none := by
      cases vs with
      | nil => simp at h1; omega
      | cons x r =>
        have := h5 _ rfl 0 x rfl
        simp only [Addr.add, if_pos] at this
        unfold World.cell? at this
        split at this
        · cases spot with
          | none => rfl
          | some _ => simp at this
        · cases this
    subst hs
    refine ⟨b, off, rfl, fun i u hu => ?_⟩
    have := h5 _ rfl i u hu
    rwa [Addr.add_lit] at this

theorem RdV.of_own {w : World} {base : Nat} {e : TypeId} {v : Value} {vs : List Value} {n : Nat} (h : w.ownsRow base e 1 v n vs) : RdV w v vs := by
  have hl := h.1
  rw [Nat.mul_one] at hl
  rcases h.2 with ⟨rfl, h0⟩ | ⟨g, cap, cur, rfl, hb, hg, hnc, hcm, hcs, htake⟩
  · rw [h0] at hl
    obtain rfl : vs = [] := List.eq_nil_of_length_eq_zero hl
    exact RdV.nil w
  · refine ⟨_, _, _, rfl, hl, hnc, hcm, (fun h => by cases h), fun ad had i u hu => ?_⟩
    cases had
    exact h.cells (g := g) rfl i u hu

/-- a new block that holds these values -/
theorem RdV.made (w : World) (vs : List Value) (e : TypeId) (fr : Nat × Nat) (hl : vs.length ≤ 9223372036854775807) : RdV (w.alloc (.cells vs.toArray e fr)) (.slice (some ⟨w.heap.size, 0, none⟩) vs.length vs.length) vs := by
  refine ⟨_, _, _, rfl, rfl, Nat.le_refl _, by simpa [maxLen] using hl, (fun h => by cases h), fun ad had i u hu => ?_⟩
  cases had
  rw [World.news_of_block (heap_alloc_new w _) i u (by simp [hu])]

/-- The slice of slices v: its elements, each with the bytes that it reads as. -/
def RdL (w : World) (v : Value) (ps : List (Value × List UInt8)) : Prop := RdV w v (ps.map (·.1)) ∧ ∀ p ∈ ps, Rd w p.1 p.2

theorem RdL.new {w w' : World} {v : Value} {ps : List (Value × List UInt8)} (h : RdL w v ps) (ho : New w w') : RdL w' v ps := ⟨h.1.new ho, fun p hp => (h.2 p hp).new ho⟩

theorem RdL.only {F : Nat → Prop} {w w' : World} {v : Value} {ps : List (Value × List UInt8)} (h : RdL w v ps) (ho : Only F w w') (h1 : ∀ k, blk v = some k → ps ≠ [] → ¬ F k) (h2 : ∀ p ∈ ps, ∀ k, blk p.1 = some k → p.2 ≠ [] → ¬ F k) : RdL w' v ps :=
  ⟨h.1.only ho (fun k hk hne => h1 k hk (fun e => hne (by rw [e]; rfl))), fun p hp => (h.2 p hp).only ho (h2 p hp)⟩

/-- all bytes of the parts -/
def allOf (ps : List (Value × List UInt8)) : List UInt8 := ps.flatMap (·.2)

theorem allOf_append (a b : List (Value × List UInt8)) : allOf (a ++ b) = allOf a ++ allOf b := by simp [allOf]

theorem allOf_take (ps : List (Value × List UInt8)) (k : Nat) (p : Value × List UInt8) (h : ps[k]? = some p) : allOf (ps.take (k + 1)) = allOf (ps.take k) ++ p.2 := by
  rw [List.take_add_one, h, allOf_append]
  simp [allOf]

theorem allOf_take_le (ps : List (Value × List UInt8)) (k : Nat) : (allOf (ps.take k)).length ≤ (allOf ps).length := by
  have h : allOf ps = allOf (ps.take k) ++ allOf (ps.drop k) := by rw [← allOf_append, List.take_append_drop]
  rw [h, List.length_append]; omega

theorem own_from {w : World} {base : Nat} {e : TypeId} {size : Nat} {v : Value} {n : Nat} {xs : List Value} (h : w.ownsRow base e size v n xs) : ∀ k, blk v = some k → base ≤ k := by
  intro k hk
  rcases h.2 with ⟨rfl, _⟩ | ⟨g, cap, cur, rfl, hb, _⟩
  · simp [blk] at hk
  · simp [blk] at hk; omega

/-- append(v[:n:n], x) where x is one value -/
theorem run_append_one {P : Program} (w : World) (t ty e : TypeId) (i : TypeInfo) (z : Value) (bytes : Nat) (ht : P.underlying t = some (.slice e)) (hi : P.info? e = some i) (hz : i.zero = some z)
    (hsize : i.size = 1) (hby : i.bytes = bytes) (hzs : z.cells.size = 1) (a : Option Addr) (n c : Nat) (vs : List Value) (h : RdV w (.slice a n c) vs) (x : Addr) (u : Value) (hx : w.cell? x = some u) (hu : u.oneCell' = true) (hbytes : (n + 1) * bytes ≤ 140737488355328) (hn : n + 1 ≤ 9223372036854775807) :
    ∃ v' w', (Builtin.append_ #[t, t] ty #[.slice a n n, .slice (some x) 1 1]).run P w = .ok v' w' ∧ RdV w' v' (vs ++ [u]) ∧ New w w' ∧ ∀ k, blk v' = some k → w.heap.size ≤ k := by
  obtain ⟨a', n', c', e', h1, h2, h3, h4, h5⟩ := h
  cases e'
  have hnews : ∀ j y, [u][j]? = some y → w.cell? (x.add j) = some y := fun j y hy => by
    cases j with
    | zero => cases hy; simpa [Addr.add] using hx
    | succ j => simp at hy
  cases a with
  | some b =>
    obtain ⟨v', w', hrun, r1, r2⟩ := run_append_arg_grows (P := P) w t ty e i z 1 bytes ht hi hz hsize hby hzs (by omega) b n n vs (by omega) (fun j y hy => h5 b rfl j y hy) x 1 1 [u] rfl hnews (by omega) (by simp only [maxLen]; omega) hbytes
    exact ⟨v', w', hrun, RdV.of_own r1, Below.grown (Below.refl _ _) r2 (Nat.le_refl _) (by simp), own_from r1⟩
  | none =>
    obtain ⟨rfl, _⟩ := h4 rfl
    obtain rfl : vs = [] := List.eq_nil_of_length_eq_zero h1
    obtain ⟨v', w', hrun, r1, r2, _⟩ := run_append_own (P := P) w w.heap.size t ty e i z 1 bytes ht hi hz hsize hby hzs (by omega) (.slice none 0 0) 0 [] (World.ownsRow_nil w _ e 1) x 1 1 [u] rfl hnews (by simpa using hu) (by simp [maxLen]) (by simpa using hbytes) (Nat.le_refl _)
    exact ⟨v', w', hrun, RdV.of_own r1, Below.grown (Below.refl _ _) r2 (Nat.le_refl _) (by simp [Value.ownBlock]), own_from r1⟩

/-- an append whose run is known, as one operation -/
theorem oper_append {P : Program} {o : Oper} {a : Act} {w : World} {K : Act → World → Prop} {Q : Exit → Act → World → Prop} (s x : Operand) (t : TypeId) (ho : o.op = .call { callee := .builtin .append, args := #[s, x], argTypes := #[t, t] })
    (vs vx : Value) (hs : a.eval s = vs) (hx : a.eval x = vx) {v' : Value} {w' : World} (hr : (Builtin.append_ #[t, t] o.type #[vs, vx]).run P w = .ok v' w') (h : K (a.put o.dst v') w') : o.wp P a w K Q := by
  unfold Oper.wp execOp
  simp only [ho, resolve, invoke, builtin, Sem.run_bind, Sem.run_pure, Result.andThen_ok, List.map_toArray, List.map_cons, List.map_nil, hs, hx, hr]
  exact h

end Go.Proofs.YtliojldkdmaofaaDoor

namespace Go.Proofs.YtliojldkdmaofaaDoor
set_option linter.unusedVariables false
set_option linter.unusedSimpArgs false
open Go.RowKit

/-- a plan: the operations' numbers in their order; true: it may be taken now; false: no other may come up now -/
def planFrom (ops : Array Oper) : List (Nat × Bool) → Array Bool → Bool
  | [], l => (Region.ready .any ops l).isEmpty
  | (i, f) :: pl, l => (if f then Region.free .any ops l i && (Region.ready .any ops l).contains i else Region.ready .any ops l == [i]) && planFrom ops pl (l.setIfInBounds i true)

def planB (ops : Array Oper) (pl : List (Nat × Bool)) : Bool := Region.noSelect ops && decide (pl.length = ops.size) && planFrom ops pl (Array.replicate ops.size false)

/-- what is left of the plan, in state a and world w; l: what has come up -/
def wpOrd (P : Program) (ops : Array Oper) (Q : Exit → Act → World → Prop) (S : World → Prop) (pl : List (Nat × Bool)) (l : Array Bool) (a : Act) (w : World) : Prop :=
  Region.noSelect ops = true → planFrom ops pl l = true → S w → wpAnyH P .any ops (NoPanic Q) S pl.length l a w

section
variable {P : Program} {ops : Array Oper} {Q : Exit → Act → World → Prop} {S : World → Prop} {pl : List (Nat × Bool)} {l : Array Bool} {i : Nat} {a : Act} {w : World}

theorem region_ord {id : Nat} (S : World → Prop) (pl : List (Nat × Bool)) (hp : planB ops pl = true) (hm : P.follows .mixedOrders = true) (hS : S w.drew) (h : ∀ l, wpOrd P ops Q S pl l a w.drew) : (Code.region id ops true).wp P Q a w := by
  unfold planB at hp
  simp only [Bool.and_eq_true, decide_eq_true_eq] at hp
  refine wp_region_noPanic (wp_region_held_drew hm hS (fun _ => ?_))
  have := h _ hp.1.1 hp.2 hS
  rw [hp.1.2] at this
  exact this

theorem ord_done (h : Q .normal a w) : wpOrd P ops Q S [] l a w := fun _ hp _ => by
  simp only [planFrom, List.isEmpty_iff] at hp
  exact wpAnyH_done hp (NoPanic.normal h) _

theorem ord_take {o : Oper} {v : Value} (ho : ops[i]? = some o) (hw : Region.wanted o (yielded ops a.tmps) = true) (hy : ∀ w, S w → (execOp a.eval o).run P w = .ok (.value v) w) (h : ∀ l, wpOrd P ops Q S pl l (a.put o.dst v) w) : wpOrd P ops Q S ((i, true) :: pl) l a w := fun hs hp hS => by
  simp only [planFrom, if_true, Bool.and_eq_true] at hp
  exact wpAnyH_take ho hs hp.1.1 hp.1.2 (fun _ _ _ h => h) (.inl ⟨hw, hy⟩) hS (h _ hs hp.2 hS)

theorem ord_skip {o : Oper} (ho : ops[i]? = some o) (hw : Region.wanted o (yielded ops a.tmps) = false) (h : ∀ l, wpOrd P ops Q S pl l (a.put o.dst undef) w) : wpOrd P ops Q S ((i, true) :: pl) l a w := fun hs hp hS => by
  simp only [planFrom, if_true, Bool.and_eq_true] at hp
  exact wpAnyH_take ho hs hp.1.1 hp.1.2 (fun _ _ _ h => h) (.inr ⟨hw, rfl⟩) hS (h _ hs hp.2 hS)

theorem ord_pass {o : Oper} (ho : ops[i]? = some o) (hw : Region.wanted o (yielded ops a.tmps) = false) (h : ∀ l, wpOrd P ops Q S pl l (a.put o.dst undef) w) : wpOrd P ops Q S ((i, false) :: pl) l a w := fun hs hp hS => by
  simp only [planFrom, Bool.false_eq_true, if_false, Bool.and_eq_true, beq_iff_eq] at hp
  refine wpAnyH_ready hp.1 (by simp) (AllReadyH.cons ho (fun K hK => ?_) AllReadyH.nil)
  rw [if_neg (by rw [hw]; simp)]
  exact hK _ _ hS (fun _ => h _ hs hp.2 hS)

/-- any other operation: a call, an allocation, a store -/
theorem ord_only {o : Oper} (ho : ops[i]? = some o) (hw : Region.wanted o (yielded ops a.tmps) = true)
    (h : ∀ K : Act → World → Prop, Shut (∀ a w, S w → (∀ l, wpOrd P ops Q S pl l a w) → K a w) → Oper.wp P o a w K (NoPanic Q)) : wpOrd P ops Q S ((i, false) :: pl) l a w := fun hs hp hS => by
  simp only [planFrom, Bool.false_eq_true, if_false, Bool.and_eq_true, beq_iff_eq] at hp
  refine wpAnyH_ready hp.1 (by simp) (AllReadyH.cons ho (fun K hK => ?_) AllReadyH.nil)
  rw [if_pos hw]
  exact h K (fun a w hS' hW => hK a w hS' (fun _ => hW _ hs hp.2 hS'))
end

end Go.Proofs.YtliojldkdmaofaaDoor

namespace Go.Proofs.YtliojldkdmaofaaDoor
set_option linter.unusedVariables false
set_option linter.unusedSimpArgs false
open Go.RowKit

inductive Pl where
  | nil : Pl
  | take (i : Nat) (p : Pl) : Pl
  | only (i : Nat) (p : Pl) : Pl
  | two (i j : Nat) (p q : Pl) : Pl

def Pl.len : Pl → Nat
  | .nil => 0
  | .take _ p => p.len + 1
  | .only _ p => p.len + 1
  | .two _ _ p _ => p.len + 1

def plFrom (ops : Array Oper) : Pl → Array Bool → Bool
  | .nil, l => (Region.ready .any ops l).isEmpty
  | .take i p, l => (Region.free .any ops l i && (Region.ready .any ops l).contains i) && plFrom ops p (l.setIfInBounds i true)
  | .only i p, l => Region.ready .any ops l == [i] && plFrom ops p (l.setIfInBounds i true)
  | .two i j p q, l => (Region.ready .any ops l == [i, j] && decide (p.len = q.len)) && (plFrom ops p (l.setIfInBounds i true) && plFrom ops q (l.setIfInBounds j true))

def plB (ops : Array Oper) (pl : Pl) : Bool := Region.noSelect ops && decide (pl.len = ops.size) && plFrom ops pl (Array.replicate ops.size false)

def wpOrdT (P : Program) (ops : Array Oper) (Q : Exit → Act → World → Prop) (S : World → Prop) (pl : Pl) (l : Array Bool) (a : Act) (w : World) : Prop :=
  Region.noSelect ops = true → plFrom ops pl l = true → S w → wpAnyH P .any ops (NoPanic Q) S pl.len l a w

section
variable {P : Program} {ops : Array Oper} {Q : Exit → Act → World → Prop} {S : World → Prop} {pl p q : Pl} {l : Array Bool} {i j : Nat} {a : Act} {w : World}

theorem region_ordT {id : Nat} (S : World → Prop) (pl : Pl) (hp : plB ops pl = true) (hm : P.follows .mixedOrders = true) (hS : S w.drew) (h : ∀ l, wpOrdT P ops Q S pl l a w.drew) : (Code.region id ops true).wp P Q a w := by
  unfold plB at hp
  simp only [Bool.and_eq_true, decide_eq_true_eq] at hp
  refine wp_region_noPanic (wp_region_held_drew hm hS (fun _ => ?_))
  have := h _ hp.1.1 hp.2 hS
  rw [hp.1.2] at this
  exact this

theorem ordT_done (h : Q .normal a w) : wpOrdT P ops Q S .nil l a w := fun _ hp _ => by
  simp only [plFrom, List.isEmpty_iff] at hp
  exact wpAnyH_done hp (NoPanic.normal h) _

theorem ordT_take {o : Oper} {v : Value} (ho : ops[i]? = some o) (hw : Region.wanted o (yielded ops a.tmps) = true) (hy : ∀ w, S w → (execOp a.eval o).run P w = .ok (.value v) w) (h : ∀ l, wpOrdT P ops Q S pl l (a.put o.dst v) w) : wpOrdT P ops Q S (.take i pl) l a w := fun hs hp hS => by
  simp only [plFrom, Bool.and_eq_true] at hp
  exact wpAnyH_take ho hs hp.1.1 hp.1.2 (fun _ _ _ h => h) (.inl ⟨hw, hy⟩) hS (h _ hs hp.2 hS)

theorem ordT_skip {o : Oper} (ho : ops[i]? = some o) (hw : Region.wanted o (yielded ops a.tmps) = false) (h : ∀ l, wpOrdT P ops Q S pl l (a.put o.dst undef) w) : wpOrdT P ops Q S (.take i pl) l a w := fun hs hp hS => by
  simp only [plFrom, Bool.and_eq_true] at hp
  exact wpAnyH_take ho hs hp.1.1 hp.1.2 (fun _ _ _ h => h) (.inr ⟨hw, rfl⟩) hS (h _ hs hp.2 hS)

theorem ordT_only {o : Oper} (ho : ops[i]? = some o) (hw : Region.wanted o (yielded ops a.tmps) = true)
    (h : ∀ K : Act → World → Prop, Shut (∀ a w, S w → (∀ l, wpOrdT P ops Q S pl l a w) → K a w) → Oper.wp P o a w K (NoPanic Q)) : wpOrdT P ops Q S (.only i pl) l a w := fun hs hp hS => by
  simp only [plFrom, Bool.and_eq_true, beq_iff_eq] at hp
  refine wpAnyH_ready hp.1 (by simp) (AllReadyH.cons ho (fun K hK => ?_) AllReadyH.nil)
  rw [if_pos hw]
  exact h K (fun a w hS' hW => hK a w hS' (fun _ => hW _ hs hp.2 hS'))

theorem ordT_two {o o' : Oper} (ho : ops[i]? = some o) (hw : Region.wanted o (yielded ops a.tmps) = true) (ho' : ops[j]? = some o') (hw' : Region.wanted o' (yielded ops a.tmps) = true)
    (h : ∀ K : Act → World → Prop, Shut (∀ a w, S w → (∀ l, wpOrdT P ops Q S p l a w) → K a w) → Oper.wp P o a w K (NoPanic Q))
    (h' : ∀ K : Act → World → Prop, Shut (∀ a w, S w → (∀ l, wpOrdT P ops Q S q l a w) → K a w) → Oper.wp P o' a w K (NoPanic Q)) : wpOrdT P ops Q S (.two i j p q) l a w := fun hs hp hS => by
  simp only [plFrom, Bool.and_eq_true, beq_iff_eq, decide_eq_true_eq] at hp
  refine wpAnyH_ready hp.1.1 (by simp) (AllReadyH.cons ho (fun K hK => ?_) (AllReadyH.cons ho' (fun K hK => ?_) AllReadyH.nil))
  · rw [if_pos hw]
    exact h K (fun a w hS' hW => hK a w hS' (fun _ => hW _ hs hp.2.1 hS'))
  · rw [if_pos hw']
    exact h' K (fun a w hS' hW => hK a w hS' (fun _ => by have := hW _ hs hp.2.2 hS'; rwa [← hp.1.2] at this))
end

end Go.Proofs.YtliojldkdmaofaaDoor

namespace Go.Proofs.YtliojldkdmaofaaDoor
set_option linter.unusedVariables false
set_option linter.unusedSimpArgs false
open Go.RowKit Go.Shelf

section
variable {F : Fence} {n : Nat} {P : Program} {ops : Array Oper} {rest : List Oper} {o : Oper} {a : Act} {w : World} {Q : Exit → Act → World → Prop}

theorem wpListIn_val (hw : Region.wanted o (yielded ops a.tmps) = true) (hd : ∀ c, o.op ≠ .defer c) (hab : o.about P w a.eval = none) {v : Value} {w' : World} (hr : (execOp a.eval o).run P w = .ok (.value v) w')
    (h : wpListIn F n P ops Q rest (a.put o.dst v) w') : wpListIn F n P ops Q (o :: rest) a w := by
  refine wpListIn_step fun K hK => ?_
  rw [if_pos hw]
  refine ⟨(fun f hf => by rw [hab] at hf; cases hf), ?_⟩
  rw [Oper.semAt_plain F _ _ hd, hr]
  exact hK _ _ h

theorem wpListIn_load_row (hw : Region.wanted o (yielded ops a.tmps) = true) (ty : TypeId) (x : Operand) (ho : o.op = .load ty x)
    (g : Nat) (hx : a.eval x = .pointer (some ⟨g, 0, none⟩)) (t : TypeId) (cs : Array Value) (fr : Nat × Nat) (d : TypeDesc) (hg : w.heap[g]? = some (.cells cs t fr))
    (hu : P.underlying ty = some d) (hd : (match d with | .struct _ | .array _ _ => true | _ => false) = true) (hi : (P.info? ty).map (·.size) = some cs.size)
    (h : wpListIn F n P ops Q rest (a.put o.dst (.agg cs)) w) : wpListIn F n P ops Q (o :: rest) a w := by
  refine wpListIn_val hw (by rw [ho]; intro c hc; cases hc) (by simp [Oper.about, ho]) (v := .agg cs) (w' := w) ?_ h
  unfold execOp
  simp only [ho, hx, Instr.loadAt, Instr.sureAddr, Sem.run_bind, Sem.run_pure, Result.andThen_ok, run_loadVar_row w g t ty cs fr d hg hu hd hi]

theorem wpListIn_store_row (hw : Region.wanted o (yielded ops a.tmps) = true) (ty : TypeId) (x y : Operand) (ho : o.op = .store ty x y)
    (g : Nat) (cells : Array Value) (hx : a.eval x = .pointer (some ⟨g, 0, none⟩)) (hy : a.eval y = .agg cells)
    (t : TypeId) (old : Array Value) (hg : w.heap[g]? = some (.cells old t (0, 0))) (hi : (P.info? ty).map (·.size) = some cells.size)
    (hold : old.size = cells.size) (h1 : cells.all (·.oneCell') = true)
    (h : wpListIn F n P ops Q rest (a.put o.dst undef) (w.setRow g cells)) : wpListIn F n P ops Q (o :: rest) a w := by
  refine wpListIn_step fun K hK => ?_
  rw [if_pos hw]
  refine ⟨(fun f hf => by simp [Oper.about, ho] at hf), ?_⟩
  rw [Oper.semAt_plain F _ _ (by rw [ho]; intro c hc; cases hc)]
  unfold execOp
  simp only [ho, hx, hy, Instr.storeAt, Instr.sureAddr, Sem.run_bind, Sem.run_pure, Result.andThen_ok, run_storeVar_row w g t ty old cells hg hi hold h1]
  exact hK _ _ h

theorem wpListIn_copy (hw : Region.wanted o (yielded ops a.tmps) = true) (d s : Operand) (dT sT : TypeId) (ho : o.op = .call { callee := .builtin .copy, args := #[d, s], argTypes := #[dT, sT] })
    (vd vs : Value) (hd : a.eval d = vd) (hs : a.eval s = vs) {v : Value} {w' : World} (hr : (Builtin.copy_ #[dT, sT] o.type #[vd, vs]).run P w = .ok v w')
    (h : wpListIn F n P ops Q rest (a.put o.dst v) w') : wpListIn F n P ops Q (o :: rest) a w := by
  refine wpListIn_val hw (by rw [ho]; intro c hc; cases hc) (by simp [Oper.about, ho, resolve, Target.leads, Sem.run_pure]) (v := v) (w' := w') ?_ h
  unfold execOp
  simp only [ho, resolve, invoke, builtin, Sem.run_bind, Sem.run_pure, Result.andThen_ok, List.map_toArray, List.map_cons, List.map_nil, hd, hs, hr]
end

section
variable {F : Fence} {n : Nat} {P : Program} {o : Oper} {a : Act} {w : World} {K : Act → World → Prop} {Q : Exit → Act → World → Prop}

/-- a whole array loaded, as one operation -/
theorem opIn_load_row (ty : TypeId) (x : Operand) (ho : o.op = .load ty x)
    (g : Nat) (hx : a.eval x = .pointer (some ⟨g, 0, none⟩)) (t : TypeId) (cs : Array Value) (fr : Nat × Nat) (d : TypeDesc) (hg : w.heap[g]? = some (.cells cs t fr))
    (hu : P.underlying ty = some d) (hd : (match d with | .struct _ | .array _ _ => true | _ => false) = true) (hi : (P.info? ty).map (·.size) = some cs.size)
    (h : K (a.put o.dst (.agg cs)) w) : o.wpIn F n P a w K Q := by
  refine ⟨(fun f hf => by simp [Oper.about, ho] at hf), ?_⟩
  rw [Oper.semAt_plain F _ _ (by rw [ho]; intro c hc; cases hc)]
  unfold execOp
  simp only [ho, hx, Instr.loadAt, Instr.sureAddr, Sem.run_bind, Sem.run_pure, Result.andThen_ok, run_loadVar_row w g t ty cs fr d hg hu hd hi]
  exact h

/-- a whole array stored, as one operation -/
theorem opIn_store_row (ty : TypeId) (x y : Operand) (ho : o.op = .store ty x y)
    (g : Nat) (cells : Array Value) (hx : a.eval x = .pointer (some ⟨g, 0, none⟩)) (hy : a.eval y = .agg cells)
    (t : TypeId) (old : Array Value) (hg : w.heap[g]? = some (.cells old t (0, 0))) (hi : (P.info? ty).map (·.size) = some cells.size)
    (hold : old.size = cells.size) (h1 : cells.all (·.oneCell') = true)
    (h : K (a.put o.dst undef) (w.setRow g cells)) : o.wpIn F n P a w K Q := by
  refine ⟨(fun f hf => by simp [Oper.about, ho] at hf), ?_⟩
  rw [Oper.semAt_plain F _ _ (by rw [ho]; intro c hc; cases hc)]
  unfold execOp
  simp only [ho, hx, hy, Instr.storeAt, Instr.sureAddr, Sem.run_bind, Sem.run_pure, Result.andThen_ok, run_storeVar_row w g t ty old cells hg hi hold h1]
  exact h
end

/-- append onto a row of one's own, whatever the source of bytes -/
theorem wpListIn_append_bytes {F : Fence} {n : Nat} {P : Program} {w : World} {ops : Array Oper} {rest : List Oper} {o : Oper} {a : Act} {Q : Exit → Act → World → Prop} (hw : Region.wanted o (yielded ops a.tmps) = true) (s x : Operand) (t : TypeId)
    (ho : o.op = .call { callee := .builtin .append, args := #[s, x], argTypes := #[t, t] })
    (base : Nat) (e : TypeId) (i : TypeInfo) (z : Value) (ht : P.underlying t = some (.slice e)) (hi : P.info? e = some i) (hz : i.zero = some z)
    (hsize : i.size = 1) (hby : i.bytes = 1) (hzs : z.cells.size = 1)
    (v : Value) (k : Nat) (xs : List Value) (hs : a.eval s = v) (hown : w.ownsRow base e 1 v k xs) (u : Value) (l : List UInt8) (hx : a.eval x = u) (hu : Rd w u l)
    (hbytes : k + l.length ≤ 140737488355328) (hbase : base ≤ w.heap.size)
    (h : ∀ v' w', w'.ownsRow base e 1 v' (k + l.length) (xs ++ l.map bv) → w.grownBy w' v.ownBlock → (v'.ownBlock = v.ownBlock ∨ v'.ownBlock = some w.heap.size) → wpListIn F n P ops Q rest (a.put o.dst v') w') : wpListIn F n P ops Q (o :: rest) a w := by
  obtain ⟨v', w', hr, h2, h3, h4⟩ := run_append_bytes (P := P) w base t o.type e i z ht hi hz hsize hby hzs v k xs hown u l hu hbytes hbase
  refine wpListIn_val hw (by rw [ho]; intro c hc; cases hc) (by simp [Oper.about, ho, resolve, Target.leads, Sem.run_pure]) (v := v') (w' := w') ?_ (h v' w' h2 h3 h4)
  unfold execOp
  simp only [ho, resolve, invoke, builtin, Sem.run_bind, Sem.run_pure, Result.andThen_ok, List.map_toArray, List.map_cons, List.map_nil, hs, hx, hr]

section
variable {F : Fence} {n : Nat} {P : Program} {md : Region.Mode} {ops : Array Oper} {Q : Exit → Act → World → Prop} {fuel : Nat} {listed : Array Bool} {a : Act} {w : World}

/-- a drawn region: one operation alone may come up -/
theorem anyIn_one (i : Nat) {o : Oper} (hr : Region.ready md ops listed = [i]) (ho : ops[i]? = some o) (hg : o.guard = none)
    (h : ∀ K : Act → World → Prop, (∀ a w, wpAnyIn F n P md ops Q fuel (listed.setIfInBounds i true) a w → K a w) → o.wpIn F n P a w K Q) : wpAnyIn F n P md ops Q (fuel + 1) listed a w := by
  refine wpAnyIn_ready hr (by simp) (AllReadyIn.cons ho (fun K hK => ?_) AllReadyIn.nil)
  rw [if_pos (by simp [Region.wanted, hg])]
  exact h K hK

/-- .. one of two -/
theorem anyIn_two (i j : Nat) {o o' : Oper} (hr : Region.ready md ops listed = [i, j]) (ho : ops[i]? = some o) (hg : o.guard = none) (ho' : ops[j]? = some o') (hg' : o'.guard = none)
    (h : ∀ K : Act → World → Prop, (∀ a w, wpAnyIn F n P md ops Q fuel (listed.setIfInBounds i true) a w → K a w) → o.wpIn F n P a w K Q)
    (h' : ∀ K : Act → World → Prop, (∀ a w, wpAnyIn F n P md ops Q fuel (listed.setIfInBounds j true) a w → K a w) → o'.wpIn F n P a w K Q) : wpAnyIn F n P md ops Q (fuel + 1) listed a w := by
  refine wpAnyIn_ready hr (by simp) (AllReadyIn.cons ho (fun K hK => ?_) (AllReadyIn.cons ho' (fun K hK => ?_) AllReadyIn.nil))
  · rw [if_pos (by simp [Region.wanted, hg])]; exact h K hK
  · rw [if_pos (by simp [Region.wanted, hg'])]; exact h' K hK

/-- a call of a function that has a plain contract, as one operation in a round of the wide fence -/
theorem opIn_call_wide {l : Nat} {K : Act → World → Prop} {o : Oper} {f : FuncId} {args : List Operand} {argTypes : Array TypeId} (ho : o.op = .call { callee := .value (.func f), args := args.toArray, argTypes := argTypes })
    {vals : List Value} (hv : args.map a.eval = vals) (he : ∀ args w, (callFunc f args).run P w = .ok (.enter f args) w) {R : Ending → World → Prop} (hc : Calls P f vals.toArray w R)
    (h : ∀ e w', R e w' → ∃ v, e = .returned v ∧ K (a.put o.dst v) w') : o.wpIn (Fence.wide.inRound l) n P a w K Q := by
  subst hv
  refine ⟨fun _ _ => trivial, ?_⟩
  rw [Oper.semAt_plain _ _ _ (by rw [ho]; intro c hc; cases hc)]
  have hrun : (execOp a.eval o).run P w = .ok (.enter f (args.map a.eval).toArray) w := by
    unfold execOp
    simp only [ho, resolve]
    simp [go_sem, invoke, he]
  rw [hrun, Oper.uponIn_enter]
  refine ⟨fun h => by simp [Fence.wide, Fence.inRound] at h, (CallsIn.inRound l (callsIn_wide.2 hc)).mono ?_⟩
  intro e w' hR
  obtain ⟨v, rfl, hk⟩ := h e w' hR
  exact hk
end

/-- s[k:] of a slice of one-cell elements -/
theorem run_slice_from {P : Program} {t : TypeId} (ht : P.underlying t = some (.slice (P.elem t))) (hs : ∀ w, (sizeOf (P.elem t)).run P w = .ok 1 w) (a : Option Addr) (m c k : Nat) (hk : k ≤ m) (hm : m ≤ c) :
    ∃ a', (∀ w, (Instr.slice t (.slice a m c) (some (.int .i64 (k : Int))) none none).run P w = .ok (.slice a' (m - k) (c - k)) w) ∧ (∀ b n, blk (.slice a' b n) = blk (.slice a b n)) ∧ ∀ w l, Rd w (.slice a m c) l → Rd w (.slice a' (m - k) (c - k)) (l.drop k) := by
  have hr : ∀ w, (Instr.slice t (.slice a m c) (some (.int .i64 (k : Int))) none none).run P w = .ok (.slice (if c = k then a else a.map (·.add k)) (m - k) (c - k)) w := fun w => by
    rw [run_slice_l w t a m c ht .i64 (k : Int) (by omega) (by omega), hs]
    simp only [Result.andThen_ok, sliced, Int.toNat_natCast, Nat.mul_one]
  refine ⟨_, hr, fun b n => ?_, fun w l h => ?_⟩
  · split
    · rfl
    · exact blk_rest a b n b n k
  · by_cases e : c = k
    · have e2 : m = k := by omega
      rw [if_pos e]
      have hl := h.len
      rw [List.drop_of_length_le (by omega), e2, e]
      obtain ⟨a', m', c', e', h1, h2, h3, h4, h5⟩ := h
      cases e'
      exact ⟨a, _, _, rfl, by simp, by omega, by simp [maxLen], fun ha => ⟨by omega, by omega⟩, by simp⟩
    · rw [if_neg e]
      exact h.rest hk

end Go.Proofs.YtliojldkdmaofaaDoor

namespace Go.Proofs.YtliojldkdmaofaaDoor
set_option linter.unusedVariables false
set_option linter.unusedSimpArgs false
open Go.RowKit

/-- how a round's body is left: it goes on -/
def idxPost (E : Nat → Prop) (I : Nat → World → Prop) (k : Nat) (W : World) : Exit → Act → World → Prop
  | .normal, _, W' => Only E W W' ∧ I (k + 1) W'
  | _, _, _ => False

/-- the iterator's contract: N rounds, round k at args k -/
def SeqIdx (F : Fence) (n : Nat) (P : Program) (gf : Nat) (lb : Array Value) (args : Nat → Array Value) (N : Nat) (E : Nat → Prop) (w : World) : Prop :=
  ∀ (l : Nat) (J : Nat → World → Prop) (W : World), Below w.heap.size w W → w.heap.size ≤ l → l < W.heap.size → (∀ k A B, J k A → Below W.heap.size A B → J k B) →
    (∀ k W1, k < N → J k W1 → W.heap.size ≤ W1.heap.size → YieldAt F (n - 1) P l (args k) W1 fun e W' => e = .returned (.bool true) ∧ J (k + 1) W' ∧ Only (fun i => E i ∨ i = l) W1 W') →
    J 0 W → CallsIn F n P gf (#[.func (.yield l) #[] #[]] ++ lb) W fun e W' => (∃ v, e = .returned v) ∧ J N W'

theorem only_putObj (F : Nat → Prop) (W : World) (l : Nat) (o : Obj) (h : F l) : Only F W (W.putObj l o) :=
  Only.grown (Only.refl F W) (grownBy_putObj' W l o) (fun k e _ => by cases e; exact h)

theorem below_putObj (B : Nat) (W : World) (l : Nat) (o : Obj) (h : B ≤ l) (hl : l < W.heap.size) : Below B W (W.putObj l o) :=
  (Below.refl B W).grown (grownBy_putObj' W l o) (by omega) (fun k e => by cases e; exact h)

variable {F : Fence} {n : Nat} {P : Program}

theorem wpIn_range_idx {g : Operand} {ps : Array Tmp} {assign body : Code} {Q : Exit → Act → World → Prop} {a : Act} {w : World}
    (hro : F.round = none) (h1 : 1 ≤ n) {gf : Nat} {lb : Array Value} (hg : a.eval g = .func (.func gf) #[] lb) (hFg : F.fn gf) (eg : ∀ args w, (callFunc gf args).run P w = .ok (.enter gf args) w)
    (args : Nat → Array Value) (N : Nat) (E : Nat → Prop) (hE : ∀ i, E i → i < w.heap.size) (hseq : SeqIdx F (n - 1) P gf lb args N E w) (hps : ∀ k, (args k).size = ps.size)
    (I : Nat → World → Prop) (hI : ∀ k A B, I k A → Below w.heap.size A B → I k B) (h0 : I 0 w) (X : Nat → Act → World → Prop) (hX : ∀ k a A l r o, X k a A → A.heap[l]? = some (.loop r) → X k a (A.putObj l o))
    (hassign : ∀ (l k : Nat) (W : World) (K : Act → World → Prop), I k W → k < N → (∀ a₁ W₁, New W W₁ → X k a₁ W₁ → K a₁ W₁) →
      assign.wpIn (F.inRound l) (n - 1 - 1) P (Exit.then K (fun _ _ _ => False)) { tmps := (ps.zip (args k)).foldl (fun t (p, v) => t.setIfInBounds p v) a.tmps, defers := [] } W)
    (hbody : ∀ (l k : Nat) (a₁ : Act) (W : World), I k W → X k a₁ W → k < N → body.wpIn (F.inRound l) (n - 1 - 1) P (idxPost E I k W) a₁ W)
    (hdone : ∀ (D : Nat) (W : World), w.heap.size ≤ D → I N W → W.heap[D]? = some (.deferred (some [])) → Q .normal { a with defers := { target := .collected D, args := #[] } :: a.defers } W) :
    (Code.rangeFunc g ps assign body).wpIn F n P Q a w := by
  refine wpIn_rangeFunc ?_
  intro fn hfn
  rw [hro]
  obtain ⟨rec, hrec⟩ : ∃ rec : LoopState → Option Code → Loop, rec = fun st pe => { state := st, pending := pe, fn, tmps := a.tmps, params := ps, assign, body, defers := w.heap.size } := ⟨_, rfl⟩
  obtain ⟨W1, hW1⟩ : ∃ W1, (w.alloc (.deferred (some []))).alloc (.loop (rec .ready none)) = W1 := ⟨_, rfl⟩
  have hs1 : W1.heap.size = w.heap.size + 2 := by rw [← hW1]; simp
  have hL1 : W1.heap[w.heap.size + 1]? = some (.loop (rec .ready none)) := by
    rw [← hW1]; have := World.alloc_heap_new (w.alloc (.deferred (some []))) (.loop (rec .ready none)); rwa [World.size_alloc] at this
  have hK1 : W1.heap[w.heap.size]? = some (.deferred (some [])) := by
    rw [← hW1]; exact (Below.heap_alloc _ _ _ (by simp)).trans (World.alloc_heap_new w _)
  have hb1 : Below w.heap.size w W1 := by
    rw [← hW1]; exact ((Below.refl _ w).alloc (Nat.le_refl _) _).alloc (by simp) _
  refine ⟨w.heap.size + 1, [{ target := .collected w.heap.size, args := #[] }], W1, { target := .fn (.func gf) lb, args := #[.func (.yield (w.heap.size + 1)) #[] #[]] }, W1, gf,
    #[.func (.yield (w.heap.size + 1)) #[] #[]] ++ lb, W1, ?_, ?_, ?_, ?_, fun _ => h1, ?_⟩
  · rw [← hW1, hrec]; exact run_enterLoop_outer _ _ _ _ _
  · simp only [resolve, hg]
    simp [go_sem]
  · intro f' hf'; simp [Target.leads] at hf'; subst hf'; exact hFg
  · simp [invoke, go_sem, eg]
  · refine (hseq (w.heap.size + 1)
      (fun k W => I k W ∧ W.heap[w.heap.size + 1]? = some (.loop (rec .ready none)) ∧ W.heap[w.heap.size]? = some (.deferred (some [])))
      W1 hb1 (by omega) (by omega)
      (fun k A B hJ hB => ⟨hI k A B hJ.1 (hB.mono (by omega)), (hB.block _ (by omega)).trans hJ.2.1, (hB.block _ (by omega)).trans hJ.2.2⟩)
      ?_ ⟨hI 0 w W1 h0 hb1, hL1, hK1⟩).mono ?_
    · rintro k W hk ⟨hi, hl, hd⟩ hsz
      have hy := run_yield (P := P) (args := args k) hl (by rw [hrec]; exact hps k)
      rw [hrec] at hy
      have hltW : w.heap.size + 1 < W.heap.size := (Array.getElem?_eq_some_iff.1 hl).1
      refine ⟨fn, _, assign, body, hy, roundIn_of_wpIn hfn (hassign _ k W _ hi hk (fun a₁ Wa hnew hx => ?_))⟩
      have hl' := (hnew.block _ hltW).trans hl
      have hd' := (hnew.block _ (by omega)).trans hd
      have hlt : w.heap.size + 1 < Wa.heap.size := (Array.getElem?_eq_some_iff.1 hl').1
      refine ⟨_, run_beginRound hl' (by rw [hrec]), ?_⟩
      have hl2 : (Wa.putObj (w.heap.size + 1) (.loop { rec .ready none with state := .busy })).heap[w.heap.size + 1]? = some (.loop { rec .ready none with state := .busy }) := World.putObj_heap_same hlt
      have hd2 : (Wa.putObj (w.heap.size + 1) (.loop { rec .ready none with state := .busy })).heap[w.heap.size]? = some (.deferred (some [])) := (World.putObj_heap_other (by omega)).trans hd'
      refine wpIn_mono (hbody _ k a₁ _ (hI k Wa _ (hI k W _ hi (hnew.mono (by omega))) (below_putObj _ _ _ _ (by omega) hlt)) (hX _ _ _ _ _ _ hx hl') hk) ?_
      rintro e a3 W3 hp
      cases e with
      | normal =>
        obtain ⟨ho3, hi3⟩ := hp
        have hl3 := (ho3.block (w.heap.size + 1) (by rw [World.putObj_size]; exact hlt) (fun h => by have := hE _ h; omega)).trans hl2
        have hd3 := (ho3.block w.heap.size (by rw [World.putObj_size]; omega) (fun h => by have := hE _ h; omega)).trans hd2
        have hr := run_endRound (P := P) none hl3
        have hlt3 : w.heap.size + 1 < W3.heap.size := (Array.getElem?_eq_some_iff.1 hl3).1
        refine ⟨_, _, hr, rfl, ⟨hI _ W3 _ hi3 (below_putObj _ _ _ _ (by omega) hlt3), ?_, (World.putObj_heap_other (by omega)).trans hd3⟩, ?_⟩
        · rw [World.putObj_heap_same hlt3, hrec]; rfl
        · exact (((New.only (F := fun i => E i ∨ i = w.heap.size + 1) hnew).trans (only_putObj (fun i => E i ∨ i = w.heap.size + 1) Wa _ _ (.inr rfl)) (fun _ _ h => h)).trans (ho3.mono (G := fun i => E i ∨ i = w.heap.size + 1) (fun _ _ h => .inl h)) (fun _ _ h => h)).trans (only_putObj _ W3 _ _ (.inr rfl)) (fun _ _ h => h)
      | ret => exact hp.elim
      | exit id => exact hp.elim
      | goto t => exact hp.elim
      | panic ch => exact hp.elim
      | outgrown => exact hp.elim
    · rintro e W2 ⟨⟨v, rfl⟩, hi, hl, hd⟩
      have hlt2 : w.heap.size + 1 < W2.heap.size := (Array.getElem?_eq_some_iff.1 hl).1
      exact ⟨none, _, by have := run_endLoop (P := P) hl (by rw [hrec]; simp); rw [hrec] at this; exact this, hdone _ _ (Nat.le_refl _) (hI _ W2 _ hi (below_putObj _ _ _ _ (by omega) hlt2)) ((World.putObj_heap_other (by omega)).trans hd)⟩

end Go.Proofs.YtliojldkdmaofaaDoor

namespace Go.Proofs.YtliojldkdmaofaaDoor
set_option linter.unusedVariables false
set_option linter.unusedSimpArgs false
open Go.RowKit

/-- The slice value v owns the bytes l; nothing behind them is frozen. -/
def OwnB (w : World) (base : Nat) (e : TypeId) (v : Value) (l : List UInt8) : Prop :=
  ∃ g cap cur fz, v = .slice (some ⟨g, 0, none⟩) l.length cap ∧ base ≤ g ∧ w.heap[g]? = some (.cells cur e fz) ∧ (∀ i, l.length ≤ i → i < cur.size → i < fz.1 ∨ fz.2 ≤ i) ∧ l.length ≤ cap ∧ cap ≤ maxLen ∧ cur.size = cap ∧ cur.toList.take l.length = l.map bv

theorem OwnB.rd {w : World} {base : Nat} {e : TypeId} {v : Value} {l : List UInt8} (h : OwnB w base e v l) : Rd w v l := by
  obtain ⟨g, cap, cur, fz, rfl, hb, hg, hf, hc, hm, hs, ht⟩ := h
  refine ⟨_, _, _, rfl, rfl, hc, hm, (fun h => by cases h), fun ad had i u hu => ?_⟩
  cases had
  have hi : i < l.length := by
    rcases Nat.lt_or_ge i l.length with h | h
    · exact h
    · rw [List.getElem?_eq_none h] at hu; cases hu
  have hadd : (⟨g, 0, none⟩ : Addr).add i = ⟨g, i, none⟩ := by unfold Addr.add; split <;> simp_all
  rw [hadd, cell_of_row _ _ _ _ _ _ hg]
  have h1 : (cur.toList.take l.length)[i]? = some (bv u) := by rw [ht, List.getElem?_map, hu]; rfl
  rw [List.getElem?_take, if_pos hi] at h1
  simpa using h1

theorem OwnB.from {w : World} {base : Nat} {e : TypeId} {v : Value} {l : List UInt8} (h : OwnB w base e v l) : ∀ k, blk v = some k → base ≤ k := by
  obtain ⟨g, cap, cur, fz, rfl, hb, _⟩ := h
  intro k hk
  simp [blk] at hk; omega

theorem OwnB.alloc {w : World} {base : Nat} {e : TypeId} {v : Value} {l : List UInt8} (h : OwnB w base e v l) (o : Obj) : OwnB (w.alloc o) base e v l := by
  obtain ⟨g, cap, cur, fz, rfl, hb, hg, rest⟩ := h
  exact ⟨g, cap, cur, fz, rfl, hb, (Below.heap_alloc _ _ _ (Array.getElem?_eq_some_iff.1 hg).1).trans hg, rest⟩

theorem run_storeCells_free (P : Program) (g o : Nat) (t : TypeId) (fz : Nat × Nat) : ∀ (vs : List Value) (i : Nat) (cur : Array Value) (w : World), w.heap[g]? = some (.cells cur t fz) → (∀ j, o + i ≤ j → j < cur.size → j < fz.1 ∨ fz.2 ≤ j) → o + i + vs.length ≤ cur.size → (∀ v ∈ vs, v.oneCell' = true) →
    (storeCells ⟨g, o, none⟩ vs i).run P w = .ok () (w.setRow g (cur.toList.take (o + i) ++ vs ++ cur.toList.drop (o + i + vs.length)).toArray)
  | [], i, cur, w, hg, _, _, _ => by
    simp only [storeCells, List.append_nil, List.length_nil, Nat.add_zero, List.take_append_drop, Array.toArray_toList]
    rw [setRow_self w g cur t fz hg]
    rfl
  | v :: rest, i, cur, w, hg, hfz, hl, h1 => by
    have hi : o + i < cur.size := by simp at hl; omega
    have hadd : (⟨g, o, none⟩ : Addr).add i = ⟨g, o + i, none⟩ := by unfold Addr.add; split <;> simp_all
    have hcell : w.cell? ⟨g, o + i, none⟩ = some cur[o + i] := by simp [World.cell?, hg, hi]
    have hfro : w.frozen? ⟨g, o + i, none⟩ = false := by
      obtain ⟨lo, hi'⟩ := fz
      simp only [World.frozen?, hg, Bool.and_eq_false_iff, decide_eq_false_iff_not]
      rcases hfz (o + i) (Nat.le_refl _) hi with h | h
      · left; simp only at h; omega
      · right; simp only at h; omega
    have hst : (store ((⟨g, o, none⟩ : Addr).add i) v).run P w = .ok () (w.setRow g (cur.setIfInBounds (o + i) v)) := by
      rw [hadd, run_store P w _ v _ (h1 v (by simp)), hcell]
      simp [hfro, setCell_eq_setRow w g (o + i) cur t fz v hg]
    have ih := run_storeCells_free P g o t fz rest (i + 1) (cur.setIfInBounds (o + i) v) (w.setRow g (cur.setIfInBounds (o + i) v)) (setRow_heap w g cur _ t _ hg) (fun j h h' => hfz j (by omega) (by simpa using h')) (by simp at hl ⊢; omega) (fun x hx => h1 x (by simp [hx]))
    simp only [storeCells, Sem.run_bind, hst, Result.andThen_ok, ih, setRow_setRow]
    congr 3
    have e := list_seg_step cur.toList (o + i) v rest (by simp at hl ⊢; omega)
    simpa [Array.toList_setIfInBounds, Nat.add_assoc] using e

/-- an append onto it -/
theorem run_append_B {P : Program} (w : World) (base : Nat) (t ty e : TypeId) (i : TypeInfo) (z : Value) (ht : P.underlying t = some (.slice e)) (hi : P.info? e = some i) (hz : i.zero = some z)
    (hsize : i.size = 1) (hby : i.bytes = 1) (hzs : z.cells.size = 1) (v : Value) (l : List UInt8) (hown : OwnB w base e v l) (a : Addr) (c : Nat) (q : List UInt8) (hx : Rd w (.slice (some a) q.length c) q)
    (hbytes : l.length + q.length ≤ 140737488355328) (hbase : base ≤ w.heap.size) :
    ∃ v' w', (Builtin.append_ #[t, t] ty #[v, .slice (some a) q.length c]).run P w = .ok v' w' ∧ OwnB w' base e v' (l ++ q) ∧ w.grownBy w' v.ownBlock := by
  have hrd := hown.rd
  obtain ⟨g, cap, cur, fz, rfl, hb, hg, hf, hc, hm, hs, htk⟩ := hown
  have hnews : ∀ j u, (q.map bv)[j]? = some u → w.cell? (a.add j) = some u := fun j u hj => by
    obtain ⟨a', n', c', e', g1, g2, g3, g4, g5⟩ := hx
    cases e'
    rw [List.getElem?_map] at hj
    cases hb' : q[j]? with
    | none => rw [hb'] at hj; cases hj
    | some b => rw [hb'] at hj; cases hj; exact g5 a rfl j b hb'
  by_cases hroom : l.length + q.length ≤ cap
  · have hfc := run_firstCells_some (P := P) w i.size q.length a q.length c (q.map bv) (by rw [hsize]; simp) hnews
    have hst := run_storeCells_free P g l.length e fz (q.map bv) 0 cur w hg (fun j h h' => hf j (by omega) h') (by simp; omega) (oneCell_bv q)
    simp only [Nat.add_zero] at hst
    have hr : (Builtin.append_ #[t, t] ty #[.slice (some ⟨g, 0, none⟩) l.length cap, .slice (some a) q.length c]).run P w = .ok (.slice (some ⟨g, 0, none⟩) (l.length + q.length) cap) (w.setRow g (cur.toList.take l.length ++ q.map bv ++ cur.toList.drop (l.length + (q.map bv).length)).toArray) := by
      rw [hsize] at hfc
      simp [Builtin.append_, run_underlying ht, sizeOf, typeInfo, hi, hsize, Builtin.lenOf, hroom, hfc, Addr.add_lit]
      rw [hst]
      simp
    refine ⟨_, _, hr, ⟨g, cap, _, fz, by rw [List.length_append], hb, setRow_heap w g cur _ e _ hg, ?_, by simp; omega, hm, ?_, ?_⟩, ⟨rfl, rfl, rfl, by simp, fun k _ hk => setRow_other w g k _ (fun e => hk (by simp [Value.ownBlock, e]))⟩⟩
    · intro j h1 h2
      simp at h1
      refine hf j (by omega) ?_
      simp at h2
      omega
    · simp; omega
    · have e1 : (cur.toList.take l.length ++ q.map bv).length = (l ++ q).length := by simp; omega
      rw [← e1, List.take_left', htk, List.map_append]
      rfl
  · have hcells : ∀ j u, (l.map bv)[j]? = some u → w.cell? ((⟨g, 0, none⟩ : Addr).add j) = some u := fun j u hj => by
      obtain ⟨a', n', c', e', g1, g2, g3, g4, g5⟩ := hrd
      cases e'
      rw [List.getElem?_map] at hj
      cases hb' : l[j]? with
      | none => rw [hb'] at hj; cases hj
      | some b => rw [hb'] at hj; cases hj; exact g5 _ rfl j b hb'
    have hr := run_append_grow (P := P) w t ty e i z ht hi hz ⟨g, 0, none⟩ l.length cap (l.map bv) (by rw [hsize]; simp) hcells a q.length c (q.map bv) (by rw [hsize]; simp) hnews (by omega) (by omega) (growslice_fits (by omega) (by rw [hby]; omega))
    have hge := grownCap_ge w (l.length + q.length) cap e
    have hcm2 : grownCap w (l.length + q.length) cap e ≤ maxLen := grownCap_le_maxLen w (l.length + q.length) cap e (by unfold maxLen; omega)
    refine ⟨_, _, hr, ⟨w.heap.size, _, _, (0, 0), by rw [List.length_append], hbase, heap_alloc_new w.drew _, fun _ _ _ => .inr (Nat.zero_le _), by simp; omega, hcm2, ?_, ?_⟩, ⟨rfl, rfl, rfl, by simp, fun k hk _ => heap_alloc_old w.drew _ hk⟩⟩
    · simp only [Array.size_append, List.size_toArray, size_zeroCells, hzs, List.length_map]
      omega
    · simp only [Array.toList_append, List.append_assoc]
      rw [← List.append_assoc, ← List.map_append, show (l ++ q).length = ((l ++ q).map bv).length by simp]
      exact List.take_left

theorem wpList_append_B {P : Program} {w : World} {ops : Array Oper} {rest : List Oper} {o : Oper} {a : Act} {Q : Exit → Act → World → Prop} (hgd : o.guard = none) (s x : Operand) (t : TypeId)
    (ho : o.op = .call { callee := .builtin .append, args := #[s, x], argTypes := #[t, t] })
    (base : Nat) (e : TypeId) (i : TypeInfo) (z : Value) (ht : P.underlying t = some (.slice e)) (hi : P.info? e = some i) (hz : i.zero = some z)
    (hsize : i.size = 1) (hby : i.bytes = 1) (hzs : z.cells.size = 1)
    (v : Value) (l : List UInt8) (hs : a.eval s = v) (hown : OwnB w base e v l) (ad : Addr) (c : Nat) (q : List UInt8) (m : Nat) (hm : m = q.length) (hx : a.eval x = .slice (some ad) m c) (hu : Rd w (.slice (some ad) m c) q)
    (hbytes : l.length + q.length ≤ 140737488355328) (hbase : base ≤ w.heap.size)
    (h : ∀ v' w', OwnB w' base e v' (l ++ q) → w.grownBy w' v.ownBlock → wpList P ops Q rest (a.put o.dst v') w') : wpList P ops Q (o :: rest) a w := by
  subst hm
  refine wpList_plain hgd fun K hK => ?_
  obtain ⟨v', w', hr, h2, h3⟩ := run_append_B (P := P) w base t o.type e i z ht hi hz hsize hby hzs v l hown ad c q hu hbytes hbase
  unfold Oper.wp execOp
  simp only [ho, resolve, invoke, builtin, Sem.run_bind, Sem.run_pure, Result.andThen_ok, List.map_toArray, List.map_cons, List.map_nil, hs, hx, hr]
  exact hK _ _ (h v' w' h2 h3)

/-- []byte(s) -/
theorem ownB_of_string (w : World) (e : TypeId) (l : List UInt8) (hl : l.length ≤ 140737488355328) : OwnB (Lib.bytesWorld w e (bstr l)) w.heap.size e (.slice (some ⟨w.heap.size, 0, none⟩) l.length (grownCap w (bstr l).size 0 e)) l ∧ New w (Lib.bytesWorld w e (bstr l)) := by
  have hge := grownCap_ge w (bstr l).size 0 e
  rw [bstr_size] at hge
  refine ⟨⟨w.heap.size, _, _, _, rfl, Nat.le_refl _, Lib.bytesWorld_at_new w e (bstr l), fun i h1 h2 => .inl h2, by rw [bstr_size]; exact hge, ?_, ?_, ?_⟩, ?_⟩
  · exact grownCap_le_maxLen w _ 0 e (by rw [bstr_size]; unfold maxLen; omega)
  · have hz : (bstr l).size = l.length := bstr_size l
    unfold Lib.bytesCells
    rw [hz]
    simp only [Array.size_append, Array.size_map, Array.size_replicate]
    have hz2 : (bstr l).data.size = l.length := by simp [bstr]
    omega
  · unfold Lib.bytesCells; simp [bstr]
  · refine ⟨rfl, rfl, rfl, by rw [Lib.bytesWorld_size]; omega, fun j hj => Lib.bytesWorld_at_old w e (bstr l) j hj⟩

end Go.Proofs.YtliojldkdmaofaaDoor

namespace Go.Proofs.YtliojldkdmaofaaDoor
set_option linter.unusedVariables false
set_option linter.unusedSimpArgs false
open Go.RowKit

theorem set2 {w : World} {g : Nat} {x y : Value} {t : TypeId} (u v : Value) (hg : w.heap[g]? = some (.cells #[x, y] t)) : ((w.setCell ⟨g, 0, none⟩ u).setCell ⟨g, 1, none⟩ v).heap[g]? = some (.cells #[u, v] t) := by
  rw [heap_setCell_same _ _ _ _ _ _ (heap_setCell_same _ _ _ _ _ _ hg)]
  rfl

theorem set2_only (w : World) (g : Nat) (u v : Value) : Only (fun k => k = g) w ((w.setCell ⟨g, 0, none⟩ u).setCell ⟨g, 1, none⟩ v) :=
  ((Only.refl (fun k => k = g) w).setCell (p := ⟨g, 0, none⟩) (fun _ => rfl) _).setCell (p := ⟨g, 1, none⟩) (fun _ => rfl) _

theorem set2_new {w0 w : World} {g : Nat} (u v : Value) (hn : New w0 w) (hg : w0.heap.size ≤ g) : New w0 ((w.setCell ⟨g, 0, none⟩ u).setCell ⟨g, 1, none⟩ v) :=
  (hn.setCell (p := ⟨g, 0, none⟩) (by exact hg) _).setCell (p := ⟨g, 1, none⟩) (by exact hg) _

/-- a block of two cells -/
def At2 (w : World) (g : Nat) (t : TypeId) (x y : Value) : Prop := w.heap[g]? = some (.cells #[x, y] t)

theorem At2.new {w w' : World} {g : Nat} {t : TypeId} {x y : Value} (h : At2 w g t x y) (hn : New w w') : At2 w' g t x y := (hn.block _ (lt_of_block h)).trans h

theorem At2.only {F : Nat → Prop} {w w' : World} {g : Nat} {t : TypeId} {x y : Value} (h : At2 w g t x y) (hn : Only F w w') (hg : ¬ F g) : At2 w' g t x y := (hn.block g (lt_of_block h) hg).trans h

theorem At2.cells {w : World} {g : Nat} {t : TypeId} {x y : Value} (h : At2 w g t x y) : w.cell? ⟨g, 0, none⟩ = some x ∧ w.cell? ⟨g, 1, none⟩ = some y :=
  ⟨by rw [cell_of_row w g 0 _ _ _ h]; rfl, by rw [cell_of_row w g 1 _ _ _ h]; rfl⟩

theorem At2.frozen {w : World} {g : Nat} {t : TypeId} {x y : Value} (h : At2 w g t x y) : w.frozen? ⟨g, 0, none⟩ = false ∧ w.frozen? ⟨g, 1, none⟩ = false :=
  ⟨frozen_of_row w g 0 _ _ h, frozen_of_row w g 1 _ _ h⟩

theorem results_cell_tmp {P : Program} {fn : Func} {p u : Tmp} {ty : TypeId} (h : fn.results = #[.cell p ty, .tmp u]) (tmps : Array Value) (w : World) (g : Nat) (t : TypeId) (cs : Array Value) (fr : Nat × Nat) (d : TypeDesc)
    (hp : tmps.getD p undef = .pointer (some ⟨g, 0, none⟩)) (hg : w.heap[g]? = some (.cells cs t fr))
    (hu : P.underlying ty = some d) (hd : (match d with | .struct _ | .array _ _ => true | _ => false) = true) (hi : (P.info? ty).map (·.size) = some cs.size) :
    (results fn tmps).run P w = .ok (.tuple #[.agg cs, tmps.getD u undef]) w := by
  have hp' : tmps[p]?.getD undef = .pointer (some ⟨g, 0, none⟩) := by simpa using hp
  simp [results, h, hp', asAddr, run_loadVar_row w g t ty cs fr d hg hu hd hi]

end Go.Proofs.YtliojldkdmaofaaDoor

namespace Go.Proofs.YtliojldkdmaofaaDoor
set_option linter.unusedVariables false
set_option linter.unusedSimpArgs false
open Go.RowKit

def At4 (w : World) (g : Nat) (t : TypeId) (a b c d : Value) : Prop := w.heap[g]? = some (.cells #[a, b, c, d] t)

section
variable {w w' : World} {g : Nat} {t : TypeId} {a b c d : Value}
theorem At4.lt (k : At4 w g t a b c d) : g < w.heap.size := lt_of_block k
theorem At4.new (k : At4 w g t a b c d) (hn : New w w') : At4 w' g t a b c d := (hn.block _ (lt_of_block k)).trans k
theorem At4.only {F : Nat → Prop} (k : At4 w g t a b c d) (hn : Only F w w') (hg : ¬ F g) : At4 w' g t a b c d := (hn.block g (lt_of_block k) hg).trans k
theorem At4.cells (k : At4 w g t a b c d) : w.cell? ⟨g, 0, none⟩ = some a ∧ w.cell? ⟨g, 1, none⟩ = some b ∧ w.cell? ⟨g, 2, none⟩ = some c ∧ w.cell? ⟨g, 3, none⟩ = some d :=
  ⟨by rw [cell_of_row w g 0 _ _ _ k]; rfl, by rw [cell_of_row w g 1 _ _ _ k]; rfl, by rw [cell_of_row w g 2 _ _ _ k]; rfl, by rw [cell_of_row w g 3 _ _ _ k]; rfl⟩
theorem At4.frozen (k : At4 w g t a b c d) : w.frozen? ⟨g, 0, none⟩ = false ∧ w.frozen? ⟨g, 1, none⟩ = false ∧ w.frozen? ⟨g, 2, none⟩ = false ∧ w.frozen? ⟨g, 3, none⟩ = false :=
  ⟨frozen_of_row w g 0 _ _ k, frozen_of_row w g 1 _ _ k, frozen_of_row w g 2 _ _ k, frozen_of_row w g 3 _ _ k⟩
theorem At4.set0 (k : At4 w g t a b c d) (u : Value) : At4 (w.setCell ⟨g, 0, none⟩ u) g t u b c d := by
  unfold At4; rw [heap_setCell_same _ _ _ _ _ _ k]; rfl
theorem At4.set1 (k : At4 w g t a b c d) (u : Value) : At4 (w.setCell ⟨g, 1, none⟩ u) g t a u c d := by
  unfold At4; rw [heap_setCell_same _ _ _ _ _ _ k]; rfl
theorem At4.set2 (k : At4 w g t a b c d) (u : Value) : At4 (w.setCell ⟨g, 2, none⟩ u) g t a b u d := by
  unfold At4; rw [heap_setCell_same _ _ _ _ _ _ k]; rfl
theorem At4.set3 (k : At4 w g t a b c d) (u : Value) : At4 (w.setCell ⟨g, 3, none⟩ u) g t a b c u := by
  unfold At4; rw [heap_setCell_same _ _ _ _ _ _ k]; rfl
theorem At4.put (k : At4 w g t a b c d) (a' b' c' d' : Value) : At4 ((((w.setCell ⟨g, 0, none⟩ a').setCell ⟨g, 1, none⟩ b').setCell ⟨g, 2, none⟩ c').setCell ⟨g, 3, none⟩ d') g t a' b' c' d' := (((k.set0 a').set1 b').set2 c').set3 d'
end

theorem only_cell (w : World) (g i : Nat) (u : Value) : Only (fun k => k = g) w (w.setCell ⟨g, i, none⟩ u) := (Only.refl (fun k => k = g) w).setCell (fun _ => rfl) u

theorem At4.put_only (w : World) (g : Nat) (a b c d : Value) : Only (fun k => k = g) w ((((w.setCell ⟨g, 0, none⟩ a).setCell ⟨g, 1, none⟩ b).setCell ⟨g, 2, none⟩ c).setCell ⟨g, 3, none⟩ d) :=
  ((((Only.refl (fun k => k = g) w).setCell (p := ⟨g, 0, none⟩) (fun _ => rfl) a).setCell (p := ⟨g, 1, none⟩) (fun _ => rfl) b).setCell (p := ⟨g, 2, none⟩) (fun _ => rfl) c).setCell (p := ⟨g, 3, none⟩) (fun _ => rfl) d

theorem At4.made (w : World) (t : TypeId) (a b c d : Value) : At4 (w.alloc (.cells #[a, b, c, d] t)) w.heap.size t a b c d := heap_alloc_new w _

end Go.Proofs.YtliojldkdmaofaaDoor

namespace Go.Proofs.YtliojldkdmaofaaDoor
set_option linter.unusedVariables false
set_option linter.unusedSimpArgs false
open Go.RowKit

theorem ownSl_form {w : World} {base : Nat} {e : TypeId} {v : Value} {n : Nat} {xs : List Value} (h : w.ownsRow base e 1 v n xs) : ∃ a c, v = .slice a n c ∧ n ≤ c ∧ (0 < n → ∃ g, a = some ⟨g, 0, none⟩ ∧ ∀ i u, xs[i]? = some u → w.cell? ⟨g, i, none⟩ = some u) := by
  have h0 := h
  rcases h.2 with ⟨e1, e2⟩ | ⟨g, cap, cur, e1, hb1, e3, rest⟩
  · exact ⟨none, 0, by rw [e1, e2], by omega, fun hn => by omega⟩
  · refine ⟨some ⟨g, 0, none⟩, cap, e1, rest.1, fun _ => ⟨g, rfl, fun i u hu => ?_⟩⟩
    have h6 := h0.cells (g := g) (by rw [e1]; rfl) i u hu
    rwa [Addr.add_lit, Nat.zero_add] at h6

theorem own_more {w w' : World} {base : Nat} {e : TypeId} {v : Value} {n : Nat} {xs : List Value} (h : w.ownsRow base e 1 v n xs) (hn : New w w') : w'.ownsRow base e 1 v n xs := by
  refine ⟨h.1, ?_⟩
  rcases h.2 with h0 | ⟨g, cap, cur, e1, hb1, e3, rest⟩
  · exact .inl h0
  · exact .inr ⟨g, cap, cur, e1, hb1, (hn.block g (lt_of_block e3)).trans e3, rest⟩

/-- append(v, u), u from a new block -/
theorem run_append_u {P : Program} (base : Nat) (wr : World) (t ty e : TypeId) (i : TypeInfo) (z : Value) (bytes : Nat) (ht : P.underlying t = some (.slice e)) (hi : P.info? e = some i) (hz : i.zero = some z)
    (hsize : i.size = 1) (hby : i.bytes = bytes) (hzs : z.cells.size = 1) (v : Value) (n : Nat) (xs : List Value) (hown : wr.ownsRow base e 1 v n xs) (u : Value) (hu : u.oneCell' = true) (hb : (n + 1) * bytes ≤ 140737488355328) (hn : n + 1 ≤ 140737488355328) (hbase : base ≤ wr.heap.size) :
    ∃ v' w', (Builtin.append_ #[t, t] ty #[v, .slice (some ⟨wr.heap.size, 0, none⟩) 1 1]).run P (wr.alloc (.cells #[u] e)) = .ok v' w' ∧ w'.ownsRow base e 1 v' (n + 1) (xs ++ [u]) ∧ Only (fun k => blk v = some k) wr w' ∧ (blk v' = blk v ∨ ∃ k, blk v' = some k ∧ wr.heap.size ≤ k) ∧ (∀ k, blk v' = some k → k < w'.heap.size) := by
  have N1 : New wr (wr.alloc (.cells #[u] e)) := (Below.refl _ _).alloc (Nat.le_refl _) _
  obtain ⟨v', w', hr, r2, r3, _, r5⟩ := run_append_own_at (P := P) (w := wr.alloc (.cells #[u] e)) base t ty e i z 1 bytes ht hi hz hsize hby hzs (by omega) v n xs (own_more hown N1) ⟨wr.heap.size, 0, none⟩ 1 1 [u] rfl
    (fun j y hy => by
      cases j with
      | zero => cases hy; simp [Addr.add]
      | succ j => simp at hy) (by simpa using hu) (by simp only [maxLen]; omega) hb (Nat.le_trans hbase N1.size)
  refine ⟨v', w', hr, r2, ?_, ?_, ?_⟩
  · refine (Only.grown (New.only (F := fun k => blk v = some k) N1) r3 (fun k hk _ => ?_))
    rw [blk_own]; exact hk
  · rw [blk_own, blk_own]
    rcases r5 with h | h
    · exact .inl h
    · exact .inr ⟨_, h, N1.size⟩
  · intro k hk
    exact (r2.lt k (by rw [← blk_own]; exact hk)).2

theorem wpList_app1 {P : Program} {w : World} {ops : Array Oper} {rest : List Oper} {o : Oper} {a : Act} {Q : Exit → Act → World → Prop} (hgd : o.guard = none) (s x : Operand) (t : TypeId) (ho : o.op = .call { callee := .builtin .append, args := #[s, x], argTypes := #[t, t] })
    (vs vx : Value) (hs : a.eval s = vs) (hx : a.eval x = vx) {v' : Value} {w' : World} (hr : (Builtin.append_ #[t, t] o.type #[vs, vx]).run P w = .ok v' w') (h : wpList P ops Q rest (a.put o.dst v') w') : wpList P ops Q (o :: rest) a w :=
  wpList_plain hgd fun K hK => oper_append s x t ho vs vx hs hx hr (hK _ _ h)

end Go.Proofs.YtliojldkdmaofaaDoor
