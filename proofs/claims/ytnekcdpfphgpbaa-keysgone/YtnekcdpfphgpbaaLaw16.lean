/-
  Layer 16: the state of KeysCrashes' walk.
-/
import Derived.Test.YtnekcdpfphgpbaaKeyApi
import Derived.Test.YtnekcdpfphgpbaaKey16
namespace Go.Proofs.Ytnekcdpfphgpbaa
set_option linter.unusedVariables false
set_option linter.unusedSimpArgs false
set_option maxRecDepth 100000
open Go.RowKit

theorem kGetK_iff {L : List KSlot} (hd : KDist L) {b : Nat} {k : List UInt8} : kGetK L b = some k ↔ ∃ i : Nat, L[i]? = some (some (b, k)) := by
  unfold kGetK
  constructor
  · intro h
    cases hf : kFind L b with
    | none => rw [hf] at h; cases h
    | some i =>
      rw [hf] at h
      obtain ⟨k', hk'⟩ := kFind_some hf
      have h' : ((L[i]?).bind fun s => s.map (·.2)) = some k := h
      rw [hk'] at h'
      have : k' = k := by simpa using h'
      exact ⟨i, by rw [hk', this]⟩
  · rintro ⟨i, hi⟩
    rw [kFind_at hd hi]
    show ((L[i]?).bind fun s => s.map (·.2)) = some k
    rw [hi]
    rfl

theorem kGetK_none {L : List KSlot} {b : Nat} (h : kFind L b = none) : kGetK L b = none := by unfold kGetK; rw [h]; rfl

theorem kGetK_some {L : List KSlot} {b i : Nat} (hd : KDist L) (h : kFind L b = some i) : ∃ k, kGetK L b = some k := by
  obtain ⟨k, hk⟩ := kFind_some h
  exact ⟨k, (kGetK_iff hd).2 ⟨i, hk⟩⟩

theorem kFree {L : List KSlot} {i : Nat} (h : L.findIdx? (·.isNone) = some i) : L[i]? = some none := by
  obtain ⟨hi, h1, -⟩ := List.findIdx?_eq_some_iff_getElem.1 h
  rw [List.getElem?_eq_getElem hi]
  generalize L[i] = s at *
  cases s with
  | none => rfl
  | some p => cases h1

theorem kGetK_put {L : List KSlot} {b i : Nat} {k : List UInt8} (h : KOk L) (h' : KOk (L.set i (some (b, k)))) (hf : kFind L b = none) (hi : L[i]? = some none) (c : Nat) : kGetK (L.set i (some (b, k))) c = if c = b then some k else kGetK L c := by
  have hlt : i < L.length := (List.getElem?_eq_some_iff.1 hi).1
  apply Option.ext
  intro x
  rw [kGetK_iff h'.dist]
  constructor
  · rintro ⟨j, hj⟩
    rw [List.getElem?_set] at hj
    by_cases e : i = j
    · rw [if_pos e, if_pos (by omega)] at hj
      cases hj
      rw [if_pos rfl]
    · rw [if_neg e] at hj
      have : c ≠ b := kFind_none hf j _ hj
      rw [if_neg this]
      exact (kGetK_iff h.dist).2 ⟨j, hj⟩
  · intro hx
    by_cases e : c = b
    · rw [if_pos e] at hx
      cases hx
      exact ⟨i, by rw [List.getElem?_set_self hlt, e]⟩
    · rw [if_neg e] at hx
      obtain ⟨j, hj⟩ := (kGetK_iff h.dist).1 hx
      refine ⟨j, ?_⟩
      rw [List.getElem?_set_ne (fun e' => by rw [← e', hi] at hj; cases hj)]
      exact hj

theorem kGetK_shred {L : List KSlot} {b i : Nat} (h : KOk L) (hf : kFind L b = some i) (c : Nat) : kGetK (L.set i none) c = if c = b then none else kGetK L c := by
  obtain ⟨k, hk⟩ := kFind_some hf
  have hlt : i < L.length := (List.getElem?_eq_some_iff.1 hk).1
  apply Option.ext
  intro x
  rw [kGetK_iff (KOk.shred h).dist]
  constructor
  · rintro ⟨j, hj⟩
    rw [List.getElem?_set] at hj
    by_cases e : i = j
    · rw [if_pos e, if_pos (by omega)] at hj
      cases hj
    · rw [if_neg e] at hj
      have : c ≠ b := fun e' => e (h.dist i j _ _ hk hj e'.symm)
      rw [if_neg this]
      exact (kGetK_iff h.dist).2 ⟨j, hj⟩
  · intro hx
    by_cases e : c = b
    · rw [if_pos e] at hx; cases hx
    · rw [if_neg e] at hx
      obtain ⟨j, hj⟩ := (kGetK_iff h.dist).1 hx
      refine ⟨j, ?_⟩
      rw [List.getElem?_set_ne (fun e' => by rw [← e', hk] at hj; cases hj; exact e rfl)]
      exact hj

/-- the law's key of a bucket -/
def keyAt16 (b : Nat) : List UInt8 := keyL16 (((40 * b) % 256 : Nat) : Int)

theorem keyAt16_length (b : Nat) : (keyAt16 b).length = 32 := keyL16_length _

/-- which buckets the table has, and that their keys are the law's -/
structure KAgree (L : List KSlot) (kept : List Bool) (under : Int) : Prop where
  has : ∀ b : Nat, b < 8 → (b : Int) ≠ under → kept[b]? = some (kGetK L b).isSome
  key : ∀ (b : Nat) (k : List UInt8), b < 8 → kGetK L b = some k → k = keyAt16 b

theorem KAgree.put {L : List KSlot} {kept : List Bool} {b i : Nat} (h : KAgree L kept (-1)) (hL : KOk L) (hb : b < 8) (hl : kept.length = 8) (hf : kFind L b = none) (hi : L[i]? = some none) : KAgree (L.set i (some (b, keyAt16 b))) (kept.set b true) (-1) := by
  have hg := kGetK_put hL (hL.put (by omega) (keyAt16_length b) hf) hf hi
  refine ⟨fun c hc _ => ?_, fun c k hc hk => ?_⟩
  · rw [hg c]
    by_cases e : c = b
    · rw [if_pos e, e, List.getElem?_set_self (by omega)]; rfl
    · rw [if_neg e, List.getElem?_set_ne (fun e' => e e'.symm)]
      exact h.has c hc (by omega)
  · rw [hg c] at hk
    by_cases e : c = b
    · rw [if_pos e] at hk; cases hk; rw [e]
    · rw [if_neg e] at hk; exact h.key c k hc hk

theorem KAgree.shred {L : List KSlot} {kept : List Bool} {b i : Nat} (h : KAgree L kept (-1)) (hL : KOk L) (hb : b < 8) (hl : kept.length = 8) (hf : kFind L b = some i) : KAgree (L.set i none) (kept.set b false) (-1) := by
  have hg := kGetK_shred hL hf
  refine ⟨fun c hc _ => ?_, fun c k hc hk => ?_⟩
  · rw [hg c]
    by_cases e : c = b
    · rw [if_pos e, e, List.getElem?_set_self (by omega)]; rfl
    · rw [if_neg e, List.getElem?_set_ne (fun e' => e e'.symm)]
      exact h.has c hc (by omega)
  · rw [hg c] at hk
    by_cases e : c = b
    · rw [if_pos e] at hk; cases hk
    · rw [if_neg e] at hk; exact h.key c k hc hk

/-- one bucket left out -/
theorem KAgree.under {L : List KSlot} {kept : List Bool} (h : KAgree L kept (-1)) (u : Int) : KAgree L kept u :=
  ⟨fun b hb _ => h.has b hb (by omega), h.key⟩

theorem KAgree.putHalf {L : List KSlot} {kept : List Bool} {b i : Nat} (h : KAgree L kept (-1)) (hL : KOk L) (hb : b < 8) (hl : kept.length = 8) (hf : kFind L b = none) (hi : L[i]? = some none) : KAgree (L.set i (some (b, keyAt16 b))) kept (b : Int) := by
  have h1 := h.put hL hb hl hf hi
  refine ⟨fun c hc hne => ?_, h1.key⟩
  have := h1.has c hc (by omega)
  rw [List.getElem?_set_ne (by omega)] at this
  exact this

theorem KAgree.shredHalf {L : List KSlot} {kept : List Bool} {b i : Nat} (h : KAgree L kept (-1)) (hL : KOk L) (hb : b < 8) (hl : kept.length = 8) (hf : kFind L b = some i) : KAgree (L.set i none) kept (b : Int) := by
  have h1 := h.shred hL hb hl hf
  refine ⟨fun c hc hne => ?_, h1.key⟩
  have := h1.has c hc (by omega)
  rw [List.getElem?_set_ne (by omega)] at this
  exact this

theorem KAgree.empty : KAgree (List.replicate 8 none) (List.replicate 8 false) (-1) := by
  have h : ∀ b, kGetK (List.replicate 8 none) b = none := fun b => by
    apply kGetK_none
    unfold kFind
    rw [List.findIdx?_eq_none_iff]
    intro s hs
    rw [List.eq_of_mem_replicate hs]
    rfl
  refine ⟨fun b hb _ => ?_, fun b k hb hk => ?_⟩
  · rw [h b, List.getElem?_replicate, if_pos hb]; rfl
  · rw [h b] at hk; cases hk

/-- the law's row of what is kept -/
def KRow (w : World) (kb : Nat) (kept : List Bool) : Prop := w.heap[kb]? = some (.cells (kept.map Value.bool).toArray 4 (0, 0)) ∧ kept.length = 8

theorem KRow.only {w w' : World} {kb : Nat} {kept : List Bool} {F : Nat → Prop} (h : KRow w kb kept) (ho : Only F w w') (hF : ¬ F kb) : KRow w' kb kept := ⟨(ho.block kb (lt_of_block h.1) hF).trans h.1, h.2⟩
theorem KRow.new {w w' : World} {kb : Nat} {kept : List Bool} (h : KRow w kb kept) (hn : New w w') : KRow w' kb kept := ⟨(hn.block kb (lt_of_block h.1)).trans h.1, h.2⟩

abbrev KcH (W : World) (kb : Nat) : Nat → Prop := fun k => W.heap.size ≤ k ∧ k ≠ kb

/-- in the midst of KeysCrashes: the disk at g, its table at p, the row kb of what is kept; ka: what it ought to tell -/
structure KcSt (KM : KObj) (W : World) (g p kb : Nat) (q : Int) (L : List KSlot) (kr ka : List Bool) (wr : World) : Prop where
  new : New W wr
  tab : ∃ D, KD KM q wr (KcH W kb) p g 0 L false 16 D D [] ∧ KOn 0 L D
  row : KRow wr kb kr
  kge : W.heap.size ≤ kb
  ok : KOk L
  len : L.length = 8
  agr : KAgree L ka (-1)

/-- behind the last act: whatever a crash keeps, the table that Open finds agrees -/
structure KcFin (W : World) (g kb : Nat) (kr : List Bool) (u : Int) (wr : World) : Prop where
  new : New W wr
  row : KRow wr kb kr
  kge : W.heap.size ≤ kb
  dev : ∃ q D P, Dvc q wr 16 g (KcH W kb) D (layAll D P) P ∧ D.length = 128 * 16 ∧ P.length ≤ 1 ∧ ∀ keep, KAgree (kOpenT (crAll P D keep).2.2 0 8) kr u

/-- behind the crash -/
structure KcMid (W : World) (g kb : Nat) (kr : List Bool) (u : Int) (C : List UInt8) (wr : World) : Prop where
  new : New W wr
  row : KRow wr kb kr
  kge : W.heap.size ≤ kb
  dev : Dvc (-1) wr 16 g (KcH W kb) C C []
  agr : KAgree (kOpenT C 0 8) kr u

/-- behind Open -/
structure KcEnd (KM : KObj) (W : World) (g p kb : Nat) (L : List KSlot) (kr : List Bool) (u : Int) (wr : World) : Prop where
  new : New W wr
  row : KRow wr kb kr
  obj : ∃ F, KM wr F p g 0 L false
  ok : KOk L
  len : L.length = 8
  agr : KAgree L kr u

section
variable {KM : KObj} {W wr wr' : World} {g p kb : Nat} {q : Int} {L : List KSlot} {kr ka : List Bool} {u : Int} {C : List UInt8}

theorem KcSt.more (A : KeyApi KM) (h : KcSt KM W g p kb q L kr ka wr) (hn : New wr wr') : KcSt KM W g p kb q L kr ka wr' := by
  obtain ⟨D, h1, h2⟩ := h.tab
  exact ⟨New.trans h.new hn, ⟨D, h1.new A hn, h2⟩, h.row.new hn, h.kge, h.ok, h.len, h.agr⟩

theorem KcEnd.more (A : KeyApi KM) (h : KcEnd KM W g p kb L kr u wr) (hn : New wr wr') : KcEnd KM W g p kb L kr u wr' := by
  obtain ⟨F, h1⟩ := h.obj
  exact ⟨New.trans h.new hn, h.row.new hn, ⟨F, A.only h1 (New.only (F := fun _ => False) hn) (fun _ _ f => f)⟩, h.ok, h.len, h.agr⟩

/-- kept[b] = x -/
theorem KcSt.set (A : KeyApi KM) {b : Nat} {x : Bool} (h : KcSt KM W g p kb q L kr (kr.set b x) wr) : KcSt KM W g p kb q L (kr.set b x) (kr.set b x) (wr.setCell ⟨kb, b, none⟩ (.bool x)) := by
  obtain ⟨D, h1, h2⟩ := h.tab
  have ho : Only (fun k => k = kb) wr (wr.setCell ⟨kb, b, none⟩ (.bool x)) := (Only.refl (fun k => k = kb) wr).setCell (p := ⟨kb, b, none⟩) (fun _ => rfl) _
  refine ⟨Below.trans h.new (ho.below h.new.size (fun k hk => by rw [hk]; exact h.kge)), ⟨D, h1.only A ho (fun k hk e => hk.2 e), h2⟩, ⟨?_, by rw [List.length_set]; exact h.row.2⟩, h.kge, h.ok, h.len, h.agr⟩
  rw [heap_setCell_same _ _ _ _ _ _ h.row.1, List.setIfInBounds_toArray, ← List.map_set]

theorem KcSt.fin (h : KcSt KM W g p kb q L kr kr wr) (u : Int) : KcFin W g kb kr u wr := by
  obtain ⟨D, h1, h2⟩ := h.tab
  have hd := h1.dvc
  have hl := hd.lens
  refine ⟨h.new, h.row, h.kge, q, D, [], hd, hl.1, Nat.zero_le _, fun keep => ?_⟩
  have hc := (crOk_all (P := []) (fun p hp => (nomatch hp)) hl.1 keep).secs
  have h3 := kOpenT_same (B := (crAll [] D keep).2.2) (frm := 0) h.ok (fun i s hi => by
    rcases hc (0 + 2 * i) with e | ⟨p, hp, -⟩
    · rw [e]; exact (h2 i s hi).1
    · cases hp) 8 (by rw [h.len]; exact Nat.le_refl _)
  rw [h3, ← h.len, List.take_length]
  exact h.agr.under u

/-- the table that Open makes on a new disk, a row of eight made behind it -/
theorem KcSt.start (A : KeyApi KM) {w2 w3 w4 : World} {D' : List UInt8} {F : Nat → Prop} (hn : New W w2) (hF : ∀ k, F k → W.heap.size ≤ k) (ht : KDTo KM (-1) w2 F p g 0 (kOpenT (zeros (128 * 16)) 0 8) false 16 D' D' [] w3) (hon : KOn 0 (kOpenT (zeros (128 * 16)) 0 8) D') (hn4 : New w3 w4) (hrow : w4.heap[w3.heap.size]? = some (.cells ((List.replicate 8 false).map Value.bool).toArray 4 (0, 0))) :
    KcSt KM W g p w3.heap.size (-1) (List.replicate 8 none) (List.replicate 8 false) (List.replicate 8 false) w4 := by
  have e : kOpenT (zeros (128 * 16)) 0 8 = List.replicate 8 none := by
    have := kOpenT_same (B := zeros (128 * 16)) (frm := 0) (KOk_empty 8) (fun i s hi => ((KOn_zeros 16 0 8 (by omega)) i s hi).1) 8 (by simp)
    rw [this, List.take_replicate]; rfl
  rw [e] at ht hon
  have hsz := hn.size
  have hsz3 := ht.2.size
  refine ⟨New.trans (Below.trans hn (ht.2.below hsz hF)) hn4, ⟨D', (ht.1.narrow A (fun k hk hh => ⟨?_, by omega⟩)).new A hn4, hon⟩, ⟨hrow, by simp⟩, by omega, KOk_empty 8, by simp, KAgree.empty⟩
  rcases hh with h | h
  · exact hF k h
  · omega

theorem KcSt.kept (h : KcSt KM W g p kb q L kr kr wr) {b : Nat} (hb : b < 8) : kr[b]? = some (kGetK L b).isSome := h.agr.has b hb (by omega)

theorem kcFinOf {A E1 E2 : Prop} {uv : Value} (h : (A ∧ uv = .int .i64 (-1) ∧ ∃ L kept, KcSt KM W g p kb (-1) L kept kept wr) ∨ (E1 ∧ E2 ∧ ∃ kept v, uv = .int .i64 v ∧ KcFin W g kb kept v wr)) : ∃ kept v, uv = .int .i64 v ∧ KcFin W g kb kept v wr := by
  rcases h with ⟨-, h1, L, kept, h2⟩ | ⟨-, -, h⟩
  · exact ⟨kept, -1, h1, h2.fin (-1)⟩
  · exact h

theorem kcStOf {A E1 E2 : Prop} {uv : Value} (h : (A ∧ uv = .int .i64 (-1) ∧ ∃ L kept, KcSt KM W g p kb (-1) L kept kept wr) ∨ (E1 ∧ E2 ∧ ∃ kept v, uv = .int .i64 v ∧ KcFin W g kb kept v wr)) (hn : ¬ E1) : uv = .int .i64 (-1) ∧ ∃ L kept, KcSt KM W g p kb (-1) L kept kept wr := by
  rcases h with ⟨-, h⟩ | ⟨e, -⟩
  · exact h
  · exact absurd e hn

/-- what the law's last region reads -/
def KcR (kb b : Nat) (x : Bool) (w : World) : Prop := w.cell? ⟨kb, b, none⟩ = some (.bool x)
def KcR2 (kb b : Nat) (x : Bool) (v : Value) (t : List UInt8) (w : World) : Prop := w.cell? ⟨kb, b, none⟩ = some (.bool x) ∧ Str10 v t w

theorem KRow.cell {w : World} {kb b : Nat} {kept : List Bool} {x : Bool} (h : KRow w kb kept) (hx : kept[b]? = some x) : w.cell? ⟨kb, b, none⟩ = some (.bool x) := by
  rw [cell_of_row _ _ _ _ _ _ h.1, List.getElem?_toArray, List.getElem?_map, hx]; rfl

/-- behind Put or Shred -/
def KcTo (KM : KObj) (W : World) (g p kb : Nat) (q : Int) (kr : List Bool) (b : Nat) (x : Bool) (L : List KSlot) (e : Ending) (w' : World) : Prop :=
  (e = .returned .nilIface ∧ ∃ q' L', (q = -1 → q' = -1) ∧ KcSt KM W g p kb q' L' kr (kr.set b x) w') ∨
  ((∃ y, e = .returned (.iface 102 y)) ∧ ((∃ q', (q = -1 → q' = -1) ∧ KcSt KM W g p kb q' L kr kr w') ∨ (q ≠ -1 ∧ KcFin W g kb kr (b : Int) w')))

theorem kcPut {w2 : World} {g2 b : Nat} (A : KeyApi KM) (h : KcSt KM W g p kb q L kr kr wr) (hn : New wr w2) (hrow : w2.heap[g2]? = some (.cells ((keyAt16 b).map bv).toArray 5 (0, 0))) (hge : wr.heap.size ≤ g2) (hb : b < 8) (hk : kr[b]? = some false) :
    Calls Try.prog 12 #[.pointer (some ⟨p, 0, none⟩), .int .i64 (b : Int), .slice (some ⟨g2, 0, none⟩) 32 32] w2 (KcTo KM W g p kb q kr b true L) := by
  have hrd : Rd w2 (.slice (some ⟨g2, 0, none⟩) 32 32) (keyAt16 b) := by
    have := rd_row10 hrow (by rw [keyAt16_length]; omega)
    rwa [keyAt16_length] at this
  have hf : kFind L b = none := by
    have h1 := h.kept hb
    rw [hk] at h1
    cases hf : kFind L b with
    | none => rfl
    | some i =>
      obtain ⟨k, hk'⟩ := kGetK_some h.ok.dist hf
      rw [hk'] at h1
      simp at h1
  have hkb := lt_of_block h.row.1
  cases hfree : L.findIdx? (·.isNone) with
  | none =>
    obtain ⟨D, ⟨F, G, h1, -⟩, -⟩ := h.tab
    have h2 := A.only h1 (New.only (F := fun _ => False) hn) (fun _ _ f => f)
    refine (A.putNo h2 b _ (keyAt16 b) (by omega) (keyAt16_length b) hrd (.inr hfree) (by rw [h.len]; omega)).mono ?_
    rintro e w' ⟨he, hn'⟩
    exact .inr ⟨he, .inl ⟨q, fun e => e, (h.more A hn).more A hn'⟩⟩
  | some i =>
    have hi := kFree hfree
    have hlt : i < L.length := (List.getElem?_eq_some_iff.1 hi).1
    obtain ⟨D, h1, h2⟩ := h.tab
    have h3 : KD KM q w2 (fun k => KcH W kb k ∧ k < wr.heap.size) p g 0 L false 16 D D [] := (h1.narrow A (fun k hk hh => ⟨hh, hk⟩)).new A hn
    have hsz := h.new.size
    have hsz2 := hn.size
    have hH : ∀ k, ((KcH W kb k ∧ k < wr.heap.size) ∨ w2.heap.size ≤ k) → KcH W kb k := fun k hk => hk.elim (fun h => h.1) (fun h => ⟨by omega, by omega⟩)
    refine (A.put h3 h.ok h2 (by rw [h.len]; omega) (by rw [h.len]; omega) b _ (keyAt16 b) (by omega) (keyAt16_length b) hrd (fun j hj hh => ?_) hf i hlt hfree).mono ?_
    · simp [blk] at hj; subst hj; omega
    · rintro e w' (⟨he, q', D', hq, ht, hon⟩ | ⟨hq, he, q', L2, D', P', ht, hh⟩)
      · have hrow' : KRow w' kb kr := (h.row.new hn).only ht.2 (fun hk => hk.1.2 rfl)
        have hnew : New W w' := Below.trans (New.trans h.new hn) (ht.2.below (Nat.le_trans hsz hsz2) (fun k hk => hk.1.1))
        exact .inl ⟨he, q', _, hq, hnew, ⟨D', ht.1.narrow A (fun k _ hk => hH k hk), hon⟩, hrow', h.kge, h.ok.put (by omega) (keyAt16_length b) hf, by rw [List.length_set]; exact h.len, h.agr.put h.ok hb h.row.2 hf hi⟩
      · have hrow' : KRow w' kb kr := (h.row.new hn).only ht.2 (fun hk => hk.1.2 rfl)
        have hnew : New W w' := Below.trans (New.trans h.new hn) (ht.2.below (Nat.le_trans hsz hsz2) (fun k hk => hk.1.1))
        refine .inr ⟨he, .inr ⟨hq, hnew, hrow', h.kge, q', D', P', (ht.1.narrow A (fun k _ hk => hH k hk)).dvc, hh.len, hh.few, fun keep => ?_⟩⟩
        have hcr := kHalfCrash hh h.ok (h.ok.put (by omega) (keyAt16_length b) hf) hlt keep
        rw [h.len] at hcr
        rcases hcr with e | e
        · rw [e]; exact h.agr.under _
        · rw [e]; exact h.agr.putHalf h.ok hb h.row.2 hf hi

theorem kcShred {b : Nat} (A : KeyApi KM) (h : KcSt KM W g p kb q L kr kr wr) (hb : b < 8) (hk : kr[b]? = some true) :
    Calls Try.prog 11 #[.pointer (some ⟨p, 0, none⟩), .int .i64 (b : Int)] wr (KcTo KM W g p kb q kr b false L) := by
  obtain ⟨i, hf⟩ : ∃ i, kFind L b = some i := by
    have h1 := h.kept hb
    rw [hk] at h1
    cases hf : kFind L b with
    | none => rw [kGetK_none hf] at h1; simp at h1
    | some i => exact ⟨i, rfl⟩
  obtain ⟨k, hik⟩ := kFind_some hf
  have hlt : i < L.length := (List.getElem?_eq_some_iff.1 hik).1
  obtain ⟨D, h1, h2⟩ := h.tab
  have hsz := h.new.size
  have hkb := lt_of_block h.row.1
  have hH : ∀ k, (KcH W kb k ∨ wr.heap.size ≤ k) → KcH W kb k := fun k hk => hk.elim id (fun h => ⟨by omega, by omega⟩)
  refine (A.shred h1 h.ok h2 (by rw [h.len]; omega) (by rw [h.len]; omega) b (by omega) i hlt hf).mono ?_
  rintro e w' (⟨he, q', D', hq, ht, hon⟩ | ⟨hq, he, q', L2, D', P', ht, hh⟩)
  · have hrow' : KRow w' kb kr := h.row.only ht.2 (fun hk => hk.2 rfl)
    have hnew : New W w' := Below.trans h.new (ht.2.below hsz (fun k hk => hk.1))
    exact .inl ⟨he, q', _, hq, hnew, ⟨D', ht.1.narrow A (fun k _ hk => hH k hk), hon⟩, hrow', h.kge, h.ok.shred, by rw [List.length_set]; exact h.len, h.agr.shred h.ok hb h.row.2 hf⟩
  · have hrow' : KRow w' kb kr := h.row.only ht.2 (fun hk => hk.2 rfl)
    have hnew : New W w' := Below.trans h.new (ht.2.below hsz (fun k hk => hk.1))
    refine .inr ⟨he, .inr ⟨hq, hnew, hrow', h.kge, q', D', P', (ht.1.narrow A (fun k _ hk => hH k hk)).dvc, hh.len, hh.few, fun keep => ?_⟩⟩
    have hcr := kHalfCrash hh h.ok h.ok.shred hlt keep
    rw [h.len] at hcr
    rcases hcr with e | e
    · rw [e]; exact h.agr.under _
    · rw [e]; exact h.agr.shredHalf h.ok hb h.row.2 hf

theorem kcLimit (A : KeyApi KM) (h : KcSt KM W g p kb q L kr ka wr) (q' : Int) (hq : -9223372036854775808 ≤ q' ∧ q' ≤ 9223372036854775807) :
    Calls Try.prog 10 #[.pointer (some ⟨g, 0, none⟩), .int .i64 q'] wr fun e w' => e = .returned (.tuple #[]) ∧ KcSt KM W g p kb q' L kr ka w' := by
  obtain ⟨D, ⟨F, G, h1, h2, h3, h4, h5⟩, h6⟩ := h.tab
  have hsz := h.new.size
  have hkb := lt_of_block h.row.1
  refine (diskLimit h2 q' hq).mono ?_
  rintro e w' ⟨he, ht⟩
  have hto := KD.onDisk (H' := KcH W kb) A h1 h3 h4 h5 ht
  exact ⟨he, Below.trans h.new (hto.2.below hsz (fun k hk => hk.1)), ⟨D, hto.1.narrow A (fun k _ hk => hk.elim id (fun h => ⟨by omega, by omega⟩)), h6⟩, h.row.only hto.2 (fun hk => hk.2 rfl), h.kge, h.ok, h.len, h.agr⟩

theorem kcCrash (h : KcFin W g kb kr u wr) (y : Value) (keep : List Int) (hy : RdV W y (keep.map (Value.int .i64))) (hk : keep.length ≤ 1000) :
    Calls Try.prog 14 #[.pointer (some ⟨g, 0, none⟩), y] wr fun e w' => (∃ x, e = .returned (.int .i64 x)) ∧ ∃ C, KcMid W g kb kr u C w' := by
  obtain ⟨q, D, P, h1, h2, h3, h4⟩ := h.dev
  have hok := h1.lens.2.2
  have hsz := h.new.size
  have hkb := lt_of_block h.row.1
  refine (diskCrash h1 y keep (hy.new h.new) (fun k hk hne hf => by have := hy.lt hk hne; have := hf.1; omega) (by omega) (by omega)).mono ?_
  rintro e w' ⟨he, ht⟩
  rw [crash_same16 hok h2 keep] at ht
  exact ⟨⟨_, he⟩, _, Below.trans h.new (ht.2.below hsz (fun k hk => hk.1)), h.row.only ht.2 (fun hk => hk.2 rfl), h.kge, ht.1.narrow (fun k _ hk => hk.elim id (fun h => ⟨by omega, by omega⟩)), h4 keep⟩

theorem kcOpen (A : KeyApi KM) (h : KcMid W g kb kr u C wr) :
    Calls Try.prog 8 #[.pointer (some ⟨g, 0, none⟩), .int .i64 0, .int .i64 8] wr fun e w' => ∃ p L, e = .returned (.tuple #[.pointer (some ⟨p, 0, none⟩), .nilIface]) ∧ KcEnd KM W g p kb L kr u w' := by
  have h0 := A.open_ h.dev 0 8 (by omega) (by omega) (by omega)
  refine h0.mono ?_
  rintro e w' ⟨p, D', he, ⟨⟨F, G, h1, -⟩, ho⟩, -⟩
  exact ⟨p, _, he, Below.trans h.new (ho.below h.new.size (fun k hk => hk.1)), h.row.only ho (fun hk => hk.2 rfl), ⟨F, h1⟩, kOpenT_ok C 0 8, kOpenT_length C 0 8, h.agr⟩
end

end Go.Proofs.Ytnekcdpfphgpbaa
