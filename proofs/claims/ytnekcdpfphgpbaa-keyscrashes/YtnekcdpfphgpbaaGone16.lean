/-
  Layer 16: the state of KeysGone's walk.
-/
import Derived.Test.YtnekcdpfphgpbaaLaw16
import Derived.Test.YtnekcdpfphgpbaaRefKey16
namespace Go.Proofs.Ytnekcdpfphgpbaa
set_option linter.unusedVariables false
set_option linter.unusedSimpArgs false
set_option maxRecDepth 100000
open Go.RowKit

/-- a slot that has no part of the key k, or is that of the bucket 100 -/
def okG (k : List UInt8) (s : KSlot) : Prop := ∀ p, s = some p → within16 k (keyEnc p.1 p.2) = false ∨ p = (100, k)

/-- what the law's regions read -/
def KgR (v : Value) (k : List UInt8) (q o : Nat) (x : Int) (w : World) : Prop := Str10 v k w ∧ w.cell? ⟨q, o, none⟩ = some (.int .u8 x)

def KgR2 (v : Value) (k : List UInt8) (q o : Nat) (t : List UInt8) (w : World) : Prop := Str10 v k w ∧ w.cell? ⟨q, o, none⟩ = some (.string (bstr t))

/-- a slice of one int, made for a call -/
theorem rdv_int1 (w : World) (n : Int) : RdV (w.alloc (.cells #[.int .i64 n] 3)) (.slice (some ⟨w.heap.size, 0, none⟩) 1 1) ([n].map (Value.int .i64)) := by
  refine ⟨_, _, _, rfl, rfl, Nat.le_refl _, by decide, (fun h => by cases h), fun ad had i u hu => ?_⟩
  cases had
  cases i with
  | zero =>
    cases hu
    have h : (w.alloc (.cells #[.int .i64 n] 3)).heap[w.heap.size]? = some (.cells #[.int .i64 n] 3 (0, 0)) := heap_alloc_new _ _
    rw [Addr.add_lit, cell_of_row _ _ _ _ _ _ h]
    rfl
  | succ i => simp at hu

/-- bucket 100 is there, if it was laid -/
def KgL (L : List KSlot) (lb : Bool) : Prop := lb = true → kGetK L 100 ≠ none

/-- a slot that has no part of the key k -/
def noG (k : List UInt8) (s : KSlot) : Prop := within16 k (slotB s) = false

theorem within16_zero {k : List UInt8} (hk : k ≠ List.replicate 32 0) (hl : k.length = 32) : within16 k keyZero = false := by
  refine within16_no (fun i hi e => hk ?_)
  rw [keyZero_length, hl] at hi
  rw [hl] at e
  unfold keyZero at e
  rw [List.drop_replicate, List.take_replicate, Nat.min_eq_left (by omega)] at e
  exact e.symm

structure KgSt (KM : KObj) (W : World) (g p nb : Nat) (ob : Obj) (L : List KSlot) (k : List UInt8) (wr : World) : Prop where
  new : New W wr
  tab : ∃ D, KD KM (-1) wr (KcH W nb) p g 0 L false 16 D D [] ∧ KOn 0 L D
  box : wr.heap[nb]? = some ob
  nge : W.heap.size ≤ nb
  ok : KOk L
  len : L.length = 8
  good : ∀ s ∈ L, okG k s

section
variable {KM : KObj} {W wr wr' : World} {g p nb : Nat} {ob : Obj} {L : List KSlot} {k : List UInt8}

theorem KgSt.more (A : KeyApi KM) (h : KgSt KM W g p nb ob L k wr) (hn : New wr wr') : KgSt KM W g p nb ob L k wr' := by
  obtain ⟨D, h1, h2⟩ := h.tab
  exact ⟨New.trans h.new hn, ⟨D, h1.new A hn, h2⟩, (hn.block nb (lt_of_block h.box)).trans h.box, h.nge, h.ok, h.len, h.good⟩

theorem KgSt.start (A : KeyApi KM) {w2 w3 : World} {D' : List UInt8} {F : Nat → Prop} (hn : New W w2) (hb : w2.heap[nb]? = some ob) (hnb : W.heap.size ≤ nb) (hF : ∀ j, F j → KcH W nb j) (ht : KDTo KM (-1) w2 F p g 0 (kOpenT (zeros (128 * 16)) 0 8) false 16 D' D' [] w3) (hon : KOn 0 (kOpenT (zeros (128 * 16)) 0 8) D') :
    KgSt KM W g p nb ob (List.replicate 8 none) k w3 := by
  have e : kOpenT (zeros (128 * 16)) 0 8 = List.replicate 8 none := by
    have := kOpenT_same (B := zeros (128 * 16)) (frm := 0) (KOk_empty 8) (fun i s hi => ((KOn_zeros 16 0 8 (by omega)) i s hi).1) 8 (by simp)
    rw [this, List.take_replicate]; rfl
  rw [e] at ht hon
  have hsz := hn.size
  have hlt := lt_of_block hb
  refine ⟨Below.trans hn (ht.2.below hsz (fun j hj => (hF j hj).1)), ⟨D', ht.1.narrow A (fun j hj hh => ?_), hon⟩, (ht.2.block nb hlt (fun hf => (hF nb hf).2 rfl)).trans hb, hnb, KOk_empty 8, by simp, fun s hs q hq => ?_⟩
  · rcases hh with h | h
    · exact hF j h
    · exact ⟨by omega, by omega⟩
  · rw [List.eq_of_mem_replicate hs] at hq; cases hq

/-- Put, whatever it tells -/
theorem kgPut {w2 : World} {b : Nat} {x : Value} {ky : List UInt8} (A : KeyApi KM) (h : KgSt KM W g p nb ob L k wr) (hn : New wr w2) (hrd : Rd w2 x ky) (hl : ky.length = 32) (hx : ∀ j, blk x = some j → j < W.heap.size ∨ wr.heap.size ≤ j) (hb : b ≤ 1099511627776) (hg : within16 k (keyEnc b ky) = false ∨ (b, ky) = (100, k)) :
    Calls Try.prog 12 #[.pointer (some ⟨p, 0, none⟩), .int .i64 (b : Int), x] w2 fun e w' => ∃ L', KgSt KM W g p nb ob L' k w' ∧ ((e = .returned .nilIface ∧ kGetK L' b ≠ none) ∨ ∃ y, e = .returned (.iface 102 y)) ∧ ∀ c, c ≠ b → kGetK L' c = kGetK L c := by
  have hkb := lt_of_block h.box
  by_cases hno : kFind L b ≠ none ∨ L.findIdx? (·.isNone) = none
  · obtain ⟨D, ⟨F, G, h1, -⟩, -⟩ := h.tab
    have h2 := A.only h1 (New.only (F := fun _ => False) hn) (fun _ _ f => f)
    refine (A.putNo h2 b x ky hb hl hrd hno (by rw [h.len]; omega)).mono ?_
    rintro e w' ⟨he, hn'⟩
    exact ⟨L, (h.more A hn).more A hn', .inr he, fun _ _ => rfl⟩
  · rw [not_or, Decidable.not_not] at hno
    obtain ⟨hf, hfr⟩ := hno
    obtain ⟨i, hfree⟩ : ∃ i, L.findIdx? (·.isNone) = some i := Option.ne_none_iff_exists'.1 hfr
    have hi := kFree hfree
    have hlt : i < L.length := (List.getElem?_eq_some_iff.1 hi).1
    obtain ⟨D, h1, h2⟩ := h.tab
    have h3 : KD KM (-1) w2 (fun j => KcH W nb j ∧ j < wr.heap.size) p g 0 L false 16 D D [] := (h1.narrow A (fun j hj hh => ⟨hh, hj⟩)).new A hn
    have hsz := h.new.size
    have hsz2 := hn.size
    refine (A.put h3 h.ok h2 (by rw [h.len]; omega) (by rw [h.len]; omega) b x ky hb hl hrd (fun j hj hh => ?_) hf i hlt hfree).mono ?_
    · have h4 := hh.1.1
      have h5 := hh.2
      rcases hx j hj with h6 | h6 <;> omega
    · rintro e w' (⟨he, q', D', hq, ht, hon⟩ | ⟨hq, -⟩)
      · rw [hq rfl] at ht
        have hg4 := kGetK_put h.ok (h.ok.put (i := i) hb hl hf) hf hi
        refine ⟨_, ⟨Below.trans (New.trans h.new hn) (ht.2.below (Nat.le_trans hsz hsz2) (fun j hj => hj.1.1)), ⟨D', ht.1.narrow A (fun j _ hj => hj.elim (fun h' => h'.1) (fun h' => ⟨by omega, by omega⟩)), hon⟩, (ht.2.block nb (by omega) (fun hf => hf.1.2 rfl)).trans ((hn.block nb hkb).trans h.box), h.nge, h.ok.put hb hl hf, by rw [List.length_set]; exact h.len, fun s hs => ?_⟩, .inl ⟨he, by rw [hg4 b, if_pos rfl]; exact fun e => nomatch e⟩, fun c hc => by rw [hg4 c, if_neg hc]⟩
        rcases List.mem_or_eq_of_mem_set hs with h4 | rfl
        · exact h.good s h4
        · intro q hq; cases hq; exact hg
      · exact absurd rfl hq

/-- Shred, whatever it tells; without an error the bucket is gone -/
theorem kgShred {b : Nat} (A : KeyApi KM) (h : KgSt KM W g p nb ob L k wr) (hb : b ≤ 1099511627776) :
    Calls Try.prog 11 #[.pointer (some ⟨p, 0, none⟩), .int .i64 (b : Int)] wr fun e w' => ∃ L', KgSt KM W g p nb ob L' k w' ∧ ((e = .returned .nilIface ∧ kFind L' b = none) ∨ (kFind L b = none ∧ ∃ y, e = .returned (.iface 102 y))) ∧ ∀ c, c ≠ b → kGetK L' c = kGetK L c := by
  have hkb := lt_of_block h.box
  cases hf : kFind L b with
  | none =>
    obtain ⟨D, ⟨F, G, h1, -⟩, -⟩ := h.tab
    refine (A.shredNo h1 b hb hf (by rw [h.len]; omega)).mono ?_
    rintro e w' ⟨he, hn'⟩
    exact ⟨L, h.more A hn', .inr ⟨rfl, he⟩, fun _ _ => rfl⟩
  | some i =>
    obtain ⟨k', hik⟩ := kFind_some hf
    have hlt : i < L.length := (List.getElem?_eq_some_iff.1 hik).1
    obtain ⟨D, h1, h2⟩ := h.tab
    have hsz := h.new.size
    refine (A.shred h1 h.ok h2 (by rw [h.len]; omega) (by rw [h.len]; omega) b hb i hlt hf).mono ?_
    rintro e w' (⟨he, q', D', hq, ht, hon⟩ | ⟨hq, -⟩)
    · rw [hq rfl] at ht
      refine ⟨_, ⟨Below.trans h.new (ht.2.below hsz (fun j hj => hj.1)), ⟨D', ht.1.narrow A (fun j _ hj => hj.elim id (fun h' => ⟨by omega, by omega⟩)), hon⟩, (ht.2.block nb hkb (fun hf => hf.2 rfl)).trans h.box, h.nge, h.ok.shred, by rw [List.length_set]; exact h.len, fun s hs => ?_⟩, .inl ⟨he, ?_⟩, fun c hc => by rw [kGetK_shred h.ok hf c, if_neg hc]⟩
      · rcases List.mem_or_eq_of_mem_set hs with h4 | rfl
        · exact h.good s h4
        · intro q hq; cases hq
      · cases hg : kFind (L.set i none) b with
        | none => rfl
        | some j =>
          obtain ⟨x, hx⟩ := kGetK_some (h.ok.shred (i := i)).dist hg
          rw [kGetK_shred h.ok hf b, if_pos rfl] at hx
          cases hx
    · exact absurd rfl hq

/-- behind the shredding of bucket 100 no sector has a part of the key -/
theorem KgSt.gone (h : KgSt KM W g p nb ob L k wr) (hf : kFind L 100 = none) (hk : k ≠ List.replicate 32 0) (hl : k.length = 32) : ∃ D, Dvc (-1) wr 16 g (KcH W nb) D D [] ∧ ∀ t, t < 16 → within16 k (sec D t) = false := by
  obtain ⟨D, h1, h2⟩ := h.tab
  refine ⟨D, h1.dvc, fun t ht => ?_⟩
  have hs : ∀ s ∈ L, within16 k (slotB s) = false := by
    intro s hs
    cases s with
    | none => exact within16_zero hk hl
    | some q =>
      rcases h.good _ hs q rfl with h3 | h3
      · exact h3
      · obtain ⟨i, hi⟩ := List.getElem?_of_mem hs
        exact absurd (by rw [h3]) (kFind_none hf i q hi)
  have hlt : t / 2 < L.length := by rw [h.len]; omega
  have h3 := h2 (t / 2) _ (List.getElem?_eq_getElem hlt)
  have h4 := hs _ (List.getElem_mem hlt)
  by_cases e : t % 2 = 0
  · rw [show t = 0 + 2 * (t / 2) by omega, h3.1]; exact h4
  · rw [show t = 0 + 2 * (t / 2) + 1 by omega, h3.2]; exact h4

/-- a crash with nothing waiting; what was made behind wr stays -/
theorem kgCrash {w2 : World} (A : KeyApi KM) (h : KgSt KM W g p nb ob L k wr) (hn : New wr w2) (y : Value) (keep : List Int) (hy : RdV w2 y (keep.map (Value.int .i64))) (hyb : ∀ j, blk y = some j → wr.heap.size ≤ j) (hk : keep.length ≤ 1000) :
    Calls Try.prog 14 #[.pointer (some ⟨g, 0, none⟩), y] w2 fun e w' => (∃ x, e = .returned (.int .i64 x)) ∧ KgSt KM W g p nb ob L k w' ∧ Only (fun j => KcH W nb j ∧ j < wr.heap.size) w2 w' ∧ ∃ F, KM w' F p g 0 L false ∧ ∀ j, F j → j < wr.heap.size := by
  obtain ⟨D, ⟨F, G, h1, h2, h3, h4, h5⟩, h6⟩ := h.tab
  have hsz := h.new.size
  have hsz2 := hn.size
  have hkb := lt_of_block h.box
  have h1' := A.only h1 (New.only (F := fun _ => False) hn) (fun _ _ f => f)
  have h7 := (h2.narrow (G := fun j => G j ∧ j < wr.heap.size) (fun j hj hg => ⟨hg, hj⟩)).new hn
  refine (diskCrash h7 y keep hy (fun j hj hne hf => by have := hyb j hj; have := hf.2; omega) (by omega) (by simp)).mono ?_
  rintro e w' ⟨he, ht⟩
  have hok : OkW 16 ([] : List Wr) := fun p hp => (nomatch hp)
  have e1 := crash_same16 hok h2.lens.1 keep
  have e2 : (crAll [] D keep).2.2 = D := by
    refine eq_of_secs (n := 16) (crOk_all hok h2.lens.1 keep).len h2.lens.1 (fun t _ => ?_)
    rcases (crOk_all hok h2.lens.1 keep).secs t with e | ⟨p, hp, -⟩
    · exact e
    · cases hp
  rw [show layAll D [] = D from rfl] at e1
  rw [e1, e2] at ht
  have hto := KD.onDisk (H' := KcH W nb) A h1' (fun j hj hh => h3 j hj hh.1) h4 (fun j hj => h5 j hj.1) ht
  exact ⟨⟨_, he⟩, ⟨Below.trans (New.trans h.new hn) (hto.2.below (Nat.le_trans hsz hsz2) (fun j hj => hj.1)), ⟨D, hto.1.narrow A (fun j _ hj => hj.elim id (fun h' => ⟨by omega, by omega⟩)), h6⟩, (hto.2.block nb (by omega) (fun hf => hf.2 rfl)).trans ((hn.block nb hkb).trans h.box), h.nge, h.ok, h.len, h.good⟩, ht.2.mono (fun j _ hj => ⟨h5 j hj.1, hj.2⟩), fun j => F j ∧ j < wr.heap.size, A.only (A.only (A.narrow h1 (fun j hj hf => ⟨hf, hj⟩)) (New.only (F := fun _ => False) hn) (fun _ _ f => f)) ht.2 (fun j hj hg => h3 j hj.1 hg.1), fun j hj => hj.2⟩
end

end Go.Proofs.Ytnekcdpfphgpbaa
