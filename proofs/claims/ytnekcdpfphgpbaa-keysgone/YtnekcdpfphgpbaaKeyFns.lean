/-
  keys: within, the closures of of and free, IndexFunc, of, free.
-/
import Derived.Test.YtnekcdpfphgpbaaKeyObj
import Derived.Test.YtnekcdpfphgpbaaBase
import Derived.Test.YtnekcdpfphgpbaaFltWrap
import Derived.Deep.Cut
namespace Go.Proofs.Ytnekcdpfphgpbaa
set_option linter.unusedVariables false
set_option linter.unusedSimpArgs false
set_option maxRecDepth 100000
open Go.RowKit

theorem keyWithin (w : World) (n lo hi : Int) : Calls Try.prog 24 #[.int .i64 n, .int .i64 lo, .int .i64 hi] w fun e w' => e = .returned (.bool (decide (lo ≤ n ∧ n ≤ hi))) ∧ w = w' := by
  by_cases h0 : lo ≤ n
  · have d0 : decide (lo ≤ n) = true := by simpa using h0
    obtain ⟨b, hb⟩ : ∃ b, decide (n ≤ hi) = b := ⟨_, rfl⟩
    have e : decide (lo ≤ n ∧ n ≤ hi) = b := by rw [← hb]; simp [h0]
    rw [e]
    clear e h0
    go_enter Try.func24, Try.ntmps24
    go_wp2
    go_ret
    exact ⟨rfl, rfl⟩
  · have d0 : decide (lo ≤ n) = false := by simpa using h0
    have e : decide (lo ≤ n ∧ n ≤ hi) = false := by simp [h0]
    rw [e]
    clear e h0
    go_enter Try.func24, Try.ntmps24
    go_wp2
    go_ret
    exact ⟨rfl, rfl⟩

def BoolTo (w : World) (b : Bool) (e : Ending) (w' : World) : Prop := e = .returned (.bool b) ∧ New w w'

/-- of's closure: a slot of this bucket? -/
theorem keyOfFn (w : World) (s : KSlot) (bb b : Nat) (hb : w.cell? ⟨bb, 0, none⟩ = some (.int .i64 (b : Int))) :
    Calls Try.prog 44 #[.agg (sCells s).toArray, .pointer (some ⟨bb, 0, none⟩)] w (BoolTo w (kHas b s)) := by
  rw [kHas_eq]
  obtain ⟨C, HC⟩ : ∃ C, Hid ((sCells s).toArray = C) := ⟨_, Lib.hid rfl⟩
  rw [HC.out]
  have HB := Lib.hid hb
  clear hb
  obtain ⟨o, HO⟩ : ∃ o, Hid (s.isSome = o) := ⟨_, Lib.hid rfl⟩
  obtain ⟨d, HD⟩ : ∃ d, Hid (((sB s : Int) == (b : Int)) = d) := ⟨_, Lib.hid rfl⟩
  rw [HO.out, HD.out]
  go_enter Try.func44, Try.ntmps44
  go_upto_region 1 with fail
  generalize hw0 : World.alloc w _ = w0
  have HA : Hid (AtN w0 w.heap.size 71 (sCells s)) := Lib.hid (by rw [← hw0, ← HC.out]; exact heap_alloc_new _ _)
  have N0 : New w w0 := by rw [← hw0]; exact (Below.refl _ _).alloc (Nat.le_refl _) _
  have HN := Lib.hid N0
  have hb0 := (World.cell?_of_block (N0.block _ (World.block_lt_of_cell? w _ HB.out))).trans HB.out
  clear hw0 N0
  have x0 := HA.out.cell 0 (v := .bool s.isSome) rfl
  have x1 := HA.out.cell 1 (v := .int .i64 (sB s : Int)) rfl
  rw [HO.out] at x0
  have hd := HD.out
  clear HO HD
  generalize (sB s : Int) = sb at *
  cases o
  · go_wp2
    go_ret
    exact ⟨rfl, HN.out⟩
  · go_wp2
    go_ret
    exact ⟨rfl, HN.out⟩

/-- free's closure: a slot without a key? -/
theorem keyFreeFn (w : World) (s : KSlot) : Calls Try.prog 47 #[.agg (sCells s).toArray] w (BoolTo w s.isNone) := by
  obtain ⟨C, HC⟩ : ∃ C, Hid ((sCells s).toArray = C) := ⟨_, Lib.hid rfl⟩
  rw [HC.out, show s.isNone = !s.isSome by cases s <;> rfl]
  obtain ⟨o, HO⟩ : ∃ o, Hid (s.isSome = o) := ⟨_, Lib.hid rfl⟩
  rw [HO.out]
  go_enter Try.func47, Try.ntmps47
  go_upto_region 1 with fail
  generalize hw0 : World.alloc w _ = w0
  have HA : Hid (AtN w0 w.heap.size 71 (sCells s)) := Lib.hid (by rw [← hw0, ← HC.out]; exact heap_alloc_new _ _)
  have HN : Hid (New w w0) := Lib.hid (by rw [← hw0]; exact (Below.refl _ _).alloc (Nat.le_refl _) _)
  clear hw0
  have x0 := HA.out.cell 0 (v := .bool s.isSome) rfl
  rw [HO.out] at x0
  go_wp2
  go_ret
  exact ⟨rfl, HN.out⟩

theorem infoSlot : (Try.prog.info? 71).map (·.size) = some 34 := by kernel_rfl

/-- the first place of a list where p holds, or -1 -/
def firstI (p : KSlot → Bool) (L : List KSlot) : Int := match L.findIdx? p with | some i => (i : Int) | none => -1

theorem firstI_at {p : KSlot → Bool} {L : List KSlot} {i : Nat} {s : KSlot} (hi : L[i]? = some s) (hp : p s = true) (hno : ∀ j x, j < i → L[j]? = some x → p x = false) : firstI p L = (i : Int) := by
  unfold firstI
  obtain ⟨hlt, hs⟩ := List.getElem?_eq_some_iff.1 hi
  have h1 : L.findIdx? p = some i := List.findIdx?_eq_some_iff_getElem.2 ⟨hlt, by rw [hs]; exact hp, fun j hj => by have := hno j L[j] hj (List.getElem?_eq_getElem (by omega)); simp [this]⟩
  rw [h1]

theorem firstI_none {p : KSlot → Bool} {L : List KSlot} (hno : ∀ (j : Nat) (x : KSlot), L[j]? = some x → p x = false) : firstI p L = -1 := by
  unfold firstI
  have h1 : L.findIdx? p = none := List.findIdx?_eq_none_iff.2 fun x hx => by
    obtain ⟨j, hj⟩ := List.getElem?_of_mem hx
    exact hno j x hj
  rw [h1]

structure IxIn (w : World) (p : KSlot → Bool) (L : List KSlot) (k : Nat) (wr : World) : Prop where
  new : New w wr
  no : ∀ j x, j < k → L[j]? = some x → p x = false


set_option maxHeartbeats 1000000 in
theorem keyIxOf {w : World} {sl : Nat} {L : List KSlot} (hs : AtN w sl 71 (lCells L)) (hok : ∀ s ∈ L, s.ok) (hl : L.length ≤ 64) (bb b : Nat) (hb : w.cell? ⟨bb, 0, none⟩ = some (.int .i64 (b : Int))) :
    Calls Try.prog 43 #[.slice (some ⟨sl, 0, none⟩) L.length L.length, .func (.func 44) #[] #[.pointer (some ⟨bb, 0, none⟩)]] w fun e w' => e = .returned (.int .i64 (firstI (kHas b) L)) ∧ New w w' := by
  have HB := Lib.hid hb
  clear hb
  obtain ⟨PP, HP⟩ : ∃ PP, Hid (kHas b = PP) := ⟨_, Lib.hid rfl⟩
  rw [HP.out]
  have HS := Lib.hid hs
  have HOK := Lib.hid hok
  have HL : Hid (L.length ≤ 64) := Lib.hid hl
  obtain ⟨n, hn⟩ : ∃ n, L.length = n := ⟨_, rfl⟩
  rw [hn] at HL ⊢
  have HLN := Lib.hid hn
  clear hs hok hl hn
  go_enter Try.func43, Try.ntmps43
  go_upto_region 2 with fail
  go_loopw [8] (fun i wr => ∃ k : Nat, k ≤ n ∧ i = .int .i64 k ∧ IxIn w PP L k wr) (fun i _ => n - (intOf i).toNat)
  case atStart => exact ⟨0, by omega, rfl, ⟨Below.refl _ _, fun j x hj => by omega⟩⟩
  case round =>
    obtain ⟨k, hk, rfl, hin⟩ := hrel
    have HI := Lib.hid hin
    clear hin
    by_cases hkn : k < n
    · have d : decide ((k : Int) < (n : Int)) = true := by simpa using hkn
      obtain ⟨s, hs⟩ : ∃ s, L[k]? = some s := ⟨_, List.getElem?_eq_getElem (by rw [HLN.out]; exact hkn)⟩
      have hsok := HOK.out s (List.mem_of_getElem? hs)
      have HRG := Lib.hid (slot_range (HS.out.new HI.out.new) HOK.out hs)
      have HC34 : Hid ((sCells s).length = 34) := Lib.hid (sCells_length hsok)
      have HSG := Lib.hid hs
      have HF := Lib.hid ((keyOfFn wr s bb b ((World.cell?_of_block (HI.out.new.block _ (World.block_lt_of_cell? w _ HB.out))).trans HB.out)))
      rw [congrFun HP.out s] at HF
      clear hs hsok
      have HK : Hid (k < n ∧ n ≤ 64) := Lib.hid ⟨hkn, HL.out⟩
      have hn64 := HL.out
      by_cases hp : PP s = true
      · rw [hp] at HF
        have HE : Hid (firstI PP L = (k : Int)) := Lib.hid (firstI_at HSG.out hp HI.out.no)
        clear hp hk
        go_wp2_with (first | (refine wpList_load_mid rfl 71 _ rfl sl _ rfl _ _ HRG.out Try.underlying71 rfl (by rw [HC34.out]; exact infoSlot) ?_) | (refine HF.out.mono ?_; rintro _ w2 ⟨rfl, n2⟩; have N2 := Lib.hid n2; clear n2))
        go_ret
        exact ⟨by rw [HE.out]; rfl, New.trans HI.out.new N2.out⟩
      · have hpf : PP s = false := by simpa using hp
        rw [hpf] at HF
        have HI2 : Hid (∀ w2, New wr w2 → IxIn w PP L (k + 1) w2) := Lib.hid (fun w2 h2 => ⟨New.trans HI.out.new h2, fun j x hj hx => by
          by_cases hjk : j = k
          · subst hjk; rw [HSG.out] at hx; cases hx; exact hpf
          · exact HI.out.no j x (by omega) hx⟩)
        clear hp hpf hk
        go_wp2_with (first | (refine wpList_load_mid rfl 71 _ rfl sl _ rfl _ _ HRG.out Try.underlying71 rfl (by rw [HC34.out]; exact infoSlot) ?_) | (refine HF.out.mono ?_; rintro _ w2 ⟨rfl, n2⟩; have N2 := Lib.hid n2; clear n2))
        go_roundw
        case measure => have := HK.out; simp only [intOf]; omega
        case rel =>
          have := HK.out
          exact ⟨k + 1, by omega, by go_num, HI2.out _ N2.out⟩
    · have HE : Hid (firstI PP L = -1) := Lib.hid (firstI_none fun j x hx => HI.out.no j x (by have := (List.getElem?_eq_some_iff.1 hx).1; have := HLN.out; omega) hx)
      obtain rfl : k = n := by omega
      clear hkn hk
      go_wp2
      go_ret
      exact ⟨by rw [HE.out]; rfl, HI.out.new⟩

set_option maxHeartbeats 1000000 in
theorem keyIxFree {w : World} {sl : Nat} {L : List KSlot} (hs : AtN w sl 71 (lCells L)) (hok : ∀ s ∈ L, s.ok) (hl : L.length ≤ 64) :
    Calls Try.prog 43 #[.slice (some ⟨sl, 0, none⟩) L.length L.length, .func (.func 47) #[] #[]] w fun e w' => e = .returned (.int .i64 (firstI (·.isNone) L)) ∧ New w w' := by
  obtain ⟨PP, HP⟩ : ∃ PP, Hid ((fun s : KSlot => s.isNone) = PP) := ⟨_, Lib.hid rfl⟩
  rw [HP.out]
  have HS := Lib.hid hs
  have HOK := Lib.hid hok
  have HL : Hid (L.length ≤ 64) := Lib.hid hl
  obtain ⟨n, hn⟩ : ∃ n, L.length = n := ⟨_, rfl⟩
  rw [hn] at HL ⊢
  have HLN := Lib.hid hn
  clear hs hok hl hn
  go_enter Try.func43, Try.ntmps43
  go_upto_region 2 with fail
  go_loopw [8] (fun i wr => ∃ k : Nat, k ≤ n ∧ i = .int .i64 k ∧ IxIn w PP L k wr) (fun i _ => n - (intOf i).toNat)
  case atStart => exact ⟨0, by omega, rfl, ⟨Below.refl _ _, fun j x hj => by omega⟩⟩
  case round =>
    obtain ⟨k, hk, rfl, hin⟩ := hrel
    have HI := Lib.hid hin
    clear hin
    by_cases hkn : k < n
    · have d : decide ((k : Int) < (n : Int)) = true := by simpa using hkn
      obtain ⟨s, hs⟩ : ∃ s, L[k]? = some s := ⟨_, List.getElem?_eq_getElem (by rw [HLN.out]; exact hkn)⟩
      have hsok := HOK.out s (List.mem_of_getElem? hs)
      have HRG := Lib.hid (slot_range (HS.out.new HI.out.new) HOK.out hs)
      have HC34 : Hid ((sCells s).length = 34) := Lib.hid (sCells_length hsok)
      have HSG := Lib.hid hs
      have HF := Lib.hid ((keyFreeFn wr s))
      rw [show s.isNone = PP s from congrFun HP.out s] at HF
      clear hs hsok
      have HK : Hid (k < n ∧ n ≤ 64) := Lib.hid ⟨hkn, HL.out⟩
      have hn64 := HL.out
      by_cases hp : PP s = true
      · rw [hp] at HF
        have HE : Hid (firstI PP L = (k : Int)) := Lib.hid (firstI_at HSG.out hp HI.out.no)
        clear hp hk
        go_wp2_with (first | (refine wpList_load_mid rfl 71 _ rfl sl _ rfl _ _ HRG.out Try.underlying71 rfl (by rw [HC34.out]; exact infoSlot) ?_) | (refine HF.out.mono ?_; rintro _ w2 ⟨rfl, n2⟩; have N2 := Lib.hid n2; clear n2))
        go_ret
        exact ⟨by rw [HE.out]; rfl, New.trans HI.out.new N2.out⟩
      · have hpf : PP s = false := by simpa using hp
        rw [hpf] at HF
        have HI2 : Hid (∀ w2, New wr w2 → IxIn w PP L (k + 1) w2) := Lib.hid (fun w2 h2 => ⟨New.trans HI.out.new h2, fun j x hj hx => by
          by_cases hjk : j = k
          · subst hjk; rw [HSG.out] at hx; cases hx; exact hpf
          · exact HI.out.no j x (by omega) hx⟩)
        clear hp hpf hk
        go_wp2_with (first | (refine wpList_load_mid rfl 71 _ rfl sl _ rfl _ _ HRG.out Try.underlying71 rfl (by rw [HC34.out]; exact infoSlot) ?_) | (refine HF.out.mono ?_; rintro _ w2 ⟨rfl, n2⟩; have N2 := Lib.hid n2; clear n2))
        go_roundw
        case measure => have := HK.out; simp only [intOf]; omega
        case rel =>
          have := HK.out
          exact ⟨k + 1, by omega, by go_num, HI2.out _ N2.out⟩
    · have HE : Hid (firstI PP L = -1) := Lib.hid (firstI_none fun j x hx => HI.out.no j x (by have := (List.getElem?_eq_some_iff.1 hx).1; have := HLN.out; omega) hx)
      obtain rfl : k = n := by omega
      clear hkn hk
      go_wp2
      go_ret
      exact ⟨by rw [HE.out]; rfl, HI.out.new⟩

/-- the slot of a bucket -/
theorem keyOf {w : World} {F : Nat → Prop} {p sl g frm : Nat} {L : List KSlot} {dead : Bool} (h : KTab w F p sl g frm L dead) (b : Nat) :
    Calls Try.prog 26 #[.pointer (some ⟨p, 0, none⟩), .int .i64 (b : Int)] w fun e w' => e = .returned (.int .i64 (firstI (kHas b) L)) ∧ New w w' := by
  have H := Lib.hid h
  obtain ⟨n, hn⟩ : ∃ n, Hid (L.length = n) := ⟨_, Lib.hid rfl⟩
  clear h
  go_enter Try.func26, Try.ntmps26
  go_upto_region 1 with fail
  generalize hw0 : World.alloc w _ = w0
  have N0 : New w w0 := by rw [← hw0]; exact (Below.refl _ _).alloc (Nat.le_refl _) _
  have hb0 : w0.cell? ⟨w.heap.size, 0, none⟩ = some (.int .i64 (b : Int)) := by
    rw [← hw0, cell_of_row _ _ 0 _ _ _ (heap_alloc_new w _)]; rfl
  have HN := Lib.hid N0
  have H0 := Lib.hid (H.out.new N0)
  have HF := Lib.hid (keyIxOf H0.out.slots H0.out.ok H0.out.few _ b hb0)
  rw [hn.out] at HF
  obtain ⟨-, -, x2, -⟩ := H0.out.at_.cells
  rw [hn.out] at x2
  clear hw0 N0 hb0
  generalize w.heap.size = bb at *
  go_wp2_with fail
  refine HF.out.mono ?_
  rintro _ w2 ⟨rfl, N2⟩
  have N2 := Lib.hid N2
  go_wp2
  go_ret
  exact ⟨rfl, New.trans HN.out N2.out⟩

/-- the first free slot -/
theorem keyFree {w : World} {F : Nat → Prop} {p sl g frm : Nat} {L : List KSlot} {dead : Bool} (h : KTab w F p sl g frm L dead) :
    Calls Try.prog 29 #[.pointer (some ⟨p, 0, none⟩)] w fun e w' => e = .returned (.int .i64 (firstI (·.isNone) L)) ∧ New w w' := by
  have HF := Lib.hid (keyIxFree h.slots h.ok h.few)
  obtain ⟨-, -, x2, -⟩ := h.at_.cells
  generalize L.length = n at *
  clear h
  go_enter Try.func29, Try.ntmps29
  go_wp2_with fail
  refine HF.out.mono ?_
  rintro _ w2 ⟨rfl, N2⟩
  have N2 := Lib.hid N2
  go_wp2
  go_ret
  exact ⟨rfl, N2.out⟩

end Go.Proofs.Ytnekcdpfphgpbaa
