/-
  The helpers of layer 16's statements: key, small.
-/
import Derived.Test.YtnekcdpfphgpbaaArg16
import Derived.Test.YtnekcdpfphgpbaaCellN
import Derived.Test.YtnekcdpfphgpbaaDskA
import Derived.Test.YtnekcdpfphgpbaaSlZero
namespace Go.Proofs.Ytnekcdpfphgpbaa
set_option linter.unusedVariables false
set_option linter.unusedSimpArgs false
set_option maxRecDepth 100000
open Go.RowKit

/-- the law's keys: 32 octets -/
def kb16 (c : Int) (i : Nat) : UInt8 := UInt8.ofNat ((c + i).toNat % 256)
def keyL16 (c : Int) : List UInt8 := (List.range 32).map (kb16 c)

theorem keyL16_length (c : Int) : (keyL16 c).length = 32 := by simp [keyL16]

theorem kb16_wrap {c : Int} (hc : 0 ≤ c) (i : Nat) : IntKind.u8.wrap (c + (i : Int)) = ((kb16 c i).toNat : Int) := by
  rw [IntKind.wrap_u8]
  unfold kb16
  rw [UInt8.toNat_ofNat']
  omega

/-- the key, in memory of its own -/
def KeyTo16 (w : World) (c : Int) (e : Ending) (w' : World) : Prop := ∃ g, e = .returned (.slice (some ⟨g, 0, none⟩) 32 32) ∧ w'.heap[g]? = some (.cells ((keyL16 c).map bv).toArray 5 (0, 0)) ∧ w.heap.size ≤ g ∧ New w w'

set_option maxHeartbeats 1000000 in
theorem key16 (w : World) (c : Int) (hc : 0 ≤ c ∧ c ≤ 255) : Calls Try.prog 13 #[.int .u8 c] w (KeyTo16 w c) := by
  have hmk : ∀ wx : World, (Instr.makeSlice 37 (.int .i64 32) (.int .i64 32)).run Try.prog wx = .ok (.slice (some ⟨wx.heap.size, 0, none⟩) 32 32) (wx.alloc (.cells ((List.replicate 32 (0 : UInt8)).map bv).toArray 5)) := fun wx => run_make10 32 (by omega) wx
  go_enter Try.func13, Try.ntmps13
  go_upto_region 2 with fail
  generalize hw1 : World.alloc w _ = w1
  have HB : Hid (w1.heap[w.heap.size]? = some (.cells ((List.replicate 32 (0 : UInt8)).map bv).toArray 5 (0, 0))) := Lib.hid (by rw [← hw1, heap_alloc_new]; rfl)
  have N1 : Hid (New w w1) := Lib.hid (by rw [← hw1]; exact (Below.refl _ _).alloc (Nat.le_refl _) _)
  clear hw1 hmk
  obtain ⟨b, Hb⟩ : ∃ b, Hid (w.heap.size = b) := ⟨_, Lib.hid rfl⟩
  rw [Hb.out] at HB ⊢
  go_wp2
  go_loopw [4] (fun i wr => ∃ j : Nat, j ≤ 32 ∧ i = .int .i64 j ∧ (∃ l : List UInt8, l.length = 32 ∧ (∀ i, i < j → l[i]? = some (kb16 c i)) ∧ wr.heap[b]? = some (.cells (l.map bv).toArray 5 (0, 0))) ∧ New w wr) (fun i _ => 32 - (intOf i).toNat)
  case atStart => exact ⟨0, by omega, rfl, ⟨_, by simp, fun i hi => absurd hi (Nat.not_lt_zero _), HB.out⟩, N1.out⟩
  case round =>
    clear HB N1
    obtain ⟨j, hj, rfl, ⟨l, hl, hf, hrow⟩, hn⟩ := hrel
    have HL := Lib.hid hl
    have HF := Lib.hid hf
    have HB := Lib.hid hrow
    have HN := Lib.hid hn
    clear hl hrow hn hf
    by_cases hlt : j < 32
    · have hc0 : ∃ u, wr.cell? ⟨b, j, none⟩ = some u := by
        rw [cell_of_row _ _ _ _ _ _ HB.out, List.getElem?_toArray, List.getElem?_map, List.getElem?_eq_getElem (by rw [HL.out]; exact hlt)]
        exact ⟨_, rfl⟩
      obtain ⟨u, hc0⟩ := hc0
      have hfz := frozen_of_row _ _ j _ _ HB.out
      have hc1 : IntKind.u8.wrap (j : Int) = (j : Int) := by rw [IntKind.wrap_u8]; omega
      have hc2 := kb16_wrap hc.1 j
      have HB2 : Hid ((wr.setCell ⟨b, j, none⟩ (bv (kb16 c j))).heap[b]? = some (.cells ((l.set j (kb16 c j)).map bv).toArray 5 (0, 0))) := by
        refine Lib.hid ?_
        rw [heap_setCell_same _ _ _ _ _ _ HB.out, List.setIfInBounds_toArray, ← List.map_set]
      have HF2 : Hid (∀ i, i < j + 1 → (l.set j (kb16 c j))[i]? = some (kb16 c i)) := Lib.hid (fun i hi => by
        rcases Nat.lt_succ_iff_lt_or_eq.1 hi with h | rfl
        · rw [List.getElem?_set_ne (by omega)]; exact HF.out i h
        · rw [List.getElem?_set_self (by rw [HL.out]; exact hlt)])
      have HN2 := Lib.hid (HN.out.setCell (p := ⟨b, j, none⟩) (by show w.heap.size ≤ b; rw [Hb.out]; omega) (bv (kb16 c j)))
      clear HN HF
      have hjz : (j : Int) < 32 := by omega
      generalize kb16 c j = C2 at *
      go_wp2
      go_roundw
      case rel => exact ⟨j + 1, by omega, by go_num, ⟨_, by rw [List.length_set]; exact HL.out, HF2.out, HB2.out⟩, HN2.out⟩
      case measure => simp [intOf]; omega
    · obtain rfl : j = 32 := by omega
      have HE : Hid (l = keyL16 c) := Lib.hid (by
        apply List.ext_getElem?
        intro i
        by_cases hi : i < 32
        · rw [HF.out i hi]; unfold keyL16; rw [List.getElem?_map, List.getElem?_range hi]; rfl
        · rw [List.getElem?_eq_none (by rw [HL.out]; omega), List.getElem?_eq_none (by rw [keyL16_length]; omega)])
      go_wp2
      go_ret
      exact ⟨b, rfl, by rw [← HE.out]; exact HB.out, by rw [Hb.out]; omega, HN.out⟩

/-- whether the acts are few, and bring little -/
def smallK (l : List ActK) (most : Nat) : Bool := decide (l.length ≤ most) && l.all fun x => decide (x.kn ≤ 20) && decide (x.yn ≤ 50)

def allK (l : List ActK) (k : Nat) : Prop := ((l.take k).all fun d => decide (d.kn ≤ 20) && decide (d.yn ≤ 50)) = true

set_option maxHeartbeats 1000000 in
theorem small16 (w : World) (v : Value) (l : List ActK) (most : Nat) (h : RdActK w v l) (hm : most ≤ 100) : Calls Try.prog 6 #[v, .int .i64 most] w fun e w' => e = .returned (.bool (smallK l most)) ∧ w = w' := by
  obtain ⟨a, n, c, rfl⟩ : ∃ a n c, v = .slice a n c := by obtain ⟨⟨a, n, c, e, _⟩, _⟩ := h; exact ⟨a, n, c, e⟩
  obtain ⟨rfl, hn⟩ := h.len
  by_cases h1 : l.length ≤ most
  · go_enter Try.func6, Try.ntmps6
    go_wp2
    go_loop [5] (fun i => ∃ k : Nat, k ≤ l.length ∧ i = .int .i64 k ∧ Hid (allK l k)) (fun i => l.length - (intOf i).toNat)
    case atStart => exact ⟨0, Nat.zero_le _, rfl, rfl⟩
    case round =>
      obtain ⟨k, hk, rfl, HA⟩ := hrel
      by_cases hlt : k < l.length
      · obtain ⟨b, off, rfl, _, _, _, hc3, hc4⟩ := h.at (List.getElem?_eq_getElem hlt)
        by_cases h7 : l[k].kn ≤ 20
        · by_cases h8 : l[k].yn ≤ 50
          · have HK : Hid (allK l (k + 1)) := by
              have hA := HA.out
              unfold allK at hA
              show ((l.take (k + 1)).all fun d => decide (d.kn ≤ 20) && decide (d.yn ≤ 50)) = true
              rw [List.take_succ_eq_append_getElem hlt, List.all_append, hA]
              simp [h7, h8]
            go_wp2
            go_round
            case rel => exact ⟨k + 1, by omega, by go_num, HK⟩
            case measure => simp [intOf]; omega
          · have e : smallK l most = false := by
              unfold smallK
              rw [Bool.and_eq_false_iff]
              right
              rw [List.all_eq_false]
              exact ⟨l[k], List.getElem_mem hlt, by simp [h8]⟩
            have E := Lib.hid e
            clear e
            go_wp2
            go_ret
            exact ⟨by rw [E.out]; rfl, rfl⟩
        · have e : smallK l most = false := by
            unfold smallK
            rw [Bool.and_eq_false_iff]
            right
            rw [List.all_eq_false]
            exact ⟨l[k], List.getElem_mem hlt, by simp [h7]⟩
          have E := Lib.hid e
          clear e
          go_wp2
          go_ret
          exact ⟨by rw [E.out]; rfl, rfl⟩
      · obtain rfl : k = l.length := by omega
        have e : smallK l most = true := by
          unfold smallK
          have := HA.out
          unfold allK at this
          rw [List.take_length] at this
          rw [this]
          simpa using h1
        have E := Lib.hid e
        clear e
        go_wp2
        go_ret
        exact ⟨by rw [E.out]; rfl, rfl⟩
  · have e : smallK l most = false := by unfold smallK; simp [h1]
    rw [e]
    clear e
    go_enter Try.func6, Try.ntmps6
    go_wp2
    go_ret
    exact ⟨rfl, rfl⟩

end Go.Proofs.Ytnekcdpfphgpbaa
