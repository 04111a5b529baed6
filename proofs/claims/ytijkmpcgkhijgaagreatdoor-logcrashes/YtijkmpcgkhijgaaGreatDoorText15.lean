/-
  The helpers of layer 15's statements: text, small.
-/
import Derived.Test.YtijkmpcgkhijgaaGreatDoorArg15
import Derived.Test.YtijkmpcgkhijgaaGreatDoorCellN
import Derived.Test.YtijkmpcgkhijgaaGreatDoorDskA
import Derived.Test.YtijkmpcgkhijgaaGreatDoorSlZero
import Derived.Test.YtijkmpcgkhijgaaGreatDoorRefRest
namespace Go.Proofs.YtijkmpcgkhijgaaGreatDoor
set_option linter.unusedVariables false
set_option linter.unusedSimpArgs false
open Go.RowKit

theorem u8_wrap (x : Int) : ∃ c : UInt8, IntKind.u8.wrap x = (c.toNat : Int) := by
  have h : 0 ≤ IntKind.u8.wrap x ∧ IntKind.u8.wrap x < 256 := by
    rw [IntKind.wrap_u8]; omega
  exact ⟨UInt8.ofNat (IntKind.u8.wrap x).toNat, by rw [UInt8.toNat_ofNat']; omega⟩

/-- some text, of at most 399 bytes, in memory of its own -/
def TextTo (w : World) (e : Ending) (w' : World) : Prop := ∃ l : List UInt8, l.length ≤ 399 ∧ ∃ v, e = .returned v ∧ w'.ownsRow w.heap.size 5 1 v l.length (l.map bv) ∧ New w w'

set_option maxRecDepth 100000 in
set_option maxHeartbeats 1000000 in
theorem text15 (w : World) (x : ActL) : Calls Tryz.prog 11 #[x.val] w (TextTo w) := by
  have HR := Lib.hid fun wx => refRest2 wx x.n 400 (by decide) (by decide)
  obtain ⟨m, Hm, hm⟩ : ∃ m : Nat, Hid (x.n % 400 = (m : Int)) ∧ m ≤ 399 := ⟨(x.n % 400).toNat, Lib.hid (by omega), by omega⟩
  rw [Hm.out] at HR
  rw [show x.val = .agg #[.int .i64 x.kind, .int .i64 x.n, .int .u8 x.b, .slice x.ka x.kn x.kc] from rfl] at *
  go_enter Tryz.func11, Tryz.ntmps11
  go_upto_region 1 with fail
  generalize hw0 : World.alloc w _ = w0
  have HA : Hid (AtN w0 w.heap.size 38 [.int .i64 x.kind, .int .i64 x.n, .int .u8 x.b, .slice x.ka x.kn x.kc]) := Lib.hid (by rw [← hw0]; exact heap_alloc_new _ _)
  have N0 : Hid (New w w0) := Lib.hid (by rw [← hw0]; exact (Below.refl _ _).alloc (Nat.le_refl _) _)
  clear hw0
  obtain ⟨gs, Hgs⟩ : ∃ gs, Hid (w.heap.size = gs) := ⟨_, Lib.hid rfl⟩
  rw [Hgs.out] at HA
  rw [Hgs.out]
  have x1 := HA.out.cell 1 (v := .int .i64 x.n) rfl
  go_wp2_with fail
  refine (HR.out w0).mono ?_
  rintro e w0' ⟨rfl, rfl⟩
  have hmk : ∀ wx : World, (Instr.makeSlice 42 (.int .i64 (m : Int)) (.int .i64 (m : Int))).run Tryz.prog wx = .ok (.slice (some ⟨wx.heap.size, 0, none⟩) m m) (wx.alloc (.cells ((List.replicate m (0 : UInt8)).map bv).toArray 5)) := fun wx => run_make10 m (by omega) wx
  go_upto_region 2 with fail
  generalize hw1 : World.alloc w0 _ = w1
  have HB : Hid (w1.heap[w0.heap.size]? = some (.cells ((List.replicate m (0 : UInt8)).map bv).toArray 5 (0, 0))) := Lib.hid (by rw [← hw1, heap_alloc_new]; simp)
  have n1 : New w0 w1 := by rw [← hw1]; exact (Below.refl _ _).alloc (Nat.le_refl _) _
  have HA1 := Lib.hid (HA.out.new n1)
  have N1 := Lib.hid (New.trans N0.out n1)
  have HLT := Lib.hid HA.out.lt
  clear hw1 n1 x1 HA hmk HR
  obtain ⟨b, Hb⟩ : ∃ b, Hid (w0.heap.size = b) := ⟨_, Lib.hid rfl⟩
  rw [Hb.out] at HB HLT ⊢
  have HBW : Hid (w.heap.size ≤ b) := Lib.hid (by have := N0.out.size; have := Hb.out; omega)
  clear N0 Hb
  go_wp2
  go_loopw [4] (fun i wr => ∃ j : Nat, j ≤ m ∧ i = .int .i64 j ∧ (∃ l : List UInt8, l.length = m ∧ wr.heap[b]? = some (.cells (l.map bv).toArray 5 (0, 0))) ∧ AtN wr gs 38 [.int .i64 x.kind, .int .i64 x.n, .int .u8 x.b, .slice x.ka x.kn x.kc] ∧ New w wr) (fun i _ => m - (intOf i).toNat)
  case atStart => exact ⟨0, by omega, rfl, ⟨_, by simp, HB.out⟩, HA1.out, N1.out⟩
  case round =>
    clear HB HA1 N1
    obtain ⟨j, hj, rfl, ⟨l, hl, hrow⟩, hat, hn⟩ := hrel
    have HL := Lib.hid hl
    have HB := Lib.hid hrow
    have HA := Lib.hid hat
    have HN := Lib.hid hn
    clear hl hrow hat hn
    by_cases hlt : j < m
    · have hc : ∃ u, wr.cell? ⟨b, j, none⟩ = some u := by
        rw [cell_of_row _ _ _ _ _ _ HB.out, List.getElem?_toArray, List.getElem?_map, List.getElem?_eq_getElem (by rw [HL.out]; exact hlt)]
        exact ⟨_, rfl⟩
      obtain ⟨u, hc⟩ := hc
      have hf := frozen_of_row _ _ j _ _ HB.out
      have x2 := HA.out.cell 2 (v := .int .u8 x.b) rfl
      obtain ⟨c1, hc1⟩ := u8_wrap (j : Int)
      obtain ⟨c2, hc2⟩ := u8_wrap (x.b + (c1.toNat : Int))
      have HB2 : Hid ((wr.setCell ⟨b, j, none⟩ (bv c2)).heap[b]? = some (.cells ((l.set j c2).map bv).toArray 5 (0, 0))) := by
        refine Lib.hid ?_
        rw [heap_setCell_same _ _ _ _ _ _ HB.out, List.setIfInBounds_toArray, ← List.map_set]
      have HO : Hid (Only (fun k => k = b) wr (wr.setCell ⟨b, j, none⟩ (bv c2))) := Lib.hid ((Only.refl (fun k => k = b) wr).setCell (p := ⟨b, j, none⟩) (fun _ => rfl) (bv c2))
      have HA2 := Lib.hid (HA.out.only HO.out (by have := HLT.out; omega))
      have HN2 := Lib.hid (HN.out.setCell (p := ⟨b, j, none⟩) (by show w.heap.size ≤ b; exact HBW.out) (bv c2))
      clear HA HN HO
      have hjz : (j : Int) < (m : Int) := by omega
      go_wp2
      go_roundw
      case rel => exact ⟨j + 1, by omega, by go_num, ⟨_, by rw [List.length_set]; exact HL.out, HB2.out⟩, HA2.out, HN2.out⟩
      case measure => simp [intOf]; omega
    · obtain rfl : j = m := by omega
      go_wp2
      go_ret
      refine ⟨l, by rw [HL.out]; exact hm, _, rfl, ?_, HN.out⟩
      rw [HL.out]
      have := own_of_full (base := w.heap.size) HB.out HBW.out (by rw [HL.out]; omega)
      rw [HL.out] at this
      exact this

/-- whether the acts are few, and keep little -/
def smallA (l : List ActL) (most : Nat) : Bool := decide (l.length ≤ most) && l.all fun x => decide (x.kn ≤ 30)

theorem RdAct.len {w : World} {a : Option Addr} {n c : Nat} {l : List ActL} (h : RdAct w (.slice a n c) l) : n = l.length ∧ l.length ≤ 9223372036854775807 := by
  obtain ⟨a', n', c', e, h1, h2, h3, h4, h5⟩ := h.1
  cases e
  rw [List.length_map] at h1
  unfold maxLen at h3
  omega

theorem RdAct.at {w : World} {a : Option Addr} {n c : Nat} {l : List ActL} (h : RdAct w (.slice a n c) l) {i : Nat} {x : ActL} (hx : l[i]? = some x) :
    ∃ b off, a = some ⟨b, off, none⟩ ∧ w.cell? ⟨b, off + i * 4, none⟩ = some (.int .i64 x.kind) ∧ w.cell? ⟨b, off + i * 4 + 1, none⟩ = some (.int .i64 x.n) ∧ w.cell? ⟨b, off + i * 4 + 2, none⟩ = some (.int .u8 x.b) ∧ w.cell? ⟨b, off + i * 4 + 3, none⟩ = some (.slice x.ka x.kn x.kc) := by
  have hn : 0 < n := by
    rw [h.len.1]
    obtain ⟨h1, -⟩ := List.getElem?_eq_some_iff.1 hx
    omega
  obtain ⟨b, off, rfl, hc⟩ := h.1.cell (fun y hy => by obtain ⟨z, -, rfl⟩ := List.mem_map.1 hy; unfold ActL.cells; simp) hn
  have hy : (l.map ActL.cells)[i]? = some x.cells := by rw [List.getElem?_map, hx]; rfl
  exact ⟨b, off, rfl, hc i _ hy 0 _ rfl, hc i _ hy 1 _ rfl, hc i _ hy 2 _ rfl, hc i _ hy 3 _ rfl⟩

set_option maxRecDepth 100000 in
set_option maxHeartbeats 1000000 in
theorem small15 (w : World) (v : Value) (l : List ActL) (most : Nat) (h : RdAct w v l) (hm : most ≤ 100) : Calls Tryz.prog 6 #[v, .int .i64 most] w fun e w' => e = .returned (.bool (smallA l most)) ∧ w = w' := by
  obtain ⟨a, n, c, rfl⟩ : ∃ a n c, v = .slice a n c := by obtain ⟨⟨a, n, c, e, _⟩, _⟩ := h; exact ⟨a, n, c, e⟩
  obtain ⟨rfl, hn⟩ := h.len
  by_cases h1 : l.length ≤ most
  · go_enter Tryz.func6, Tryz.ntmps6
    go_wp2
    go_loop [5] (fun i => ∃ k : Nat, k ≤ l.length ∧ i = .int .i64 k ∧ Hid ((l.take k).all (fun d => decide (d.kn ≤ 30)) = true)) (fun i => l.length - (intOf i).toNat)
    case atStart => exact ⟨0, Nat.zero_le _, rfl, rfl⟩
    case round =>
      obtain ⟨k, hk, rfl, HA⟩ := hrel
      by_cases hlt : k < l.length
      · obtain ⟨b, off, rfl, _, _, _, hc3⟩ := h.at (List.getElem?_eq_getElem hlt)
        by_cases h7 : l[k].kn ≤ 30
        · have HK : Hid ((l.take (k + 1)).all (fun d => decide (d.kn ≤ 30)) = true) := by
            show _ = true
            rw [List.take_succ_eq_append_getElem hlt, List.all_append, HA.out]
            simp [h7]
          go_wp2
          go_round
          case rel => exact ⟨k + 1, by omega, by go_num, HK⟩
          case measure => simp [intOf]; omega
        · have e : smallA l most = false := by
            unfold smallA
            rw [Bool.and_eq_false_iff]
            right
            rw [List.all_eq_false]
            exact ⟨l[k], List.getElem_mem hlt, by simpa using h7⟩
          have E := Lib.hid e
          clear e
          go_wp2
          go_ret
          exact ⟨by rw [E.out]; rfl, rfl⟩
      · obtain rfl : k = l.length := by omega
        have e : smallA l most = true := by
          unfold smallA
          have := HA.out
          rw [List.take_length] at this
          rw [this]
          simpa using h1
        have E := Lib.hid e
        clear e
        go_wp2
        go_ret
        exact ⟨by rw [E.out]; rfl, rfl⟩
  · have e : smallA l most = false := by unfold smallA; simp [h1]
    rw [e]
    clear e
    go_enter Tryz.func6, Tryz.ntmps6
    go_wp2
    go_ret
    exact ⟨rfl, rfl⟩

end Go.Proofs.YtijkmpcgkhijgaaGreatDoor
