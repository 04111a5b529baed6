/-
  sha.padding, sha.padded.
-/
import Derived.Test.YtoooemlcackepaaDoorShaMix
import Derived.Laws.MakeOwn
import Derived.OwnWalk
namespace Go.Proofs.YtoooemlcackepaaDoor
set_option linter.unusedVariables false
set_option linter.unusedSimpArgs false
open Go.RowKit

theorem infoByte : (Tryd.prog.info? 5).map (fun i => (i.zero, i.size, i.bytes)) = some (some (.int .u8 0), 1, 1) := by kernel_rfl

/-- make([]byte, l, c) -/
theorem run_make_bytes (l c : Int) (h0 : 0 ≤ l) (hlc : l ≤ c) (hc : c ≤ 281474976710656) (wx : World) :
    (Instr.makeSlice 22 (.int .i64 l) (.int .i64 c)).run Tryd.prog wx = .ok (.slice (some ⟨wx.heap.size, 0, none⟩) l.toNat c.toNat) (wx.alloc (.cells (List.replicate c.toNat (bv 0)).toArray 5)) := by
  obtain ⟨i0, hi0, hz0, hz1, hz2⟩ := info_parts infoByte
  have h := run_make (P := Tryd.prog) wx 22 5 i0 _ Tryd.underlying22 hi0 hz0 .i64 .i64 l c h0 hlc (by rw [hz2]; omega) (by omega)
  rw [h, hz1, Nat.mul_one]
  have e : madeCells (Value.int .u8 0).cells c.toNat = (List.replicate c.toNat (bv 0)).toArray := by
    apply Array.ext
    · simp [size_madeCells]
    · intro i h1 h2
      simp [madeCells, Value.cells, Nat.mod_one]
  rw [e]

structure PadIn (w : World) (n z k : Nat) (v : Value) (wr : World) : Prop where
  own : wr.ownsRow w.heap.size 5 1 v (128 :: List.replicate z 0 ++ (be64 (8 * n)).take k).length ((128 :: List.replicate z 0 ++ (be64 (8 * n)).take k).map bv)
  new : New w wr

/-- a new row of bytes, returned -/
def OwnRet (w : World) (l : List UInt8) (e : Ending) (w' : World) : Prop := ∃ v, e = .returned v ∧ w'.ownsRow w.heap.size 5 1 v l.length (l.map bv) ∧ New w w'

theorem rd_one (w : World) {m : Int} {b : UInt8} (h : m = (b.toNat : Int)) : Rd (w.alloc (.cells #[.int .u8 m] 5)) (.slice (some ⟨w.heap.size, 0, none⟩) 1 1) [b] := by
  subst h
  exact Rd.made w [b] 5 (0, 0) (by simp)

theorem byte_div (m : Nat) (d : Nat) : (8 * (m : Int)) / 2 ^ d % 256 = ((UInt8.ofNat (8 * m / 2 ^ d)).toNat : Int) := by
  rw [UInt8.toNat_ofNat']
  show _ = ((8 * m / 2 ^ d % 256 : Nat) : Int)
  rw [Int.natCast_emod, Int.natCast_ediv, Int.natCast_pow, Int.natCast_mul]
  rfl

theorem be64_get (m k : Nat) (h : k < 8) : (be64 m)[k]? = some (UInt8.ofNat (m / 2 ^ (56 - 8 * k))) := by
  have h8 : k = 0 ∨ k = 1 ∨ k = 2 ∨ k = 3 ∨ k = 4 ∨ k = 5 ∨ k = 6 ∨ k = 7 := by omega
  rcases h8 with rfl | rfl | rfl | rfl | rfl | rfl | rfl | rfl <;> simp [be64]

theorem be64_take (m k : Nat) (h : k < 8) : (be64 m).take (k + 1) = (be64 m).take k ++ [UInt8.ofNat (m / 2 ^ (56 - 8 * k))] := by
  rw [List.take_add_one, be64_get m k h]; rfl

theorem PadIn.next {w : World} {n z k : Nat} {v : Value} {wr : World} {o : Obj} {L : List UInt8} (h : PadIn w n z k v wr) (hL : (128 :: List.replicate z 0 ++ (be64 (8 * n)).take k : List UInt8) = L) (hk : k < 8) {v' : Value} {w' : World}
    (hown : w'.ownsRow w.heap.size 5 1 v' (L.length + 1) (L.map bv ++ [bv (UInt8.ofNat (8 * n / 2 ^ (56 - 8 * k)))]))
    (hg : (wr.alloc o).grownBy w' v.ownBlock) : PadIn w n z (k + 1) v' w' := by
  refine ⟨?_, ?_⟩
  · rw [be64_take _ _ hk, ← List.append_assoc, hL, List.map_append, List.length_append]
    exact hown
  · refine Below.grown (h.new.alloc h.new.size _) hg (by have := h.new.size; simp; omega) (fun j hj => ?_)
    rcases h.own.2 with ⟨rfl, _⟩ | ⟨g, cap, cur, rfl, hb, _⟩
    · simp [Value.ownBlock] at hj
    · simp [Value.ownBlock] at hj; omega

theorem padEnd {w : World} {n z : Nat} {v : Value} {wr : World} (hz : z = 63 - (n + 8) % 64) (h : PadIn w n z 8 v wr) : OwnRet w (padOf n) (.returned v) wr := by
  subst hz
  exact ⟨v, rfl, h.own, h.new⟩

theorem padStart (w : World) (n z : Nat) (hz : z ≤ 63) : PadIn w n z 0 (.slice (some ⟨w.heap.size, 0, none⟩) (1 + z) (1 + z + 8)) (w.alloc (.cells ((Array.replicate (1 + z + 8) (bv 0)).setIfInBounds 0 (.int .u8 128)) 5)) := by
  refine ⟨?_, (Below.refl _ _).alloc (Nat.le_refl _) _⟩
  have hl : (128 :: List.replicate z 0 ++ (be64 (8 * n)).take 0 : List UInt8).length = 1 + z := by simp; omega
  rw [hl]
  refine ⟨by rw [List.length_map, hl, Nat.mul_one], .inr ⟨w.heap.size, 1 + z + 8, _, rfl, Nat.le_refl _, heap_alloc_new _ _, by omega, ?_, by simp, ?_⟩⟩
  · unfold maxLen; omega
  · rw [Nat.mul_one, show 1 + z + 8 = (z + 8) + 1 by omega, Nat.add_comm 1 z]
    have e : (Array.replicate (z + 8 + 1) (bv 0)) = (bv 0 :: List.replicate (z + 8) (bv 0)).toArray := by rw [← List.replicate_succ]; simp
    rw [e, List.setIfInBounds_toArray, List.set_cons_zero]
    simp [List.take_replicate]

set_option maxRecDepth 100000 in
set_option maxHeartbeats 400000 in
theorem shaPadding (w : World) (n : Nat) (hn : n ≤ 1152921504606846976) :
    Calls Tryd.prog 24 #[.int .i64 n] w (OwnRet w (padOf n)) := by
  obtain ⟨z, HZ, hz, hz'⟩ : ∃ z : Nat, Hid (z = 63 - (n + 8) % 64) ∧ 63 - ((n : Int) + 8) % 64 = (z : Int) ∧ z ≤ 63 := ⟨63 - (n + 8) % 64, rfl, by omega, by omega⟩
  have hmk := run_make_bytes (1 + (z : Int)) (1 + (z : Int) + 8) (by omega) (by omega) (by omega)
  go_enter Tryd.func24, Tryd.ntmps24
  go_wp2
  obtain ⟨i0, hi0, hz0, hz1, hz2⟩ := info_parts infoByte
  clear hmk hz
  go_loopw [4, 6] (fun v i wr => ∃ k : Nat, k ≤ 8 ∧ i = .int .i64 (56 - 8 * (k : Int)) ∧ PadIn w n z k v wr) (fun _ i _ => (intOf i + 8).toNat)
  case atStart => exact ⟨0, by omega, by go_num, padStart w n z hz'⟩
  case round =>
    obtain ⟨k, hk, rfl, hin⟩ := hrel
    by_cases hlt : k < 8
    · have h0 : (0 : Int) ≤ 56 - 8 * (k : Int) := by omega
      have hlen : (128 :: List.replicate z 0 ++ (be64 (8 * n)).take k).length ≤ 72 := by simp [be64]; omega
      have HI := Lib.hid hin
      have hsz := hin.new.size
      have hown := hin.own
      obtain ⟨L, HL⟩ : ∃ L, Hid ((128 :: List.replicate z 0 ++ (be64 (8 * n)).take k : List UInt8) = L) := ⟨_, Lib.hid rfl⟩
      rw [HL.out] at hown hlen
      clear hin
      go_wp2_with (at_builtin; refine wpList_append_bytes rfl _ _ 22 rfl w.heap.size 5 i0 _ Tryd.underlying22 hi0 hz0 hz1 hz2 rfl _ _ _ rfl (hown.alloc _) _ [UInt8.ofNat (8 * n / 2 ^ (56 - 8 * k))] rfl (rd_one _ (byte_div _ _)) ?_ ?_ ?_)
      · simp only [List.length_cons, List.length_nil]; omega
      · simp; omega
      · intro v' w' hown' hgrow hat
        have HO := Lib.hid hown'
        clear hown' hat
        go_wp2
        go_roundw
        case rel =>
          refine ⟨k + 1, by omega, by go_num, ?_⟩
          exact HI.out.next HL.out hlt HO.out hgrow
        case measure => simp [intOf]; omega
    · obtain rfl : k = 8 := by omega
      go_wp2
      go_ret
      exact padEnd HZ.out hin

end Go.Proofs.YtoooemlcackepaaDoor
