/-
  The reference's functions of layer 2 but Sum: K, octets.
  The reference's table of constants.
-/
import Derived.Test.YtliojldkdmaofaaDoorShaB
import Derived.Test.YtliojldkdmaofaaDoorBase
import Derived.Test.YtliojldkdmaofaaDoorRefHex
import Derived.Test.YtliojldkdmaofaaDoorProg
import Derived.Test.YtliojldkdmaofaaDoorShaA
namespace Go.Proofs.YtliojldkdmaofaaDoor
set_option linter.unusedVariables false
set_option linter.unusedSimpArgs false
open Go.RowKit

/-- new bytes, returned -/
def RdRet (w : World) (l : List UInt8) (e : Ending) (w' : World) : Prop := ∃ v, e = .returned v ∧ Rd w' v l ∧ New w w' ∧ ∀ k, blk v = some k → w.heap.size ≤ k

structure OctIn (w : World) (l : List UInt8) (v : Value) (wr : World) : Prop where
  own : OwnB wr w.heap.size 5 v l
  new : New w wr

theorem OctIn.next {w : World} {l : List UInt8} {v : Value} {wr : World} {o : Obj} (h : OctIn w l v wr) {q : List UInt8} {v' : Value} {w' : World} (hown : OwnB w' w.heap.size 5 v' (l ++ q)) (hg : (wr.alloc o).grownBy w' v.ownBlock) : OctIn w (l ++ q) v' w' :=
  ⟨hown, Below.grown (h.new.alloc h.new.size o) hg (by have := h.new.size; simp; omega) (fun j hj => h.own.from j (by rw [blk_own]; exact hj))⟩

/-- the length's bytes, shifted out one by one -/
def lenTo (n k : Nat) : Nat := 8 * n * 256 ^ k % 18446744073709551616

theorem lenTo_succ (n k : Nat) : lenTo n (k + 1) = lenTo n k * 256 % 18446744073709551616 := by
  unfold lenTo; rw [Nat.pow_succ, ← Nat.mul_assoc, Nat.mod_mul_mod]

theorem lenTo_byte (n k : Nat) (hn : n ≤ 1099511627776) (hk : k < 8) : UInt8.ofNat (lenTo n k / 72057594037927936) = UInt8.ofNat (8 * n / 2 ^ (56 - 8 * k)) := by
  apply UInt8.toNat_inj.1
  rw [UInt8.toNat_ofNat', UInt8.toNat_ofNat']
  unfold lenTo
  have h8 : k = 0 ∨ k = 1 ∨ k = 2 ∨ k = 3 ∨ k = 4 ∨ k = 5 ∨ k = 6 ∨ k = 7 := by omega
  rcases h8 with rfl | rfl | rfl | rfl | rfl | rfl | rfl | rfl <;> simp <;> omega

theorem lenTo_lt (n k : Nat) : lenTo n k < 18446744073709551616 := Nat.mod_lt _ (by decide)

theorem byte56 (m : Nat) (h : m < 18446744073709551616) : ((m : Int) / 72057594037927936) = ((UInt8.ofNat (m / 72057594037927936)).toNat : Int) := by
  rw [UInt8.toNat_ofNat']; show _ = ((m / 72057594037927936 % 256 : Nat) : Int); omega

set_option maxRecDepth 100000 in
set_option maxHeartbeats 400000 in
theorem refOctets (w : World) (l : List UInt8) (hl : l.length ≤ 1099511627776) : Calls Tryd.prog 44 #[.string (bstr l)] w (RdRet w (l ++ padOf l.length)) := by
  have hcv := Lib.run_convert_string_bytes (P := Tryd.prog) w 9 22 5 (bstr l) Tryd.underlying9 Tryd.underlying22 Tryd.underlying5
  obtain ⟨hob, hnb⟩ := ownB_of_string w 5 l (by omega)
  obtain ⟨i0, hi0, hz0, hz1, hz2⟩ := info_parts infoByte
  have hbz : (bstr l).size = l.length := bstr_size l
  rw [hbz] at hcv hob
  have hsb := hnb.size
  generalize grownCap w l.length 0 5 = c0 at hcv hob
  generalize Lib.bytesWorld w 5 (bstr l) = wb at hcv hob hnb hsb
  have HIN : Hid (OctIn w l (.slice (some ⟨w.heap.size, 0, none⟩) l.length c0) wb) := ⟨hob, hnb⟩
  clear hob hnb
  have HBZ := Lib.hid hbz
  clear hbz
  go_enter Tryd.func44, Tryd.ntmps44
  go_wp2_with (at_builtin; refine wpList_append_B rfl _ _ 22 rfl w.heap.size 5 i0 _ Tryd.underlying22 hi0 hz0 hz1 hz2 rfl _ l rfl (HIN.out.own.alloc _) ⟨wb.heap.size, 0, none⟩ 1 [128] 1 rfl rfl (rd_one _ rfl) ?_ ?_ ?_)
  · simp; omega
  · simp; omega
  · intro v1 w1 hown1 hg1
    have HO1 := Lib.hid (HIN.out.next hown1 hg1)
    clear hown1 hg1
    go_wp2
    obtain ⟨z, HZ, hz⟩ : ∃ z : Nat, Hid (z = 63 - (l.length + 8) % 64) ∧ z ≤ 63 := ⟨_, Lib.hid rfl, by omega⟩
    go_loopw [3] (fun v wr => ∃ j, j ≤ z ∧ OctIn w (l ++ [128] ++ List.replicate j 0) v wr) (fun v _ => match v with | .slice _ m _ => l.length + 1 + z - m | _ => 0)
    case atStart => exact ⟨0, Nat.zero_le _, by simpa using HO1.out⟩
    case round =>
      clear HO1
      obtain ⟨j, hj, hin⟩ := hrel
      have hown := hin.own
      obtain ⟨g, cap, cur, fz, e3, _⟩ := hown
      obtain ⟨L, HL⟩ : ∃ L, Hid (l ++ [128] ++ List.replicate j 0 = L) := ⟨_, Lib.hid rfl⟩
      have hlen : L.length = l.length + 1 + j := by rw [← HL.out]; simp; omega
      obtain ⟨m, hm⟩ : ∃ m, m = l.length + 1 + j := ⟨_, rfl⟩
      rw [HL.out] at e3 hin
      rw [hlen, ← hm] at e3
      subst e3
      have HIN2 := Lib.hid hin
      have hsz2 := hin.new.size
      have HLEN := Lib.hid hlen
      have hmb : m ≤ 1099511627776 + 64 := by omega
      have HMM := Lib.hid hm
      have hL1 : L.length ≤ 1099511627776 + 64 := by omega
      clear hin hlen
      by_cases hlt : j < z
      · have ht : (((m : Int) % 64) != 56) = true := by have := HZ.out; simp; omega
        clear hm
        go_wp2_with (at_builtin; refine wpList_append_B rfl _ _ 22 rfl w.heap.size 5 i0 _ Tryd.underlying22 hi0 hz0 hz1 hz2 rfl _ L rfl (HIN2.out.own.alloc _) ⟨wr.heap.size, 0, none⟩ 1 [0] 1 rfl rfl (rd_one _ rfl) ?_ ?_ ?_)
        · simp; omega
        · simp; omega
        · intro v2 w2 hown2 hg2
          have HO2 := Lib.hid (HIN2.out.next hown2 hg2)
          have hv2 : ∃ g2 c2, v2 = .slice (some ⟨g2, 0, none⟩) (L ++ [0]).length c2 := by obtain ⟨g2, c2, _, _, e, _⟩ := hown2; exact ⟨g2, c2, e⟩
          obtain ⟨g2, c2, rfl⟩ := hv2
          clear hown2 hg2
          go_wp2
          go_roundw
          case rel =>
            refine ⟨j + 1, by omega, ?_⟩
            rw [List.replicate_succ', ← List.append_assoc, HL.out]
            exact HO2.out
          case measure =>
            have h1 := HMM.out
            have h2 := HLEN.out
            show l.length + 1 + z - (L ++ [0]).length < l.length + 1 + z - m
            simp; omega
      · obtain rfl : j = z := by omega
        have ht : (((m : Int) % 64) != 56) = false := by have := HZ.out; simp; omega
        clear hm
        have hbz := HBZ.out
        go_wp2
        go_loopw [3, 4, 5] (fun v n i wr => ∃ k : Nat, k ≤ 8 ∧ i = .int .i64 k ∧ n = .int .u64 (lenTo l.length k : Nat) ∧ OctIn w (L ++ (be64 (8 * l.length)).take k) v wr) (fun _ _ i _ => 8 - (intOf i).toNat)
        case atStart =>
          refine ⟨0, Nat.zero_le _, rfl, ?_, by simpa using HIN2.out⟩
          rw [show lenTo l.length 0 = l.length * 8 by unfold lenTo; rw [Nat.pow_zero, Nat.mul_one, Nat.mod_eq_of_lt (by omega), Nat.mul_comm]]
          simp
        case round =>
          obtain ⟨k, hk, rfl, rfl, hin⟩ := hrel
          have hx := lenTo_lt l.length k
          have HS := Lib.hid (lenTo_succ l.length k)
          by_cases hlt2 : k < 8
          · have HB := Lib.hid (lenTo_byte l.length k hl hlt2)
            have HT := Lib.hid (be64_take (8 * l.length) k hlt2)
            generalize lenTo l.length k = x at hx HS HB ⊢
            obtain ⟨g, cap, cur, fz, e3, _⟩ := hin.own
            have hsz3 := hin.new.size
            obtain ⟨M, HMl⟩ : ∃ M, Hid (L ++ (be64 (8 * l.length)).take k = M) := ⟨_, Lib.hid rfl⟩
            have hM1 : M.length ≤ 1099511627776 + 128 := by rw [← HMl.out]; simp [be64]; omega
            rw [HMl.out] at e3 hin
            have HIN3 := Lib.hid hin
            clear hin
            obtain ⟨mm, HMM2⟩ : ∃ mm, Hid (M.length = mm) := ⟨_, Lib.hid rfl⟩
            rw [HMM2.out] at e3
            subst e3
            go_wp2_with (at_builtin; refine wpList_append_B rfl _ _ 22 rfl w.heap.size 5 i0 _ Tryd.underlying22 hi0 hz0 hz1 hz2 rfl _ M rfl (HIN3.out.own.alloc _) ⟨wr.heap.size, 0, none⟩ 1 [UInt8.ofNat (x / 72057594037927936)] 1 rfl rfl (rd_one _ (byte56 _ hx)) ?_ ?_ ?_)
            · simp; omega
            · simp; omega
            · intro v2 w2 hown2 hg2
              have HO2 := Lib.hid (HIN3.out.next hown2 hg2)
              clear hown2 hg2
              go_wp2
              go_roundw
              case rel =>
                refine ⟨k + 1, by omega, by go_num, ?_, ?_⟩
                · rw [HS.out]; simp [IntKind.wrap_u64]
                · rw [HT.out, ← List.append_assoc, HMl.out, ← HB.out]; exact HO2.out
              case measure => simp [intOf]; omega
          · obtain rfl : k = 8 := by omega
            go_wp2
            go_ret
            refine ⟨_, rfl, ?_, hin.new, hin.own.from⟩
            have h := hin.own.rd
            rw [← HL.out, HZ.out, show (be64 (8 * l.length)).take 8 = be64 (8 * l.length) from rfl] at h
            unfold padOf
            simpa using h

end Go.Proofs.YtliojldkdmaofaaDoor

namespace Go.Proofs.YtliojldkdmaofaaDoor
set_option linter.unusedVariables false
set_option linter.unusedSimpArgs false
open Go.RowKit

set_option maxRecDepth 100000 in
set_option maxHeartbeats 400000 in
theorem refK (w : World) : Calls Tryd.prog 43 #[] w fun e w' => e = .returned (.slice (some ⟨w.heap.size, 0, none⟩) 64 64) ∧ w' = w.alloc (.cells (kTab.map wv).toArray 62) := by
  go_enter Tryd.func43, Tryd.ntmps43
  go_wp2
  go_ret
  exact ⟨rfl, rfl⟩

end Go.Proofs.YtliojldkdmaofaaDoor
