/-
  crc.mixed, crc.Sum; the reference's Sum.
-/
import Derived.Test.YtjkhklbeimgggaaDoorCrcSpec
import Derived.Test.YtjkhklbeimgggaaDoorBase
import Derived.Test.YtjkhklbeimgggaaDoorRefVal
namespace Go.Proofs.YtjkhklbeimgggaaDoor
set_option linter.unusedVariables false
set_option linter.unusedSimpArgs false
open Go.RowKit

set_option maxRecDepth 100000 in
set_option maxHeartbeats 400000 in
theorem crcMixed (w : World) (x : UInt32) (b : UInt8) : Calls Tryd.prog 48 #[wv x, bv b] w fun e w' => e = .returned (wv (cmix x b)) ∧ w = w' := by
  have hb0 := byteIn x b
  have hbl := b.toNat_lt
  obtain ⟨y, HY⟩ : ∃ y, Hid (wxor x (UInt32.ofNat b.toNat) = y) := ⟨_, Lib.hid rfl⟩
  have HM : Hid (cmix x b = csteps y 8) := by show _ = _; unfold cmix; rw [HY.out]
  rw [HY.out] at hb0
  go_enter Tryd.func48, Tryd.ntmps48
  go_wp2
  go_loop [0, 5, 10] (fun v _ i => ∃ k : Nat, k ≤ 8 ∧ i = .int .i64 k ∧ v = wv (csteps y k)) (fun _ _ i => 8 - (intOf i).toNat)
  case atStart => exact ⟨0, by omega, rfl, rfl⟩
  case round =>
    obtain ⟨k, hk, rfl, rfl⟩ := hrel
    clear hb0
    by_cases hlt : k < 8
    · have h8 : (k : Int) < 8 := by omega
      have h1 := low1_of (csteps y k)
      have hxl := u32_lt (csteps y k)
      have hb2 := Nat.mod_two_eq_zero_or_one (csteps y k).toNat
      by_cases hbit : (csteps y k).toNat % 2 = 1
      · have HS := Lib.hid (cstep_odd y k hbit)
        rw [hbit] at h1
        clear hbit hb2
        generalize csteps y k = z at h1 HS hxl ⊢
        go_wp2
        go_round
        case rel => exact ⟨k + 1, by omega, by go_num, congrArg (Value.int .u32) HS.out⟩
        case measure => simp [intOf]; omega
      · have h0 : (csteps y k).toNat % 2 = 0 := by omega
        have HS := Lib.hid (cstep_even y k h0)
        rw [h0] at h1
        clear hbit hb2 h0
        generalize csteps y k = z at h1 HS hxl ⊢
        go_wp2
        go_round
        case rel => exact ⟨k + 1, by omega, by go_num, congrArg (Value.int .u32) HS.out⟩
        case measure => simp [intOf]; omega
    · obtain rfl : k = 8 := by omega
      have HG := HM
      generalize csteps y 8 = p at HG ⊢
      rw [show ((8 : Nat) : Int) = 8 from rfl]
      go_wp2
      go_ret
      exact ⟨congrArg (fun z => Ending.returned (wv z)) HG.out.symm, rfl⟩

theorem creg_take (A l : List UInt8) (j : Nat) (h : j < l.length) : creg (A ++ l.take (j + 1)) = cmix (creg (A ++ l.take j)) l[j] := by
  rw [List.take_succ_eq_append_getElem h, ← List.append_assoc, creg_snoc]

set_option maxRecDepth 100000 in
set_option maxHeartbeats 800000 in
theorem crcSum (w : World) (v : Value) (ps : List (Value × List UInt8)) (hv : RdL w v ps) :
    Calls Tryd.prog 42 #[v] w fun e w' => e = .returned (wv (crc (allOf ps))) ∧ w = w' := by
  obtain ⟨hv1, hv2⟩ := hv
  have hv1' := hv1
  obtain ⟨a, n, c, rfl, hl, hnc, hcm, _, _⟩ := hv1'
  rw [List.length_map] at hl
  have HL := Lib.hid hl
  have HV1 := Lib.hid hv1
  have HV2 := Lib.hid hv2
  unfold maxLen at hcm
  clear hl hv1 hv2
  go_enter Tryd.func42, Tryd.ntmps42
  go_wp2
  go_loop [3, 5, 7, 10] (fun s _ _ i => ∃ k : Nat, k ≤ n ∧ i = .int .i64 k ∧ s = wv (creg (allOf (ps.take k)))) (fun _ _ _ i => n - (intOf i).toNat)
  case atStart => exact ⟨0, Nat.zero_le _, rfl, rfl⟩
  case round =>
    obtain ⟨k, hk, rfl, rfl⟩ := hrel
    by_cases hlt : k < n
    · obtain ⟨b, off, rfl, hcell⟩ := HV1.out.cell (by omega)
      obtain ⟨p, hp⟩ : ∃ p, ps[k]? = some p := ⟨_, List.getElem?_eq_getElem (by rw [HL.out]; exact hlt)⟩
      have hck := hcell k p.1 (by rw [List.getElem?_map, hp]; rfl)
      clear hcell
      have HR := Lib.hid (HV2.out p (List.mem_of_getElem? hp))
      have hr' := HR.out
      obtain ⟨ap, np, cp, ep, hpl, hnp, hcp, -⟩ := hr'
      unfold maxLen at hcp
      have HT := Lib.hid (allOf_take ps k p hp)
      rw [ep] at hck HR
      have HPL := Lib.hid hpl
      clear hpl hp ep
      obtain ⟨pv, pl⟩ := p
      simp only at HR HT HPL
      generalize allOf (ps.take k) = A at HT ⊢
      go_wp2
      go_loop [3, 7, 16] (fun s _ i => ∃ j : Nat, j ≤ np ∧ i = .int .i64 j ∧ s = wv (creg (A ++ pl.take j))) (fun _ _ i => np - (intOf i).toNat)
      case atStart => exact ⟨0, Nat.zero_le _, rfl, by simp⟩
      case round =>
        obtain ⟨j, hj, rfl, rfl⟩ := hrel
        by_cases hjlt : j < np
        · have hcell : ∃ ad, ap = some ad ∧ w.cell? (ad.add j) = some (bv (pl[j]'(by rw [HPL.out]; exact hjlt))) := by
            obtain ⟨a', n', c', e, h1, h2, h3, h4, h5⟩ := HR.out
            cases e
            cases ap with
            | none => have := (h4 rfl).1; omega
            | some ad => exact ⟨ad, rfl, h5 ad rfl j _ (List.getElem?_eq_getElem (by rw [HPL.out]; exact hjlt))⟩
          obtain ⟨ad, rfl, hc⟩ := hcell
          have HS := Lib.hid (creg_take A pl j (by rw [HPL.out]; exact hjlt))
          generalize pl[j]'(by rw [HPL.out]; exact hjlt) = y at hc HS
          generalize creg (A ++ pl.take j) = x at HS ⊢
          go_wp2_with fail
          refine (crcMixed w x y).mono ?_
          rintro e w' ⟨rfl, rfl⟩
          go_wp2
          go_round
          case rel => exact ⟨j + 1, by omega, by go_num, by rw [HS.out]⟩
          case measure => simp [intOf]; omega
        · obtain rfl : j = np := by omega
          have hE : pl.take j = pl := by rw [← HPL.out, List.take_length]
          rw [hE, ← HT.out]
          clear hE
          go_wp2
          go_round
          case rel => exact ⟨k + 1, by omega, by go_num, rfl⟩
          case measure => simp [intOf]; omega
    · obtain rfl : k = n := by omega
      have hE : allOf (ps.take k) = allOf ps := by rw [List.take_of_length_le (by rw [HL.out]; exact Nat.le_refl _)]
      rw [hE]
      clear hE
      have HC := Lib.hid (crc_creg (allOf ps))
      have h1 := u32_bnot (creg (allOf ps))
      generalize creg (allOf ps) = x at HC h1 ⊢
      go_wp2
      go_ret
      exact ⟨congrArg (fun z => Ending.returned (wv z)) HC.out.symm, rfl⟩

end Go.Proofs.YtjkhklbeimgggaaDoor
