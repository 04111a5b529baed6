/-
  segment: first.
-/
import Derived.Test.YtjkhklbeimgggaaDoorSegFns2
namespace Go.Proofs.YtjkhklbeimgggaaDoor
set_option linter.unusedVariables false
set_option linter.unusedSimpArgs false
open Go.RowKit

def FirstTo (w : World) (o : Option (List UInt8)) (nx : List UInt8 → List UInt8) (e : Ending) (w' : World) : Prop :=
  New w w' ∧ match o with
  | none => e = .returned (.tuple #[.slice none 0 0, .slice none 0 0, .bool false])
  | some t => ∃ a1 n1 c1 a2 n2 c2, e = .returned (.tuple #[.slice a1 n1 c1, .slice a2 n2 c2, .bool true]) ∧ Rd w' (.slice a1 n1 c1) t ∧ (∀ k, blk (.slice a1 n1 c1) = some k → w.heap.size ≤ k) ∧ Rd w' (.slice a2 n2 c2) (nx t) ∧ (∀ k, blk (.slice a2 n2 c2) = some k → w.heap.size ≤ k)

theorem FirstTo.none {w w' : World} {o : Option (List UInt8)} {nx : List UInt8 → List UInt8} (ho : o = none) (hn : New w w') : FirstTo w o nx (.returned (.tuple #[.slice none 0 0, .slice none 0 0, .bool false])) w' := by
  subst ho; exact ⟨hn, rfl⟩

set_option maxRecDepth 100000 in
set_option maxHeartbeats 1000000 in
theorem segFirst (w : World) (x y : Value) (b ch : List UInt8) (hx : Rd w x b) (hy : Rd w y ch) (hb : b.length ≤ 140737488350000) (hc : ch.length = 32) (hL : Laid w) :
    Calls Tryd.prog 36 #[x, y] w (FirstTo w (sFirst ch b) (sNext ch)) := by
  have HX := Lib.hid hx
  have HY := Lib.hid hy
  have HL := Lib.hid hL
  obtain ⟨ax, nx, cx, rfl, hl, hle, hm, -⟩ := hx
  obtain ⟨ay, ny, cy, rfl, -⟩ := hy
  unfold maxLen at hm
  have HB := Lib.hid hl
  have HLen : Hid (b.length ≤ 140737488350000 ∧ ch.length = 32) := Lib.hid ⟨hb, hc⟩
  have hbn : nx ≤ 140737488350000 := by omega
  obtain ⟨m, hmin⟩ : ∃ m, min nx 4 = m := ⟨_, rfl⟩
  have HR4 : Hid (Rd w (.slice ax m cx) (b.take 4)) := by
    refine Lib.hid ?_
    have e : b.take m = b.take 4 := by
      rcases Nat.lt_or_ge nx 4 with h | h
      · rw [show m = b.length by omega, List.take_length, List.take_of_length_le (by omega)]
      · rw [show m = 4 by omega]
    rw [← e]
    exact HX.out.cut (by omega) (by omega) (Nat.le_refl _)
  have HO := Lib.hid (eyeOpen w _ _ HR4.out (by rw [List.length_take]; omega))
  have hmi : (if (nx : Int) ≤ 4 then (nx : Int) else 4) = (m : Int) := by split <;> omega
  have hmc : m ≤ cx := by omega
  clear hl hb hc hL
  go_enter Tryd.func36, Tryd.ntmps36
  by_cases h4 : nx ≤ 4
  · obtain rfl : nx = m := by omega
    have h4b : (nx : Int) ≤ 4 := by omega
    have h4c : ¬ 4 < (nx : Int) := by omega
    go_wp2_with fail
    refine HO.out.mono ?_
    rintro e w1 ⟨p, d, rfl, hpn, hE, hd, N1⟩
    have HU := Lib.hid (eyeU32 w1 p d _ 0 hE)
    have HN1 := Lib.hid N1
    have HPN := Lib.hid hpn
    clear hE hd N1 hpn HO hmi HR4
    go_wp2_with fail
    refine HU.out.mono ?_
    rintro e w2 ⟨rfl, e2⟩
    have N2 := Lib.hid (HN1.out.eye e2 HPN.out)
    clear e2 HU HN1 HPN hmin hmc
    rw [show eNum 4 (b.take 4) 0 = sLen b from rfl]
    obtain ⟨n, Hn⟩ : ∃ n, Hid (sLen b = n) := ⟨_, Lib.hid rfl⟩
    rw [Hn.out]
    have HP := Lib.hid (segFramed w2 (n : Int))
    by_cases hf : 1 ≤ n ∧ n ≤ 65535
    · rw [decide_eq_true (by omega)] at HP
      have hf2 : (n : Int) ≤ 65535 := by omega
      by_cases hlen : n + 40 ≤ nx
      · exfalso; omega
      · have HF : Hid (sFirst ch b = none) := Lib.hid (if_neg (by rw [Hn.out, HB.out]; omega))
        have hle2 : (nx : Int) < 40 + (n : Int) := by omega
        clear hlen
        go_wp2_with fail
        refine HP.out.mono ?_
        rintro e w3 ⟨rfl, rfl⟩
        go_wp2
        go_ret3
        exact FirstTo.none HF.out N2.out
    · have HF : Hid (sFirst ch b = none) := Lib.hid (if_neg (by rw [Hn.out]; omega))
      rw [decide_eq_false (by omega)] at HP
      clear hf
      go_wp2_with fail
      refine HP.out.mono ?_
      rintro e w3 ⟨rfl, rfl⟩
      go_wp2
      go_ret3
      exact FirstTo.none HF.out N2.out
  · obtain rfl : m = 4 := by omega
    have h4b : ¬ (nx : Int) ≤ 4 := by omega
    have h4c : 4 < (nx : Int) := by omega
    go_wp2_with fail
    refine HO.out.mono ?_
    rintro e w1 ⟨p, d, rfl, hpn, hE, hd, N1⟩
    have HU := Lib.hid (eyeU32 w1 p d _ 0 hE)
    have HN1 := Lib.hid N1
    have HPN := Lib.hid hpn
    clear hE hd N1 hpn HO hmi HR4
    go_wp2_with fail
    refine HU.out.mono ?_
    rintro e w2 ⟨rfl, e2⟩
    have N2 := Lib.hid (HN1.out.eye e2 HPN.out)
    clear e2 HU HN1 HPN hmin hmc
    rw [show eNum 4 (b.take 4) 0 = sLen b from rfl]
    obtain ⟨n, Hn⟩ : ∃ n, Hid (sLen b = n) := ⟨_, Lib.hid rfl⟩
    rw [Hn.out]
    have HP := Lib.hid (segFramed w2 (n : Int))
    by_cases hf : 1 ≤ n ∧ n ≤ 65535
    · rw [decide_eq_true (by omega)] at HP
      have hf2 : (n : Int) ≤ 65535 := by omega
      by_cases hlen : n + 40 ≤ nx
      · have hle2 : ¬ (nx : Int) < 40 + (n : Int) := by omega
        obtain ⟨t, Ht⟩ : ∃ t, Hid ((b.drop 4).take n = t) := ⟨_, Lib.hid rfl⟩
        have htl : t.length = n := by rw [← Ht.out, List.length_take, List.length_drop, HB.out]; omega
        have HRt : Hid (Rd w2 (.slice (ax.map (fun x => x.add 4)) n (cx - 4)) t) := by
          refine Lib.hid ?_
          rw [← Ht.out]
          exact ((HX.out.new N2.out).rest (k := 4) (by omega)).cut (by omega) (by omega) (Nat.le_refl _)
        have hsl : ∀ wx : World, (Instr.slice 22 (.slice ax nx cx) (some (.int .i64 4)) (some (.int .i64 (4 + (n : Int)))) none).run Tryd.prog wx = .ok (.slice (ax.map (fun x => x.add 4)) n (cx - 4)) wx := by
          intro wx
          rw [run_slice_lh wx 22 ax nx cx Tryd.underlying22 .i64 .i64 _ _ (by omega) (by omega) (by omega)]
          have hz : (sizeOf (Tryd.prog.elem 22)).run Tryd.prog wx = .ok 1 wx := by kernel_rfl
          rw [hz]
          simp only [Result.andThen_ok, sliced, Nat.mul_one]
          have t1 : (4 : Int).toNat = 4 := rfl
          have t2 : (4 + (n : Int)).toNat - 4 = n := by omega
          rw [t1, t2, if_neg (by omega)]
        have HC := Lib.hid (cloneNew w2 _ t HRt.out (by omega))
        have HT : Hid (t.length = n) := Lib.hid htl
        have hn0 : 1 ≤ n := hf.1
        clear htl hf
        go_wp2_with fail
        refine HP.out.mono ?_
        rintro e w3 ⟨rfl, rfl⟩
        go_wp2_with fail
        refine HC.out.mono ?_
        rintro e w3 ⟨a3, n3, c3, rfl, r3, N3, b3⟩
        have N23 := Lib.hid (New.trans N2.out N3)
        have R3 := Lib.hid r3
        have B3 : Hid (∀ k, blk (.slice a3 n3 c3) = some k → w.heap.size ≤ k) := Lib.hid (fun k hk => Nat.le_trans N2.out.size (b3 (fun e => by have := HT.out; rw [e] at this; simp at this; omega) k hk))
        have HFr := Lib.hid (segFrame w3 _ _ ch t (HY.out.new N23.out) r3 (HL.out.new N23.out))
        rw [if_pos (show sFramed ch t from ⟨by rw [HT.out]; omega, HLen.out.2⟩), if_pos (show sFramed ch t from ⟨by rw [HT.out]; omega, HLen.out.2⟩)] at HFr
        clear r3 N3 b3 HC HP N2 HRt
        go_wp2_with fail
        refine HFr.out.mono ?_
        rintro e w4 ⟨v, a4, n4, c4, rfl, o4, r4, b4, -, N4⟩
        obtain ⟨av, nv, cv, rfl⟩ := own_slice o4
        have N24 := Lib.hid (New.trans N23.out N4)
        have R4 := Lib.hid r4
        have R3' := Lib.hid (R3.out.new N4)
        have B4 : Hid (∀ k, blk (.slice a4 n4 c4) = some k → w.heap.size ≤ k) := Lib.hid (fun k hk => Nat.le_trans N23.out.size (b4 k hk))
        have HPx := Lib.hid (hasPrefix w4 _ _ _ _ (HX.out.new N24.out) (Rd.of_own o4))
        clear o4 r4 b4 N4 HFr R3 N23
        rw [sFrame_length, HT.out] at HPx
        have HS : Hid (sFirst ch b = if b.take (n + 40) = sFrame ch t then some t else none) := by
          refine Lib.hid ?_
          unfold sFirst
          rw [Hn.out, Ht.out, HB.out]
          by_cases hq : b.take (n + 40) = sFrame ch t
          · rw [if_pos hq, if_pos ⟨hn0, by omega, hlen, hq⟩]
          · rw [if_neg hq, if_neg (fun hh => hq hh.2.2.2)]
        by_cases hq : b.take (n + 40) = sFrame ch t
        · rw [decide_eq_true hq] at HPx
          have HS2 : Hid (sFirst ch b = some t) := Lib.hid (by rw [HS.out, if_pos hq])
          clear hq HS
          go_wp2_with fail
          refine HPx.out.mono ?_
          rintro e w5 ⟨rfl, rfl⟩
          go_wp2
          go_ret3
          refine ⟨N24.out, ?_⟩
          rw [HS2.out]
          exact ⟨_, _, _, _, _, _, rfl, R3'.out, B3.out, R4.out, B4.out⟩
        · rw [decide_eq_false hq] at HPx
          have HS2 : Hid (sFirst ch b = none) := Lib.hid (by rw [HS.out, if_neg hq])
          clear hq HS
          go_wp2_with fail
          refine HPx.out.mono ?_
          rintro e w5 ⟨rfl, rfl⟩
          go_wp2
          go_ret3
          exact FirstTo.none HS2.out N24.out
      · have HF : Hid (sFirst ch b = none) := Lib.hid (if_neg (by rw [Hn.out, HB.out]; omega))
        have hle2 : (nx : Int) < 40 + (n : Int) := by omega
        clear hlen
        go_wp2_with fail
        refine HP.out.mono ?_
        rintro e w3 ⟨rfl, rfl⟩
        go_wp2
        go_ret3
        exact FirstTo.none HF.out N2.out
    · have HF : Hid (sFirst ch b = none) := Lib.hid (if_neg (by rw [Hn.out]; omega))
      rw [decide_eq_false (by omega)] at HP
      clear hf
      go_wp2_with fail
      refine HP.out.mono ?_
      rintro e w3 ⟨rfl, rfl⟩
      go_wp2
      go_ret3
      exact FirstTo.none HF.out N2.out

end Go.Proofs.YtjkhklbeimgggaaDoor
