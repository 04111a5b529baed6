/-
  WireCuts: the walk.
-/
import Derived.Test.YtfnnicdlncgfkaaLaw01
import Derived.Test.YtfnnicdlncgfkaaWireMath
import Derived.Test.YtfnnicdlncgfkaaOpen
namespace Go.Proofs.Ytfnnicdlncgfkaa
set_option linter.unusedVariables false
set_option linter.unusedSimpArgs false
open Go.RowKit

set_option maxHeartbeats 1000000 in
theorem cutsWalk (w : World) (x y : Value) (a b : List UInt8) (cut : Int) (hx : Rd w x a) (hy : Rd w y b) (hc0 : 0 ≤ cut) (hc1 : cut ≤ 65535) :
    Calls Try.prog 6 #[x, y, .int .u16 cut] w fun e w' => e = .returned (.bool true) ∧ New w w' := by
  have hx' := hx
  have hy' := hy
  obtain ⟨ax, nx, cx, rfl, hax, hxc, hxm, hx1, hx2⟩ := hx'
  obtain ⟨ay, ny, cy, rfl, hay, hyc, hym, hy1, hy2⟩ := hy'
  have HA := Lib.hid hax
  have HB := Lib.hid hay
  have HX := Lib.hid hx
  have HY := Lib.hid hy
  clear hax hay hx hy hx1 hx2 hy1 hy2
  unfold maxLen at hxm hym
  by_cases h1 : nx ≤ 255
  · by_cases h2 : ny ≤ 700
    · go_enter Try.func6, Try.ntmps6
      go_wp2_with fail
      refine (awake01 w).mono ?_
      rintro e w1 ⟨rfl, hn1⟩
      go_wp2_with fail
      refine (penNew w1).mono ?_
      rintro e w2 ⟨rfl, hp2, hn2, _⟩
      have P2 := Pend.start hp2 hn2
      clear hp2 hn2
      have HX1 := Lib.hid (HX.out.new hn1)
      have HY1 := Lib.hid (HY.out.new hn1)
      go_wp2_with fail
      refine (pendShort P2 _ a HX1.out (fun l h => by cases h; rw [HA.out]; simp; omega)).mono ?_
      rintro e w3 ⟨rfl, P3⟩
      rw [wText_in 1 a [] (by rw [HA.out]; omega)] at P3
      go_wp2_with fail
      refine (pendLong P3 _ b HY1.out (fun l h => by cases h; simp [be_length, HA.out, HB.out]; omega)).mono ?_
      rintro e w4 ⟨rfl, P4⟩
      rw [wText_in 2 b _ (by rw [HB.out]; omega)] at P4
      go_wp2_with fail
      refine (pendU32 P4 7 (by omega) (by omega) (fun l h => by cases h; simp [be_length, HA.out, HB.out]; omega)).mono ?_
      rintro e w5 ⟨rfl, P5⟩
      rw [show wU 4 7 _ = _ from wU_in 4 7 _ (by decide)] at P5
      simp only [List.nil_append, List.append_assoc] at P5
      clear P2 P3 P4
      have HS : Hid ((be 1 a.length ++ (a ++ (be 2 b.length ++ (b ++ be 4 7)))).length = nx + ny + 7) := by
        show _ = _
        simp [be_length, HA.out, HB.out]; omega
      have HC := Lib.hid (cuts a b (cut.toNat % (nx + ny + 7)) (by rw [HA.out]; omega) (by rw [HB.out]; omega) (by rw [HA.out, HB.out]; exact Nat.mod_lt _ (by omega)))
      generalize be 1 a.length ++ (a ++ (be 2 b.length ++ (b ++ be 4 7))) = s at P5 HS HC
      go_wp2_with fail
      refine (pendBytes P5 (fun l h => by cases h; rw [HS.out]; omega)).mono ?_
      rintro e w6 ⟨⟨av, ns, cs, rfl, hr6, hn6, _⟩, P6⟩
      simp only [Option.getD_some, Option.isSome_some] at hr6 ⊢
      obtain rfl : ns = nx + ny + 7 := by rw [← hr6.len, HS.out]
      have hcs : nx + ny + 7 ≤ cs := by obtain ⟨_, _, _, e, _, h, _⟩ := hr6; cases e; exact h
      have hcs' : cs ≤ 9223372036854775807 := by obtain ⟨_, _, _, e, _, _, h, _⟩ := hr6; cases e; exact h
      have HR6 := Lib.hid hr6
      clear hr6 P5
      have hq1 : 0 ≤ cut % ((nx : Int) + ny + 7) := Int.emod_nonneg _ (by omega)
      have hq2 : cut % ((nx : Int) + ny + 7) < (nx : Int) + ny + 7 := Int.emod_lt_of_pos _ (by omega)
      have HQ : Hid ((cut % ((nx : Int) + ny + 7)).toNat = cut.toNat % (nx + ny + 7)) := by
        show _ = _
        obtain ⟨m, rfl⟩ := Int.eq_ofNat_of_zero_le hc0
        rw [show ((nx : Int) + ny + 7) = ((nx + ny + 7 : Nat) : Int) by omega, ← Int.natCast_emod, Int.toNat_natCast, Int.toNat_natCast]
      go_wp2_with fail
      rw [HQ.out]
      have HR7 := Lib.hid (HR6.out.cut (k := cut.toNat % (nx + ny + 7)) (c' := cs) (by rw [← HQ.out]; omega) (by rw [← HQ.out]; omega) (Nat.le_refl _))
      clear hq1 hq2 HQ
      generalize cut.toNat % (nx + ny + 7) = q at HR7 HC
      refine (eyeOpen w6 _ _ HR7.out (by rw [List.length_take, HS.out]; omega)).mono ?_
      rintro e w7 ⟨p, d, rfl, hp7, hE7, hd7, hn7⟩
      have hl7 : (s.take q).length ≤ 140737488355328 := by rw [List.length_take, HS.out]; omega
      generalize s.take q = r at hE7 HC hl7
      go_wp2_with fail
      refine (eyeShort w7 p d r 0 255 hE7 hl7).mono ?_
      have hl8 := eText_rest 1 255 r 0
      have HC2 := Lib.hid (HC.out _ _ rfl rfl)
      clear HC
      generalize eText 1 255 r 0 = t1 at hl8 HC2
      rintro e w8 ⟨a8, n8, c8, rfl, _, _, hE8⟩
      go_wp2_with fail
      refine (eyeLong w8 p d t1.2.1 t1.2.2 65535 hE8.1 (by omega)).mono ?_
      have hl9 := eText_rest 2 65535 t1.2.1 t1.2.2
      generalize eText 2 65535 t1.2.1 t1.2.2 = t2 at hl9 HC2
      rintro e w9 ⟨a9, n9, c9, rfl, _, _, hE9⟩
      go_wp2_with fail
      refine (eyeU32 w9 p d t2.2.1 t2.2.2 hE9.1).mono ?_
      rintro e w10 ⟨rfl, hE10⟩
      rw [HC2.out] at hE10
      go_wp2_with fail
      refine (eyeErr w10 p d _ 10 hE10.1).mono ?_
      rintro e w11 ⟨rfl, rfl⟩
      go_wp2_with fail
      refine (eyeEnd w10 p d _ 10 hE10.1).mono ?_
      rintro e w11 ⟨rfl, rfl⟩
      have he : eEnd (eTake (4 : Nat) t2.2.1 t2.2.2).2.1 10 = 10 := by simp [eEnd]
      rw [he]
      clear he
      go_wp2
      go_ret
      refine ⟨rfl, ?_⟩
      have b6 : Below w.heap.size w w6 := Below.trans hn1 (Below.mono P6.1 hn1.size)
      have hs6 : w.heap.size ≤ w6.heap.size := b6.size
      have b7 : Below w.heap.size w w7 := Below.trans b6 (Below.mono hn7 hs6)
      have b10 : Only (fun k => k = p) w7 w10 := (hE8.2.trans hE9.2 (fun _ _ h => h)).trans hE10.2 (fun _ _ h => h)
      exact Below.trans b7 (b10.below b7.size (fun k hk => by omega))
    · have hd : decide ((nx : Int) ≤ 255) = true := by simp; omega
      go_enter Try.func6, Try.ntmps6
      go_wp2_with fail
      refine (awake01 w).mono ?_
      rintro e w1 ⟨rfl, hn1⟩
      go_wp2_with fail
      refine (awake01 w1).mono ?_
      rintro e w2 ⟨rfl, hn2⟩
      go_wp2
      go_ret
      exact ⟨rfl, New.trans hn1 hn2⟩
  · go_enter Try.func6, Try.ntmps6
    go_wp2_with fail
    refine (awake01 w).mono ?_
    rintro e w1 ⟨rfl, hn1⟩
    go_wp2_with fail
    refine (awake01 w1).mono ?_
    rintro e w2 ⟨rfl, hn2⟩
    go_wp2
    go_ret
    exact ⟨rfl, New.trans hn1 hn2⟩

theorem cutsLaw (w : World) (x : Value) (a : List UInt8) (hx : Rd w x a) (y : Value) (b : List UInt8) (hy : Rd w y b) (cut : Int) (hc : (Lit.int .u16 cut).wf = true) :
    Calls Try.prog 6 #[x, y, .int .u16 cut] w fun e w' => e = .returned (.bool true) ∧ New w w' :=
  cutsWalk w x y a b cut hx hy (wf_u16_lt hc).1 (wf_u16_lt hc).2

end Go.Proofs.Ytfnnicdlncgfkaa
