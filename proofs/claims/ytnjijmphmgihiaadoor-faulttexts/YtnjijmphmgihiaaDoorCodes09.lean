/-
  The laws FaultCodes, FaultPlaces and FaultNil, walked.
-/
import Derived.Test.YtnjijmphmgihiaaDoorLaw09
namespace Go.Proofs.YtnjijmphmgihiaaDoor
set_option linter.unusedVariables false
set_option linter.unusedSimpArgs false
open Go.RowKit

theorem chain0 (w : World) (c : Cor) : Chain w [] c := ⟨fun i h => by simp at h, fun i j h => by simp at h⟩

/-- what awake and small say, and no more is asked -/
theorem small9_len {l : List (List UInt8 × Int)} (h : small9B l = true) : l.length ≤ 20 ∧ ∀ d ∈ l, d.1.length ≤ 50 := by
  unfold small9B at h
  simp only [Bool.and_eq_true, decide_eq_true_eq, List.all_eq_true] at h
  exact h

set_option maxRecDepth 100000 in
set_option maxHeartbeats 2000000 in
theorem codesWalk (w : World) (v : Value) (l : List (List UInt8 × Int)) (n other : Int) (hv : RdLk w v l) (hL : Laid9 w) :
    Calls Tryd.prog 3 #[v, .int .i64 n, .int .i64 other] w fun e w' => e = .returned (.bool true) ∧ New w w' := by
  obtain ⟨a, m, c, rfl⟩ : ∃ a n c, v = .slice a n c := by obtain ⟨_, ⟨a, n, c, e, _⟩, _⟩ := hv; exact ⟨a, n, c, e⟩
  obtain ⟨hm, -, -⟩ := hv.len
  subst hm
  have HV := Lib.hid hv
  have HL := Lib.hid hL
  clear hv hL
  by_cases hs : small9B l = true
  · have hlen := (small9_len hs).1
    go_enter Tryd.func3, Tryd.ntmps3
    go_wp2_with fail
    refine (awake09 w HL.out).mono ?_
    rintro e w1 ⟨rfl, N1⟩
    go_wp2_with fail
    refine (small09 w1 _ l (HV.out.new N1)).mono ?_
    rintro e w1' ⟨rfl, rfl⟩
    rw [hs]
    go_wp2_with fail
    refine (madeAt w1 _ l n (HV.out.new N1) (by omega)).mono ?_
    rintro e w2 ⟨x, rfl, N2, hnil, hch⟩
    have NN2 := New.trans N1 N2
    clear N1 N2
    by_cases hz : l = [] ∨ n = 0
    · have hx := hnil hz
      subst hx
      have hz2 : (l.length : Int) = 0 ∨ (¬ (l.length : Int) = 0 ∧ n = 0) := by
        by_cases h : l = []
        · left; rw [h]; rfl
        · right
          have := List.length_pos_iff.2 h
          exact ⟨by omega, hz.resolve_left h⟩
      clear hnil hch
      have HK : Hid (Calls Tryd.prog 10 #[.nilIface] w2 fun e w' => e = .returned (.int .i64 0) ∧ New w2 w') := Lib.hid (codeAt w2 [] .nought (chain0 _ _) (HL.out.new NN2).1 (by simp))
      have HO : Hid (∀ wx, HasErr wx → Calls Tryd.prog 11 #[.nilIface] wx (OpsTo wx [])) := Lib.hid (fun wx h => opsAt wx [] .nought (chain0 _ _) h (by simp))
      have HI : Hid (∀ wx, HasErr wx → Calls Tryd.prog 12 #[.nilIface, .int .i64 other] wx fun e w' => e = .returned (.bool false) ∧ New wx w') := Lib.hid (fun wx h => faultIs wx [] .nought other (chain0 _ _) h (by simp))
      clear hz
      rcases hz2 with h0 | ⟨h1, h0⟩
      · have h0' : ((l.length : Int) == 0) = true := by rw [beq_iff_eq]; exact h0
        clear h0
        go_wp2_with fail
        refine HK.out.mono ?_
        rintro e w3 ⟨rfl, N3⟩
        go_wp2_with fail
        refine (HO.out w3 (HL.out.new (New.trans NN2 N3)).1).mono ?_
        rintro e w4 ⟨a4, n4, c4, rfl, -, N4, hn4⟩
        simp only [List.length_nil] at hn4
        subst hn4
        go_wp2_with fail
        refine (HI.out w4 (HL.out.new (New.trans NN2 (New.trans N3 N4))).1).mono ?_
        rintro e w5 ⟨rfl, N5⟩
        have HN := Lib.hid (New.trans NN2 (New.trans N3 (New.trans N4 N5)))
        clear N3 N4 N5 NN2
        go_wp2
        go_ret
        exact ⟨rfl, HN.out⟩
      · subst h0
        have d1 : ((l.length : Int) == 0) = false := beq_eq_false_iff_ne.2 h1
        go_wp2_with fail
        refine HK.out.mono ?_
        rintro e w3 ⟨rfl, N3⟩
        go_wp2_with fail
        refine (HO.out w3 (HL.out.new (New.trans NN2 N3)).1).mono ?_
        rintro e w4 ⟨a4, n4, c4, rfl, -, N4, hn4⟩
        simp only [List.length_nil] at hn4
        subst hn4
        go_wp2_with fail
        refine (HI.out w4 (HL.out.new (New.trans NN2 (New.trans N3 N4))).1).mono ?_
        rintro e w5 ⟨rfl, N5⟩
        have HN := Lib.hid (New.trans NN2 (New.trans N3 (New.trans N4 N5)))
        clear N3 N4 N5 NN2
        go_wp2
        go_ret
        exact ⟨rfl, HN.out⟩
    · have hz1 : l ≠ [] := fun h => hz (.inl h)
      have hz2 : n ≠ 0 := fun h => hz (.inr h)
      obtain ⟨L, hkp, hC, rfl⟩ := hch hz1 hz2
      have hl2 : L.length = l.length := by have := congrArg List.length hkp; simpa using this
      have hpos : 0 < l.length := List.length_pos_iff.2 hz1
      have hlt : 0 < L.length := by omega
      have HX := Lib.hid (errAt_lt (c := .num n) hlt)
      rw [HX.out]
      generalize hx : L[0] = x at *
      have HC := Lib.hid hC
      have d1 : ((l.length : Int) == 0) = false := by rw [beq_eq_false_iff_ne]; omega
      have d2 : (n == 0) = false := beq_eq_false_iff_ne.2 hz2
      have d3 : ¬ (l.length : Int) = 0 := by omega
      have HK : Hid (Calls Tryd.prog 10 #[.iface 42 (.pointer (some ⟨x.b, 0, none⟩))] w2 fun e w' => e = .returned (.int .i64 n) ∧ New w2 w') := by
        have h := codeAt w2 L (.num n) HC.out (HL.out.new NN2).1 (by omega)
        rw [HX.out] at h
        exact Lib.hid h
      have HE : Hid (∀ wx k, New w2 wx → Calls Tryd.prog 13 #[.iface 42 (.pointer (some ⟨x.b, 0, none⟩)), .iface 28 (.int .i64 k)] wx fun e w' => e = .returned (.bool (n == k)) ∧ wx = w') := by
        refine Lib.hid (fun wx k hn => ?_)
        have h := isErr wx L n k (HC.out.new hn)
        rw [HX.out] at h
        exact h
      have HI : Hid (∀ wx, New w2 wx → Calls Tryd.prog 12 #[.iface 42 (.pointer (some ⟨x.b, 0, none⟩)), .int .i64 other] wx fun e w' => e = .returned (.bool (n == other)) ∧ New wx w') := by
        refine Lib.hid (fun wx hn => ?_)
        have h := faultIs wx L (.num n) other (HC.out.new hn) (HL.out.new (New.trans NN2 hn)).1 (by omega)
        rw [HX.out] at h
        exact h
      clear hnil hch hkp hC hl2 hlt hx hz hz1 hz2 hpos
      obtain ⟨q, hq⟩ : ∃ q, q = (n == other) := ⟨_, rfl⟩
      have hq2 : (other == n) = q := by
        rw [hq]
        by_cases h : n = other
        · rw [h]
        · rw [beq_eq_false_iff_ne.2 h, beq_eq_false_iff_ne.2 (Ne.symm h)]
      have HQ := Lib.hid hq
      clear hq
      go_wp2_with fail
      refine HK.out.mono ?_
      rintro e w3 ⟨rfl, N3⟩
      go_wp2_with fail
      refine (HE.out w3 n N3).mono ?_
      rintro e w3' ⟨rfl, rfl⟩
      rw [show (n == n) = true by simp]
      go_wp2_with fail
      refine (HE.out w3 other N3).mono ?_
      rintro e w3' ⟨rfl, rfl⟩
      rw [← HQ.out]
      go_wp2_with fail
      refine (HI.out w3 N3).mono ?_
      rintro e w4 ⟨rfl, N4⟩
      rw [← HQ.out]
      have HN := Lib.hid (New.trans NN2 (New.trans N3 N4))
      clear N3 N4 NN2
      go_wp2
      go_ret
      exact ⟨rfl, HN.out⟩
  · have hs2 : small9B l = false := by simpa using hs
    go_enter Tryd.func3, Tryd.ntmps3
    go_wp2_with fail
    refine (awake09 w HL.out).mono ?_
    rintro e w1 ⟨rfl, N1⟩
    go_wp2_with fail
    refine (small09 w1 _ l (HV.out.new N1)).mono ?_
    rintro e w1' ⟨rfl, rfl⟩
    rw [hs2]
    go_wp2_with fail
    refine (awake09 w1 (HL.out.new N1)).mono ?_
    rintro e w2 ⟨rfl, N2⟩
    have HN := Lib.hid (New.trans N1 N2)
    clear N1 N2
    go_wp2
    go_ret
    exact ⟨rfl, HN.out⟩

end Go.Proofs.YtnjijmphmgihiaaDoor
