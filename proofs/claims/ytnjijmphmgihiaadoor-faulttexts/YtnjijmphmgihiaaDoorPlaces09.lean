/-
  The laws FaultPlaces and FaultNil, walked.
-/
import Derived.Test.YtnjijmphmgihiaaDoorCodes09
namespace Go.Proofs.YtnjijmphmgihiaaDoor
set_option linter.unusedVariables false
set_option linter.unusedSimpArgs false
open Go.RowKit

set_option maxRecDepth 100000 in
set_option maxHeartbeats 2000000 in
theorem placesWalk (w : World) (v : Value) (l : List (List UInt8 × Int)) (op : List UInt8) (hv : RdLk w v l) (hL : Laid9 w) :
    Calls Tryd.prog 4 #[v, .string (bstr op)] w fun e w' => e = .returned (.bool true) ∧ New w w' := by
  obtain ⟨a, m, c, rfl⟩ : ∃ a n c, v = .slice a n c := by obtain ⟨_, ⟨a, n, c, e, _⟩, _⟩ := hv; exact ⟨a, n, c, e⟩
  obtain ⟨hm, -, -⟩ := hv.len
  subst hm
  obtain ⟨i0, hi0, hz0, hz1, hz2⟩ := info_parts infoStr9
  have HV := Lib.hid hv
  have HL := Lib.hid hL
  clear hv hL
  by_cases hs : small9B l = true
  · have hlen := (small9_len hs).1
    by_cases hop : (bstr op).size ≤ 50
    · have hop1 : decide ((50 : Int) < ((bstr op).size : Int)) = false := by simp; omega
      go_enter Tryd.func4, Tryd.ntmps4
      go_wp2_with fail
      refine (awake09 w HL.out).mono ?_
      rintro e w1 ⟨rfl, N1⟩
      go_wp2_with fail
      refine (small09 w1 _ l (HV.out.new N1)).mono ?_
      rintro e w1' ⟨rfl, rfl⟩
      rw [hs]
      go_wp2_with fail
      refine (madeAt w1 _ l 2 (HV.out.new N1) (by omega)).mono ?_
      rintro e w2 ⟨x, rfl, N2, hnil, hch⟩
      have HN2 := Lib.hid (New.trans N1 N2)
      -- the chain, or nothing
      have hall : ∃ L cc, errAt L cc 0 = x ∧ Chain w2 L cc ∧ L.map Lk.kp = l := by
        by_cases h : l = []
        · exact ⟨[], .nought, (hnil (.inl h)).symm, chain0 _ _, by rw [h]; rfl⟩
        · obtain ⟨L, h1, h2, h3⟩ := hch h (by decide)
          exact ⟨L, .num 2, h3.symm, h2, h1⟩
      obtain ⟨L, cc, hx, hC, hkp⟩ := hall
      have HX := Lib.hid hx
      have HC := Lib.hid hC
      have HKP := Lib.hid hkp
      have hl2 : L.length = l.length := by have := congrArg List.length hkp; simpa using this
      have HL2 := Lib.hid hl2
      clear N1 N2 hnil hch hx hC hkp hl2
      have HPL : Hid (∀ wx, New w2 wx → Calls Tryd.prog 14 #[x, .string (bstr op)] wx fun e w' => e = .returned (.tuple #[.int .i64 (placeOf l op).1, .bool (placeOf l op).2]) ∧ New wx w') := by
        refine Lib.hid (fun wx hn => ?_)
        have h := placeAt wx L cc op (HC.out.new hn) (HL.out.new (New.trans HN2.out hn)).1 (by rw [HL2.out]; omega)
        rw [HX.out, HKP.out] at h
        exact h
      have HOP : Hid (∀ wx, New w2 wx → Calls Tryd.prog 11 #[x] wx (OpsTo wx L)) := by
        refine Lib.hid (fun wx hn => ?_)
        have h := opsAt wx L cc (HC.out.new hn) (HL.out.new (New.trans HN2.out hn)).1 (by rw [HL2.out]; omega)
        rw [HX.out] at h
        exact h
      have HRP : Hid (∀ wx, New w wx → Calls Tryd.prog 15 #[.slice a l.length c, .string (bstr op)] wx fun e w' => e = .returned (.tuple #[.int .i64 (placeOf l op).1, .bool (placeOf l op).2]) ∧ wx = w') := Lib.hid (fun wx hn => refPlace9 wx _ l op (HV.out.new hn) (by omega))
      generalize (placeOf l op).1 = P1 at *
      generalize (placeOf l op).2 = P2 at *
      have hL20 := hlen
      go_wp2_with fail
      go_loopw [6, 7] (fun v i wr => ∃ k : Nat, k ≤ l.length ∧ i = .int .i64 k ∧ wr.ownsRow w2.heap.size 9 1 v k ((l.take k).map fun d => Value.string (bstr d.1)) ∧ New w2 wr) (fun _ i _ => l.length - (intOf i).toNat)
      case atStart => exact ⟨0, Nat.zero_le _, rfl, World.ownsRow_nil _ _ _ _, newRefl _⟩
      case round =>
        obtain ⟨k, hk, rfl, hown, N3⟩ := hrel
        have HO := Lib.hid hown
        have HN3 := Lib.hid N3
        clear hown N3
        by_cases hlt : k < l.length
        · obtain ⟨b, off, rfl, hcells, -, -⟩ := (HV.out.new (New.trans HN2.out HN3.out)).at hlt
          obtain ⟨c0, c1⟩ := hcells k hlt
          clear hcells c1
          obtain ⟨v', w', happ, hown', N'⟩ := run_app1 (P := Tryd.prog) w2 wr 30 30 9 i0 _ 16 Tryd.underlying30 hi0 hz0 hz1 hz2 rfl _ k _ HO.out HN3.out (.string (bstr (l[k]).1)) rfl (by omega) (by omega)
          have HAPP := Lib.hid happ
          have HOWN : Hid (w'.ownsRow w2.heap.size 9 1 v' (k + 1) ((l.take (k + 1)).map fun d => Value.string (bstr d.1))) := by
            refine Lib.hid ?_
            rw [List.take_succ_eq_append_getElem hlt, List.map_append]
            exact hown'
          have HN' := Lib.hid N'
          clear happ hown' N'
          generalize hd : l[k] = d at *
          clear hd
          go_wp2_with (at_builtin; refine wpList_app9 rfl _ _ 30 rfl _ _ rfl rfl HAPP.out ?_)
          go_roundw
          case rel => exact ⟨k + 1, by omega, by go_num, HOWN.out, HN'.out⟩
          case measure => simp [intOf] <;> omega
        · have hkL : k = l.length := by omega
          obtain ⟨av, cv, rfl, -, -⟩ := own_form HO.out
          have HR3 : Hid (RdV wr (.slice av k cv) ((l.map (·.1)).map fun s => Value.string (bstr s))) := by
            have h1 := RdV.of_own HO.out
            rw [hkL, List.take_length] at h1
            rw [List.map_map, hkL]
            exact Lib.hid h1
          clear HO
          go_wp2_with fail
          refine (HPL.out wr HN3.out).mono ?_
          rintro e w4 ⟨rfl, N4⟩
          have NN4 := New.trans HN3.out N4
          go_wp2_with fail
          refine (HRP.out w4 (New.trans HN2.out NN4)).mono ?_
          rintro e w4' ⟨rfl, rfl⟩
          go_wp2_with fail
          refine (HOP.out w4 NN4).mono ?_
          rintro e w5 ⟨a5, n5, c5, rfl, hr5, N5, rfl⟩
          have HR5 : Hid (RdV w5 (.slice a5 L.length c5) ((l.map (·.1)).map fun s => Value.string (bstr s))) := by
            have e1 : (l.map (·.1)).map (fun s => Value.string (bstr s)) = L.map Lk.opV := by
              rw [← HKP.out, List.map_map, List.map_map]
              rfl
            rw [e1]
            exact Lib.hid hr5
          have HR35 : Hid (RdV w5 (.slice av l.length cv) ((l.map (·.1)).map fun s => Value.string (bstr s))) := Lib.hid (by have := HR3.out.new (New.trans N4 N5); rw [hkL] at this; exact this)
          go_wp2_with fail
          refine (same9 w5 _ _ (l.map (·.1)) HR5.out HR35.out (by rw [List.length_map]; omega)).mono ?_
          rintro e w6 ⟨rfl, N6⟩
          have HN6 := Lib.hid (New.trans HN2.out (New.trans NN4 (New.trans N5 N6)))
          clear N4 N5 N6 NN4 hr5
          go_wp2
          go_ret
          exact ⟨rfl, HN6.out⟩
    · have hop1 : decide ((50 : Int) < ((bstr op).size : Int)) = true := by simp; omega
      go_enter Tryd.func4, Tryd.ntmps4
      go_wp2_with fail
      refine (awake09 w HL.out).mono ?_
      rintro e w1 ⟨rfl, N1⟩
      go_wp2_with fail
      refine (small09 w1 _ l (HV.out.new N1)).mono ?_
      rintro e w1' ⟨rfl, rfl⟩
      rw [hs]
      go_wp2_with fail
      refine (awake09 w1 (HL.out.new N1)).mono ?_
      rintro e w2 ⟨rfl, N2⟩
      have HN := Lib.hid (New.trans N1 N2)
      clear N1 N2
      go_wp2
      go_ret
      exact ⟨rfl, HN.out⟩
  · have hs2 : small9B l = false := by simpa using hs
    go_enter Tryd.func4, Tryd.ntmps4
    go_wp2_with fail
    refine (awake09 w HL.out).mono ?_
    rintro e w1 ⟨rfl, N1⟩
    go_wp2_with fail
    refine (small09 w1 _ l (HV.out.new N1)).mono ?_
    rintro e w1' ⟨rfl, rfl⟩
    rw [hs2]
    go_wp2_with fail
    refine (awake09 w1 (HL.out.new N1)).mono ?_
    rintro e w2 ⟨rfl, N2⟩
    have HN := Lib.hid (New.trans N1 N2)
    clear N1 N2
    go_wp2
    go_ret
    exact ⟨rfl, HN.out⟩

end Go.Proofs.YtnjijmphmgihiaaDoor
