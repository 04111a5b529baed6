/-
  The law SealTurned, walked.
-/
import Derived.Test.YtgbgdbfiplmciaaDoorLaw06
import Derived.Test.YtgbgdbfiplmciaaDoorRefSealA
import Derived.Test.YtgbgdbfiplmciaaDoorRefRest
import Derived.Test.YtgbgdbfiplmciaaDoorSealTurn
namespace Go.Proofs.YtgbgdbfiplmciaaDoor
set_option linter.unusedVariables false
set_option linter.unusedSimpArgs false
open Go.RowKit

theorem own_byte {w : World} {base g n c : Nat} {l : List UInt8} (h : w.ownsRow base 5 1 (.slice (some ⟨g, 0, none⟩) n c) n (l.map bv)) (hl : l.length = n) (i : Nat) (hi : i < n) : w.cell? ⟨g, i, none⟩ = some (bv (l.getD i 0)) := by
  rw [h.cellAt i (by omega), List.getElem?_map, List.getD_eq_getElem?_getD, List.getElem?_eq_getElem (by omega)]
  rfl

/-- a byte of a row of one's own is another one -/
theorem own_turn {w0 w : World} {g n c : Nat} {l : List UInt8} (h : w.ownsRow w0.heap.size 5 1 (.slice (some ⟨g, 0, none⟩) n c) n (l.map bv)) (hl : l.length = n) (hn : New w0 w) (hg : w0.heap.size ≤ g) (i : Nat) (u : UInt8) :
    Rd (w.setCell ⟨g, i, none⟩ (bv u)) (.slice (some ⟨g, 0, none⟩) n c) (l.set i u) ∧ New w0 (w.setCell ⟨g, i, none⟩ (bv u)) := by
  have h2 := (h.stored i (bv u)).1
  rw [← List.map_set] at h2
  have hs : (l.set i u).length = n := by rw [List.length_set, hl]
  refine ⟨Rd.of_own (base := w0.heap.size) (e := 5) ?_, hn.setCell hg _⟩
  rw [hs]
  exact h2

attribute [local go_sem] u8_bxor




set_option maxRecDepth 100000 in
set_option maxHeartbeats 2000000 in
theorem turnedWalk (w : World) (x y z v : Value) (key nonce beside t : List UInt8) (hx : Rd w x key) (hy : Rd w y nonce) (hz : Rd w z beside) (hv : Rd w v t) (at_ : Int) (b : UInt8) (hL : Laid w) :
    Calls Tryd.prog 5 #[.agg #[x, y, z, v], .int .i64 at_, bv b] w fun e w' => e = .returned (.bool true) ∧ New w w' := by
  have hx' := hx
  have hy' := hy
  have hz' := hz
  have hv' := hv
  obtain ⟨ax, nx, cx, rfl, hax, -⟩ := hx'
  obtain ⟨ay, ny, cy, rfl, hay, -⟩ := hy'
  obtain ⟨az, nz, cz, rfl, haz, -⟩ := hz'
  obtain ⟨av, nv, cv, rfl, hav, -⟩ := hv'
  have HX := Lib.hid hx
  have HY := Lib.hid hy
  have HZ := Lib.hid hz
  have HV := Lib.hid hv
  have HL := Lib.hid hL
  have HAX := Lib.hid hax
  have HAY := Lib.hid hay
  have HAZ := Lib.hid haz
  have HAV := Lib.hid hav
  clear hx hy hz hv hL hax hay haz hav
  obtain ⟨i0, hi0, hz0, hz1, hz2⟩ := info_parts infoByte
  by_cases hs : nx ≤ 60 ∧ ny ≤ 30 ∧ nz ≤ 200 ∧ nv ≤ 400
  · have ds : decide (nx ≤ 60 ∧ ny ≤ 30 ∧ nz ≤ 200 ∧ nv ≤ 400) = true := by simpa using hs
    obtain ⟨-, -, hs3, hs4⟩ := hs
    by_cases h48 : nx = 48
    · have d1 : ((nx : Int) != 48) = false := by simp; omega
      by_cases h16 : ny = 16
      · have d2 : ((ny : Int) != 16) = false := by simp; omega
        by_cases hb0 : b = 0
        · subst hb0
          clear h48 h16
          go_enter Tryd.func5, Tryd.ntmps5
          go_wp2_with fail
          generalize hw1 : World.alloc w _ = w1
          have HC1 : Hid (CaseAt w1 w.heap.size (.slice ax nx cx) (.slice ay ny cy) (.slice az nz cz) (.slice av nv cv)) := Lib.hid (by rw [← hw1]; exact heap_alloc_new _ _)
          have N1 : New w w1 := by rw [← hw1]; exact (Below.refl _ _).alloc (Nat.le_refl _) _
          clear hw1
          refine (awake06 w1 (HL.out.new N1)).mono ?_
          rintro e w2 ⟨rfl, N2⟩
          have NN2 := New.trans N1 N2
          have HC2 := Lib.hid (HC1.out.new N2)
          clear HC1 N2 N1
          obtain ⟨c0, c1, c2, c3⟩ := HC2.out.cells
          go_wp2_with fail
          clear c0 c1 c2 c3
          refine (small06 w2 ax ay az av nx cx ny cy nz cz nv cv).mono ?_
          rintro e w3 ⟨rfl, N3⟩
          rw [ds]
          have NN3 := New.trans NN2 N3
          have HC3 := Lib.hid (HC2.out.new N3)
          clear HC2 N3 NN2
          obtain ⟨c0, c1, c2, c3⟩ := HC3.out.cells
          go_wp2_with fail
          refine (awake06 w3 (HL.out.new NN3)).mono ?_
          rintro e w4 ⟨rfl, N4⟩
          clear c0 c1 c2 c3
          go_wp2
          go_ret
          exact ⟨rfl, New.trans NN3 N4⟩
        · have db : ((b.toNat : Int) == 0) = false := by
            rw [beq_eq_false_iff_ne]
            intro h
            exact hb0 (UInt8.toNat_inj.1 (by simpa using h))
          have HB0 := Lib.hid hb0
          have H48 : Hid (key.length = 48) := by show _ = _; rw [HAX.out, h48]
          have H16 : Hid (nonce.length = 16) := by show _ = _; rw [HAY.out, h16]
          clear h48 h16 hb0
          go_enter Tryd.func5, Tryd.ntmps5
          go_wp2_with fail
          generalize hw1 : World.alloc w _ = w1
          have HC1 : Hid (CaseAt w1 w.heap.size (.slice ax nx cx) (.slice ay ny cy) (.slice az nz cz) (.slice av nv cv)) := Lib.hid (by rw [← hw1]; exact heap_alloc_new _ _)
          have N1 : New w w1 := by rw [← hw1]; exact (Below.refl _ _).alloc (Nat.le_refl _) _
          clear hw1
          refine (awake06 w1 (HL.out.new N1)).mono ?_
          rintro e w2 ⟨rfl, N2⟩
          have NN2 := New.trans N1 N2
          have HC2 := Lib.hid (HC1.out.new N2)
          clear HC1 N2 N1
          obtain ⟨c0, c1, c2, c3⟩ := HC2.out.cells
          go_wp2_with fail
          clear c0 c1 c2 c3
          refine (small06 w2 ax ay az av nx cx ny cy nz cz nv cv).mono ?_
          rintro e w3 ⟨rfl, N3⟩
          rw [ds]
          have NN3 := New.trans NN2 N3
          have HC3 := Lib.hid (HC2.out.new N3)
          clear HC2 N3 NN2
          obtain ⟨c0, c1, c2, c3⟩ := HC3.out.cells
          go_wp2_with fail
          refine (sealSeal w3 _ _ _ _ key nonce beside t (HX.out.new NN3) H48.out (HY.out.new NN3) H16.out (HZ.out.new NN3) (by rw [HAZ.out]; omega) (HV.out.new NN3) (by rw [HAV.out]; omega) (HL.out.new NN3)).mono ?_
          rintro e w4 ⟨a4, n4, c4, rfl, r4, hn4, N4, -⟩
          rw [HAV.out] at hn4
          have dn : ((n4 : Int) != (nv : Int) + 16) = false := by simp; omega
          have HN4 := Lib.hid hn4
          have h4lim : n4 ≤ 416 := by omega
          have h4pos : 0 < n4 := by omega
          have NN4 := New.trans NN3 N4
          have HC4 := Lib.hid (HC3.out.new N4)
          have R4 := Lib.hid r4
          clear HC3 N4 NN3 r4 c0 c1 c2 c3 hn4
          obtain ⟨c0, c1, c2, c3⟩ := HC4.out.cells
          have HSL : Hid ((sealOf key nonce beside t).length = n4) := Lib.hid R4.out.len
          have HTU := Lib.hid (turned_tag key nonce beside t)
          have HTX := Lib.hid (turned_text key nonce beside t)
          have HTL := Lib.hid (turned_length key nonce beside t)
          have HTD : Hid (∀ i x, turned key nonce beside t i x = (sealOf key nonce beside t).set i (bxor ((sealOf key nonce beside t).getD i 0) x)) := Lib.hid fun _ _ => rfl
          generalize sealOf key nonce beside t = SE at *
          have N5 : New w4 (w4.alloc (.cells #[] 5)) := (Below.refl _ _).alloc (Nat.le_refl _) _
          go_wp2_with (at_builtin; refine wpList_append_bytes rfl _ _ 22 rfl w4.heap.size 5 i0 _ Tryd.underlying22 hi0 hz0 hz1 hz2 rfl _ 0 [] rfl (World.ownsRow_made w4 #[] 0 (Nat.le_refl _) (Nat.zero_le _) rfl) _ SE rfl (R4.out.new N5) ?_ ?_ ?_)
          · rw [HSL.out]; omega
          · exact N5.size
          intro v6 w6 hown6 hg6 hat6
          rw [HSL.out] at hown6
          have N6 : New w4 w6 := Below.grown N5 hg6 N5.size (fun k hk => by simp [Value.ownBlock] at hk; omega)
          obtain ⟨gd, cd, rfl, hgd, -⟩ := hown6.form h4pos
          have HO6 := Lib.hid hown6
          have HN6 := Lib.hid N6
          clear hown6 hg6 hat6 N5 N6 c0 c1 c2 c3
          go_wp2_with fail
          refine (refRest2 w6 at_ (n4 : Int) (by omega) (by omega)).mono ?_
          rintro e w7 ⟨rfl, rfl⟩
          obtain ⟨i, hi⟩ : ∃ i : Nat, at_ % (n4 : Int) = (i : Int) := ⟨(at_ % (n4 : Int)).toNat, by have := Int.emod_nonneg at_ (b := (n4 : Int)) (by omega); omega⟩
          have hin : i < n4 := by have := Int.emod_lt_of_pos at_ (b := (n4 : Int)) (by omega); omega
          rw [hi]
          clear hi
          have hii : (i : Int) < (n4 : Int) := by omega
          have hc := own_byte HO6.out HSL.out i hin
          have hf := HO6.out.frozenAt i
          have HT7 := Lib.hid (own_turn HO6.out HSL.out HN6.out hgd i (bxor (SE.getD i 0) b))
          rw [← HTD.out] at HT7
          generalize SE.getD i 0 = si at *
          clear HO6
          go_upto_region 9 with fail
          clear hc hf
          generalize w6.setCell ⟨gd, i, none⟩ _ = w7 at *
          have HU := Lib.hid (HTU.out i b HB0.out)
          have HXX := Lib.hid (HTX.out i b HB0.out)
          have HDL := Lib.hid (HTL.out i b)
          clear HTU HTX HTL HTD
          generalize turned key nonce beside t i b = D at *
          have NN7 := New.trans NN4 HT7.out.2
          have HC7 := Lib.hid (HC4.out.new HT7.out.2)
          have R47 := Lib.hid (R4.out.new HT7.out.2)
          obtain ⟨c0, c1, c2, c3⟩ := HC7.out.cells
          have HO := Lib.hid (sealOpen w7 _ _ _ _ key nonce beside D (HX.out.new NN7) H48.out (HY.out.new NN7) H16.out (HZ.out.new NN7) (by rw [HAZ.out]; omega) HT7.out.1 (by rw [HDL.out, HAV.out]; omega) (HL.out.new NN7))
          have HR := Lib.hid fun wx => refOpen06 wx key nonce beside D H48.out H16.out (by rw [HAZ.out]; omega) (by rw [HDL.out, HAV.out]; omega)
          have R77 := Lib.hid HT7.out.1
          clear HC4 R4 HT7 NN4 hgd
          generalize openErr key nonce beside D = E at *
          generalize openText key nonce beside D = T at *
          go_wp2_with fail
          refine HO.out.mono ?_
          rintro e w8 ⟨a8, n8, c8, rfl, r8, N8, -⟩
          have NN8 := New.trans NN7 N8
          have HC8 := Lib.hid (HC7.out.new N8)
          have R48 := Lib.hid (R47.out.new N8)
          have R8 := Lib.hid r8
          have k3 := run_str (P := Tryd.prog) Tryd.underlying22 Tryd.underlying5 Tryd.underlying9 (R77.out.new N8)
          clear HC7 R47 HO r8 NN7 N8 c0 c1 c2 c3 R77
          obtain ⟨c0, c1, c2, c3⟩ := HC8.out.cells
          have k0 := run_str (P := Tryd.prog) Tryd.underlying22 Tryd.underlying5 Tryd.underlying9 (HX.out.new NN8)
          have k1 := run_str (P := Tryd.prog) Tryd.underlying22 Tryd.underlying5 Tryd.underlying9 (HY.out.new NN8)
          have k2 := run_str (P := Tryd.prog) Tryd.underlying22 Tryd.underlying5 Tryd.underlying9 (HZ.out.new NN8)
          go_wp2_with fail
          refine (HR.out w8).mono ?_
          rintro e w9 ⟨rfl, N9⟩
          have NN9 := New.trans NN8 N9
          have HC9 := Lib.hid (HC8.out.new N9)
          have R49 := Lib.hid (R48.out.new N9)
          have R9 := Lib.hid (R8.out.new N9)
          clear HC8 R48 R8 HR NN8 N9 c0 c1 c2 c3 k0 k1 k2 k3
          obtain ⟨c0, c1, c2, c3⟩ := HC9.out.cells
          have ke : (E != E) = false := by simp
          by_cases hit : i < nv
          · have hgi : decide ((nv : Int) ≤ (i : Int)) = false := by simp; omega
            rcases HXX.out (by rw [HAV.out]; exact hit) with ⟨hE, hT⟩ | hE
            · subst hE
              have k4 := run_str (P := Tryd.prog) Tryd.underlying22 Tryd.underlying5 Tryd.underlying9 R9.out
              have k5 := run_str (P := Tryd.prog) Tryd.underlying22 Tryd.underlying5 Tryd.underlying9 (HV.out.new NN9)
              have kb : ((bstr T).toList == (bstr t).toList) = false := by
                rw [beq_eq_false_iff_ne, bstr_list, bstr_list]
                exact hT
              clear hT
              clear HU HXX
              have N10 : New w9 (w9.alloc (.cells #[] 5)) := (Below.refl _ _).alloc (Nat.le_refl _) _
              obtain ⟨f0, f1, f2, f3⟩ := (HC9.out.new N10).cells
              go_wp2_with (at_builtin; refine wpList_append_bytes rfl _ _ 22 rfl w9.heap.size 5 i0 _ Tryd.underlying22 hi0 hz0 hz1 hz2 rfl _ 0 [] rfl (World.ownsRow_made w9 #[] 0 (Nat.le_refl _) (Nat.zero_le _) rfl) _ nonce rfl ((HY.out.new NN9).new N10) ?_ ?_ ?_)
              · rw [H16.out]; omega
              · exact N10.size
              intro v11 w11 hown11 hg11 hat11
              rw [H16.out] at hown11
              have N11 : New w9 w11 := Below.grown N10 hg11 N10.size (fun k hk => by simp [Value.ownBlock] at hk; omega)
              obtain ⟨gn, cn, rfl, hgn, -⟩ := hown11.form (by decide)
              have HO11 := Lib.hid hown11
              have HN11 := Lib.hid N11
              clear hown11 hg11 hat11 N10 N11 c0 c1 c2 c3 f0 f1 f2 f3
              go_wp2_with fail
              refine (refRest2 w11 at_ 16 (by omega) (by omega)).mono ?_
              rintro e w12 ⟨rfl, rfl⟩
              obtain ⟨k, hk⟩ : ∃ k : Nat, at_ % 16 = (k : Int) := ⟨(at_ % 16).toNat, by omega⟩
              have hkn : k < 16 := by omega
              rw [hk]
              clear hk
              have hki : (k : Int) < 16 := by omega
              have hc := own_byte HO11.out H16.out k hkn
              have hf := HO11.out.frozenAt k
              have HT12 := Lib.hid (own_turn HO11.out H16.out HN11.out hgn k (bxor (nonce.getD k 0) b))
              have HNL : Hid ((nonce.set k (bxor (nonce.getD k 0) b)).length = 16) := by show _ = _; rw [List.length_set, H16.out]
              generalize nonce.set k (bxor (nonce.getD k 0) b) = nonce2 at *
              generalize nonce.getD k 0 = nk at *
              clear HO11
              go_upto_region 16 with fail
              clear hc hf
              generalize w11.setCell ⟨gn, k, none⟩ _ = w12 at *
              have NN12 := New.trans NN9 HT12.out.2
              have HC12 := Lib.hid (HC9.out.new HT12.out.2)
              have R412 := Lib.hid (R49.out.new HT12.out.2)
              have R12 := Lib.hid HT12.out.1
              have HO := Lib.hid (sealOpen w12 _ _ _ _ key nonce2 beside SE (HX.out.new NN12) H48.out R12.out HNL.out (HZ.out.new NN12) (by rw [HAZ.out]; omega) R412.out (by rw [HSL.out]; omega) (HL.out.new NN12))
              have HR := Lib.hid fun wx => refOpen06 wx key nonce2 beside SE H48.out HNL.out (by rw [HAZ.out]; omega) (by rw [HSL.out]; omega)
              clear HC9 R49 HT12 NN9 hgn
              generalize openErr key nonce2 beside SE = E2 at *
              generalize openText key nonce2 beside SE = T2 at *
              obtain ⟨c0, c1, c2, c3⟩ := HC12.out.cells
              go_wp2_with fail
              refine HO.out.mono ?_
              rintro e w13 ⟨a13, n13, c13, rfl, -, N13, -⟩
              have NN13 := New.trans NN12 N13
              have HC13 := Lib.hid (HC12.out.new N13)
              have k0 := run_str (P := Tryd.prog) Tryd.underlying22 Tryd.underlying5 Tryd.underlying9 (HX.out.new NN13)
              have k1 := run_str (P := Tryd.prog) Tryd.underlying22 Tryd.underlying5 Tryd.underlying9 (R12.out.new N13)
              have k2 := run_str (P := Tryd.prog) Tryd.underlying22 Tryd.underlying5 Tryd.underlying9 (HZ.out.new NN13)
              have k3 := run_str (P := Tryd.prog) Tryd.underlying22 Tryd.underlying5 Tryd.underlying9 (R412.out.new N13)
              clear HC12 R412 R12 HO NN12 N13 c0 c1 c2 c3
              obtain ⟨c0, c1, c2, c3⟩ := HC13.out.cells
              go_wp2_with fail
              refine (HR.out w13).mono ?_
              rintro e w14 ⟨rfl, N14⟩
              have ke2 : (E2 == E2) = true := by simp
              clear HC13 HR c0 c1 c2 c3 k0 k1 k2 k3
              go_wp2
              go_ret
              exact ⟨rfl, New.trans NN13 N14⟩
            · subst hE
              clear HU HXX
              have N10 : New w9 (w9.alloc (.cells #[] 5)) := (Below.refl _ _).alloc (Nat.le_refl _) _
              obtain ⟨f0, f1, f2, f3⟩ := (HC9.out.new N10).cells
              go_wp2_with (at_builtin; refine wpList_append_bytes rfl _ _ 22 rfl w9.heap.size 5 i0 _ Tryd.underlying22 hi0 hz0 hz1 hz2 rfl _ 0 [] rfl (World.ownsRow_made w9 #[] 0 (Nat.le_refl _) (Nat.zero_le _) rfl) _ nonce rfl ((HY.out.new NN9).new N10) ?_ ?_ ?_)
              · rw [H16.out]; omega
              · exact N10.size
              intro v11 w11 hown11 hg11 hat11
              rw [H16.out] at hown11
              have N11 : New w9 w11 := Below.grown N10 hg11 N10.size (fun k hk => by simp [Value.ownBlock] at hk; omega)
              obtain ⟨gn, cn, rfl, hgn, -⟩ := hown11.form (by decide)
              have HO11 := Lib.hid hown11
              have HN11 := Lib.hid N11
              clear hown11 hg11 hat11 N10 N11 c0 c1 c2 c3 f0 f1 f2 f3
              go_wp2_with fail
              refine (refRest2 w11 at_ 16 (by omega) (by omega)).mono ?_
              rintro e w12 ⟨rfl, rfl⟩
              obtain ⟨k, hk⟩ : ∃ k : Nat, at_ % 16 = (k : Int) := ⟨(at_ % 16).toNat, by omega⟩
              have hkn : k < 16 := by omega
              rw [hk]
              clear hk
              have hki : (k : Int) < 16 := by omega
              have hc := own_byte HO11.out H16.out k hkn
              have hf := HO11.out.frozenAt k
              have HT12 := Lib.hid (own_turn HO11.out H16.out HN11.out hgn k (bxor (nonce.getD k 0) b))
              have HNL : Hid ((nonce.set k (bxor (nonce.getD k 0) b)).length = 16) := by show _ = _; rw [List.length_set, H16.out]
              generalize nonce.set k (bxor (nonce.getD k 0) b) = nonce2 at *
              generalize nonce.getD k 0 = nk at *
              clear HO11
              go_upto_region 16 with fail
              clear hc hf
              generalize w11.setCell ⟨gn, k, none⟩ _ = w12 at *
              have NN12 := New.trans NN9 HT12.out.2
              have HC12 := Lib.hid (HC9.out.new HT12.out.2)
              have R412 := Lib.hid (R49.out.new HT12.out.2)
              have R12 := Lib.hid HT12.out.1
              have HO := Lib.hid (sealOpen w12 _ _ _ _ key nonce2 beside SE (HX.out.new NN12) H48.out R12.out HNL.out (HZ.out.new NN12) (by rw [HAZ.out]; omega) R412.out (by rw [HSL.out]; omega) (HL.out.new NN12))
              have HR := Lib.hid fun wx => refOpen06 wx key nonce2 beside SE H48.out HNL.out (by rw [HAZ.out]; omega) (by rw [HSL.out]; omega)
              clear HC9 R49 HT12 NN9 hgn
              generalize openErr key nonce2 beside SE = E2 at *
              generalize openText key nonce2 beside SE = T2 at *
              obtain ⟨c0, c1, c2, c3⟩ := HC12.out.cells
              go_wp2_with fail
              refine HO.out.mono ?_
              rintro e w13 ⟨a13, n13, c13, rfl, -, N13, -⟩
              have NN13 := New.trans NN12 N13
              have HC13 := Lib.hid (HC12.out.new N13)
              have k0 := run_str (P := Tryd.prog) Tryd.underlying22 Tryd.underlying5 Tryd.underlying9 (HX.out.new NN13)
              have k1 := run_str (P := Tryd.prog) Tryd.underlying22 Tryd.underlying5 Tryd.underlying9 (R12.out.new N13)
              have k2 := run_str (P := Tryd.prog) Tryd.underlying22 Tryd.underlying5 Tryd.underlying9 (HZ.out.new NN13)
              have k3 := run_str (P := Tryd.prog) Tryd.underlying22 Tryd.underlying5 Tryd.underlying9 (R412.out.new N13)
              clear HC12 R412 R12 HO NN12 N13 c0 c1 c2 c3
              obtain ⟨c0, c1, c2, c3⟩ := HC13.out.cells
              go_wp2_with fail
              refine (HR.out w13).mono ?_
              rintro e w14 ⟨rfl, N14⟩
              have ke2 : (E2 == E2) = true := by simp
              clear HC13 HR c0 c1 c2 c3 k0 k1 k2 k3
              go_wp2
              go_ret
              exact ⟨rfl, New.trans NN13 N14⟩
          · have hgi : decide ((nv : Int) ≤ (i : Int)) = true := by simp; omega
            obtain rfl : E = 14 := HU.out (by rw [HAV.out]; omega) (by rw [HAV.out, ← HN4.out]; exact hin)
            clear HU HXX
            have N10 : New w9 (w9.alloc (.cells #[] 5)) := (Below.refl _ _).alloc (Nat.le_refl _) _
            obtain ⟨f0, f1, f2, f3⟩ := (HC9.out.new N10).cells
            go_wp2_with (at_builtin; refine wpList_append_bytes rfl _ _ 22 rfl w9.heap.size 5 i0 _ Tryd.underlying22 hi0 hz0 hz1 hz2 rfl _ 0 [] rfl (World.ownsRow_made w9 #[] 0 (Nat.le_refl _) (Nat.zero_le _) rfl) _ nonce rfl ((HY.out.new NN9).new N10) ?_ ?_ ?_)
            · rw [H16.out]; omega
            · exact N10.size
            intro v11 w11 hown11 hg11 hat11
            rw [H16.out] at hown11
            have N11 : New w9 w11 := Below.grown N10 hg11 N10.size (fun k hk => by simp [Value.ownBlock] at hk; omega)
            obtain ⟨gn, cn, rfl, hgn, -⟩ := hown11.form (by decide)
            have HO11 := Lib.hid hown11
            have HN11 := Lib.hid N11
            clear hown11 hg11 hat11 N10 N11 c0 c1 c2 c3 f0 f1 f2 f3
            go_wp2_with fail
            refine (refRest2 w11 at_ 16 (by omega) (by omega)).mono ?_
            rintro e w12 ⟨rfl, rfl⟩
            obtain ⟨k, hk⟩ : ∃ k : Nat, at_ % 16 = (k : Int) := ⟨(at_ % 16).toNat, by omega⟩
            have hkn : k < 16 := by omega
            rw [hk]
            clear hk
            have hki : (k : Int) < 16 := by omega
            have hc := own_byte HO11.out H16.out k hkn
            have hf := HO11.out.frozenAt k
            have HT12 := Lib.hid (own_turn HO11.out H16.out HN11.out hgn k (bxor (nonce.getD k 0) b))
            have HNL : Hid ((nonce.set k (bxor (nonce.getD k 0) b)).length = 16) := by show _ = _; rw [List.length_set, H16.out]
            generalize nonce.set k (bxor (nonce.getD k 0) b) = nonce2 at *
            generalize nonce.getD k 0 = nk at *
            clear HO11
            go_upto_region 16 with fail
            clear hc hf
            generalize w11.setCell ⟨gn, k, none⟩ _ = w12 at *
            have NN12 := New.trans NN9 HT12.out.2
            have HC12 := Lib.hid (HC9.out.new HT12.out.2)
            have R412 := Lib.hid (R49.out.new HT12.out.2)
            have R12 := Lib.hid HT12.out.1
            have HO := Lib.hid (sealOpen w12 _ _ _ _ key nonce2 beside SE (HX.out.new NN12) H48.out R12.out HNL.out (HZ.out.new NN12) (by rw [HAZ.out]; omega) R412.out (by rw [HSL.out]; omega) (HL.out.new NN12))
            have HR := Lib.hid fun wx => refOpen06 wx key nonce2 beside SE H48.out HNL.out (by rw [HAZ.out]; omega) (by rw [HSL.out]; omega)
            clear HC9 R49 HT12 NN9 hgn
            generalize openErr key nonce2 beside SE = E2 at *
            generalize openText key nonce2 beside SE = T2 at *
            obtain ⟨c0, c1, c2, c3⟩ := HC12.out.cells
            go_wp2_with fail
            refine HO.out.mono ?_
            rintro e w13 ⟨a13, n13, c13, rfl, -, N13, -⟩
            have NN13 := New.trans NN12 N13
            have HC13 := Lib.hid (HC12.out.new N13)
            have k0 := run_str (P := Tryd.prog) Tryd.underlying22 Tryd.underlying5 Tryd.underlying9 (HX.out.new NN13)
            have k1 := run_str (P := Tryd.prog) Tryd.underlying22 Tryd.underlying5 Tryd.underlying9 (R12.out.new N13)
            have k2 := run_str (P := Tryd.prog) Tryd.underlying22 Tryd.underlying5 Tryd.underlying9 (HZ.out.new NN13)
            have k3 := run_str (P := Tryd.prog) Tryd.underlying22 Tryd.underlying5 Tryd.underlying9 (R412.out.new N13)
            clear HC12 R412 R12 HO NN12 N13 c0 c1 c2 c3
            obtain ⟨c0, c1, c2, c3⟩ := HC13.out.cells
            go_wp2_with fail
            refine (HR.out w13).mono ?_
            rintro e w14 ⟨rfl, N14⟩
            have ke2 : (E2 == E2) = true := by simp
            clear HC13 HR c0 c1 c2 c3 k0 k1 k2 k3
            go_wp2
            go_ret
            exact ⟨rfl, New.trans NN13 N14⟩
      · have d2 : ((ny : Int) != 16) = true := by simp; omega
        clear h48 h16
        go_enter Tryd.func5, Tryd.ntmps5
        go_wp2_with fail
        generalize hw1 : World.alloc w _ = w1
        have HC1 : Hid (CaseAt w1 w.heap.size (.slice ax nx cx) (.slice ay ny cy) (.slice az nz cz) (.slice av nv cv)) := Lib.hid (by rw [← hw1]; exact heap_alloc_new _ _)
        have N1 : New w w1 := by rw [← hw1]; exact (Below.refl _ _).alloc (Nat.le_refl _) _
        clear hw1
        refine (awake06 w1 (HL.out.new N1)).mono ?_
        rintro e w2 ⟨rfl, N2⟩
        have NN2 := New.trans N1 N2
        have HC2 := Lib.hid (HC1.out.new N2)
        clear HC1 N2 N1
        obtain ⟨c0, c1, c2, c3⟩ := HC2.out.cells
        go_wp2_with fail
        clear c0 c1 c2 c3
        refine (small06 w2 ax ay az av nx cx ny cy nz cz nv cv).mono ?_
        rintro e w3 ⟨rfl, N3⟩
        rw [ds]
        have NN3 := New.trans NN2 N3
        have HC3 := Lib.hid (HC2.out.new N3)
        clear HC2 N3 NN2
        obtain ⟨c0, c1, c2, c3⟩ := HC3.out.cells
        go_wp2_with fail
        refine (awake06 w3 (HL.out.new NN3)).mono ?_
        rintro e w4 ⟨rfl, N4⟩
        clear c0 c1 c2 c3
        go_wp2
        go_ret
        exact ⟨rfl, New.trans NN3 N4⟩
    · have d1 : ((nx : Int) != 48) = true := by simp; omega
      clear h48
      go_enter Tryd.func5, Tryd.ntmps5
      go_wp2_with fail
      generalize hw1 : World.alloc w _ = w1
      have HC1 : Hid (CaseAt w1 w.heap.size (.slice ax nx cx) (.slice ay ny cy) (.slice az nz cz) (.slice av nv cv)) := Lib.hid (by rw [← hw1]; exact heap_alloc_new _ _)
      have N1 : New w w1 := by rw [← hw1]; exact (Below.refl _ _).alloc (Nat.le_refl _) _
      clear hw1
      refine (awake06 w1 (HL.out.new N1)).mono ?_
      rintro e w2 ⟨rfl, N2⟩
      have NN2 := New.trans N1 N2
      have HC2 := Lib.hid (HC1.out.new N2)
      clear HC1 N2 N1
      obtain ⟨c0, c1, c2, c3⟩ := HC2.out.cells
      go_wp2_with fail
      clear c0 c1 c2 c3
      refine (small06 w2 ax ay az av nx cx ny cy nz cz nv cv).mono ?_
      rintro e w3 ⟨rfl, N3⟩
      rw [ds]
      have NN3 := New.trans NN2 N3
      have HC3 := Lib.hid (HC2.out.new N3)
      clear HC2 N3 NN2
      obtain ⟨c0, c1, c2, c3⟩ := HC3.out.cells
      go_wp2_with fail
      refine (awake06 w3 (HL.out.new NN3)).mono ?_
      rintro e w4 ⟨rfl, N4⟩
      clear c0 c1 c2 c3
      go_wp2
      go_ret
      exact ⟨rfl, New.trans NN3 N4⟩
  · have ds : decide (nx ≤ 60 ∧ ny ≤ 30 ∧ nz ≤ 200 ∧ nv ≤ 400) = false := by simpa using hs
    clear hs
    go_enter Tryd.func5, Tryd.ntmps5
    go_wp2_with fail
    generalize hw1 : World.alloc w _ = w1
    have HC1 : Hid (CaseAt w1 w.heap.size (.slice ax nx cx) (.slice ay ny cy) (.slice az nz cz) (.slice av nv cv)) := Lib.hid (by rw [← hw1]; exact heap_alloc_new _ _)
    have N1 : New w w1 := by rw [← hw1]; exact (Below.refl _ _).alloc (Nat.le_refl _) _
    clear hw1
    refine (awake06 w1 (HL.out.new N1)).mono ?_
    rintro e w2 ⟨rfl, N2⟩
    have NN2 := New.trans N1 N2
    have HC2 := Lib.hid (HC1.out.new N2)
    clear HC1 N2 N1
    obtain ⟨c0, c1, c2, c3⟩ := HC2.out.cells
    go_wp2_with fail
    clear c0 c1 c2 c3
    refine (small06 w2 ax ay az av nx cx ny cy nz cz nv cv).mono ?_
    rintro e w3 ⟨rfl, N3⟩
    rw [ds]
    have NN3 := New.trans NN2 N3
    have HC3 := Lib.hid (HC2.out.new N3)
    clear HC2 N3 NN2
    obtain ⟨c0, c1, c2, c3⟩ := HC3.out.cells
    go_wp2_with fail
    refine (awake06 w3 (HL.out.new NN3)).mono ?_
    rintro e w4 ⟨rfl, N4⟩
    clear c0 c1 c2 c3
    go_wp2
    go_ret
    exact ⟨rfl, New.trans NN3 N4⟩

end Go.Proofs.YtgbgdbfiplmciaaDoor
