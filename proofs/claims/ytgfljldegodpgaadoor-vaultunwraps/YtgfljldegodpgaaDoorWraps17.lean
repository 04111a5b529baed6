/-
  VaultWraps, VaultUnwraps: their walks.
-/
import Derived.Test.YtgfljldegodpgaaDoorLaw17
import Derived.Test.YtgfljldegodpgaaDoorRefVlt
namespace Go.Proofs.YtgfljldegodpgaaDoor
set_option linter.unusedVariables false
set_option linter.unusedSimpArgs false
set_option maxRecDepth 100000
open Go.RowKit




set_option maxHeartbeats 2000000 in
theorem unwrapsWalk (A : VltApi) (w : World) (x y z : Value) (k g s : List UInt8) (e : Int) (hx : Rd w x k) (hy : Rd w y g) (hz : Rd w z s) (he : i64In e) (hL : Laid w) :
    Calls Tryd.prog 4 #[.agg #[x, y, z, .int .i64 e]] w fun en w' => en = .returned (.bool true) ∧ New w w' := by
  obtain ⟨ax, nx, cx, rfl⟩ : ∃ a n c, x = .slice a n c := by obtain ⟨a, n, c, e, -⟩ := hx; exact ⟨a, n, c, e⟩
  obtain ⟨ay, ny, cy, rfl⟩ : ∃ a n c, y = .slice a n c := by obtain ⟨a, n, c, e, -⟩ := hy; exact ⟨a, n, c, e⟩
  obtain ⟨az, nz, cz, rfl⟩ : ∃ a n c, z = .slice a n c := by obtain ⟨a, n, c, e, -⟩ := hz; exact ⟨a, n, c, e⟩
  have HX := Lib.hid hx
  have HY := Lib.hid hy
  have HZ := Lib.hid hz
  have HLn : Hid (nx = k.length ∧ ny = g.length ∧ nz = s.length) := Lib.hid ⟨hx.len.symm, hy.len.symm, hz.len.symm⟩
  have HEi := Lib.hid he
  have HL := Lib.hid hL
  have HA := Lib.hid A
  clear hx hy hz he hL A
  go_enter Tryd.func4, Tryd.ntmps4
  go_upto_region 1 with fail
  generalize hw0 : World.alloc w _ = w0
  have HC0 : Hid (CaseAt17 w0 w.heap.size (.slice ax nx cx) (.slice ay ny cy) (.slice az nz cz) e) := Lib.hid (by rw [← hw0]; exact heap_alloc_new _ _)
  have HN0 : Hid (New w w0) := Lib.hid (by rw [← hw0]; exact (Below.refl _ _).alloc (Nat.le_refl _) _)
  clear hw0
  generalize w.heap.size = gc at *
  have HAW := Lib.hid (awake17 HA.out w0 (HL.out.new HN0.out))
  go_wp2_with fail
  refine HAW.out.mono ?_
  rintro _ w1 ⟨rfl, n1⟩
  have HC1 := Lib.hid (HC0.out.new n1)
  have HN1 := Lib.hid (New.trans HN0.out n1)
  have HS := Lib.hid (small17 w1 ax ay az nx cx ny cy nz cz e)
  obtain ⟨x0, x1, x2, x3⟩ := HC1.out.cells
  clear n1 HAW HC0 HN0
  by_cases hsm : nx ≤ 60 ∧ ny ≤ 40 ∧ nz ≤ 100
  rotate_left
  · rw [decide_eq_false hsm] at HS
    clear hsm
    go_wp2_with fail
    refine HS.out.mono ?_
    rintro _ w2 ⟨rfl, n2⟩
    have HN2 := Lib.hid (New.trans HN1.out n2)
    have HAW := Lib.hid (awake17 HA.out w2 (HL.out.new HN2.out))
    clear n2 HS x0 x1 x2 x3 HC1 HN1
    go_wp2_with fail
    refine HAW.out.mono ?_
    rintro _ w3 ⟨rfl, n3⟩
    have HN3 := Lib.hid (New.trans HN2.out n3)
    clear n3 HAW
    go_wp2
    go_ret
    exact ⟨rfl, HN3.out⟩
  rw [decide_eq_true hsm] at HS
  have HSm := Lib.hid hsm
  clear hsm
  go_wp2_with fail
  refine HS.out.mono ?_
  rintro _ w2 ⟨rfl, n2⟩
  have HC2 := Lib.hid (HC1.out.new n2)
  have HN2 := Lib.hid (New.trans HN1.out n2)
  clear n2 HS x0 x1 x2 x3 HC1 HN1
  have hk1 : k.length ≤ 1000 := by have := HLn.out; have := HSm.out; omega
  have hg1 : g.length ≤ 1000 := by have := HLn.out; have := HSm.out; omega
  have hs1 : s.length ≤ 1000 := by have := HLn.out; have := HSm.out; omega
  have HKl := Lib.hid (And.intro hk1 (And.intro hg1 hs1))
  clear hk1 hg1 hs1
  have HU := Lib.hid (HA.out.unwrap w2 _ _ _ k g s e (HX.out.new HN2.out) HKl.out.1 (HY.out.new HN2.out) HKl.out.2.1 HEi.out (HZ.out.new HN2.out) HKl.out.2.2 (HL.out.new HN2.out))
  obtain ⟨x0, x1, x2, x3⟩ := HC2.out.cells
  obtain ⟨E, HE⟩ : ∃ E, Hid (vuErr k g e s = E) := ⟨_, Lib.hid rfl⟩
  obtain ⟨T, HT⟩ : ∃ T, Hid (vuText k g e s = T) := ⟨_, Lib.hid rfl⟩
  rw [HE.out, HT.out] at HU
  go_wp2_with fail
  refine HU.out.mono ?_
  rintro _ w3 ⟨a3, n3, c3, rfl, r3, n3'⟩
  have R3 := Lib.hid r3
  have HC3 := Lib.hid (HC2.out.new n3')
  have HN3 := Lib.hid (New.trans HN2.out n3')
  clear r3 n3' HU x0 x1 x2 x3 HC2 HN2
  obtain ⟨x0, x1, x2, x3⟩ := HC3.out.cells
  have HR := Lib.hid (refUnw17 w3 k g e s HKl.out.1 HKl.out.2.1 HKl.out.2.2)
  rw [HE.out, HT.out] at HR
  have kx := run_str (P := Tryd.prog) Tryd.underlying22 Tryd.underlying5 Tryd.underlying9 (HX.out.new HN3.out)
  have ky := run_str (P := Tryd.prog) Tryd.underlying22 Tryd.underlying5 Tryd.underlying9 (HY.out.new HN3.out)
  have kz := run_str (P := Tryd.prog) Tryd.underlying22 Tryd.underlying5 Tryd.underlying9 (HZ.out.new HN3.out)
  go_wp2_with fail
  refine HR.out.mono ?_
  rintro _ w4 ⟨rfl, n4⟩
  have kt := run_str (P := Tryd.prog) Tryd.underlying22 Tryd.underlying5 Tryd.underlying9 (R3.out.new n4)
  have HN4 := Lib.hid (New.trans HN3.out n4)
  clear n4 HR x0 x1 x2 x3 kx ky kz
  go_wp2
  go_ret
  exact ⟨rfl, HN4.out⟩

set_option maxHeartbeats 2000000 in
theorem wrapsWalk (A : VltApi) (w : World) (x y z : Value) (k g s : List UInt8) (e : Int) (hx : Rd w x k) (hy : Rd w y g) (hz : Rd w z s) (he : i64In e) (hL : Laid w) :
    Calls Tryd.prog 3 #[.agg #[x, y, z, .int .i64 e]] w fun en w' => en = .returned (.bool true) ∧ New w w' := by
  obtain ⟨ax, nx, cx, rfl⟩ : ∃ a n c, x = .slice a n c := by obtain ⟨a, n, c, e, -⟩ := hx; exact ⟨a, n, c, e⟩
  obtain ⟨ay, ny, cy, rfl⟩ : ∃ a n c, y = .slice a n c := by obtain ⟨a, n, c, e, -⟩ := hy; exact ⟨a, n, c, e⟩
  obtain ⟨az, nz, cz, rfl⟩ : ∃ a n c, z = .slice a n c := by obtain ⟨a, n, c, e, -⟩ := hz; exact ⟨a, n, c, e⟩
  have HX := Lib.hid hx
  have HY := Lib.hid hy
  have HZ := Lib.hid hz
  have HLn : Hid (nx = k.length ∧ ny = g.length ∧ nz = s.length) := Lib.hid ⟨hx.len.symm, hy.len.symm, hz.len.symm⟩
  have HEi := Lib.hid he
  have HL := Lib.hid hL
  have HA := Lib.hid A
  clear hx hy hz he hL A
  go_enter Tryd.func3, Tryd.ntmps3
  go_upto_region 1 with fail
  generalize hw0 : World.alloc w _ = w0
  have HC0 : Hid (CaseAt17 w0 w.heap.size (.slice ax nx cx) (.slice ay ny cy) (.slice az nz cz) e) := Lib.hid (by rw [← hw0]; exact heap_alloc_new _ _)
  have HN0 : Hid (New w w0) := Lib.hid (by rw [← hw0]; exact (Below.refl _ _).alloc (Nat.le_refl _) _)
  clear hw0
  generalize w.heap.size = gc at *
  have HAW := Lib.hid (awake17 HA.out w0 (HL.out.new HN0.out))
  go_wp2_with fail
  refine HAW.out.mono ?_
  rintro _ w1 ⟨rfl, n1⟩
  have HC1 := Lib.hid (HC0.out.new n1)
  have HN1 := Lib.hid (New.trans HN0.out n1)
  have HS := Lib.hid (small17 w1 ax ay az nx cx ny cy nz cz e)
  obtain ⟨x0, x1, x2, x3⟩ := HC1.out.cells
  clear n1 HAW HC0 HN0
  by_cases hsm : nx ≤ 60 ∧ ny ≤ 40 ∧ nz ≤ 100
  rotate_left
  · rw [decide_eq_false hsm] at HS
    clear hsm
    go_wp2_with fail
    refine HS.out.mono ?_
    rintro _ w2 ⟨rfl, n2⟩
    have HN2 := Lib.hid (New.trans HN1.out n2)
    have HAW := Lib.hid (awake17 HA.out w2 (HL.out.new HN2.out))
    clear n2 HS x0 x1 x2 x3 HC1 HN1
    go_wp2_with fail
    refine HAW.out.mono ?_
    rintro _ w3 ⟨rfl, n3⟩
    have HN3 := Lib.hid (New.trans HN2.out n3)
    clear n3 HAW
    go_wp2
    go_ret
    exact ⟨rfl, HN3.out⟩
  rw [decide_eq_true hsm] at HS
  have HSm := Lib.hid hsm
  clear hsm
  go_wp2_with fail
  refine HS.out.mono ?_
  rintro _ w2 ⟨rfl, n2⟩
  have HC2 := Lib.hid (HC1.out.new n2)
  have HN2 := Lib.hid (New.trans HN1.out n2)
  clear n2 HS x0 x1 x2 x3 HC1 HN1
  have hk1 : k.length ≤ 1000 := by have := HLn.out; have := HSm.out; omega
  have hg1 : g.length ≤ 1000 := by have := HLn.out; have := HSm.out; omega
  have hs1 : s.length ≤ 1000 := by have := HLn.out; have := HSm.out; omega
  have HKl := Lib.hid (And.intro hk1 (And.intro hg1 hs1))
  clear hk1 hg1 hs1
  have HU := Lib.hid (HA.out.wrap w2 _ _ _ k g s e (HX.out.new HN2.out) HKl.out.1 (HY.out.new HN2.out) HKl.out.2.1 HEi.out (HZ.out.new HN2.out) HKl.out.2.2 (HL.out.new HN2.out))
  obtain ⟨x0, x1, x2, x3⟩ := HC2.out.cells
  obtain ⟨E, HE⟩ : ∃ E, Hid (vwErr k g e s = E) := ⟨_, Lib.hid rfl⟩
  obtain ⟨T, HT⟩ : ∃ T, Hid (vwText k g e s = T) := ⟨_, Lib.hid rfl⟩
  have HTl : Hid (T.length ≤ 48) := Lib.hid (by rw [← HT.out]; exact vwText_length k g e s)
  rw [HE.out, HT.out] at HU
  go_wp2_with fail
  refine HU.out.mono ?_
  rintro _ w3 ⟨a3, n3, c3, rfl, r3, n3'⟩
  have R3 := Lib.hid r3
  have HC3 := Lib.hid (HC2.out.new n3')
  have HN3 := Lib.hid (New.trans HN2.out n3')
  clear r3 n3' HU x0 x1 x2 x3 HC2 HN2
  obtain ⟨x0, x1, x2, x3⟩ := HC3.out.cells
  have HR := Lib.hid (refWra17 w3 k g e s HKl.out.1 HKl.out.2.1 HKl.out.2.2)
  rw [HE.out, HT.out] at HR
  have kx := run_str (P := Tryd.prog) Tryd.underlying22 Tryd.underlying5 Tryd.underlying9 (HX.out.new HN3.out)
  have ky := run_str (P := Tryd.prog) Tryd.underlying22 Tryd.underlying5 Tryd.underlying9 (HY.out.new HN3.out)
  have kz := run_str (P := Tryd.prog) Tryd.underlying22 Tryd.underlying5 Tryd.underlying9 (HZ.out.new HN3.out)
  go_wp2_with fail
  refine HR.out.mono ?_
  rintro _ w4 ⟨rfl, n4⟩
  have R4 := Lib.hid (R3.out.new n4)
  have kt := run_str (P := Tryd.prog) Tryd.underlying22 Tryd.underlying5 Tryd.underlying9 R4.out
  have HC4 := Lib.hid (HC3.out.new n4)
  have HN4 := Lib.hid (New.trans HN3.out n4)
  clear n4 HR x0 x1 x2 x3 kx ky kz HC3 HN3 R3
  obtain ⟨x0, x1, x2, x3⟩ := HC4.out.cells
  have HU := Lib.hid (HA.out.unwrap w4 _ _ _ k g T e (HX.out.new HN4.out) HKl.out.1 (HY.out.new HN4.out) HKl.out.2.1 HEi.out R4.out (Nat.le_trans HTl.out (by decide)) (HL.out.new HN4.out))
  go_wp2_with fail
  refine HU.out.mono ?_
  rintro _ w5 ⟨a5, n5, c5, rfl, r5, n5'⟩
  have R5 := Lib.hid r5
  have HC5 := Lib.hid (HC4.out.new n5')
  have HN5 := Lib.hid (New.trans HN4.out n5')
  clear r5 n5' HU x0 x1 x2 x3 HC4 HN4 R4 kt
  by_cases hE : E = 0
  · subst hE
    obtain ⟨hb1, hb2⟩ := v_back HE.out
    rw [HT.out] at hb1 hb2
    rw [hb1]
    rw [hb2] at R5
    have k5 := run_str (P := Tryd.prog) Tryd.underlying22 Tryd.underlying5 Tryd.underlying9 R5.out
    have kz := run_str (P := Tryd.prog) Tryd.underlying22 Tryd.underlying5 Tryd.underlying9 (HZ.out.new HN5.out)
    obtain ⟨x0, x1, x2, x3⟩ := HC5.out.cells
    clear hb1 hb2
    go_wp2
    go_ret
    exact ⟨rfl, HN5.out⟩
  · have d : (E != 0) = true := by simpa using hE
    have d2 : (E == 0) = false := by simpa using hE
    obtain ⟨Y, hY⟩ : ∃ Y, vuErr k g e T = Y := ⟨_, rfl⟩
    rw [hY]
    clear hE hY
    go_wp2
    go_ret
    exact ⟨rfl, HN5.out⟩

end Go.Proofs.YtgfljldegodpgaaDoor
