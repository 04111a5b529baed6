/-
  vault: its functions (as the program landed).
-/
import Derived.Test.YtgfljldegodpgaaDoorVltApi
import Derived.Test.YtgfljldegodpgaaDoorKdfA
import Derived.Test.YtgfljldegodpgaaDoorSealA
import Derived.Test.YtgfljldegodpgaaDoorPenA
namespace Go.Proofs.YtgfljldegodpgaaDoor
set_option linter.unusedVariables false
set_option linter.unusedSimpArgs false
set_option maxRecDepth 100000
open Go.RowKit

set_option maxHeartbeats 1000000 in
theorem vltContext (w : World) (x : Value) (g : List UInt8) (e : Int) (hx : Rd w x g) (hg : g.length ≤ 1000) (he : i64In e) :
    Calls Tryd.prog 12 #[x, .int .i64 e] w fun en w' => ∃ a n c, en = .returned (.slice a n c) ∧ Rd w' (.slice a n c) (vCx g e) ∧ New w w' := by
  obtain ⟨ax, nx, cx, rfl⟩ : ∃ a n c, x = .slice a n c := by obtain ⟨a, n, c, e, -⟩ := hx; exact ⟨a, n, c, e⟩
  have HX := Lib.hid hx
  have HN : Hid (g.length = nx) := Lib.hid hx.len
  unfold i64In at he
  obtain ⟨C, HC⟩ : ∃ C, Hid (vCx g e = C) := ⟨_, Lib.hid rfl⟩
  rw [HC.out]
  have NO : Hid (¬ vIs g e → ∀ wx : World, Rd wx (.slice none 0 0) C) := Lib.hid (fun h wx => by rw [← HC.out, (vCx_nil g e).2 h]; exact Rd.nil wx)
  by_cases h1 : nx > 16
  · have NO := Lib.hid (NO.out (fun h => by have := h.1; have := HN.out; omega))
    have d1 : decide (nx > 16) = true := by simpa using h1
    have hl : (16 : Int) < (nx : Int) := by omega
    clear hx he
    go_enter Tryd.func12, Tryd.ntmps12
    go_wp2
    go_ret
    exact ⟨_, _, _, rfl, NO.out w, Below.refl _ _⟩
  have hl : ¬ (16 : Int) < (nx : Int) := by omega
  by_cases h2 : e < 0
  · have NO := Lib.hid (NO.out (fun h => by have := h.2.1; omega))
    clear hx he h1
    go_enter Tryd.func12, Tryd.ntmps12
    go_wp2
    go_ret
    exact ⟨_, _, _, rfl, NO.out w, Below.refl _ _⟩
  by_cases h3 : 1048576 < e
  · have NO := Lib.hid (NO.out (fun h => by have := h.2.2; omega))
    clear hx he h1
    go_enter Tryd.func12, Tryd.ntmps12
    go_wp2
    go_ret
    exact ⟨_, _, _, rfl, NO.out w, Below.refl _ _⟩
  have hIs : vIs g e := ⟨by have := HN.out; omega, by omega, by omega⟩
  obtain ⟨m, rfl⟩ := Int.eq_ofNat_of_zero_le (show 0 ≤ e by omega)
  have hwm : IntKind.u64.wrap (m : Int) = m := IntWalk.u64_in _ (by omega)
  have HE : Hid (C = (be 1 g.length ++ g) ++ be 8 m) := Lib.hid (by rw [← HC.out]; unfold vCx vCtx; rw [if_pos hIs, Int.toNat_natCast])
  have HG : Hid (g.length ≤ 16 ∧ m ≤ 1048576) := Lib.hid ⟨hIs.1, by omega⟩
  clear hx he h1 NO hIs HC
  go_enter Tryd.func12, Tryd.ntmps12
  go_wp2_with fail
  refine (penNew w).mono ?_
  rintro en w1 ⟨rfl, hp1, N1, -⟩
  have P1 := Lib.hid (Pend.start hp1 N1)
  clear hp1 N1
  have HR := Lib.hid (pendShort P1.out _ g HX.out (fun m h => by cases h; have := HG.out; simp; omega))
  go_wp2_with fail
  refine HR.out.mono ?_
  rintro en w2 ⟨rfl, p2⟩
  have P2 := Lib.hid p2
  clear p2 P1 HR
  rw [wText_in 1 g _ (by have := HG.out; omega)] at P2
  have HU := Lib.hid (pendU64 P2.out (m : Int) (by omega) (by have := HG.out; omega) (fun l h => by cases h; have := HG.out; have := be_length 1 g.length; simp only [List.nil_append, List.length_append]; omega))
  go_wp2_with fail
  refine HU.out.mono ?_
  rintro en w3 ⟨rfl, p3⟩
  have P3 := Lib.hid p3
  clear p3 P2 HU
  simp only [Option.map_some, List.nil_append, Int.toNat_natCast] at P3
  rw [← HE.out] at P3
  have HB := Lib.hid (pendBytes P3.out (fun l h => by cases h; rw [HE.out]; have := HG.out; have := be_length 1 g.length; have := be_length 8 m; simp only [List.length_append]; omega))
  go_wp2_with fail
  refine HB.out.mono ?_
  rintro en w4 ⟨⟨a, nb, cb, rfl, r4, N4, -⟩, p4⟩
  have R4 := Lib.hid r4
  have N4 := Lib.hid p4.1
  clear r4 p4 HB P3
  simp only [Option.isSome_some, Option.getD_some] at R4 ⊢
  go_wp2
  go_ret
  exact ⟨_, _, _, rfl, R4.out, N4.out⟩

theorem vltFit (w : World) (ax a : Option Addr) (nx cx n c : Nat) : Calls Tryd.prog 17 #[.slice ax nx cx, .slice a n c] w fun en w' => en = .returned (.bool (decide (0 < n ∧ nx = 32))) ∧ w = w' := by
  by_cases h1 : 0 < n
  rotate_left
  · have e : decide (0 < n ∧ nx = 32) = false := by simp; omega
    have d1 : ¬ (0 : Int) < (n : Int) := by omega
    rw [e]
    clear h1
    go_enter Tryd.func17, Tryd.ntmps17
    go_wp2
    go_ret
    exact ⟨rfl, rfl⟩
  have d1 : (0 : Int) < (n : Int) := by omega
  by_cases h2 : nx = 32
  · subst h2
    have e : decide (0 < n ∧ 32 = 32) = true := by simp; omega
    rw [e]
    clear h1
    go_enter Tryd.func17, Tryd.ntmps17
    go_wp2
    go_ret
    exact ⟨rfl, rfl⟩
  · have e : decide (0 < n ∧ nx = 32) = false := by simp; omega
    have d2 : ((nx : Int) == 32) = false := by rw [beq_eq_false_iff_ne]; omega
    rw [e]
    clear h1 h2
    go_enter Tryd.func17, Tryd.ntmps17
    go_wp2
    go_ret
    exact ⟨rfl, rfl⟩

def DerTo17 (w : World) (k c : List UInt8) (en : Ending) (w' : World) : Prop := ∃ a2 n2 c2 a3 n3 c3, en = .returned (.tuple #[.slice a2 n2 c2, .slice a3 n3 c3]) ∧ Rd w' (.slice a2 n2 c2) (vKey k) ∧ Rd w' (.slice a3 n3 c3) (vNon k c) ∧ New w w'

set_option maxHeartbeats 1000000 in
theorem vltDerived (w : World) (x y : Value) (k c : List UInt8) (hx : Rd w x k) (hk : k.length ≤ 1000) (hy : Rd w y c) (hc : c.length ≤ 1000) (hL : Laid w) : Calls Tryd.prog 18 #[x, y] w (DerTo17 w k c) := by
  obtain ⟨ax, nx, cx, rfl⟩ : ∃ a n c, x = .slice a n c := by obtain ⟨a, n, c, e, -⟩ := hx; exact ⟨a, n, c, e⟩
  obtain ⟨ay, ny, cy, rfl⟩ : ∃ a n c, y = .slice a n c := by obtain ⟨a, n, c, e, -⟩ := hy; exact ⟨a, n, c, e⟩
  have HX := Lib.hid hx
  have HY := Lib.hid hy
  have HL := Lib.hid hL
  have HLa : Hid (∀ wx, New w wx → Calls Tryd.prog 30 #[.slice ax nx cx, .string (bstr wrapL), .slice none 0 0, .int .i64 48] wx (LabTo wx k wrapL [] 48)) := Lib.hid (fun wx hw => kdfLabel wx _ (.slice none 0 0) k wrapL [] 48 (by decide) (by decide) (HX.out.new hw) (by omega) (by decide) (Rd.nil _) (by decide) (HL.out.new hw))
  have HLb : Hid (∀ wx, New w wx → Calls Tryd.prog 30 #[.slice ax nx cx, .string (bstr nonL17), .slice ay ny cy, .int .i64 16] wx (LabTo wx k nonL17 c 16)) := Lib.hid (fun wx hw => kdfLabel wx _ _ k nonL17 c 16 (by decide) (by decide) (HX.out.new hw) (by omega) (by decide) (HY.out.new hw) (by omega) (HL.out.new hw))
  have HFit : Hid (labFits wrapL [] 48 ∧ labFits nonL17 c 16) := Lib.hid ⟨⟨by decide, by decide, by decide, by decide⟩, ⟨by decide, by omega, by decide, by decide⟩⟩
  rw [show bstr wrapL = ⟨#[119, 114, 97, 112]⟩ from rfl] at HLa
  rw [show bstr nonL17 = ⟨#[110, 111, 110, 99, 101]⟩ from rfl] at HLb
  obtain ⟨K, HK⟩ : ∃ K, Hid (DerTo17 w k c = K) := ⟨_, Lib.hid rfl⟩
  rw [HK.out]
  clear hx hy hL hk hc
  go_enter Tryd.func18, Tryd.ntmps18
  go_wp2_with fail
  refine (HLa.out _ (by first | exact Below.refl _ _ | exact New.of_eq rfl)).mono ?_
  rintro _ w2 ⟨N2, ⟨hbad, -⟩ | ⟨-, a2, c2, rfl, r2⟩⟩
  · exact absurd HFit.out.1 hbad
  have R2 : Hid (Rd w2 (.slice a2 (Int.toNat 48) c2) (vKey k)) := Lib.hid r2
  have N2 := Lib.hid N2
  clear r2 HLa
  rw [show Int.toNat 48 = 48 from rfl] at R2 ⊢
  go_wp2_with fail
  refine (HLb.out w2 N2.out).mono ?_
  rintro _ w3 ⟨N3, ⟨hbad, -⟩ | ⟨-, a3, c3, rfl, r3⟩⟩
  · exact absurd HFit.out.2 hbad
  have R3 : Hid (Rd w3 (.slice a3 (Int.toNat 16) c3) (vNon k c)) := Lib.hid r3
  have R23 := Lib.hid (R2.out.new N3)
  have N3 := Lib.hid (New.trans N2.out N3)
  clear r3 HLb R2 N2
  rw [show Int.toNat 16 = 16 from rfl] at R3 ⊢
  go_wp2
  rw [← HK.out]
  exact ⟨_, _, _, _, _, _, rfl, R23.out, R3.out, N3.out⟩

set_option maxHeartbeats 1000000 in
theorem vltWrap (w : World) (x y z : Value) (k g s : List UInt8) (e : Int) (hx : Rd w x k) (hk : k.length ≤ 1000) (hy : Rd w y g) (hg : g.length ≤ 1000) (he : i64In e) (hz : Rd w z s) (hs : s.length ≤ 1000) (hL : Laid w) :
    Calls Tryd.prog 8 #[x, y, .int .i64 e, z] w fun en w' => ∃ a n c, en = .returned (.tuple #[.slice a n c, .int .i64 (vwErr k g e s)]) ∧ Rd w' (.slice a n c) (vwText k g e s) ∧ New w w' := by
  obtain ⟨ax, nx, cx, rfl⟩ : ∃ a n c, x = .slice a n c := by obtain ⟨a, n, c, e, -⟩ := hx; exact ⟨a, n, c, e⟩
  obtain ⟨az, nz, cz, rfl⟩ : ∃ a n c, z = .slice a n c := by obtain ⟨a, n, c, e, -⟩ := hz; exact ⟨a, n, c, e⟩
  have HX := Lib.hid hx
  have HZ := Lib.hid hz
  have HL := Lib.hid hL
  have HKn : Hid (k.length = nx ∧ s.length = nz) := Lib.hid ⟨hx.len, hz.len⟩
  have HLe : Hid (k.length ≤ 1000 ∧ g.length ≤ 1000 ∧ s.length ≤ 1000) := Lib.hid ⟨hk, hg, hs⟩
  have HC := Lib.hid (vltContext w y g e hy hg he)
  obtain ⟨E, HE⟩ : ∃ E, Hid (vwErr k g e s = E) := ⟨_, Lib.hid rfl⟩
  obtain ⟨T, HT⟩ : ∃ T, Hid (vwText k g e s = T) := ⟨_, Lib.hid rfl⟩
  rw [HE.out, HT.out]
  have NO : Hid (¬ vwOk k g e s → E = 2 ∧ T = []) := Lib.hid (fun h => ⟨by rw [← HE.out]; exact if_neg h, by rw [← HT.out]; exact if_neg h⟩)
  have YES : Hid (vwOk k g e s → T = sealOf (vKey k) (vNon k (vCtx g e)) (vCtx g e) s ∧ E = 0) := Lib.hid (fun h => ⟨by rw [← HT.out]; exact if_pos h, by rw [← HE.out]; exact if_pos h⟩)
  have HCL : Hid (vIs g e → vCx g e = vCtx g e ∧ (vCx g e).length = g.length + 9) := Lib.hid (fun h => by unfold vCx; rw [if_pos h]; exact ⟨rfl, vCtx_length g e⟩)
  have HCN : Hid (¬ vIs g e → vCx g e = []) := Lib.hid (fun h => (vCx_nil g e).2 h)
  obtain ⟨K, HK⟩ : ∃ K : Ending → World → Prop, Hid ((fun en w' => ∃ a n c, en = .returned (.tuple #[.slice a n c, .int .i64 E]) ∧ Rd w' (.slice a n c) T ∧ New w w') = K) := ⟨_, Lib.hid rfl⟩
  rw [HK.out]
  clear hx hy hz hL hk hg hs he HE HT
  go_enter Tryd.func8, Tryd.ntmps8
  go_wp2_with fail
  refine HC.out.mono ?_
  rintro _ w1 ⟨a1, n1, c1, rfl, r1, N1⟩
  have R1 := Lib.hid r1
  have N1 := Lib.hid N1
  have HN1 : Hid (n1 = (vCx g e).length) := Lib.hid r1.len.symm
  clear r1 HC
  go_wp2_with fail
  refine (vltFit w1 ax a1 nx cx n1 c1).mono ?_
  rintro _ _ ⟨rfl, rfl⟩
  by_cases hf : 0 < n1 ∧ nx = 32
  rotate_left
  · have hno := NO.out (fun h => hf ⟨by rw [HN1.out, (HCL.out h.1).2]; omega, by rw [← HKn.out.1]; exact h.2.1⟩)
    obtain ⟨rfl, rfl⟩ := hno
    rw [decide_eq_false hf]
    clear hf
    go_wp2
    rw [← HK.out]
    exact ⟨_, _, _, rfl, Rd.nil _, N1.out⟩
  rw [decide_eq_true hf]
  by_cases hs32 : nz = 32
  rotate_left
  · have hno := NO.out (fun h => hs32 (by rw [← HKn.out.2]; exact h.2.2))
    obtain ⟨rfl, rfl⟩ := hno
    have d2 : ((nz : Int) != 32) = true := by simp; omega
    clear hf hs32
    go_wp2
    rw [← HK.out]
    exact ⟨_, _, _, rfl, Rd.nil _, N1.out⟩
  have hi : vIs g e := by
    refine Decidable.byContradiction (fun h => ?_)
    have h0 := HN1.out
    rw [HCN.out h] at h0
    have := hf.1
    rw [h0] at this
    simp at this
  have hi1 : g.length ≤ 16 := hi.1
  have hcl := HCL.out hi
  have hy := YES.out ⟨hi, by rw [HKn.out.1]; exact hf.2, by rw [HKn.out.2]; exact hs32⟩
  have HY := Lib.hid hy
  have hkl := HLe.out
  have hvl : (vCtx g e).length = g.length + 9 := vCtx_length g e
  have HR1 : Hid (Rd w1 (.slice a1 n1 c1) (vCtx g e)) := Lib.hid (by have := R1.out; rwa [hcl.1] at this)
  have HD := Lib.hid (vltDerived w1 _ _ k (vCtx g e) (HX.out.new N1.out) (by omega) HR1.out (by omega) (HL.out.new N1.out))
  have HBS : Hid (∀ wx kx nxx, New w1 wx → Rd wx kx (vKey k) → Rd wx nxx (vNon k (vCtx g e)) → Calls Tryd.prog 19 #[kx, nxx, .slice a1 n1 c1, .slice az nz cz] wx fun en w' => ∃ a n c, en = .returned (.tuple #[.slice a n c, .int .i64 E]) ∧ Rd w' (.slice a n c) T ∧ New wx w') := Lib.hid (fun wx kx nxx hw h1 h2 => by
    rw [HY.out.1, HY.out.2]
    refine (sealSeal wx kx nxx _ _ (vKey k) (vNon k (vCtx g e)) (vCtx g e) s h1 (vKey_length k) h2 (vNon_length _ _) (HR1.out.new hw) (by omega) (HZ.out.new (New.trans N1.out hw)) (by omega) (HL.out.new (New.trans N1.out hw))).mono ?_
    rintro _ w' ⟨a, n, c, rfl, hrr, -, hnn, -⟩
    exact ⟨_, _, _, rfl, hrr, hnn⟩)
  have d2 : ((nz : Int) != 32) = false := by simp; omega
  clear hf hi hcl hs32 hy hkl hvl
  go_wp2_with fail
  refine HD.out.mono ?_
  rintro _ w3 ⟨a2, n2, c2, a3, n3, c3, rfl, r2, r3, N3⟩
  have R2 := Lib.hid r2
  have R3 := Lib.hid r3
  have N3 := Lib.hid N3
  clear r2 r3 HD
  have HSl := Lib.hid (HBS.out w3 _ _ N3.out R2.out R3.out)
  clear HBS
  go_wp2_with fail
  refine HSl.out.mono ?_
  rintro _ w4 ⟨a4, n4, c4, rfl, r4, n4'⟩
  have R4 := Lib.hid r4
  have N4 := Lib.hid (New.trans (New.trans N1.out N3.out) n4')
  clear r4 n4' HSl
  go_wp2
  rw [← HK.out]
  exact ⟨_, _, _, rfl, R4.out, N4.out⟩

set_option maxHeartbeats 1000000 in
theorem vltUnwrap (w : World) (x y z : Value) (k g s : List UInt8) (e : Int) (hx : Rd w x k) (hk : k.length ≤ 1000) (hy : Rd w y g) (hg : g.length ≤ 1000) (he : i64In e) (hz : Rd w z s) (hs : s.length ≤ 1000) (hL : Laid w) :
    Calls Tryd.prog 10 #[x, y, .int .i64 e, z] w fun en w' => ∃ a n c, en = .returned (.tuple #[.slice a n c, .int .i64 (vuErr k g e s)]) ∧ Rd w' (.slice a n c) (vuText k g e s) ∧ New w w' := by
  obtain ⟨ax, nx, cx, rfl⟩ : ∃ a n c, x = .slice a n c := by obtain ⟨a, n, c, e, -⟩ := hx; exact ⟨a, n, c, e⟩
  obtain ⟨az, nz, cz, rfl⟩ : ∃ a n c, z = .slice a n c := by obtain ⟨a, n, c, e, -⟩ := hz; exact ⟨a, n, c, e⟩
  have HX := Lib.hid hx
  have HZ := Lib.hid hz
  have HL := Lib.hid hL
  have HKn : Hid (k.length = nx ∧ s.length = nz) := Lib.hid ⟨hx.len, hz.len⟩
  have HLe : Hid (k.length ≤ 1000 ∧ g.length ≤ 1000 ∧ s.length ≤ 1000) := Lib.hid ⟨hk, hg, hs⟩
  have HC := Lib.hid (vltContext w y g e hy hg he)
  obtain ⟨E, HE⟩ : ∃ E, Hid (vuErr k g e s = E) := ⟨_, Lib.hid rfl⟩
  obtain ⟨T, HT⟩ : ∃ T, Hid (vuText k g e s = T) := ⟨_, Lib.hid rfl⟩
  rw [HE.out, HT.out]
  have NO : Hid (¬ vuOk k g e s → E = 2 ∧ T = []) := Lib.hid (fun h => ⟨by rw [← HE.out]; exact if_neg h, by rw [← HT.out]; exact if_neg h⟩)
  have YES : Hid (vuOk k g e s → T = openText (vKey k) (vNon k (vCtx g e)) (vCtx g e) s ∧ E = openErr (vKey k) (vNon k (vCtx g e)) (vCtx g e) s) := Lib.hid (fun h => ⟨by rw [← HT.out]; exact if_pos h, by rw [← HE.out]; exact if_pos h⟩)
  have HCL : Hid (vIs g e → vCx g e = vCtx g e ∧ (vCx g e).length = g.length + 9) := Lib.hid (fun h => by unfold vCx; rw [if_pos h]; exact ⟨rfl, vCtx_length g e⟩)
  have HCN : Hid (¬ vIs g e → vCx g e = []) := Lib.hid (fun h => (vCx_nil g e).2 h)
  obtain ⟨K, HK⟩ : ∃ K : Ending → World → Prop, Hid ((fun en w' => ∃ a n c, en = .returned (.tuple #[.slice a n c, .int .i64 E]) ∧ Rd w' (.slice a n c) T ∧ New w w') = K) := ⟨_, Lib.hid rfl⟩
  rw [HK.out]
  clear hx hy hz hL hk hg hs he HE HT
  go_enter Tryd.func10, Tryd.ntmps10
  go_wp2_with fail
  refine HC.out.mono ?_
  rintro _ w1 ⟨a1, n1, c1, rfl, r1, N1⟩
  have R1 := Lib.hid r1
  have N1 := Lib.hid N1
  have HN1 : Hid (n1 = (vCx g e).length) := Lib.hid r1.len.symm
  clear r1 HC
  go_wp2_with fail
  refine (vltFit w1 ax a1 nx cx n1 c1).mono ?_
  rintro _ _ ⟨rfl, rfl⟩
  by_cases hf : 0 < n1 ∧ nx = 32
  rotate_left
  · have hno := NO.out (fun h => hf ⟨by rw [HN1.out, (HCL.out h.1).2]; omega, by rw [← HKn.out.1]; exact h.2.1⟩)
    obtain ⟨rfl, rfl⟩ := hno
    rw [decide_eq_false hf]
    clear hf
    go_wp2
    rw [← HK.out]
    exact ⟨_, _, _, rfl, Rd.nil _, N1.out⟩
  rw [decide_eq_true hf]
  by_cases hs32 : nz = 48
  rotate_left
  · have hno := NO.out (fun h => hs32 (by rw [← HKn.out.2]; exact h.2.2))
    obtain ⟨rfl, rfl⟩ := hno
    have d2 : ((nz : Int) != 48) = true := by simp; omega
    clear hf hs32
    go_wp2
    rw [← HK.out]
    exact ⟨_, _, _, rfl, Rd.nil _, N1.out⟩
  have hi : vIs g e := by
    refine Decidable.byContradiction (fun h => ?_)
    have h0 := HN1.out
    rw [HCN.out h] at h0
    have := hf.1
    rw [h0] at this
    simp at this
  have hi1 : g.length ≤ 16 := hi.1
  have hcl := HCL.out hi
  have hy := YES.out ⟨hi, by rw [HKn.out.1]; exact hf.2, by rw [HKn.out.2]; exact hs32⟩
  have HY := Lib.hid hy
  have hkl := HLe.out
  have hvl : (vCtx g e).length = g.length + 9 := vCtx_length g e
  have HR1 : Hid (Rd w1 (.slice a1 n1 c1) (vCtx g e)) := Lib.hid (by have := R1.out; rwa [hcl.1] at this)
  have HD := Lib.hid (vltDerived w1 _ _ k (vCtx g e) (HX.out.new N1.out) (by omega) HR1.out (by omega) (HL.out.new N1.out))
  have HBS : Hid (∀ wx kx nxx, New w1 wx → Rd wx kx (vKey k) → Rd wx nxx (vNon k (vCtx g e)) → Calls Tryd.prog 22 #[kx, nxx, .slice a1 n1 c1, .slice az nz cz] wx fun en w' => ∃ a n c, en = .returned (.tuple #[.slice a n c, .int .i64 E]) ∧ Rd w' (.slice a n c) T ∧ New wx w') := Lib.hid (fun wx kx nxx hw h1 h2 => by
    rw [HY.out.1, HY.out.2]
    refine (sealOpen wx kx nxx _ _ (vKey k) (vNon k (vCtx g e)) (vCtx g e) s h1 (vKey_length k) h2 (vNon_length _ _) (HR1.out.new hw) (by omega) (HZ.out.new (New.trans N1.out hw)) (by omega) (HL.out.new (New.trans N1.out hw))).mono ?_
    rintro _ w' ⟨a, n, c, rfl, hrr, hnn, -⟩
    exact ⟨_, _, _, rfl, hrr, hnn⟩)
  have d2 : ((nz : Int) != 48) = false := by simp; omega
  clear hf hi hcl hs32 hy hkl hvl
  go_wp2_with fail
  refine HD.out.mono ?_
  rintro _ w3 ⟨a2, n2, c2, a3, n3, c3, rfl, r2, r3, N3⟩
  have R2 := Lib.hid r2
  have R3 := Lib.hid r3
  have N3 := Lib.hid N3
  clear r2 r3 HD
  have HSl := Lib.hid (HBS.out w3 _ _ N3.out R2.out R3.out)
  clear HBS
  go_wp2_with fail
  refine HSl.out.mono ?_
  rintro _ w4 ⟨a4, n4, c4, rfl, r4, n4'⟩
  have R4 := Lib.hid r4
  have N4 := Lib.hid (New.trans (New.trans N1.out N3.out) n4')
  clear r4 n4' HSl
  go_wp2
  rw [← HK.out]
  exact ⟨_, _, _, rfl, R4.out, N4.out⟩

theorem vltBucket (w : World) (t p : Int) (ht : -9223372036854775808 ≤ t ∧ t ≤ 9223372036854775807) (hp : -9223372036854775808 ≤ p ∧ p ≤ 9223372036854775807) : Calls Tryd.prog 14 #[.int .i64 t, .int .i64 p] w fun en w' => en = .returned (.int .i64 (vBucket t p)) ∧ w = w' := by
  unfold vBucket
  by_cases h1 : t < 0
  · have d1 : decide (t < 0) = true := by simpa using h1
    rw [if_pos h1]
    clear h1
    go_enter Tryd.func14, Tryd.ntmps14
    go_wp2
    go_ret
    exact ⟨rfl, rfl⟩
  · have d1 : decide (t < 0) = false := by simpa using h1
    rw [if_neg h1]
    by_cases h2 : p < 1
    · have d2 : decide (p < 1) = true := by simpa using h2
      rw [if_pos h2]
      clear h1 h2
      go_enter Tryd.func14, Tryd.ntmps14
      go_wp2
      go_ret
      exact ⟨rfl, rfl⟩
    · have d2 : decide (p < 1) = false := by simpa using h2
      rw [if_neg h2]
      have hq : (p == 0) = false := by simp; omega
      have hq0 : p ≠ 0 := by omega
      obtain ⟨T, rfl⟩ := Int.eq_ofNat_of_zero_le (show 0 ≤ t by omega)
      obtain ⟨Q, rfl⟩ := Int.eq_ofNat_of_zero_le (show 0 ≤ p by omega)
      have e1 : (T : Int).tdiv (Q : Int) = ((T / Q : Nat) : Int) := by rw [Int.tdiv_eq_ediv_of_nonneg (by omega)]; rfl
      have h3 : T / Q ≤ T := Nat.div_le_self _ _
      rw [e1]
      generalize T / Q = q at *
      have hw : IntKind.i64.wrap (q : Int) = (q : Int) := IntWalk.i64_in _ (by omega)
      go_enter Tryd.func14, Tryd.ntmps14
      go_wp2
      go_ret
      exact ⟨rfl, rfl⟩


theorem vltApi : VltApi where
  ctx := vltContext
  wrap := fun w x y z k g s e hx hk hy hg he hz hs hL => vltWrap w x y z k g s e hx hk hy hg he hz hs hL
  unwrap := fun w x y z k g s e hx hk hy hg he hz hs hL => vltUnwrap w x y z k g s e hx hk hy hg he hz hs hL
  bucket := fun w t p ht hp => vltBucket w t p ht hp

end Go.Proofs.YtgfljldegodpgaaDoor
