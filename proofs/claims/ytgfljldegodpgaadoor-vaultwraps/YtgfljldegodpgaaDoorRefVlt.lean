/-
  The reference of layer 17.
-/
import Derived.Test.YtgfljldegodpgaaDoorVltSpec
import Derived.Test.YtgfljldegodpgaaDoorRefKdf
import Derived.Test.YtgfljldegodpgaaDoorRefSealA
import Derived.Test.YtgfljldegodpgaaDoorRef01
namespace Go.Proofs.YtgfljldegodpgaaDoor
set_option linter.unusedVariables false
set_option linter.unusedSimpArgs false
set_option maxRecDepth 100000
open Go.RowKit

theorem refIs17 (w : World) (g : List UInt8) (e : Int) (hg : g.length ≤ 1000) : Calls Tryd.prog 13 #[.string (bstr g), .int .i64 e] w fun en w' => en = .returned (.bool (decide (vIs g e))) ∧ w = w' := by
  have hz : (bstr g).size = g.length := bstr_size g
  obtain ⟨b, hb⟩ : ∃ b, decide (vIs g e) = b := ⟨_, rfl⟩
  have HB : Hid (decide (vIs g e) = b) := Lib.hid hb
  rw [hb]
  clear hb
  obtain ⟨n, hn⟩ : ∃ n, g.length = n := ⟨_, rfl⟩
  rw [hn] at hz hg
  by_cases h1 : n ≤ 16
  · have d1 : decide ((n : Int) ≤ 16) = true := by simp; omega
    by_cases h2 : 0 ≤ e
    · have d2 : decide (0 ≤ e) = true := by simpa using h2
      obtain ⟨d, hd⟩ : ∃ d, decide (e ≤ 1048576) = d := ⟨_, rfl⟩
      have hbd : b = d := by rw [← HB.out, ← hd, decide_eq_decide]; unfold vIs; rw [hn]; exact ⟨fun h => h.2.2, fun h => ⟨h1, h2, h⟩⟩
      rw [hbd]
      clear h1 h2 hbd HB
      go_enter Tryd.func13, Tryd.ntmps13
      go_wp2
      go_ret
      exact ⟨rfl, rfl⟩
    · have d2 : decide (0 ≤ e) = false := by simpa using h2
      have hbd : b = false := by rw [← HB.out]; exact decide_eq_false (fun h => h2 h.2.1)
      rw [hbd]
      clear h1 h2 hbd HB
      go_enter Tryd.func13, Tryd.ntmps13
      go_wp2
      go_ret
      exact ⟨rfl, rfl⟩
  · have d1 : decide ((n : Int) ≤ 16) = false := by simp; omega
    have hbd : b = false := by rw [← HB.out]; exact decide_eq_false (fun h => h1 (by rw [← hn]; exact h.1))
    rw [hbd]
    clear h1 hbd HB
    go_enter Tryd.func13, Tryd.ntmps13
    go_wp2
    go_ret
    exact ⟨rfl, rfl⟩

theorem refCtx17 (w : World) (g : List UInt8) (e : Int) (h : vIs g e) : Calls Tryd.prog 16 #[.string (bstr g), .int .i64 e] w fun en w' => en = .returned (.string (bstr (vCtx g e))) ∧ New w w' := by
  obtain ⟨m, rfl⟩ := Int.eq_ofNat_of_zero_le h.2.1
  have hm : m ≤ 1048576 := by have := h.2.2; omega
  have H1 := Lib.hid (refText w g 1 (by have := h.1; omega) (by omega))
  have H2 := Lib.hid fun wx => refNumber wx m 8 (by omega) (by omega)
  have j := bstr_append (be 1 g.length ++ g) (be 8 m)
  have HE : Hid (vCtx g (m : Int) = (be 1 g.length ++ g) ++ be 8 m) := Lib.hid (by unfold vCtx; rw [Int.toNat_natCast])
  rw [HE.out]
  have hw : IntKind.u64.wrap (m : Int) = (m : Int) := IntWalk.u64_in _ (by omega)
  have zt : (bstr (be 1 g.length ++ g)).size ≤ 100 := by rw [bstr_size, List.length_append, be_length]; have := h.1; omega
  have z8 : (bstr (be 8 m)).size = 8 := by rw [bstr_size, be_length]
  clear h HE
  generalize be 1 g.length ++ g = t at *
  go_enter Tryd.func16, Tryd.ntmps16
  go_wp2_with fail
  refine H1.out.mono ?_
  rintro _ w1 ⟨rfl, N1⟩
  have N1 := Lib.hid N1
  go_wp2_with fail
  refine (H2.out w1).mono ?_
  rintro _ w2 ⟨rfl, N2⟩
  have N2 := Lib.hid N2
  go_wp2
  go_ret
  exact ⟨rfl, New.trans N1.out N2.out⟩

theorem refBucket17 (w : World) (t p : Int) (ht : -9223372036854775808 ≤ t ∧ t ≤ 9223372036854775807) (hp : -9223372036854775808 ≤ p ∧ p ≤ 9223372036854775807) : Calls Tryd.prog 15 #[.int .i64 t, .int .i64 p] w fun en w' => en = .returned (.int .i64 (vBucket t p)) ∧ w = w' := by
  unfold vBucket
  by_cases h1 : t < 0
  · have d1 : decide (t < 0) = true := by simpa using h1
    rw [if_pos h1]
    clear h1
    go_enter Tryd.func15, Tryd.ntmps15
    go_wp2
    go_ret
    exact ⟨rfl, rfl⟩
  · have d1 : decide (t < 0) = false := by simpa using h1
    rw [if_neg h1]
    by_cases h2 : p < 1
    · have d2 : decide (p < 1) = true := by simpa using h2
      rw [if_pos h2]
      clear h1 h2
      go_enter Tryd.func15, Tryd.ntmps15
      go_wp2
      go_ret
      exact ⟨rfl, rfl⟩
    · have d2 : decide (p < 1) = false := by simpa using h2
      rw [if_neg h2]
      have hq : (p == 0) = false := by simp; omega
      have hq0 : p ≠ 0 := by omega
      obtain ⟨T, rfl⟩ := Int.eq_ofNat_of_zero_le (show 0 ≤ t by omega)
      obtain ⟨Q, rfl⟩ := Int.eq_ofNat_of_zero_le (show 0 ≤ p by omega)
      have e1 : (T : Int).tdiv (Q : Int) = ((T / Q : Nat) : Int) := by rw [Int.tdiv_eq_ediv_of_nonneg (by omega)]; rfl
      have h3 : T / Q ≤ T := Nat.div_le_self _ _
      rw [e1]
      generalize T / Q = q at *
      have hw : IntKind.i64.wrap (q : Int) = (q : Int) := IntWalk.i64_in _ (by omega)
      go_enter Tryd.func15, Tryd.ntmps15
      go_wp2
      go_ret
      exact ⟨rfl, rfl⟩

set_option maxHeartbeats 1000000 in
theorem refWra17 (w : World) (k g : List UInt8) (e : Int) (s : List UInt8) (hk : k.length ≤ 1000) (hg : g.length ≤ 1000) (hs : s.length ≤ 1000) :
    Calls Tryd.prog 9 #[.string (bstr k), .string (bstr g), .int .i64 e, .string (bstr s)] w fun en w' => en = .returned (.tuple #[.string (bstr (vwText k g e s)), .int .i64 (vwErr k g e s)]) ∧ New w w' := by
  have zk : (bstr k).size = k.length := bstr_size k
  have zs : (bstr s).size = s.length := bstr_size s
  have HI := Lib.hid (refIs17 w g e hg)
  by_cases hi : vIs g e
  rotate_left
  · rw [decide_eq_false hi] at HI
    have HE : Hid (vwText k g e s = [] ∧ vwErr k g e s = 2) := Lib.hid ⟨if_neg (fun h => hi h.1), if_neg (fun h => hi h.1)⟩
    rw [HE.out.1, HE.out.2]
    clear hi
    go_enter Tryd.func9, Tryd.ntmps9
    go_wp2_with fail
    refine HI.out.mono ?_
    rintro _ w1 ⟨rfl, rfl⟩
    go_wp2
    go_ret2
    exact ⟨rfl, Below.refl _ _⟩
  rw [decide_eq_true hi] at HI
  by_cases h1 : k.length = 32
  rotate_left
  · have HE : Hid (vwText k g e s = [] ∧ vwErr k g e s = 2) := Lib.hid ⟨if_neg (fun h => h1 h.2.1), if_neg (fun h => h1 h.2.1)⟩
    rw [HE.out.1, HE.out.2]
    obtain ⟨m, hm⟩ : ∃ m, k.length = m := ⟨_, rfl⟩
    rw [hm] at zk h1
    have d1 : ((m : Int) != 32) = true := by simp; omega
    clear hi h1
    go_enter Tryd.func9, Tryd.ntmps9
    go_wp2_with fail
    refine HI.out.mono ?_
    rintro _ w1 ⟨rfl, rfl⟩
    go_wp2
    go_ret2
    exact ⟨rfl, Below.refl _ _⟩
  rw [h1] at zk
  by_cases h2 : s.length = 32
  rotate_left
  · have HE : Hid (vwText k g e s = [] ∧ vwErr k g e s = 2) := Lib.hid ⟨if_neg (fun h => h2 h.2.2), if_neg (fun h => h2 h.2.2)⟩
    rw [HE.out.1, HE.out.2]
    obtain ⟨m, hm⟩ : ∃ m, s.length = m := ⟨_, rfl⟩
    rw [hm] at zs h2
    have d1 : ((m : Int) != 32) = true := by simp; omega
    clear hi h1 h2
    go_enter Tryd.func9, Tryd.ntmps9
    go_wp2_with fail
    refine HI.out.mono ?_
    rintro _ w1 ⟨rfl, rfl⟩
    go_wp2
    go_ret2
    exact ⟨rfl, Below.refl _ _⟩
  rw [h2] at zs
  have HC := Lib.hid (refCtx17 w g e hi)
  have hcl : (vCtx g e).length ≤ 100 := by rw [vCtx_length]; have := hi.1; omega
  have HK := Lib.hid fun wx => refLabel04 wx k wrapL [] 48 (by omega) (by decide) (by decide) (by decide)
  have HN := Lib.hid fun wx => refLabel04 wx k nonL17 (vCtx g e) 16 (by omega) (by decide) (by omega) (by decide)
  have HS := Lib.hid fun wx => refSeal06 wx (vKey k) (vNon k (vCtx g e)) (vCtx g e) s (vKey_length k) (vNon_length _ _) (by omega) (by omega)
  have HE : Hid (vwText k g e s = sealOf (vKey k) (vNon k (vCtx g e)) (vCtx g e) s ∧ vwErr k g e s = 0) := Lib.hid ⟨if_pos ⟨hi, h1, h2⟩, if_pos ⟨hi, h1, h2⟩⟩
  rw [HE.out.1, HE.out.2]
  rw [show labelled k wrapL [] 48 = vKey k from rfl] at HK
  rw [show labelled k nonL17 (vCtx g e) 16 = vNon k (vCtx g e) from rfl] at HN
  rw [show bstr wrapL = ⟨#[119, 114, 97, 112]⟩ from rfl, show bstr [] = ⟨#[]⟩ from rfl] at HK
  rw [show bstr nonL17 = ⟨#[110, 111, 110, 99, 101]⟩ from rfl] at HN
  clear hi h1 h2 hcl HE hk hg hs
  generalize vCtx g e = C at *
  generalize vKey k = K at *
  generalize vNon k C = N at *
  go_enter Tryd.func9, Tryd.ntmps9
  go_wp2_with fail
  refine HI.out.mono ?_
  rintro _ w1 ⟨rfl, rfl⟩
  go_wp2_with fail
  refine HC.out.mono ?_
  rintro _ w1 ⟨rfl, N1⟩
  have N1 := Lib.hid N1
  go_wp2_with fail
  refine (HK.out w1).mono ?_
  rintro _ w2 ⟨rfl, N2⟩
  have N2 := Lib.hid (New.trans N1.out N2)
  go_wp2_with fail
  refine (HN.out w2).mono ?_
  rintro _ w3 ⟨rfl, N3⟩
  have N3 := Lib.hid (New.trans N2.out N3)
  go_wp2_with fail
  refine (HS.out w3).mono ?_
  rintro _ w4 ⟨rfl, N4⟩
  have N4 := Lib.hid (New.trans N3.out N4)
  go_wp2
  go_ret2
  exact ⟨rfl, N4.out⟩

set_option maxHeartbeats 1000000 in
theorem refUnw17 (w : World) (k g : List UInt8) (e : Int) (s : List UInt8) (hk : k.length ≤ 1000) (hg : g.length ≤ 1000) (hs : s.length ≤ 1000) :
    Calls Tryd.prog 11 #[.string (bstr k), .string (bstr g), .int .i64 e, .string (bstr s)] w fun en w' => en = .returned (.tuple #[.string (bstr (vuText k g e s)), .int .i64 (vuErr k g e s)]) ∧ New w w' := by
  have zk : (bstr k).size = k.length := bstr_size k
  have zs : (bstr s).size = s.length := bstr_size s
  have HI := Lib.hid (refIs17 w g e hg)
  by_cases hi : vIs g e
  rotate_left
  · rw [decide_eq_false hi] at HI
    have HE : Hid (vuText k g e s = [] ∧ vuErr k g e s = 2) := Lib.hid ⟨if_neg (fun h => hi h.1), if_neg (fun h => hi h.1)⟩
    rw [HE.out.1, HE.out.2]
    clear hi
    go_enter Tryd.func11, Tryd.ntmps11
    go_wp2_with fail
    refine HI.out.mono ?_
    rintro _ w1 ⟨rfl, rfl⟩
    go_wp2
    go_ret2
    exact ⟨rfl, Below.refl _ _⟩
  rw [decide_eq_true hi] at HI
  by_cases h1 : k.length = 32
  rotate_left
  · have HE : Hid (vuText k g e s = [] ∧ vuErr k g e s = 2) := Lib.hid ⟨if_neg (fun h => h1 h.2.1), if_neg (fun h => h1 h.2.1)⟩
    rw [HE.out.1, HE.out.2]
    obtain ⟨m, hm⟩ : ∃ m, k.length = m := ⟨_, rfl⟩
    rw [hm] at zk h1
    have d1 : ((m : Int) != 32) = true := by simp; omega
    clear hi h1
    go_enter Tryd.func11, Tryd.ntmps11
    go_wp2_with fail
    refine HI.out.mono ?_
    rintro _ w1 ⟨rfl, rfl⟩
    go_wp2
    go_ret2
    exact ⟨rfl, Below.refl _ _⟩
  rw [h1] at zk
  by_cases h2 : s.length = 48
  rotate_left
  · have HE : Hid (vuText k g e s = [] ∧ vuErr k g e s = 2) := Lib.hid ⟨if_neg (fun h => h2 h.2.2), if_neg (fun h => h2 h.2.2)⟩
    rw [HE.out.1, HE.out.2]
    obtain ⟨m, hm⟩ : ∃ m, s.length = m := ⟨_, rfl⟩
    rw [hm] at zs h2
    have d1 : ((m : Int) != 48) = true := by simp; omega
    clear hi h1 h2
    go_enter Tryd.func11, Tryd.ntmps11
    go_wp2_with fail
    refine HI.out.mono ?_
    rintro _ w1 ⟨rfl, rfl⟩
    go_wp2
    go_ret2
    exact ⟨rfl, Below.refl _ _⟩
  rw [h2] at zs
  have HC := Lib.hid (refCtx17 w g e hi)
  have hcl : (vCtx g e).length ≤ 100 := by rw [vCtx_length]; have := hi.1; omega
  have HK := Lib.hid fun wx => refLabel04 wx k wrapL [] 48 (by omega) (by decide) (by decide) (by decide)
  have HN := Lib.hid fun wx => refLabel04 wx k nonL17 (vCtx g e) 16 (by omega) (by decide) (by omega) (by decide)
  have HS := Lib.hid fun wx => refOpen06 wx (vKey k) (vNon k (vCtx g e)) (vCtx g e) s (vKey_length k) (vNon_length _ _) (by omega) (by omega)
  have HE : Hid (vuText k g e s = openText (vKey k) (vNon k (vCtx g e)) (vCtx g e) s ∧ vuErr k g e s = openErr (vKey k) (vNon k (vCtx g e)) (vCtx g e) s) := Lib.hid ⟨if_pos ⟨hi, h1, h2⟩, if_pos ⟨hi, h1, h2⟩⟩
  rw [HE.out.1, HE.out.2]
  rw [show labelled k wrapL [] 48 = vKey k from rfl] at HK
  rw [show labelled k nonL17 (vCtx g e) 16 = vNon k (vCtx g e) from rfl] at HN
  rw [show bstr wrapL = ⟨#[119, 114, 97, 112]⟩ from rfl, show bstr [] = ⟨#[]⟩ from rfl] at HK
  rw [show bstr nonL17 = ⟨#[110, 111, 110, 99, 101]⟩ from rfl] at HN
  clear hi h1 h2 hcl HE hk hg hs
  generalize vCtx g e = C at *
  generalize vKey k = K at *
  generalize vNon k C = N at *
  go_enter Tryd.func11, Tryd.ntmps11
  go_wp2_with fail
  refine HI.out.mono ?_
  rintro _ w1 ⟨rfl, rfl⟩
  go_wp2_with fail
  refine HC.out.mono ?_
  rintro _ w1 ⟨rfl, N1⟩
  have N1 := Lib.hid N1
  go_wp2_with fail
  refine (HK.out w1).mono ?_
  rintro _ w2 ⟨rfl, N2⟩
  have N2 := Lib.hid (New.trans N1.out N2)
  go_wp2_with fail
  refine (HN.out w2).mono ?_
  rintro _ w3 ⟨rfl, N3⟩
  have N3 := Lib.hid (New.trans N2.out N3)
  go_wp2_with fail
  refine (HS.out w3).mono ?_
  rintro _ w4 ⟨rfl, N4⟩
  have N4 := Lib.hid (New.trans N3.out N4)
  go_wp2
  go_ret2
  exact ⟨rfl, N4.out⟩

end Go.Proofs.YtgfljldegodpgaaDoor
