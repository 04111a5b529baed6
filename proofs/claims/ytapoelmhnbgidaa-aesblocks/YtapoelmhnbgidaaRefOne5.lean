/-
  The reference's One of layer 5: a block by a key.
-/
import Derived.Test.YtapoelmhnbgidaaAesEq
namespace Go.Proofs.Ytapoelmhnbgidaa
set_option linter.unusedVariables false
set_option linter.unusedSimpArgs false
open Go.RowKit

set_option maxRecDepth 100000 in
set_option maxHeartbeats 1000000 in
theorem refOne5 (w : World) (key b : List UInt8) (hk : key.length = 16) (hb : b.length = 16) :
    Calls Try.prog 10 #[.string (bstr key), .string (bstr b)] w fun e w' => e = .returned (.string (bstr (enc key b 10))) ∧ New w w' := by
  have HK := Lib.hid hk
  have HB := Lib.hid hb
  have HWL : Hid ((wTo key 40).length = 176) := by show _ = _; rw [wTo_length key hk]
  have HE := Lib.hid (refEnc_eq key b hk hb 10 (Nat.le_refl _))
  have HEL := Lib.hid (refEnc_length (wTo key 40) b 10)
  clear hk hb
  go_enter Try.func10, Try.ntmps10
  go_wp2_with fail
  refine (refBoxes5 w).mono ?_
  rintro e w1 ⟨g1, rfl, hg1, hrow1, N1⟩
  have HX1 := Lib.hid (IRd.of_row hrow1)
  clear hrow1
  go_wp2_with fail
  refine (refInts5 w1 key (by rw [HK.out]; decide)).mono ?_
  rintro e w2 ⟨v2, rfl, ho2⟩
  obtain ⟨gk, ck, rfl, hck, -, -, -, hrk⟩ := IRd.of_own ho2.own (by rw [HK.out]; decide)
  rw [HK.out]
  have HX2 := Lib.hid (HX1.out.new ho2.new)
  have HRK := Lib.hid hrk
  have N2 := New.trans N1 ho2.new
  clear hrk ho2 HX1 N1 hck
  go_wp2_with fail
  refine (refKeys5 w2 gk ck g1 key HRK.out HK.out HX2.out).mono ?_
  rintro e w3 ⟨v3, rfl, ho3⟩
  obtain ⟨gW, cW, rfl, hcW, -, -, -, hrW⟩ := IRd.of_own ho3.own (by rw [HWL.out]; decide)
  rw [HWL.out]
  have HX3 := Lib.hid (HX2.out.new ho3.new)
  have HRW := Lib.hid hrW
  have N3 := New.trans N2 ho3.new
  clear hrW ho3 HX2 N2 HRK hcW
  go_wp2_with fail
  refine (refInts5 w3 b (by rw [HB.out]; decide)).mono ?_
  rintro e w4 ⟨v4, rfl, ho4⟩
  obtain ⟨gB, cB, rfl, hcB, -, -, -, hrB⟩ := IRd.of_own ho4.own (by rw [HB.out]; decide)
  rw [HB.out]
  have HX4 := Lib.hid (HX3.out.new ho4.new)
  have HRW4 := Lib.hid (HRW.out.new ho4.new)
  have HRB := Lib.hid hrB
  have N4 := New.trans N3 ho4.new
  clear hrB ho4 HX3 N3 HRW hcB
  go_wp2_with fail
  refine (refBlock5 w4 gW cW g1 gB cB (wTo key 40) b HRW4.out HWL.out HX4.out HRB.out HB.out).mono ?_
  rintro e w5 ⟨g5, rfl, hg5, hrow5, N5⟩
  have HR5 := Lib.hid (IRd.of_row hrow5)
  have N6 := New.trans N4 N5
  clear hrow5 N4 N5 HX4 HRW4 HRB
  go_wp2_with fail
  refine (refText5 w5 g5 16 16 _ HR5.out HEL.out (by decide) (Nat.le_refl _)).mono ?_
  rintro e w6 ⟨rfl, N7⟩
  rw [HE.out]
  obtain ⟨R, HR⟩ : ∃ R, Hid (enc key b 10 = R) := ⟨_, Lib.hid rfl⟩
  rw [HR.out]
  go_wp2
  go_ret
  exact ⟨by rw [HR.out]; rfl, New.trans N6 N7⟩

end Go.Proofs.Ytapoelmhnbgidaa
