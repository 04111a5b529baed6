/-
  The law FaultNil, walked.
-/
import Derived.Test.YtnjijmphmgihiaaDoorCodes09
namespace Go.Proofs.YtnjijmphmgihiaaDoor
set_option linter.unusedVariables false
set_option linter.unusedSimpArgs false
open Go.RowKit

set_option maxRecDepth 100000 in
set_option maxHeartbeats 2000000 in
theorem nilWalk (w : World) (op : List UInt8) (pos : Int) (h0 : -9223372036854775808 ≤ pos) (h1 : pos ≤ 9223372036854775807) (hL : Laid9 w) :
    Calls Tryd.prog 6 #[.string (bstr op), .int .i64 pos] w fun e w' => e = .returned (.bool true) ∧ New w w' := by
  have HL := Lib.hid hL
  clear hL
  have hsz : (bstr op).size = op.length := bstr_size op
  by_cases hop : (bstr op).size ≤ 50
  · have hop1 : decide ((50 : Int) < ((bstr op).size : Int)) = false := by simp; omega
    go_enter Tryd.func6, Tryd.ntmps6
    go_wp2_with fail
    refine (awake09 w HL.out).mono ?_
    rintro e w1 ⟨rfl, N1⟩
    go_wp2_with fail
    generalize hw2 : World.alloc w1 _ = w2
    have HF : Hid (w2.heap[w1.heap.size]? = some (.cells #[.string (bstr op), .int .i64 pos, .nilIface] 46)) := Lib.hid (by rw [← hw2]; exact heap_alloc_new _ _)
    have N2 : New w1 w2 := by rw [← hw2]; exact newAlloc (newRefl _) _
    have NN2 := New.trans N1 N2
    clear hw2 N1 N2
    have HC : Hid (Chain w2 [⟨w1.heap.size, op, pos⟩] .nought) := by
      refine Lib.hid ⟨fun i hi => ?_, fun i j hi hj hij => ?_⟩
      · have : i = 0 := by simp at hi; omega
        subst this
        exact HF.out
      · simp at hi hj; omega
    obtain ⟨b, hb⟩ : ∃ b, w1.heap.size = b := ⟨_, rfl⟩
    rw [hb] at HC HF ⊢
    clear hb
    have HPL : Hid (Calls Tryd.prog 14 #[.iface 42 (.pointer (some ⟨b, 0, none⟩)), .string (bstr op)] w2 fun e w' => e = .returned (.tuple #[.int .i64 pos, .bool true]) ∧ New w2 w') := by
      have h := placeAt w2 [⟨b, op, pos⟩] .nought op HC.out (HL.out.new NN2).1 (by simp)
      have e : placeOf ([(⟨b, op, pos⟩ : Lk)].map Lk.kp) op = (pos, true) := by simp [placeOf, Lk.kp]
      rw [e] at h
      exact Lib.hid h
    have HCO : Hid (∀ wx, New w2 wx → Calls Tryd.prog 10 #[.iface 42 (.pointer (some ⟨b, 0, none⟩))] wx fun e w' => e = .returned (.int .i64 0) ∧ New wx w') := Lib.hid (fun wx hn => codeAt wx [⟨b, op, pos⟩] .nought (HC.out.new hn) (HL.out.new (New.trans NN2 hn)).1 (by simp))
    have HE0 : Hid (∀ wx, New w2 wx → Calls Tryd.prog 18 #[.pointer none] wx fun e w' => e = .returned (.string ⟨#[]⟩) ∧ New wx w') := Lib.hid (fun wx hn => errorAt wx [] .hollow none rfl (chain0 _ _) (HL.out.new (New.trans NN2 hn)).1 (HL.out.new (New.trans NN2 hn)).2 (by simp) (fun i h => by simp at h) trivial (by simp [chainTxt]))
    have HE1 : Hid (∀ wx, New w2 wx → Calls Tryd.prog 18 #[.pointer (some ⟨b, 0, none⟩)] wx fun e w' => e = .returned (.string (bstr (op ++ [32] ++ Lib.itoa pos ++ [58, 32]))) ∧ New wx w') := by
      refine Lib.hid (fun wx hn => ?_)
      have hi := itoa_len pos h0 h1
      have h := errorAt wx [⟨b, op, pos⟩] .nought (some ⟨b, 0, none⟩) rfl (HC.out.new hn) (HL.out.new (New.trans NN2 hn)).1 (HL.out.new (New.trans NN2 hn)).2 (by simp) (fun i h => by
        have : i = 0 := by simp at h; omega
        subst this
        exact ⟨h0, h1⟩) trivial (by simp [chainTxt, linkTxt, Lk.kp]; omega)
      have e : chainTxt ([(⟨b, op, pos⟩ : Lk)].map Lk.kp) ++ Cor.txt .nought = op ++ [32] ++ Lib.itoa pos ++ [58, 32] := by simp [chainTxt, linkTxt, Lk.kp, Cor.txt]
      rw [e] at h
      exact h
    have HUN : Hid (∀ wx, New w2 wx → Calls Tryd.prog 20 #[.pointer (some ⟨b, 0, none⟩)] wx fun e w' => e = .returned .nilIface ∧ wx = w') := Lib.hid (fun wx hn => unwrapAt wx b .nilIface ((HC.out.new hn).cell (i := 0) (by simp)).2.2)
    have HNU := Lib.hid (fun wx => refNumber9 wx pos h0 h1)
    have HIL := Lib.hid (itoa_len pos h0 h1)
    clear HC HF
    go_wp2_with fail
    refine HPL.out.mono ?_
    rintro e w3 ⟨rfl, N3⟩
    go_wp2_with fail
    refine (HE0.out w3 N3).mono ?_
    rintro e w4 ⟨rfl, N4'⟩
    have N4 := New.trans N3 N4'
    clear N3 N4'
    go_wp2_with fail
    refine (unwrap0 w4).mono ?_
    rintro e w4' ⟨rfl, rfl⟩
    go_wp2_with fail
    refine (again0 w4 _ _).mono ?_
    rintro e w4' ⟨rfl, rfl⟩
    go_wp2_with fail
    refine (wrap0 w4 _ _).mono ?_
    rintro e w4' ⟨rfl, rfl⟩
    go_wp2_with fail
    refine (HCO.out w4 N4).mono ?_
    rintro e w5 ⟨rfl, N5'⟩
    have N5 := New.trans N4 N5'
    clear N4 N5'
    go_wp2_with fail
    refine (HE1.out w5 N5).mono ?_
    rintro e w6 ⟨rfl, N6'⟩
    have N6 := New.trans N5 N6'
    clear N5 N6'
    have z1 : (bstr op ++ (⟨#[32]⟩ : ByteArray)).size ≤ 60 := by rw [ByteArray.size_append]; have : (⟨#[32]⟩ : ByteArray).size = 1 := rfl; omega
    have z3 : (bstr (Lib.itoa pos)).size ≤ 21 := by rw [bstr_size]; exact HIL.out
    have z4 : (bstr op ++ (⟨#[32]⟩ : ByteArray) ++ bstr (Lib.itoa pos)).size ≤ 90 := by rw [ByteArray.size_append]; omega
    have HJ : Hid (bstr (op ++ [32] ++ Lib.itoa pos ++ [58, 32]) = bstr op ++ (⟨#[32]⟩ : ByteArray) ++ bstr (Lib.itoa pos) ++ (⟨#[58, 32]⟩ : ByteArray)) := by
      have e : (⟨#[32]⟩ : ByteArray) = bstr [32] := rfl
      have e2 : (⟨#[58, 32]⟩ : ByteArray) = bstr [58, 32] := rfl
      rw [e, e2, bstr_join9, bstr_join9, bstr_join9]
      exact Lib.hid rfl
    rw [HJ.out]
    go_wp2_with fail
    refine (HNU.out w6).mono ?_
    rintro e w7 ⟨rfl, N7'⟩
    have N7 := New.trans N6 N7'
    clear N6 N7'
    go_wp2_with fail
    refine (HUN.out w7 N7).mono ?_
    rintro e w7' ⟨rfl, rfl⟩
    have HN := Lib.hid (New.trans NN2 N7)
    clear N7 NN2
    go_wp2
    go_ret
    exact ⟨rfl, HN.out⟩
  · have hop1 : decide ((50 : Int) < ((bstr op).size : Int)) = true := by simp; omega
    go_enter Tryd.func6, Tryd.ntmps6
    go_wp2_with fail
    refine (awake09 w HL.out).mono ?_
    rintro e w1 ⟨rfl, N1⟩
    go_wp2_with fail
    refine (awake09 w1 (HL.out.new N1)).mono ?_
    rintro e w2 ⟨rfl, N2⟩
    have HN := Lib.hid (New.trans N1 N2)
    clear N1 N2
    go_wp2
    go_ret
    exact ⟨rfl, HN.out⟩

end Go.Proofs.YtnjijmphmgihiaaDoor
