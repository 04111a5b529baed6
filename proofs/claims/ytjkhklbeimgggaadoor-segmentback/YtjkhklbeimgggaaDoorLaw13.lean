/-
  The statements of layer 13: their own helper; SegmentFits.
-/
import Derived.Test.YtjkhklbeimgggaaDoorSegFns2
import Derived.Test.YtjkhklbeimgggaaDoorRefSeg
import Derived.Lib.SlBytesConst
namespace Go.Proofs.YtjkhklbeimgggaaDoor
set_option linter.unusedVariables false
set_option linter.unusedSimpArgs false
open Go.RowKit

set_option maxRecDepth 100000 in
set_option maxHeartbeats 1000000 in
theorem awake13 (w : World) (hL : Laid w) : Calls Tryd.prog 7 #[] w fun e w' => e = .returned (.bool true) ∧ New w w' := by
  have kc := fun (w : World) (C : Array Value) (n c : Nat) => Lib.run_convert_bytes_const (P := Tryd.prog) w 22 5 C n c Tryd.underlying22 Tryd.underlying5
  have hmk : ∀ wx : World, (Instr.makeSlice 22 (.int .i64 32) (.int .i64 32)).run Tryd.prog wx = .ok (.slice (some ⟨wx.heap.size, 0, none⟩) 32 32) (wx.alloc (.cells (List.replicate 32 (bv 0)).toArray 5)) := fun wx => run_make_bytes 32 32 (by omega) (by omega) (by omega) wx
  have HRd := Lib.hid (fun wx : World => rd_of_row (w := wx.alloc (.cells (List.replicate 32 (bv 0)).toArray 5)) (g := wx.heap.size) (l := List.replicate 32 0) (t := 5) (fr := (0, 0)) (by rw [List.map_replicate]; exact heap_alloc_new _ _) (by simp))
  rw [List.length_replicate] at HRd
  generalize hR : (List.replicate 32 (bv 0)).toArray = RZ at *
  clear hR
  have kc5 : (convert 22 22 (.slice (some ⟨w.heap.size + 1, 0, none⟩) 5 5)).run Tryd.prog ((w.alloc (.cells RZ 5)).alloc (.cells #[.int .u8 104, .int .u8 101, .int .u8 108, .int .u8 108, .int .u8 111] 5)) = .ok (.slice (some ⟨w.heap.size + 1, 0, none⟩) 5 5) ((w.alloc (.cells RZ 5)).alloc (.cells (([104, 101, 108, 108, 111] : List UInt8).map bv).toArray 5 (5, 6))) := by
    have h := kc (w.alloc (.cells RZ 5)) (([104, 101, 108, 108, 111] : List UInt8).map bv).toArray 5 5
    rw [show (w.alloc (.cells RZ 5)).heap.size = w.heap.size + 1 by simp] at h
    exact h
  have N1 : New w (w.alloc (.cells RZ 5)) := (Below.refl _ _).alloc (Nat.le_refl _) _
  have N2 : New (w.alloc (.cells RZ 5)) ((w.alloc (.cells RZ 5)).alloc (.cells (([104, 101, 108, 108, 111] : List UInt8).map bv).toArray 5 (5, 6))) := (Below.refl _ _).alloc (Nat.le_refl _) _
  have r1 := (HRd.out w).new N2
  have r2 := Rd.made (w.alloc (.cells RZ 5)) [104, 101, 108, 108, 111] 5 (5, 6) (by decide)
  rw [show (w.alloc (.cells RZ 5)).heap.size = w.heap.size + 1 by simp] at r2
  have NN := Lib.hid (New.trans N1 N2)
  have HFr := Lib.hid (segFrame _ _ _ _ _ r1 r2 (hL.new NN.out))
  have hf : sFramed (List.replicate 32 0) [104, 101, 108, 108, 111] := ⟨⟨by decide, by decide⟩, by simp⟩
  rw [if_pos hf, if_pos hf] at HFr
  have HFL : Hid ((sFrame (List.replicate 32 0) [104, 101, 108, 108, 111]).length = 45) := Lib.hid (by rw [sFrame_length]; rfl)
  have HNL : Hid ((sNext (List.replicate 32 0) [104, 101, 108, 108, 111]).length = 32) := Lib.hid (sNext_length _ _)
  clear hL r1 r2 N1 N2 hf kc HRd
  go_enter Tryd.func7, Tryd.ntmps7
  go_wp2_with fail
  refine HFr.out.mono ?_
  rintro _ w3 ⟨v, a2, n2, c2, rfl, o3, r3, -, -, N3⟩
  obtain ⟨a1, c1, rfl, -, -⟩ := ownSl_form o3
  have e1 := HFL.out
  have e2 := HNL.out
  have e3 := r3.len
  rw [e2] at e3
  subst e3
  rw [e1]
  have HN := Lib.hid (New.trans NN.out N3)
  clear o3 r3 N3 e1 e2 HFr NN kc5 hmk
  go_wp2
  go_ret
  exact ⟨rfl, HN.out⟩

set_option maxHeartbeats 1000000 in
theorem fitsLaw (w : World) (size : Int) (hs : (Lit.int .i64 size).wf = true) (used : Int) (hu : (Lit.int .i64 used).wf = true) (text : Int) (ht : (Lit.int .i64 text).wf = true) (hL : Laid w) :
    Calls Tryd.prog 6 #[.int .i64 size, .int .i64 used, .int .i64 text] w fun e w' => e = .returned (.bool true) ∧ New w w' := by
  have hs' : IntKind.i64.min ≤ size ∧ size ≤ IntKind.i64.max := by simpa [Lit.wf] using hs
  rw [show IntKind.i64.min = -9223372036854775808 from rfl, show IntKind.i64.max = 9223372036854775807 from rfl] at hs'
  have hu' : IntKind.i64.min ≤ used ∧ used ≤ IntKind.i64.max := by simpa [Lit.wf] using hu
  rw [show IntKind.i64.min = -9223372036854775808 from rfl, show IntKind.i64.max = 9223372036854775807 from rfl] at hu'
  have ht' : IntKind.i64.min ≤ text ∧ text ≤ IntKind.i64.max := by simpa [Lit.wf] using ht
  rw [show IntKind.i64.min = -9223372036854775808 from rfl, show IntKind.i64.max = 9223372036854775807 from rfl] at ht'
  have HA := Lib.hid (awake13 w hL)
  have HA2 := Lib.hid (fun wx (hn : New w wx) => awake13 wx (hL.new hn))
  have HF := Lib.hid (fun wx => segFits wx size used text hs'.1 hs'.2 hu'.1 hu'.2)
  have HZ := Lib.hid (fun wx => refZero12 wx)
  have hz : (bstr (List.replicate 32 0)).size = 32 := by rw [bstr_size]; simp
  generalize bstr (List.replicate 32 0) = BZ at *
  clear hs hu ht hL
  by_cases h1 : size < -1099511627776
  ·
    go_enter Tryd.func6, Tryd.ntmps6
    go_wp2_with fail
    refine HA.out.mono ?_
    rintro _ w1 ⟨rfl, n1⟩
    go_wp2_with fail
    refine (HA2.out w1 n1).mono ?_
    rintro _ w2 ⟨rfl, n2⟩
    go_wp2
    go_ret
    exact ⟨rfl, New.trans n1 n2⟩
  by_cases h2 : 1099511627776 < size
  ·
    go_enter Tryd.func6, Tryd.ntmps6
    go_wp2_with fail
    refine HA.out.mono ?_
    rintro _ w1 ⟨rfl, n1⟩
    go_wp2_with fail
    refine (HA2.out w1 n1).mono ?_
    rintro _ w2 ⟨rfl, n2⟩
    go_wp2
    go_ret
    exact ⟨rfl, New.trans n1 n2⟩
  by_cases h3 : used < -1099511627776
  ·
    go_enter Tryd.func6, Tryd.ntmps6
    go_wp2_with fail
    refine HA.out.mono ?_
    rintro _ w1 ⟨rfl, n1⟩
    go_wp2_with fail
    refine (HA2.out w1 n1).mono ?_
    rintro _ w2 ⟨rfl, n2⟩
    go_wp2
    go_ret
    exact ⟨rfl, New.trans n1 n2⟩
  by_cases h4 : 1099511627776 < used
  ·
    go_enter Tryd.func6, Tryd.ntmps6
    go_wp2_with fail
    refine HA.out.mono ?_
    rintro _ w1 ⟨rfl, n1⟩
    go_wp2_with fail
    refine (HA2.out w1 n1).mono ?_
    rintro _ w2 ⟨rfl, n2⟩
    go_wp2
    go_ret
    exact ⟨rfl, New.trans n1 n2⟩
  obtain ⟨x, hx⟩ : ∃ x, sFits size used text = x := ⟨_, rfl⟩
  rw [hx] at HF
  have hx' : decide (1 ≤ text ∧ text ≤ 65535 ∧ used ≤ size ∧ text + 88 ≤ size - used) = x := hx
  clear hx
  by_cases g1 : 1 ≤ text
  · by_cases g2 : text ≤ 65535
    · by_cases g3 : used ≤ size
      · by_cases g4 : text + 88 ≤ size - used
        · rw [decide_eq_true ⟨g1, g2, g3, g4⟩] at hx'
          subst hx'
          go_enter Tryd.func6, Tryd.ntmps6
          go_wp2_with fail
          refine HA.out.mono ?_
          rintro _ w1 ⟨rfl, n1⟩
          go_wp2_with fail
          refine (HF.out w1).mono ?_
          rintro _ w2 ⟨rfl, rfl⟩
          go_wp2_with fail
          refine (HZ.out w1).mono ?_
          rintro _ w2 ⟨rfl, n2⟩
          go_wp2
          go_ret
          exact ⟨rfl, New.trans n1 n2⟩
        · rw [decide_eq_false (by omega)] at hx'
          have hd4 : decide (text + 88 ≤ size - used) = false := decide_eq_false g4
          subst hx'
          go_enter Tryd.func6, Tryd.ntmps6
          go_wp2_with fail
          refine HA.out.mono ?_
          rintro _ w1 ⟨rfl, n1⟩
          go_wp2_with fail
          refine (HF.out w1).mono ?_
          rintro _ w2 ⟨rfl, rfl⟩
          go_wp2_with fail
          refine (HZ.out w1).mono ?_
          rintro _ w2 ⟨rfl, n2⟩
          go_wp2
          go_ret
          exact ⟨rfl, New.trans n1 n2⟩
      · rw [decide_eq_false (by omega)] at hx'
        subst hx'
        go_enter Tryd.func6, Tryd.ntmps6
        go_wp2_with fail
        refine HA.out.mono ?_
        rintro _ w1 ⟨rfl, n1⟩
        go_wp2_with fail
        refine (HF.out w1).mono ?_
        rintro _ w2 ⟨rfl, rfl⟩
        go_wp2_with fail
        refine (HZ.out w1).mono ?_
        rintro _ w2 ⟨rfl, n2⟩
        go_wp2
        go_ret
        exact ⟨rfl, New.trans n1 n2⟩
    · rw [decide_eq_false (by omega)] at hx'
      subst hx'
      go_enter Tryd.func6, Tryd.ntmps6
      go_wp2_with fail
      refine HA.out.mono ?_
      rintro _ w1 ⟨rfl, n1⟩
      go_wp2_with fail
      refine (HF.out w1).mono ?_
      rintro _ w2 ⟨rfl, rfl⟩
      go_wp2_with fail
      refine (HZ.out w1).mono ?_
      rintro _ w2 ⟨rfl, n2⟩
      go_wp2
      go_ret
      exact ⟨rfl, New.trans n1 n2⟩
  · rw [decide_eq_false (by omega)] at hx'
    subst hx'
    go_enter Tryd.func6, Tryd.ntmps6
    go_wp2_with fail
    refine HA.out.mono ?_
    rintro _ w1 ⟨rfl, n1⟩
    go_wp2_with fail
    refine (HF.out w1).mono ?_
    rintro _ w2 ⟨rfl, rfl⟩
    go_wp2_with fail
    refine (HZ.out w1).mono ?_
    rintro _ w2 ⟨rfl, n2⟩
    go_wp2
    go_ret
    exact ⟨rfl, New.trans n1 n2⟩

end Go.Proofs.YtjkhklbeimgggaaDoor
