/-
  CrcTakes: the walk.
-/
import Derived.Test.YtimilldkmdmaiaaLaw11
import Derived.Test.YtimilldkmdmaiaaBase
namespace Go.Proofs.Ytimilldkmdmaiaa
set_option linter.unusedVariables false
set_option linter.unusedSimpArgs false
open Go.RowKit

/-- three strings -/
def Str11 (x y z : Value) (l m k : List UInt8) (w : World) : Prop :=
  (convert 22 9 x).run Try.prog w = .ok (.string (bstr l)) w ∧ (convert 22 9 y).run Try.prog w = .ok (.string (bstr m)) w ∧ (convert 22 9 z).run Try.prog w = .ok (.string (bstr k)) w

theorem str11 {w : World} {x y z : Value} {l m k : List UInt8} (hx : Rd w x l) (hy : Rd w y m) (hz : Rd w z k) : Str11 x y z l m k w := ⟨run_str (P := Try.prog) Try.underlying22 Try.underlying5 Try.underlying9 hx, run_str (P := Try.prog) Try.underlying22 Try.underlying5 Try.underlying9 hy, run_str (P := Try.prog) Try.underlying22 Try.underlying5 Try.underlying9 hz⟩

set_option maxRecDepth 100000 in
set_option maxHeartbeats 2000000 in
theorem takesWalk (w : World) (x : Value) (l : List UInt8) (hx : Rd w x l) :
    Calls Try.prog 4 #[x] w fun e w' => e = .returned (.bool true) ∧ New w w' := by
  have HX := Lib.hid hx
  obtain ⟨ax, mx, cx, rfl, hax, hxc, hxm, -, -⟩ := hx
  unfold maxLen at hxm
  by_cases h1 : 1000 < mx
  · have hd1 : decide ((1000 : Int) < (mx : Int)) = true := by simp; omega
    clear hax
    go_enter Try.func4, Try.ntmps4
    go_wp2_with fail
    refine (awake11 w).mono ?_
    rintro e w1 ⟨rfl, N1⟩
    go_wp2_with fail
    refine (awake11 w1).mono ?_
    rintro e w2 ⟨rfl, N2⟩
    go_wp2
    go_ret
    exact ⟨rfl, New.trans N1 N2⟩
  have hd1 : decide ((1000 : Int) < (mx : Int)) = false := by simp; omega
  have HLen : Hid (l.length ≤ 1000) := Lib.hid (by omega)
  clear hax
  go_enter Try.func4, Try.ntmps4
  go_wp2_with fail
  refine (awake11 w).mono ?_
  rintro e w1 ⟨rfl, N1⟩
  go_wp2_with fail
  refine (crcTake w1 _ l (HX.out.new N1) (by have := HLen.out; omega)).mono ?_
  rintro e w2 ⟨a2, n2, c2, rfl, r2, N2', -⟩
  have N2 := N1.trans N2'
  have HR2 := Lib.hid r2
  clear r2
  have ks := run_str (P := Try.prog) Try.underlying22 Try.underlying5 Try.underlying9 (HX.out.new N2)
  go_wp2_with fail
  refine (refTake11 w2 l (by have := HLen.out; omega)).mono ?_
  rintro e w3 ⟨rfl, N3'⟩
  have N3 := N2.trans N3'
  have HR3 := Lib.hid (HR2.out.new N3')
  clear ks
  go_wp2_with fail
  refine (crcWith_calls w3 _ l (HX.out.new N3) (by have := HLen.out; omega)).mono ?_
  rintro e w4 ⟨a4, n4, c4, rfl, r4, N4', -⟩
  have N4 := N3.trans N4'
  have HR4 := Lib.hid (HR3.out.new N4')
  have HC := Lib.hid (crcTake w4 _ _ r4 (by rw [crcWith_length]; have := HLen.out; omega))
  have hb := crc_back l
  go_wp2_with fail
  refine HC.out.mono ?_
  rintro e w5 ⟨a5, n5, c5, rfl, r5, N5', -⟩
  rw [hb.1]
  rw [hb.2] at r5
  have N5 := N4.trans N5'
  have HR5 := Lib.hid (HR4.out.new N5')
  have HQ5 := Lib.hid r5
  clear r5 hb HC r4
  go_wp2_with fail
  have hS : Str11 (.slice ax mx cx) (.slice a2 n2 c2) (.slice a5 n5 c5) l (crcText l) l w5.drew := str11 (HX.out.new N5.drew) HR5.out HQ5.out
  refine region_ordT (Str11 (.slice ax mx cx) (.slice a2 n2 c2) (.slice a5 n5 c5) l (crcText l) l) (.take 0 (.take 1 (.take 2 (.take 3 (.take 4 (.take 5 (.take 6 (.take 7 (.take 8 (.take 9 (.take 10 (.take 13 (.take 14 (.only 11 (.two 12 15 (.only 15 (.take 16 (.take 17 (.take 18 (.take 19 (.take 20 (.take 21 (.take 22 (.take 23 (.take 24 (.take 25 (.take 26 (.take 27 (.take 28 .nil)))))))))))))) (.only 12 (.take 16 (.take 17 (.take 18 (.take 19 (.take 20 (.take 21 (.take 22 (.take 23 (.take 24 (.take 25 (.take 26 (.take 27 (.take 28 .nil))))))))))))))))))))))))))))) (by kernel_rfl) (by kernel_rfl) hS (fun _ => ?_)
  have N5d : New w w5.drew := N5.drew
  have HX5 : Hid (Rd w5.drew (.slice ax mx cx) l) := Lib.hid (HX.out.new N5d)
  have HR5' : Hid (Rd w5.drew (.slice a2 n2 c2) (crcText l)) := HR5
  have HQ5' : Hid (Rd w5.drew (.slice a5 n5 c5) l) := HQ5
  clear hS HR5 HQ5
  have HWL := Lib.hid (fun (W : World) (h : Rd W (.slice ax mx cx) l) => crcWith_calls W _ l h (by have := HLen.out; omega))
  have HRW := Lib.hid (fun (W : World) => refWith11 W l (by have := HLen.out; omega))
  generalize w5.drew = w5 at *
  have kb1 : ((bstr l).toList == (bstr l).toList) = true := by simp
  have kb2 : ((bstr (crcText l)).toList == (bstr (crcText l)).toList) = true := by simp
  have kb3 : ((bstr (crcWith l)).toList == (bstr (crcWith l)).toList) = true := by simp
  have kbo : (crcOk l == crcOk l) = true := by simp
  generalize crcText l = T at *
  generalize crcOk l = B at *
  unfold Str11
  iterate 13 (apply ordT_take; (simp only [List.getElem?_toArray, List.getElem?_cons_succ, List.getElem?_cons_zero]; rfl); rfl; (intro w hSw; (try dsimp only at hSw); go_simp; try with_reducible rfl); intro _; try simp only [Act.put, List.setIfInBounds_toArray, List.set_cons_zero, List.set_cons_succ])
  (apply ordT_only; (simp only [List.getElem?_toArray, List.getElem?_cons_succ, List.getElem?_cons_zero]; rfl); rfl; intro K hK)
  go_simp
  refine (HWL.out w5 HX5.out).mono ?_
  rintro e w6 ⟨a6, n6, c6, rfl, r6, N6', -⟩
  have N6 := N5d.trans N6'
  have HR6 := Lib.hid r6
  have HX6 := Lib.hid (HX5.out.new N6')
  have HT6 := Lib.hid (HR5'.out.new N6')
  have HQ6 := Lib.hid (HQ5'.out.new N6')
  clear r6 HX5 HR5' HQ5'
  generalize crcWith l = W at *
  refine hK.out _ _ (str11 HX6.out HT6.out HQ6.out) (fun _ => ?_)
  clear hK K
  try simp only [Act.put, List.setIfInBounds_toArray, List.set_cons_zero, List.set_cons_succ]
  (apply ordT_two; (simp only [List.getElem?_toArray, List.getElem?_cons_succ, List.getElem?_cons_zero]; rfl); rfl; (simp only [List.getElem?_toArray, List.getElem?_cons_succ, List.getElem?_cons_zero]; rfl); rfl)
  · intro K hK
    have ks := run_str (P := Try.prog) Try.underlying22 Try.underlying5 Try.underlying9 HR6.out
    go_simp
    clear ks
    refine hK.out _ _ (str11 HX6.out HT6.out HQ6.out) (fun _ => ?_)
    clear hK K
    try simp only [Act.put, List.setIfInBounds_toArray, List.set_cons_zero, List.set_cons_succ]
    (apply ordT_only; (simp only [List.getElem?_toArray, List.getElem?_cons_succ, List.getElem?_cons_zero]; rfl); rfl; intro K hK)
    go_simp
    refine (HRW.out w6).mono ?_
    rintro e w7 ⟨rfl, N7'⟩
    have N7 := N6.trans N7'
    refine hK.out _ _ (str11 (HX6.out.new N7') (HT6.out.new N7') (HQ6.out.new N7')) (fun _ => ?_)
    clear hK K
    try simp only [Act.put, List.setIfInBounds_toArray, List.set_cons_zero, List.set_cons_succ]
    iterate 13 (apply ordT_take; (simp only [List.getElem?_toArray, List.getElem?_cons_succ, List.getElem?_cons_zero]; rfl); rfl; (intro w hSw; (try dsimp only at hSw); go_simp; try with_reducible rfl); intro _; try simp only [Act.put, List.setIfInBounds_toArray, List.set_cons_zero, List.set_cons_succ])
    apply ordT_done
    go_wp2
    go_ret
    exact ⟨rfl, N7⟩
  · intro K hK
    go_simp
    refine (HRW.out w6).mono ?_
    rintro e w7 ⟨rfl, N7'⟩
    have N7 := N6.trans N7'
    have HR7 := Lib.hid (HR6.out.new N7')
    have HX7 := Lib.hid (HX6.out.new N7')
    have HT7 := Lib.hid (HT6.out.new N7')
    have HQ7 := Lib.hid (HQ6.out.new N7')
    refine hK.out _ _ (str11 HX7.out HT7.out HQ7.out) (fun _ => ?_)
    clear hK K
    try simp only [Act.put, List.setIfInBounds_toArray, List.set_cons_zero, List.set_cons_succ]
    (apply ordT_only; (simp only [List.getElem?_toArray, List.getElem?_cons_succ, List.getElem?_cons_zero]; rfl); rfl; intro K hK)
    have ks := run_str (P := Try.prog) Try.underlying22 Try.underlying5 Try.underlying9 HR7.out
    go_simp
    clear ks
    refine hK.out _ _ (str11 HX7.out HT7.out HQ7.out) (fun _ => ?_)
    clear hK K
    try simp only [Act.put, List.setIfInBounds_toArray, List.set_cons_zero, List.set_cons_succ]
    iterate 13 (apply ordT_take; (simp only [List.getElem?_toArray, List.getElem?_cons_succ, List.getElem?_cons_zero]; rfl); rfl; (intro w hSw; (try dsimp only at hSw); go_simp; try with_reducible rfl); intro _; try simp only [Act.put, List.setIfInBounds_toArray, List.set_cons_zero, List.set_cons_succ])
    apply ordT_done
    go_wp2
    go_ret
    exact ⟨rfl, N7⟩

end Go.Proofs.Ytimilldkmdmaiaa
