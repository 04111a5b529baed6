/-
  ShaSums: the walk.
-/
import Derived.Test.YtcdmomkljgoafaaDoorLaw02
import Derived.Test.YtcdmomkljgoafaaDoorOrd2
namespace Go.Proofs.YtcdmomkljgoafaaDoor
set_option linter.unusedVariables false
set_option linter.unusedSimpArgs false
open Go.RowKit

/-- the contract of the reference's Sum -/
def RefSumOk : Prop := ∀ (w : World) (l : List UInt8), l.length ≤ 1099511627776 → Calls Tryd.prog 8 #[.string (bstr l)] w fun e w' => e = .returned (.string (bstr (sha256 l))) ∧ New w w'

set_option maxRecDepth 100000 in
set_option maxHeartbeats 1000000 in
theorem sumsWalk (hR : RefSumOk) (w : World) (x : Value) (b : List UInt8) (hx : Rd w x b) (hL : Laid w) :
    Calls Tryd.prog 3 #[x] w fun e w' => e = .returned (.bool true) ∧ New w w' := by
  have hx' := hx
  obtain ⟨ax, nx, cx, rfl, hax, hxc, hxm, _, _⟩ := hx'
  have HA := Lib.hid hax
  have HX := Lib.hid hx
  have HL := Lib.hid hL
  have HR := Lib.hid hR
  clear hax hx hL hR
  unfold maxLen at hxm
  by_cases h1 : nx ≤ 1000
  · have hd : decide ((1000 : Int) < (nx : Int)) = false := by simp; omega
    go_enter Tryd.func3, Tryd.ntmps3
    go_wp2_with fail
    refine (awake02 w HL.out).mono ?_
    rintro e w1 ⟨rfl, hn1⟩
    have hr1 := HX.out.new hn1
    have ks1 := run_str (P := Tryd.prog) Tryd.underlying22 Tryd.underlying5 Tryd.underlying9 hr1
    have hbl : b.length ≤ 1099511627776 := by rw [HA.out]; omega
    go_wp2_with fail
    have hS0 : (convert 22 9 (.slice ax nx cx)).run Tryd.prog w1.drew = .ok (.string (bstr b)) w1.drew := run_str (P := Tryd.prog) Tryd.underlying22 Tryd.underlying5 Tryd.underlying9 (w := w1.drew) hr1
    have HN1 := Lib.hid (hn1.drew : New w w1.drew)
    have HR1 : Hid (Rd w1.drew (.slice ax nx cx) b) := hr1
    clear ks1 hr1 hn1
    refine region_ordT (fun w' => (convert 22 9 (.slice ax nx cx)).run Tryd.prog w' = .ok (.string (bstr b)) w') (.take 0 (.take 4 (.only 1 (.only 2 (.two 3 5 (.only 5 (.take 6 (.take 7 (.take 8 (.take 9 (.take 10 (.take 11 (.take 12 (.take 13 .nil))))))))) (.only 3 (.take 6 (.take 7 (.take 8 (.take 9 (.take 10 (.take 11 (.take 12 (.take 13 .nil)))))))))))))) (by kernel_rfl) (by kernel_rfl) hS0 (fun _ => ?_)
    have HL1 := Lib.hid (HL.out.new HN1.out)
    generalize w1.drew = wd at *
    iterate 2 (apply ordT_take; (simp only [List.getElem?_toArray, List.getElem?_cons_succ, List.getElem?_cons_zero]; rfl); rfl; (intro w hSw; (try dsimp only at hSw); go_simp; try with_reducible rfl); intro _; try simp only [Act.put, List.setIfInBounds_toArray, List.set_cons_zero, List.set_cons_succ])
    (apply ordT_only; (simp only [List.getElem?_toArray, List.getElem?_cons_succ, List.getElem?_cons_zero]; rfl); rfl; intro K hK)
    go_simp
    have q1 : Rd (wd.alloc (.cells #[.slice ax nx cx] 22)) (.slice ax nx cx) b := HR1.out.new ((Below.refl _ _).alloc (Nat.le_refl _) _)
    refine hK.out _ _ (run_str (P := Tryd.prog) Tryd.underlying22 Tryd.underlying5 Tryd.underlying9 q1) (fun _ => ?_)
    clear hK K
    try simp only [Act.put, List.setIfInBounds_toArray, List.set_cons_zero, List.set_cons_succ]
    clear q1
    (apply ordT_only; (simp only [List.getElem?_toArray, List.getElem?_cons_succ, List.getElem?_cons_zero]; rfl); rfl; intro K hK)
    go_simp
    refine (sum1 wd _ (.slice ax nx cx) b rfl HR1.out hbl HL1.out).mono ?_
    rintro e w2 ⟨a2, n2, c2, rfl, r2, rfl, Nn⟩
    have q2 : Rd w2 (.slice ax nx cx) b := HR1.out.new Nn
    refine hK.out _ _ (run_str (P := Tryd.prog) Tryd.underlying22 Tryd.underlying5 Tryd.underlying9 q2) (fun _ => ?_)
    clear hK K
    try simp only [Act.put, List.setIfInBounds_toArray, List.set_cons_zero, List.set_cons_succ]
    (apply ordT_two; (simp only [List.getElem?_toArray, List.getElem?_cons_succ, List.getElem?_cons_zero]; rfl); rfl; (simp only [List.getElem?_toArray, List.getElem?_cons_succ, List.getElem?_cons_zero]; rfl); rfl)
    · intro K hK
      have ks := run_str (P := Tryd.prog) Tryd.underlying22 Tryd.underlying5 Tryd.underlying9 r2
      go_simp
      refine hK.out _ _ (run_str (P := Tryd.prog) Tryd.underlying22 Tryd.underlying5 Tryd.underlying9 q2) (fun _ => ?_)
      clear hK K
      try simp only [Act.put, List.setIfInBounds_toArray, List.set_cons_zero, List.set_cons_succ]
      clear ks
      (apply ordT_only; (simp only [List.getElem?_toArray, List.getElem?_cons_succ, List.getElem?_cons_zero]; rfl); rfl; intro K hK)
      go_simp
      refine (HR.out w2 b hbl).mono ?_
      rintro e w3 ⟨rfl, N3⟩
      have q3 := q2.new N3
      refine hK.out _ _ (run_str (P := Tryd.prog) Tryd.underlying22 Tryd.underlying5 Tryd.underlying9 q3) (fun _ => ?_)
      clear hK K
      try simp only [Act.put, List.setIfInBounds_toArray, List.set_cons_zero, List.set_cons_succ]
      iterate 8 (apply ordT_take; (simp only [List.getElem?_toArray, List.getElem?_cons_succ, List.getElem?_cons_zero]; rfl); rfl; (intro w hSw; (try dsimp only at hSw); go_simp; try with_reducible rfl); intro _; try simp only [Act.put, List.setIfInBounds_toArray, List.set_cons_zero, List.set_cons_succ])
      apply ordT_done
      go_wp2
      go_ret
      exact ⟨rfl, New.trans (New.trans HN1.out Nn) N3⟩
    · intro K hK
      go_simp
      refine (HR.out w2 b hbl).mono ?_
      rintro e w3 ⟨rfl, N3⟩
      have q3 := q2.new N3
      have r3 := r2.new N3
      refine hK.out _ _ (run_str (P := Tryd.prog) Tryd.underlying22 Tryd.underlying5 Tryd.underlying9 q3) (fun _ => ?_)
      clear hK K
      try simp only [Act.put, List.setIfInBounds_toArray, List.set_cons_zero, List.set_cons_succ]
      (apply ordT_only; (simp only [List.getElem?_toArray, List.getElem?_cons_succ, List.getElem?_cons_zero]; rfl); rfl; intro K hK)
      have ks := run_str (P := Tryd.prog) Tryd.underlying22 Tryd.underlying5 Tryd.underlying9 r3
      go_simp
      refine hK.out _ _ (run_str (P := Tryd.prog) Tryd.underlying22 Tryd.underlying5 Tryd.underlying9 q3) (fun _ => ?_)
      clear hK K
      try simp only [Act.put, List.setIfInBounds_toArray, List.set_cons_zero, List.set_cons_succ]
      clear ks
      iterate 8 (apply ordT_take; (simp only [List.getElem?_toArray, List.getElem?_cons_succ, List.getElem?_cons_zero]; rfl); rfl; (intro w hSw; (try dsimp only at hSw); go_simp; try with_reducible rfl); intro _; try simp only [Act.put, List.setIfInBounds_toArray, List.set_cons_zero, List.set_cons_succ])
      apply ordT_done
      go_wp2
      go_ret
      exact ⟨rfl, New.trans (New.trans HN1.out Nn) N3⟩
  · have hd : decide ((1000 : Int) < (nx : Int)) = true := by simp; omega
    go_enter Tryd.func3, Tryd.ntmps3
    go_wp2_with fail
    refine (awake02 w HL.out).mono ?_
    rintro e w1 ⟨rfl, hn1⟩
    go_wp2_with fail
    refine (awake02 w1 (HL.out.new hn1)).mono ?_
    rintro e w2 ⟨rfl, hn2⟩
    go_wp2
    go_ret
    exact ⟨rfl, New.trans hn1 hn2⟩

end Go.Proofs.YtcdmomkljgoafaaDoor
