/-
  CrcSums: the walk.
-/
import Derived.Test.YtimilldkmdmaiaaLaw11
import Derived.Test.YtimilldkmdmaiaaRefRest
import Derived.Test.YtimilldkmdmaiaaBase
namespace Go.Proofs.Ytimilldkmdmaiaa
set_option linter.unusedVariables false
set_option linter.unusedSimpArgs false
open Go.RowKit

theorem rd_from {w : World} {a : Option Addr} {m c : Nat} {r : List UInt8} (h : Rd w (.slice a m c) r) {k : Nat} (hk : k ≤ m) : Rd w (.slice (if c = k then a else a.map (fun x => x.add k)) (m - k) (c - k)) (r.drop k) := by
  by_cases e : c = k
  · rw [if_pos e]
    obtain ⟨a', n', c', e', h1, h2, h3, h4, h5⟩ := h
    cases e'
    rw [List.drop_of_length_le (by omega)]
    exact ⟨a, _, _, rfl, by simp; omega, by omega, by omega, fun hn => by omega, fun _ _ _ _ hh => by simp at hh⟩
  · rw [if_neg e]
    exact h.rest hk

theorem sumOf (W : World) (v : Value) (ps : List (Value × List UInt8)) (l : List UInt8) (h : RdL W v ps) (hl : allOf ps = l) : Calls Try.prog 8 #[v] W fun e w' => e = .returned (wv (crc l)) ∧ W = w' := by
  subst hl; exact crcSum W v ps h


set_option maxRecDepth 100000 in
set_option maxHeartbeats 2000000 in
theorem sumsWalk (w : World) (x : Value) (l : List UInt8) (hx : Rd w x l) (n : Int) (hn : (Lit.int .i64 n).wf = true) :
    Calls Try.prog 3 #[x, .int .i64 n] w fun e w' => e = .returned (.bool true) ∧ New w w' := by
  have HX := Lib.hid hx
  obtain ⟨ax, mx, cx, rfl, hax, hxc, hxm, -, -⟩ := hx
  unfold maxLen at hxm
  clear hn
  by_cases h1 : 1000 < mx
  · have hd1 : decide ((1000 : Int) < (mx : Int)) = true := by simp; omega
    clear hax
    go_enter Try.func3, Try.ntmps3
    go_wp2_with fail
    refine (awake11 w).mono ?_
    rintro e w1 ⟨rfl, N1⟩
    go_wp2_with fail
    refine (awake11 w1).mono ?_
    rintro e w2 ⟨rfl, N2⟩
    go_wp2
    go_ret
    exact ⟨rfl, New.trans N1 N2⟩
  have hd1 : decide ((1000 : Int) < (mx : Int)) = false := by simp; omega
  have hm0 : ((mx : Int) + 1) % 18446744073709551616 = (mx : Int) + 1 := by omega
  obtain ⟨k, hk, HK⟩ : ∃ k : Nat, k ≤ mx ∧ Hid (n % ((mx : Int) + 1) = (k : Int)) := by
    have e2 := Int.emod_nonneg n (b := (mx : Int) + 1) (by omega)
    have e3 := Int.emod_lt_of_pos n (b := (mx : Int) + 1) (by omega)
    exact ⟨(n % ((mx : Int) + 1)).toNat, by omega, Lib.hid (by omega)⟩
  go_enter Try.func3, Try.ntmps3
  go_wp2_with fail
  refine (awake11 w).mono ?_
  rintro e w1 ⟨rfl, N1⟩
  have ks := run_str (P := Try.prog) Try.underlying22 Try.underlying5 Try.underlying9 (HX.out.new N1)
  have HL := Lib.hid hax
  clear hax
  go_wp2_with fail
  refine (refRest2 w1 n ((mx : Int) + 1) (by omega) (by omega)).mono ?_
  rintro e w2 ⟨rfl, rfl⟩
  rw [HK.out]
  clear ks
  go_wp2_with fail
  have HX1 : Hid (Rd w1.drew (.slice ax mx cx) l) := Lib.hid (HX.out.new N1.drew)
  have N1d : New w w1.drew := N1.drew
  refine region_ordT (fun w' => (convert 22 9 (.slice ax mx cx)).run Try.prog w' = .ok (.string (bstr l)) w') (.take 0 (.take 3 (.only 1 (.only 2 (.only 4 (.take 5 (.take 6 (.take 7 (.take 8 (.take 9 (.take 10 (.take 11 (.take 12 (.take 15 (.two 13 16 (.two 14 16 (.only 16 (.only 17 (.take 18 (.take 19 (.take 20 (.take 21 (.take 22 (.take 23 (.take 24 (.take 25 (.take 26 .nil))))))))))) (.only 14 (.only 17 (.take 18 (.take 19 (.take 20 (.take 21 (.take 22 (.take 23 (.take 24 (.take 25 (.take 26 .nil)))))))))))) (.only 13 (.only 14 (.only 17 (.take 18 (.take 19 (.take 20 (.take 21 (.take 22 (.take 23 (.take 24 (.take 25 (.take 26 .nil))))))))))))))))))))))))))) (by kernel_rfl) (by kernel_rfl) (run_str (P := Try.prog) Try.underlying22 Try.underlying5 Try.underlying9 HX1.out) (fun _ => ?_)
  generalize w1.drew = wd at *
  iterate 2 (apply ordT_take; (simp only [List.getElem?_toArray, List.getElem?_cons_succ, List.getElem?_cons_zero]; rfl); rfl; (intro w hSw; (try dsimp only at hSw); go_simp; try with_reducible rfl); intro _; try simp only [Act.put, List.setIfInBounds_toArray, List.set_cons_zero, List.set_cons_succ])
  (apply ordT_only; (simp only [List.getElem?_toArray, List.getElem?_cons_succ, List.getElem?_cons_zero]; rfl); rfl; intro K hK)
  go_simp
  have Na : New wd (wd.alloc (.cells #[.slice ax mx cx] 22)) := (Below.refl _ _).alloc (Nat.le_refl _) _
  have HS1 := Lib.hid (crcSum1 wd _ _ l rfl HX1.out)
  refine hK.out _ _ (run_str (P := Try.prog) Try.underlying22 Try.underlying5 Try.underlying9 (HX1.out.new Na)) (fun _ => ?_)
  clear hK K
  try simp only [Act.put, List.setIfInBounds_toArray, List.set_cons_zero, List.set_cons_succ]
  (apply ordT_only; (simp only [List.getElem?_toArray, List.getElem?_cons_succ, List.getElem?_cons_zero]; rfl); rfl; intro K hK)
  go_simp
  refine HS1.out.mono ?_
  rintro e w2 ⟨rfl, rfl⟩
  have N2 := N1d.trans Na
  have HX2 := Lib.hid (HX1.out.new Na)
  clear HS1 N1d
  generalize World.alloc wd _ = w2 at *
  refine hK.out _ _ (run_str (P := Try.prog) Try.underlying22 Try.underlying5 Try.underlying9 HX2.out) (fun _ => ?_)
  clear hK K
  try simp only [Act.put, List.setIfInBounds_toArray, List.set_cons_zero, List.set_cons_succ]
  (apply ordT_only; (simp only [List.getElem?_toArray, List.getElem?_cons_succ, List.getElem?_cons_zero]; rfl); rfl; intro K hK)
  go_simp
  refine (refSum11 w2 l (by rw [HL.out]; omega)).mono ?_
  rintro e w3 ⟨rfl, rfl⟩
  refine hK.out _ _ (run_str (P := Try.prog) Try.underlying22 Try.underlying5 Try.underlying9 HX2.out) (fun _ => ?_)
  clear hK K
  try simp only [Act.put, List.setIfInBounds_toArray, List.set_cons_zero, List.set_cons_succ]
  have hkc : k ≤ cx := by omega
  iterate 9 (apply ordT_take; (simp only [List.getElem?_toArray, List.getElem?_cons_succ, List.getElem?_cons_zero]; rfl); rfl; (intro w hSw; (try dsimp only at hSw); go_simp; try with_reducible rfl); intro _; try simp only [Act.put, List.setIfInBounds_toArray, List.set_cons_zero, List.set_cons_succ])
  have r1 : Rd w2 (.slice ax k cx) (l.take k) := HX2.out.cut hk hkc (Nat.le_refl _)
  have r3 := rd_from HX2.out hk
  have HA3 : Hid (allOf [(.slice ax k cx, l.take k), (.slice none 0 0, []), (.slice (if cx = k then ax else ax.map (fun x => x.add k)) (mx - k) (cx - k), l.drop k)] = l) := by show _ = _; simp [allOf]
  have HD3 := Lib.hid (rdl_three w2 _ _ _ _ _ _ 22 r1 (Rd.nil w2) r3)
  have HD1 := Lib.hid (rdl_one w2 _ _ 22 HX2.out)
  have HA1 : Hid (allOf [(.slice ax mx cx, l)] = l) := by show _ = _; simp [allOf]
  have kb : ((bstr l).toList == (bstr l).toList) = true := by simp
  have HR1 := Lib.hid r1
  have HR3 := Lib.hid r3
  clear r1 r3
  generalize (if cx = k then ax else ax.map (fun x => x.add k)) = a3 at *
  (apply ordT_two; (simp only [List.getElem?_toArray, List.getElem?_cons_succ, List.getElem?_cons_zero]; rfl); rfl; (simp only [List.getElem?_toArray, List.getElem?_cons_succ, List.getElem?_cons_zero]; rfl); rfl)
  · intro K hK
    go_simp
    have Nc : New w2 (w2.alloc (.cells #[.slice ax k cx, .slice none 0 0, .slice a3 (mx - k) (cx - k)] 22)) := (Below.refl _ _).alloc (Nat.le_refl _) _
    have N3 := N2.trans Nc
    have HX3 := Lib.hid (HX2.out.new Nc)
    generalize w2.alloc (.cells #[.slice ax k cx, .slice none 0 0, .slice a3 (mx - k) (cx - k)] 22) = w3 at *
    refine hK.out _ _ (run_str (P := Try.prog) Try.underlying22 Try.underlying5 Try.underlying9 HX3.out) (fun _ => ?_)
    clear hK K
    try simp only [Act.put, List.setIfInBounds_toArray, List.set_cons_zero, List.set_cons_succ]
    (apply ordT_two; (simp only [List.getElem?_toArray, List.getElem?_cons_succ, List.getElem?_cons_zero]; rfl); rfl; (simp only [List.getElem?_toArray, List.getElem?_cons_succ, List.getElem?_cons_zero]; rfl); rfl)
    · intro K hK
      go_simp
      refine (sumOf w3 _ _ l HD3.out HA3.out).mono ?_
      rintro e w4 ⟨rfl, rfl⟩
      refine hK.out _ _ (run_str (P := Try.prog) Try.underlying22 Try.underlying5 Try.underlying9 HX3.out) (fun _ => ?_)
      clear hK K
      try simp only [Act.put, List.setIfInBounds_toArray, List.set_cons_zero, List.set_cons_succ]
      (apply ordT_only; (simp only [List.getElem?_toArray, List.getElem?_cons_succ, List.getElem?_cons_zero]; rfl); rfl; intro K hK)
      go_simp
      have Nd : New w3 (w3.alloc (.cells #[.slice ax mx cx] 22)) := (Below.refl _ _).alloc (Nat.le_refl _) _
      have HX4 := Lib.hid (HX3.out.new Nd)
      have HS := Lib.hid (crcSum1 w3 _ _ l rfl HX3.out)
      have N4 := N3.trans Nd
      refine hK.out _ _ (run_str (P := Try.prog) Try.underlying22 Try.underlying5 Try.underlying9 HX4.out) (fun _ => ?_)
      clear hK K
      try simp only [Act.put, List.setIfInBounds_toArray, List.set_cons_zero, List.set_cons_succ]
      (apply ordT_only; (simp only [List.getElem?_toArray, List.getElem?_cons_succ, List.getElem?_cons_zero]; rfl); rfl; intro K hK)
      go_simp
      refine HS.out.mono ?_
      rintro e w5 ⟨rfl, rfl⟩
      refine hK.out _ _ (run_str (P := Try.prog) Try.underlying22 Try.underlying5 Try.underlying9 HX4.out) (fun _ => ?_)
      clear hK K
      try simp only [Act.put, List.setIfInBounds_toArray, List.set_cons_zero, List.set_cons_succ]
      iterate 9 (apply ordT_take; (simp only [List.getElem?_toArray, List.getElem?_cons_succ, List.getElem?_cons_zero]; rfl); rfl; (intro w hSw; (try dsimp only at hSw); go_simp; try with_reducible rfl); intro _; try simp only [Act.put, List.setIfInBounds_toArray, List.set_cons_zero, List.set_cons_succ])
      apply ordT_done
      go_wp2
      go_ret
      exact ⟨rfl, N4⟩
    · intro K hK
      go_simp
      have Nd : New w3 (w3.alloc (.cells #[.slice ax mx cx] 22)) := (Below.refl _ _).alloc (Nat.le_refl _) _
      have HX4 := Lib.hid (HX3.out.new Nd)
      have HS := Lib.hid (crcSum1 w3 _ _ l rfl HX3.out)
      have N4 := N3.trans Nd
      refine hK.out _ _ (run_str (P := Try.prog) Try.underlying22 Try.underlying5 Try.underlying9 HX4.out) (fun _ => ?_)
      clear hK K
      try simp only [Act.put, List.setIfInBounds_toArray, List.set_cons_zero, List.set_cons_succ]
      (apply ordT_only; (simp only [List.getElem?_toArray, List.getElem?_cons_succ, List.getElem?_cons_zero]; rfl); rfl; intro K hK)
      go_simp
      refine (sumOf _ _ _ l (HD3.out.new Nd) HA3.out).mono ?_
      rintro e w4 ⟨rfl, rfl⟩
      refine hK.out _ _ (run_str (P := Try.prog) Try.underlying22 Try.underlying5 Try.underlying9 HX4.out) (fun _ => ?_)
      clear hK K
      try simp only [Act.put, List.setIfInBounds_toArray, List.set_cons_zero, List.set_cons_succ]
      (apply ordT_only; (simp only [List.getElem?_toArray, List.getElem?_cons_succ, List.getElem?_cons_zero]; rfl); rfl; intro K hK)
      go_simp
      refine HS.out.mono ?_
      rintro e w5 ⟨rfl, rfl⟩
      refine hK.out _ _ (run_str (P := Try.prog) Try.underlying22 Try.underlying5 Try.underlying9 HX4.out) (fun _ => ?_)
      clear hK K
      try simp only [Act.put, List.setIfInBounds_toArray, List.set_cons_zero, List.set_cons_succ]
      iterate 9 (apply ordT_take; (simp only [List.getElem?_toArray, List.getElem?_cons_succ, List.getElem?_cons_zero]; rfl); rfl; (intro w hSw; (try dsimp only at hSw); go_simp; try with_reducible rfl); intro _; try simp only [Act.put, List.setIfInBounds_toArray, List.set_cons_zero, List.set_cons_succ])
      apply ordT_done
      go_wp2
      go_ret
      exact ⟨rfl, N4⟩
  · intro K hK
    go_simp
    have Nc : New w2 (w2.alloc (.cells #[.slice ax mx cx] 22)) := (Below.refl _ _).alloc (Nat.le_refl _) _
    have N3 := N2.trans Nc
    have HX3 := Lib.hid (HX2.out.new Nc)
    have HD3' := Lib.hid (rdl_three _ _ _ _ _ _ _ 22 (HR1.out.new Nc) (Rd.nil _) (HR3.out.new Nc))
    generalize w2.alloc (.cells #[.slice ax mx cx] 22) = w3 at *
    refine hK.out _ _ (run_str (P := Try.prog) Try.underlying22 Try.underlying5 Try.underlying9 HX3.out) (fun _ => ?_)
    clear hK K
    try simp only [Act.put, List.setIfInBounds_toArray, List.set_cons_zero, List.set_cons_succ]
    (apply ordT_only; (simp only [List.getElem?_toArray, List.getElem?_cons_succ, List.getElem?_cons_zero]; rfl); rfl; intro K hK)
    go_simp
    have Nd : New w3 (w3.alloc (.cells #[.slice ax k cx, .slice none 0 0, .slice a3 (mx - k) (cx - k)] 22)) := (Below.refl _ _).alloc (Nat.le_refl _) _
    have HX4 := Lib.hid (HX3.out.new Nd)
    have N4 := N3.trans Nd
    refine hK.out _ _ (run_str (P := Try.prog) Try.underlying22 Try.underlying5 Try.underlying9 HX4.out) (fun _ => ?_)
    clear hK K
    try simp only [Act.put, List.setIfInBounds_toArray, List.set_cons_zero, List.set_cons_succ]
    (apply ordT_only; (simp only [List.getElem?_toArray, List.getElem?_cons_succ, List.getElem?_cons_zero]; rfl); rfl; intro K hK)
    go_simp
    refine (sumOf _ _ _ l HD3'.out HA3.out).mono ?_
    rintro e w4 ⟨rfl, rfl⟩
    refine hK.out _ _ (run_str (P := Try.prog) Try.underlying22 Try.underlying5 Try.underlying9 HX4.out) (fun _ => ?_)
    clear hK K
    try simp only [Act.put, List.setIfInBounds_toArray, List.set_cons_zero, List.set_cons_succ]
    (apply ordT_only; (simp only [List.getElem?_toArray, List.getElem?_cons_succ, List.getElem?_cons_zero]; rfl); rfl; intro K hK)
    go_simp
    refine (sumOf _ _ _ l (HD1.out.new Nd) HA1.out).mono ?_
    rintro e w5 ⟨rfl, rfl⟩
    refine hK.out _ _ (run_str (P := Try.prog) Try.underlying22 Try.underlying5 Try.underlying9 HX4.out) (fun _ => ?_)
    clear hK K
    try simp only [Act.put, List.setIfInBounds_toArray, List.set_cons_zero, List.set_cons_succ]
    iterate 9 (apply ordT_take; (simp only [List.getElem?_toArray, List.getElem?_cons_succ, List.getElem?_cons_zero]; rfl); rfl; (intro w hSw; (try dsimp only at hSw); go_simp; try with_reducible rfl); intro _; try simp only [Act.put, List.setIfInBounds_toArray, List.set_cons_zero, List.set_cons_succ])
    apply ordT_done
    go_wp2
    go_ret
    exact ⟨rfl, N4⟩

end Go.Proofs.Ytimilldkmdmaiaa
