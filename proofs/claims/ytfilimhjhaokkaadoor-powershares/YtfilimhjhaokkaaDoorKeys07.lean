/-
  PowerKeys: the walk.
-/
import Derived.Test.YtfilimhjhaokkaaDoorShares07
namespace Go.Proofs.YtfilimhjhaokkaaDoor
set_option linter.unusedVariables false
set_option linter.unusedSimpArgs false
open Go.RowKit

set_option maxRecDepth 100000 in
set_option maxHeartbeats 4000000 in
theorem keysWalk (w : World) (x : Value) (s : List UInt8) (n : Nat) (hn : n < 18446744073709551616) (hx : Rd w x s) (hL : Laid w) :
    Calls Tryd.prog 3 #[x, .int .u64 (n : Int)] w fun e w' => e = .returned (.bool true) ∧ New w w' := by
  have hx' := hx
  obtain ⟨ax, nx, cx, rfl, hax, hxc, hxm, -, -⟩ := hx'
  have HX := Lib.hid hx
  have HL := Lib.hid hL
  clear hx hL
  unfold maxLen at hxm
  by_cases h1 : 200 < nx
  · have hd1 : decide ((200 : Int) < (nx : Int)) = true := by simp; omega
    clear hax
    go_enter Tryd.func3, Tryd.ntmps3
    go_wp2_with fail
    refine (awake07 w).mono ?_
    rintro e w1 ⟨rfl, N1⟩
    go_wp2_with fail
    refine (awake07 w1).mono ?_
    rintro e w2 ⟨rfl, N2⟩
    go_wp2
    go_ret
    exact ⟨rfl, New.trans N1 N2⟩
  have hd1 : decide ((200 : Int) < (nx : Int)) = false := by simp; omega
  have hsl : s.length ≤ 1099511627776 := by omega
  clear hax
  have K1 : Hid (∀ wx, Rd wx (.slice ax nx cx) s → Laid wx → Calls Tryd.prog 6 #[.slice ax nx cx] wx fun e w' => e = .returned (.int .u64 (keyOfSec s : Int)) ∧ New wx w') := Lib.hid (fun wx h hl => powKey wx _ s h hsl hl)
  have R1 := Lib.hid (fun wx => refKey7 wx s hsl)
  obtain ⟨hk0, hk1⟩ := keyOfSec_le s
  clear hsl
  generalize keyOfSec s = k at *
  have P1 := Lib.hid (fun wx => powPublic wx k (by omega))
  have R2 := Lib.hid (fun wx => refPublic7 wx k (by omega))
  generalize powP 3 k = p at *
  have P3 := Lib.hid (fun wx => powRight wx n hn)
  have R3 := Lib.hid (fun wx => refRight7 wx n hn)
  generalize rightP n = rb at *
  have P4 : Hid (∀ wx, Calls Tryd.prog 12 #[.int .u64 (n : Int)] wx (Oct8 wx (be 8 n))) := Lib.hid (fun wx => (powOctets wx n hn).mono fun e w' h => oct8 (be_length _ _) h)
  have R4 := Lib.hid (fun wx => refOctets7 wx n hn)
  generalize be 8 n = l at *
  have hk0' : 1 ≤ (k : Int) := by omega
  have hk1' : (k : Int) ≤ 2305843009213693949 := by omega
  clear hk0 hk1
  go_enter Tryd.func3, Tryd.ntmps3
  go_wp2_with fail
  refine (awake07 w).mono ?_
  rintro e w1 ⟨rfl, N1⟩
  go_wp2_with fail
  refine (K1.out w1 (HX.out.new N1) (HL.out.new N1)).mono ?_
  rintro e w2 ⟨rfl, N2⟩
  replace N2 := New.trans N1 N2
  go_wp2_with fail
  refine (P1.out w2).mono ?_
  rintro e w3 ⟨rfl, N3⟩
  replace N3 := New.trans N2 N3
  have N3w : New w w3.drew := N3.drew
  have HR3 := Lib.hid (HX.out.new N3w)
  clear N1 N2 N3
  go_wp2_with fail
  refine region_ordT (Str7 (.slice ax nx cx) s) (.take 0 (.take 1 (.take 2 (.only 3 (.take 4 (.take 5 (.take 6 (.take 7 (.take 8 (.take 9 (.take 10 (.take 11 (.take 12 (.take 13 (.take 14 (.take 15 (.only 16 (.take 17 (.take 18 (.take 19 (.take 20 (.take 22 (.only 21 (.only 23 (.take 24 (.take 25 (.take 26 (.take 27 (.take 30 (.only 28 (.two 29 31 (.only 31 (.take 32 (.take 33 (.take 34 .nil)))) (.only 29 (.take 32 (.take 33 (.take 34 .nil))))))))))))))))))))))))))))))))))) (by kernel_rfl) (by kernel_rfl) (str7 HR3.out) (fun _ => ?_)
  generalize w3.drew = wd at *
  unfold Str7
  iterate 3 (apply ordT_take; (simp only [List.getElem?_toArray, List.getElem?_cons_succ, List.getElem?_cons_zero]; rfl); rfl; (intro w hSw; (try dsimp only at hSw); go_simp; try with_reducible rfl); intro _; try simp only [Act.put, List.setIfInBounds_toArray, List.set_cons_zero, List.set_cons_succ])
  (apply ordT_only; (simp only [List.getElem?_toArray, List.getElem?_cons_succ, List.getElem?_cons_zero]; rfl); rfl; intro K hK)
  go_simp
  refine (R1.out wd).mono ?_
  rintro e w4 ⟨rfl, N4⟩
  have HR4 := Lib.hid (HR3.out.new N4)
  have N4w := New.trans N3w N4
  refine hK.out _ _ (str7 HR4.out) (fun _ => ?_)
  clear hK K
  try simp only [Act.put, List.setIfInBounds_toArray, List.set_cons_zero, List.set_cons_succ]
  iterate 12 (apply ordT_take; (simp only [List.getElem?_toArray, List.getElem?_cons_succ, List.getElem?_cons_zero]; rfl); rfl; (intro w hSw; (try dsimp only at hSw); go_simp; try with_reducible rfl); intro _; try simp only [Act.put, List.setIfInBounds_toArray, List.set_cons_zero, List.set_cons_succ])
  (apply ordT_only; (simp only [List.getElem?_toArray, List.getElem?_cons_succ, List.getElem?_cons_zero]; rfl); rfl; intro K hK)
  go_simp
  refine (R2.out w4).mono ?_
  rintro e w5 ⟨rfl, rfl⟩
  refine hK.out _ _ (str7 HR4.out) (fun _ => ?_)
  clear hK K
  try simp only [Act.put, List.setIfInBounds_toArray, List.set_cons_zero, List.set_cons_succ]
  iterate 5 (apply ordT_take; (simp only [List.getElem?_toArray, List.getElem?_cons_succ, List.getElem?_cons_zero]; rfl); rfl; (intro w hSw; (try dsimp only at hSw); go_simp; try with_reducible rfl); intro _; try simp only [Act.put, List.setIfInBounds_toArray, List.set_cons_zero, List.set_cons_succ])
  (apply ordT_only; (simp only [List.getElem?_toArray, List.getElem?_cons_succ, List.getElem?_cons_zero]; rfl); rfl; intro K hK)
  go_simp
  refine (P3.out w4).mono ?_
  rintro e w5 ⟨rfl, rfl⟩
  refine hK.out _ _ (str7 HR4.out) (fun _ => ?_)
  clear hK K
  try simp only [Act.put, List.setIfInBounds_toArray, List.set_cons_zero, List.set_cons_succ]
  (apply ordT_only; (simp only [List.getElem?_toArray, List.getElem?_cons_succ, List.getElem?_cons_zero]; rfl); rfl; intro K hK)
  go_simp
  refine (R3.out w4).mono ?_
  rintro e w5 ⟨rfl, rfl⟩
  refine hK.out _ _ (str7 HR4.out) (fun _ => ?_)
  clear hK K
  try simp only [Act.put, List.setIfInBounds_toArray, List.set_cons_zero, List.set_cons_succ]
  iterate 5 (apply ordT_take; (simp only [List.getElem?_toArray, List.getElem?_cons_succ, List.getElem?_cons_zero]; rfl); rfl; (intro w hSw; (try dsimp only at hSw); go_simp; try with_reducible rfl); intro _; try simp only [Act.put, List.setIfInBounds_toArray, List.set_cons_zero, List.set_cons_succ])
  (apply ordT_only; (simp only [List.getElem?_toArray, List.getElem?_cons_succ, List.getElem?_cons_zero]; rfl); rfl; intro K hK)
  go_simp
  refine (P4.out w4).mono ?_
  rintro e w6 ⟨a6, c6, rfl, r6, N6⟩
  have HR6 := Lib.hid (HR4.out.new N6)
  have HS6 := Lib.hid r6
  have N6w := New.trans N4w N6
  clear r6
  refine hK.out _ _ (str7 HR6.out) (fun _ => ?_)
  clear hK K
  try simp only [Act.put, List.setIfInBounds_toArray, List.set_cons_zero, List.set_cons_succ]
  (apply ordT_two; (simp only [List.getElem?_toArray, List.getElem?_cons_succ, List.getElem?_cons_zero]; rfl); rfl; (simp only [List.getElem?_toArray, List.getElem?_cons_succ, List.getElem?_cons_zero]; rfl); rfl)
  · intro K hK
    have ks := run_str (P := Tryd.prog) Tryd.underlying22 Tryd.underlying5 Tryd.underlying9 HS6.out
    go_simp
    refine hK.out _ _ (str7 HR6.out) (fun _ => ?_)
    clear hK K
    try simp only [Act.put, List.setIfInBounds_toArray, List.set_cons_zero, List.set_cons_succ]
    clear ks
    (apply ordT_only; (simp only [List.getElem?_toArray, List.getElem?_cons_succ, List.getElem?_cons_zero]; rfl); rfl; intro K hK)
    go_simp
    refine (R4.out w6).mono ?_
    rintro e w7 ⟨rfl, N7⟩
    have HR7 := Lib.hid (HR6.out.new N7)
    refine hK.out _ _ (str7 HR7.out) (fun _ => ?_)
    clear hK K
    try simp only [Act.put, List.setIfInBounds_toArray, List.set_cons_zero, List.set_cons_succ]
    iterate 3 (apply ordT_take; (simp only [List.getElem?_toArray, List.getElem?_cons_succ, List.getElem?_cons_zero]; rfl); rfl; (intro w hSw; (try dsimp only at hSw); go_simp; try with_reducible rfl); intro _; try simp only [Act.put, List.setIfInBounds_toArray, List.set_cons_zero, List.set_cons_succ])
    apply ordT_done
    go_wp2
    go_ret
    exact ⟨rfl, New.trans N6w N7⟩
  · intro K hK
    go_simp
    refine (R4.out w6).mono ?_
    rintro e w7 ⟨rfl, N7⟩
    have HR7 := Lib.hid (HR6.out.new N7)
    have r7 := HS6.out.new N7
    refine hK.out _ _ (str7 HR7.out) (fun _ => ?_)
    clear hK K
    try simp only [Act.put, List.setIfInBounds_toArray, List.set_cons_zero, List.set_cons_succ]
    (apply ordT_only; (simp only [List.getElem?_toArray, List.getElem?_cons_succ, List.getElem?_cons_zero]; rfl); rfl; intro K hK)
    have ks := run_str (P := Tryd.prog) Tryd.underlying22 Tryd.underlying5 Tryd.underlying9 r7
    clear r7
    go_simp
    refine hK.out _ _ (str7 HR7.out) (fun _ => ?_)
    clear hK K
    try simp only [Act.put, List.setIfInBounds_toArray, List.set_cons_zero, List.set_cons_succ]
    clear ks
    iterate 3 (apply ordT_take; (simp only [List.getElem?_toArray, List.getElem?_cons_succ, List.getElem?_cons_zero]; rfl); rfl; (intro w hSw; (try dsimp only at hSw); go_simp; try with_reducible rfl); intro _; try simp only [Act.put, List.setIfInBounds_toArray, List.set_cons_zero, List.set_cons_succ])
    apply ordT_done
    go_wp2
    go_ret
    exact ⟨rfl, New.trans N6w N7⟩

end Go.Proofs.YtfilimhjhaokkaaDoor
