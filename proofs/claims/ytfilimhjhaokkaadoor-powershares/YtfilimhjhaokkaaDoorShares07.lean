/-
  PowerShares: the walk.
-/
import Derived.Test.YtfilimhjhaokkaaDoorLaw07
import Derived.Test.YtfilimhjhaokkaaDoorPowKey
import Derived.Test.YtfilimhjhaokkaaDoorBase
namespace Go.Proofs.YtfilimhjhaokkaaDoor
set_option linter.unusedVariables false
set_option linter.unusedSimpArgs false
open Go.RowKit

def Str7 (x : Value) (a : List UInt8) (w' : World) : Prop := (convert 22 9 x).run Tryd.prog w' = .ok (.string (bstr a)) w'

theorem str7 {w : World} {x : Value} {a : List UInt8} (h : Rd w x a) : Str7 x a w := run_str (P := Tryd.prog) Tryd.underlying22 Tryd.underlying5 Tryd.underlying9 h

/-- eight bytes in new memory -/
def Oct8 (w : World) (l : List UInt8) (e : Ending) (w' : World) : Prop := ∃ a c, e = .returned (.slice a 8 c) ∧ Rd w' (.slice a 8 c) l ∧ New w w'

theorem oct8 {w w' : World} {l : List UInt8} {e : Ending} (hl : l.length = 8) (h : OctTo w l e w') : Oct8 w l e w' := by
  obtain ⟨a, c, rfl, h1, -, h2⟩ := h
  rw [hl] at h1 ⊢
  exact ⟨a, c, rfl, h1, h2⟩

set_option maxRecDepth 100000 in
set_option maxHeartbeats 4000000 in
theorem sharesWalk (w : World) (x y : Value) (s t : List UInt8) (hx : Rd w x s) (hy : Rd w y t) (hL : Laid w) :
    Calls Tryd.prog 4 #[x, y] w fun e w' => e = .returned (.bool true) ∧ New w w' := by
  have hx' := hx
  have hy' := hy
  obtain ⟨ax, nx, cx, rfl, hax, hxc, hxm, -, -⟩ := hx'
  obtain ⟨ay, ny, cy, rfl, hay, hyc, hym, -, -⟩ := hy'
  have HX := Lib.hid hx
  have HY := Lib.hid hy
  have HL := Lib.hid hL
  clear hx hy hL
  unfold maxLen at hxm hym
  by_cases h1 : 200 < nx
  · have hd1 : decide ((200 : Int) < (nx : Int)) = true := by simp; omega
    clear hax hay
    go_enter Tryd.func4, Tryd.ntmps4
    go_wp2_with fail
    refine (awake07 w).mono ?_
    rintro e w1 ⟨rfl, N1⟩
    go_wp2_with fail
    refine (awake07 w1).mono ?_
    rintro e w2 ⟨rfl, N2⟩
    go_wp2
    go_ret
    exact ⟨rfl, New.trans N1 N2⟩
  have hd1 : decide ((200 : Int) < (nx : Int)) = false := by simp; omega
  by_cases h2 : 200 < ny
  · have hd2 : decide ((200 : Int) < (ny : Int)) = true := by simp; omega
    clear hax hay
    go_enter Tryd.func4, Tryd.ntmps4
    go_wp2_with fail
    refine (awake07 w).mono ?_
    rintro e w1 ⟨rfl, N1⟩
    go_wp2_with fail
    refine (awake07 w1).mono ?_
    rintro e w2 ⟨rfl, N2⟩
    go_wp2
    go_ret
    exact ⟨rfl, New.trans N1 N2⟩
  have hd2 : decide ((200 : Int) < (ny : Int)) = false := by simp; omega
  have hsl : s.length ≤ 1099511627776 := by omega
  have htl : t.length ≤ 1099511627776 := by omega
  clear hax hay
  have K1 : Hid (∀ wx, Rd wx (.slice ax nx cx) s → Laid wx → Calls Tryd.prog 6 #[.slice ax nx cx] wx fun e w' => e = .returned (.int .u64 (keyOfSec s : Int)) ∧ New wx w') := Lib.hid (fun wx h hl => powKey wx _ s h hsl hl)
  have K2 : Hid (∀ wx, Rd wx (.slice ay ny cy) t → Laid wx → Calls Tryd.prog 6 #[.slice ay ny cy] wx fun e w' => e = .returned (.int .u64 (keyOfSec t : Int)) ∧ New wx w') := Lib.hid (fun wx h hl => powKey wx _ t h htl hl)
  have hk1 := (keyOfSec_le s).2
  have hk2 := (keyOfSec_le t).2
  clear hsl htl
  generalize keyOfSec s = k1 at *
  generalize keyOfSec t = k2 at *
  have P1 := Lib.hid (fun wx => powPublic wx k1 (by omega))
  have P2 := Lib.hid (fun wx => powPublic wx k2 (by omega))
  have R2 := Lib.hid (fun wx => refPublic7 wx k2 (by omega))
  have l1 := powP_lt 3 k1
  have l2 := powP_lt 3 k2
  have S1 : Hid (∀ wx, Calls Tryd.prog 14 #[.int .u64 (k1 : Int), .int .u64 (powP 3 k2 : Int)] wx (Oct8 wx (be 8 (powP (powP 3 k2) k1)))) := Lib.hid (fun wx => (powShared wx k1 (powP 3 k2) (by omega) (by omega)).mono fun e w' h => oct8 (be_length _ _) h)
  have S2 : Hid (∀ wx, Calls Tryd.prog 14 #[.int .u64 (k2 : Int), .int .u64 (powP 3 k1 : Int)] wx (Oct8 wx (be 8 (powP (powP 3 k2) k1)))) := by
    refine Lib.hid (fun wx => ?_)
    have h := powShared wx k2 (powP 3 k1) (by omega) (by omega)
    rw [show powP (powP 3 k1) k2 = powP (powP 3 k2) k1 by rw [powP_mul, powP_mul, Nat.mul_comm]] at h
    exact h.mono fun e w' h => oct8 (be_length _ _) h
  have R3 := Lib.hid (fun wx => refShared7 wx k1 (powP 3 k2) (by omega) (by omega))
  have HL8 : Hid ((be 8 (powP (powP 3 k2) k1)).length = 8) := Lib.hid (be_length _ _)
  generalize be 8 (powP (powP 3 k2) k1) = l at *
  generalize powP 3 k1 = p1 at *
  generalize powP 3 k2 = p2 at *
  go_enter Tryd.func4, Tryd.ntmps4
  go_wp2_with fail
  refine (awake07 w).mono ?_
  rintro e w1 ⟨rfl, N1⟩
  go_wp2_with fail
  refine (K1.out w1 (HX.out.new N1) (HL.out.new N1)).mono ?_
  rintro e w2 ⟨rfl, N2⟩
  replace N2 := New.trans N1 N2
  go_wp2_with fail
  refine (K2.out w2 (HY.out.new N2) (HL.out.new N2)).mono ?_
  rintro e w3 ⟨rfl, N3⟩
  replace N3 := New.trans N2 N3
  go_wp2_with fail
  refine (P2.out w3).mono ?_
  rintro e w4 ⟨rfl, N4⟩
  replace N4 := New.trans N3 N4
  go_wp2_with fail
  refine (S1.out w4).mono ?_
  rintro e w5 ⟨a5, c5, rfl, r5, N5⟩
  replace N5 := New.trans N4 N5
  have HR5 := Lib.hid (r5.new (show New w5 w5.drew from (Below.refl _ _).drew))
  have N5w : New w w5.drew := N5.drew
  clear r5 N1 N2 N3 N4 N5
  go_wp2_with fail
  refine region_ord (Str7 (.slice a5 8 c5) l) [(0, true), (1, true), (2, true), (3, true), (4, false), (5, false), (6, false), (7, true), (8, true), (9, true), (10, true), (11, true), (12, true), (13, false), (14, false), (15, true), (16, true), (17, true)] (by kernel_rfl) (by kernel_rfl) (str7 HR5.out) (fun _ => ?_)
  generalize w5.drew = wd at *
  unfold Str7
  iterate 4 (apply ord_take; (simp only [List.getElem?_toArray, List.getElem?_cons_succ, List.getElem?_cons_zero]; rfl); rfl; (intro w hSw; (try dsimp only at hSw); go_simp; try with_reducible rfl); intro _; try simp only [Act.put, List.setIfInBounds_toArray, List.set_cons_zero, List.set_cons_succ])
  (apply ord_only; (simp only [List.getElem?_toArray, List.getElem?_cons_succ, List.getElem?_cons_zero]; rfl); rfl; intro K hK)
  go_simp
  refine (P1.out wd).mono ?_
  rintro e w6 ⟨rfl, N6⟩
  have HR6 := Lib.hid (HR5.out.new N6)
  have N6w := New.trans N5w N6
  refine hK.out _ _ (str7 HR6.out) (fun _ => ?_)
  clear hK K
  try simp only [Act.put, List.setIfInBounds_toArray, List.set_cons_zero, List.set_cons_succ]
  (apply ord_only; (simp only [List.getElem?_toArray, List.getElem?_cons_succ, List.getElem?_cons_zero]; rfl); rfl; intro K hK)
  go_simp
  refine (S2.out w6).mono ?_
  rintro e w7 ⟨a7, c7, rfl, r7, N7⟩
  have HR7 := Lib.hid (HR6.out.new N7)
  have HS7 := Lib.hid r7
  have N7w := New.trans N6w N7
  clear r7
  refine hK.out _ _ (str7 HR7.out) (fun _ => ?_)
  clear hK K
  try simp only [Act.put, List.setIfInBounds_toArray, List.set_cons_zero, List.set_cons_succ]
  (apply ord_only; (simp only [List.getElem?_toArray, List.getElem?_cons_succ, List.getElem?_cons_zero]; rfl); rfl; intro K hK)
  have ks := run_str (P := Tryd.prog) Tryd.underlying22 Tryd.underlying5 Tryd.underlying9 HS7.out
  go_simp
  refine hK.out _ _ (str7 HR7.out) (fun _ => ?_)
  clear hK K
  try simp only [Act.put, List.setIfInBounds_toArray, List.set_cons_zero, List.set_cons_succ]
  clear ks
  iterate 6 (apply ord_take; (simp only [List.getElem?_toArray, List.getElem?_cons_succ, List.getElem?_cons_zero]; rfl); rfl; (intro w hSw; (try dsimp only at hSw); go_simp; try with_reducible rfl); intro _; try simp only [Act.put, List.setIfInBounds_toArray, List.set_cons_zero, List.set_cons_succ])
  (apply ord_only; (simp only [List.getElem?_toArray, List.getElem?_cons_succ, List.getElem?_cons_zero]; rfl); rfl; intro K hK)
  go_simp
  refine (R2.out w7).mono ?_
  rintro e w8 ⟨rfl, rfl⟩
  refine hK.out _ _ (str7 HR7.out) (fun _ => ?_)
  clear hK K
  try simp only [Act.put, List.setIfInBounds_toArray, List.set_cons_zero, List.set_cons_succ]
  (apply ord_only; (simp only [List.getElem?_toArray, List.getElem?_cons_succ, List.getElem?_cons_zero]; rfl); rfl; intro K hK)
  go_simp
  refine (R3.out w7).mono ?_
  rintro e w9 ⟨rfl, N9⟩
  have HR9 := Lib.hid (HR7.out.new N9)
  refine hK.out _ _ (str7 HR9.out) (fun _ => ?_)
  clear hK K
  try simp only [Act.put, List.setIfInBounds_toArray, List.set_cons_zero, List.set_cons_succ]
  iterate 3 (apply ord_take; (simp only [List.getElem?_toArray, List.getElem?_cons_succ, List.getElem?_cons_zero]; rfl); rfl; (intro w hSw; (try dsimp only at hSw); go_simp; try with_reducible rfl); intro _; try simp only [Act.put, List.setIfInBounds_toArray, List.set_cons_zero, List.set_cons_succ])
  apply ord_done
  go_wp2
  go_ret
  exact ⟨rfl, New.trans N7w N9⟩

end Go.Proofs.YtfilimhjhaokkaaDoor
