/-
  KdfPrefixes: the walk.
-/
import Derived.Test.YtofceheipabeaaaDoorExpands04
namespace Go.Proofs.YtofceheipabeaaaDoor
set_option linter.unusedVariables false
set_option linter.unusedSimpArgs false
open Go.RowKit

set_option maxRecDepth 100000 in
set_option maxHeartbeats 4000000 in
theorem prefixesWalk (w : World) (x y : Value) (s i : List UInt8) (n m : Nat) (hn : n ≤ 255) (hm : m ≤ 255) (hx : Rd w x s) (hy : Rd w y i) (hL : Laid w) :
    Calls Tryd.prog 5 #[x, y, .agg #[.int .u8 n, .int .u8 m]] w fun e w' => e = .returned (.bool true) ∧ New w w' := by
  have hx' := hx
  have hy' := hy
  obtain ⟨ax, nx, cx, rfl, hax, hxc, hxm, -, -⟩ := hx'
  obtain ⟨ay, ny, cy, rfl, hay, hyc, hym, -, -⟩ := hy'
  have HR : Hid (Rd2 w (.slice ax nx cx) (.slice ay ny cy) s i) := ⟨hx, hy⟩
  have HL := Lib.hid hL
  clear hx hy hL
  unfold maxLen at hxm hym
  go_enter Tryd.func5, Tryd.ntmps5
  go_wp2_with fail
  have Na : New w (w.alloc (.cells #[.int .u8 (n : Int), .int .u8 (m : Int)] 35)).drew := ((Below.refl w.heap.size w).alloc (Nat.le_refl _) _).drew
  have hS0 : (fun w' : World => w'.cell? ⟨w.heap.size, 0, none⟩ = some (.int .u8 (n : Int)) ∧ w'.cell? ⟨w.heap.size, 1, none⟩ = some (.int .u8 (m : Int))) (w.alloc (.cells #[.int .u8 (n : Int), .int .u8 (m : Int)] 35)).drew := by
    have h := heap_alloc_new w (.cells #[.int .u8 (n : Int), .int .u8 (m : Int)] 35)
    exact ⟨cell_of_row _ _ _ _ _ _ h, cell_of_row _ _ _ _ _ _ h⟩
  refine region_ord (fun w' : World => w'.cell? ⟨w.heap.size, 0, none⟩ = some (.int .u8 (n : Int)) ∧ w'.cell? ⟨w.heap.size, 1, none⟩ = some (.int .u8 (m : Int))) [(0, true), (1, true), (2, true), (3, true), (4, true), (5, true)] (by kernel_rfl) (by kernel_rfl) hS0 (fun _ => ?_)
  clear hS0
  generalize (w.alloc (.cells #[.int .u8 (n : Int), .int .u8 (m : Int)] 35)).drew = wa at *
  iterate 6 (apply ord_take; (simp only [List.getElem?_toArray, List.getElem?_cons_succ, List.getElem?_cons_zero]; rfl); rfl; (intro w hSw; (try dsimp only at hSw); go_simp; try with_reducible rfl); intro _; try simp only [Act.put, List.setIfInBounds_toArray, List.set_cons_zero, List.set_cons_succ])
  apply ord_done
  by_cases h1 : 100 < nx
  · have hd1 : decide ((100 : Int) < (nx : Int)) = true := by simp; omega
    clear hax hay
    go_wp2_with fail
    refine (awake04 wa (HL.out.new Na)).mono ?_
    rintro e w1 ⟨rfl, N1⟩
    go_wp2_with fail
    refine (awake04 w1 (HL.out.new (New.trans Na N1))).mono ?_
    rintro e w2 ⟨rfl, N2⟩
    go_wp2
    go_ret
    exact ⟨rfl, New.trans Na (New.trans N1 N2)⟩
  have hd1 : decide ((100 : Int) < (nx : Int)) = false := by simp; omega
  by_cases h2 : 200 < ny
  · have hd2 : decide ((200 : Int) < (ny : Int)) = true := by simp; omega
    clear hax hay
    go_wp2_with fail
    refine (awake04 wa (HL.out.new Na)).mono ?_
    rintro e w1 ⟨rfl, N1⟩
    go_wp2_with fail
    refine (awake04 w1 (HL.out.new (New.trans Na N1))).mono ?_
    rintro e w2 ⟨rfl, N2⟩
    go_wp2
    go_ret
    exact ⟨rfl, New.trans Na (New.trans N1 N2)⟩
  have hd2 : decide ((200 : Int) < (ny : Int)) = false := by simp; omega
  have hsl : s.length ≤ 100 := by omega
  have hil : i.length ≤ 200 := by omega
  clear hax hay
  go_wp2_with fail
  refine (awake04 wa (HL.out.new Na)).mono ?_
  rintro e w1 ⟨rfl, N1⟩
  have N1w := New.trans Na N1
  go_wp2_with fail
  refine (kdfExpand w1 _ _ s i n (HR.out.r1.new N1w) (by omega) (HR.out.r2.new N1w) (by omega) (HL.out.new N1w)).mono ?_
  rintro e w2 ⟨N2, ⟨hno, rfl⟩ | ⟨h0, h1, a2, c2, rfl, r2⟩⟩
  · omega
  simp only [Int.toNat_natCast] at r2 ⊢
  have N2w := New.trans N1w N2
  have HA := Lib.hid r2
  clear r2
  go_wp2_with fail
  refine (kdfExpand w2 _ _ s i ((n : Int) + (m : Int)) (HR.out.r1.new N2w) (by omega) (HR.out.r2.new N2w) (by omega) (HL.out.new N2w)).mono ?_
  rintro e w3 ⟨N3, ⟨hno, rfl⟩ | ⟨h0, h1, a3, c3, rfl, r3⟩⟩
  · omega
  rw [show ((n : Int) + (m : Int)).toNat = n + m by omega] at r3 ⊢
  have N3w := New.trans N2w N3
  have hc3 : n + m ≤ c3 := by obtain ⟨_, _, _, e, h1, h2, _⟩ := r3; cases e; exact h2
  have hm3 : c3 ≤ 9223372036854775807 := by obtain ⟨_, _, _, e, h1, h2, h3, _⟩ := r3; cases e; exact h3
  have hc3' : (n : Int) ≤ (c3 : Int) := by omega
  have r4 := r3.cut (k := n) (c' := c3) (by omega) (by omega) (Nat.le_refl _)
  rw [hkdf_take] at r4
  have HB : Hid (Rd2 w3.drew (.slice a3 n c3) (.slice a2 n c2) (hkdf s i n) (hkdf s i n)) := ⟨r4, HA.out.new N3.drew⟩
  clear r3 r4
  go_wp2_with fail
  refine region_ord (Strs2 (.slice a3 n c3) (.slice a2 n c2) (hkdf s i n) (hkdf s i n)) [(0, true), (1, true), (2, true), (3, true), (4, true), (5, true), (6, true), (7, true), (8, true), (9, true), (10, true), (11, true), (12, true), (13, true), (14, true), (15, true), (16, true), (17, true), (18, true), (19, true), (20, true), (21, true), (22, true), (23, true), (24, true), (25, true), (26, true), (27, true), (28, true), (29, true), (30, true), (31, true)] (by kernel_rfl) (by kernel_rfl) HB.out.strs (fun _ => ?_)
  have N4w : New w w3.drew := N3w.drew
  generalize hkdf s i n = H at *
  generalize w3.drew = wd at *
  have hw1 : IntKind.i64.wrap (n : Int) = (n : Int) := IntWalk.i64_in _ (by omega)
  have hw2 : IntKind.i64.wrap (m : Int) = (m : Int) := IntWalk.i64_in _ (by omega)
  have hw3 : IntKind.i64.wrap ((n : Int) + (m : Int)) = (n : Int) + (m : Int) := IntWalk.i64_in _ (by omega)
  unfold Strs2
  iterate 32 (apply ord_take; (simp only [List.getElem?_toArray, List.getElem?_cons_succ, List.getElem?_cons_zero]; rfl); rfl; (intro w hSw; (try dsimp only at hSw); go_simp; try with_reducible rfl); intro _; try simp only [Act.put, List.setIfInBounds_toArray, List.set_cons_zero, List.set_cons_succ])
  apply ord_done
  go_wp2
  go_ret
  exact ⟨rfl, N4w⟩

end Go.Proofs.YtofceheipabeaaaDoor
