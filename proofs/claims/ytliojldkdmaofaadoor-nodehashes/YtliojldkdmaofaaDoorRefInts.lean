/-
  Two lists of ints held against each other (the reference's Ints).
-/
import Derived.Test.YtliojldkdmaofaaDoorBase
import Derived.Test.YtliojldkdmaofaaDoorProg
import Derived.Deep.DrawnRows
import Derived.Deep.Cut
import Derived.LoopTactic
import Derived.KernelRfl
namespace Go.Proofs.YtliojldkdmaofaaDoor
set_option linter.unusedVariables false
set_option linter.unusedSimpArgs false
set_option maxRecDepth 100000
open Go.RowKit

def Ix18 (b1 o1 b2 o2 i : Nat) (x y : Int) (w : World) : Prop := w.cell? ⟨b1, o1 + i, none⟩ = some (.int .i64 x) ∧ w.cell? ⟨b2, o2 + i, none⟩ = some (.int .i64 y)

set_option maxHeartbeats 1000000 in
/-- two lists of ints held against each other -/
theorem refInts18 (w : World) (x y : Value) (l k : List Int) (hx : RdV w x (l.map (Value.int .i64))) (hy : RdV w y (k.map (Value.int .i64))) : Calls Tryd.prog 42 #[x, y] w fun e w' => e = .returned (.bool (decide (l = k))) ∧ New w w' := by
  obtain ⟨ax, nx, cx, rfl, hnx, hcx, hmx, -⟩ := id hx
  obtain ⟨ay, ny, cy, rfl, hny, hcy, hmy, -⟩ := id hy
  rw [List.length_map] at hnx hny
  unfold maxLen at hmx hmy
  have HX := Lib.hid hx
  have HY := Lib.hid hy
  have HL : Hid (l.length = nx ∧ k.length = ny) := Lib.hid ⟨hnx, hny⟩
  by_cases hn : nx = ny
  rotate_left
  · have hE : decide (l = k) = false := decide_eq_false (fun h => hn (by rw [← hnx, ← hny, h]))
    rw [hE]
    have d : ((nx : Int) != (ny : Int)) = true := by simp; omega
    clear hn hx hy hE hnx hny
    go_enter Tryd.func42, Tryd.ntmps42
    go_wp2
    go_ret
    exact ⟨rfl, Below.refl _ _⟩
  subst hn
  obtain ⟨B, HB⟩ : ∃ B, Hid (decide (l = k) = B) := ⟨_, Lib.hid rfl⟩
  rw [HB.out]
  clear hx hy hnx hny
  have hnb : nx ≤ 9223372036854775807 := by omega
  go_enter Tryd.func42, Tryd.ntmps42
  go_upto_region 4 with fail
  go_loopw [5] (fun v wr => ∃ i : Nat, v = .int .i64 i ∧ i ≤ nx ∧ l.take i = k.take i ∧ New w wr) (fun v _ => nx - (intOf v).toNat)
  case atStart => exact ⟨0, rfl, Nat.zero_le _, rfl, Below.refl _ _⟩
  case round =>
    obtain ⟨i, rfl, hi, hti, hnw⟩ := hrel
    have HT := Lib.hid hti
    have HN := Lib.hid hnw
    clear hti hnw
    by_cases hlt : i < nx
    · have d : decide ((i : Int) < (nx : Int)) = true := by simpa using hlt
      have hli : (i : Int) < (nx : Int) := by omega
      obtain ⟨b1, o1, hb1, hc1⟩ := (HX.out.new HN.out.drew).cell (by omega)
      obtain ⟨b2, o2, hb2, hc2⟩ := (HY.out.new HN.out.drew).cell (by omega)
      subst hb1 hb2
      obtain ⟨u, hu⟩ : ∃ u, l[i]? = some u := ⟨_, List.getElem?_eq_getElem (by have := HL.out; omega)⟩
      obtain ⟨v, hv⟩ : ∃ u, k[i]? = some u := ⟨_, List.getElem?_eq_getElem (by have := HL.out; omega)⟩
      have HU := Lib.hid (And.intro hu hv)
      have HC : Hid (Ix18 b1 o1 b2 o2 i u v wr.drew) := Lib.hid ⟨hc1 i (.int .i64 u) (by rw [List.getElem?_map, hu]; rfl), hc2 i (.int .i64 v) (by rw [List.getElem?_map, hv]; rfl)⟩
      clear hu hv hc1 hc2 hi
      go_upto_region 6 with fail
      refine region_ord (Ix18 b1 o1 b2 o2 i u v) [(0, true), (1, true), (2, true), (3, true), (4, true), (5, true), (6, true), (7, true), (8, true)] (by kernel_rfl) (by kernel_rfl) HC.out (fun _ => ?_)
      have HN2 := Lib.hid HN.out.drew
      generalize wr.drew = w1 at *
      unfold Ix18
      iterate 8 (apply ord_take; (simp only [List.getElem?_toArray, List.getElem?_cons_succ, List.getElem?_cons_zero]; rfl); rfl; (intro w hSw; (try dsimp only at hSw); go_simp; try with_reducible rfl); intro _; try simp only [Act.put, List.setIfInBounds_toArray, List.set_cons_zero, List.set_cons_succ])
      by_cases huv : u = v
      · have d1 : (u != v) = false := by simpa using huv
        have d2 : (u == v) = true := by simpa using huv
        have HX2 : Hid (l.take (i + 1) = k.take (i + 1)) := Lib.hid (by rw [List.take_add_one, List.take_add_one, HU.out.1, HU.out.2, HT.out, huv])
        clear huv
        (apply ord_take; (simp only [List.getElem?_toArray, List.getElem?_cons_succ, List.getElem?_cons_zero]; rfl); rfl; (intro w hSw; (try dsimp only at hSw); go_simp; try with_reducible rfl); intro _; try simp only [Act.put, List.setIfInBounds_toArray, List.set_cons_zero, List.set_cons_succ])
        apply ord_done
        go_wp2_with fail
        go_roundw
        case rel => exact ⟨i + 1, by go_num, by omega, HX2.out, HN2.out⟩
        case measure => simp [intOf]; omega
      · have d1 : (u != v) = true := by simpa using huv
        have d2 : (u == v) = false := by simpa using huv
        have hE : B = false := by
          rw [← HB.out]
          refine decide_eq_false (fun h => huv ?_)
          have h1 := HU.out.1
          rw [h, HU.out.2] at h1
          cases h1; rfl
        subst hE
        clear huv
        (apply ord_take; (simp only [List.getElem?_toArray, List.getElem?_cons_succ, List.getElem?_cons_zero]; rfl); rfl; (intro w hSw; (try dsimp only at hSw); go_simp; try with_reducible rfl); intro _; try simp only [Act.put, List.setIfInBounds_toArray, List.set_cons_zero, List.set_cons_succ])
        apply ord_done
        go_wp2
        go_ret
        exact ⟨rfl, HN2.out⟩
    · obtain rfl : i = nx := by omega
      have hE : B = true := by
        rw [← HB.out]
        have := HT.out
        rw [List.take_of_length_le (by have := HL.out; omega), List.take_of_length_le (by have := HL.out; omega)] at this
        exact decide_eq_true this
      subst hE
      clear hlt hi
      go_wp2
      go_ret
      exact ⟨rfl, HN.out⟩

end Go.Proofs.YtliojldkdmaofaaDoor
