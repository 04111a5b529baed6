/-
  mac.Same.
-/
import Derived.Test.YtoooemlcackepaaDoorProg
import Derived.Test.YtoooemlcackepaaDoorMacSpec
import Derived.KernelRfl
import Derived.Deep.QuietTactic
import Derived.BigQuiet
import Derived.IntWalk
import Derived.Laws.Rows
namespace Go.Proofs.YtoooemlcackepaaDoor
set_option linter.unusedVariables false
set_option linter.unusedSimpArgs false
open Go.RowKit

/-- a byte of a slice, at the address as a walk has it -/
theorem Rd.cellAt {w : World} {a : Option Addr} {n c : Nat} {l : List UInt8} (h : Rd w (.slice a n c) l) (hn : 0 < n) :
    ∃ b off, a = some ⟨b, off, none⟩ ∧ ∀ i, i < n → w.cell? ⟨b, off + i, none⟩ = some (bv (l.getD i 0)) := by
  obtain ⟨a', n', c', e, h1, h2, h3, h4, h5⟩ := h
  cases e
  cases a with
  | none => have := (h4 rfl).1; omega
  | some ad =>
    obtain ⟨b, off, spot⟩ := ad
    have hs : spot = none := by
      cases l with
      | nil => simp at h1; omega
      | cons x r =>
        have := h5 _ rfl 0 x rfl
        simp only [Addr.add, if_pos] at this
        unfold World.cell? at this
        split at this
        · cases spot with
          | none => rfl
          | some _ => simp at this
        · cases this
    subst hs
    refine ⟨b, off, rfl, fun i hi => ?_⟩
    have hg : l[i]? = some (l.getD i 0) := by
      rw [List.getD_eq_getElem?_getD, List.getElem?_eq_getElem (by omega)]; rfl
    have := h5 _ rfl i _ hg
    rwa [Addr.add_lit] at this

attribute [local go_sem] u8_bxor u8_bor

set_option maxRecDepth 100000 in
set_option maxHeartbeats 400000 in
theorem macSame (w : World) (x y : Value) (a b : List UInt8) (hx : Rd w x a) (hy : Rd w y b) :
    Calls Tryd.prog 10 #[x, y] w fun e w' => e = .returned (.bool (decide (a = b))) ∧ New w w' := by
  have hx' := hx
  have hy' := hy
  obtain ⟨ax, nx, cx, rfl, hxl, hxc, hxm, _, _⟩ := hx'
  obtain ⟨ay, ny, cy, rfl, hyl, hyc, hym, _, _⟩ := hy'
  have HX := Lib.hid hx
  have HY := Lib.hid hy
  have HXL := Lib.hid hxl
  have HYL := Lib.hid hyl
  unfold maxLen at hxm hym
  clear hx hy hxl hyl
  by_cases hn : nx = ny
  · subst hn
    have HE : Hid ((diffTo a b nx = 0) ↔ a = b) := by
      show _ ↔ _
      have := diffTo_all a b (by rw [HXL.out, HYL.out])
      rwa [HXL.out] at this
    go_enter Tryd.func10, Tryd.ntmps10
    go_wp2
    go_loopw [5, 14] (fun d i wr => ∃ k : Nat, k ≤ nx ∧ i = .int .i64 k ∧ d = bv (diffTo a b k) ∧ New w wr) (fun _ i _ => nx - (intOf i).toNat)
    case atStart => exact ⟨0, Nat.zero_le _, rfl, rfl, Below.refl _ _⟩
    case round =>
      obtain ⟨k, hk, rfl, rfl, hnw⟩ := hrel
      by_cases hlt : k < nx
      · obtain ⟨b1, o1, rfl, hc1⟩ := (HX.out.new hnw).cellAt (by omega)
        obtain ⟨b2, o2, rfl, hc2⟩ := (HY.out.new hnw).cellAt (by omega)
        have hd1 := hc1 k hlt
        have hd2 := hc2 k hlt
        clear hc1 hc2
        have HD : Hid (diffTo a b (k + 1) = bor (diffTo a b k) (bxor (a.getD k 0) (b.getD k 0))) := Lib.hid rfl
        generalize a.getD k 0 = p at *
        generalize b.getD k 0 = q at *
        generalize diffTo a b k = d at *
        go_wp2
        go_quiet (fail)
        go_wp2
        go_roundw
        case rel => exact ⟨k + 1, by omega, by go_num, by rw [HD.out], below_drewN hnw _⟩
        case measure => simp [intOf]; omega
      · obtain rfl : k = nx := by omega
        have hdz : (((diffTo a b k).toNat : Int) == 0) = decide (a = b) := by
          rw [Bool.eq_iff_iff, beq_iff_eq, decide_eq_true_eq, ← HE.out]
          constructor
          · intro h; exact UInt8.toNat_inj.1 (by simpa using h)
          · intro h; rw [h]; rfl
        go_wp2
        go_ret
        exact ⟨rfl, hnw⟩
  · have hne : a ≠ b := by
      rintro rfl
      exact hn (by rw [← HXL.out, ← HYL.out])
    have hd : decide (a = b) = false := by simpa using hne
    have hn2 : ((nx : Int) != (ny : Int)) = true := by simp; omega
    rw [hd]
    go_enter Tryd.func10, Tryd.ntmps10
    go_wp2
    go_ret
    exact ⟨rfl, Below.refl _ _⟩

end Go.Proofs.YtoooemlcackepaaDoor
