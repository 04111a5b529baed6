/-
  The statements of layer 17: their own helpers.
-/
import Derived.Test.YtgfljldegodpgaaDoorVltApi
import Derived.Test.YtgfljldegodpgaaDoorVltWake
import Derived.Test.YtgfljldegodpgaaDoorMacA
import Derived.Lib.SlBytesConst
namespace Go.Proofs.YtgfljldegodpgaaDoor
set_option linter.unusedVariables false
set_option linter.unusedSimpArgs false
set_option maxRecDepth 100000
open Go.RowKit

set_option maxHeartbeats 1000000 in
theorem awake17 (A : VltApi) (w : World) (hL : Laid w) : Calls Tryd.prog 6 #[] w fun e w' => e = .returned (.bool true) ∧ New w w' := by
  have HL := Lib.hid hL
  have HA := Lib.hid A
  clear hL A
  go_enter Tryd.func6, Tryd.ntmps6
  have m32 : ∀ wx : World, (Instr.makeSlice 22 (.int .i64 32) (.int .i64 32)).run Tryd.prog wx = .ok (.slice (some ⟨wx.heap.size, 0, none⟩) 32 32) (wx.alloc (.cells (vkSec.map bv).toArray 5)) := fun wx => run_make_bytes 32 32 (by omega) (by omega) (by omega) wx
  have kc := fun (w : World) (C : Array Value) (n c : Nat) => Lib.run_convert_bytes_const (P := Tryd.prog) w 22 5 C n c Tryd.underlying22 Tryd.underlying5
  have kc2 : ∀ C : Array Value, (convert 22 22 (.slice (some ⟨w.heap.size + 1, 0, none⟩) 32 32)).run Tryd.prog ((w.alloc (.cells (vkSec.map bv).toArray 5)).alloc (.cells C 5)) = .ok (.slice (some ⟨w.heap.size + 1, 0, none⟩) 32 32) ((w.alloc (.cells (vkSec.map bv).toArray 5)).alloc (.cells C 5 (C.size, C.size + 1))) := fun C => by
    have := kc (w.alloc (.cells (vkSec.map bv).toArray 5)) C 32 32
    rw [show (w.alloc (.cells (vkSec.map bv).toArray 5)).heap.size = w.heap.size + 1 by simp] at this
    exact this
  go_upto_region 2 with fail
  generalize hw0 : World.alloc (World.alloc w _) _ = w0
  have hr : w0.heap[w.heap.size + 1]? = some (.cells (vkText.map bv).toArray 5 (32, 33)) := by
    rw [← hw0, show w.heap.size + 1 = (w.alloc (.cells (vkSec.map bv).toArray 5)).heap.size by simp]; exact heap_alloc_new _ _
  have hn1 : New w (w.alloc (.cells (vkSec.map bv).toArray 5)) := (Below.refl _ _).alloc (Nat.le_refl _) _
  have hn2 : New (w.alloc (.cells (vkSec.map bv).toArray 5)) w0 := by rw [← hw0]; exact (Below.refl _ _).alloc (Nat.le_refl _) _
  have hs : w0.heap[w.heap.size]? = some (.cells (vkSec.map bv).toArray 5) := (hn2.block w.heap.size (by simp)).trans (heap_alloc_new w _)
  have RK := Lib.hid (rd_of_row hs (by decide))
  have RT := Lib.hid (rd_of_row hr (by decide))
  rw [show vkSec.length = 32 from rfl] at RK
  rw [show vkText.length = 32 from rfl] at RT
  have HN0 := Lib.hid (New.trans hn1 hn2)
  clear hw0 hr hn1 hn2 hs m32 kc2
  generalize w.heap.size = p at *
  generalize p + 1 = q at *
  have hg1 := Rd.made w0 vkG 5 (1, 2) (by decide)
  have N1 : New w0 (w0.alloc (.cells (vkG.map bv).toArray 5 (1, 2))) := (Below.refl _ _).alloc (Nat.le_refl _) _
  have HW := Lib.hid (HA.out.wrap _ _ _ _ vkSec vkG vkText 3 (RK.out.new N1) (by decide) hg1 (by decide) (by unfold i64In; omega) (RT.out.new N1) (by decide) (HL.out.new (New.trans HN0.out N1)))
  rw [vk_err] at HW
  have N1 := Lib.hid N1
  clear hg1
  go_wp2_with fail
  refine HW.out.mono ?_
  rintro _ w1 ⟨a1, n1, c1, rfl, r1, n1'⟩
  have HN1 := Lib.hid (New.trans N1.out n1')
  have hl1 : n1 = 48 := by rw [← r1.len, vk_wrapped, sealOf_length]; rfl
  subst hl1
  have R1 := Lib.hid r1
  have RK1 := Lib.hid (RK.out.new HN1.out)
  have RT1 := Lib.hid (RT.out.new HN1.out)
  have HN1 := Lib.hid (New.trans HN0.out HN1.out)
  clear r1 n1' HW N1 RK RT HN0
  have hg1 := Rd.made w1 vkG 5 (1, 2) (by decide)
  have N1 : New w1 (w1.alloc (.cells (vkG.map bv).toArray 5 (1, 2))) := (Below.refl _ _).alloc (Nat.le_refl _) _
  have HW := Lib.hid (HA.out.unwrap _ _ _ _ vkSec vkG _ 3 (RK1.out.new N1) (by decide) hg1 (by decide) (by unfold i64In; omega) (R1.out.new N1) (by rw [vk_wrapped, sealOf_length]; decide) (HL.out.new (New.trans HN1.out N1)))
  rw [(v_back vk_err).1, (v_back vk_err).2] at HW
  have N1 := Lib.hid N1
  clear hg1
  go_wp2_with fail
  refine HW.out.mono ?_
  rintro _ w2 ⟨a2, n2, c2, rfl, r2, n2'⟩
  have HN2 := Lib.hid (New.trans N1.out n2')
  have R2 := Lib.hid r2
  have R12 := Lib.hid (R1.out.new HN2.out)
  have RK2 := Lib.hid (RK1.out.new HN2.out)
  have RT2 := Lib.hid (RT1.out.new HN2.out)
  have HN2 := Lib.hid (New.trans HN1.out HN2.out)
  clear r2 n2' HW N1 RK1 RT1 HN1 R1
  have hg1 := Rd.made w2 vkG 5 (1, 2) (by decide)
  have N1 : New w2 (w2.alloc (.cells (vkG.map bv).toArray 5 (1, 2))) := (Below.refl _ _).alloc (Nat.le_refl _) _
  have HW := Lib.hid (HA.out.unwrap _ _ _ _ vkSec vkG _ 4 (RK2.out.new N1) (by decide) hg1 (by decide) (by unfold i64In; omega) (R12.out.new N1) (by rw [vk_wrapped, sealOf_length]; decide) (HL.out.new (New.trans HN2.out N1)))
  rw [vk_shut] at HW
  have N1 := Lib.hid N1
  clear hg1
  go_wp2_with fail
  refine HW.out.mono ?_
  rintro _ w3 ⟨a3, n3, c3, rfl, -, n3'⟩
  have HN3 := Lib.hid (New.trans N1.out n3')
  have k1 := run_str (P := Tryd.prog) Tryd.underlying22 Tryd.underlying5 Tryd.underlying9 (R2.out.new HN3.out)
  have k2 := run_str (P := Tryd.prog) Tryd.underlying22 Tryd.underlying5 Tryd.underlying9 (RT2.out.new HN3.out)
  have HN3 := Lib.hid (New.trans HN2.out HN3.out)
  have HB := Lib.hid (HA.out.bucket w3 25 10 (by unfold i64In; omega) (by unfold i64In; omega))
  rw [show vBucket 25 10 = 2 by decide] at HB
  clear n3' HW N1 RK2 RT2 HN2 R12 R2 kc
  generalize vkText = X at *
  go_wp2_with fail
  refine HB.out.mono ?_
  rintro _ w4 ⟨rfl, rfl⟩
  go_wp2
  go_ret
  exact ⟨rfl, HN3.out⟩

/-- the argument, as the law keeps it -/
def CaseAt17 (w : World) (g : Nat) (x y z : Value) (e : Int) : Prop := w.heap[g]? = some (.cells #[x, y, z, .int .i64 e] 24)

section
variable {w w' : World} {g : Nat} {x y z : Value} {e : Int}
theorem CaseAt17.new (h : CaseAt17 w g x y z e) (hn : New w w') : CaseAt17 w' g x y z e := (hn.block _ (lt_of_block h)).trans h

theorem CaseAt17.cells (h : CaseAt17 w g x y z e) :
    w.cell? ⟨g, 0, none⟩ = some x ∧ w.cell? ⟨g, 1, none⟩ = some y ∧ w.cell? ⟨g, 2, none⟩ = some z ∧ w.cell? ⟨g, 3, none⟩ = some (.int .i64 e) :=
  ⟨by rw [cell_of_row w g 0 _ _ _ h]; rfl, by rw [cell_of_row w g 1 _ _ _ h]; rfl, by rw [cell_of_row w g 2 _ _ _ h]; rfl, by rw [cell_of_row w g 3 _ _ _ h]; rfl⟩
end

set_option maxHeartbeats 400000 in
theorem small17 (w : World) (ax ay az : Option Addr) (nx cx ny cy nz cz : Nat) (e : Int) : Calls Tryd.prog 7 #[.agg #[.slice ax nx cx, .slice ay ny cy, .slice az nz cz, .int .i64 e]] w fun en w' => en = .returned (.bool (decide (nx ≤ 60 ∧ ny ≤ 40 ∧ nz ≤ 100))) ∧ New w w' := by
  by_cases h0 : nx ≤ 60
  · have d0 : decide ((nx : Int) ≤ 60) = true := by simp; omega
    by_cases h1 : ny ≤ 40
    · have d1 : decide ((ny : Int) ≤ 40) = true := by simp; omega
      obtain ⟨b, hb⟩ : ∃ b, decide ((nz : Int) ≤ 100) = b := ⟨_, rfl⟩
      have dd : decide (nx ≤ 60 ∧ ny ≤ 40 ∧ nz ≤ 100) = b := by rw [← hb]; simp only [h0, h1, true_and, decide_eq_decide]; omega
      rw [dd]
      clear dd h0 h1
      go_enter Tryd.func7, Tryd.ntmps7
      go_wp2
      go_ret
      exact ⟨rfl, (Below.refl _ _).alloc (Nat.le_refl _) _⟩
    · have d1 : decide ((ny : Int) ≤ 40) = false := by simp; omega
      have dd : decide (nx ≤ 60 ∧ ny ≤ 40 ∧ nz ≤ 100) = false := by simp [h0, h1]
      rw [dd]
      clear dd h0 h1
      go_enter Tryd.func7, Tryd.ntmps7
      go_wp2
      go_ret
      exact ⟨rfl, (Below.refl _ _).alloc (Nat.le_refl _) _⟩
  · have d0 : decide ((nx : Int) ≤ 60) = false := by simp; omega
    have dd : decide (nx ≤ 60 ∧ ny ≤ 40 ∧ nz ≤ 100) = false := by simp [h0]
    rw [dd]
    clear dd h0
    go_enter Tryd.func7, Tryd.ntmps7
    go_wp2
    go_ret
    exact ⟨rfl, (Below.refl _ _).alloc (Nat.le_refl _) _⟩

end Go.Proofs.YtgfljldegodpgaaDoor
