/-
  The statements of layer 12: their own helper.
-/
import Derived.Test.YtjekbolfaakmbaaDoorRecWrite
import Derived.Test.YtjekbolfaakmbaaDoorRecRead
import Derived.Lib.SlBytesConst
namespace Go.Proofs.YtjekbolfaakmbaaDoor
set_option linter.unusedVariables false
set_option linter.unusedSimpArgs false
open Go.RowKit

def shred0 : RecL := ⟨3, [103], 0, 0, 0, [], [], [], []⟩

set_option maxRecDepth 100000 in
set_option maxHeartbeats 1000000 in
theorem awake12 (w : World) : Calls Tryd.prog 4 #[] w fun e w' => e = .returned (.bool true) ∧ New w w' := by
  have kc := fun (w : World) (C : Array Value) (n c : Nat) => Lib.run_convert_bytes_const (P := Tryd.prog) w 22 5 C n c Tryd.underlying22 Tryd.underlying5
  have r1 := Rd.made w [103] 5 (1, 2) (by decide)
  have N1 : New w (w.alloc (.cells (([103] : List UInt8).map bv).toArray 5 (1, 2))) := (Below.refl _ _).alloc (Nat.le_refl _) _
  have hok : shred0.ok = true := by decide
  have hl : shred0.enc.length = 32 := by rw [RecL.enc_length]; rfl
  have HBK := Lib.hid (rec_back shred0 hok)
  have HW : Hid (shred0.wrote = shred0.enc) := Lib.hid (if_pos hok)
  have HS := Lib.hid (recWrite _ ⟨.slice (some ⟨w.heap.size, 0, none⟩) 1 1, .slice none 0 0, .slice none 0 0, .slice none 0 0, .slice none 0 0⟩ shred0 ⟨r1, Rd.nil _, Rd.nil _, Rd.nil _, Rd.nil _⟩)
  unfold WroteTo at HS
  rw [hok, HW.out] at HS
  have HN := Lib.hid N1
  have HL := Lib.hid hl
  clear hl hok r1 N1 HW
  go_enter Tryd.func4, Tryd.ntmps4
  go_wp2_with fail
  refine HS.out.mono ?_
  rintro _ w2 ⟨a2, n2, c2, rfl, r2, N2⟩
  have NN2 := New.trans HN.out N2
  have hn2 : n2 = 32 := by rw [← r2.len, HL.out]
  have HR := Lib.hid (recRead w2 _ _ r2 (by rw [HL.out]; decide))
  subst hn2
  clear HS HN N2 r2 kc
  go_wp2_with fail
  refine HR.out.mono ?_
  rintro _ w3 ⟨v, rfl, r3, N3⟩
  rw [HBK.out.1] at r3 ⊢
  rw [HBK.out.2]
  have NN3 := New.trans NN2 N3
  obtain ⟨vg, vy, vt, vs, vw⟩ := v
  obtain ⟨a1, n1, c1, e1, -⟩ := r3.g
  obtain ⟨a5, n5, c5, e5, -⟩ := r3.y
  obtain ⟨a6, n6, c6, e6, -⟩ := r3.tr
  obtain ⟨a7, n7, c7, e7, -⟩ := r3.sc
  obtain ⟨a8, n8, c8, e8, -⟩ := r3.wr
  dsimp only at e1 e5 e6 e7 e8
  subst e1 e5 e6 e7 e8
  have HG : Hid (Rd w3 (.slice a1 n1 c1) [103]) := Lib.hid r3.g
  clear r3 N3 NN2 HR HBK HL
  unfold RecV.val shred0
  dsimp only
  go_upto_region 3 with fail
  generalize hw4 : World.alloc w3 _ = w4
  have HC4 : Hid (At9 w4 w3.heap.size 24 (.int .i64 3) (.slice a1 n1 c1) (.int .i64 0) (.int .i64 0) (.int .i64 0) (.slice a5 n5 c5) (.slice a6 n6 c6) (.slice a7 n7 c7) (.slice a8 n8 c8)) := Lib.hid (by rw [← hw4]; exact heap_alloc_new _ _)
  have N4 : New w3 w4 := by rw [← hw4]; exact (Below.refl _ _).alloc (Nat.le_refl _) _
  clear hw4
  have NN4 := New.trans NN3 N4
  have ks := run_str (P := Tryd.prog) Tryd.underlying22 Tryd.underlying5 Tryd.underlying9 (HG.out.new N4)
  have kb : ((bstr [103]).toList == [103]) = true := by rw [bstr_list]; decide
  obtain ⟨x0, x1, -⟩ := HC4.out.cells
  clear HC4 HG N4 NN3
  generalize bstr [103] = S at *
  go_wp2
  go_ret
  exact ⟨rfl, NN4⟩

end Go.Proofs.YtjekbolfaakmbaaDoor
