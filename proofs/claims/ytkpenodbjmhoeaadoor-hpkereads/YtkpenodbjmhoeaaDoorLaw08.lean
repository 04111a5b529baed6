/-
  The statements of layer 8: their own helpers.
-/
import Derived.Test.YtkpenodbjmhoeaaDoorHpkeOpen
import Derived.Test.YtkpenodbjmhoeaaDoorHpkeWake
import Derived.Test.YtkpenodbjmhoeaaDoorPowKey
import Derived.Lib.SlBytesConst
namespace Go.Proofs.YtkpenodbjmhoeaaDoor
set_option linter.unusedVariables false
set_option linter.unusedSimpArgs false
open Go.RowKit

/-- three slices that a statement makes -/
theorem three_made (w : World) (a b d : List UInt8) (e : TypeId) (fa fb fd : Nat × Nat) (ha : a.length ≤ 9223372036854775807) (hb : b.length ≤ 9223372036854775807) (hd : d.length ≤ 9223372036854775807) :
    Rd (((w.alloc (.cells (a.map bv).toArray e fa)).alloc (.cells (b.map bv).toArray e fb)).alloc (.cells (d.map bv).toArray e fd)) (.slice (some ⟨w.heap.size, 0, none⟩) a.length a.length) a ∧
    Rd (((w.alloc (.cells (a.map bv).toArray e fa)).alloc (.cells (b.map bv).toArray e fb)).alloc (.cells (d.map bv).toArray e fd)) (.slice (some ⟨w.heap.size + 1, 0, none⟩) b.length b.length) b ∧
    Rd (((w.alloc (.cells (a.map bv).toArray e fa)).alloc (.cells (b.map bv).toArray e fb)).alloc (.cells (d.map bv).toArray e fd)) (.slice (some ⟨w.heap.size + 2, 0, none⟩) d.length d.length) d ∧
    New w (((w.alloc (.cells (a.map bv).toArray e fa)).alloc (.cells (b.map bv).toArray e fb)).alloc (.cells (d.map bv).toArray e fd)) := by
  have r1 := Rd.made w a e fa ha
  have n1 : New w (w.alloc (.cells (a.map bv).toArray e fa)) := (Below.refl _ _).alloc (Nat.le_refl _) _
  have z1 : (w.alloc (.cells (a.map bv).toArray e fa)).heap.size = w.heap.size + 1 := by simp
  generalize w.alloc (.cells (a.map bv).toArray e fa) = w1 at *
  have r2 := Rd.made w1 b e fb hb
  have n2 : New w1 (w1.alloc (.cells (b.map bv).toArray e fb)) := (Below.refl _ _).alloc (Nat.le_refl _) _
  have z2 : (w1.alloc (.cells (b.map bv).toArray e fb)).heap.size = w1.heap.size + 1 := by simp
  rw [z1] at r2 z2
  generalize w1.alloc (.cells (b.map bv).toArray e fb) = w2 at *
  have r3 := Rd.made w2 d e fd hd
  have n3 : New w2 (w2.alloc (.cells (d.map bv).toArray e fd)) := (Below.refl _ _).alloc (Nat.le_refl _) _
  rw [z2] at r3
  exact ⟨r1.new (New.trans n2 n3), r2.new n3, r3, New.trans n1 (New.trans n2 n3)⟩

set_option maxRecDepth 100000 in
set_option maxHeartbeats 1000000 in
theorem awake08 (w : World) (hL : Laid w) : Calls Tryd.prog 7 #[] w fun e w' => e = .returned (.bool true) ∧ New w w' := by
  have HL := Lib.hid hL
  clear hL
  have HK : Hid (∀ wx, Calls Tryd.prog 13 #[.string (ByteArray.mk #[97])] wx fun e w' => e = .returned (.int .u64 (keyOfSec [97] : Int)) ∧ New wx w') := Lib.hid (fun wx => refKey7 wx [97] (by decide))
  have hkl := (keyOfSec_le [97]).2
  have HP := Lib.hid (fun wx => refPublic7 wx (keyOfSec [97]) (by omega))
  have hpl := powP_lt 3 (keyOfSec [97])
  have HW := Lib.hid wk_back
  have HW2 := Lib.hid wk_err
  generalize keyOfSec [97] = K at *
  generalize powP 3 K = PU at *
  go_enter Tryd.func7, Tryd.ntmps7
  go_wp2_with fail
  refine (HK.out w).mono ?_
  rintro e w1 ⟨rfl, N1⟩
  have kc := fun (w : World) (C : Array Value) (n c : Nat) => Lib.run_convert_bytes_const (P := Tryd.prog) w 23 5 C n c Tryd.underlying23 Tryd.underlying5
  go_wp2_with fail
  refine (HP.out w1).mono ?_
  rintro e w2 ⟨rfl, rfl⟩
  have kc2 : ∀ (A : Obj) (C : Array Value) (n c : Nat), (convert 23 23 (.slice (some ⟨w1.heap.size + 1, 0, none⟩) n c)).run Tryd.prog ((w1.alloc A).alloc (.cells C 5)) = .ok (.slice (some ⟨w1.heap.size + 1, 0, none⟩) n c) ((w1.alloc A).alloc (.cells C 5 (C.size, C.size + 1))) := fun A C n c => by
    have h := kc (w1.alloc A) C n c
    rw [show (w1.alloc A).heap.size = w1.heap.size + 1 by simp] at h
    exact h
  have kc3 : ∀ (A B : Obj) (C : Array Value) (n c : Nat), (convert 23 23 (.slice (some ⟨w1.heap.size + 2, 0, none⟩) n c)).run Tryd.prog (((w1.alloc A).alloc B).alloc (.cells C 5)) = .ok (.slice (some ⟨w1.heap.size + 2, 0, none⟩) n c) (((w1.alloc A).alloc B).alloc (.cells C 5 (C.size, C.size + 1))) := fun A B C n c => by
    have h := kc ((w1.alloc A).alloc B) C n c
    rw [show ((w1.alloc A).alloc B).heap.size = w1.heap.size + 2 by simp] at h
    exact h
  go_wp2_with fail
  clear kc kc2 kc3
  obtain ⟨ra, rb, rd, NM⟩ := three_made w1 [105] wkText [100] 5 (1, 2) (4, 5) (1, 2) (by decide) (by decide) (by decide)
  have HS := Lib.hid (hpkeSeal _ _ (.slice none 0 0) _ _ PU [105] [] wkText [100] (by omega) ra (by decide) (Rd.nil _) (by decide) rb (by decide) rd (by decide) (HL.out.new (New.trans N1 NM)))
  have NN2 := New.trans N1 NM
  clear ra rb rd
  refine HS.out.mono ?_
  rintro e w4 ⟨a4, n4, c4, rfl, r4, N4, hb4⟩
  rw [HW.out.1]
  have R4 := Lib.hid r4
  have NN4 := New.trans NN2 N4
  clear HS r4 hb4 N4 NM NN2 N1
  have HFR := Lib.hid (hsFrom_lt PU [100])
  have HTX : Hid ((hsText PU [105] [] wkText [100]).length ≤ 1000000) := Lib.hid (Nat.le_trans (hsText_length PU [105] [] wkText [100]) (by decide))
  generalize hsFrom PU [100] = FR at *
  generalize hsText PU [105] [] wkText [100] = TX at *
  go_upto_region 3 with fail
  generalize hw5 : World.alloc w4 _ = w5
  have HC5 : Hid (At2 w5 w4.heap.size 29 (.int .u64 (FR : Int)) (.slice a4 n4 c4)) := Lib.hid (by rw [← hw5]; exact heap_alloc_new _ _)
  have N5 : New w4 w5 := by rw [← hw5]; exact (Below.refl _ _).alloc (Nat.le_refl _) _
  have NN5 := New.trans NN4 N5
  have R5 := Lib.hid (R4.out.new N5)
  clear hw5 N5 NN4 R4
  have kc := fun (w : World) (C : Array Value) (n c : Nat) => Lib.run_convert_bytes_const (P := Tryd.prog) w 23 5 C n c Tryd.underlying23 Tryd.underlying5
  have r6 := Rd.made w5 [105] 5 (1, 2) (by decide)
  have N6 : New w5 (w5.alloc (.cells (([105] : List UInt8).map bv).toArray 5 (1, 2))) := (Below.refl _ _).alloc (Nat.le_refl _) _
  have HO := Lib.hid (hpkeOpen _ K FR _ _ (.slice none 0 0) TX [105] [] (by omega) HFR.out (R5.out.new N6) HTX.out r6 (by decide) (Rd.nil _) (by decide) (HL.out.new (New.trans NN5 N6)))
  have NN6 := New.trans NN5 N6
  have HC6 := Lib.hid (HC5.out.new N6)
  have R6 := Lib.hid (R5.out.new N6)
  obtain ⟨c0, c1⟩ := HC5.out.cells
  clear r6 N6 NN5 HC5 R5
  go_wp2_with fail
  refine HO.out.mono ?_
  rintro e w7 ⟨a7, n7, c7, rfl, r7, N7, -⟩
  rw [HW.out.2.2] at r7
  rw [HW.out.2.1]
  have R7 := Lib.hid r7
  have NN7 := New.trans NN6 N7
  have HC7 := Lib.hid (HC6.out.new N7)
  have R7' := Lib.hid (R6.out.new N7)
  clear HO r7 N7 NN6 HC6 R6 c0 c1 HW
  have r8 := Rd.made w7 [106] 5 (1, 2) (by decide)
  have N8 : New w7 (w7.alloc (.cells (([106] : List UInt8).map bv).toArray 5 (1, 2))) := (Below.refl _ _).alloc (Nat.le_refl _) _
  have HO := Lib.hid (hpkeOpen _ K FR _ _ (.slice none 0 0) TX [106] [] (by omega) HFR.out (R7'.out.new N8) HTX.out r8 (by decide) (Rd.nil _) (by decide) (HL.out.new (New.trans NN7 N8)))
  have NN8 := New.trans NN7 N8
  have R8 := Lib.hid (R7.out.new N8)
  obtain ⟨c0, c1⟩ := HC7.out.cells
  clear r8 N8 NN7 HC7 R7 R7'
  go_wp2_with fail
  refine HO.out.mono ?_
  rintro e w9 ⟨a9, n9, c9, rfl, -, N9, -⟩
  rw [HW2.out]
  have ks := run_str (P := Tryd.prog) Tryd.underlying23 Tryd.underlying5 Tryd.underlying9 (R8.out.new N9)
  have kb : ((bstr wkText).toList == [116, 101, 120, 116]) = true := by rw [bstr_list]; decide
  have NN9 := New.trans NN8 N9
  clear HO c0 c1 R8 HW2 kc
  generalize wkText = H at *
  go_wp2
  go_ret
  exact ⟨rfl, NN9⟩

/-- the argument, as the laws keep it -/
def CaseAt (w : World) (g : Nat) (x y z v : Value) : Prop := w.heap[g]? = some (.cells #[x, y, z, v] 25)

theorem CaseAt.new {w w' : World} {g : Nat} {x y z v : Value} (h : CaseAt w g x y z v) (hn : New w w') : CaseAt w' g x y z v := (hn.block _ (lt_of_block h)).trans h

theorem CaseAt.cells {w : World} {g : Nat} {x y z v : Value} (h : CaseAt w g x y z v) :
    w.cell? ⟨g, 0, none⟩ = some x ∧ w.cell? ⟨g, 1, none⟩ = some y ∧ w.cell? ⟨g, 2, none⟩ = some z ∧ w.cell? ⟨g, 3, none⟩ = some v :=
  ⟨by rw [cell_of_row w g 0 _ _ _ h]; rfl, by rw [cell_of_row w g 1 _ _ _ h]; rfl, by rw [cell_of_row w g 2 _ _ _ h]; rfl, by rw [cell_of_row w g 3 _ _ _ h]; rfl⟩

set_option maxRecDepth 100000 in
set_option maxHeartbeats 400000 in
theorem small08 (w : World) (ax ay az av : Option Addr) (nx cx ny cy nz cz nv cv : Nat) : Calls Tryd.prog 8 #[.agg #[.slice ax nx cx, .slice ay ny cy, .slice az nz cz, .slice av nv cv]] w fun e w' => e = .returned (.bool (decide (nx ≤ 200 ∧ ny ≤ 200 ∧ nz ≤ 200 ∧ nv ≤ 100))) ∧ New w w' := by
  by_cases h0 : nx ≤ 200
  · have d0 : decide ((nx : Int) ≤ 200) = true := by simp; omega
    by_cases h1 : ny ≤ 200
    · have d1 : decide ((ny : Int) ≤ 200) = true := by simp; omega
      by_cases h2 : nz ≤ 200
      · have d2 : decide ((nz : Int) ≤ 200) = true := by simp; omega
        by_cases h3 : nv ≤ 100
        · have d3 : decide ((nv : Int) ≤ 100) = true := by simp; omega
          have dd : decide (nx ≤ 200 ∧ ny ≤ 200 ∧ nz ≤ 200 ∧ nv ≤ 100) = true := by simp [h0, h1, h2, h3]
          rw [dd]
          clear dd h0 h1 h2 h3
          go_enter Tryd.func8, Tryd.ntmps8
          go_wp2
          go_ret
          exact ⟨rfl, (Below.refl _ _).alloc (Nat.le_refl _) _⟩
        · have d3 : decide ((nv : Int) ≤ 100) = false := by simp; omega
          have dd : decide (nx ≤ 200 ∧ ny ≤ 200 ∧ nz ≤ 200 ∧ nv ≤ 100) = false := by simp [h0, h1, h2, h3]
          rw [dd]
          clear dd h0 h1 h2 h3
          go_enter Tryd.func8, Tryd.ntmps8
          go_wp2
          go_ret
          exact ⟨rfl, (Below.refl _ _).alloc (Nat.le_refl _) _⟩
      · have d2 : decide ((nz : Int) ≤ 200) = false := by simp; omega
        have dd : decide (nx ≤ 200 ∧ ny ≤ 200 ∧ nz ≤ 200 ∧ nv ≤ 100) = false := by simp [h0, h1, h2]
        rw [dd]
        clear dd h0 h1 h2
        go_enter Tryd.func8, Tryd.ntmps8
        go_wp2
        go_ret
        exact ⟨rfl, (Below.refl _ _).alloc (Nat.le_refl _) _⟩
    · have d1 : decide ((ny : Int) ≤ 200) = false := by simp; omega
      have dd : decide (nx ≤ 200 ∧ ny ≤ 200 ∧ nz ≤ 200 ∧ nv ≤ 100) = false := by simp [h0, h1]
      rw [dd]
      clear dd h0 h1
      go_enter Tryd.func8, Tryd.ntmps8
      go_wp2
      go_ret
      exact ⟨rfl, (Below.refl _ _).alloc (Nat.le_refl _) _⟩
  · have d0 : decide ((nx : Int) ≤ 200) = false := by simp; omega
    have dd : decide (nx ≤ 200 ∧ ny ≤ 200 ∧ nz ≤ 200 ∧ nv ≤ 100) = false := by simp [h0]
    rw [dd]
    clear dd h0
    go_enter Tryd.func8, Tryd.ntmps8
    go_wp2
    go_ret
    exact ⟨rfl, (Below.refl _ _).alloc (Nat.le_refl _) _⟩

end Go.Proofs.YtkpenodbjmhoeaaDoor
