/-
  The reference's Block of layer 5.
-/
import Derived.Test.YtapoelmhnbgidaaRefKeys5
namespace Go.Proofs.Ytapoelmhnbgidaa
set_option linter.unusedVariables false
set_option linter.unusedSimpArgs false
open Go.RowKit

def zero16 : List UInt8 := List.replicate 16 0
def mrow : List UInt8 := [2, 3, 1, 1]

/-- a byte replaced, its row turned -/
def sAt (B : List UInt8) (n : Nat) : UInt8 := gbox (B.getD (4 * ((n / 4 + n % 4) % 4) + n % 4) 0)
def sOf (B : List UInt8) : List UInt8 := fillTo (sAt B) zero16 16

/-- a column's product, k parts of it -/
def xTo (S : List UInt8) (c row : Nat) : Nat → UInt8
  | 0 => 0
  | k + 1 => bxor (xTo S c row k) (gmul (S.getD (4 * c + k) 0) (mrow.getD ((k + 4 - row) % 4) 0))

def bAt (S Wl : List UInt8) (r n : Nat) : UInt8 := bxor (if r < 10 then xTo S (n / 4) (n % 4) 4 else S.getD n 0) (Wl.getD (16 * r + n) 0)

/-- the reference's block behind r rounds -/
def refEnc (Wl b : List UInt8) : Nat → List UInt8
  | 0 => fillTo (fun n => bxor (b.getD n 0) (Wl.getD n 0)) zero16 16
  | r + 1 => fillTo (bAt (sOf (refEnc Wl b r)) Wl (r + 1)) (refEnc Wl b r) 16

theorem refEnc_length (Wl b : List UInt8) (r : Nat) : (refEnc Wl b r).length = 16 := by
  induction r with
  | zero => unfold refEnc; rw [fillTo_length]; rfl
  | succ r ih => unfold refEnc; rw [fillTo_length, ih]

theorem sOf_length (B : List UInt8) : (sOf B).length = 16 := fillTo_length _ _ _

/-- the block and the matrix's row -/
structure R0 (w : World) (B : List UInt8) (wr : World) : Prop where
  b : wr.heap[w.heap.size]? = some (.cells (B.map iv).toArray 3)
  m : wr.heap[w.heap.size + 1]? = some (.cells (mrow.map iv).toArray 3)
  new : New w wr

/-- and the block of a round -/
structure R1 (w : World) (gs : Nat) (B S : List UInt8) (wr : World) : Prop where
  b : wr.heap[w.heap.size]? = some (.cells (B.map iv).toArray 3)
  m : wr.heap[w.heap.size + 1]? = some (.cells (mrow.map iv).toArray 3)
  s : wr.heap[gs]? = some (.cells (S.map iv).toArray 3)
  far : w.heap.size + 1 < gs
  new : New w wr

section
variable {w wr : World} {gs : Nat} {B S : List UInt8}

theorem R1.setB (h : R1 w gs B S wr) (i : Nat) (x : UInt8) : R1 w gs (B.set i x) S (wr.setCell ⟨w.heap.size, i, none⟩ (iv x)) := by
  have hf := h.far
  refine ⟨?_, ?_, ?_, hf, h.new.setCell (Nat.le_refl _) _⟩
  · rw [heap_setCell_same _ _ _ _ _ _ h.b, List.setIfInBounds_toArray, ← List.map_set]
  · rw [heap_setCell_other _ _ _ _ (by show _ ≠ w.heap.size; omega)]; exact h.m
  · rw [heap_setCell_other _ _ _ _ (by show _ ≠ w.heap.size; omega)]; exact h.s

theorem R1.setS (h : R1 w gs B S wr) (i : Nat) (x : UInt8) : R1 w gs B (S.set i x) (wr.setCell ⟨gs, i, none⟩ (iv x)) := by
  have hf := h.far
  refine ⟨?_, ?_, ?_, hf, h.new.setCell (by show w.heap.size ≤ gs; omega) _⟩
  · rw [heap_setCell_other _ _ _ _ (by show _ ≠ gs; omega)]; exact h.b
  · rw [heap_setCell_other _ _ _ _ (by show _ ≠ gs; omega)]; exact h.m
  · rw [heap_setCell_same _ _ _ _ _ _ h.s, List.setIfInBounds_toArray, ← List.map_set]

theorem R1.drew (h : R1 w gs B S wr) : R1 w gs B S wr.drew := ⟨h.b, h.m, h.s, h.far, h.new.drew⟩
end

/-- the first block, being made -/
structure RA (w : World) (B : List UInt8) (wr : World) : Prop where
  b : wr.heap[w.heap.size]? = some (.cells (B.map iv).toArray 3)
  size : wr.heap.size = w.heap.size + 1
  new : New w wr

theorem RA.setB {w wr : World} {B : List UInt8} (h : RA w B wr) (i : Nat) (x : UInt8) : RA w (B.set i x) (wr.setCell ⟨w.heap.size, i, none⟩ (iv x)) := by
  refine ⟨?_, by simpa using h.size, h.new.setCell (Nat.le_refl _) _⟩
  rw [heap_setCell_same _ _ _ _ _ _ h.b, List.setIfInBounds_toArray, ← List.map_set]

theorem RA.drew {w wr : World} {B : List UInt8} (h : RA w B wr) : RA w B wr.drew := ⟨h.b, h.size, h.new.drew⟩

attribute [local go_sem] i64_bxor

set_option maxRecDepth 100000 in
set_option maxHeartbeats 4000000 in
theorem refBlock5 (w : World) (gw cw gb gB cB : Nat) (Wl b : List UInt8) (hw : IRd w gw Wl) (hwl : Wl.length = 176) (hbx : IRd w gb boxTab) (hb : IRd w gB b) (hbl : b.length = 16) :
    Calls Try.prog 25 #[.slice (some ⟨gw, 0, none⟩) 176 cw, .slice (some ⟨gb, 0, none⟩) 256 256, .slice (some ⟨gB, 0, none⟩) 16 cB] w fun e w' => ∃ g, e = .returned (.slice (some ⟨g, 0, none⟩) 16 16) ∧ w.heap.size ≤ g ∧ w'.heap[g]? = some (.cells ((refEnc Wl b 10).map iv).toArray 3) ∧ New w w' := by
  have HW := Lib.hid hw
  have HWL := Lib.hid hwl
  have HBX := Lib.hid hbx
  have HB := Lib.hid hb
  have HBL := Lib.hid hbl
  clear hw hwl hbx hb hbl
  have mk := fun wx => run_make_ints 16 (by decide) wx
  rw [show ((16 : Nat) : Int) = 16 from rfl, show List.replicate 16 (0 : UInt8) = zero16 from rfl] at mk
  have HZL : Hid (zero16.length = 16) := Lib.hid rfl
  obtain ⟨Z, HZE⟩ : ∃ Z, Hid (zero16 = Z) := ⟨_, Lib.hid rfl⟩
  rw [HZE.out] at mk HZL
  go_enter Try.func25, Try.ntmps25
  go_upto_region 2 with fail
  have HI0 : Hid (RA w Z (w.alloc (.cells (Z.map iv).toArray 3))) := Lib.hid ⟨heap_alloc_new _ _, by simp, (Below.refl _ _).alloc (Nat.le_refl _) _⟩
  generalize w.alloc _ = w1 at *
  go_wp2
  go_loopw [8] (fun i wr => ∃ j : Nat, j ≤ 16 ∧ i = .int .i64 j ∧ RA w (fillTo (fun n => bxor (b.getD n 0) (Wl.getD n 0)) Z j) wr) (fun i _ => 16 - (intOf i).toNat)
  case atStart => exact ⟨0, by omega, rfl, HI0.out⟩
  case round =>
    clear HI0
    obtain ⟨j, hj, rfl, hin⟩ := hrel
    by_cases hlt : j < 16
    · have hd := hin.drew
      have hc0 := int_cell (i := j) hd.b (by rw [fillTo_length, HZL.out]; exact hlt)
      have hf := frozen_of_row _ _ j _ _ hd.b
      have hc1 := (HB.out.new hd.new).cell j (by rw [HBL.out]; exact hlt)
      have hc2 := (HW.out.new hd.new).cell j (by rw [HWL.out]; omega)
      have HP := Lib.hid (hd.setB j (bxor (b.getD j 0) (Wl.getD j 0)))
      have HF : Hid (fillTo (fun n => bxor (b.getD n 0) (Wl.getD n 0)) Z (j + 1) = (fillTo (fun n => bxor (b.getD n 0) (Wl.getD n 0)) Z j).set j (bxor (b.getD j 0) (Wl.getD j 0))) := Lib.hid rfl
      generalize List.getD (fillTo _ Z j) j 0 = z at hc0
      generalize b.getD j 0 = x at hc1 HP HF
      generalize Wl.getD j 0 = y at hc2 HP HF
      have h16 : (j : Int) < 16 := by omega
      have h176 : (j : Int) < 176 := by omega
      clear hin hd mk
      go_wp2
      refine wp_region_still_tail 12 (by kernel_rfl) (by kernel_rfl) ?_
      simp only [List.take_succ_cons, List.take_zero, List.drop_succ_cons, List.drop_zero]
      change wpStill _ _ wr.drew (fun a' => wpList _ _ _ _ a' wr.drew) _ _
      generalize wr.drew = wd at *
      repeat still_step
      refine wpStill_nil ?_
      go_wp2
      go_roundw
      case rel =>
        refine ⟨j + 1, by omega, by go_num, ?_⟩
        rw [HF.out]
        exact HP.out
      case measure => simp [intOf]; omega
    · obtain rfl : j = 16 := by omega
      rw [show ((16 : Nat) : Int) = 16 from rfl]
      have HE0 : Hid (fillTo (fun n => bxor (b.getD n 0) (Wl.getD n 0)) Z 16 = refEnc Wl b 0) := by show _ = _; rw [← HZE.out]; rfl
      rw [HE0.out] at hin
      have hsz := hin.size
      go_upto_region 7 with fail
      have HI1 : Hid (R0 w (refEnc Wl b 0) (wr.alloc (.cells #[.int .i64 2, .int .i64 3, .int .i64 1, .int .i64 1] 3))) := by
        have Nm : New wr (wr.alloc (.cells #[.int .i64 2, .int .i64 3, .int .i64 1, .int .i64 1] 3)) := (Below.refl _ _).alloc (Nat.le_refl _) _
        refine Lib.hid ⟨(Nm.block _ (lt_of_block hin.b)).trans hin.b, ?_, New.trans hin.new Nm⟩
        rw [← hsz]
        exact heap_alloc_new _ _
      clear hin hsz HE0
      generalize wr.alloc _ = w2 at *
      go_wp2
      go_loopw [10] (fun r wr => ∃ j : Nat, j ≤ 10 ∧ r = .int .i64 ((j + 1 : Nat) : Int) ∧ R0 w (refEnc Wl b j) wr) (fun r _ => 11 - (intOf r).toNat)
      case atStart => exact ⟨0, by omega, rfl, HI1.out⟩
      case round =>
        clear HI1
        obtain ⟨r, hr, rfl, hin⟩ := hrel
        by_cases hltr : r < 10
        · have HBL2 := Lib.hid (refEnc_length Wl b r)
          have HES : Hid (refEnc Wl b (r + 1) = fillTo (bAt (sOf (refEnc Wl b r)) Wl (r + 1)) (refEnc Wl b r) 16) := Lib.hid rfl
          generalize refEnc Wl b r = B at *
          obtain ⟨rr, Hrr⟩ : ∃ rr, Hid (r + 1 = rr) := ⟨_, Lib.hid rfl⟩
          rw [Hrr.out] at HES ⊢
          have hrr10 : (rr : Int) ≤ 10 := by rw [← Hrr.out]; omega
          have hrr1 : 1 ≤ rr := by rw [← Hrr.out]; omega
          have HI2 : Hid (R1 w wr.heap.size B Z (wr.alloc (.cells (Z.map iv).toArray 3))) := by
            have Nm : New wr (wr.alloc (.cells (Z.map iv).toArray 3)) := (Below.refl _ _).alloc (Nat.le_refl _) _
            exact Lib.hid ⟨(Nm.block _ (lt_of_block hin.b)).trans hin.b, (Nm.block _ (lt_of_block hin.m)).trans hin.m, heap_alloc_new _ _, lt_of_block hin.m, New.trans hin.new Nm⟩
          clear hin
          go_upto_region 11 with fail
          generalize wr.alloc _ = w3 at *
          generalize wr.heap.size = gs at *
          clear mk
          go_wp2
          go_loopw [12] (fun c wr => ∃ j : Nat, j ≤ 4 ∧ c = .int .i64 j ∧ R1 w gs B (fillTo (sAt B) Z (4 * j)) wr) (fun c _ => 4 - (intOf c).toNat)
          case atStart => exact ⟨0, by omega, rfl, HI2.out⟩
          case round =>
            clear HI2
            obtain ⟨c, hc, rfl, hin⟩ := hrel
            by_cases hltc : c < 4
            · have hc4 : (c : Int) < 4 := by omega
              have HI3 := Lib.hid hin
              clear hin
              go_wp2
              go_loopw [13] (fun x wr => ∃ j : Nat, j ≤ 4 ∧ x = .int .i64 j ∧ R1 w gs B (fillTo (sAt B) Z (4 * c + j)) wr) (fun x _ => 4 - (intOf x).toNat)
              case atStart => exact ⟨0, by omega, rfl, HI3.out⟩
              case round =>
                clear HI3
                obtain ⟨row, hrow, rfl, hin⟩ := hrel
                by_cases hltw : row < 4
                · have hrow4 : (row : Int) < 4 := by omega
                  have HSA : Hid (sAt B (4 * c + row) = gbox (B.getD (4 * ((c + row) % 4) + row) 0)) := by
                    show _ = _
                    unfold sAt
                    rw [show (4 * c + row) / 4 = c by omega, show (4 * c + row) % 4 = row by omega]
                  have HF : Hid (fillTo (sAt B) Z (4 * c + (row + 1)) = (fillTo (sAt B) Z (4 * c + row)).set (4 * c + row) (sAt B (4 * c + row))) := Lib.hid rfl
                  obtain ⟨u, Hu⟩ : ∃ u, Hid ((c + row) % 4 = u) := ⟨_, Lib.hid rfl⟩
                  have hu4 : u < 4 := by rw [← Hu.out]; exact Nat.mod_lt _ (by decide)
                  rw [Hu.out] at HSA
                  have e1 : ((c : Int) + (row : Int)) % 4 = (u : Int) := by rw [← Hu.out]; omega
                  obtain ⟨v, Hv⟩ : ∃ v, Hid (4 * u + row = v) := ⟨_, Lib.hid rfl⟩
                  rw [Hv.out] at HSA
                  have e2 : 4 * (u : Int) + (row : Int) = (v : Int) := by rw [← Hv.out]; omega
                  have hv16 : v < 16 := by rw [← Hv.out]; omega
                  obtain ⟨n, Hn⟩ : ∃ n, Hid (4 * c + row = n) := ⟨_, Lib.hid rfl⟩
                  have e3 : 4 * (c : Int) + (row : Int) = (n : Int) := by rw [← Hn.out]; omega
                  have hn16 : n < 16 := by rw [← Hn.out]; omega
                  rw [Hn.out] at HSA HF hin
                  have hc1 := int_cell (i := v) hin.b (by rw [HBL2.out]; exact hv16)
                  have hx := u8_lt (B.getD v 0)
                  have hc2 : wr.cell? ⟨gb, (B.getD v 0).toNat, none⟩ = some (iv (gbox (B.getD v 0))) := (HBX.out.new hin.new).cell (B.getD v 0).toNat (by rw [boxTab_length]; exact hx)
                  have hc3 := int_cell (i := n) hin.s (by rw [fillTo_length, HZL.out]; exact hn16)
                  have hf := frozen_of_row _ _ n _ _ hin.s
                  have HP := Lib.hid (hin.setS n (sAt B n))
                  rw [← HF.out, HSA.out] at HP
                  generalize List.getD (fillTo _ Z n) n 0 = z at hc3
                  generalize B.getD v 0 = x at *
                  generalize gbox x = y at *
                  have hx' : (x.toNat : Int) < 256 := by omega
                  have hv' : (v : Int) < 16 := by omega
                  have hn' : (n : Int) < 16 := by omega
                  clear hin
                  go_wp2
                  go_roundw
                  case rel => exact ⟨row + 1, by omega, by go_num, HP.out⟩
                  case measure => simp [intOf]; omega
                · obtain rfl : row = 4 := by omega
                  rw [show ((4 : Nat) : Int) = 4 from rfl]
                  rw [show 4 * c + 4 = 4 * (c + 1) by omega] at hin
                  go_wp2
                  go_roundw
                  case rel => exact ⟨c + 1, by omega, by go_num, hin⟩
                  case measure => simp [intOf]; omega
            · obtain rfl : c = 4 := by omega
              rw [show ((4 : Nat) : Int) = 4 from rfl]
              have HSO : Hid (fillTo (sAt B) Z (4 * 4) = sOf B) := by show _ = _; rw [← HZE.out]; rfl
              rw [HSO.out] at hin
              have HSL := Lib.hid (sOf_length B)
              generalize sOf B = S at *
              have HI4 : Hid (R1 w gs (fillTo (bAt S Wl rr) B 0) S wr) := Lib.hid hin
              clear hin HSO
              go_wp2
              go_loopw [14] (fun c wr => ∃ j : Nat, j ≤ 4 ∧ c = .int .i64 j ∧ R1 w gs (fillTo (bAt S Wl rr) B (4 * j)) S wr) (fun c _ => 4 - (intOf c).toNat)
              case atStart => exact ⟨0, by omega, rfl, HI4.out⟩
              case round =>
                clear HI4
                obtain ⟨c, hc, rfl, hin⟩ := hrel
                by_cases hltc : c < 4
                · have hc4 : (c : Int) < 4 := by omega
                  have HI5 := Lib.hid hin
                  clear hin
                  go_wp2
                  go_loopw [15] (fun x wr => ∃ j : Nat, j ≤ 4 ∧ x = .int .i64 j ∧ R1 w gs (fillTo (bAt S Wl rr) B (4 * c + j)) S wr) (fun x _ => 4 - (intOf x).toNat)
                  case atStart => exact ⟨0, by omega, rfl, HI5.out⟩
                  case round =>
                    clear HI5
                    obtain ⟨row, hrow, rfl, hin⟩ := hrel
                    by_cases hltw : row < 4
                    · have hrow4 : (row : Int) < 4 := by omega
                      have HBA : Hid (bAt S Wl rr (4 * c + row) = bxor (if rr < 10 then xTo S c row 4 else S.getD (4 * c + row) 0) (Wl.getD (16 * rr + (4 * c + row)) 0)) := by
                        show _ = _
                        unfold bAt
                        rw [show (4 * c + row) / 4 = c by omega, show (4 * c + row) % 4 = row by omega]
                      have HF : Hid (fillTo (bAt S Wl rr) B (4 * c + (row + 1)) = (fillTo (bAt S Wl rr) B (4 * c + row)).set (4 * c + row) (bAt S Wl rr (4 * c + row))) := Lib.hid rfl
                      have HXS : Hid (∀ k, xTo S c row (k + 1) = bxor (xTo S c row k) (gmul (S.getD (4 * c + k) 0) (mrow.getD ((k + 4 - row) % 4) 0))) := Lib.hid (fun _ => rfl)
                      obtain ⟨c4, Hc4⟩ : ∃ c4, Hid (4 * c = c4) := ⟨_, Lib.hid rfl⟩
                      have e5 : 4 * (c : Int) = (c4 : Int) := by rw [← Hc4.out]; omega
                      have hc412 : c4 ≤ 12 := by rw [← Hc4.out]; omega
                      rw [Hc4.out] at HBA HF hin HXS
                      obtain ⟨n, Hn⟩ : ∃ n, Hid (c4 + row = n) := ⟨_, Lib.hid rfl⟩
                      have e3 : (c4 : Int) + (row : Int) = (n : Int) := by rw [← Hn.out]; omega
                      have hn16 : n < 16 := by rw [← Hn.out]; omega
                      rw [Hn.out] at HBA HF hin
                      obtain ⟨r16, Hr16⟩ : ∃ x, Hid (16 * rr = x) := ⟨_, Lib.hid rfl⟩
                      have e6 : 16 * (rr : Int) = (r16 : Int) := by rw [← Hr16.out]; omega
                      have hr160 : r16 ≤ 160 := by rw [← Hr16.out]; omega
                      obtain ⟨p1, Hp1⟩ : ∃ x, Hid (r16 + c4 = x) := ⟨_, Lib.hid rfl⟩
                      have e7 : (r16 : Int) + (c4 : Int) = (p1 : Int) := by rw [← Hp1.out]; omega
                      obtain ⟨q, Hq⟩ : ∃ x, Hid (p1 + row = x) := ⟨_, Lib.hid rfl⟩
                      have e8 : (p1 : Int) + (row : Int) = (q : Int) := by rw [← Hq.out]; omega
                      have hq176 : q < 176 := by have h1 := Hq.out; have h2 := Hp1.out; have h3 := Hn.out; omega
                      rw [show 16 * rr + n = q by have h1 := Hq.out; have h2 := Hp1.out; have h3 := Hn.out; have h4 := Hr16.out; omega] at HBA
                      have hcs := int_cell (i := n) hin.s (by rw [HSL.out]; exact hn16)
                      have HC2 := Lib.hid ((HW.out.new hin.new).cell q (by rw [HWL.out]; exact hq176))
                      obtain ⟨y, HYQ⟩ : ∃ y, Hid (Wl.getD q 0 = y) := ⟨_, Lib.hid rfl⟩
                      rw [HYQ.out] at HBA HC2
                      have hn' : (n : Int) < 16 := by omega
                      have hq' : (q : Int) < 176 := by omega
                      have HIN := Lib.hid hin
                      generalize hFB : fillTo (bAt S Wl rr) B n = F at *
                      have HFL : Hid (F.length = 16) := by show _ = _; rw [← hFB, fillTo_length, HBL2.out]
                      clear hin hFB
                      by_cases hr10 : rr < 10
                      · have hr10' : (rr : Int) < 10 := by omega
                        rw [if_pos hr10] at HBA
                        generalize S.getD n 0 = sn at hcs
                        go_wp2
                        go_loopw [16, 17] (fun x k wr => ∃ j : Nat, j ≤ 4 ∧ k = .int .i64 j ∧ x = iv (xTo S c row j) ∧ R1 w gs F S wr) (fun _ k _ => 4 - (intOf k).toNat)
                        case atStart => exact ⟨0, by omega, rfl, rfl, HIN.out⟩
                        case round =>
                          clear hcs HC2 HIN
                          obtain ⟨k, hk, rfl, rfl, hin⟩ := hrel
                          by_cases hltk : k < 4
                          · have hk4 : (k : Int) < 4 := by omega
                            have HX1 := Lib.hid (HXS.out k)
                            obtain ⟨nk, Hnk⟩ : ∃ x, Hid (c4 + k = x) := ⟨_, Lib.hid rfl⟩
                            have e9 : (c4 : Int) + (k : Int) = (nk : Int) := by rw [← Hnk.out]; omega
                            have hnk16 : nk < 16 := by rw [← Hnk.out]; omega
                            obtain ⟨u4, Hu4⟩ : ∃ x, Hid (k + 4 - row = x) := ⟨_, Lib.hid rfl⟩
                            have e11 : (k : Int) - (row : Int) + 4 = (u4 : Int) := by rw [← Hu4.out]; omega
                            obtain ⟨u, Hu⟩ : ∃ x, Hid (u4 % 4 = x) := ⟨_, Lib.hid rfl⟩
                            have e12 : (u4 : Int).tmod 4 = (u : Int) := by rw [Int.tmod_eq_emod_of_nonneg (by omega), ← Hu.out]; omega
                            have hu4 : u < 4 := by rw [← Hu.out]; exact Nat.mod_lt _ (by decide)
                            rw [Hnk.out, Hu4.out, Hu.out] at HX1
                            have hd := hin.drew
                            have hc1 := int_cell (i := nk) hd.s (by rw [HSL.out]; exact hnk16)
                            have hc2 := int_cell (i := u) hd.m (by show u < 4; exact hu4)
                            generalize S.getD nk 0 = sx at *
                            generalize mrow.getD u 0 = my at *
                            have v1 : IntKind.i64.wrap (c4 : Int) = (c4 : Int) := IntWalk.i64_in _ (by omega)
                            have v2 : IntKind.i64.wrap (nk : Int) = (nk : Int) := IntWalk.i64_in _ (by omega)
                            have v3 : IntKind.i64.wrap ((k : Int) - (row : Int)) = (k : Int) - (row : Int) := IntWalk.i64_in _ (by omega)
                            have hu47 : u4 ≤ 7 := by rw [← Hu4.out]; omega
                            have v4 : IntKind.i64.wrap (u4 : Int) = (u4 : Int) := IntWalk.i64_in _ (by omega)
                            have hu' : (u : Int) < 4 := by omega
                            have hnk' : (nk : Int) < 16 := by omega
                            have HD := Lib.hid hd
                            generalize xTo S c row k = xx at *
                            clear hin hd
                            go_wp2
                            refine region_ord (fun w' => w'.cell? ⟨gs, nk, none⟩ = some (iv sx) ∧ w'.cell? ⟨w.heap.size + 1, u, none⟩ = some (iv my)) [(0, true), (1, true), (2, true), (3, true), (4, true), (5, true), (6, true), (7, true), (8, true), (9, true), (10, true), (11, true), (12, true), (13, true), (14, true), (15, true), (16, false), (17, true), (18, true)] (by kernel_rfl) (by kernel_rfl) ⟨hc1, hc2⟩ (fun _ => ?_)
                            generalize wr.drew = wd at *
                            iterate 16 (apply ord_take; (simp only [List.getElem?_toArray, List.getElem?_cons_succ, List.getElem?_cons_zero]; rfl); rfl; (intro w hSw; (try dsimp only at hSw); go_simp; try with_reducible rfl); intro _; try simp only [Act.put, List.setIfInBounds_toArray, List.set_cons_zero, List.set_cons_succ])
                            (apply ord_only; (simp only [List.getElem?_toArray, List.getElem?_cons_succ, List.getElem?_cons_zero]; rfl); rfl; intro K hK)
                            go_simp
                            refine (refMul5 wd sx my).mono ?_
                            rintro e w' ⟨rfl, rfl⟩
                            refine hK.out _ _ (⟨hc1, hc2⟩) (fun _ => ?_)
                            clear hK K
                            try simp only [Act.put, List.setIfInBounds_toArray, List.set_cons_zero, List.set_cons_succ]
                            iterate 2 (apply ord_take; (simp only [List.getElem?_toArray, List.getElem?_cons_succ, List.getElem?_cons_zero]; rfl); rfl; (intro w hSw; (try dsimp only at hSw); go_simp; try with_reducible rfl); intro _; try simp only [Act.put, List.setIfInBounds_toArray, List.set_cons_zero, List.set_cons_succ])
                            apply ord_done
                            clear v1 v2 v3 v4 e11 e12 hc1 hc2
                            go_wp2
                            go_roundw
                            case rel => exact ⟨k + 1, by omega, by go_num, by rw [HX1.out], HD.out⟩
                            case measure => simp [intOf]; omega
                          · obtain rfl : k = 4 := by omega
                            rw [show ((4 : Nat) : Int) = 4 from rfl]
                            have hcw : wr.cell? ⟨gw, q, none⟩ = some (iv y) := by rw [← HYQ.out]; exact (HW.out.new hin.new).cell q (by rw [HWL.out]; exact hq176)
                            have hcb := int_cell (i := n) hin.b (by rw [HFL.out]; exact hn16)
                            have hf := frozen_of_row _ _ n _ _ hin.b
                            have HP := Lib.hid (hin.setB n (bAt S Wl rr n))
                            rw [← HF.out, HBA.out] at HP
                            generalize xTo S c row 4 = xx at *
                            generalize F.getD n 0 = z at hcb
                            clear hin
                            go_wp2
                            go_roundw
                            case rel => exact ⟨row + 1, by omega, by go_num, by rw [Hc4.out]; exact HP.out⟩
                            case measure => simp [intOf]; omega
                      · have hr10' : ¬ (rr : Int) < 10 := by omega
                        rw [if_neg hr10] at HBA
                        have hcw := HC2.out
                        have hcb := int_cell (i := n) HIN.out.b (by rw [HFL.out]; exact hn16)
                        have hf := frozen_of_row _ _ n _ _ HIN.out.b
                        have HP := Lib.hid (HIN.out.setB n (bAt S Wl rr n))
                        rw [← HF.out, HBA.out] at HP
                        generalize S.getD n 0 = sn at *
                        generalize F.getD n 0 = z at hcb
                        clear HIN HC2
                        go_wp2
                        go_roundw
                        case rel => exact ⟨row + 1, by omega, by go_num, by rw [Hc4.out]; exact HP.out⟩
                        case measure => simp [intOf]; omega
                    · obtain rfl : row = 4 := by omega
                      rw [show ((4 : Nat) : Int) = 4 from rfl]
                      rw [show 4 * c + 4 = 4 * (c + 1) by omega] at hin
                      go_wp2
                      go_roundw
                      case rel => exact ⟨c + 1, by omega, by go_num, hin⟩
                      case measure => simp [intOf]; omega
                · obtain rfl : c = 4 := by omega
                  rw [show ((4 : Nat) : Int) = 4 from rfl]
                  rw [show 4 * 4 = 16 from rfl, ← HES.out] at hin
                  have HR0 : Hid (R0 w (refEnc Wl b (r + 1)) wr) := by rw [Hrr.out]; exact Lib.hid ⟨hin.b, hin.m, hin.new⟩
                  clear hin
                  go_wp2
                  go_roundw
                  case rel => exact ⟨r + 1, by omega, by rw [← Hrr.out]; go_num, HR0.out⟩
                  case measure => simp [intOf]; omega
        · obtain rfl : r = 10 := by omega
          rw [show ((10 + 1 : Nat) : Int) = 11 from rfl]
          have hb := hin.b
          have HN := Lib.hid hin.new
          clear hin
          go_wp2
          go_ret
          exact ⟨_, rfl, Nat.le_refl _, hb, HN.out⟩

end Go.Proofs.Ytapoelmhnbgidaa
