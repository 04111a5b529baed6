/-
  The statements of layer 6: their own helpers.
-/
import Derived.Test.YtgbgdbfiplmciaaDoorSealA
import Derived.Test.YtgbgdbfiplmciaaDoorSealWake
import Derived.Test.YtgbgdbfiplmciaaDoorRefMac
import Derived.Test.YtgbgdbfiplmciaaDoorMacA
import Derived.Lib.SlBytesConst
namespace Go.Proofs.YtgbgdbfiplmciaaDoor
set_option linter.unusedVariables false
set_option linter.unusedSimpArgs false
open Go.RowKit

structure Wake6 (w : World) (p q : Nat) (wr : World) : Prop where
  pq : p ≠ q
  hp : w.heap.size ≤ p
  hq : w.heap.size ≤ q
  key : wr.heap[p]? = some (.cells (zed48.map bv).toArray 5)
  non : wr.heap[q]? = some (.cells (zed16.map bv).toArray 5)
  new : New w wr


set_option maxRecDepth 100000 in
set_option maxHeartbeats 1000000 in
theorem awake06 (w : World) (hL : Laid w) : Calls Tryd.prog 6 #[] w fun e w' => e = .returned (.bool true) ∧ New w w' := by
  have HL := Lib.hid hL
  clear hL
  go_enter Tryd.func6, Tryd.ntmps6
  have m48 : ∀ wx : World, (Instr.makeSlice 22 (.int .i64 48) (.int .i64 48)).run Tryd.prog wx = .ok (.slice (some ⟨wx.heap.size, 0, none⟩) 48 48) (wx.alloc (.cells (zed48.map bv).toArray 5)) := fun wx => run_make_bytes 48 48 (by omega) (by omega) (by omega) wx
  have m16 : ∀ wx : World, (Instr.makeSlice 22 (.int .i64 16) (.int .i64 16)).run Tryd.prog wx = .ok (.slice (some ⟨wx.heap.size, 0, none⟩) 16 16) (wx.alloc (.cells (zed16.map bv).toArray 5)) := fun wx => run_make_bytes 16 16 (by omega) (by omega) (by omega) wx
  go_wp2
  go_region
  · have HI0 : Hid (Wake6 w w.heap.size (w.heap.size + 1) ((w.alloc (.cells (zed48.map bv).toArray 5)).alloc (.cells (zed16.map bv).toArray 5)).drew) := by
      have N1 : New w (w.alloc (.cells (zed48.map bv).toArray 5)) := (Below.refl _ _).alloc (Nat.le_refl _) _
      have N2 : New (w.alloc (.cells (zed48.map bv).toArray 5)) ((w.alloc (.cells (zed48.map bv).toArray 5)).alloc (.cells (zed16.map bv).toArray 5)) := (Below.refl _ _).alloc (Nat.le_refl _) _
      have e1 := heap_alloc_new w (.cells (zed48.map bv).toArray 5)
      have e2 := heap_alloc_new (w.alloc (.cells (zed48.map bv).toArray 5)) (.cells (zed16.map bv).toArray 5)
      rw [show (w.alloc (.cells (zed48.map bv).toArray 5)).heap.size = w.heap.size + 1 by simp] at e2
      have e3 := (N2.block w.heap.size (by simp)).trans e1
      exact ⟨by omega, by omega, by omega, e3, e2, (New.trans N1 N2).drew⟩
    generalize ((w.alloc (.cells (zed48.map bv).toArray 5)).alloc (.cells (zed16.map bv).toArray 5)).drew = W at *
    obtain ⟨p, hp⟩ : ∃ p, p = w.heap.size := ⟨_, rfl⟩
    obtain ⟨q, hq⟩ : ∃ q, q = (w.heap.size + 1) := ⟨_, rfl⟩
    rw [← hq, ← hp] at HI0
    rw [← hq, ← hp]
    clear hp hq m48 m16
    have rk : Rd W (.slice (some ⟨p, 0, none⟩) 48 48) zed48 := rd_of_row HI0.out.key (by decide)
    have rn : Rd W (.slice (some ⟨q, 0, none⟩) 16 16) zed16 := rd_of_row HI0.out.non (by decide)
    have kc := fun (w : World) (C : Array Value) (n c : Nat) => Lib.run_convert_bytes_const (P := Tryd.prog) w 22 5 C n c Tryd.underlying22 Tryd.underlying5
    have hr1 := Rd.made W hello 5 (5, 6) (by decide)
    have hn1 : New W (W.alloc (.cells (hello.map bv).toArray 5 (5, 6))) := (Below.refl _ _).alloc (Nat.le_refl _) _
    have HS := Lib.hid (sealSeal _ _ _ (.slice none 0 0) _ zed48 zed16 [] hello (rk.new hn1) (by decide) (rn.new hn1) (by decide) (Rd.nil _) (by decide) hr1 (by decide) (HL.out.new (New.trans HI0.out.new hn1)))
    have HR := Lib.hid (And.intro rk rn)
    have HN1 := Lib.hid hn1
    have HPL : Hid (p < W.heap.size) := Lib.hid (lt_of_block HI0.out.key)
    clear rk rn hr1 hn1
    go_wp2_with fail
    refine HS.out.mono ?_
    rintro e w1 ⟨a1, n1, c1, rfl, r1, hn1, N1, hb1⟩
    obtain rfl : n1 = 21 := hn1
    have NW1 := Lib.hid (New.trans HN1.out N1)
    have HB1 : Hid (∀ k, blk (.slice a1 21 c1) = some k → W.heap.size ≤ k) := Lib.hid fun k hk => Nat.le_trans (by simp) (hb1 k hk)
    have R1 := Lib.hid r1
    clear HS r1 N1 hb1 HN1 kc
    have HO := Lib.hid (sealOpen w1 _ _ (.slice none 0 0) _ zed48 zed16 [] _ (HR.out.1.new NW1.out) (by decide) (HR.out.2.new NW1.out) (by decide) (Rd.nil _) (by decide) R1.out (by rw [sealOf_length]; decide) (HL.out.new (New.trans HI0.out.new NW1.out)))
    rw [(open_seal zed48 zed16 [] hello).1, (open_seal zed48 zed16 [] hello).2] at HO
    go_wp2_with fail
    refine HO.out.mono ?_
    rintro e w2 ⟨a2, n2, c2, rfl, r2, N2, hb2⟩
    have NW2 := Lib.hid (New.trans NW1.out N2)
    have R2 := Lib.hid r2
    have R1' := Lib.hid (R1.out.new N2)
    have HB2 : Hid (∀ k, blk (.slice a2 n2 c2) = some k → W.heap.size ≤ k) := Lib.hid fun k hk => Nat.le_trans NW1.out.size (hb2 k hk)
    have hkey : w2.heap[p]? = some (.cells (zed48.map bv).toArray 5) := (NW2.out.block _ HPL.out).trans HI0.out.key
    have hc := byte_cell hkey (i := 47) (by decide)
    have hf := frozen_of_row w2 p 47 _ _ hkey
    have HK2 := Lib.hid hkey
    have N3 : New w (w2.setCell ⟨p, 47, none⟩ (.int .u8 1)) := (New.trans HI0.out.new NW2.out).setCell (by exact HI0.out.hp) _
    have O3 : Only (fun k => k = p) w2 (w2.setCell ⟨p, 47, none⟩ (.int .u8 1)) := (Only.refl (fun k => k = p) w2).setCell (p := ⟨p, 47, none⟩) (fun _ => rfl) _
    have HK3 : Hid ((w2.setCell ⟨p, 47, none⟩ (.int .u8 1)).heap[p]? = some (.cells (zedKey.map bv).toArray 5)) := by
      show _ = _
      rw [heap_setCell_same _ _ _ _ _ _ HK2.out, List.setIfInBounds_toArray]
      rfl
    have R3 : Hid (Rd (w2.setCell ⟨p, 47, none⟩ (.int .u8 1)) (.slice a1 21 c1) (sealOf zed48 zed16 [] hello)) := Lib.hid (R1'.out.only O3 fun k hk _ e => by have := HB1.out k hk; have := HPL.out; omega)
    have R4 : Hid (Rd (w2.setCell ⟨p, 47, none⟩ (.int .u8 1)) (.slice a2 n2 c2) hello) := Lib.hid (R2.out.only O3 fun k hk _ e => by have := HB2.out k hk; have := HPL.out; omega)
    have R5 : Hid (Rd (w2.setCell ⟨p, 47, none⟩ (.int .u8 1)) (.slice (some ⟨q, 0, none⟩) 16 16) zed16) := Lib.hid ((HR.out.2.new NW2.out).only O3 fun k hk _ e => by cases hk; exact HI0.out.pq e.symm)
    have HN3 := Lib.hid N3
    clear HO r2 N2 hb2 hkey R1 R1' R2 N3 O3 HB1 HB2 NW1 HR HK2 NW2 HPL HI0
    generalize (zed48.getD 47 0) = z47 at hc
    go_upto_region 5 with fail
    clear hc hf
    generalize w2.setCell ⟨p, 47, none⟩ (.int .u8 1) = w3 at *
    have r6 : Rd w3 (.slice (some ⟨p, 0, none⟩) 48 48) zedKey := rd_of_row HK3.out (by decide)
    have HO := Lib.hid (sealOpen w3 _ _ (.slice none 0 0) _ zedKey zed16 [] _ r6 (by decide) R5.out (by decide) (Rd.nil _) (by decide) R3.out (by rw [sealOf_length]; decide) (HL.out.new HN3.out))
    rw [zed_shut] at HO
    clear r6 R3 R5 HK3
    go_wp2_with fail
    refine HO.out.mono ?_
    rintro e w4 ⟨a4, n4, c4, rfl, -, N4, -⟩
    have ks := run_str (P := Tryd.prog) Tryd.underlying22 Tryd.underlying5 Tryd.underlying9 (R4.out.new N4)
    have kb : ((bstr hello).toList == [104, 101, 108, 108, 111]) = true := by rw [bstr_list]; decide
    clear HO R4
    generalize hello = H at *
    go_wp2
    go_ret
    exact ⟨rfl, New.trans HN3.out N4⟩
  · have HI0 : Hid (Wake6 w (w.heap.size + 1) w.heap.size ((w.alloc (.cells (zed16.map bv).toArray 5)).alloc (.cells (zed48.map bv).toArray 5)).drew) := by
      have N1 : New w (w.alloc (.cells (zed16.map bv).toArray 5)) := (Below.refl _ _).alloc (Nat.le_refl _) _
      have N2 : New (w.alloc (.cells (zed16.map bv).toArray 5)) ((w.alloc (.cells (zed16.map bv).toArray 5)).alloc (.cells (zed48.map bv).toArray 5)) := (Below.refl _ _).alloc (Nat.le_refl _) _
      have e1 := heap_alloc_new w (.cells (zed16.map bv).toArray 5)
      have e2 := heap_alloc_new (w.alloc (.cells (zed16.map bv).toArray 5)) (.cells (zed48.map bv).toArray 5)
      rw [show (w.alloc (.cells (zed16.map bv).toArray 5)).heap.size = w.heap.size + 1 by simp] at e2
      have e3 := (N2.block w.heap.size (by simp)).trans e1
      exact ⟨by omega, by omega, by omega, e2, e3, (New.trans N1 N2).drew⟩
    generalize ((w.alloc (.cells (zed16.map bv).toArray 5)).alloc (.cells (zed48.map bv).toArray 5)).drew = W at *
    obtain ⟨p, hp⟩ : ∃ p, p = (w.heap.size + 1) := ⟨_, rfl⟩
    obtain ⟨q, hq⟩ : ∃ q, q = w.heap.size := ⟨_, rfl⟩
    rw [← hp, ← hq] at HI0
    rw [← hp, ← hq]
    clear hp hq m48 m16
    have rk : Rd W (.slice (some ⟨p, 0, none⟩) 48 48) zed48 := rd_of_row HI0.out.key (by decide)
    have rn : Rd W (.slice (some ⟨q, 0, none⟩) 16 16) zed16 := rd_of_row HI0.out.non (by decide)
    have kc := fun (w : World) (C : Array Value) (n c : Nat) => Lib.run_convert_bytes_const (P := Tryd.prog) w 22 5 C n c Tryd.underlying22 Tryd.underlying5
    have hr1 := Rd.made W hello 5 (5, 6) (by decide)
    have hn1 : New W (W.alloc (.cells (hello.map bv).toArray 5 (5, 6))) := (Below.refl _ _).alloc (Nat.le_refl _) _
    have HS := Lib.hid (sealSeal _ _ _ (.slice none 0 0) _ zed48 zed16 [] hello (rk.new hn1) (by decide) (rn.new hn1) (by decide) (Rd.nil _) (by decide) hr1 (by decide) (HL.out.new (New.trans HI0.out.new hn1)))
    have HR := Lib.hid (And.intro rk rn)
    have HN1 := Lib.hid hn1
    have HPL : Hid (p < W.heap.size) := Lib.hid (lt_of_block HI0.out.key)
    clear rk rn hr1 hn1
    go_wp2_with fail
    refine HS.out.mono ?_
    rintro e w1 ⟨a1, n1, c1, rfl, r1, hn1, N1, hb1⟩
    obtain rfl : n1 = 21 := hn1
    have NW1 := Lib.hid (New.trans HN1.out N1)
    have HB1 : Hid (∀ k, blk (.slice a1 21 c1) = some k → W.heap.size ≤ k) := Lib.hid fun k hk => Nat.le_trans (by simp) (hb1 k hk)
    have R1 := Lib.hid r1
    clear HS r1 N1 hb1 HN1 kc
    have HO := Lib.hid (sealOpen w1 _ _ (.slice none 0 0) _ zed48 zed16 [] _ (HR.out.1.new NW1.out) (by decide) (HR.out.2.new NW1.out) (by decide) (Rd.nil _) (by decide) R1.out (by rw [sealOf_length]; decide) (HL.out.new (New.trans HI0.out.new NW1.out)))
    rw [(open_seal zed48 zed16 [] hello).1, (open_seal zed48 zed16 [] hello).2] at HO
    go_wp2_with fail
    refine HO.out.mono ?_
    rintro e w2 ⟨a2, n2, c2, rfl, r2, N2, hb2⟩
    have NW2 := Lib.hid (New.trans NW1.out N2)
    have R2 := Lib.hid r2
    have R1' := Lib.hid (R1.out.new N2)
    have HB2 : Hid (∀ k, blk (.slice a2 n2 c2) = some k → W.heap.size ≤ k) := Lib.hid fun k hk => Nat.le_trans NW1.out.size (hb2 k hk)
    have hkey : w2.heap[p]? = some (.cells (zed48.map bv).toArray 5) := (NW2.out.block _ HPL.out).trans HI0.out.key
    have hc := byte_cell hkey (i := 47) (by decide)
    have hf := frozen_of_row w2 p 47 _ _ hkey
    have HK2 := Lib.hid hkey
    have N3 : New w (w2.setCell ⟨p, 47, none⟩ (.int .u8 1)) := (New.trans HI0.out.new NW2.out).setCell (by exact HI0.out.hp) _
    have O3 : Only (fun k => k = p) w2 (w2.setCell ⟨p, 47, none⟩ (.int .u8 1)) := (Only.refl (fun k => k = p) w2).setCell (p := ⟨p, 47, none⟩) (fun _ => rfl) _
    have HK3 : Hid ((w2.setCell ⟨p, 47, none⟩ (.int .u8 1)).heap[p]? = some (.cells (zedKey.map bv).toArray 5)) := by
      show _ = _
      rw [heap_setCell_same _ _ _ _ _ _ HK2.out, List.setIfInBounds_toArray]
      rfl
    have R3 : Hid (Rd (w2.setCell ⟨p, 47, none⟩ (.int .u8 1)) (.slice a1 21 c1) (sealOf zed48 zed16 [] hello)) := Lib.hid (R1'.out.only O3 fun k hk _ e => by have := HB1.out k hk; have := HPL.out; omega)
    have R4 : Hid (Rd (w2.setCell ⟨p, 47, none⟩ (.int .u8 1)) (.slice a2 n2 c2) hello) := Lib.hid (R2.out.only O3 fun k hk _ e => by have := HB2.out k hk; have := HPL.out; omega)
    have R5 : Hid (Rd (w2.setCell ⟨p, 47, none⟩ (.int .u8 1)) (.slice (some ⟨q, 0, none⟩) 16 16) zed16) := Lib.hid ((HR.out.2.new NW2.out).only O3 fun k hk _ e => by cases hk; exact HI0.out.pq e.symm)
    have HN3 := Lib.hid N3
    clear HO r2 N2 hb2 hkey R1 R1' R2 N3 O3 HB1 HB2 NW1 HR HK2 NW2 HPL HI0
    generalize (zed48.getD 47 0) = z47 at hc
    go_upto_region 5 with fail
    clear hc hf
    generalize w2.setCell ⟨p, 47, none⟩ (.int .u8 1) = w3 at *
    have r6 : Rd w3 (.slice (some ⟨p, 0, none⟩) 48 48) zedKey := rd_of_row HK3.out (by decide)
    have HO := Lib.hid (sealOpen w3 _ _ (.slice none 0 0) _ zedKey zed16 [] _ r6 (by decide) R5.out (by decide) (Rd.nil _) (by decide) R3.out (by rw [sealOf_length]; decide) (HL.out.new HN3.out))
    rw [zed_shut] at HO
    clear r6 R3 R5 HK3
    go_wp2_with fail
    refine HO.out.mono ?_
    rintro e w4 ⟨a4, n4, c4, rfl, -, N4, -⟩
    have ks := run_str (P := Tryd.prog) Tryd.underlying22 Tryd.underlying5 Tryd.underlying9 (R4.out.new N4)
    have kb : ((bstr hello).toList == [104, 101, 108, 108, 111]) = true := by rw [bstr_list]; decide
    clear HO R4
    generalize hello = H at *
    go_wp2
    go_ret
    exact ⟨rfl, New.trans HN3.out N4⟩

/-- the argument, as the law keeps it -/
def CaseAt (w : World) (g : Nat) (x y z v : Value) : Prop := w.heap[g]? = some (.cells #[x, y, z, v] 24)

theorem CaseAt.new {w w' : World} {g : Nat} {x y z v : Value} (h : CaseAt w g x y z v) (hn : New w w') : CaseAt w' g x y z v := (hn.block _ (lt_of_block h)).trans h

theorem CaseAt.cells {w : World} {g : Nat} {x y z v : Value} (h : CaseAt w g x y z v) :
    w.cell? ⟨g, 0, none⟩ = some x ∧ w.cell? ⟨g, 1, none⟩ = some y ∧ w.cell? ⟨g, 2, none⟩ = some z ∧ w.cell? ⟨g, 3, none⟩ = some v :=
  ⟨by rw [cell_of_row w g 0 _ _ _ h]; rfl, by rw [cell_of_row w g 1 _ _ _ h]; rfl, by rw [cell_of_row w g 2 _ _ _ h]; rfl, by rw [cell_of_row w g 3 _ _ _ h]; rfl⟩

set_option maxRecDepth 100000 in
set_option maxHeartbeats 400000 in
theorem small06 (w : World) (ax ay az av : Option Addr) (nx cx ny cy nz cz nv cv : Nat) : Calls Tryd.prog 7 #[.agg #[.slice ax nx cx, .slice ay ny cy, .slice az nz cz, .slice av nv cv]] w fun e w' => e = .returned (.bool (decide (nx ≤ 60 ∧ ny ≤ 30 ∧ nz ≤ 200 ∧ nv ≤ 400))) ∧ New w w' := by
  by_cases h0 : nx ≤ 60
  · have d0 : decide ((nx : Int) ≤ 60) = true := by simp; omega
    by_cases h1 : ny ≤ 30
    · have d1 : decide ((ny : Int) ≤ 30) = true := by simp; omega
      by_cases h2 : nz ≤ 200
      · have d2 : decide ((nz : Int) ≤ 200) = true := by simp; omega
        by_cases h3 : nv ≤ 400
        · have d3 : decide ((nv : Int) ≤ 400) = true := by simp; omega
          have dd : decide (nx ≤ 60 ∧ ny ≤ 30 ∧ nz ≤ 200 ∧ nv ≤ 400) = true := by simp [h0, h1, h2, h3]
          rw [dd]
          clear dd h0 h1 h2 h3
          go_enter Tryd.func7, Tryd.ntmps7
          go_wp2
          go_ret
          exact ⟨rfl, (Below.refl _ _).alloc (Nat.le_refl _) _⟩
        · have d3 : decide ((nv : Int) ≤ 400) = false := by simp; omega
          have dd : decide (nx ≤ 60 ∧ ny ≤ 30 ∧ nz ≤ 200 ∧ nv ≤ 400) = false := by simp [h0, h1, h2, h3]
          rw [dd]
          clear dd h0 h1 h2 h3
          go_enter Tryd.func7, Tryd.ntmps7
          go_wp2
          go_ret
          exact ⟨rfl, (Below.refl _ _).alloc (Nat.le_refl _) _⟩
      · have d2 : decide ((nz : Int) ≤ 200) = false := by simp; omega
        have dd : decide (nx ≤ 60 ∧ ny ≤ 30 ∧ nz ≤ 200 ∧ nv ≤ 400) = false := by simp [h0, h1, h2]
        rw [dd]
        clear dd h0 h1 h2
        go_enter Tryd.func7, Tryd.ntmps7
        go_wp2
        go_ret
        exact ⟨rfl, (Below.refl _ _).alloc (Nat.le_refl _) _⟩
    · have d1 : decide ((ny : Int) ≤ 30) = false := by simp; omega
      have dd : decide (nx ≤ 60 ∧ ny ≤ 30 ∧ nz ≤ 200 ∧ nv ≤ 400) = false := by simp [h0, h1]
      rw [dd]
      clear dd h0 h1
      go_enter Tryd.func7, Tryd.ntmps7
      go_wp2
      go_ret
      exact ⟨rfl, (Below.refl _ _).alloc (Nat.le_refl _) _⟩
  · have d0 : decide ((nx : Int) ≤ 60) = false := by simp; omega
    have dd : decide (nx ≤ 60 ∧ ny ≤ 30 ∧ nz ≤ 200 ∧ nv ≤ 400) = false := by simp [h0]
    rw [dd]
    clear dd h0
    go_enter Tryd.func7, Tryd.ntmps7
    go_wp2
    go_ret
    exact ⟨rfl, (Below.refl _ _).alloc (Nat.le_refl _) _⟩

end Go.Proofs.YtgbgdbfiplmciaaDoor
