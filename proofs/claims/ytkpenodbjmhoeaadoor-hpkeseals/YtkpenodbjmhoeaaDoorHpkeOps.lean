/-
  hpke.Seal, hpke.Open.
-/
import Derived.Test.YtkpenodbjmhoeaaDoorHpkeDer
import Derived.Test.YtkpenodbjmhoeaaDoorCell2
namespace Go.Proofs.YtkpenodbjmhoeaaDoor
set_option linter.unusedVariables false
set_option linter.unusedSimpArgs false
open Go.RowKit

/-- what Seal gives: its text is new memory -/
def SealTo (w : World) (p : Nat) (info beside t draw : List UInt8) (e : Ending) (w' : World) : Prop :=
  ∃ a n c, e = .returned (.tuple #[.agg #[.int .u64 (hsFrom p draw : Int), .slice a n c], .int .i64 (hsErr p)]) ∧ Rd w' (.slice a n c) (hsText p info beside t draw) ∧ New w w' ∧ ∀ k, blk (.slice a n c) = some k → w.heap.size ≤ k

set_option maxRecDepth 100000 in
set_option maxHeartbeats 1000000 in
theorem hpkeSeal (w : World) (xi xb xt xd : Value) (p : Nat) (info beside t draw : List UInt8) (hp : p < 18446744073709551616) (hi : Rd w xi info) (hil : info.length ≤ 65535) (hb : Rd w xb beside) (hbl : beside.length ≤ 1000000) (ht : Rd w xt t) (htl : t.length ≤ 1000000) (hd : Rd w xd draw) (hdl : draw.length ≤ 1099511627776) (hL : Laid w) :
    Calls Tryd.prog 9 #[.int .u64 (p : Int), xi, xb, xt, xd] w (SealTo w p info beside t draw) := by
  have HI := Lib.hid hi
  have HB := Lib.hid hb
  have HT := Lib.hid ht
  have HD := Lib.hid hd
  have HL := Lib.hid hL
  obtain ⟨ai, ni, ci, rfl, -⟩ := hi
  obtain ⟨ab, nb, cb, rfl, -⟩ := hb
  obtain ⟨at_, nt, ct, rfl, -⟩ := ht
  obtain ⟨ad, nd, cd, rfl, -⟩ := hd
  have HIL := Lib.hid hil
  have HBL := Lib.hid hbl
  have HTL := Lib.hid htl
  have HDL := Lib.hid hdl
  clear hL hil hbl htl hdl
  have HR := Lib.hid (fun wx => powRight wx p hp)
  by_cases hr : rightP p = true
  · have HF : Hid (hsFrom p draw = hFrom draw) := Lib.hid (if_pos hr)
    have HX : Hid (hsText p info beside t draw = hText p info beside t draw) := Lib.hid (if_pos hr)
    have HE : Hid (hsErr p = 0) := Lib.hid (if_pos hr)
    rw [hr] at HR
    clear hr
    have HXE : Hid (hText p info beside t draw = sealOf (hKey (hSh p draw) (hFrom draw) p info) (hNon (hSh p draw) (hFrom draw) p info) beside t) := Lib.hid rfl
    have HK := Lib.hid (fun wx h hl => powKey wx (.slice ad nd cd) draw h HDL.out hl)
    have hkl := (keyOfSec_le draw).2
    have HP : Hid (∀ wx, Calls Tryd.prog 27 #[.int .u64 (keyOfSec draw : Int)] wx fun e w' => e = .returned (.int .u64 (hFrom draw : Int)) ∧ New wx w') := Lib.hid (fun wx => powPublic wx (keyOfSec draw) (by omega))
    have HS : Hid (∀ wx, Calls Tryd.prog 29 #[.int .u64 (keyOfSec draw : Int), .int .u64 (p : Int)] wx (OctTo wx (hSh p draw))) := Lib.hid (fun wx => powShared wx (keyOfSec draw) p (by omega) hp)
    have hfl := hFrom_lt draw
    have HSL := Lib.hid (hSh_length p draw)
    have HKL := Lib.hid (hKey_length (hSh p draw) (hFrom draw) p info)
    have HNL := Lib.hid (hNon_length (hSh p draw) (hFrom draw) p info)
    have HV := Lib.hid (fun wx v h1 h2 h3 => hpkeDerived wx v (.slice ai ni ci) (hSh p draw) info (hFrom draw) p hfl hp h1 (by rw [HSL.out]; decide) h2 HIL.out h3)
    generalize hKey (hSh p draw) (hFrom draw) p info = KEY at *
    generalize hNon (hSh p draw) (hFrom draw) p info = NON at *
    generalize hSh p draw = SH at *
    generalize hFrom draw = FR at *
    generalize keyOfSec draw = KS at *
    go_enter Tryd.func9, Tryd.ntmps9
    go_wp2_with fail
    generalize hw1 : World.alloc w _ = w1
    have HC1 : Hid (At2 w1 w.heap.size 29 (.int .u64 0) (.slice none 0 0)) := Lib.hid (by rw [← hw1]; exact heap_alloc_new _ _)
    have N1 : New w w1 := by rw [← hw1]; exact (Below.refl _ _).alloc (Nat.le_refl _) _
    clear hw1
    refine (HR.out w1).mono ?_
    rintro e w2 ⟨rfl, rfl⟩
    go_wp2_with fail
    refine (HK.out w1 (HD.out.new N1) (HL.out.new N1)).mono ?_
    rintro e w2 ⟨rfl, N2⟩
    have NN2 := New.trans N1 N2
    go_wp2_with fail
    refine (HP.out w2).mono ?_
    rintro e w3 ⟨rfl, N3⟩
    have NN3 := New.trans NN2 N3
    have HC3 := Lib.hid (HC1.out.new (New.trans N2 N3))
    clear HC1 N1 N2 N3 NN2 HR HK HP
    go_wp2_with fail
    refine (HS.out w3).mono ?_
    rintro e w4 ⟨a4, c4, rfl, r4, -, N4⟩
    have R4 := Lib.hid r4
    have NN4 := New.trans NN3 N4
    have HC4 := Lib.hid (HC3.out.new N4)
    rw [HSL.out] at R4 ⊢
    clear HC3 N4 NN3 r4 HS
    go_wp2_with fail
    refine (HV.out w4 _ R4.out (HI.out.new NN4) (HL.out.new NN4)).mono ?_
    rintro e w5 ⟨a5, c5, b5, d5, rfl, r5, s5, N5⟩
    have R5 := Lib.hid r5
    have S5 := Lib.hid s5
    have NN5 := New.trans NN4 N5
    have HC5 := Lib.hid (HC4.out.new N5)
    clear HC4 N5 NN4 r5 s5 HV R4
    go_wp2_with fail
    refine (sealSeal w5 _ _ _ _ KEY NON beside t R5.out HKL.out S5.out HNL.out (HB.out.new NN5) HBL.out (HT.out.new NN5) HTL.out (HL.out.new NN5)).mono ?_
    rintro e w6 ⟨a6, n6, c6, rfl, r6, -, N6, hb6⟩
    rw [← HXE.out] at r6
    have HC6 := Lib.hid (HC5.out.new N6)
    have NN6 := New.trans NN5 N6
    have HG : Hid (w.heap.size < w5.heap.size) := Lib.hid (lt_of_block HC5.out)
    have HG2 : Hid (At2 ((w6.setCell ⟨w.heap.size, 0, none⟩ (.int .u64 (FR : Int))).setCell ⟨w.heap.size, 1, none⟩ (.slice a6 n6 c6)) w.heap.size 29 (.int .u64 (FR : Int)) (.slice a6 n6 c6)) := Lib.hid (set2 _ _ HC6.out)
    have R6 : Hid (Rd ((w6.setCell ⟨w.heap.size, 0, none⟩ (.int .u64 (FR : Int))).setCell ⟨w.heap.size, 1, none⟩ (.slice a6 n6 c6)) (.slice a6 n6 c6) (hText p info beside t draw)) := Lib.hid (r6.only (set2_only w6 w.heap.size _ _) fun k hk _ e => by have := hb6 k hk; have := HG.out; omega)
    have NN7 : New w ((w6.setCell ⟨w.heap.size, 0, none⟩ (.int .u64 (FR : Int))).setCell ⟨w.heap.size, 1, none⟩ (.slice a6 n6 c6)) := set2_new _ _ NN6 (Nat.le_refl _)
    have HB6 : Hid (∀ k, blk (.slice a6 n6 c6) = some k → w.heap.size ≤ k) := Lib.hid fun k hk => by have := hb6 k hk; have := HG.out; omega
    obtain ⟨c0, c1⟩ := HC6.out.cells
    obtain ⟨f0, f1⟩ := HC6.out.frozen
    clear HC5 N6 NN5 r6 hb6 HG R5 S5 HC6 NN6
    go_wp2
    refine bodyPost_ret (results_cell_tmp rfl _ _ w.heap.size _ _ _ _ rfl HG2.out Tryd.underlying29 rfl (by kernel_rfl)) rfl ?_
    exact ⟨a6, n6, c6, by rw [HF.out, HE.out]; rfl, by rw [HX.out]; exact R6.out, NN7, HB6.out⟩
  · have hr' : rightP p = false := by simpa using hr
    have HF : Hid (hsFrom p draw = 0) := Lib.hid (if_neg hr)
    have HX : Hid (hsText p info beside t draw = []) := Lib.hid (if_neg hr)
    have HE : Hid (hsErr p = 30) := Lib.hid (if_neg hr)
    rw [hr'] at HR
    clear hr hr'
    go_enter Tryd.func9, Tryd.ntmps9
    go_wp2_with fail
    generalize hw1 : World.alloc w _ = w1
    have HC1 : Hid (At2 w1 w.heap.size 29 (.int .u64 0) (.slice none 0 0)) := Lib.hid (by rw [← hw1]; exact heap_alloc_new _ _)
    have N1 : New w w1 := by rw [← hw1]; exact (Below.refl _ _).alloc (Nat.le_refl _) _
    clear hw1
    refine (HR.out w1).mono ?_
    rintro e w2 ⟨rfl, rfl⟩
    obtain ⟨c0, c1⟩ := HC1.out.cells
    obtain ⟨f0, f1⟩ := HC1.out.frozen
    go_wp2
    refine bodyPost_ret (results_cell_tmp rfl _ _ w.heap.size _ _ _ _ rfl (set2 _ _ HC1.out) Tryd.underlying29 rfl (by kernel_rfl)) rfl ?_
    exact ⟨none, 0, 0, by rw [HF.out, HE.out]; rfl, by rw [HX.out]; exact Rd.nil _, set2_new _ _ N1 (Nat.le_refl _), fun k hk => by cases hk⟩

end Go.Proofs.YtkpenodbjmhoeaaDoor
