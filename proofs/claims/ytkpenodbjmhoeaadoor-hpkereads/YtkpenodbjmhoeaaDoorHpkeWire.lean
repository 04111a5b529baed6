/-
  hpke.Write, hpke.Read.
-/
import Derived.Test.YtkpenodbjmhoeaaDoorHpkeSpec
import Derived.Test.YtkpenodbjmhoeaaDoorWireMath
import Derived.Test.YtkpenodbjmhoeaaDoorCell2
namespace Go.Proofs.YtkpenodbjmhoeaaDoor
set_option linter.unusedVariables false
set_option linter.unusedSimpArgs false
open Go.RowKit

/-- what a reader fails with behind From -/
def hrErr1 (r : List UInt8) (err : Int) : Int := if rightP (eNum 8 r err) = true then (eTake (8 : Nat) r err).2.2 else eFail (eTake (8 : Nat) r err).2.2 30
/-- what is read as Text -/
def hrT (most : Int) (r : List UInt8) (err : Int) : List UInt8 × List UInt8 × Int := eText 2 most (eTake (8 : Nat) r err).2.1 (hrErr1 r err)
def hrFrom (most : Int) (r : List UInt8) (err : Int) : Nat := if (hrT most r err).2.2 = 0 then eNum 8 r err else 0
def hrText (most : Int) (r : List UInt8) (err : Int) : List UInt8 := if (hrT most r err).2.2 = 0 then (hrT most r err).1 else []

/-- what Write writes -/
def hwOf (f : Nat) (l : List UInt8) : List UInt8 := be 8 f ++ (be 2 l.length ++ l)

theorem hwOf_length (f : Nat) (l : List UInt8) : (hwOf f l).length = l.length + 10 := by
  unfold hwOf; rw [List.length_append, List.length_append, be_length, be_length]; omega

/-- what was written is read -/
theorem hr_back (f : Nat) (l : List UInt8) (most : Int) (hf : f < 18446744073709551616) (hr : rightP f = true) (hl : l.length < 65536) (hm : (l.length : Int) ≤ most) :
    hrFrom most (hwOf f l) 0 = f ∧ hrText most (hwOf f l) 0 = l := by
  obtain ⟨h1, h2⟩ := eNum_ok 8 f (be 2 l.length ++ l) hf
  have e1 : hrErr1 (hwOf f l) 0 = 0 := by unfold hrErr1 hwOf; rw [h1, if_pos hr, h2]
  have e2 : hrT most (hwOf f l) 0 = (l, [], 0) := by
    unfold hrT
    rw [e1]
    unfold hwOf
    rw [h2]
    have := eText_ok 2 most l [] (by simpa using hl) hm
    rw [List.append_nil] at this
    exact this
  unfold hrFrom hrText
  rw [e2]
  refine ⟨?_, rfl⟩
  rw [if_pos rfl]
  exact h1

set_option maxHeartbeats 400000 in
theorem hpkeWrite (w : World) (p : Nat) (g : Option Nat) (s : Option (List UInt8)) (h : Pen w p g s) (f : Nat) (hf : f < 18446744073709551616) (x : Value) (l : List UInt8) (hx : Rd w x l) (hd : l ≠ [] → blk x ≠ some p ∧ (blk x ≠ none → blk x ≠ g)) (hs : Fit s (l.length + 100)) :
    Calls Tryd.prog 17 #[.pointer (some ⟨p, 0, none⟩), .agg #[.int .u64 (f : Int), x]] w (PenTo w p g (wText 2 l (s.map (· ++ be 8 f)))) := by
  have HX := Lib.hid hx
  obtain ⟨ax, nx, cx, rfl, -⟩ := hx
  have HP := Lib.hid h
  have HS := Lib.hid hs
  have HD := Lib.hid hd
  clear h hs hd
  go_enter Tryd.func17, Tryd.ntmps17
  go_wp2_with fail
  generalize hw1 : World.alloc w _ = w1
  have HC1 : Hid (At2 w1 w.heap.size 29 (.int .u64 (f : Int)) (.slice ax nx cx)) := Lib.hid (by rw [← hw1]; exact heap_alloc_new _ _)
  have N1 : New w w1 := by rw [← hw1]; exact (Below.refl _ _).alloc (Nat.le_refl _) _
  clear hw1
  have HP1 := Lib.hid (HP.out.new N1)
  have HG : Hid (¬ (w.heap.size = p ∨ some w.heap.size = g)) := Lib.hid (by
    rintro (e | e)
    · have := HP.out.lt.1; omega
    · have := HP.out.lt.2 _ e.symm; omega)
  refine (penU64 w1 p g s (f : Int) HP1.out (by omega) (by omega) (fun l' h => by have := HS.out l' h; omega)).mono ?_
  rintro e w2 ⟨rfl, ho, g2, P2, hg2⟩
  rw [Int.toNat_natCast] at P2
  have HC2 := Lib.hid (HC1.out.only ho HG.out)
  have R2 := Lib.hid ((HX.out.new N1).only ho (fun k hk hne e => by
    rcases e with e | e
    · exact (HD.out hne).1 (by rw [hk, e])
    · exact (HD.out hne).2 (by rw [hk]; simp) (by rw [hk, e])))
  have HD2 : Hid (l ≠ [] → blk (.slice ax nx cx) ≠ some p ∧ (blk (.slice ax nx cx) ≠ none → blk (.slice ax nx cx) ≠ g2)) := Lib.hid (fun hne => ⟨(HD.out hne).1, fun hn => by
    rcases hg2 with e | ⟨k, e, hk⟩
    · rw [e]; exact (HD.out hne).2 hn
    · rw [e]
      intro hb
      have := HX.out.lt hb hne
      have := N1.size
      omega⟩)
  have P2' := Lib.hid P2
  have hg1 : g2 = g ∨ ∃ k, g2 = some k ∧ w.heap.size ≤ k := by
    rcases hg2 with e | ⟨k, e, hk⟩
    · exact .inl e
    · exact .inr ⟨k, e, Nat.le_trans N1.size hk⟩
  have O2 : Only (fun k => k = p ∨ some k = g) w w2 := (New.only N1).trans ho (fun _ _ h => h)
  have HF2 : Hid (Fit (s.map (· ++ be 8 f)) (l.length + 8)) := Lib.hid (by
    intro l' h'
    cases s with
    | none => cases h'
    | some m => cases h'; have := HS.out m rfl; rw [List.length_append, be_length]; omega)
  clear ho P2 hg2 HC1 HP1 HG HP N1
  obtain ⟨c0, c1⟩ := HC2.out.cells
  go_wp2_with fail
  refine (penLong w2 p g2 _ _ l P2'.out R2.out HD2.out HF2.out).mono ?_
  rintro e w3 ⟨rfl, P3⟩
  have HR3 := Lib.hid (PenIn.trans O2 hg1 P3 P2'.out)
  clear P3 c0 c1 O2 hg1
  go_wp2
  go_end0
  exact ⟨rfl, HR3.out⟩

def ReadTo (w : World) (p : Nat) (d : Option Nat) (most : Int) (r : List UInt8) (err : Int) (e : Ending) (w' : World) : Prop :=
  ∃ a n c, e = .returned (.agg #[.int .u64 (hrFrom most r err : Int), .slice a n c]) ∧ Rd w' (.slice a n c) (hrText most r err) ∧ EyeTo w p d (hrT most r err).2.1 (hrT most r err).2.2 w' ∧ ∀ k, blk (.slice a n c) = some k → hrText most r err ≠ [] → w.heap.size ≤ k


set_option maxRecDepth 100000 in
set_option maxHeartbeats 1000000 in
theorem hpkeRead (w : World) (p : Nat) (d : Option Nat) (r : List UInt8) (err most : Int) (h : Eye w p d r err) (hd : ∀ k, d = some k → k < w.heap.size) (hb : r.length ≤ 140737488355328) :
    Calls Tryd.prog 20 #[.pointer (some ⟨p, 0, none⟩), .int .i64 most] w (ReadTo w p d most r err) := by
  have HE := Lib.hid h
  have HD := Lib.hid hd
  have HRL := Lib.hid hb
  clear h hd hb
  have hlt : eNum 8 r err < 18446744073709551616 := eNum_lt 8 r err
  have HR := Lib.hid (fun wx => powRight wx (eNum 8 r err) hlt)
  have HT : Hid (hrT most r err = eText 2 most (eTake (8 : Nat) r err).2.1 (hrErr1 r err)) := Lib.hid rfl
  have HPW : Hid (p < w.heap.size) := Lib.hid (by obtain ⟨v, hp, -⟩ := HE.out; exact lt_of_block hp)
  go_enter Tryd.func20, Tryd.ntmps20
  go_wp2_with fail
  generalize hw1 : World.alloc w _ = w1
  have HC1 : Hid (At2 w1 w.heap.size 29 (.int .u64 0) (.slice none 0 0)) := Lib.hid (by rw [← hw1]; exact heap_alloc_new _ _)
  have N1 : New w w1 := by rw [← hw1]; exact (Below.refl _ _).alloc (Nat.le_refl _) _
  have hz1 : w.heap.size < w1.heap.size := by rw [← hw1]; simp
  clear hw1
  have O1 : Only (fun k => k = p) w w1 := New.only N1
  have HGP : Hid (¬ w.heap.size = p) := Lib.hid (by have := HPW.out; omega)
  have HGD : Hid (∀ k, d = some k → ¬ k = w.heap.size) := Lib.hid (fun k hk e => by have := HD.out k hk; omega)
  have hgw : w.heap.size ≤ w.heap.size := Nat.le_refl _
  obtain ⟨g, hg⟩ : ∃ g, w.heap.size = g := ⟨_, rfl⟩
  rw [hg] at HC1 HGP HGD hz1
  rw [hg]
  have hgw : w.heap.size ≤ g := by omega
  clear hg
  refine (eyeU64 w1 p d r err (HE.out.new N1)).mono ?_
  rintro e w2 ⟨rfl, E2⟩
  have HE2 := Lib.hid E2
  clear E2 HE N1
  go_wp2_with fail
  refine (HR.out w2).mono ?_
  rintro e w3 ⟨rfl, rfl⟩
  by_cases hr : rightP (eNum 8 r err) = true
  · have HE1 : Hid (hrErr1 r err = (eTake (8 : Nat) r err).2.2) := Lib.hid (if_pos hr)
    rw [hr]
    obtain ⟨wf, hwf⟩ : ∃ wf, wf = w2 := ⟨_, rfl⟩
    rw [← hwf] at HE2
    rw [← hwf]
    have HEf := HE2
    clear hwf hr HE2
    go_wp2_with fail
    refine (eyeLong wf p d _ _ most HEf.out.1 (Nat.le_trans (eTake_rest _ _ _) HRL.out)).mono ?_
    rintro e w4 ⟨a4, n4, c4, rfl, r4, o4, E4⟩
    rw [← HE1.out] at r4 o4 E4
    rw [← HT.out] at r4 o4 E4
    have HE4 := Lib.hid (HEf.out.trans E4)
    have R4 := Lib.hid r4
    have hz4 : w1.heap.size ≤ wf.heap.size := HEf.out.2.size
    have HAP : Hid (∀ k, blk (.slice a4 n4 c4) = some k → (hrT most r err).1 ≠ [] → ¬ k = g ∧ w.heap.size ≤ k) := Lib.hid fun k hk hne => by
      have := own_from (o4 hne) k hk
      omega
    have HC4 := Lib.hid (HC1.out.only HE4.out.2 HGP.out)
    clear r4 o4 E4 HEf hz4
    go_wp2_with fail
    refine (eyeErr w4 p d _ _ HE4.out.1).mono ?_
    rintro e w5 ⟨rfl, rfl⟩
    have HEW : Hid (∀ u v, EyeTo w p d (hrT most r err).2.1 (hrT most r err).2.2 ((w4.setCell ⟨g, 0, none⟩ u).setCell ⟨g, 1, none⟩ v)) := Lib.hid fun u v =>
      ⟨HE4.out.1.only (set2_only w4 g u v) (fun e => HGP.out e.symm) HGD.out, ((O1.trans HE4.out.2 (fun _ _ h => h)).setCell (p := ⟨g, 0, none⟩) (fun (h : g < w.heap.size) => absurd h (Nat.not_lt.2 hgw)) u).setCell (p := ⟨g, 1, none⟩) (fun (h : g < w.heap.size) => absurd h (Nat.not_lt.2 hgw)) v⟩
    obtain ⟨c0, c1⟩ := HC4.out.cells
    obtain ⟨f0, f1⟩ := HC4.out.frozen
    by_cases he : (hrT most r err).2.2 = 0
    · have HF : Hid (hrFrom most r err = eNum 8 r err) := Lib.hid (if_pos he)
      have HX : Hid (hrText most r err = (hrT most r err).1) := Lib.hid (if_pos he)
      rw [he]
      have R5 : Hid (Rd ((w4.setCell ⟨g, 0, none⟩ (.int .u64 (eNum 8 r err : Int))).setCell ⟨g, 1, none⟩ (.slice a4 n4 c4)) (.slice a4 n4 c4) (hrT most r err).1) := Lib.hid (R4.out.only (set2_only w4 g _ _) fun k hk hne e => (HAP.out k hk hne).1 e)
      clear R4 he HT HE1
      generalize eNum 8 r err = FR at *
      go_wp2
      refine bodyPost_ret (results_cell_row rfl _ _ g _ _ _ _ rfl (set2 _ _ HC4.out) Tryd.underlying29 rfl (by kernel_rfl)) rfl ?_
      exact ⟨a4, n4, c4, by rw [HF.out], by rw [HX.out]; exact R5.out, HEW.out _ _, fun k hk hne => (HAP.out k hk (by rw [← HX.out]; exact hne)).2⟩
    · have HF : Hid (hrFrom most r err = 0) := Lib.hid (if_neg he)
      have HX : Hid (hrText most r err = []) := Lib.hid (if_neg he)
      have hne : ((hrT most r err).2.2 != 0) = true := by simpa using he
      clear he HT HE1
      generalize eNum 8 r err = FR at *
      go_wp2
      refine bodyPost_ret (results_cell_row rfl _ _ g _ _ _ _ rfl (set2 _ _ HC4.out) Tryd.underlying29 rfl (by kernel_rfl)) rfl ?_
      exact ⟨none, 0, 0, by rw [HF.out]; rfl, by rw [HX.out]; exact Rd.nil _, HEW.out _ _, fun k hk => by cases hk⟩
  · have hr' : rightP (eNum 8 r err) = false := by simpa using hr
    have HE1 : Hid (hrErr1 r err = eFail (eTake (8 : Nat) r err).2.2 30) := Lib.hid (if_neg hr)
    rw [hr']
    clear hr hr'
    go_wp2_with fail
    refine (eyeFail w2 p d _ _ 30 HE2.out.1).mono ?_
    rintro e wf ⟨rfl, E3⟩
    have HEf := Lib.hid (HE2.out.trans E3)
    clear E3 HE2
    go_wp2_with fail
    refine (eyeLong wf p d _ _ most HEf.out.1 (Nat.le_trans (eTake_rest _ _ _) HRL.out)).mono ?_
    rintro e w4 ⟨a4, n4, c4, rfl, r4, o4, E4⟩
    rw [← HE1.out] at r4 o4 E4
    rw [← HT.out] at r4 o4 E4
    have HE4 := Lib.hid (HEf.out.trans E4)
    have R4 := Lib.hid r4
    have hz4 : w1.heap.size ≤ wf.heap.size := HEf.out.2.size
    have HAP : Hid (∀ k, blk (.slice a4 n4 c4) = some k → (hrT most r err).1 ≠ [] → ¬ k = g ∧ w.heap.size ≤ k) := Lib.hid fun k hk hne => by
      have := own_from (o4 hne) k hk
      omega
    have HC4 := Lib.hid (HC1.out.only HE4.out.2 HGP.out)
    clear r4 o4 E4 HEf hz4
    go_wp2_with fail
    refine (eyeErr w4 p d _ _ HE4.out.1).mono ?_
    rintro e w5 ⟨rfl, rfl⟩
    have HEW : Hid (∀ u v, EyeTo w p d (hrT most r err).2.1 (hrT most r err).2.2 ((w4.setCell ⟨g, 0, none⟩ u).setCell ⟨g, 1, none⟩ v)) := Lib.hid fun u v =>
      ⟨HE4.out.1.only (set2_only w4 g u v) (fun e => HGP.out e.symm) HGD.out, ((O1.trans HE4.out.2 (fun _ _ h => h)).setCell (p := ⟨g, 0, none⟩) (fun (h : g < w.heap.size) => absurd h (Nat.not_lt.2 hgw)) u).setCell (p := ⟨g, 1, none⟩) (fun (h : g < w.heap.size) => absurd h (Nat.not_lt.2 hgw)) v⟩
    obtain ⟨c0, c1⟩ := HC4.out.cells
    obtain ⟨f0, f1⟩ := HC4.out.frozen
    by_cases he : (hrT most r err).2.2 = 0
    · have HF : Hid (hrFrom most r err = eNum 8 r err) := Lib.hid (if_pos he)
      have HX : Hid (hrText most r err = (hrT most r err).1) := Lib.hid (if_pos he)
      rw [he]
      have R5 : Hid (Rd ((w4.setCell ⟨g, 0, none⟩ (.int .u64 (eNum 8 r err : Int))).setCell ⟨g, 1, none⟩ (.slice a4 n4 c4)) (.slice a4 n4 c4) (hrT most r err).1) := Lib.hid (R4.out.only (set2_only w4 g _ _) fun k hk hne e => (HAP.out k hk hne).1 e)
      clear R4 he HT HE1
      generalize eNum 8 r err = FR at *
      go_wp2
      refine bodyPost_ret (results_cell_row rfl _ _ g _ _ _ _ rfl (set2 _ _ HC4.out) Tryd.underlying29 rfl (by kernel_rfl)) rfl ?_
      exact ⟨a4, n4, c4, by rw [HF.out], by rw [HX.out]; exact R5.out, HEW.out _ _, fun k hk hne => (HAP.out k hk (by rw [← HX.out]; exact hne)).2⟩
    · have HF : Hid (hrFrom most r err = 0) := Lib.hid (if_neg he)
      have HX : Hid (hrText most r err = []) := Lib.hid (if_neg he)
      have hne : ((hrT most r err).2.2 != 0) = true := by simpa using he
      clear he HT HE1
      generalize eNum 8 r err = FR at *
      go_wp2
      refine bodyPost_ret (results_cell_row rfl _ _ g _ _ _ _ rfl (set2 _ _ HC4.out) Tryd.underlying29 rfl (by kernel_rfl)) rfl ?_
      exact ⟨none, 0, 0, by rw [HF.out]; rfl, by rw [HX.out]; exact Rd.nil _, HEW.out _ _, fun k hk => by cases hk⟩

end Go.Proofs.YtkpenodbjmhoeaaDoor
