/-
  LogKeeps' walk.
-/
import Derived.Test.YtijkmpcgkhijgaaGreatDoorLaw15
import Derived.Test.YtijkmpcgkhijgaaGreatDoorRefTxt
import Derived.Test.YtijkmpcgkhijgaaGreatDoorOpen
import Derived.Test.YtijkmpcgkhijgaaGreatDoorArg13
namespace Go.Proofs.YtijkmpcgkhijgaaGreatDoor
set_option linter.unusedVariables false
set_option linter.unusedSimpArgs false
set_option maxRecDepth 100000
open Go.RowKit

/-- the log that Open makes has what the region tells -/
theorem ldS_has (B : List UInt8) (z N : Nat) : (ldS B z N).ts = (lgTold B z N 0 lgStart).ts ∧ (ldS B z N).ch = (lgTold B z N 0 lgStart).ch := by
  unfold ldS PLg.settle
  dsimp only
  exact ⟨(PLg.of_ch _ _).2, (PLg.of_ch _ _).1⟩

/-- a log whose texts are few and short -/
theorem lgTextsOf {w : World} {F : Nat → Prop} {p g frm N sz : Nat} {s : PLg} (h : LogM w F p g frm N sz s) (h1 : s.ts.length ≤ 1000000) (h2 : okTexts s.ts) :
    Calls Tryz.prog 19 #[.pointer (some ⟨p, 0, none⟩)] w (LTextsTo w s.ts) := by
  obtain ⟨vch, vts, vtl, ps, h⟩ := h
  refine lgTexts h (by rw [h.len]; exact h1) (fun q hq => ?_)
  have : q.2 ∈ s.ts := by rw [← h.pst]; exact List.mem_map_of_mem hq
  have := h2 _ this
  omega

theorem lgChainOf {w : World} {F : Nat → Prop} {p g frm N sz : Nat} {s : PLg} (h : LogM w F p g frm N sz s) :
    Calls Tryz.prog 21 #[.pointer (some ⟨p, 0, none⟩)] w (CloneNew w s.ch) := by
  obtain ⟨vch, vts, vtl, ps, h⟩ := h
  exact lgChain h

/-- a crash without a write that waits -/
theorem lwCrash {W wr : World} {sz N r g p : Nat} {q : Int} {s : PLg} {B Bd : List UInt8} {v : Value} {laid : List (List UInt8)} {X : Nat → Prop} (h : LwSt W sz N r g p q s B Bd v laid X wr) :
    Calls Tryz.prog 14 #[.pointer (some ⟨g, 0, none⟩), .slice none 0 0] wr fun e w' => (∃ x, e = .returned (.int .i64 x)) ∧ LwSt W sz N r g p (-1) s B Bd v laid X w' := by
  obtain ⟨D, ⟨F, G, h1, h2, h3, h4, h5⟩, h6⟩ := h.log
  refine (diskCrash h2 (.slice none 0 0) [] (RdV.nil _) (fun k hk => by simp [blk] at hk) (by simp) (by simp)).mono ?_
  rintro e w' ⟨he, ht⟩
  exact ⟨⟨_, he⟩, h.step (LogD.onDisk (H := LwH W r v X) h1 h3 h4 h5 ht) h6 h.ok⟩

/-- behind a second Open: both logs -/
structure LwEnd (W : World) (sz N r g p p2 : Nat) (s s2 : PLg) (v : Value) (laid : List (List UInt8)) (wr : World) : Prop where
  new : New W wr
  at_ : wr.cell? ⟨r, 1, none⟩ = some (.pointer (some ⟨p, 0, none⟩))
  own : wr.ownsRow W.heap.size 9 1 v laid.length (laid.map strV)
  one : ∃ F, LogM wr F p g 1 N sz s
  two : ∃ F, LogM wr F p2 g 1 N sz s2

theorem LwEnd.more {W wr wr' : World} {sz N r g p p2 : Nat} {s s2 : PLg} {v : Value} {laid : List (List UInt8)} (h : LwEnd W sz N r g p p2 s s2 v laid wr) (hn : New wr wr') : LwEnd W sz N r g p p2 s s2 v laid wr' := by
  obtain ⟨F, h1⟩ := h.one
  obtain ⟨F2, h2⟩ := h.two
  exact ⟨New.trans h.new hn, (World.cell?_of_block (hn.block _ (World.block_lt_of_cell? wr _ h.at_))).trans h.at_, own_more h.own hn, ⟨F, h1.new hn⟩, ⟨F2, h2.new hn⟩⟩

theorem lwOpen {W wr : World} {sz N r g p : Nat} {s : PLg} {B Bd : List UInt8} {v : Value} {laid : List (List UInt8)} {X : Nat → Prop} (h : LwSt W sz N r g p (-1) s B Bd v laid X wr) (hL : Laid W) (hb : 2 ≤ sz ∧ sz ≤ 10) (hN : 1 ≤ N ∧ N ≤ 10) :
    Calls Tryz.prog 17 #[.pointer (some ⟨g, 0, none⟩), .int .i64 1, .int .i64 (N : Int), .int .i64 (sz : Int)] wr fun e w' => ∃ p2, e = .returned (.tuple #[.pointer (some ⟨p2, 0, none⟩), .nilIface]) ∧ LwEnd W sz N r g p p2 s (ldS Bd (128 * sz) N) v laid w' := by
  obtain ⟨D, ⟨F, G, h1, h2, h3, h4, h5⟩, h6⟩ := h.log
  have hM : 128 * sz * N ≤ 128 * 10 * 10 := Nat.mul_le_mul (by omega) hN.2
  have h7 := lgOpen h2 1 N sz (by omega) (by omega) (Nat.le_refl _) (by omega) (fun w' hw => h.tables hL (fun k hk => (h5 k hk).1) hw)
  rw [show ((1 : Nat) : Int) = 1 from rfl] at h7
  refine h7.mono ?_
  rintro e w' ⟨p2, D', rfl, ⟨⟨F2, G2, h8, -⟩, h9⟩, -⟩
  rw [h6] at h8
  refine ⟨p2, rfl, Below.trans h.new (h9.below h.new.size (fun k hk => (h5 k hk).1)), ?_, ownsRow_only h.own h9 (fun k hk hg => (h5 k hg).2.2.1 hk), ⟨F, h1.only h9 (fun k hk hg => h3 k hk hg)⟩, ⟨F2, h8⟩⟩
  exact (World.cell?_of_block (h9.block r h.lt (fun hg => (h5 r hg).2.1 rfl))).trans h.cells.2

def LcR (r p b o k : Nat) (u : Value) (w : World) : Prop := w.cell? ⟨r, 1, none⟩ = some (.pointer (some ⟨p, 0, none⟩)) ∧ w.cell? ⟨b, o + k, none⟩ = some u
def LcR1 (r p : Nat) (w : World) : Prop := w.cell? ⟨r, 1, none⟩ = some (.pointer (some ⟨p, 0, none⟩))

set_option maxHeartbeats 4000000 in
theorem keepsLaw (w : World) (x : Value) (qs : List (Value × List UInt8)) (hx : RdL w x qs) (fl : Int) (hfl : 0 ≤ fl ∧ fl ≤ 255) (hL : Laid w) :
    Calls Tryz.prog 4 #[x, .int .u8 fl] w fun e w' => e = .returned (.bool true) ∧ New w w' := by
  have HX := Lib.hid hx
  have HLa := Lib.hid hL
  obtain ⟨ax, nx, cx, rfl, hn, hle, hmx, -⟩ := id hx.1
  rw [List.length_map] at hn
  unfold maxLen at hmx
  have he : ∀ (wx : World) (k : Nat), (binOp .eql 26 (.pointer (some ⟨k, 0, none⟩)) (.pointer none)).run Tryz.prog wx = .ok (.bool false) wx := fun _ _ => rfl
  by_cases h20 : 20 < nx
  · have h20' : (20 : Int) < (nx : Int) := by omega
    clear hn hle hmx h20
    clear hx hL
    go_enter Tryz.func4, Tryz.ntmps4
    go_wp2_with fail
    refine (awake15 w HLa.out).mono ?_
    rintro _ w1 ⟨rfl, N1⟩
    have HN1 := Lib.hid N1
    clear N1
    go_wp2_with fail
    refine (awake15 w1 (HLa.out.new HN1.out)).mono ?_
    rintro _ w2 ⟨rfl, N2⟩
    have HN2 := Lib.hid (New.trans HN1.out N2)
    clear N2
    go_wp2
    go_ret
    exact ⟨rfl, HN2.out⟩
  have h20' : ¬ (20 : Int) < (nx : Int) := by omega
  have HNx : Hid (nx ≤ 20 ∧ qs.length = nx) := Lib.hid ⟨by omega, hn⟩
  have hnx : nx ≤ 20 := by omega
  have hfl5 : fl.tmod 5 = fl % 5 := Int.tmod_eq_emod_of_nonneg hfl.1
  obtain ⟨m, Hm, hm1, hm2⟩ : ∃ m : Nat, Hid ((1 : Int) + fl.tmod 5 = (m : Int)) ∧ 1 ≤ m ∧ m ≤ 5 := by
    have : fl.tmod 5 = fl % 5 := Int.tmod_eq_emod_of_nonneg hfl.1
    exact ⟨(1 + fl.tmod 5).toNat, Lib.hid (by omega), by omega, by omega⟩
  have HM1 : Hid ((1 : Int) + fl % 5 = (m : Int)) := Lib.hid (by have := Hm.out; omega)
  clear hn hle hmx h20
  clear hx hL
  go_enter Tryz.func4, Tryz.ntmps4
  go_wp2_with fail
  refine (awake15 w HLa.out).mono ?_
  rintro _ w1 ⟨rfl, N1⟩
  have HN1 := Lib.hid N1
  clear N1
  have HOp := Lib.hid (opened15 w1 3 3 (by decide) (by decide) (HLa.out.new HN1.out))
  rw [show ((3 : Nat) : Int) = 3 from rfl] at HOp
  go_wp2_with fail
  refine HOp.out.mono ?_
  rintro _ w2 ⟨r, g, p, s0, B0, rfl, hno, hst⟩
  have HS0 := Lib.hid (hst.base HN1.out)
  have HT0 : Hid (s0.ts = []) := Lib.hid (by rw [hno.1])
  clear hno hst HOp HN1
  go_wp2
  go_loopw [6, 7, 8] (fun v i _ wr => ∃ (k : Nat) (s : PLg) (B Bd : List UInt8) (laid : List (List UInt8)), k ≤ nx ∧ i = .int .i64 k ∧ laid.length ≤ k ∧ s.ts = laid ∧ LwSt w 3 3 r g p (-1) s B Bd v laid (fun _ => False) wr) (fun _ i _ _ => nx - (intOf i).toNat)
  case atStart => exact ⟨0, s0, _, _, [], Nat.zero_le _, rfl, Nat.le_refl _, HT0.out, HS0.out⟩
  case round =>
    clear HS0 HT0 s0 B0 h20'
    obtain ⟨k, s, B, Bd, laid, hk, rfl, hlk, hts, hst⟩ := hrel
    have HTs := Lib.hid hts
    have HS := Lib.hid hst
    have HLk := Lib.hid hlk
    clear hts hst hlk
    by_cases hlt : k < nx
    rotate_left
    · obtain rfl : k = nx := by omega
      have hli : ¬ (k : Int) < (k : Int) := by omega
      obtain ⟨av, cv, rfl, -⟩ := ownSl_form HS.out.own
      obtain ⟨x0, x1⟩ := HS.out.cells
      have HFl := Lib.hid (lwFlush HS.out (by decide) (by decide))
      clear hlt Hm HM1 hm1 hm2 hfl5
      go_wp2_with fail
      refine HFl.out.mono ?_
      rintro _ w3 ⟨rfl, s3, Bd3, hst3, h3, h4, -⟩
      have HS3 := Lib.hid hst3
      have HT3 : Hid (s3.ts = laid) := Lib.hid (h3.trans HTs.out)
      have HSu3 := Lib.hid h4
      clear hst3 h3 h4 HFl x0 x1 HS
      obtain ⟨x0, x1⟩ := HS3.out.cells
      obtain ⟨F, vch, vts, vtl, ps, ho⟩ := HS3.out.obj
      have HSu := Lib.hid (lgSure ho)
      rw [HSu3.out, HT3.out] at HSu
      clear ho
      go_wp2_with fail
      refine HSu.out.mono ?_
      rintro _ w9 ⟨rfl, rfl⟩
      clear HSu
      have HCr := Lib.hid (lwCrash HS3.out)
      go_wp2_with fail
      refine HCr.out.mono ?_
      rintro _ w4 ⟨⟨nx4, rfl⟩, hst4⟩
      have HS4 := Lib.hid hst4
      clear hst4 HCr HS3 x0 x1
      obtain ⟨x0, x1⟩ := HS4.out.cells
      have HOp := Lib.hid (lwOpen HS4.out HLa.out (by decide) (by decide))
      rw [show ((3 : Nat) : Int) = 3 from rfl] at HOp
      have htold := HS4.out.ok.told HSu3.out
      have hld := ldS_has Bd3 (128 * 3) 3
      have hbds := HS4.out.ok.bounds (by decide)
      have HL2 : Hid ((ldS Bd3 (128 * 3) 3).ts = laid ∧ (ldS Bd3 (128 * 3) 3).ch = s3.ch ∧ okTexts laid ∧ laid.length ≤ 20) := Lib.hid ⟨by rw [hld.1, htold.1, HT3.out], by rw [hld.2, htold.2], by rw [← HT3.out]; exact hbds.2.2.2.2.2.2.2.2.1, by have := HLk.out; omega⟩
      clear htold hld hbds
      go_wp2_with fail
      refine HOp.out.mono ?_
      rintro _ w5 ⟨p2, rfl, he5⟩
      have HE5 := Lib.hid he5
      clear he5 HOp HS4 x0 x1
      obtain ⟨s2, Hs2⟩ : ∃ s2, Hid (ldS Bd3 (128 * 3) 3 = s2) := ⟨_, Lib.hid rfl⟩
      rw [Hs2.out] at HE5 HL2
      have ND : New w5 w5.drew := (Below.refl _ _).drew
      have HE6 := Lib.hid (HE5.out.more ND)
      clear ND HE5
      go_upto_region 21 with fail
      refine region_ordT (LcR1 r p) (.take 0 (.take 1 (.take 2 (.take 3 (.take 4 (.take 5 (.take 6 (.take 7 (.take 10 (.only 8 (.only 9 (.only 11 (.take 12 (.take 13 (.take 14 (.take 17 (.take 18 (.take 19 (.take 20 (.only 15 (.two 16 21 (.only 21 (.only 22 (.take 23 (.take 24 (.take 25 .nil))))) (.two 16 22 (.only 22 (.take 23 (.take 24 (.take 25 .nil)))) (.only 16 (.take 23 (.take 24 (.take 25 .nil))))))))))))))))))))))))) ) (by kernel_rfl) (by kernel_rfl) HE6.out.at_ (fun _ => ?_)
      generalize w5.drew = w6 at *
      unfold LcR1
      iterate 9 (apply ordT_take; (simp only [List.getElem?_toArray, List.getElem?_cons_succ, List.getElem?_cons_zero]; rfl); rfl; (intro w hSw; (try dsimp only at hSw); go_simp; try with_reducible rfl); intro _; try simp only [Act.put, List.setIfInBounds_toArray, List.set_cons_zero, List.set_cons_succ])
      obtain ⟨F2, hm2⟩ := HE6.out.two
      have HTx := lgTextsOf hm2 (by rw [HL2.out.1]; have := HL2.out.2.2.2; omega) (by rw [HL2.out.1]; exact HL2.out.2.2.1)
      rw [HL2.out.1] at HTx
      replace HTx := Lib.hid HTx
      clear hm2
      (apply ordT_only; (simp only [List.getElem?_toArray, List.getElem?_cons_succ, List.getElem?_cons_zero]; rfl); rfl; intro K hK)
      go_simp
      refine HTx.out.mono ?_
      rintro _ w7 ⟨N7, a7, n7, c7, qs7, rfl, hr7, hq7⟩
      have HE7 := Lib.hid (HE6.out.more N7)
      have hq7l : qs7.length = laid.length := by rw [← hq7, List.length_map]
      have HRt := refTexts w7 _ qs7 hr7 (by have := HL2.out.2.2.2; omega)
      rw [hq7] at HRt
      replace HRt := Lib.hid HRt
      clear N7 hr7 hq7 hq7l HTx HE6
      refine hK.out _ _ (HE7.out.at_) (fun _ => ?_)
      clear hK K
      try simp only [Act.put, List.setIfInBounds_toArray, List.set_cons_zero, List.set_cons_succ]
      (apply ordT_only; (simp only [List.getElem?_toArray, List.getElem?_cons_succ, List.getElem?_cons_zero]; rfl); rfl; intro K hK)
      go_simp
      refine HRt.out.mono ?_
      rintro _ w8 ⟨N8, a8, c8, rfl, hr8⟩
      have HE8 := Lib.hid (HE7.out.more N8)
      have HSm := Lib.hid (refSameEq w8 _ _ laid hr8 (RdV.of_own HE8.out.own) (by have := HL2.out.2.2.2; omega))
      clear N8 hr8 HRt HE7
      refine hK.out _ _ (HE8.out.at_) (fun _ => ?_)
      clear hK K
      try simp only [Act.put, List.setIfInBounds_toArray, List.set_cons_zero, List.set_cons_succ]
      (apply ordT_only; (simp only [List.getElem?_toArray, List.getElem?_cons_succ, List.getElem?_cons_zero]; rfl); rfl; intro K hK)
      go_simp
      refine HSm.out.mono ?_
      rintro _ w9 ⟨rfl, N9⟩
      have HE9 := Lib.hid (HE8.out.more N9)
      clear N9 HSm HE8
      refine hK.out _ _ (HE9.out.at_) (fun _ => ?_)
      clear hK K
      try simp only [Act.put, List.setIfInBounds_toArray, List.set_cons_zero, List.set_cons_succ]
      iterate 7 (apply ordT_take; (simp only [List.getElem?_toArray, List.getElem?_cons_succ, List.getElem?_cons_zero]; rfl); rfl; (intro w hSw; (try dsimp only at hSw); go_simp; try with_reducible rfl); intro _; try simp only [Act.put, List.setIfInBounds_toArray, List.set_cons_zero, List.set_cons_succ])
      obtain ⟨F2, hm2⟩ := HE9.out.two
      have HCh := lgChainOf hm2
      rw [HL2.out.2.1] at HCh
      replace HCh := Lib.hid HCh
      clear hm2
      (apply ordT_only; (simp only [List.getElem?_toArray, List.getElem?_cons_succ, List.getElem?_cons_zero]; rfl); rfl; intro K hK)
      go_simp
      refine HCh.out.mono ?_
      rintro _ wz ⟨az, nz, cz, rfl, hrz, Nz, -⟩
      have HC1 := Lib.hid hrz
      have HZ := Lib.hid (HE9.out.more Nz)
      obtain ⟨F1, hm1⟩ := HZ.out.one
      have HM1 := Lib.hid hm1
      clear hrz Nz HCh HE9 hm1
      refine hK.out _ _ (HZ.out.at_) (fun _ => ?_)
      clear hK K
      try simp only [Act.put, List.setIfInBounds_toArray, List.set_cons_zero, List.set_cons_succ]
      (apply ordT_two; (simp only [List.getElem?_toArray, List.getElem?_cons_succ, List.getElem?_cons_zero]; rfl); rfl; (simp only [List.getElem?_toArray, List.getElem?_cons_succ, List.getElem?_cons_zero]; rfl); rfl)
      · intro K hK
        -- string(l.Chain())
        have hc1 := run_str (P := Tryz.prog) Tryz.underlying42 Tryz.underlying5 Tryz.underlying9 HC1.out
        go_simp
        clear hc1
        refine hK.out _ _ (HZ.out.at_) (fun _ => ?_)
        clear hK K
        try simp only [Act.put, List.setIfInBounds_toArray, List.set_cons_zero, List.set_cons_succ]
        (apply ordT_only; (simp only [List.getElem?_toArray, List.getElem?_cons_succ, List.getElem?_cons_zero]; rfl); rfl; intro K hK)
        have HCh := Lib.hid (lgChainOf HM1.out)
        go_simp
        refine HCh.out.mono ?_
        rintro _ wf ⟨af, nf, cf, rfl, hrf, Nf, -⟩
        have HC2 := Lib.hid hrf
        have HC1' := Lib.hid (HC1.out.new Nf)
        have HZ' := Lib.hid (HZ.out.more Nf)
        clear hrf Nf HCh HC1 HZ
        have HC1 := HC1'
        have HZ := HZ'
        clear HC1' HZ'
        refine hK.out _ _ (HZ.out.at_) (fun _ => ?_)
        clear hK K
        try simp only [Act.put, List.setIfInBounds_toArray, List.set_cons_zero, List.set_cons_succ]
        (apply ordT_only; (simp only [List.getElem?_toArray, List.getElem?_cons_succ, List.getElem?_cons_zero]; rfl); rfl; intro K hK)
        have hc2 := run_str (P := Tryz.prog) Tryz.underlying42 Tryz.underlying5 Tryz.underlying9 HC2.out
        go_simp
        clear hc2
        refine hK.out _ _ (HZ.out.at_) (fun _ => ?_)
        clear hK K
        try simp only [Act.put, List.setIfInBounds_toArray, List.set_cons_zero, List.set_cons_succ]
        iterate 3 (apply ordT_take; (simp only [List.getElem?_toArray, List.getElem?_cons_succ, List.getElem?_cons_zero]; rfl); rfl; (intro w hSw; (try dsimp only at hSw); go_simp; try with_reducible rfl); intro _; try simp only [Act.put, List.setIfInBounds_toArray, List.set_cons_zero, List.set_cons_succ])
        apply ordT_done
        go_wp2
        go_ret
        exact ⟨rfl, HZ.out.new⟩
      · intro K hK
        have HCh := Lib.hid (lgChainOf HM1.out)
        go_simp
        refine HCh.out.mono ?_
        rintro _ wf ⟨af, nf, cf, rfl, hrf, Nf, -⟩
        have HC2 := Lib.hid hrf
        have HC1' := Lib.hid (HC1.out.new Nf)
        have HZ' := Lib.hid (HZ.out.more Nf)
        clear hrf Nf HCh HC1 HZ
        have HC1 := HC1'
        have HZ := HZ'
        clear HC1' HZ'
        refine hK.out _ _ (HZ.out.at_) (fun _ => ?_)
        clear hK K
        try simp only [Act.put, List.setIfInBounds_toArray, List.set_cons_zero, List.set_cons_succ]
        (apply ordT_two; (simp only [List.getElem?_toArray, List.getElem?_cons_succ, List.getElem?_cons_zero]; rfl); rfl; (simp only [List.getElem?_toArray, List.getElem?_cons_succ, List.getElem?_cons_zero]; rfl); rfl)
        · intro K hK
          -- string(l.Chain())
          have hc1 := run_str (P := Tryz.prog) Tryz.underlying42 Tryz.underlying5 Tryz.underlying9 HC1.out
          go_simp
          clear hc1
          refine hK.out _ _ (HZ.out.at_) (fun _ => ?_)
          clear hK K
          try simp only [Act.put, List.setIfInBounds_toArray, List.set_cons_zero, List.set_cons_succ]
          (apply ordT_only; (simp only [List.getElem?_toArray, List.getElem?_cons_succ, List.getElem?_cons_zero]; rfl); rfl; intro K hK)
          have hc2 := run_str (P := Tryz.prog) Tryz.underlying42 Tryz.underlying5 Tryz.underlying9 HC2.out
          go_simp
          clear hc2
          refine hK.out _ _ (HZ.out.at_) (fun _ => ?_)
          clear hK K
          try simp only [Act.put, List.setIfInBounds_toArray, List.set_cons_zero, List.set_cons_succ]
          iterate 3 (apply ordT_take; (simp only [List.getElem?_toArray, List.getElem?_cons_succ, List.getElem?_cons_zero]; rfl); rfl; (intro w hSw; (try dsimp only at hSw); go_simp; try with_reducible rfl); intro _; try simp only [Act.put, List.setIfInBounds_toArray, List.set_cons_zero, List.set_cons_succ])
          apply ordT_done
          go_wp2
          go_ret
          exact ⟨rfl, HZ.out.new⟩
        · intro K hK
          have hc2 := run_str (P := Tryz.prog) Tryz.underlying42 Tryz.underlying5 Tryz.underlying9 HC2.out
          go_simp
          clear hc2
          refine hK.out _ _ (HZ.out.at_) (fun _ => ?_)
          clear hK K
          try simp only [Act.put, List.setIfInBounds_toArray, List.set_cons_zero, List.set_cons_succ]
          (apply ordT_only; (simp only [List.getElem?_toArray, List.getElem?_cons_succ, List.getElem?_cons_zero]; rfl); rfl; intro K hK)
          -- string(l.Chain())
          have hc1 := run_str (P := Tryz.prog) Tryz.underlying42 Tryz.underlying5 Tryz.underlying9 HC1.out
          go_simp
          clear hc1
          refine hK.out _ _ (HZ.out.at_) (fun _ => ?_)
          clear hK K
          try simp only [Act.put, List.setIfInBounds_toArray, List.set_cons_zero, List.set_cons_succ]
          iterate 3 (apply ordT_take; (simp only [List.getElem?_toArray, List.getElem?_cons_succ, List.getElem?_cons_zero]; rfl); rfl; (intro w hSw; (try dsimp only at hSw); go_simp; try with_reducible rfl); intro _; try simp only [Act.put, List.setIfInBounds_toArray, List.set_cons_zero, List.set_cons_succ])
          apply ordT_done
          go_wp2
          go_ret
          exact ⟨rfl, HZ.out.new⟩
    have hli : (k : Int) < (nx : Int) := by omega
    obtain ⟨F, vch, vts, vtl, ps, ho⟩ := HS.out.obj
    have HCh := Lib.hid (lgChain ho)
    clear ho
    obtain ⟨x0, x1⟩ := HS.out.cells
    go_wp2_with fail
    refine HCh.out.mono ?_
    rintro _ w3 ⟨a3, n3, c3, rfl, hr3, N3, -⟩
    have hst3 := run_str (P := Tryz.prog) Tryz.underlying42 Tryz.underlying5 Tryz.underlying9 hr3
    have HS3 := Lib.hid (HS.out.more N3)
    clear N3 x0 x1 HCh HS hr3
    go_upto_region 11 with fail
    clear hst3
    obtain ⟨b, off, rfl, hcell⟩ := (HX.out.1.new HS3.out.new).cell (by omega)
    have hlq : k < qs.length := by rw [HNx.out.2]; exact hlt
    have hc1 := hcell k (qs[k]).1 (by rw [List.getElem?_map, List.getElem?_eq_getElem hlq]; rfl)
    have hrd0 := HX.out.2 qs[k] (List.getElem_mem hlq)
    obtain ⟨u, Hu⟩ : ∃ u, Hid ((qs[k]).1 = u) := ⟨_, Lib.hid rfl⟩
    obtain ⟨t, Ht⟩ : ∃ t, Hid ((qs[k]).2 = t) := ⟨_, Lib.hid rfl⟩
    rw [Hu.out] at hc1
    rw [Hu.out, Ht.out] at hrd0
    have HR0 := Lib.hid hrd0
    have HBC : Hid (b < w.heap.size ∧ w.cell? ⟨b, off + k, none⟩ = some u) := Lib.hid (by
      obtain ⟨b', off', hbo, hcell'⟩ := (HX.out.1).cell (by omega)
      cases hbo
      have := hcell' k (qs[k]).1 (by rw [List.getElem?_map, List.getElem?_eq_getElem hlq]; rfl)
      rw [Hu.out] at this
      exact ⟨World.block_lt_of_cell? w _ this, this⟩)
    have HCell : Hid (∀ wx, New w wx → wx.cell? ⟨b, off + k, none⟩ = some u) := Lib.hid (fun wx hw => (World.cell?_of_block (hw.block _ HBC.out.1)).trans HBC.out.2)
    obtain ⟨av, cv, rfl, -⟩ := ownSl_form HS3.out.own
    obtain ⟨d, Hd⟩ : ∃ d, Hid (k % m = d) := ⟨_, Lib.hid rfl⟩
    have ND : New w3 w3.drew := (Below.refl _ _).drew
    have HS4 := Lib.hid (HS3.out.more ND)
    have HC : Hid (LcR r p b off k u w3.drew) := Lib.hid ⟨HS4.out.cells.2, HCell.out _ HS4.out.new⟩
    clear hc1 hcell hrd0 ND HS3
    refine region_ord (LcR r p b off k u) [(0, true), (1, true), (2, true), (3, true), (4, true), (5, true), (6, true), (7, true), (8, false), (9, true)] (by kernel_rfl) (by kernel_rfl) HC.out (fun _ => ?_)
    generalize w3.drew = w4 at *
    unfold LcR
    iterate 8 (apply ord_take; (simp only [List.getElem?_toArray, List.getElem?_cons_succ, List.getElem?_cons_zero]; rfl); rfl; (intro w hSw; (try dsimp only at hSw); go_simp; try with_reducible rfl); intro _; try simp only [Act.put, List.setIfInBounds_toArray, List.set_cons_zero, List.set_cons_succ])
    clear HC
    by_cases hre : s.refuse (128 * 3) 3 (t.length : Int) = 0
    · have HAp := Lib.hid (lwAppend HS4.out HLa.out (by decide) (by decide) u t (HR0.out.new HS4.out.new) (fun j hj => .inl (HR0.out.lt hj (by
        intro e
        obtain ⟨h1, -⟩ := refuse_zero hre
        rw [e] at h1
        revert h1
        decide))) hre)
      (apply ord_only; (simp only [List.getElem?_toArray, List.getElem?_cons_succ, List.getElem?_cons_zero]; rfl); rfl; intro K hK)
      go_simp
      refine HAp.out.mono ?_
      rintro _ w5 ⟨rfl, B', hst, -⟩
      have HS5 := Lib.hid hst
      have HT5 : Hid ((s.app (128 * 3) t).ts = laid ++ [t]) := Lib.hid (by rw [(app_ts _ _ _).1, HTs.out])
      clear hst HAp HS4 hre HTs
      generalize s.app (128 * 3) t = s5 at *
      refine hK.out _ _ (⟨HS5.out.cells.2, HCell.out _ HS5.out.new⟩) (fun _ => ?_)
      clear hK K
      try simp only [Act.put, List.setIfInBounds_toArray, List.set_cons_zero, List.set_cons_succ]
      (apply ord_take; (simp only [List.getElem?_toArray, List.getElem?_cons_succ, List.getElem?_cons_zero]; rfl); rfl; (intro w hSw; (try dsimp only at hSw); go_simp; try with_reducible rfl); intro _; try simp only [Act.put, List.setIfInBounds_toArray, List.set_cons_zero, List.set_cons_succ])
      apply ord_done
      obtain ⟨i0, hi0, hz0, hz1, hz2⟩ := info_parts infoStr
      have hst := run_str (P := Tryz.prog) Tryz.underlying42 Tryz.underlying5 Tryz.underlying9 (HR0.out.new HS5.out.new)
      have hc2 := HCell.out _ HS5.out.new
      obtain ⟨v', wa, happ, hown', hO', hb', hlt'⟩ := run_append_u (P := Tryz.prog) w.heap.size w5 28 28 9 i0 _ 16 Tryz.underlying28 hi0 hz0 hz1 hz2 rfl _ laid.length (laid.map strV) HS5.out.own (.string (bstr t)) rfl (by have := HLk.out; omega) (by have := HLk.out; omega) HS5.out.new.size
      obtain ⟨av', cv', rfl, -⟩ := ownSl_form hown'
      have HAPP := Lib.hid happ
      have HS6 := Lib.hid (HS5.out.push hO' (laid' := laid ++ [t]) (by rw [List.length_append, List.map_append]; exact hown') hb')
      clear happ hown' hO' hb' hlt' hi0 hz0 hz1 hz2 HS5
      go_upto_region 15 with (at_builtin; refine wpList_app1 rfl _ _ 28 rfl _ _ rfl rfl HAPP.out ?_)
      clear hst hc2 HAPP
      obtain ⟨laidZ, HlZ⟩ : ∃ l, Hid (laid ++ [t] = l) := ⟨_, Lib.hid rfl⟩
      rw [HlZ.out] at HS6 HT5
      have HSZ := HS6
      have HTZ := HT5
      have HLZ : Hid (laidZ.length ≤ k + 1) := Lib.hid (by rw [← HlZ.out, List.length_append]; have := HLk.out; simp; omega)
      have hm1 := HM1.out
      have hkm1 : (k : Int) % (m : Int) = (d : Int) := by rw [← Hd.out]; rfl
      have hkm2 : (k : Int).tmod (m : Int) = (d : Int) := by rw [Int.tmod_eq_emod_of_nonneg (by omega)]; exact hkm1
      by_cases hd : d = 0
      · subst hd
        obtain ⟨x0, x1⟩ := HSZ.out.cells
        have HFl := Lib.hid (lwFlush HSZ.out (by decide) (by decide))
        go_wp2_with fail
        refine HFl.out.mono ?_
        rintro _ w7 ⟨rfl, s7, Bd7, hst7, h7, -⟩
        have HS7 := Lib.hid hst7
        have HT7 : Hid (s7.ts = laidZ) := Lib.hid (h7.trans HTZ.out)
        clear hst7 h7 HFl x0 x1 hkm1 hkm2
        go_wp2
        go_roundw
        case rel => exact ⟨k + 1, s7, _, Bd7, laidZ, by omega, by go_num, HLZ.out, HT7.out, HS7.out⟩
        case measure => simp [intOf]; omega
      · have hd1 : ((d : Int) == 0) = false := by simp; omega
        have hd2 : ¬ (d : Int) = 0 := by omega
        go_wp2
        go_roundw
        case rel => exact ⟨k + 1, _, _, Bd, laidZ, by omega, by go_num, HLZ.out, HTZ.out, HSZ.out⟩
        case measure => simp [intOf]; omega
    · have HAp := Lib.hid (lwAppendNo HS4.out (by decide) (by decide) u t (HR0.out.new HS4.out.new) hre)
      (apply ord_only; (simp only [List.getElem?_toArray, List.getElem?_cons_succ, List.getElem?_cons_zero]; rfl); rfl; intro K hK)
      go_simp
      refine HAp.out.mono ?_
      rintro _ w5 ⟨⟨y, rfl⟩, hst⟩
      have HS5 := Lib.hid hst
      clear hst HAp HS4 hre
      refine hK.out _ _ (⟨HS5.out.cells.2, HCell.out _ HS5.out.new⟩) (fun _ => ?_)
      clear hK K
      try simp only [Act.put, List.setIfInBounds_toArray, List.set_cons_zero, List.set_cons_succ]
      (apply ord_take; (simp only [List.getElem?_toArray, List.getElem?_cons_succ, List.getElem?_cons_zero]; rfl); rfl; (intro w hSw; (try dsimp only at hSw); go_simp; try with_reducible rfl); intro _; try simp only [Act.put, List.setIfInBounds_toArray, List.set_cons_zero, List.set_cons_succ])
      apply ord_done
      obtain ⟨x0, x1⟩ := HS5.out.cells
      obtain ⟨F, vch, vts, vtl, ps, ho⟩ := HS5.out.obj
      have HCh := Lib.hid (lgChain ho)
      clear ho
      go_wp2_with fail
      refine HCh.out.mono ?_
      rintro _ w6 ⟨a6, n6, c6, rfl, hr6, N6, -⟩
      have hst6 := run_str (P := Tryz.prog) Tryz.underlying42 Tryz.underlying5 Tryz.underlying9 hr6
      have HS6 := Lib.hid (HS5.out.more N6)
      clear N6 x0 x1 HCh HS5 hr6
      obtain ⟨x0, x1⟩ := HS6.out.cells
      obtain ⟨F, vch, vts, vtl, ps, ho⟩ := HS6.out.obj
      have HCo := Lib.hid (lgCount ho)
      rw [HTs.out] at HCo
      clear ho
      go_wp2_with fail
      refine HCo.out.mono ?_
      rintro _ w9 ⟨rfl, rfl⟩
      clear hst6 x0 x1 HCo
      have HSZ := HS6
      have HTZ := HTs
      have HLZ : Hid (laid.length ≤ k + 1) := Lib.hid (by have := HLk.out; omega)
      clear HS6
      obtain ⟨laidZ, rfl⟩ : ∃ l, l = laid := ⟨_, rfl⟩
      go_upto_region 15 with fail
      have hm1 := HM1.out
      have hkm1 : (k : Int) % (m : Int) = (d : Int) := by rw [← Hd.out]; rfl
      have hkm2 : (k : Int).tmod (m : Int) = (d : Int) := by rw [Int.tmod_eq_emod_of_nonneg (by omega)]; exact hkm1
      by_cases hd : d = 0
      · subst hd
        obtain ⟨x0, x1⟩ := HSZ.out.cells
        have HFl := Lib.hid (lwFlush HSZ.out (by decide) (by decide))
        go_wp2_with fail
        refine HFl.out.mono ?_
        rintro _ w7 ⟨rfl, s7, Bd7, hst7, h7, -⟩
        have HS7 := Lib.hid hst7
        have HT7 : Hid (s7.ts = laidZ) := Lib.hid (h7.trans HTZ.out)
        clear hst7 h7 HFl x0 x1 hkm1 hkm2
        go_wp2
        go_roundw
        case rel => exact ⟨k + 1, s7, _, Bd7, laidZ, by omega, by go_num, HLZ.out, HT7.out, HS7.out⟩
        case measure => simp [intOf]; omega
      · have hd1 : ((d : Int) == 0) = false := by simp; omega
        have hd2 : ¬ (d : Int) = 0 := by omega
        go_wp2
        go_roundw
        case rel => exact ⟨k + 1, _, _, Bd, laidZ, by omega, by go_num, HLZ.out, HTZ.out, HSZ.out⟩
        case measure => simp [intOf]; omega

theorem keepsWalk (w : World) (x : Value) (qs : List (Value × List UInt8)) (hx : RdL w x qs) (a : Int) (ha : (Lit.int .u8 a).wf = true) (hL : Laid w) :
    Calls Tryz.prog 4 #[x, .int .u8 a] w fun e w' => e = .returned (.bool true) ∧ New w w' :=
  keepsLaw w x qs hx a (by have := wf_u8_lt ha; omega) hL

end Go.Proofs.YtijkmpcgkhijgaaGreatDoor
