/-
  LogCrashes: the last Flush, the crash, and what follows it.
-/
import Derived.Test.YtijkmpcgkhijgaaGreatDoorLaw15
import Derived.Test.YtijkmpcgkhijgaaGreatDoorRefTxt
namespace Go.Proofs.YtijkmpcgkhijgaaGreatDoor
set_option linter.unusedVariables false
set_option linter.unusedSimpArgs false
set_option maxRecDepth 100000
open Go.RowKit

/-- behind a crash nothing waits: what is durable is all -/
theorem crash_same {n : Nat} {P : List Wr} {D : List UInt8} (hok : OkW n P) (hD : D.length = 128 * n) (keep : List Int) : loseAll (crAll P D keep).2.2 P (layAll D P) = (crAll P D keep).2.2 := by
  have hca := crOk_all hok hD keep
  have hl := layAll_length hok hD
  refine eq_of_secs (n := n) (loseAll_length hca.len hok hl) hca.len fun t _ => ?_
  obtain ⟨h1, -, h3⟩ := loseAll_sec (d := (crAll P D keep).2.2) hca.len (s := t) hok hl
  by_cases hx : ∃ p ∈ P, p.1 = t
  · exact h1 hx
  · have hne : ∀ p ∈ P, p.1 ≠ t := fun p hp e => hx ⟨p, hp, e⟩
    rw [h3 hne, layAll_sec hok hD hne]
    rcases hca.secs t with h | ⟨p, hp, e, -⟩
    · exact h.symm
    · exact absurd e (hne p hp)

theorem see_secs (l : List UInt8) (n a : Nat) : ∀ j, a + j ≤ n → seeAll (secL l n) [] [] a j = secs l a j := by
  intro j
  induction j with
  | zero => intro _; unfold secs; simp [seeAll]
  | succ j ih =>
    intro h
    unfold seeAll
    rw [ih (by omega)]
    have h1 : seeR (secL l n) [] [] (a + j) = sec l (a + j) := by
      unfold seeR secL
      simp only [List.length_nil, seeTo]
      rw [List.getD_eq_getElem?_getD, List.getElem?_map, List.getElem?_range (by omega)]
      rfl
    rw [h1]
    unfold secs sec
    rw [Nat.mul_succ, List.take_add, List.drop_drop, Nat.mul_add]

theorem ldS_told (B : List UInt8) (z N : Nat) : (ldS B z N).ts = (lgTold B z N 0 lgStart).ts ∧ (ldS B z N).ch = (lgTold B z N 0 lgStart).ch := by
  unfold ldS PLg.settle
  dsimp only
  exact ⟨(PLg.of_ch _ _).2, (PLg.of_ch _ _).1⟩

theorem lgTextsAt {w : World} {F : Nat → Prop} {p g frm N sz : Nat} {s : PLg} (h : LogM w F p g frm N sz s) (h1 : s.ts.length ≤ 1000000) (h2 : okTexts s.ts) :
    Calls Tryz.prog 19 #[.pointer (some ⟨p, 0, none⟩)] w (LTextsTo w s.ts) := by
  obtain ⟨vch, vts, vtl, ps, h⟩ := h
  refine lgTexts h (by rw [h.len]; exact h1) (fun q hq => ?_)
  have : q.2 ∈ s.ts := by rw [← h.pst]; exact List.mem_map_of_mem hq
  have := h2 _ this
  omega

theorem lgChainAt {w : World} {F : Nat → Prop} {p g frm N sz : Nat} {s : PLg} (h : LogM w F p g frm N sz s) :
    Calls Tryz.prog 21 #[.pointer (some ⟨p, 0, none⟩)] w (CloneNew w s.ch) := by
  obtain ⟨vch, vts, vtl, ps, h⟩ := h
  exact lgChain h

/-- behind the last Flush: the log and the disk; whatever a crash keeps, so many texts are told -/
structure CrFin (W : World) (sz N r g p : Nat) (sure : Nat) (v : Value) (laid : List (List UInt8)) (X : Nat → Prop) (wr : World) : Prop where
  new : New W wr
  at0 : wr.cell? ⟨r, 0, none⟩ = some (.pointer (some ⟨g, 0, none⟩))
  at1 : wr.cell? ⟨r, 1, none⟩ = some (.pointer (some ⟨p, 0, none⟩))
  rlt : r < wr.heap.size
  own : wr.ownsRow W.heap.size 9 1 v laid.length (laid.map strV)
  log : ∃ F s, LogM wr F p g 1 N sz s ∧ s.sure = sure
  dev : ∃ q D P, Dvc q wr (1 + N * sz) g (LwH W r v X) D (layAll D P) P ∧ D.length = 128 * (1 + N * sz) ∧ P.length ≤ 1000 ∧ ∀ keep, sure ≤ (lgTold (secs (crAll P D keep).2.2 1 (N * sz)) (128 * sz) N 0 lgStart).ts.length
  xlt : ∀ k, X k → k < wr.heap.size

section
variable {W wr wr' : World} {sz N r g p : Nat} {q : Int} {s : PLg} {B Bd : List UInt8} {v : Value} {laid : List (List UInt8)} {X : Nat → Prop}

theorem LwSt.fin (h : LwSt W sz N r g p q s B Bd v laid X wr) : CrFin W sz N r g p s.sure v laid X wr := by
  obtain ⟨D, ⟨F, G, h1, h2, h3, h4, h5⟩, h6⟩ := h.log
  have hl := h2.lens
  refine ⟨h.new, h.cells.1, h.cells.2, h.lt, h.own, ⟨F, s, h1, rfl⟩, ⟨q, D, [], h2.narrow (fun k _ hk => h5 k hk), hl.1, by simp, fun keep => ?_⟩, h.xlt⟩
  have hc := h.ok.crash hl.1 (Nat.le_refl _) h6 (P := []) (fun p hp => nomatch hp) (fun p hp => nomatch hp) keep
  rw [crash_same (P := []) (fun p hp => nomatch hp) hl.1 keep] at hc
  exact hc

/-- what a flush without power leaves -/
theorem LwSt.finTo {q' : Int} {s' : PLg} {D' L' : List UInt8} {P' : List Wr} (h : LwSt W sz N r g p q s B Bd v laid X wr) (ht : LogDTo q' wr (LwH W r v X) p g 1 N sz s' (1 + N * sz) D' L' P' wr') (hL : L' = layAll D' P') (hP : P'.length ≤ 1000) (hk : ∀ keep, s'.sure ≤ (lgTold (secs (crAll P' D' keep).2.2 1 (N * sz)) (128 * sz) N 0 lgStart).ts.length) : CrFin W sz N r g p s'.sure v laid X wr' := by
  have hlt := h.lt
  have hsz := h.new.size
  obtain ⟨F, G, h1, h2, h3, h4, h5⟩ := ht.1
  have hl := h2.lens
  subst hL
  refine ⟨Below.trans h.new (ht.2.below h.new.size (fun k hk => hk.1)), ?_, ?_, Nat.lt_of_lt_of_le hlt ht.2.size, ownsRow_only h.own ht.2 (fun k hk hh => hh.2.2.1 hk), ⟨F, s', h1, rfl⟩, ⟨q', D', P', h2.narrow (fun k _ hk => (h5 k hk).elim id (fun h' => ⟨by omega, by omega, fun e => by have := own_lt15 h.own k e; omega, fun hx => by have := h.xlt k hx; omega⟩)), hl.1, hP, hk⟩, fun k hk => Nat.lt_of_lt_of_le (h.xlt k hk) ht.2.size⟩
  · exact (World.cell?_of_block (ht.2.block r hlt (fun hk => hk.2.1 rfl))).trans h.cells.1
  · exact (World.cell?_of_block (ht.2.block r hlt (fun hk => hk.2.1 rfl))).trans h.cells.2

theorem CrFin.more {sure : Nat} (h : CrFin W sz N r g p sure v laid X wr) (hn : New wr wr') : CrFin W sz N r g p sure v laid X wr' := by
  obtain ⟨F, s, h1, h2⟩ := h.log
  obtain ⟨q, D, P, h3, h4⟩ := h.dev
  exact ⟨New.trans h.new hn, (World.cell?_of_block (hn.block _ h.rlt)).trans h.at0, (World.cell?_of_block (hn.block _ h.rlt)).trans h.at1, Nat.lt_of_lt_of_le h.rlt hn.size, own_more h.own hn, ⟨F, s, h1.new hn, h2⟩, ⟨q, D, P, h3.new hn, h4⟩, fun k hk => Nat.lt_of_lt_of_le (h.xlt k hk) hn.size⟩

theorem lwLimit (h : LwSt W sz N r g p q s B Bd v laid X wr) (q' : Int) (hq : -9223372036854775808 ≤ q' ∧ q' ≤ 9223372036854775807) :
    Calls Tryz.prog 8 #[.pointer (some ⟨g, 0, none⟩), .int .i64 q'] wr fun e w' => e = .returned (.tuple #[]) ∧ LwSt W sz N r g p q' s B Bd v laid X w' := by
  obtain ⟨D, ⟨F, G, h1, h2, h3, h4, h5⟩, h6⟩ := h.log
  refine (diskLimit h2 q' hq).mono ?_
  rintro e w' ⟨he, ht⟩
  exact ⟨he, h.step (LogD.onDisk (H := LwH W r v X) h1 h3 h4 h5 ht) h6 h.ok⟩

/-- the last Flush, with q calls left -/
theorem lwFlushLast (h : LwSt W sz N r g p q s B Bd v laid X wr) (hb : 2 ≤ sz ∧ sz ≤ 10) (hN : 1 ≤ N ∧ N ≤ 10) :
    Calls Tryz.prog 10 #[.pointer (some ⟨p, 0, none⟩)] wr fun e w' => (∃ x, e = .returned x) ∧ ∃ sure, CrFin W sz N r g p sure v laid X w' := by
  have hbd := h.ok.bounds hN.1
  obtain ⟨D, ⟨F, G, ⟨vch, vts, vtl, ps, ho⟩, h2, h3, h4, h5⟩, h6⟩ := h.log
  have hM : 128 * sz * N ≤ 128 * 10 * 10 := Nat.mul_le_mul (by omega) hN.2
  have hM2 : N * sz ≤ 10 * 10 := Nat.mul_le_mul hN.2 hb.2
  by_cases hsu : s.sure = s.ts.length
  · refine (lgFlush0 ho hbd.2.2.2.2.2.2.1 hsu).mono ?_
    rintro e w' ⟨he, hn⟩
    exact ⟨⟨_, he⟩, s.sure, (h.more hn).fin⟩
  · obtain ⟨m, t, hf⟩ := h.ok.flush hsu
    have hcut := hf.cut
    have hfit := hf.fit
    have hlens := h2.lens
    have hpl := padB_length s.tl
    have hlay : layAll D (chunks (1 + t) (padB s.tl) ((s.tl.length + 127) / 128)) = lay D (1 + t) (padB s.tl) := layAll_chunks hlens.1 (by omega) hpl
    have hcok : OkW (1 + N * sz) (chunks (1 + t) (padB s.tl) ((s.tl.length + 127) / 128)) := chunks_ok (by omega) (Nat.le_of_eq hpl.symm)
    by_cases hq : flOk q = true
    · refine (lgFlush1 ho h2 h3 h4 h5 hbd.2.2.2.2.2.2.1 hsu (by omega) (by omega) m t hf.place ⟨hcut, by omega⟩ (by omega) hf.mod hf.pos (by omega) (by simp only [List.length_nil]; omega) hq).mono ?_
      rintro e w' ⟨he, ht⟩
      have hq' := of_decide_eq_true hq
      have e2 : flD q D [] (chunks (1 + t) (padB s.tl) ((s.tl.length + 127) / 128)) = lay D (1 + t) (padB s.tl) := by unfold flD; rw [if_neg hq'.1, if_neg hq'.2]; exact hlay
      have e3 : flL q D (1 + t) (padB s.tl) = lay D (1 + t) (padB s.tl) := by unfold flL; rw [if_neg hq'.1]
      have e4 : flP q [] (chunks (1 + t) (padB s.tl) ((s.tl.length + 127) / 128)) = [] := by unfold flP; rw [if_neg hq'.1, if_neg hq'.2]
      rw [e2, e3, e4] at ht
      exact ⟨⟨_, he⟩, _, (h.step ht (hf.region hlens.1 (Nat.le_refl _) h6) hf.ok).fin⟩
    · refine (lgFlush2 ho h2 h3 h4 h5 hbd.2.2.2.2.2.2.1 hsu (by omega) (by omega) m t hf.place ⟨hcut, by omega⟩ (by omega) hf.mod hf.pos (by omega) (by simp only [List.length_nil]; omega) (by simpa using hq)).mono ?_
      rintro e w' ⟨⟨y, he⟩, ht⟩
      refine ⟨⟨_, he⟩, s.sure, ?_⟩
      by_cases hq0 : q = 0
      · have e2 : flD q D [] (chunks (1 + t) (padB s.tl) ((s.tl.length + 127) / 128)) = D := by unfold flD; rw [if_pos hq0]
        have e3 : flL q D (1 + t) (padB s.tl) = D := by unfold flL; rw [if_pos hq0]
        have e4 : flP q [] (chunks (1 + t) (padB s.tl) ((s.tl.length + 127) / 128)) = [] := by unfold flP; rw [if_pos hq0]
        rw [e2, e3, e4] at ht
        refine h.finTo (s' := ⟨s.num, s.used, s.sealed, s.ch, s.ts, s.sure, s.tl, true⟩) ht rfl (Nat.zero_le _) (fun keep => ?_)
        have hc := h.ok.crash hlens.1 (Nat.le_refl _) h6 (P := []) (fun p hp => nomatch hp) (fun p hp => nomatch hp) keep
        rw [crash_same (P := []) (fun p hp => nomatch hp) hlens.1 keep] at hc
        exact hc
      · have hq1 : nextQ q = 0 := by
          unfold flOk at hq
          simp only [ne_eq, decide_eq_true_eq, not_and, Decidable.not_not] at hq
          exact hq hq0
        have e2 : flD q D [] (chunks (1 + t) (padB s.tl) ((s.tl.length + 127) / 128)) = D := by unfold flD; rw [if_neg hq0, if_pos hq1]
        have e3 : flL q D (1 + t) (padB s.tl) = lay D (1 + t) (padB s.tl) := by unfold flL; rw [if_neg hq0]
        have e4 : flP q [] (chunks (1 + t) (padB s.tl) ((s.tl.length + 127) / 128)) = chunks (1 + t) (padB s.tl) ((s.tl.length + 127) / 128) := by unfold flP; rw [if_neg hq0, if_pos hq1]; rfl
        rw [e2, e3, e4] at ht
        refine h.finTo (s' := ⟨s.num, s.used, s.sealed, s.ch, s.ts, s.sure, s.tl, true⟩) ht hlay.symm (by rw [chunks_length]; omega) (fun keep => ?_)
        have hc := h.ok.crash hlens.1 (Nat.le_refl _) h6 hcok (hf.writes 1) keep
        rw [crash_same hcok hlens.1 keep] at hc
        exact hc
end

/-- behind the crash: a disk on which nothing waits -/
structure CrMid (W : World) (n r g : Nat) (v : Value) (laid : List (List UInt8)) (X : Nat → Prop) (C : List UInt8) (wr : World) : Prop where
  new : New W wr
  at0 : wr.cell? ⟨r, 0, none⟩ = some (.pointer (some ⟨g, 0, none⟩))
  rlt : r < wr.heap.size
  own : wr.ownsRow W.heap.size 9 1 v laid.length (laid.map strV)
  dev : Dvc (-1) wr n g (LwH W r v X) C C []
  xlt : ∀ k, X k → k < wr.heap.size

section
variable {W wr wr' : World} {n sz N r g p : Nat} {v : Value} {laid : List (List UInt8)} {X : Nat → Prop} {C : List UInt8}

theorem CrMid.more (h : CrMid W n r g v laid X C wr) (hn : New wr wr') : CrMid W n r g v laid X C wr' :=
  ⟨New.trans h.new hn, (World.cell?_of_block (hn.block _ h.rlt)).trans h.at0, Nat.lt_of_lt_of_le h.rlt hn.size, own_more h.own hn, h.dev.new hn, fun k hk => Nat.lt_of_lt_of_le (h.xlt k hk) hn.size⟩

theorem CrMid.avoid (h : CrMid W n r g v laid X C wr) (hn : New wr wr') : CrMid W n r g v laid (fun k => X k ∨ (wr.heap.size ≤ k ∧ k < wr'.heap.size)) C wr' :=
  ⟨New.trans h.new hn, (World.cell?_of_block (hn.block _ h.rlt)).trans h.at0, Nat.lt_of_lt_of_le h.rlt hn.size, own_more h.own hn, (h.dev.narrow (G := LwH W r v (fun k => X k ∨ (wr.heap.size ≤ k ∧ k < wr'.heap.size))) (fun k hk hh => ⟨hh.1, hh.2.1, hh.2.2.1, fun hx => hx.elim hh.2.2.2 (fun h => by omega)⟩)).new hn, fun k hk => hk.elim (fun h' => Nat.lt_of_lt_of_le (h.xlt k h') hn.size) (fun h => h.2)⟩

theorem CrMid.step {C' : List UInt8} {Y : Nat → Prop} (h : CrMid W n r g v laid X C wr) (ho : Only (LwH W r v X) wr wr') (hd : Dvc (-1) wr' n g (fun k => (LwH W r v X k ∨ wr.heap.size ≤ k) ∧ ¬ Y k) C' C' []) (hY : ∀ k, Y k → k < wr'.heap.size) : CrMid W n r g v laid (fun k => X k ∨ Y k) C' wr' := by
  have hlt := h.rlt
  have hsz := h.new.size
  refine ⟨Below.trans h.new (ho.below hsz (fun k hk => hk.1)), (World.cell?_of_block (ho.block _ hlt (fun hk => hk.2.1 rfl))).trans h.at0, Nat.lt_of_lt_of_le hlt ho.size, ownsRow_only h.own ho (fun k hk hh => hh.2.2.1 hk), hd.narrow (fun k _ hk => ?_), fun k hk => hk.elim (fun h' => Nat.lt_of_lt_of_le (h.xlt k h') ho.size) (hY k)⟩
  rcases hk.1 with h1 | h1
  · exact ⟨h1.1, h1.2.1, h1.2.2.1, fun hx => hx.elim h1.2.2.2 hk.2⟩
  · exact ⟨by omega, by omega, fun e => by have := own_lt15 h.own k e; omega, fun hx => hx.elim (fun h' => by have := h.xlt k h'; omega) hk.2⟩

/-- Crash() once more -/
theorem cmCrash (h : CrMid W n r g v laid X C wr) :
    Calls Tryz.prog 14 #[.pointer (some ⟨g, 0, none⟩), .slice none 0 0] wr fun e w' => (∃ x, e = .returned (.int .i64 x)) ∧ CrMid W n r g v laid X C w' ∧ Only (LwH W r v X) wr w' := by
  refine (diskCrash h.dev (.slice none 0 0) [] (RdV.nil _) (fun k hk => by simp [blk] at hk) (by simp) (by simp)).mono ?_
  rintro e w' ⟨he, ht⟩
  have h1 := h.step (Y := fun _ => False) ht.2 (ht.1.narrow (fun k _ hk => ⟨hk, fun f => f⟩)) (fun k f => f.elim)
  exact ⟨⟨_, he⟩, ⟨h1.new, h1.at0, h1.rlt, h1.own, h1.dev.narrow (fun k _ hk => ⟨hk.1, hk.2.1, hk.2.2.1, fun hx => hk.2.2.2 (.inl hx)⟩), fun k hk => h1.xlt k (.inl hk)⟩, ht.2⟩

/-- Open behind the crash -/
theorem cmOpen (h : CrMid W n r g v laid X C wr) (hL : Laid W) (hb : 2 ≤ sz ∧ sz ≤ 10) (hN : 1 ≤ N ∧ N ≤ 10) (hn : 1 + N * sz ≤ n) :
    Calls Tryz.prog 17 #[.pointer (some ⟨g, 0, none⟩), .int .i64 1, .int .i64 (N : Int), .int .i64 (sz : Int)] wr fun e w' => ∃ p2 F2 C', e = .returned (.tuple #[.pointer (some ⟨p2, 0, none⟩), .nilIface]) ∧ LogM w' F2 p2 g 1 N sz (ldS (secs C 1 (N * sz)) (128 * sz) N) ∧ CrMid W n r g v laid (fun k => X k ∨ F2 k) C' w' ∧ Only (LwH W r v X) wr w' ∧
      secs C' 1 (N * sz) = zeroB (secs C 1 (N * sz)) (128 * sz * (lgTold (secs C 1 (N * sz)) (128 * sz) N 0 lgStart).last + (lgTold (secs C 1 (N * sz)) (128 * sz) N 0 lgStart).used) := by
  have hM : 128 * sz * N ≤ 128 * 10 * 10 := Nat.mul_le_mul (by omega) hN.2
  have h7 := lgOpen h.dev 1 N sz (by omega) (by omega) hn (by omega) (fun w' hw => hL.new (Below.trans h.new (hw.below h.new.size (fun k hk => hk.1))))
  rw [show ((1 : Nat) : Int) = 1 from rfl] at h7
  refine h7.mono ?_
  rintro e w' ⟨p2, C', rfl, ⟨⟨F2, G2, h8, h9, h10, h11, h12⟩, ho⟩, hs⟩
  refine ⟨p2, fun k => F2 k ∧ k < w'.heap.size, C', rfl, h8.narrow (fun k hk hf => ⟨hf, hk⟩), h.step ho (h9.narrow (fun k _ hk => ⟨h12 k hk, fun hf => h10 k hf.1 hk⟩)) (fun k hk => hk.2), ho, hs⟩
end

/-- the reference's disk where its blocks were left alone -/
theorem RDk.apart {q : Int} {w w' : World} {b0 g : Nat} {vS : Value} {S : List (List UInt8)} {F : Nat → Prop} (h : RDk q w b0 g vS (.slice none 0 0) (.slice none 0 0) S [] []) (ho : Only F w w') (hg : ¬ F g) (hS : ∀ k, blk vS = some k → ¬ F k) : RDk q w' b0 g vS (.slice none 0 0) (.slice none 0 0) S [] [] :=
  ⟨h.at_.only ho hg, own_moreT h.oS (fun k hk hlt => ho.block k hlt (hS k hk)), World.ownsRow_nil _ _ _ _, World.ownsRow_nil _ _ _ _, h.lS, h.lW, h.AW, h.ge, h.few⟩

/-- what the law has behind the crash: the reference's disk, the log opened first, its texts as strings -/
structure CrObj (wr : World) (X : Nat → Prop) (g ge b0 : Nat) (vS : Value) (S : List (List UInt8)) (p2 N sz : Nat) (s2 : PLg) (got : Value) (gl : List (List UInt8)) : Prop where
  rdk : RDk (-1) wr b0 ge vS (.slice none 0 0) (.slice none 0 0) S [] []
  xk : X ge ∧ ∀ k, blk vS = some k → X k
  log : ∃ F2, LogM wr F2 p2 g 1 N sz s2 ∧ ∀ k, F2 k → X k
  rdg : RdV wr got (gl.map strV)
  xg : gl ≠ [] → ∀ k, blk got = some k → X k

section
variable {wr wr' : World} {X Y F : Nat → Prop} {g ge b0 : Nat} {vS : Value} {S : List (List UInt8)} {p2 N sz : Nat} {s2 : PLg} {got : Value} {gl : List (List UInt8)}

theorem CrObj.only (h : CrObj wr X g ge b0 vS S p2 N sz s2 got gl) (ho : Only F wr wr') (hF : ∀ k, X k → ¬ F k) : CrObj wr' X g ge b0 vS S p2 N sz s2 got gl := by
  obtain ⟨F2, h1, h2⟩ := h.log
  exact ⟨h.rdk.apart ho (hF _ h.xk.1) (fun k hk => hF k (h.xk.2 k hk)), h.xk, ⟨F2, h1.only ho (fun k hk => hF k (h2 k hk)), h2⟩, h.rdg.only ho (fun k hk hne => hF k (h.xg (by simpa using hne) k hk)), h.xg⟩

theorem CrObj.new (h : CrObj wr X g ge b0 vS S p2 N sz s2 got gl) (hn : New wr wr') : CrObj wr' X g ge b0 vS S p2 N sz s2 got gl := h.only (New.only (F := fun _ => False) hn) (fun _ _ f => f)

theorem CrObj.mono (h : CrObj wr X g ge b0 vS S p2 N sz s2 got gl) (hY : ∀ k, X k → Y k) : CrObj wr Y g ge b0 vS S p2 N sz s2 got gl := by
  obtain ⟨F2, h1, h2⟩ := h.log
  exact ⟨h.rdk, ⟨hY _ h.xk.1, fun k hk => hY k (h.xk.2 k hk)⟩, ⟨F2, h1, fun k hk => hY k (h2 k hk)⟩, h.rdg, fun hne k hk => hY k (h.xg hne k hk)⟩
end

/-- the crash -/
theorem cfCrash {W wr : World} {sz N r g p sure : Nat} {v : Value} {laid : List (List UInt8)} {X : Nat → Prop} (h : CrFin W sz N r g p sure v laid X wr) (y : Value) (keep : List Int) (hy : RdV W y (keep.map (Value.int .i64))) (hk : keep.length ≤ 1000) :
    Calls Tryz.prog 14 #[.pointer (some ⟨g, 0, none⟩), y] wr fun e w' => (∃ x, e = .returned (.int .i64 x)) ∧ ∃ C, CrMid W (1 + N * sz) r g v laid X C w' ∧ C.length = 128 * (1 + N * sz) ∧ sure ≤ (lgTold (secs C 1 (N * sz)) (128 * sz) N 0 lgStart).ts.length := by
  obtain ⟨q, D, P, h1, h2, h3, h4⟩ := h.dev
  have hok := h1.lens.2.2
  refine (diskCrash h1 y keep (hy.new h.new) (fun k hk hne hf => by have := hy.lt hk hne; have := hf.1; omega) (by omega) (by omega)).mono ?_
  rintro e w' ⟨he, ht⟩
  rw [crash_same hok h2 keep] at ht
  have hlt := h.rlt
  have hsz := h.new.size
  refine ⟨⟨_, he⟩, (crAll P D keep).2.2, ⟨Below.trans h.new (ht.2.below hsz (fun k hk => hk.1)), (World.cell?_of_block (ht.2.block _ hlt (fun hk => hk.2.1 rfl))).trans h.at0, Nat.lt_of_lt_of_le hlt ht.2.size, ownsRow_only h.own ht.2 (fun k hk hh => hh.2.2.1 hk), ht.1.narrow (fun k _ hk => ?_), fun k hk => Nat.lt_of_lt_of_le (h.xlt k hk) ht.2.size⟩, (crOk_all hok h2 keep).len, h4 keep⟩
  rcases hk with h5 | h5
  · exact h5
  · exact ⟨by omega, by omega, fun e => by have := own_lt15 h.own k e; omega, fun hx => by have := h.xlt k hx; omega⟩

end Go.Proofs.YtijkmpcgkhijgaaGreatDoor
