/-
  The statements of layer 15: Opened, a log and its disk in the midst of a law, awake.
-/
import Derived.Test.YtijkmpcgkhijgaaGreatDoorLogR
import Derived.Test.YtijkmpcgkhijgaaGreatDoorLogB
import Derived.Test.YtijkmpcgkhijgaaGreatDoorRefLogA
import Derived.Test.YtijkmpcgkhijgaaGreatDoorText15
namespace Go.Proofs.YtijkmpcgkhijgaaGreatDoor
set_option linter.unusedVariables false
set_option linter.unusedSimpArgs false
set_option maxRecDepth 100000
open Go.RowKit

/-- what a log and its disk may lie in: no block of the law's caller, not r, not the law's own slice, none of X -/
abbrev LwH (W : World) (r : Nat) (v : Value) (X : Nat → Prop) : Nat → Prop := fun k => W.heap.size ≤ k ∧ k ≠ r ∧ blk v ≠ some k ∧ ¬ X k

/-- in the midst of a law: the run at r, its log at p on the disk at g; the law's own slice of strings; X: what else the law has -/
structure LwSt (W : World) (sz N r g p : Nat) (q : Int) (s : PLg) (B Bd : List UInt8) (v : Value) (laid : List (List UInt8)) (X : Nat → Prop) (wr : World) : Prop where
  new : New W wr
  at_ : ∃ ge gm, AtN wr r 34 [.pointer (some ⟨g, 0, none⟩), .pointer (some ⟨p, 0, none⟩), .pointer (some ⟨ge, 0, none⟩), .pointer (some ⟨gm, 0, none⟩), .int .i64 (N : Int), .int .i64 (sz : Int)]
  ge : W.heap.size ≤ r
  own : wr.ownsRow W.heap.size 9 1 v laid.length (laid.map strV)
  log : ∃ D, LogD q wr (LwH W r v X) p g 1 N sz s (1 + N * sz) D D [] ∧ secs D 1 (N * sz) = Bd
  ok : LgOk sz N s B Bd
  xlt : ∀ k, X k → k < wr.heap.size

section
variable {W w wr wr' : World} {sz N r g p : Nat} {q : Int} {s : PLg} {B Bd : List UInt8} {v : Value} {laid : List (List UInt8)} {X : Nat → Prop}

theorem LwSt.more (h : LwSt W sz N r g p q s B Bd v laid X wr) (hn : New wr wr') : LwSt W sz N r g p q s B Bd v laid X wr' := by
  obtain ⟨ge, gm, h1⟩ := h.at_
  obtain ⟨D, h2, h3⟩ := h.log
  exact ⟨New.trans h.new hn, ⟨ge, gm, h1.new hn⟩, h.ge, own_more h.own hn, ⟨D, h2.new hn, h3⟩, h.ok, fun k hk => Nat.lt_of_lt_of_le (h.xlt k hk) hn.size⟩

theorem LwSt.lt (h : LwSt W sz N r g p q s B Bd v laid X wr) : r < wr.heap.size := by
  obtain ⟨ge, gm, h1⟩ := h.at_; exact h1.lt

/-- what was made between is the law's -/
theorem LwSt.avoid (h : LwSt W sz N r g p q s B Bd v laid X wr) (hn : New wr wr') : LwSt W sz N r g p q s B Bd v laid (fun k => X k ∨ (wr.heap.size ≤ k ∧ k < wr'.heap.size)) wr' := by
  obtain ⟨ge, gm, h1⟩ := h.at_
  obtain ⟨D, h2, h3⟩ := h.log
  refine ⟨New.trans h.new hn, ⟨ge, gm, h1.new hn⟩, h.ge, own_more h.own hn, ⟨D, (h2.narrow (H' := LwH W r v (fun k => X k ∨ (wr.heap.size ≤ k ∧ k < wr'.heap.size))) (fun k hk hh => ⟨hh.1, hh.2.1, hh.2.2.1, fun hx => hx.elim hh.2.2.2 (fun h => by omega)⟩)).new hn, h3⟩, h.ok, fun k hk => hk.elim (fun h' => Nat.lt_of_lt_of_le (h.xlt k h') hn.size) (fun h => h.2)⟩

theorem LwSt.xmono {Y : Nat → Prop} (h : LwSt W sz N r g p q s B Bd v laid X wr) (hY : ∀ k, Y k → X k) : LwSt W sz N r g p q s B Bd v laid Y wr := by
  obtain ⟨D, h2, h3⟩ := h.log
  exact ⟨h.new, h.at_, h.ge, h.own, ⟨D, h2.mono (fun k hk => ⟨hk.1, hk.2.1, hk.2.2.1, fun hy => hk.2.2.2 (hY k hy)⟩), h3⟩, h.ok, fun k hk => h.xlt k (hY k hk)⟩

/-- behind a call on the log or its disk -/
theorem LwSt.step {q' : Int} {s' : PLg} {B' Bd' D' : List UInt8} (h : LwSt W sz N r g p q s B Bd v laid X wr) (ht : LogDTo q' wr (LwH W r v X) p g 1 N sz s' (1 + N * sz) D' D' [] wr') (hs : secs D' 1 (N * sz) = Bd') (ok : LgOk sz N s' B' Bd') : LwSt W sz N r g p q' s' B' Bd' v laid X wr' := by
  obtain ⟨ge, gm, h1⟩ := h.at_
  have hlt := h.lt
  have hsz := h.new.size
  refine ⟨Below.trans h.new (ht.2.below h.new.size (fun k hk => hk.1)), ⟨ge, gm, h1.only ht.2 (fun hk => hk.2.1 rfl)⟩, h.ge, ownsRow_only h.own ht.2 (fun k hk hh => hh.2.2.1 hk), ⟨D', ht.1.mono (fun k hk => hk.elim id (fun h' => ⟨by omega, by omega, fun e => by have := own_lt15 h.own k e; omega, fun hx => by have := h.xlt k hx; omega⟩)), hs⟩, ok, fun k hk => Nat.lt_of_lt_of_le (h.xlt k hk) ht.2.size⟩

theorem LwSt.keep {q' : Int} {s' : PLg} {n : Nat} {D' L' : List UInt8} {P' : List Wr} (h : LwSt W sz N r g p q s B Bd v laid X wr) (ht : LogDTo q' wr (LwH W r v X) p g 1 N sz s' n D' L' P' wr') : ∀ k, X k → wr'.heap[k]? = wr.heap[k]? :=
  fun k hk => ht.2.block k (h.xlt k hk) (fun hh => hh.2.2.2 hk)

/-- another slice of the law's own -/
theorem LwSt.push (h : LwSt W sz N r g p q s B Bd v laid X wr) (ho : Only (fun k => blk v = some k) wr wr') {v' : Value} {laid' : List (List UInt8)} (hown : wr'.ownsRow W.heap.size 9 1 v' laid'.length (laid'.map strV)) (hb : blk v' = blk v ∨ ∃ k, blk v' = some k ∧ wr.heap.size ≤ k) : LwSt W sz N r g p q s B Bd v' laid' X wr' := by
  obtain ⟨ge, gm, h1⟩ := h.at_
  obtain ⟨D, h2, h3⟩ := h.log
  have hvr : blk v ≠ some r := own_neT15 h.own h1 (by decide)
  refine ⟨Below.trans h.new (ho.below h.new.size (fun k hk => own_from h.own k hk)), ⟨ge, gm, h1.only ho (fun e => hvr e)⟩, h.ge, hown, ⟨D, ?_, h3⟩, h.ok, fun k hk => Nat.lt_of_lt_of_le (h.xlt k hk) ho.size⟩
  refine ((h2.narrow (H' := fun k => LwH W r v X k ∧ k < wr.heap.size) (fun k hk hh => ⟨hh, hk⟩)).only ho (fun k hk e => hk.1.2.2.1 e)).mono (fun k hk => ⟨hk.1.1, hk.1.2.1, fun e => ?_, hk.1.2.2.2⟩)
  rcases hb with e1 | ⟨j, e1, hj⟩
  · exact hk.1.2.2.1 (by rw [← e1]; exact e)
  · rw [e1] at e; cases e; have := hk.2; omega

theorem LwSt.base (h : LwSt w sz N r g p q s B Bd v laid X wr) (hn : New W w) : LwSt W sz N r g p q s B Bd v laid X wr := by
  obtain ⟨D, h2, h3⟩ := h.log
  have hs := hn.size
  exact ⟨Below.trans hn (Below.mono h.new hs), h.at_, Nat.le_trans hs h.ge, own_base h.own hs, ⟨D, h2.mono (fun k hk => ⟨Nat.le_trans hs hk.1, hk.2⟩), h3⟩, h.ok, h.xlt⟩

/-- what is laid at the program's start -/
theorem LwSt.tables (h : LwSt W sz N r g p q s B Bd v laid X wr) (hL : Laid W) {F : Nat → Prop} (hF : ∀ k, F k → W.heap.size ≤ k) {w' : World} (ho : Only F wr w') : Laid w' :=
  hL.new (Below.trans h.new (ho.below h.new.size hF))

theorem LwSt.cells (h : LwSt W sz N r g p q s B Bd v laid X wr) : wr.cell? ⟨r, 0, none⟩ = some (.pointer (some ⟨g, 0, none⟩)) ∧ wr.cell? ⟨r, 1, none⟩ = some (.pointer (some ⟨p, 0, none⟩)) := by
  obtain ⟨ge, gm, h1⟩ := h.at_
  exact ⟨h1.cell 0 rfl, h1.cell 1 rfl⟩

/-- its log, to be read -/
theorem LwSt.obj (h : LwSt W sz N r g p q s B Bd v laid X wr) : ∃ F vch vts vtl ps, LObj wr F p g 1 N sz s vch vts vtl ps := by
  obtain ⟨D, ⟨F, G, ⟨vch, vts, vtl, ps, h1⟩, -⟩, -⟩ := h.log
  exact ⟨F, vch, vts, vtl, ps, h1⟩
end

theorem lwAppendNo {W wr : World} {sz N r g p : Nat} {q : Int} {s : PLg} {B Bd : List UInt8} {v : Value} {laid : List (List UInt8)} {X : Nat → Prop} (h : LwSt W sz N r g p q s B Bd v laid X wr) (hb : 2 ≤ sz ∧ sz ≤ 10) (hN : 1 ≤ N ∧ N ≤ 10) (x : Value) (t : List UInt8) (hx : Rd wr x t) (hr : s.refuse (128 * sz) N (t.length : Int) ≠ 0) :
    Calls Tryz.prog 12 #[.pointer (some ⟨p, 0, none⟩), x] wr fun e w' => (∃ y, e = .returned (.iface 127 y)) ∧ LwSt W sz N r g p q s B Bd v laid X w' := by
  obtain ⟨F, vch, vts, vtl, ps, ho⟩ := h.obj
  have hbd := h.ok.bounds hN.1
  obtain ⟨a, n, c, rfl, hl⟩ := hx.len'
  rw [hl] at hr
  refine (lgAppendNo ho (by omega) (by omega) (by omega) (by omega) a n c hr).mono ?_
  rintro e w' ⟨he, hn⟩
  exact ⟨he, h.more hn⟩

theorem lwAppend {W wr : World} {sz N r g p : Nat} {q : Int} {s : PLg} {B Bd : List UInt8} {v : Value} {laid : List (List UInt8)} {X : Nat → Prop} (h : LwSt W sz N r g p q s B Bd v laid X wr) (hL : Laid W) (hb : 2 ≤ sz ∧ sz ≤ 10) (hN : 1 ≤ N ∧ N ≤ 10) (x : Value) (t : List UInt8) (hx : Rd wr x t) (hxb : ∀ k, blk x = some k → k < W.heap.size ∨ X k) (hr : s.refuse (128 * sz) N (t.length : Int) = 0) :
    Calls Tryz.prog 12 #[.pointer (some ⟨p, 0, none⟩), x] wr fun e w' => e = .returned .nilIface ∧ ∃ B', LwSt W sz N r g p q (s.app (128 * sz) t) B' Bd v laid X w' ∧ ∀ k, X k → w'.heap[k]? = wr.heap[k]? := by
  have hbd := h.ok.bounds hN.1
  obtain ⟨D, ⟨F, G, ⟨vch, vts, vtl, ps, ho⟩, h2, h3, h4, h5⟩, h6⟩ := h.log
  obtain ⟨B', hB'⟩ := h.ok.app hb.1 ⟨hN.1, by omega⟩ hr
  have hM : 128 * sz * N ≤ 128 * 10 * 10 := Nat.mul_le_mul (by omega) hN.2
  refine (lgAppend ho (by omega) (by omega) (by omega) (by omega) (by omega) (by omega) (fun w' hw' => h.tables hL (fun k hk => (h4 k hk).1) hw') x t hx (fun k hk hf => ?_) hr).mono ?_
  · rcases hxb k hk with e | e
    · have := (h4 k hf).1; omega
    · exact (h4 k hf).2.2.2 e
  · rintro e w' ⟨he, ht⟩
    have hto := LogD.onLog (H := LwH W r v X) h2 h3 h4 h5 ht
    exact ⟨he, B', h.step hto h6 hB', h.keep hto⟩

/-- Flush, no limit -/
theorem lwFlush {W wr : World} {sz N r g p : Nat} {s : PLg} {B Bd : List UInt8} {v : Value} {laid : List (List UInt8)} {X : Nat → Prop} (h : LwSt W sz N r g p (-1) s B Bd v laid X wr) (hb : 2 ≤ sz ∧ sz ≤ 10) (hN : 1 ≤ N ∧ N ≤ 10) :
    Calls Tryz.prog 10 #[.pointer (some ⟨p, 0, none⟩)] wr fun e w' => e = .returned .nilIface ∧ ∃ s' Bd', LwSt W sz N r g p (-1) s' B Bd' v laid X w' ∧ s'.ts = s.ts ∧ s'.sure = s'.ts.length ∧ s'.num = s.num ∧ s'.used = s.used ∧ s'.sealed = s.sealed ∧ s'.ch = s.ch ∧ ∀ k, X k → w'.heap[k]? = wr.heap[k]? := by
  have hbd := h.ok.bounds hN.1
  obtain ⟨D, ⟨F, G, ⟨vch, vts, vtl, ps, ho⟩, h2, h3, h4, h5⟩, h6⟩ := h.log
  have hM : 128 * sz * N ≤ 128 * 10 * 10 := Nat.mul_le_mul (by omega) hN.2
  have hM2 : N * sz ≤ 10 * 10 := Nat.mul_le_mul hN.2 hb.2
  by_cases hsu : s.sure = s.ts.length
  · refine (lgFlush0 ho hbd.2.2.2.2.2.2.1 hsu).mono ?_
    rintro e w' ⟨he, hn⟩
    exact ⟨he, s, Bd, h.more hn, rfl, hsu, rfl, rfl, rfl, rfl, fun k hk => hn.block k (h.xlt k hk)⟩
  · obtain ⟨m, t, hf⟩ := h.ok.flush hsu
    have hcut := hf.cut
    have hfit := hf.fit
    have hlens := h2.lens
    refine (lgFlush1 ho h2 h3 h4 h5 hbd.2.2.2.2.2.2.1 hsu (by omega) (by omega) m t hf.place ⟨hcut, by omega⟩ (by omega) hf.mod hf.pos (by omega) (by simp only [List.length_nil]; omega) rfl).mono ?_
    rintro e w' ⟨he, ht⟩
    have hpl := padB_length s.tl
    have e2 : flD (-1) D [] (chunks (1 + t) (padB s.tl) ((s.tl.length + 127) / 128)) = lay D (1 + t) (padB s.tl) := layAll_chunks hlens.1 (by omega) hpl
    have e3 : flL (-1) D (1 + t) (padB s.tl) = lay D (1 + t) (padB s.tl) := rfl
    have e4 : flP (-1) [] (chunks (1 + t) (padB s.tl) ((s.tl.length + 127) / 128)) = [] := rfl
    rw [e2, e3, e4] at ht
    exact ⟨he, s.settle s.tl, B, h.step ht (hf.region hlens.1 (Nat.le_refl _) h6) hf.ok, rfl, rfl, rfl, rfl, rfl, rfl, h.keep ht⟩

theorem ldS_none (sz N : Nat) : ldS (List.replicate (128 * sz * N) 0) (128 * sz) N = ⟨-1, 128 * sz, true, List.replicate 32 0, [], 0, [], false⟩ := by
  unfold ldS
  rw [told_none]
  unfold PLg.of PLg.settle
  simp [lgStart]

theorem secs_zeros (n M : Nat) (h : 1 + M ≤ n) : secs (zeros (128 * n)) 1 M = List.replicate (128 * M) 0 := by
  unfold secs zeros
  rw [List.drop_replicate, List.take_replicate, Nat.min_eq_left (by omega)]

set_option maxHeartbeats 2000000 in
theorem opened15 (w : World) (N sz : Nat) (hb : 2 ≤ sz ∧ sz ≤ 10) (hN : 1 ≤ N ∧ N ≤ 10) (hL : Laid w) :
    Calls Tryz.prog 7 #[.int .i64 (N : Int), .int .i64 (sz : Int)] w fun e w' =>
      ∃ r g p s B, e = .returned (.pointer (some ⟨r, 0, none⟩)) ∧ LgNone sz N s B B ∧ LwSt w sz N r g p (-1) s B B (.slice none 0 0) [] (fun _ => False) w' := by
  obtain ⟨M, hM⟩ : ∃ M, N * sz = M := ⟨_, rfl⟩
  have hMb : M ≤ 10 * 10 := by rw [← hM]; exact Nat.mul_le_mul hN.2 hb.2
  have hzM : 128 * sz * N = 128 * M := by rw [Nat.mul_assoc, Nat.mul_comm sz N, hM]
  have e1 : (N : Int) * (sz : Int) = (M : Int) := by rw [← hM]; push_cast; rfl
  obtain ⟨n, hn⟩ : ∃ n, 1 + M = n := ⟨_, rfl⟩
  have e2 : (1 : Int) + (M : Int) = (n : Int) := by omega
  have HNw := Lib.hid (diskNew w n (by omega))
  have HPar : Hid (N * sz = M ∧ 1 + M = n ∧ M ≤ 100 ∧ 128 * sz * N = 128 * M ∧ (2 ≤ sz ∧ sz ≤ 10) ∧ (1 ≤ N ∧ N ≤ 10)) := Lib.hid ⟨hM, hn, hMb, hzM, hb, hN⟩
  have HLa := Lib.hid hL
  have he : ∀ (wx : World) (k : Nat), (binOp .eql 29 (.pointer (some ⟨k, 0, none⟩)) (.pointer none)).run Tryz.prog wx = .ok (.bool false) wx := fun _ _ => rfl
  have he2 : ∀ (wx : World) (k : Nat), (binOp .eql 30 (.pointer (some ⟨k, 0, none⟩)) (.pointer none)).run Tryz.prog wx = .ok (.bool false) wx := fun _ _ => rfl
  have hmb : 128 * M ≤ 12800 := by omega
  clear hM hMb hzM hn hL hb hN
  go_enter Tryz.func7, Tryz.ntmps7
  go_wp2_with fail
  refine HNw.out.mono ?_
  rintro _ w1 ⟨g, rfl, hd, hn1⟩
  have HD1 := Lib.hid hd
  have HN1 := Lib.hid hn1
  clear hd hn1 HNw
  have HOp := Lib.hid (lgOpen HD1.out 1 N sz ⟨by have := HPar.out; omega, by have := HPar.out; omega⟩ ⟨by have := HPar.out; omega, by have := HPar.out; omega⟩ (by have := HPar.out; rw [this.1]; omega) (by have := HPar.out; omega) (fun w' hw => HLa.out.new (Below.trans HN1.out (hw.below HN1.out.size (fun k hk => hk)))))
  rw [show ((1 : Nat) : Int) = 1 from rfl] at HOp
  go_wp2_with fail
  refine HOp.out.mono ?_
  rintro _ w2 ⟨p, D', rfl, hto, hsec⟩
  have hpar := HPar.out
  rw [hpar.1, ← hpar.2.1, secs_zeros _ _ (Nat.le_refl _), ← hpar.2.2.2.1] at hsec hto
  rw [ldS_none] at hto
  rw [told_none] at hsec
  have hz0 : zeroB (List.replicate (128 * sz * N) 0) (128 * sz * lgStart.last + lgStart.used) = List.replicate (128 * sz * N) 0 := by
    unfold zeroB; simp [lgStart]
  rw [hz0] at hsec
  have HTo := Lib.hid hto
  have HSec := Lib.hid hsec
  have HN2 : Hid (New w w2) := Lib.hid (Below.trans HN1.out (hto.2.below HN1.out.size (fun k hk => hk)))
  clear hto hsec hz0 hpar HOp HD1
  have HRn := Lib.hid (rdkNew w2 n (by have := HPar.out; omega))
  go_wp2_with fail
  refine HRn.out.mono ?_
  rintro _ w3 ⟨ge, vS, rfl, hrd, N3⟩
  have HRd := Lib.hid hrd
  have HN3 := Lib.hid N3
  clear hrd N3 HRn
  have HRo := Lib.hid (refOpen15 HRd.out HN3.out.size 1 N sz (by have := HPar.out; omega) (by have := HPar.out; omega) (by have := HPar.out; rw [List.length_replicate, this.1]; omega) (by have := HPar.out; omega) (by decide) (by have := HPar.out; rw [List.length_replicate]; omega))
  rw [show ((1 : Nat) : Int) = 1 from rfl] at HRo
  go_wp2_with fail
  refine HRo.out.mono ?_
  rintro _ w4 ⟨gm, vT, B', rfl, -, ho4⟩
  have HN4 : Hid (New w2 w4) := Lib.hid (Below.trans HN3.out (ho4.below HN3.out.size (fun k hk => by have := HRd.out.ge; omega)))
  clear ho4 HRd HN3 HRo
  go_wp2
  generalize hw5 : World.alloc w4 _ = w5
  have hA : AtN w5 w4.heap.size 34 [.pointer (some ⟨g, 0, none⟩), .pointer (some ⟨p, 0, none⟩), .pointer (some ⟨ge, 0, none⟩), .pointer (some ⟨gm, 0, none⟩), .int .i64 (N : Int), .int .i64 (sz : Int)] := by rw [← hw5]; exact heap_alloc_new _ _
  have N5 : New w4 w5 := by rw [← hw5]; exact (Below.refl _ _).alloc (Nat.le_refl _) _
  have HA := Lib.hid hA
  have HN5 := Lib.hid N5
  have HN25 := Lib.hid (New.trans HN4.out N5)
  obtain ⟨r, Hr⟩ : ∃ r, Hid (w4.heap.size = r) := ⟨_, Lib.hid rfl⟩
  rw [Hr.out] at HA
  rw [Hr.out]
  clear hw5 hA N5
  go_ret
  have hpar := HPar.out
  refine ⟨r, g, p, _, List.replicate (128 * sz * N) 0, rfl, ⟨rfl, rfl, rfl⟩, New.trans HN2.out HN25.out, ⟨_, _, HA.out⟩, by have := HN2.out.size; have := HN4.out.size; have := Hr.out; omega, World.ownsRow_nil _ _ _ _, ⟨D', ?_, by rw [hpar.1]; exact HSec.out⟩, .inl ⟨rfl, rfl, rfl⟩, fun _ f => f.elim⟩
  rw [hpar.1]
  refine (HTo.out.1.narrow (H' := LwH w r (.slice none 0 0) (fun _ => False)) (fun k hk hh => ⟨?_, ?_, by simp [blk], fun f => f⟩)).new HN25.out
  · have := HN1.out.size
    rcases hh with h | h
    · exact h
    · omega
  · have := HN4.out.size; have := Hr.out; omega

/-- forty zeros -/
def z40 : List UInt8 := List.replicate 40 0

/-- the document's example: the two appends are not refused -/
theorem wake_refuse {s : PLg} {B : List UInt8} (h : LgNone 2 2 s B B) : s.refuse (128 * 2) 2 40 = 0 ∧ (s.app (128 * 2) z40).num = 0 ∧ (s.app (128 * 2) z40).used = 208 ∧ (s.app (128 * 2) z40).sealed = false := by
  obtain ⟨rfl, -, -⟩ := h
  refine ⟨by decide, ?_⟩
  have hb := next_bounds (⟨-1, 128 * 2, true, List.replicate 32 0, [], 0, [], false⟩ : PLg) (128 * 2) (by simp)
  have hf : (⟨-1, 128 * 2, true, List.replicate 32 0, [], 0, [], false⟩ : PLg).fits (128 * 2) (z40.length : Int) = false := rfl
  unfold PLg.app
  rw [if_neg (by rw [hf]; decide)]
  unfold PLg.add
  dsimp only
  rw [hb.1]
  exact ⟨rfl, rfl, rfl⟩

theorem wake_refuse2 {s : PLg} (h1 : s.num = 0) (h2 : s.used = 208) (h3 : s.sealed = false) (h4 : s.dead = false) : s.refuse (128 * 2) 2 40 = 0 ∧ (s.app (128 * 2) z40).num = 1 := by
  obtain ⟨num, u, sl, ch, ts, sure, tl, dead⟩ := s
  dsimp only at h1 h2 h3 h4
  subst h1; subst h2; subst h3; subst h4
  have hf : (⟨0, 208, false, ch, ts, sure, tl, false⟩ : PLg).fits (128 * 2) (z40.length : Int) = false := rfl
  refine ⟨by rfl, ?_⟩
  unfold PLg.app
  rw [if_neg (by rw [hf]; decide)]
  rfl

set_option maxHeartbeats 2000000 in
theorem awake15 (w : World) (hL : Laid w) : Calls Tryz.prog 5 #[] w fun e w' => e = .returned (.bool true) ∧ New w w' := by
  have he : ∀ (wx : World) (k : Nat), (binOp .eql 26 (.pointer (some ⟨k, 0, none⟩)) (.pointer none)).run Tryz.prog wx = .ok (.bool false) wx := fun _ _ => rfl
  have HLa := Lib.hid hL
  have HOp := Lib.hid (opened15 w 2 2 (by decide) (by decide) hL)
  rw [show ((2 : Nat) : Int) = 2 from rfl] at HOp
  clear hL
  go_enter Tryz.func5, Tryz.ntmps5
  go_wp2_with fail
  refine HOp.out.mono ?_
  rintro _ w1 ⟨r, g, p, s, B, rfl, hno, hst⟩
  have HNo := Lib.hid hno
  have HS1 := Lib.hid hst
  clear hno hst HOp
  have hmk : ∀ wx : World, (Instr.makeSlice 42 (.int .i64 40) (.int .i64 40)).run Tryz.prog wx = .ok (.slice (some ⟨wx.heap.size, 0, none⟩) 40 40) (wx.alloc (.cells ((List.replicate 40 (0 : UInt8)).map bv).toArray 5)) := fun wx => run_make10 40 (by decide) wx
  go_upto_region 5 with fail
  clear hmk
  generalize hw2 : World.alloc w1 _ = w2
  have HB : Hid (w2.heap[w1.heap.size]? = some (.cells (z40.map bv).toArray 5)) := Lib.hid (by rw [← hw2, heap_alloc_new]; rfl)
  have N2 : New w1 w2 := by rw [← hw2]; exact (Below.refl _ _).alloc (Nat.le_refl _) _
  have HN2 := Lib.hid N2
  clear hw2 N2
  obtain ⟨gb, Hg⟩ : ∃ gb, Hid (w1.heap.size = gb) := ⟨_, Lib.hid rfl⟩
  rw [Hg.out] at HB
  rw [Hg.out]
  have HS2 := Lib.hid (HS1.out.avoid HN2.out)
  obtain ⟨x0, x1⟩ := HS2.out.cells
  have hwk := wake_refuse HNo.out
  have HWk := Lib.hid hwk.2
  have HXg : Hid ((fun k => (fun _ => False) k ∨ (w1.heap.size ≤ k ∧ k < w2.heap.size)) gb) := Lib.hid (.inr ⟨Nat.le_of_eq Hg.out, lt_of_block HB.out⟩)
  have HBk : Hid (∀ k, blk (.slice (some ⟨gb, 0, none⟩) 40 40) = some k → k < w.heap.size ∨ (fun k => (fun _ => False) k ∨ (w1.heap.size ≤ k ∧ k < w2.heap.size)) k) := Lib.hid (fun k hk => by
    obtain rfl : gb = k := by simpa [blk] using hk
    exact .inr HXg.out)
  have HAp := Lib.hid (lwAppend HS2.out HLa.out (by decide) (by decide) (.slice (some ⟨gb, 0, none⟩) 40 40) z40 (rd_row10 HB.out (by decide)) HBk.out hwk.1)
  have HT1 : Hid ((s.app (128 * 2) z40).ts = [z40]) := Lib.hid (by rw [(app_ts _ _ _).1, HNo.out.1]; rfl)
  clear hwk
  go_wp2_with fail
  refine HAp.out.mono ?_
  rintro _ w3 ⟨rfl, B1, hst, hkp⟩
  have HS3 := Lib.hid hst
  have HB3 := Lib.hid ((hkp gb HXg.out).trans HB.out)
  clear hst HAp x0 x1 hkp HS2 HS1 HN2 HNo HB
  generalize s.app (128 * 2) z40 = s1 at *
  obtain ⟨x0, x1⟩ := HS3.out.cells
  have HFl := Lib.hid (lwFlush HS3.out (by decide) (by decide))
  go_wp2_with fail
  refine HFl.out.mono ?_
  rintro _ w4 ⟨rfl, s2, Bd2, hst, h1, h2, h3, h4, h5, -, hkp⟩
  have HS4 := Lib.hid hst
  have HB4 := Lib.hid ((hkp gb HXg.out).trans HB3.out)
  have hwk := wake_refuse2 (h3.trans HWk.out.1) (h4.trans HWk.out.2.1) (h5.trans HWk.out.2.2) (hst.ok.bounds (by decide)).2.2.2.2.2.2.1
  have HT2 : Hid (s2.ts = [z40] ∧ s2.sure = 1) := Lib.hid ⟨by rw [h1, HT1.out], by rw [h2, h1, HT1.out]; rfl⟩
  have HAp := Lib.hid (lwAppend HS4.out HLa.out (by decide) (by decide) (.slice (some ⟨gb, 0, none⟩) 40 40) z40 (rd_row10 HB4.out (by decide)) HBk.out hwk.1)
  have HT3 : Hid ((s2.app (128 * 2) z40).ts.length = 2 ∧ (s2.app (128 * 2) z40).sure = 1 ∧ (s2.app (128 * 2) z40).num = 1) := Lib.hid ⟨by rw [(app_ts _ _ _).1, HT2.out.1]; rfl, by rw [(app_ts _ _ _).2.1, HT2.out.2], hwk.2⟩
  clear hst h1 h2 h3 h4 h5 hkp hwk HFl HS3 HB3 x0 x1
  obtain ⟨x0, x1⟩ := HS4.out.cells
  go_wp2_with fail
  refine HAp.out.mono ?_
  rintro _ w5 ⟨rfl, B3, hst, -⟩
  generalize s2.app (128 * 2) z40 = s3 at *
  have HS5 := Lib.hid hst
  clear hst HAp HS4 HB4 x0 x1
  obtain ⟨x0, x1⟩ := HS5.out.cells
  obtain ⟨F, vch, vts, vtl, ps, ho⟩ := HS5.out.obj
  have HSg := Lib.hid (lgSegment ho)
  have HCo := Lib.hid (lgCount ho)
  have HSu := Lib.hid (lgSure ho)
  rw [HT3.out.2.2] at HSg
  rw [HT3.out.1] at HCo
  rw [HT3.out.2.1] at HSu
  clear ho
  have he2 : ∀ wx : World, (binOp .eql 40 .nilIface .nilIface).run Tryz.prog wx = .ok (.bool true) wx := fun _ => rfl
  go_wp2_with fail
  refine HSg.out.mono ?_
  rintro _ w9 ⟨rfl, rfl⟩
  go_wp2_with fail
  refine HCo.out.mono ?_
  rintro _ w9 ⟨rfl, rfl⟩
  go_wp2_with fail
  refine HSu.out.mono ?_
  rintro _ w9 ⟨rfl, rfl⟩
  go_wp2
  go_ret
  exact ⟨rfl, HS5.out.new⟩

end Go.Proofs.YtijkmpcgkhijgaaGreatDoor
