/-
  log: parse.
  log: a row read off a disk; clear; load.
  log: start, Open, Texts.
  log: Texts.
-/
import Derived.Test.YtijkmpcgkhijgaaGreatDoorLogA
import Derived.Test.YtijkmpcgkhijgaaGreatDoorLogP
import Derived.Test.YtijkmpcgkhijgaaGreatDoorBase
import Derived.Test.YtijkmpcgkhijgaaGreatDoorCell5
import Derived.Lib.SliceRun
namespace Go.Proofs.YtijkmpcgkhijgaaGreatDoor
set_option linter.unusedVariables false
set_option linter.unusedSimpArgs false
set_option maxRecDepth 100000
open Go.RowKit

/-- b[lo:hi] -/
theorem run_cut (a : Option Addr) (n c lo hi : Nat) (h1 : lo ≤ hi) (h2 : hi ≤ n) (h3 : n ≤ c) (h4 : c ≤ maxLen) :
    ∃ aT, (∀ wx : World, (Instr.slice 42 (.slice a n c) (some (.int .i64 (lo : Int))) (some (.int .i64 (hi : Int))) none).run Tryz.prog wx = .ok (.slice aT (hi - lo) (c - lo)) wx) ∧ (∀ wx l, Rd wx (.slice a n c) l → Rd wx (.slice aT (hi - lo) (c - lo)) ((l.drop lo).take (hi - lo))) ∧ (∀ k, blk (.slice aT (hi - lo) (c - lo)) = some k → blk (.slice a n c) = some k) := by
  unfold maxLen at h4
  refine ⟨if c = lo then a else a.map (fun x => x.add lo), fun wx => ?_, fun wx l h => ?_, fun k hk => ?_⟩
  · rw [run_slice_lh wx 42 a n c Tryz.underlying42 .i64 .i64 _ _ (by omega) (by omega) (by omega)]
    have hz : (sizeOf (Tryz.prog.elem 42)).run Tryz.prog wx = .ok 1 wx := by kernel_rfl
    rw [hz]
    simp only [Result.andThen_ok, sliced, Int.toNat_natCast, Nat.mul_one]
  · exact (rd_tail h (Nat.le_trans h1 h2)).cut (by omega) (by omega) (Nat.le_refl _)
  · rw [← hk]
    split
    · exact blk_slice _ _ _ _ _
    · exact (blk_rest _ _ _ _ _ _).symm

/-- the log of what a region told -/
def PLg.of (z : Nat) (sg : LgS) : PLg := if sg.used = 0 then ⟨-1, z, true, sg.ch, sg.ts, 0, [], false⟩ else ⟨(sg.last : Int), sg.used, sg.sealed, sg.ch, sg.ts, 0, [], false⟩

/-- the number of the next segment -/
def numAt (w : World) (p : Nat) : Nat := match w.cell? ⟨p, 4, none⟩ with
  | some (.int _ n) => (n + 1).toNat
  | _ => 0

/-- the loop -/
structure PaIn (w : World) (F : Nat → Prop) (p g frm N sz : Nat) (B : List UInt8) (i : Nat) (s : PLg) (vch vts vtl : Value) (ps : List (Value × List UInt8)) (wr : World) : Prop where
  log : LObj wr (fun k => F k ∨ w.heap.size ≤ k) p g frm N sz s vch vts vtl ps
  only : Only F w wr
  le : i ≤ N
  num : s.num + 1 = (i : Int)
  bnd : 41 * s.ts.length ≤ 128 * sz * i
  rest : s.sure = 0 ∧ s.tl = [] ∧ s.dead = false
  toldA : s.sealed = true → ∃ sg : LgS, sg.ch.length = 32 ∧ s = PLg.of (128 * sz) sg ∧ lgTold B (128 * sz) N 0 lgStart = lgTold B (128 * sz) (N - i) i sg
  toldB : s.sealed = false → s = PLg.of (128 * sz) (lgTold B (128 * sz) N 0 lgStart)

theorem PaIn.numAt {w wr : World} {F : Nat → Prop} {p g frm N sz : Nat} {B : List UInt8} {i : Nat} {s : PLg} {vch vts vtl : Value} {ps : List (Value × List UInt8)} (h : PaIn w F p g frm N sz B i s vch vts vtl ps wr) : numAt wr p = i := by
  unfold Go.Proofs.YtijkmpcgkhijgaaGreatDoor.numAt
  rw [h.log.at_.cell 4 rfl]
  show (s.num + 1).toNat = i
  rw [h.num]; exact Int.toNat_natCast _

theorem PLg.of_ch (z : Nat) (sg : LgS) : (PLg.of z sg).ch = sg.ch ∧ (PLg.of z sg).ts = sg.ts := by unfold PLg.of; split <;> exact ⟨rfl, rfl⟩

theorem PLg.of_next {z : Nat} {P : SegP} {i : Nat} {sg : LgS} (h : 128 ≤ P.used) : PLg.of z (lgNext P i sg) = ⟨(i : Int), P.used, P.sealed, P.ch, sg.ts ++ P.ts, 0, [], false⟩ := by
  unfold PLg.of
  rw [if_neg (show ¬ (lgNext P i sg).used = 0 by show ¬ P.used = 0; omega)]
  rfl

theorem PaIn.new {w wr w2 : World} {F : Nat → Prop} {p g frm N sz : Nat} {B : List UInt8} {i : Nat} {s : PLg} {vch vts vtl : Value} {ps : List (Value × List UInt8)} (h : PaIn w F p g frm N sz B i s vch vts vtl ps wr) (hn : New wr w2) : PaIn w F p g frm N sz B i s vch vts vtl ps w2 :=
  ⟨h.log.new hn, h.only.trans (New.only (F := F) hn) (fun _ _ h => h), h.le, h.num, h.bnd, h.rest, h.toldA, h.toldB⟩

theorem sl_one {w : World} {v : Value} {qs : List (Value × List UInt8)} (h : RdL w v qs) : ∀ u ∈ qs.map (·.1), u.oneCell' = true := by
  intro u hu
  obtain ⟨e, he, rfl⟩ := List.mem_map.1 hu
  obtain ⟨a, n, c, e1, -⟩ := h.2 e he
  rw [e1]; rfl

theorem told_more {B : List UInt8} {z N i : Nat} {sg : LgS} (hi : i < N) {P : SegP} (hP : sParse (lgSeg B z i) (i : Int) (sg.ts.length : Int) sg.ch = P) :
    lgTold B z (N - i) i sg = if P.ok = true then (if P.sealed = true then lgTold B z (N - (i + 1)) (i + 1) (lgNext P i sg) else lgNext P i sg) else sg := by
  rw [show N - i = (N - (i + 1)) + 1 by omega]
  conv => lhs; unfold lgTold
  rw [hP]

def LcQ (q : Nat) (a : Value) (w : World) : Prop := w.cell? ⟨q, 0, none⟩ = some a
def PaZ (w : World) (q : Nat) : Prop := At4 w q 131 (.slice none 0 0) (.slice none 0 0) (.bool false) (.int .i64 0)

/-- what Parse returned, beside a new variable at q; nothing of the log is at k or beyond -/
structure PaQ (w : World) (k q : Nat) (P : SegP) (vt vc : Value) (qs : List (Value × List UInt8)) : Prop where
  rdl : RdL w vt qs
  ts : qs.map (·.2) = P.ts
  ch : Rd w vc P.ch
  qge : k ≤ q
  vt : ∀ j, blk vt = some j → k ≤ j ∧ (qs ≠ [] → j ≠ q)
  qs : ∀ e ∈ qs, e.2 ≠ [] ∧ ∀ j, blk e.1 = some j → k ≤ j ∧ j ≠ q
  vc : ∀ j, blk vc = some j → k ≤ j ∧ (P.ch ≠ [] → j ≠ q)

theorem PaQ.only {w w' : World} {k q : Nat} {P : SegP} {vt vc : Value} {qs : List (Value × List UInt8)} {K : Nat → Prop} (h : PaQ w k q P vt vc qs) (ho : Only K w w') (hK : ∀ j, K j → j < k ∨ j = q) : PaQ w' k q P vt vc qs := by
  refine ⟨h.rdl.only ho (fun j hj hne hk => ?_) (fun e he j hj hne hk => ?_), h.ts, h.ch.only ho (fun j hj hne hk => ?_), h.qge, h.vt, h.qs, h.vc⟩
  · have h1 := h.vt j hj; rcases hK j hk with h2 | h2
    · omega
    · exact h1.2 hne h2
  · have h1 := (h.qs e he).2 j hj; rcases hK j hk with h2 | h2
    · omega
    · exact h1.2 h2
  · have h1 := h.vc j hj; rcases hK j hk with h2 | h2
    · omega
    · exact h1.2 hne h2

set_option maxHeartbeats 1000000 in
theorem lgParse {w : World} {F : Nat → Prop} {p g frm N sz : Nat} {vch vts vtl : Value} {ps : List (Value × List UInt8)} (h : LObj w F p g frm N sz (PLg.of (128 * sz) lgStart) vch vts vtl ps) (hb : 1 ≤ sz ∧ sz ≤ 1000) (hN : N ≤ 1000)
    (hla : ∀ w', Only F w w' → Laid w') (a : Option Addr) (n c : Nat) (B : List UInt8) (hx : Rd w (.slice a n c) B) (hxb : ∀ k, blk (.slice a n c) = some k → ¬ F k) (hB : B.length = 128 * sz * N) (hBb : 128 * sz * N ≤ 1000000) :
    Calls Tryz.prog 69 #[.pointer (some ⟨p, 0, none⟩), .slice a n c] w fun e w' => e = .returned (.tuple #[]) ∧ LogTo w F p g frm N sz (PLg.of (128 * sz) (lgTold B (128 * sz) N 0 lgStart)) w' := by
  have hn := hx.len
  have hnc : n ≤ c ∧ c ≤ maxLen := by obtain ⟨_, _, _, e, -, h2, h3, -⟩ := hx; cases e; exact ⟨h2, h3⟩
  have HX := Lib.hid hx
  have HXB := Lib.hid hxb
  have HLa := Lib.hid hla
  have HPar := Lib.hid (And.intro hb (And.intro hN (And.intro hB (And.intro hBb (And.intro hn hnc)))))
  have HI : Hid (PaIn w F p g frm N sz B 0 (PLg.of (128 * sz) lgStart) vch vts vtl ps w) := Lib.hid
    ⟨h.mono (fun k hk => .inl hk), Only.refl _ _, Nat.zero_le _, rfl, by simp [PLg.of, lgStart], ⟨rfl, rfl, rfl⟩, fun _ => ⟨lgStart, by simp [lgStart], rfl, by rw [Nat.sub_zero]⟩, fun e => by cases e⟩
  clear h hx hxb hla hb hN hB hBb hn hnc
  go_enter Tryz.func69, Tryz.ntmps69
  go_wp2
  go_loopw [4, 5, 6] (fun _ _ _ wr => ∃ i s vch vts vtl ps, PaIn w F p g frm N sz B i s vch vts vtl ps wr) (fun _ _ _ wr => N + 1 - numAt wr p)
  case atStart => exact ⟨_, _, _, _, _, _, HI.out⟩
  case round =>
    clear HI
    obtain ⟨i, s, vch, vts, vtl, ps, hin⟩ := hrel
    obtain ⟨num, u, sl, ch, ts, sure, tl, dead⟩ := s
    obtain ⟨e1, e2, e3⟩ := hin.rest
    dsimp only at e1 e2 e3
    subst e1; subst e2; subst e3
    have HM := Lib.hid hin.numAt
    have HI := Lib.hid hin
    have hnum : num + 1 = (i : Int) := hin.num
    have hiN := hin.le
    have hNb := HPar.out.2.1
    have HC : Hid (Lc246 p (.int .i64 (N : Int)) (.int .i64 num) (.bool sl) wr.drew) := Lib.hid ⟨hin.log.drew.at_.cell 2 rfl, hin.log.drew.at_.cell 4 rfl, hin.log.drew.at_.cell 6 rfl⟩
    have hw1 : IntKind.i64.wrap (num + 1) = (i : Int) := by rw [hnum]; exact IntWalk.i64_in _ (by omega)
    have HI0 := Lib.hid (hin.new ((Below.refl _ wr).drew))
    clear hin HI
    go_upto_region 0 with fail
    refine region_ord (Lc246 p (.int .i64 (N : Int)) (.int .i64 num) (.bool sl)) [(0, true), (1, true), (2, true), (3, true), (4, true), (5, true), (6, true), (7, true), (8, true), (9, true), (10, true), (11, true), (12, true), (13, true), (14, true), (15, true), (16, true), (17, true), (18, true)] (by kernel_rfl) (by kernel_rfl) HC.out (fun _ => ?_)
    generalize wr.drew = w0 at *
    unfold Lc246
    cases sl
    · clear hnum
      iterate 6 (apply ord_take; (simp only [List.getElem?_toArray, List.getElem?_cons_succ, List.getElem?_cons_zero]; rfl); rfl; (intro w hSw; (try dsimp only at hSw); go_simp; try with_reducible rfl); intro _; try simp only [Act.put, List.setIfInBounds_toArray, List.set_cons_zero, List.set_cons_succ])
      iterate 12 (apply ord_skip; (simp only [List.getElem?_toArray, List.getElem?_cons_succ, List.getElem?_cons_zero]; rfl); rfl; intro _; try simp only [Act.put, List.setIfInBounds_toArray, List.set_cons_zero, List.set_cons_succ])
      (apply ord_take; (simp only [List.getElem?_toArray, List.getElem?_cons_succ, List.getElem?_cons_zero]; rfl); rfl; (intro w hSw; (try dsimp only at hSw); go_simp; try with_reducible rfl); intro _; try simp only [Act.put, List.setIfInBounds_toArray, List.set_cons_zero, List.set_cons_succ])
      apply ord_done
      clear HC
      have HT := Lib.hid (HI0.out.toldB rfl)
      go_wp2
      go_end0
      rw [← HT.out]
      exact ⟨rfl, ⟨_, _, _, _, HI0.out.log⟩, HI0.out.only⟩
    by_cases hlt : i < N
    rotate_left
    · have hlt' : ¬ (i : Int) < (N : Int) := by omega
      have HT : Hid ((⟨num, u, true, ch, ts, 0, [], false⟩ : PLg) = PLg.of (128 * sz) (lgTold B (128 * sz) N 0 lgStart)) := Lib.hid (by
        obtain ⟨sg, -, h1, h2⟩ := HI0.out.toldA rfl
        rw [h2, show N - i = 0 by omega]
        exact h1)
      clear hnum hiN
      iterate 19 (apply ord_take; (simp only [List.getElem?_toArray, List.getElem?_cons_succ, List.getElem?_cons_zero]; rfl); rfl; (intro w hSw; (try dsimp only at hSw); go_simp; try with_reducible rfl); intro _; try simp only [Act.put, List.setIfInBounds_toArray, List.set_cons_zero, List.set_cons_succ])
      apply ord_done
      clear HC
      go_wp2
      go_end0
      rw [← HT.out]
      exact ⟨rfl, ⟨_, _, _, _, HI0.out.log⟩, HI0.out.only⟩
    have hlt' : (i : Int) < (N : Int) := by omega
    clear hnum
    iterate 19 (apply ord_take; (simp only [List.getElem?_toArray, List.getElem?_cons_succ, List.getElem?_cons_zero]; rfl); rfl; (intro w hSw; (try dsimp only at hSw); go_simp; try with_reducible rfl); intro _; try simp only [Act.put, List.setIfInBounds_toArray, List.set_cons_zero, List.set_cons_succ])
    apply ord_done
    have c4 := HI0.out.log.at_.cell 4 rfl
    have hnum : num + 1 = (i : Int) := HI0.out.num
    clear HC hlt'
    go_upto_region 2 with fail
    obtain ⟨sg, hsgl, hsg, hsgt⟩ := HI0.out.toldA rfl
    have hgch : ch = sg.ch := by have := congrArg PLg.ch hsg; rw [(PLg.of_ch _ _).1] at this; exact this
    have hgts : ts = sg.ts := by have := congrArg PLg.ts hsg; rw [(PLg.of_ch _ _).2] at this; exact this
    obtain ⟨P, hP⟩ : ∃ P, sParse (lgSeg B (128 * sz) i) (i : Int) (sg.ts.length : Int) sg.ch = P := ⟨_, rfl⟩
    obtain ⟨ok, pts, pch, sd, us⟩ := P
    have HTo : Hid (i < N ∧ (⟨num, u, true, ch, ts, 0, [], false⟩ : PLg) = PLg.of (128 * sz) sg ∧ lgTold B (128 * sz) N 0 lgStart = lgTold B (128 * sz) (N - i) i sg) := Lib.hid ⟨hlt, hsg, hsgt⟩
    have HTo2 : Hid (ts = sg.ts) := Lib.hid hgts
    have HPe := Lib.hid hP
    have HPc : Hid (sParse (lgSeg B (128 * sz) i) (i : Int) (ts.length : Int) ch = ⟨ok, pts, pch, sd, us⟩) := Lib.hid (by rw [hgts, hgch]; exact hP)
    have hpar := HPar.out
    have hm1 : 128 * sz * (i + 1) ≤ 128 * sz * N := Nat.mul_le_mul_left _ hlt
    have hbnd : 41 * ts.length ≤ 128 * sz * i := HI0.out.bnd
    obtain ⟨lo, hlo⟩ : ∃ lo, 128 * sz * i = lo := ⟨_, rfl⟩
    obtain ⟨hi, hhi⟩ : ∃ hi, 128 * sz * (i + 1) = hi := ⟨_, rfl⟩
    have hlh : hi = lo + 128 * sz := by rw [← hhi, ← hlo, Nat.mul_succ]
    obtain ⟨i1, hi1⟩ : ∃ j, i + 1 = j := ⟨_, rfl⟩
    have HBd : Hid ((lgSeg B (128 * sz) i).length = 128 * sz ∧ 41 * ts.length ≤ lo ∧ lo + 128 * sz ≤ 1000000 ∧ lo = 128 * sz * i ∧ hi - lo = 128 * sz ∧ lo ≤ hi ∧ hi ≤ n) := Lib.hid ⟨lgSeg_length hpar.2.2.1 hlt, by omega, by omega, hlo.symm, by omega, by omega, by omega⟩
    obtain ⟨aT, hcut, hrd, hbk⟩ := run_cut a n c lo hi HBd.out.2.2.2.2.2.1 HBd.out.2.2.2.2.2.2 hpar.2.2.2.2.2.1 hpar.2.2.2.2.2.2
    rw [HBd.out.2.2.2.2.1] at hcut hrd hbk
    obtain ⟨z, hz⟩ : ∃ z, 128 * sz = z := ⟨_, rfl⟩
    have ez1 : (i : Int) * (z : Int) = (lo : Int) := by rw [← hz, ← hlo]; push_cast; rw [Int.mul_comm]
    have ez2 : (i1 : Int) * (z : Int) = (hi : Int) := by rw [← hz, ← hhi, ← hi1]; push_cast; rw [Int.mul_comm]
    have hwA : IntKind.i64.wrap ((i : Int) * (z : Int)) = (lo : Int) := by rw [ez1]; exact IntWalk.i64_in _ (by omega)
    have hwB : IntKind.i64.wrap ((i : Int) + 1) = (i1 : Int) := by rw [IntWalk.i64_in _ (by omega)]; omega
    have hwC : IntKind.i64.wrap ((i1 : Int) * (z : Int)) = (hi : Int) := by rw [ez2]; exact IntWalk.i64_in _ (by omega)
    obtain ⟨at_, ct, rfl⟩ := HI0.out.log.vts_form
    obtain ⟨ac, cc, rfl⟩ := HI0.out.log.vch_form
    have ND0 : New w0 w0.drew := (Below.refl _ _).drew
    have HLd := Lib.hid ((HI0.out.log.new ND0).narrow (G := fun k => (F k ∨ w.heap.size ≤ k) ∧ k < w0.drew.heap.size) (fun k hk hf => ⟨hf, hk⟩))
    have HOd : Hid (Only F w w0.drew) := Lib.hid HI0.out.only.drew
    have HXd := Lib.hid (HX.out.only HOd.out (fun k hk _ => HXB.out k hk))
    have HSW : Hid (w.heap.size ≤ w0.drew.heap.size) := Lib.hid HI0.out.only.size
    have HC : Hid (Lc78 p (.slice ac 32 cc) (.slice at_ ps.length ct) w0.drew) := Lib.hid ⟨HLd.out.at_.cell 7 rfl, HLd.out.at_.cell 8 rfl⟩
    have HOc : Hid (∀ wx, New w0.drew wx → Calls Tryz.prog 55 #[.pointer (some ⟨p, 0, none⟩)] wx fun e w' => e = .returned (.int .i64 (z : Int)) ∧ wx = w') := Lib.hid (fun wx hw => by
      rw [← hz]; exact lgOctets ((HLd.out.new hw).at_.cell 3 rfl) (by omega))
    have hpl : ps.length = ts.length := HLd.out.len
    have HPs : Hid (∀ wx, New w0.drew wx → Calls Tryz.prog 84 #[.slice aT z (c - lo), .int .i64 (i : Int), .int .i64 (ps.length : Int), .slice ac 32 cc] wx (ParseToN wx ⟨ok, pts, pch, sd, us⟩)) := Lib.hid (fun wx hw => by
      have hL := HLd.out.new hw
      have hr := hrd wx B (HXd.out.new hw)
      have := segParseN wx _ _ (lgSeg B (128 * sz) i) ch (i : Int) (ps.length : Int) (by
        have e : lgSeg B (128 * sz) i = (B.drop lo).take (128 * sz) := by unfold lgSeg; rw [hlo]
        rw [e]; exact hr) hL.rch (by rw [HBd.out.1]; omega) (by rw [hL.chl]; decide) (by omega) (by omega) (by omega) (by omega) (HLa.out _ (HOd.out.trans (New.only (F := F) hw) (fun _ _ h => h)))
      rw [hpl, HPc.out] at this
      rw [hpl, ← hz]
      exact this)
    clear hpar hm1 hbnd hlo hhi hlh hi1 ez1 ez2 hpl hrd hbk hsg hsgt hgch hgts hP hnum hlt hiN hNb ND0 HI0 hw1
    refine region_ordT (Lc78 p (.slice ac 32 cc) (.slice at_ ps.length ct)) (.take 0 (.take 1 (.take 2 (.take 3 (.take 4 (.take 7 (.take 8 (.take 9 (.take 10 (.take 11 (.take 15 (.take 16 (.take 17 (.take 18 (.take 19 (.take 20 (.take 21 (.take 22 (.take 23 (.take 24 (.take 25 (.two 5 30 (.take 6 (.two 12 30 (.take 13 (.take 14 (.two 26 30 (.take 27 (.take 28 (.take 29 (.only 30 (.only 31 (.take 32 .nil)))))) (.only 26 (.take 27 (.take 28 (.take 29 (.only 31 (.take 32 .nil))))))))) (.only 12 (.take 13 (.take 14 (.only 26 (.take 27 (.take 28 (.take 29 (.only 31 (.take 32 .nil))))))))))) (.only 5 (.take 6 (.only 12 (.take 13 (.take 14 (.only 26 (.take 27 (.take 28 (.take 29 (.only 31 (.take 32 .nil)))))))))))))))))))))))))))))))) ) (by kernel_rfl) (by kernel_rfl) HC.out (fun _ => ?_)
    generalize w0.drew = wd at *
    have N0 : New wd wd := Below.refl _ _
    unfold Lc78
    iterate 21 (apply ordT_take; (simp only [List.getElem?_toArray, List.getElem?_cons_succ, List.getElem?_cons_zero]; rfl); rfl; (intro w hSw; (try dsimp only at hSw); go_simp; try with_reducible rfl); intro _; try simp only [Act.put, List.setIfInBounds_toArray, List.set_cons_zero, List.set_cons_succ])
    (apply ordT_two; (simp only [List.getElem?_toArray, List.getElem?_cons_succ, List.getElem?_cons_zero]; rfl); rfl; (simp only [List.getElem?_toArray, List.getElem?_cons_succ, List.getElem?_cons_zero]; rfl); rfl)
    rotate_left
    · intro K hK
      go_simp
      generalize hwa : World.alloc wd _ = wa
      have HQa : Hid (PaZ wa wd.heap.size) := Lib.hid (by rw [← hwa]; exact heap_alloc_new _ _)
      have NA : Hid (New wd wa) := Lib.hid (by rw [← hwa]; exact (Below.refl _ _).alloc (Nat.le_refl _) _)
      have HCa : Hid (Lc78 p (.slice ac 32 cc) (.slice at_ ps.length ct) wa) := Lib.hid ⟨(HLd.out.new NA.out).at_.cell 7 rfl, (HLd.out.new NA.out).at_.cell 8 rfl⟩
      clear hwa
      obtain ⟨q, Hq⟩ : ∃ q, Hid (wd.heap.size = q) := ⟨_, Lib.hid rfl⟩
      rw [Hq.out] at HQa
      rw [Hq.out]
      refine hK.out _ _ (HCa.out) (fun _ => ?_)
      clear hK K
      try simp only [Act.put, List.setIfInBounds_toArray, List.set_cons_zero, List.set_cons_succ]
      (apply ordT_only; (simp only [List.getElem?_toArray, List.getElem?_cons_succ, List.getElem?_cons_zero]; rfl); rfl; intro K hK)
      go_simp
      refine (HOc.out wa NA.out).mono ?_
      rintro _ w9 ⟨rfl, rfl⟩
      refine hK.out _ _ (HCa.out) (fun _ => ?_)
      clear hK K
      try simp only [Act.put, List.setIfInBounds_toArray, List.set_cons_zero, List.set_cons_succ]
      (apply ordT_take; (simp only [List.getElem?_toArray, List.getElem?_cons_succ, List.getElem?_cons_zero]; rfl); rfl; (intro w hSw; (try dsimp only at hSw); go_simp; try with_reducible rfl); intro _; try simp only [Act.put, List.setIfInBounds_toArray, List.set_cons_zero, List.set_cons_succ])
      (apply ordT_only; (simp only [List.getElem?_toArray, List.getElem?_cons_succ, List.getElem?_cons_zero]; rfl); rfl; intro K hK)
      go_simp
      refine (HOc.out wa NA.out).mono ?_
      rintro _ w9 ⟨rfl, rfl⟩
      refine hK.out _ _ (HCa.out) (fun _ => ?_)
      clear hK K
      try simp only [Act.put, List.setIfInBounds_toArray, List.set_cons_zero, List.set_cons_succ]
      iterate 2 (apply ordT_take; (simp only [List.getElem?_toArray, List.getElem?_cons_succ, List.getElem?_cons_zero]; rfl); rfl; (intro w hSw; (try dsimp only at hSw); go_simp; try with_reducible rfl); intro _; try simp only [Act.put, List.setIfInBounds_toArray, List.set_cons_zero, List.set_cons_succ])
      (apply ordT_only; (simp only [List.getElem?_toArray, List.getElem?_cons_succ, List.getElem?_cons_zero]; rfl); rfl; intro K hK)
      go_simp
      refine (HPs.out wa NA.out).mono ?_
      rintro _ wq ⟨Nq, at1, nt1, ct1, ac1, nc1, cc1, qs, rfl, r1, r2, r3, r4, r5, r6⟩
      dsimp only at r2 r3
      have HQ : Hid (At4 wq q 131 (.slice none 0 0) (.slice none 0 0) (.bool false) (.int .i64 0)) := Lib.hid (At4.new HQa.out Nq)
      have hlt0 : q < wa.heap.size := At4.lt HQa.out
      have hsz0 : wd.heap.size ≤ wa.heap.size := NA.out.size
      have HR : Hid (PaQ wq wd.heap.size q ⟨ok, pts, pch, sd, us⟩ (.slice at1 nt1 ct1) (.slice ac1 nc1 cc1) qs) := Lib.hid
        ⟨r1, r2, r3, by have := Hq.out; omega, fun j hj => ⟨by have := r4 j hj; omega, fun _ => by have := r4 j hj; omega⟩, fun e he => ⟨(r5 e he).1, fun j hj => ⟨by have := (r5 e he).2 j hj; omega, by have := (r5 e he).2 j hj; omega⟩⟩, fun j hj => ⟨by have := r6 j hj; omega, fun _ => by have := r6 j hj; omega⟩⟩
      have HLq := Lib.hid (HLd.out.new (New.trans NA.out Nq))
      have HOw : Hid (Only F w wq) := Lib.hid (HOd.out.trans (New.only (F := F) (New.trans NA.out Nq)) (fun _ _ h => h))
      have HCq : Hid (Lc78 p (.slice ac 32 cc) (.slice at_ ps.length ct) wq) := Lib.hid ⟨HLq.out.at_.cell 7 rfl, HLq.out.at_.cell 8 rfl⟩
      clear Nq r1 r2 r3 r4 r5 r6 HQa HCa NA HPs HOc HLd HOd HXd HC hlt0 hsz0 Hq
      refine hK.out _ _ (HCq.out) (fun _ => ?_)
      clear hK K
      try simp only [Act.put, List.setIfInBounds_toArray, List.set_cons_zero, List.set_cons_succ]
      iterate 3 (apply ordT_take; (simp only [List.getElem?_toArray, List.getElem?_cons_succ, List.getElem?_cons_zero]; rfl); rfl; (intro w hSw; (try dsimp only at hSw); go_simp; try with_reducible rfl); intro _; try simp only [Act.put, List.setIfInBounds_toArray, List.set_cons_zero, List.set_cons_succ])
      clear HCq
      -- wq: Parse and the variable are through; qs: its texts
      (apply ordT_only; (simp only [List.getElem?_toArray, List.getElem?_cons_succ, List.getElem?_cons_zero]; rfl); rfl; intro K hK)
      obtain ⟨z0, z1, z2, z3⟩ := HQ.out.frozen
      obtain ⟨y0, y1, y2, y3⟩ := HQ.out.cells
      go_simp
      clear z0 z1 z2 z3 y0 y1 y2 y3
      have HQ1 : Hid (At4 _ q 131 (.slice at1 nt1 ct1) (.slice ac1 nc1 cc1) (.bool sd) (.int .i64 (us : Int))) := Lib.hid (HQ.out.put (.slice at1 nt1 ct1) (.slice ac1 nc1 cc1) (.bool sd) (.int .i64 (us : Int)))
      have HOq : Hid (Only (fun k => k = q) wq _) := Lib.hid (At4.put_only wq q (.slice at1 nt1 ct1) (.slice ac1 nc1 cc1) (.bool sd) (.int .i64 (us : Int)))
      generalize World.setCell (World.setCell (World.setCell (World.setCell wq _ _) _ _) _ _) _ _ = ws at *
      have HLs := Lib.hid (HLq.out.only HOq.out (fun k hk e => by have := HR.out.qge; have := hk.2; omega))
      have HRs := Lib.hid (HR.out.only HOq.out (fun j hj => .inr hj))
      have HOs : Hid (Only F w ws) := Lib.hid (HOw.out.trans HOq.out (fun k hk e => by have := HR.out.qge; have := HSW.out; omega))
      have HCs : Hid (Lc78 p (.slice ac 32 cc) (.slice at_ ps.length ct) ws) := Lib.hid ⟨HLs.out.at_.cell 7 rfl, HLs.out.at_.cell 8 rfl⟩
      clear HQ HLq HR HOw HOq
      refine hK.out _ _ (HCs.out) (fun _ => ?_)
      clear hK K
      try simp only [Act.put, List.setIfInBounds_toArray, List.set_cons_zero, List.set_cons_succ]
      (apply ordT_take; (simp only [List.getElem?_toArray, List.getElem?_cons_succ, List.getElem?_cons_zero]; rfl); rfl; (intro w hSw; (try dsimp only at hSw); go_simp; try with_reducible rfl); intro _; try simp only [Act.put, List.setIfInBounds_toArray, List.set_cons_zero, List.set_cons_succ])
      apply ordT_done
      clear HCs
      cases ok
      · have HT : Hid ((⟨num, u, true, ch, ts, 0, [], false⟩ : PLg) = PLg.of (128 * sz) (lgTold B (128 * sz) N 0 lgStart)) := Lib.hid (by rw [HTo.out.2.2, told_more HTo.out.1 HPe.out, if_neg (fun e => by cases e), ← HTo.out.2.1])
        go_wp2
        (try simp only [Exit.inBlock, Exit.then])
        refine bodyPost_ret (results_none rfl _ _ _) rfl ?_
        have hfin := HLs.out.mono (G := fun k => F k ∨ w.heap.size ≤ k) (fun k hk => hk.1)
        rw [HT.out, hz] at hfin
        exact ⟨rfl, ⟨_, _, _, _, hfin⟩, HOs.out⟩
      have HFi := Lib.hid (sParse_fits HLs.out.chl (show (sParse (lgSeg B (128 * sz) i) (i : Int) (ts.length : Int) ch).ok = true by rw [HPc.out]))
      rw [HPc.out] at HFi
      have ND : New ws ws.drew := (Below.refl _ _).drew
      have HLe := Lib.hid (HLs.out.drew)
      have HRe := Lib.hid (HRs.out.only (New.only (F := fun _ => False) ND) (fun _ h => h.elim))
      have HQe := Lib.hid (HQ1.out.new ND)
      have HOe : Hid (Only F w ws.drew) := Lib.hid HOs.out.drew
      clear ND HLs HRs HQ1 HOs
      go_upto_region 4 with fail
      have RQ0 : LcQ q (.slice at1 nt1 ct1) ws.drew := HQe.out.cells.1
      refine region_ordT (LcQ q (.slice at1 nt1 ct1)) (.take 0 (.take 1 (.take 2 (.take 3 (.take 5 (.take 6 (.only 4 (.only 7 (.take 8 (.take 9 (.only 10 .nil)))))))))) ) (by kernel_rfl) (by kernel_rfl) RQ0 (fun _ => ?_)
      clear RQ0
      generalize ws.drew = we at *
      obtain ⟨i0, hi0, hz0, hz1, hz2⟩ := info_parts infoSl
      have hql : qs.length = pts.length := by have := congrArg List.length HRe.out.ts; rwa [List.length_map] at this
      have hpl : ps.length = ts.length := HLe.out.len
      obtain ⟨vts', wa, happ, hown', hO', hb'⟩ := run_append_any (P := Tryz.prog) we 0 52 52 42 i0 _ 24 Tryz.underlying52 hi0 hz0 hz1 hz2 rfl _ ps.length (ps.map (·.1)) HLe.out.oT (.slice at1 nt1 ct1) (qs.map (·.1)) HRe.out.rdl.1 (sl_one HRe.out.rdl) (by rw [List.length_map]; have h1 := HBd.out; have h2 := HFi.out.2.1; dsimp only at h2; omega) (by rw [List.length_map]; have h1 := HBd.out; have h2 := HFi.out.2.1; dsimp only at h2; omega) (Nat.zero_le _)
      clear hi0 hz0 hz1 hz2 hpl hql
      have hnew : ∀ k, blk vts' = some k → blk (.slice at_ ps.length ct) = some k ∨ we.heap.size ≤ k := fun k hk => by
        rcases hb' with e | ⟨j, e, hj⟩
        · exact .inl (by rw [← e]; exact hk)
        · rw [e] at hk; cases hk; exact .inr hj
      have hown2 : wa.ownsRow 0 42 1 vts' (ps ++ qs).length ((ps ++ qs).map (·.1)) := by
        rw [List.length_append, List.map_append]
        rw [List.length_map] at hown'
        exact hown'
      have hwsz : wd.heap.size ≤ we.heap.size := by have := HQe.out.lt; have := HRe.out.qge; omega
      have hF2 : ∀ k, ((F k ∨ w.heap.size ≤ k) ∧ k < wd.heap.size) → F k ∨ w.heap.size ≤ k := fun k hk => hk.1
      obtain ⟨hT, hTO⟩ := (HLe.out.mono hF2).setTs hO' (qs := qs) hown2 hnew (fun k hk => (hnew k hk).elim (fun e => (HLe.out.fts k e).1) (fun e => .inr (by have := HSW.out; omega))) HRe.out.rdl.2 (fun e he _ k hk => by
        have h1 := ((HRe.out.qs e he).2 k hk).1
        refine ⟨fun e => ?_, fun e => ?_, fun e => ?_, .inr (by have := HSW.out; omega)⟩
        · have := HLe.out.fp.2; omega
        · have := (HLe.out.fts k e).2; omega
        · have := (HLe.out.ftl k e).2; omega)
      have hch8 := (HRe.out.ch.only hO' (fun k hk _ e => by have := (HRe.out.vc k hk).1; have := (HLe.out.fts k e).2; omega)).only (only_cell wa p 8 vts') (fun k hk _ e => by have := (HRe.out.vc k hk).1; have := HLe.out.fp.2; omega)
      have hQa := HQe.out.only hO' (fun e => by have := HRe.out.qge; have := (HLe.out.fts _ e).2; omega)
      have hQ8 := hQa.only (only_cell wa p 8 vts') (fun e => by have := HRe.out.qge; have := HLe.out.fp.2; omega)
      have RQa : LcQ q (.slice at1 nt1 ct1) wa := hQa.cells.1
      have RQ8 : LcQ q (.slice at1 nt1 ct1) (wa.setCell ⟨p, 8, none⟩ vts') := hQ8.cells.1
      have hpa := HLe.out.at_.only hO' (fun e => HLe.out.neT.1 e)
      obtain ⟨at2, ct2, hv2, -, -⟩ := ownSl_form hown2
      obtain ⟨n2, Hn2⟩ : ∃ n2, Hid ((ps ++ qs).length = n2) := ⟨_, Lib.hid rfl⟩
      rw [Hn2.out] at hv2
      subst hv2
      have HAPP := Lib.hid happ
      have HAa := Lib.hid hpa
      have HT8 := Lib.hid hT
      have HTO8 := Lib.hid hTO
      have HCh8 := Lib.hid hch8
      have HQ8 := Lib.hid hQ8
      have HNw := Lib.hid hnew
      have HWS := Lib.hid hwsz
      clear happ hpa hT hTO hch8 hQa hQ8 hnew hown2 hown' hO' hb' hwsz hF2
      unfold LcQ
      unfold LcQ at RQa RQ8
      iterate 6 (apply ordT_take; (simp only [List.getElem?_toArray, List.getElem?_cons_succ, List.getElem?_cons_zero]; rfl); rfl; (intro w hSw; (try dsimp only at hSw); go_simp; try with_reducible rfl); intro _; try simp only [Act.put, List.setIfInBounds_toArray, List.set_cons_zero, List.set_cons_succ])
      (apply ordT_only; (simp only [List.getElem?_toArray, List.getElem?_cons_succ, List.getElem?_cons_zero]; rfl); rfl; intro K hK)
      have c8 := HLe.out.at_.cell 8 rfl
      go_simp
      clear c8
      refine hK.out _ _ (HQe.out.cells.1) (fun _ => ?_)
      clear hK K
      try simp only [Act.put, List.setIfInBounds_toArray, List.set_cons_zero, List.set_cons_succ]
      (apply ordT_only; (simp only [List.getElem?_toArray, List.getElem?_cons_succ, List.getElem?_cons_zero]; rfl); rfl; intro K hK)
      refine oper_append _ _ 52 rfl _ _ rfl rfl HAPP.out ?_
      refine hK.out _ _ (RQa) (fun _ => ?_)
      clear hK K
      try simp only [Act.put, List.setIfInBounds_toArray, List.set_cons_zero, List.set_cons_succ]
      iterate 2 (apply ordT_take; (simp only [List.getElem?_toArray, List.getElem?_cons_succ, List.getElem?_cons_zero]; rfl); rfl; (intro w hSw; (try dsimp only at hSw); go_simp; try with_reducible rfl); intro _; try simp only [Act.put, List.setIfInBounds_toArray, List.set_cons_zero, List.set_cons_succ])
      (apply ordT_only; (simp only [List.getElem?_toArray, List.getElem?_cons_succ, List.getElem?_cons_zero]; rfl); rfl; intro K hK)
      have y8 := HAa.out.cell 8 rfl
      have f8 := HAa.out.frozen 8
      go_simp
      clear y8 f8
      refine hK.out _ _ (RQ8) (fun _ => ?_)
      clear hK K
      try simp only [Act.put, List.setIfInBounds_toArray, List.set_cons_zero, List.set_cons_succ]
      apply ordT_done
      clear HAPP HAa RQa RQ8
      generalize World.setCell wa _ _ = wb at *
      have U4 := HT8.out.upd 4 (.int .i64 (i : Int)) (s' := ⟨(i : Int), u, true, ch, ts ++ qs.map (·.2), 0, [], false⟩) rfl rfl rfl rfl
      have U5 := U4.upd 5 (.int .i64 (us : Int)) (s' := ⟨(i : Int), us, true, ch, ts ++ qs.map (·.2), 0, [], false⟩) rfl rfl rfl rfl
      have U6 := U5.upd 6 (.bool sd) (s' := ⟨(i : Int), us, sd, ch, ts ++ qs.map (·.2), 0, [], false⟩) rfl rfl rfl rfl
      have hO3 : Only (fun k => k = p) wb (((wb.setCell ⟨p, 4, none⟩ (.int .i64 (i : Int))).setCell ⟨p, 5, none⟩ (.int .i64 (us : Int))).setCell ⟨p, 6, none⟩ (.bool sd)) := ((only_cell wb p 4 _).trans (only_cell _ p 5 _) (fun _ _ h => h)).trans (only_cell _ p 6 _) (fun _ _ h => h)
      have hcp : ∀ k, blk (.slice ac1 nc1 cc1) = some k → k ≠ p := fun k hk e => by have := (HRe.out.vc k hk).1; have := HLe.out.fp.2; omega
      have hcne : pch ≠ [] := fun e => by have := HFi.out.1; dsimp only at this; rw [e] at this; simp at this
      have U7 := Lib.hid (U6.setCh (HCh8.out.only hO3 (fun k hk _ e => hcp k hk e)) HFi.out.1 (fun k hk => ⟨hcp k hk, fun e => by
          have h1 := (HRe.out.vc k hk).1
          have h2 := HRe.out.ch.lt hk hcne
          rcases HNw.out k e with h | h
          · have := (HLe.out.fts k h).2; omega
          · omega, fun e => by have h1 := (HRe.out.vc k hk).1; have := (HLe.out.ftl k e).2; omega⟩) (fun k hk => .inr (by have := (HRe.out.vc k hk).1; have := HSW.out; omega)))
      have HOz : Hid (Only F w ((((wb.setCell ⟨p, 4, none⟩ (.int .i64 (i : Int))).setCell ⟨p, 5, none⟩ (.int .i64 (us : Int))).setCell ⟨p, 6, none⟩ (.bool sd)).setCell ⟨p, 7, none⟩ (.slice ac1 nc1 cc1))) := Lib.hid (by
        have hpF : p < w.heap.size → F p := fun hk => HLe.out.fp.1.elim id (fun h => by omega)
        refine ((HOe.out.trans HTO8.out (fun k hk e => ?_)).trans hO3 (fun k hk e => ?_)).trans (only_cell _ _ _ _) (fun k hk e => ?_)
        · rcases e with e | e
          · rw [e] at hk ⊢; exact hpF hk
          · exact (HLe.out.fts k e).1.elim id (fun h => by omega)
        · rw [e] at hk ⊢; exact hpF hk
        · rw [e] at hk ⊢; exact hpF hk)
      have y4 := HT8.out.at_.cell 4 rfl
      have f4 := HT8.out.at_.frozen 4
      have y5 := U4.at_.cell 5 rfl
      have f5 := U4.at_.frozen 5
      have y6 := U5.at_.cell 6 rfl
      have f6 := U5.at_.frozen 6
      have y7 := U6.at_.cell 7 rfl
      have f7 := U6.at_.frozen 7
      obtain ⟨-, x1, x2, x3⟩ := HQ8.out.cells
      have HTS := Lib.hid HRe.out.ts
      clear U4 U5 U6 hO3 hcp hcne HT8 HTO8 HCh8 HQ8 HNw HWS HLe HRe HQe HOe
      go_wp2
      have HNX : PLg.of (128 * sz) (lgNext ⟨true, pts, pch, sd, us⟩ i sg) = ⟨(i : Int), us, sd, pch, ts ++ pts, 0, [], false⟩ := by
        rw [PLg.of_next HFi.out.2.2.1, ← HTo2.out]
      have hE := U7.out
      dsimp only at hE
      rw [HTS.out] at hE
      have hPa : PaIn w F p g frm N sz B (i + 1) ⟨(i : Int), us, sd, pch, ts ++ pts, 0, [], false⟩ _ _ _ _ _ := ⟨hE, HOz.out, HTo.out.1, rfl, by
          have h1 := HBd.out
          have h2 := HFi.out.2.1
          dsimp only at h2 ⊢
          rw [List.length_append, Nat.mul_succ]
          omega, ⟨rfl, rfl, rfl⟩, fun e => ⟨_, HFi.out.1, HNX.symm, by
          dsimp only at e
          rw [HTo.out.2.2, told_more HTo.out.1 HPe.out, if_pos rfl, if_pos e]⟩, fun e => by
          dsimp only at e
          rw [HTo.out.2.2, told_more HTo.out.1 HPe.out, if_pos rfl, if_neg (fun e' => by rw [e] at e'; cases e')]
          exact HNX.symm⟩
      refine ⟨⟨_, _, _, _, _, _, hPa⟩, ?_⟩
      rw [hPa.numAt, HM.out]
      have := HTo.out.1
      omega
    intro K hK
    go_simp
    refine (HOc.out wd N0).mono ?_
    rintro _ w9 ⟨rfl, rfl⟩
    refine hK.out _ _ (HC.out) (fun _ => ?_)
    clear hK K
    try simp only [Act.put, List.setIfInBounds_toArray, List.set_cons_zero, List.set_cons_succ]
    (apply ordT_take; (simp only [List.getElem?_toArray, List.getElem?_cons_succ, List.getElem?_cons_zero]; rfl); rfl; (intro w hSw; (try dsimp only at hSw); go_simp; try with_reducible rfl); intro _; try simp only [Act.put, List.setIfInBounds_toArray, List.set_cons_zero, List.set_cons_succ])
    (apply ordT_two; (simp only [List.getElem?_toArray, List.getElem?_cons_succ, List.getElem?_cons_zero]; rfl); rfl; (simp only [List.getElem?_toArray, List.getElem?_cons_succ, List.getElem?_cons_zero]; rfl); rfl)
    rotate_left
    · intro K hK
      go_simp
      generalize hwa : World.alloc wd _ = wa
      have HQa : Hid (PaZ wa wd.heap.size) := Lib.hid (by rw [← hwa]; exact heap_alloc_new _ _)
      have NA : Hid (New wd wa) := Lib.hid (by rw [← hwa]; exact (Below.refl _ _).alloc (Nat.le_refl _) _)
      have HCa : Hid (Lc78 p (.slice ac 32 cc) (.slice at_ ps.length ct) wa) := Lib.hid ⟨(HLd.out.new NA.out).at_.cell 7 rfl, (HLd.out.new NA.out).at_.cell 8 rfl⟩
      clear hwa
      obtain ⟨q, Hq⟩ : ∃ q, Hid (wd.heap.size = q) := ⟨_, Lib.hid rfl⟩
      rw [Hq.out] at HQa
      rw [Hq.out]
      refine hK.out _ _ (HCa.out) (fun _ => ?_)
      clear hK K
      try simp only [Act.put, List.setIfInBounds_toArray, List.set_cons_zero, List.set_cons_succ]
      (apply ordT_only; (simp only [List.getElem?_toArray, List.getElem?_cons_succ, List.getElem?_cons_zero]; rfl); rfl; intro K hK)
      go_simp
      refine (HOc.out wa NA.out).mono ?_
      rintro _ w9 ⟨rfl, rfl⟩
      refine hK.out _ _ (HCa.out) (fun _ => ?_)
      clear hK K
      try simp only [Act.put, List.setIfInBounds_toArray, List.set_cons_zero, List.set_cons_succ]
      iterate 2 (apply ordT_take; (simp only [List.getElem?_toArray, List.getElem?_cons_succ, List.getElem?_cons_zero]; rfl); rfl; (intro w hSw; (try dsimp only at hSw); go_simp; try with_reducible rfl); intro _; try simp only [Act.put, List.setIfInBounds_toArray, List.set_cons_zero, List.set_cons_succ])
      (apply ordT_only; (simp only [List.getElem?_toArray, List.getElem?_cons_succ, List.getElem?_cons_zero]; rfl); rfl; intro K hK)
      go_simp
      refine (HPs.out wa NA.out).mono ?_
      rintro _ wq ⟨Nq, at1, nt1, ct1, ac1, nc1, cc1, qs, rfl, r1, r2, r3, r4, r5, r6⟩
      dsimp only at r2 r3
      have HQ : Hid (At4 wq q 131 (.slice none 0 0) (.slice none 0 0) (.bool false) (.int .i64 0)) := Lib.hid (At4.new HQa.out Nq)
      have hlt0 : q < wa.heap.size := At4.lt HQa.out
      have hsz0 : wd.heap.size ≤ wa.heap.size := NA.out.size
      have HR : Hid (PaQ wq wd.heap.size q ⟨ok, pts, pch, sd, us⟩ (.slice at1 nt1 ct1) (.slice ac1 nc1 cc1) qs) := Lib.hid
        ⟨r1, r2, r3, by have := Hq.out; omega, fun j hj => ⟨by have := r4 j hj; omega, fun _ => by have := r4 j hj; omega⟩, fun e he => ⟨(r5 e he).1, fun j hj => ⟨by have := (r5 e he).2 j hj; omega, by have := (r5 e he).2 j hj; omega⟩⟩, fun j hj => ⟨by have := r6 j hj; omega, fun _ => by have := r6 j hj; omega⟩⟩
      have HLq := Lib.hid (HLd.out.new (New.trans NA.out Nq))
      have HOw : Hid (Only F w wq) := Lib.hid (HOd.out.trans (New.only (F := F) (New.trans NA.out Nq)) (fun _ _ h => h))
      have HCq : Hid (Lc78 p (.slice ac 32 cc) (.slice at_ ps.length ct) wq) := Lib.hid ⟨HLq.out.at_.cell 7 rfl, HLq.out.at_.cell 8 rfl⟩
      clear Nq r1 r2 r3 r4 r5 r6 HQa HCa NA HPs HOc HLd HOd HXd HC hlt0 hsz0 Hq
      refine hK.out _ _ (HCq.out) (fun _ => ?_)
      clear hK K
      try simp only [Act.put, List.setIfInBounds_toArray, List.set_cons_zero, List.set_cons_succ]
      iterate 3 (apply ordT_take; (simp only [List.getElem?_toArray, List.getElem?_cons_succ, List.getElem?_cons_zero]; rfl); rfl; (intro w hSw; (try dsimp only at hSw); go_simp; try with_reducible rfl); intro _; try simp only [Act.put, List.setIfInBounds_toArray, List.set_cons_zero, List.set_cons_succ])
      clear HCq
      -- wq: Parse and the variable are through; qs: its texts
      (apply ordT_only; (simp only [List.getElem?_toArray, List.getElem?_cons_succ, List.getElem?_cons_zero]; rfl); rfl; intro K hK)
      obtain ⟨z0, z1, z2, z3⟩ := HQ.out.frozen
      obtain ⟨y0, y1, y2, y3⟩ := HQ.out.cells
      go_simp
      clear z0 z1 z2 z3 y0 y1 y2 y3
      have HQ1 : Hid (At4 _ q 131 (.slice at1 nt1 ct1) (.slice ac1 nc1 cc1) (.bool sd) (.int .i64 (us : Int))) := Lib.hid (HQ.out.put (.slice at1 nt1 ct1) (.slice ac1 nc1 cc1) (.bool sd) (.int .i64 (us : Int)))
      have HOq : Hid (Only (fun k => k = q) wq _) := Lib.hid (At4.put_only wq q (.slice at1 nt1 ct1) (.slice ac1 nc1 cc1) (.bool sd) (.int .i64 (us : Int)))
      generalize World.setCell (World.setCell (World.setCell (World.setCell wq _ _) _ _) _ _) _ _ = ws at *
      have HLs := Lib.hid (HLq.out.only HOq.out (fun k hk e => by have := HR.out.qge; have := hk.2; omega))
      have HRs := Lib.hid (HR.out.only HOq.out (fun j hj => .inr hj))
      have HOs : Hid (Only F w ws) := Lib.hid (HOw.out.trans HOq.out (fun k hk e => by have := HR.out.qge; have := HSW.out; omega))
      have HCs : Hid (Lc78 p (.slice ac 32 cc) (.slice at_ ps.length ct) ws) := Lib.hid ⟨HLs.out.at_.cell 7 rfl, HLs.out.at_.cell 8 rfl⟩
      clear HQ HLq HR HOw HOq
      refine hK.out _ _ (HCs.out) (fun _ => ?_)
      clear hK K
      try simp only [Act.put, List.setIfInBounds_toArray, List.set_cons_zero, List.set_cons_succ]
      (apply ordT_take; (simp only [List.getElem?_toArray, List.getElem?_cons_succ, List.getElem?_cons_zero]; rfl); rfl; (intro w hSw; (try dsimp only at hSw); go_simp; try with_reducible rfl); intro _; try simp only [Act.put, List.setIfInBounds_toArray, List.set_cons_zero, List.set_cons_succ])
      apply ordT_done
      clear HCs
      cases ok
      · have HT : Hid ((⟨num, u, true, ch, ts, 0, [], false⟩ : PLg) = PLg.of (128 * sz) (lgTold B (128 * sz) N 0 lgStart)) := Lib.hid (by rw [HTo.out.2.2, told_more HTo.out.1 HPe.out, if_neg (fun e => by cases e), ← HTo.out.2.1])
        go_wp2
        (try simp only [Exit.inBlock, Exit.then])
        refine bodyPost_ret (results_none rfl _ _ _) rfl ?_
        have hfin := HLs.out.mono (G := fun k => F k ∨ w.heap.size ≤ k) (fun k hk => hk.1)
        rw [HT.out, hz] at hfin
        exact ⟨rfl, ⟨_, _, _, _, hfin⟩, HOs.out⟩
      have HFi := Lib.hid (sParse_fits HLs.out.chl (show (sParse (lgSeg B (128 * sz) i) (i : Int) (ts.length : Int) ch).ok = true by rw [HPc.out]))
      rw [HPc.out] at HFi
      have ND : New ws ws.drew := (Below.refl _ _).drew
      have HLe := Lib.hid (HLs.out.drew)
      have HRe := Lib.hid (HRs.out.only (New.only (F := fun _ => False) ND) (fun _ h => h.elim))
      have HQe := Lib.hid (HQ1.out.new ND)
      have HOe : Hid (Only F w ws.drew) := Lib.hid HOs.out.drew
      clear ND HLs HRs HQ1 HOs
      go_upto_region 4 with fail
      have RQ0 : LcQ q (.slice at1 nt1 ct1) ws.drew := HQe.out.cells.1
      refine region_ordT (LcQ q (.slice at1 nt1 ct1)) (.take 0 (.take 1 (.take 2 (.take 3 (.take 5 (.take 6 (.only 4 (.only 7 (.take 8 (.take 9 (.only 10 .nil)))))))))) ) (by kernel_rfl) (by kernel_rfl) RQ0 (fun _ => ?_)
      clear RQ0
      generalize ws.drew = we at *
      obtain ⟨i0, hi0, hz0, hz1, hz2⟩ := info_parts infoSl
      have hql : qs.length = pts.length := by have := congrArg List.length HRe.out.ts; rwa [List.length_map] at this
      have hpl : ps.length = ts.length := HLe.out.len
      obtain ⟨vts', wa, happ, hown', hO', hb'⟩ := run_append_any (P := Tryz.prog) we 0 52 52 42 i0 _ 24 Tryz.underlying52 hi0 hz0 hz1 hz2 rfl _ ps.length (ps.map (·.1)) HLe.out.oT (.slice at1 nt1 ct1) (qs.map (·.1)) HRe.out.rdl.1 (sl_one HRe.out.rdl) (by rw [List.length_map]; have h1 := HBd.out; have h2 := HFi.out.2.1; dsimp only at h2; omega) (by rw [List.length_map]; have h1 := HBd.out; have h2 := HFi.out.2.1; dsimp only at h2; omega) (Nat.zero_le _)
      clear hi0 hz0 hz1 hz2 hpl hql
      have hnew : ∀ k, blk vts' = some k → blk (.slice at_ ps.length ct) = some k ∨ we.heap.size ≤ k := fun k hk => by
        rcases hb' with e | ⟨j, e, hj⟩
        · exact .inl (by rw [← e]; exact hk)
        · rw [e] at hk; cases hk; exact .inr hj
      have hown2 : wa.ownsRow 0 42 1 vts' (ps ++ qs).length ((ps ++ qs).map (·.1)) := by
        rw [List.length_append, List.map_append]
        rw [List.length_map] at hown'
        exact hown'
      have hwsz : wd.heap.size ≤ we.heap.size := by have := HQe.out.lt; have := HRe.out.qge; omega
      have hF2 : ∀ k, ((F k ∨ w.heap.size ≤ k) ∧ k < wd.heap.size) → F k ∨ w.heap.size ≤ k := fun k hk => hk.1
      obtain ⟨hT, hTO⟩ := (HLe.out.mono hF2).setTs hO' (qs := qs) hown2 hnew (fun k hk => (hnew k hk).elim (fun e => (HLe.out.fts k e).1) (fun e => .inr (by have := HSW.out; omega))) HRe.out.rdl.2 (fun e he _ k hk => by
        have h1 := ((HRe.out.qs e he).2 k hk).1
        refine ⟨fun e => ?_, fun e => ?_, fun e => ?_, .inr (by have := HSW.out; omega)⟩
        · have := HLe.out.fp.2; omega
        · have := (HLe.out.fts k e).2; omega
        · have := (HLe.out.ftl k e).2; omega)
      have hch8 := (HRe.out.ch.only hO' (fun k hk _ e => by have := (HRe.out.vc k hk).1; have := (HLe.out.fts k e).2; omega)).only (only_cell wa p 8 vts') (fun k hk _ e => by have := (HRe.out.vc k hk).1; have := HLe.out.fp.2; omega)
      have hQa := HQe.out.only hO' (fun e => by have := HRe.out.qge; have := (HLe.out.fts _ e).2; omega)
      have hQ8 := hQa.only (only_cell wa p 8 vts') (fun e => by have := HRe.out.qge; have := HLe.out.fp.2; omega)
      have RQa : LcQ q (.slice at1 nt1 ct1) wa := hQa.cells.1
      have RQ8 : LcQ q (.slice at1 nt1 ct1) (wa.setCell ⟨p, 8, none⟩ vts') := hQ8.cells.1
      have hpa := HLe.out.at_.only hO' (fun e => HLe.out.neT.1 e)
      obtain ⟨at2, ct2, hv2, -, -⟩ := ownSl_form hown2
      obtain ⟨n2, Hn2⟩ : ∃ n2, Hid ((ps ++ qs).length = n2) := ⟨_, Lib.hid rfl⟩
      rw [Hn2.out] at hv2
      subst hv2
      have HAPP := Lib.hid happ
      have HAa := Lib.hid hpa
      have HT8 := Lib.hid hT
      have HTO8 := Lib.hid hTO
      have HCh8 := Lib.hid hch8
      have HQ8 := Lib.hid hQ8
      have HNw := Lib.hid hnew
      have HWS := Lib.hid hwsz
      clear happ hpa hT hTO hch8 hQa hQ8 hnew hown2 hown' hO' hb' hwsz hF2
      unfold LcQ
      unfold LcQ at RQa RQ8
      iterate 6 (apply ordT_take; (simp only [List.getElem?_toArray, List.getElem?_cons_succ, List.getElem?_cons_zero]; rfl); rfl; (intro w hSw; (try dsimp only at hSw); go_simp; try with_reducible rfl); intro _; try simp only [Act.put, List.setIfInBounds_toArray, List.set_cons_zero, List.set_cons_succ])
      (apply ordT_only; (simp only [List.getElem?_toArray, List.getElem?_cons_succ, List.getElem?_cons_zero]; rfl); rfl; intro K hK)
      have c8 := HLe.out.at_.cell 8 rfl
      go_simp
      clear c8
      refine hK.out _ _ (HQe.out.cells.1) (fun _ => ?_)
      clear hK K
      try simp only [Act.put, List.setIfInBounds_toArray, List.set_cons_zero, List.set_cons_succ]
      (apply ordT_only; (simp only [List.getElem?_toArray, List.getElem?_cons_succ, List.getElem?_cons_zero]; rfl); rfl; intro K hK)
      refine oper_append _ _ 52 rfl _ _ rfl rfl HAPP.out ?_
      refine hK.out _ _ (RQa) (fun _ => ?_)
      clear hK K
      try simp only [Act.put, List.setIfInBounds_toArray, List.set_cons_zero, List.set_cons_succ]
      iterate 2 (apply ordT_take; (simp only [List.getElem?_toArray, List.getElem?_cons_succ, List.getElem?_cons_zero]; rfl); rfl; (intro w hSw; (try dsimp only at hSw); go_simp; try with_reducible rfl); intro _; try simp only [Act.put, List.setIfInBounds_toArray, List.set_cons_zero, List.set_cons_succ])
      (apply ordT_only; (simp only [List.getElem?_toArray, List.getElem?_cons_succ, List.getElem?_cons_zero]; rfl); rfl; intro K hK)
      have y8 := HAa.out.cell 8 rfl
      have f8 := HAa.out.frozen 8
      go_simp
      clear y8 f8
      refine hK.out _ _ (RQ8) (fun _ => ?_)
      clear hK K
      try simp only [Act.put, List.setIfInBounds_toArray, List.set_cons_zero, List.set_cons_succ]
      apply ordT_done
      clear HAPP HAa RQa RQ8
      generalize World.setCell wa _ _ = wb at *
      have U4 := HT8.out.upd 4 (.int .i64 (i : Int)) (s' := ⟨(i : Int), u, true, ch, ts ++ qs.map (·.2), 0, [], false⟩) rfl rfl rfl rfl
      have U5 := U4.upd 5 (.int .i64 (us : Int)) (s' := ⟨(i : Int), us, true, ch, ts ++ qs.map (·.2), 0, [], false⟩) rfl rfl rfl rfl
      have U6 := U5.upd 6 (.bool sd) (s' := ⟨(i : Int), us, sd, ch, ts ++ qs.map (·.2), 0, [], false⟩) rfl rfl rfl rfl
      have hO3 : Only (fun k => k = p) wb (((wb.setCell ⟨p, 4, none⟩ (.int .i64 (i : Int))).setCell ⟨p, 5, none⟩ (.int .i64 (us : Int))).setCell ⟨p, 6, none⟩ (.bool sd)) := ((only_cell wb p 4 _).trans (only_cell _ p 5 _) (fun _ _ h => h)).trans (only_cell _ p 6 _) (fun _ _ h => h)
      have hcp : ∀ k, blk (.slice ac1 nc1 cc1) = some k → k ≠ p := fun k hk e => by have := (HRe.out.vc k hk).1; have := HLe.out.fp.2; omega
      have hcne : pch ≠ [] := fun e => by have := HFi.out.1; dsimp only at this; rw [e] at this; simp at this
      have U7 := Lib.hid (U6.setCh (HCh8.out.only hO3 (fun k hk _ e => hcp k hk e)) HFi.out.1 (fun k hk => ⟨hcp k hk, fun e => by
          have h1 := (HRe.out.vc k hk).1
          have h2 := HRe.out.ch.lt hk hcne
          rcases HNw.out k e with h | h
          · have := (HLe.out.fts k h).2; omega
          · omega, fun e => by have h1 := (HRe.out.vc k hk).1; have := (HLe.out.ftl k e).2; omega⟩) (fun k hk => .inr (by have := (HRe.out.vc k hk).1; have := HSW.out; omega)))
      have HOz : Hid (Only F w ((((wb.setCell ⟨p, 4, none⟩ (.int .i64 (i : Int))).setCell ⟨p, 5, none⟩ (.int .i64 (us : Int))).setCell ⟨p, 6, none⟩ (.bool sd)).setCell ⟨p, 7, none⟩ (.slice ac1 nc1 cc1))) := Lib.hid (by
        have hpF : p < w.heap.size → F p := fun hk => HLe.out.fp.1.elim id (fun h => by omega)
        refine ((HOe.out.trans HTO8.out (fun k hk e => ?_)).trans hO3 (fun k hk e => ?_)).trans (only_cell _ _ _ _) (fun k hk e => ?_)
        · rcases e with e | e
          · rw [e] at hk ⊢; exact hpF hk
          · exact (HLe.out.fts k e).1.elim id (fun h => by omega)
        · rw [e] at hk ⊢; exact hpF hk
        · rw [e] at hk ⊢; exact hpF hk)
      have y4 := HT8.out.at_.cell 4 rfl
      have f4 := HT8.out.at_.frozen 4
      have y5 := U4.at_.cell 5 rfl
      have f5 := U4.at_.frozen 5
      have y6 := U5.at_.cell 6 rfl
      have f6 := U5.at_.frozen 6
      have y7 := U6.at_.cell 7 rfl
      have f7 := U6.at_.frozen 7
      obtain ⟨-, x1, x2, x3⟩ := HQ8.out.cells
      have HTS := Lib.hid HRe.out.ts
      clear U4 U5 U6 hO3 hcp hcne HT8 HTO8 HCh8 HQ8 HNw HWS HLe HRe HQe HOe
      go_wp2
      have HNX : PLg.of (128 * sz) (lgNext ⟨true, pts, pch, sd, us⟩ i sg) = ⟨(i : Int), us, sd, pch, ts ++ pts, 0, [], false⟩ := by
        rw [PLg.of_next HFi.out.2.2.1, ← HTo2.out]
      have hE := U7.out
      dsimp only at hE
      rw [HTS.out] at hE
      have hPa : PaIn w F p g frm N sz B (i + 1) ⟨(i : Int), us, sd, pch, ts ++ pts, 0, [], false⟩ _ _ _ _ _ := ⟨hE, HOz.out, HTo.out.1, rfl, by
          have h1 := HBd.out
          have h2 := HFi.out.2.1
          dsimp only at h2 ⊢
          rw [List.length_append, Nat.mul_succ]
          omega, ⟨rfl, rfl, rfl⟩, fun e => ⟨_, HFi.out.1, HNX.symm, by
          dsimp only at e
          rw [HTo.out.2.2, told_more HTo.out.1 HPe.out, if_pos rfl, if_pos e]⟩, fun e => by
          dsimp only at e
          rw [HTo.out.2.2, told_more HTo.out.1 HPe.out, if_pos rfl, if_neg (fun e' => by rw [e] at e'; cases e')]
          exact HNX.symm⟩
      refine ⟨⟨_, _, _, _, _, _, hPa⟩, ?_⟩
      rw [hPa.numAt, HM.out]
      have := HTo.out.1
      omega
    intro K hK
    go_simp
    refine (HOc.out wd N0).mono ?_
    rintro _ w9 ⟨rfl, rfl⟩
    refine hK.out _ _ (HC.out) (fun _ => ?_)
    clear hK K
    try simp only [Act.put, List.setIfInBounds_toArray, List.set_cons_zero, List.set_cons_succ]
    iterate 2 (apply ordT_take; (simp only [List.getElem?_toArray, List.getElem?_cons_succ, List.getElem?_cons_zero]; rfl); rfl; (intro w hSw; (try dsimp only at hSw); go_simp; try with_reducible rfl); intro _; try simp only [Act.put, List.setIfInBounds_toArray, List.set_cons_zero, List.set_cons_succ])
    (apply ordT_two; (simp only [List.getElem?_toArray, List.getElem?_cons_succ, List.getElem?_cons_zero]; rfl); rfl; (simp only [List.getElem?_toArray, List.getElem?_cons_succ, List.getElem?_cons_zero]; rfl); rfl)
    rotate_left
    · intro K hK
      go_simp
      generalize hwa : World.alloc wd _ = wa
      have HQa : Hid (PaZ wa wd.heap.size) := Lib.hid (by rw [← hwa]; exact heap_alloc_new _ _)
      have NA : Hid (New wd wa) := Lib.hid (by rw [← hwa]; exact (Below.refl _ _).alloc (Nat.le_refl _) _)
      have HCa : Hid (Lc78 p (.slice ac 32 cc) (.slice at_ ps.length ct) wa) := Lib.hid ⟨(HLd.out.new NA.out).at_.cell 7 rfl, (HLd.out.new NA.out).at_.cell 8 rfl⟩
      clear hwa
      obtain ⟨q, Hq⟩ : ∃ q, Hid (wd.heap.size = q) := ⟨_, Lib.hid rfl⟩
      rw [Hq.out] at HQa
      rw [Hq.out]
      refine hK.out _ _ (HCa.out) (fun _ => ?_)
      clear hK K
      try simp only [Act.put, List.setIfInBounds_toArray, List.set_cons_zero, List.set_cons_succ]
      (apply ordT_only; (simp only [List.getElem?_toArray, List.getElem?_cons_succ, List.getElem?_cons_zero]; rfl); rfl; intro K hK)
      go_simp
      refine (HPs.out wa NA.out).mono ?_
      rintro _ wq ⟨Nq, at1, nt1, ct1, ac1, nc1, cc1, qs, rfl, r1, r2, r3, r4, r5, r6⟩
      dsimp only at r2 r3
      have HQ : Hid (At4 wq q 131 (.slice none 0 0) (.slice none 0 0) (.bool false) (.int .i64 0)) := Lib.hid (At4.new HQa.out Nq)
      have hlt0 : q < wa.heap.size := At4.lt HQa.out
      have hsz0 : wd.heap.size ≤ wa.heap.size := NA.out.size
      have HR : Hid (PaQ wq wd.heap.size q ⟨ok, pts, pch, sd, us⟩ (.slice at1 nt1 ct1) (.slice ac1 nc1 cc1) qs) := Lib.hid
        ⟨r1, r2, r3, by have := Hq.out; omega, fun j hj => ⟨by have := r4 j hj; omega, fun _ => by have := r4 j hj; omega⟩, fun e he => ⟨(r5 e he).1, fun j hj => ⟨by have := (r5 e he).2 j hj; omega, by have := (r5 e he).2 j hj; omega⟩⟩, fun j hj => ⟨by have := r6 j hj; omega, fun _ => by have := r6 j hj; omega⟩⟩
      have HLq := Lib.hid (HLd.out.new (New.trans NA.out Nq))
      have HOw : Hid (Only F w wq) := Lib.hid (HOd.out.trans (New.only (F := F) (New.trans NA.out Nq)) (fun _ _ h => h))
      have HCq : Hid (Lc78 p (.slice ac 32 cc) (.slice at_ ps.length ct) wq) := Lib.hid ⟨HLq.out.at_.cell 7 rfl, HLq.out.at_.cell 8 rfl⟩
      clear Nq r1 r2 r3 r4 r5 r6 HQa HCa NA HPs HOc HLd HOd HXd HC hlt0 hsz0 Hq
      refine hK.out _ _ (HCq.out) (fun _ => ?_)
      clear hK K
      try simp only [Act.put, List.setIfInBounds_toArray, List.set_cons_zero, List.set_cons_succ]
      iterate 3 (apply ordT_take; (simp only [List.getElem?_toArray, List.getElem?_cons_succ, List.getElem?_cons_zero]; rfl); rfl; (intro w hSw; (try dsimp only at hSw); go_simp; try with_reducible rfl); intro _; try simp only [Act.put, List.setIfInBounds_toArray, List.set_cons_zero, List.set_cons_succ])
      clear HCq
      -- wq: Parse and the variable are through; qs: its texts
      (apply ordT_only; (simp only [List.getElem?_toArray, List.getElem?_cons_succ, List.getElem?_cons_zero]; rfl); rfl; intro K hK)
      obtain ⟨z0, z1, z2, z3⟩ := HQ.out.frozen
      obtain ⟨y0, y1, y2, y3⟩ := HQ.out.cells
      go_simp
      clear z0 z1 z2 z3 y0 y1 y2 y3
      have HQ1 : Hid (At4 _ q 131 (.slice at1 nt1 ct1) (.slice ac1 nc1 cc1) (.bool sd) (.int .i64 (us : Int))) := Lib.hid (HQ.out.put (.slice at1 nt1 ct1) (.slice ac1 nc1 cc1) (.bool sd) (.int .i64 (us : Int)))
      have HOq : Hid (Only (fun k => k = q) wq _) := Lib.hid (At4.put_only wq q (.slice at1 nt1 ct1) (.slice ac1 nc1 cc1) (.bool sd) (.int .i64 (us : Int)))
      generalize World.setCell (World.setCell (World.setCell (World.setCell wq _ _) _ _) _ _) _ _ = ws at *
      have HLs := Lib.hid (HLq.out.only HOq.out (fun k hk e => by have := HR.out.qge; have := hk.2; omega))
      have HRs := Lib.hid (HR.out.only HOq.out (fun j hj => .inr hj))
      have HOs : Hid (Only F w ws) := Lib.hid (HOw.out.trans HOq.out (fun k hk e => by have := HR.out.qge; have := HSW.out; omega))
      have HCs : Hid (Lc78 p (.slice ac 32 cc) (.slice at_ ps.length ct) ws) := Lib.hid ⟨HLs.out.at_.cell 7 rfl, HLs.out.at_.cell 8 rfl⟩
      clear HQ HLq HR HOw HOq
      refine hK.out _ _ (HCs.out) (fun _ => ?_)
      clear hK K
      try simp only [Act.put, List.setIfInBounds_toArray, List.set_cons_zero, List.set_cons_succ]
      (apply ordT_take; (simp only [List.getElem?_toArray, List.getElem?_cons_succ, List.getElem?_cons_zero]; rfl); rfl; (intro w hSw; (try dsimp only at hSw); go_simp; try with_reducible rfl); intro _; try simp only [Act.put, List.setIfInBounds_toArray, List.set_cons_zero, List.set_cons_succ])
      apply ordT_done
      clear HCs
      cases ok
      · have HT : Hid ((⟨num, u, true, ch, ts, 0, [], false⟩ : PLg) = PLg.of (128 * sz) (lgTold B (128 * sz) N 0 lgStart)) := Lib.hid (by rw [HTo.out.2.2, told_more HTo.out.1 HPe.out, if_neg (fun e => by cases e), ← HTo.out.2.1])
        go_wp2
        (try simp only [Exit.inBlock, Exit.then])
        refine bodyPost_ret (results_none rfl _ _ _) rfl ?_
        have hfin := HLs.out.mono (G := fun k => F k ∨ w.heap.size ≤ k) (fun k hk => hk.1)
        rw [HT.out, hz] at hfin
        exact ⟨rfl, ⟨_, _, _, _, hfin⟩, HOs.out⟩
      have HFi := Lib.hid (sParse_fits HLs.out.chl (show (sParse (lgSeg B (128 * sz) i) (i : Int) (ts.length : Int) ch).ok = true by rw [HPc.out]))
      rw [HPc.out] at HFi
      have ND : New ws ws.drew := (Below.refl _ _).drew
      have HLe := Lib.hid (HLs.out.drew)
      have HRe := Lib.hid (HRs.out.only (New.only (F := fun _ => False) ND) (fun _ h => h.elim))
      have HQe := Lib.hid (HQ1.out.new ND)
      have HOe : Hid (Only F w ws.drew) := Lib.hid HOs.out.drew
      clear ND HLs HRs HQ1 HOs
      go_upto_region 4 with fail
      have RQ0 : LcQ q (.slice at1 nt1 ct1) ws.drew := HQe.out.cells.1
      refine region_ordT (LcQ q (.slice at1 nt1 ct1)) (.take 0 (.take 1 (.take 2 (.take 3 (.take 5 (.take 6 (.only 4 (.only 7 (.take 8 (.take 9 (.only 10 .nil)))))))))) ) (by kernel_rfl) (by kernel_rfl) RQ0 (fun _ => ?_)
      clear RQ0
      generalize ws.drew = we at *
      obtain ⟨i0, hi0, hz0, hz1, hz2⟩ := info_parts infoSl
      have hql : qs.length = pts.length := by have := congrArg List.length HRe.out.ts; rwa [List.length_map] at this
      have hpl : ps.length = ts.length := HLe.out.len
      obtain ⟨vts', wa, happ, hown', hO', hb'⟩ := run_append_any (P := Tryz.prog) we 0 52 52 42 i0 _ 24 Tryz.underlying52 hi0 hz0 hz1 hz2 rfl _ ps.length (ps.map (·.1)) HLe.out.oT (.slice at1 nt1 ct1) (qs.map (·.1)) HRe.out.rdl.1 (sl_one HRe.out.rdl) (by rw [List.length_map]; have h1 := HBd.out; have h2 := HFi.out.2.1; dsimp only at h2; omega) (by rw [List.length_map]; have h1 := HBd.out; have h2 := HFi.out.2.1; dsimp only at h2; omega) (Nat.zero_le _)
      clear hi0 hz0 hz1 hz2 hpl hql
      have hnew : ∀ k, blk vts' = some k → blk (.slice at_ ps.length ct) = some k ∨ we.heap.size ≤ k := fun k hk => by
        rcases hb' with e | ⟨j, e, hj⟩
        · exact .inl (by rw [← e]; exact hk)
        · rw [e] at hk; cases hk; exact .inr hj
      have hown2 : wa.ownsRow 0 42 1 vts' (ps ++ qs).length ((ps ++ qs).map (·.1)) := by
        rw [List.length_append, List.map_append]
        rw [List.length_map] at hown'
        exact hown'
      have hwsz : wd.heap.size ≤ we.heap.size := by have := HQe.out.lt; have := HRe.out.qge; omega
      have hF2 : ∀ k, ((F k ∨ w.heap.size ≤ k) ∧ k < wd.heap.size) → F k ∨ w.heap.size ≤ k := fun k hk => hk.1
      obtain ⟨hT, hTO⟩ := (HLe.out.mono hF2).setTs hO' (qs := qs) hown2 hnew (fun k hk => (hnew k hk).elim (fun e => (HLe.out.fts k e).1) (fun e => .inr (by have := HSW.out; omega))) HRe.out.rdl.2 (fun e he _ k hk => by
        have h1 := ((HRe.out.qs e he).2 k hk).1
        refine ⟨fun e => ?_, fun e => ?_, fun e => ?_, .inr (by have := HSW.out; omega)⟩
        · have := HLe.out.fp.2; omega
        · have := (HLe.out.fts k e).2; omega
        · have := (HLe.out.ftl k e).2; omega)
      have hch8 := (HRe.out.ch.only hO' (fun k hk _ e => by have := (HRe.out.vc k hk).1; have := (HLe.out.fts k e).2; omega)).only (only_cell wa p 8 vts') (fun k hk _ e => by have := (HRe.out.vc k hk).1; have := HLe.out.fp.2; omega)
      have hQa := HQe.out.only hO' (fun e => by have := HRe.out.qge; have := (HLe.out.fts _ e).2; omega)
      have hQ8 := hQa.only (only_cell wa p 8 vts') (fun e => by have := HRe.out.qge; have := HLe.out.fp.2; omega)
      have RQa : LcQ q (.slice at1 nt1 ct1) wa := hQa.cells.1
      have RQ8 : LcQ q (.slice at1 nt1 ct1) (wa.setCell ⟨p, 8, none⟩ vts') := hQ8.cells.1
      have hpa := HLe.out.at_.only hO' (fun e => HLe.out.neT.1 e)
      obtain ⟨at2, ct2, hv2, -, -⟩ := ownSl_form hown2
      obtain ⟨n2, Hn2⟩ : ∃ n2, Hid ((ps ++ qs).length = n2) := ⟨_, Lib.hid rfl⟩
      rw [Hn2.out] at hv2
      subst hv2
      have HAPP := Lib.hid happ
      have HAa := Lib.hid hpa
      have HT8 := Lib.hid hT
      have HTO8 := Lib.hid hTO
      have HCh8 := Lib.hid hch8
      have HQ8 := Lib.hid hQ8
      have HNw := Lib.hid hnew
      have HWS := Lib.hid hwsz
      clear happ hpa hT hTO hch8 hQa hQ8 hnew hown2 hown' hO' hb' hwsz hF2
      unfold LcQ
      unfold LcQ at RQa RQ8
      iterate 6 (apply ordT_take; (simp only [List.getElem?_toArray, List.getElem?_cons_succ, List.getElem?_cons_zero]; rfl); rfl; (intro w hSw; (try dsimp only at hSw); go_simp; try with_reducible rfl); intro _; try simp only [Act.put, List.setIfInBounds_toArray, List.set_cons_zero, List.set_cons_succ])
      (apply ordT_only; (simp only [List.getElem?_toArray, List.getElem?_cons_succ, List.getElem?_cons_zero]; rfl); rfl; intro K hK)
      have c8 := HLe.out.at_.cell 8 rfl
      go_simp
      clear c8
      refine hK.out _ _ (HQe.out.cells.1) (fun _ => ?_)
      clear hK K
      try simp only [Act.put, List.setIfInBounds_toArray, List.set_cons_zero, List.set_cons_succ]
      (apply ordT_only; (simp only [List.getElem?_toArray, List.getElem?_cons_succ, List.getElem?_cons_zero]; rfl); rfl; intro K hK)
      refine oper_append _ _ 52 rfl _ _ rfl rfl HAPP.out ?_
      refine hK.out _ _ (RQa) (fun _ => ?_)
      clear hK K
      try simp only [Act.put, List.setIfInBounds_toArray, List.set_cons_zero, List.set_cons_succ]
      iterate 2 (apply ordT_take; (simp only [List.getElem?_toArray, List.getElem?_cons_succ, List.getElem?_cons_zero]; rfl); rfl; (intro w hSw; (try dsimp only at hSw); go_simp; try with_reducible rfl); intro _; try simp only [Act.put, List.setIfInBounds_toArray, List.set_cons_zero, List.set_cons_succ])
      (apply ordT_only; (simp only [List.getElem?_toArray, List.getElem?_cons_succ, List.getElem?_cons_zero]; rfl); rfl; intro K hK)
      have y8 := HAa.out.cell 8 rfl
      have f8 := HAa.out.frozen 8
      go_simp
      clear y8 f8
      refine hK.out _ _ (RQ8) (fun _ => ?_)
      clear hK K
      try simp only [Act.put, List.setIfInBounds_toArray, List.set_cons_zero, List.set_cons_succ]
      apply ordT_done
      clear HAPP HAa RQa RQ8
      generalize World.setCell wa _ _ = wb at *
      have U4 := HT8.out.upd 4 (.int .i64 (i : Int)) (s' := ⟨(i : Int), u, true, ch, ts ++ qs.map (·.2), 0, [], false⟩) rfl rfl rfl rfl
      have U5 := U4.upd 5 (.int .i64 (us : Int)) (s' := ⟨(i : Int), us, true, ch, ts ++ qs.map (·.2), 0, [], false⟩) rfl rfl rfl rfl
      have U6 := U5.upd 6 (.bool sd) (s' := ⟨(i : Int), us, sd, ch, ts ++ qs.map (·.2), 0, [], false⟩) rfl rfl rfl rfl
      have hO3 : Only (fun k => k = p) wb (((wb.setCell ⟨p, 4, none⟩ (.int .i64 (i : Int))).setCell ⟨p, 5, none⟩ (.int .i64 (us : Int))).setCell ⟨p, 6, none⟩ (.bool sd)) := ((only_cell wb p 4 _).trans (only_cell _ p 5 _) (fun _ _ h => h)).trans (only_cell _ p 6 _) (fun _ _ h => h)
      have hcp : ∀ k, blk (.slice ac1 nc1 cc1) = some k → k ≠ p := fun k hk e => by have := (HRe.out.vc k hk).1; have := HLe.out.fp.2; omega
      have hcne : pch ≠ [] := fun e => by have := HFi.out.1; dsimp only at this; rw [e] at this; simp at this
      have U7 := Lib.hid (U6.setCh (HCh8.out.only hO3 (fun k hk _ e => hcp k hk e)) HFi.out.1 (fun k hk => ⟨hcp k hk, fun e => by
          have h1 := (HRe.out.vc k hk).1
          have h2 := HRe.out.ch.lt hk hcne
          rcases HNw.out k e with h | h
          · have := (HLe.out.fts k h).2; omega
          · omega, fun e => by have h1 := (HRe.out.vc k hk).1; have := (HLe.out.ftl k e).2; omega⟩) (fun k hk => .inr (by have := (HRe.out.vc k hk).1; have := HSW.out; omega)))
      have HOz : Hid (Only F w ((((wb.setCell ⟨p, 4, none⟩ (.int .i64 (i : Int))).setCell ⟨p, 5, none⟩ (.int .i64 (us : Int))).setCell ⟨p, 6, none⟩ (.bool sd)).setCell ⟨p, 7, none⟩ (.slice ac1 nc1 cc1))) := Lib.hid (by
        have hpF : p < w.heap.size → F p := fun hk => HLe.out.fp.1.elim id (fun h => by omega)
        refine ((HOe.out.trans HTO8.out (fun k hk e => ?_)).trans hO3 (fun k hk e => ?_)).trans (only_cell _ _ _ _) (fun k hk e => ?_)
        · rcases e with e | e
          · rw [e] at hk ⊢; exact hpF hk
          · exact (HLe.out.fts k e).1.elim id (fun h => by omega)
        · rw [e] at hk ⊢; exact hpF hk
        · rw [e] at hk ⊢; exact hpF hk)
      have y4 := HT8.out.at_.cell 4 rfl
      have f4 := HT8.out.at_.frozen 4
      have y5 := U4.at_.cell 5 rfl
      have f5 := U4.at_.frozen 5
      have y6 := U5.at_.cell 6 rfl
      have f6 := U5.at_.frozen 6
      have y7 := U6.at_.cell 7 rfl
      have f7 := U6.at_.frozen 7
      obtain ⟨-, x1, x2, x3⟩ := HQ8.out.cells
      have HTS := Lib.hid HRe.out.ts
      clear U4 U5 U6 hO3 hcp hcne HT8 HTO8 HCh8 HQ8 HNw HWS HLe HRe HQe HOe
      go_wp2
      have HNX : PLg.of (128 * sz) (lgNext ⟨true, pts, pch, sd, us⟩ i sg) = ⟨(i : Int), us, sd, pch, ts ++ pts, 0, [], false⟩ := by
        rw [PLg.of_next HFi.out.2.2.1, ← HTo2.out]
      have hE := U7.out
      dsimp only at hE
      rw [HTS.out] at hE
      have hPa : PaIn w F p g frm N sz B (i + 1) ⟨(i : Int), us, sd, pch, ts ++ pts, 0, [], false⟩ _ _ _ _ _ := ⟨hE, HOz.out, HTo.out.1, rfl, by
          have h1 := HBd.out
          have h2 := HFi.out.2.1
          dsimp only at h2 ⊢
          rw [List.length_append, Nat.mul_succ]
          omega, ⟨rfl, rfl, rfl⟩, fun e => ⟨_, HFi.out.1, HNX.symm, by
          dsimp only at e
          rw [HTo.out.2.2, told_more HTo.out.1 HPe.out, if_pos rfl, if_pos e]⟩, fun e => by
          dsimp only at e
          rw [HTo.out.2.2, told_more HTo.out.1 HPe.out, if_pos rfl, if_neg (fun e' => by rw [e] at e'; cases e')]
          exact HNX.symm⟩
      refine ⟨⟨_, _, _, _, _, _, hPa⟩, ?_⟩
      rw [hPa.numAt, HM.out]
      have := HTo.out.1
      omega
    intro K hK
    go_simp
    refine (HPs.out wd N0).mono ?_
    rintro _ wb ⟨Nb, at1, nt1, ct1, ac1, nc1, cc1, qs, rfl, r1, r2, r3, r4, r5, r6⟩
    dsimp only at r2 r3
    have HR1 := Lib.hid r1
    have HR3 := Lib.hid r3
    have HR2 := Lib.hid (And.intro r2 (And.intro r4 (And.intro r5 r6)))
    have HLb := Lib.hid (HLd.out.new Nb)
    have HOb : Hid (Only F w wb) := Lib.hid (HOd.out.trans (New.only (F := F) Nb) (fun _ _ h => h))
    have HCb : Hid (Lc78 p (.slice ac 32 cc) (.slice at_ ps.length ct) wb) := Lib.hid ⟨HLb.out.at_.cell 7 rfl, HLb.out.at_.cell 8 rfl⟩
    have HSb : Hid (wd.heap.size ≤ wb.heap.size) := Lib.hid Nb.size
    clear Nb r1 r2 r3 r4 r5 r6 HPs HOc HLd HOd HXd HC
    refine hK.out _ _ (HCb.out) (fun _ => ?_)
    clear hK K
    try simp only [Act.put, List.setIfInBounds_toArray, List.set_cons_zero, List.set_cons_succ]
    iterate 3 (apply ordT_take; (simp only [List.getElem?_toArray, List.getElem?_cons_succ, List.getElem?_cons_zero]; rfl); rfl; (intro w hSw; (try dsimp only at hSw); go_simp; try with_reducible rfl); intro _; try simp only [Act.put, List.setIfInBounds_toArray, List.set_cons_zero, List.set_cons_succ])
    (apply ordT_only; (simp only [List.getElem?_toArray, List.getElem?_cons_succ, List.getElem?_cons_zero]; rfl); rfl; intro K hK)
    go_simp
    generalize hwq : World.alloc wb _ = wq
    have HQ : Hid (At4 wq wb.heap.size 131 (.slice none 0 0) (.slice none 0 0) (.bool false) (.int .i64 0)) := Lib.hid (by rw [← hwq]; exact heap_alloc_new _ _)
    have Nq : New wb wq := by rw [← hwq]; exact (Below.refl _ _).alloc (Nat.le_refl _) _
    clear hwq
    obtain ⟨q, Hq⟩ : ∃ q, Hid (wb.heap.size = q) := ⟨_, Lib.hid rfl⟩
    have HR : Hid (PaQ wq wd.heap.size q ⟨ok, pts, pch, sd, us⟩ (.slice at1 nt1 ct1) (.slice ac1 nc1 cc1) qs) := Lib.hid
      ⟨HR1.out.new Nq, HR2.out.1, HR3.out.new Nq, by have := Hq.out; have := HSb.out; omega, fun j hj => ⟨HR2.out.2.1 j hj, fun hne => by have := HR1.out.1.lt hj (by simpa using hne); have := Hq.out; omega⟩, fun e he => ⟨(HR2.out.2.2.1 e he).1, fun j hj => ⟨(HR2.out.2.2.1 e he).2 j hj, by have := (HR1.out.2 e he).lt hj (HR2.out.2.2.1 e he).1; have := Hq.out; omega⟩⟩, fun j hj => ⟨HR2.out.2.2.2 j hj, fun hne => by have := HR3.out.lt hj hne; have := Hq.out; omega⟩⟩
    have HLq := Lib.hid (HLb.out.new Nq)
    have HOw : Hid (Only F w wq) := Lib.hid (HOb.out.trans (New.only (F := F) Nq) (fun _ _ h => h))
    have HCq : Hid (Lc78 p (.slice ac 32 cc) (.slice at_ ps.length ct) wq) := Lib.hid ⟨HLq.out.at_.cell 7 rfl, HLq.out.at_.cell 8 rfl⟩
    rw [Hq.out] at HQ
    rw [Hq.out]
    clear Nq HR1 HR2 HR3 HLb HOb HCb HSb Hq
    refine hK.out _ _ (HCq.out) (fun _ => ?_)
    clear hK K
    try simp only [Act.put, List.setIfInBounds_toArray, List.set_cons_zero, List.set_cons_succ]
    clear HCq
    -- wq: Parse and the variable are through; qs: its texts
    (apply ordT_only; (simp only [List.getElem?_toArray, List.getElem?_cons_succ, List.getElem?_cons_zero]; rfl); rfl; intro K hK)
    obtain ⟨z0, z1, z2, z3⟩ := HQ.out.frozen
    obtain ⟨y0, y1, y2, y3⟩ := HQ.out.cells
    go_simp
    clear z0 z1 z2 z3 y0 y1 y2 y3
    have HQ1 : Hid (At4 _ q 131 (.slice at1 nt1 ct1) (.slice ac1 nc1 cc1) (.bool sd) (.int .i64 (us : Int))) := Lib.hid (HQ.out.put (.slice at1 nt1 ct1) (.slice ac1 nc1 cc1) (.bool sd) (.int .i64 (us : Int)))
    have HOq : Hid (Only (fun k => k = q) wq _) := Lib.hid (At4.put_only wq q (.slice at1 nt1 ct1) (.slice ac1 nc1 cc1) (.bool sd) (.int .i64 (us : Int)))
    generalize World.setCell (World.setCell (World.setCell (World.setCell wq _ _) _ _) _ _) _ _ = ws at *
    have HLs := Lib.hid (HLq.out.only HOq.out (fun k hk e => by have := HR.out.qge; have := hk.2; omega))
    have HRs := Lib.hid (HR.out.only HOq.out (fun j hj => .inr hj))
    have HOs : Hid (Only F w ws) := Lib.hid (HOw.out.trans HOq.out (fun k hk e => by have := HR.out.qge; have := HSW.out; omega))
    have HCs : Hid (Lc78 p (.slice ac 32 cc) (.slice at_ ps.length ct) ws) := Lib.hid ⟨HLs.out.at_.cell 7 rfl, HLs.out.at_.cell 8 rfl⟩
    clear HQ HLq HR HOw HOq
    refine hK.out _ _ (HCs.out) (fun _ => ?_)
    clear hK K
    try simp only [Act.put, List.setIfInBounds_toArray, List.set_cons_zero, List.set_cons_succ]
    (apply ordT_take; (simp only [List.getElem?_toArray, List.getElem?_cons_succ, List.getElem?_cons_zero]; rfl); rfl; (intro w hSw; (try dsimp only at hSw); go_simp; try with_reducible rfl); intro _; try simp only [Act.put, List.setIfInBounds_toArray, List.set_cons_zero, List.set_cons_succ])
    apply ordT_done
    clear HCs
    cases ok
    · have HT : Hid ((⟨num, u, true, ch, ts, 0, [], false⟩ : PLg) = PLg.of (128 * sz) (lgTold B (128 * sz) N 0 lgStart)) := Lib.hid (by rw [HTo.out.2.2, told_more HTo.out.1 HPe.out, if_neg (fun e => by cases e), ← HTo.out.2.1])
      go_wp2
      (try simp only [Exit.inBlock, Exit.then])
      refine bodyPost_ret (results_none rfl _ _ _) rfl ?_
      have hfin := HLs.out.mono (G := fun k => F k ∨ w.heap.size ≤ k) (fun k hk => hk.1)
      rw [HT.out, hz] at hfin
      exact ⟨rfl, ⟨_, _, _, _, hfin⟩, HOs.out⟩
    have HFi := Lib.hid (sParse_fits HLs.out.chl (show (sParse (lgSeg B (128 * sz) i) (i : Int) (ts.length : Int) ch).ok = true by rw [HPc.out]))
    rw [HPc.out] at HFi
    have ND : New ws ws.drew := (Below.refl _ _).drew
    have HLe := Lib.hid (HLs.out.drew)
    have HRe := Lib.hid (HRs.out.only (New.only (F := fun _ => False) ND) (fun _ h => h.elim))
    have HQe := Lib.hid (HQ1.out.new ND)
    have HOe : Hid (Only F w ws.drew) := Lib.hid HOs.out.drew
    clear ND HLs HRs HQ1 HOs
    go_upto_region 4 with fail
    have RQ0 : LcQ q (.slice at1 nt1 ct1) ws.drew := HQe.out.cells.1
    refine region_ordT (LcQ q (.slice at1 nt1 ct1)) (.take 0 (.take 1 (.take 2 (.take 3 (.take 5 (.take 6 (.only 4 (.only 7 (.take 8 (.take 9 (.only 10 .nil)))))))))) ) (by kernel_rfl) (by kernel_rfl) RQ0 (fun _ => ?_)
    clear RQ0
    generalize ws.drew = we at *
    obtain ⟨i0, hi0, hz0, hz1, hz2⟩ := info_parts infoSl
    have hql : qs.length = pts.length := by have := congrArg List.length HRe.out.ts; rwa [List.length_map] at this
    have hpl : ps.length = ts.length := HLe.out.len
    obtain ⟨vts', wa, happ, hown', hO', hb'⟩ := run_append_any (P := Tryz.prog) we 0 52 52 42 i0 _ 24 Tryz.underlying52 hi0 hz0 hz1 hz2 rfl _ ps.length (ps.map (·.1)) HLe.out.oT (.slice at1 nt1 ct1) (qs.map (·.1)) HRe.out.rdl.1 (sl_one HRe.out.rdl) (by rw [List.length_map]; have h1 := HBd.out; have h2 := HFi.out.2.1; dsimp only at h2; omega) (by rw [List.length_map]; have h1 := HBd.out; have h2 := HFi.out.2.1; dsimp only at h2; omega) (Nat.zero_le _)
    clear hi0 hz0 hz1 hz2 hpl hql
    have hnew : ∀ k, blk vts' = some k → blk (.slice at_ ps.length ct) = some k ∨ we.heap.size ≤ k := fun k hk => by
      rcases hb' with e | ⟨j, e, hj⟩
      · exact .inl (by rw [← e]; exact hk)
      · rw [e] at hk; cases hk; exact .inr hj
    have hown2 : wa.ownsRow 0 42 1 vts' (ps ++ qs).length ((ps ++ qs).map (·.1)) := by
      rw [List.length_append, List.map_append]
      rw [List.length_map] at hown'
      exact hown'
    have hwsz : wd.heap.size ≤ we.heap.size := by have := HQe.out.lt; have := HRe.out.qge; omega
    have hF2 : ∀ k, ((F k ∨ w.heap.size ≤ k) ∧ k < wd.heap.size) → F k ∨ w.heap.size ≤ k := fun k hk => hk.1
    obtain ⟨hT, hTO⟩ := (HLe.out.mono hF2).setTs hO' (qs := qs) hown2 hnew (fun k hk => (hnew k hk).elim (fun e => (HLe.out.fts k e).1) (fun e => .inr (by have := HSW.out; omega))) HRe.out.rdl.2 (fun e he _ k hk => by
      have h1 := ((HRe.out.qs e he).2 k hk).1
      refine ⟨fun e => ?_, fun e => ?_, fun e => ?_, .inr (by have := HSW.out; omega)⟩
      · have := HLe.out.fp.2; omega
      · have := (HLe.out.fts k e).2; omega
      · have := (HLe.out.ftl k e).2; omega)
    have hch8 := (HRe.out.ch.only hO' (fun k hk _ e => by have := (HRe.out.vc k hk).1; have := (HLe.out.fts k e).2; omega)).only (only_cell wa p 8 vts') (fun k hk _ e => by have := (HRe.out.vc k hk).1; have := HLe.out.fp.2; omega)
    have hQa := HQe.out.only hO' (fun e => by have := HRe.out.qge; have := (HLe.out.fts _ e).2; omega)
    have hQ8 := hQa.only (only_cell wa p 8 vts') (fun e => by have := HRe.out.qge; have := HLe.out.fp.2; omega)
    have RQa : LcQ q (.slice at1 nt1 ct1) wa := hQa.cells.1
    have RQ8 : LcQ q (.slice at1 nt1 ct1) (wa.setCell ⟨p, 8, none⟩ vts') := hQ8.cells.1
    have hpa := HLe.out.at_.only hO' (fun e => HLe.out.neT.1 e)
    obtain ⟨at2, ct2, hv2, -, -⟩ := ownSl_form hown2
    obtain ⟨n2, Hn2⟩ : ∃ n2, Hid ((ps ++ qs).length = n2) := ⟨_, Lib.hid rfl⟩
    rw [Hn2.out] at hv2
    subst hv2
    have HAPP := Lib.hid happ
    have HAa := Lib.hid hpa
    have HT8 := Lib.hid hT
    have HTO8 := Lib.hid hTO
    have HCh8 := Lib.hid hch8
    have HQ8 := Lib.hid hQ8
    have HNw := Lib.hid hnew
    have HWS := Lib.hid hwsz
    clear happ hpa hT hTO hch8 hQa hQ8 hnew hown2 hown' hO' hb' hwsz hF2
    unfold LcQ
    unfold LcQ at RQa RQ8
    iterate 6 (apply ordT_take; (simp only [List.getElem?_toArray, List.getElem?_cons_succ, List.getElem?_cons_zero]; rfl); rfl; (intro w hSw; (try dsimp only at hSw); go_simp; try with_reducible rfl); intro _; try simp only [Act.put, List.setIfInBounds_toArray, List.set_cons_zero, List.set_cons_succ])
    (apply ordT_only; (simp only [List.getElem?_toArray, List.getElem?_cons_succ, List.getElem?_cons_zero]; rfl); rfl; intro K hK)
    have c8 := HLe.out.at_.cell 8 rfl
    go_simp
    clear c8
    refine hK.out _ _ (HQe.out.cells.1) (fun _ => ?_)
    clear hK K
    try simp only [Act.put, List.setIfInBounds_toArray, List.set_cons_zero, List.set_cons_succ]
    (apply ordT_only; (simp only [List.getElem?_toArray, List.getElem?_cons_succ, List.getElem?_cons_zero]; rfl); rfl; intro K hK)
    refine oper_append _ _ 52 rfl _ _ rfl rfl HAPP.out ?_
    refine hK.out _ _ (RQa) (fun _ => ?_)
    clear hK K
    try simp only [Act.put, List.setIfInBounds_toArray, List.set_cons_zero, List.set_cons_succ]
    iterate 2 (apply ordT_take; (simp only [List.getElem?_toArray, List.getElem?_cons_succ, List.getElem?_cons_zero]; rfl); rfl; (intro w hSw; (try dsimp only at hSw); go_simp; try with_reducible rfl); intro _; try simp only [Act.put, List.setIfInBounds_toArray, List.set_cons_zero, List.set_cons_succ])
    (apply ordT_only; (simp only [List.getElem?_toArray, List.getElem?_cons_succ, List.getElem?_cons_zero]; rfl); rfl; intro K hK)
    have y8 := HAa.out.cell 8 rfl
    have f8 := HAa.out.frozen 8
    go_simp
    clear y8 f8
    refine hK.out _ _ (RQ8) (fun _ => ?_)
    clear hK K
    try simp only [Act.put, List.setIfInBounds_toArray, List.set_cons_zero, List.set_cons_succ]
    apply ordT_done
    clear HAPP HAa RQa RQ8
    generalize World.setCell wa _ _ = wb at *
    have U4 := HT8.out.upd 4 (.int .i64 (i : Int)) (s' := ⟨(i : Int), u, true, ch, ts ++ qs.map (·.2), 0, [], false⟩) rfl rfl rfl rfl
    have U5 := U4.upd 5 (.int .i64 (us : Int)) (s' := ⟨(i : Int), us, true, ch, ts ++ qs.map (·.2), 0, [], false⟩) rfl rfl rfl rfl
    have U6 := U5.upd 6 (.bool sd) (s' := ⟨(i : Int), us, sd, ch, ts ++ qs.map (·.2), 0, [], false⟩) rfl rfl rfl rfl
    have hO3 : Only (fun k => k = p) wb (((wb.setCell ⟨p, 4, none⟩ (.int .i64 (i : Int))).setCell ⟨p, 5, none⟩ (.int .i64 (us : Int))).setCell ⟨p, 6, none⟩ (.bool sd)) := ((only_cell wb p 4 _).trans (only_cell _ p 5 _) (fun _ _ h => h)).trans (only_cell _ p 6 _) (fun _ _ h => h)
    have hcp : ∀ k, blk (.slice ac1 nc1 cc1) = some k → k ≠ p := fun k hk e => by have := (HRe.out.vc k hk).1; have := HLe.out.fp.2; omega
    have hcne : pch ≠ [] := fun e => by have := HFi.out.1; dsimp only at this; rw [e] at this; simp at this
    have U7 := Lib.hid (U6.setCh (HCh8.out.only hO3 (fun k hk _ e => hcp k hk e)) HFi.out.1 (fun k hk => ⟨hcp k hk, fun e => by
        have h1 := (HRe.out.vc k hk).1
        have h2 := HRe.out.ch.lt hk hcne
        rcases HNw.out k e with h | h
        · have := (HLe.out.fts k h).2; omega
        · omega, fun e => by have h1 := (HRe.out.vc k hk).1; have := (HLe.out.ftl k e).2; omega⟩) (fun k hk => .inr (by have := (HRe.out.vc k hk).1; have := HSW.out; omega)))
    have HOz : Hid (Only F w ((((wb.setCell ⟨p, 4, none⟩ (.int .i64 (i : Int))).setCell ⟨p, 5, none⟩ (.int .i64 (us : Int))).setCell ⟨p, 6, none⟩ (.bool sd)).setCell ⟨p, 7, none⟩ (.slice ac1 nc1 cc1))) := Lib.hid (by
      have hpF : p < w.heap.size → F p := fun hk => HLe.out.fp.1.elim id (fun h => by omega)
      refine ((HOe.out.trans HTO8.out (fun k hk e => ?_)).trans hO3 (fun k hk e => ?_)).trans (only_cell _ _ _ _) (fun k hk e => ?_)
      · rcases e with e | e
        · rw [e] at hk ⊢; exact hpF hk
        · exact (HLe.out.fts k e).1.elim id (fun h => by omega)
      · rw [e] at hk ⊢; exact hpF hk
      · rw [e] at hk ⊢; exact hpF hk)
    have y4 := HT8.out.at_.cell 4 rfl
    have f4 := HT8.out.at_.frozen 4
    have y5 := U4.at_.cell 5 rfl
    have f5 := U4.at_.frozen 5
    have y6 := U5.at_.cell 6 rfl
    have f6 := U5.at_.frozen 6
    have y7 := U6.at_.cell 7 rfl
    have f7 := U6.at_.frozen 7
    obtain ⟨-, x1, x2, x3⟩ := HQ8.out.cells
    have HTS := Lib.hid HRe.out.ts
    clear U4 U5 U6 hO3 hcp hcne HT8 HTO8 HCh8 HQ8 HNw HWS HLe HRe HQe HOe
    go_wp2
    have HNX : PLg.of (128 * sz) (lgNext ⟨true, pts, pch, sd, us⟩ i sg) = ⟨(i : Int), us, sd, pch, ts ++ pts, 0, [], false⟩ := by
      rw [PLg.of_next HFi.out.2.2.1, ← HTo2.out]
    have hE := U7.out
    dsimp only at hE
    rw [HTS.out] at hE
    have hPa : PaIn w F p g frm N sz B (i + 1) ⟨(i : Int), us, sd, pch, ts ++ pts, 0, [], false⟩ _ _ _ _ _ := ⟨hE, HOz.out, HTo.out.1, rfl, by
        have h1 := HBd.out
        have h2 := HFi.out.2.1
        dsimp only at h2 ⊢
        rw [List.length_append, Nat.mul_succ]
        omega, ⟨rfl, rfl, rfl⟩, fun e => ⟨_, HFi.out.1, HNX.symm, by
        dsimp only at e
        rw [HTo.out.2.2, told_more HTo.out.1 HPe.out, if_pos rfl, if_pos e]⟩, fun e => by
        dsimp only at e
        rw [HTo.out.2.2, told_more HTo.out.1 HPe.out, if_pos rfl, if_neg (fun e' => by rw [e] at e'; cases e')]
        exact HNX.symm⟩
    refine ⟨⟨_, _, _, _, _, _, hPa⟩, ?_⟩
    rw [hPa.numAt, HM.out]
    have := HTo.out.1
    omega

end Go.Proofs.YtijkmpcgkhijgaaGreatDoor

namespace Go.Proofs.YtijkmpcgkhijgaaGreatDoor
set_option linter.unusedVariables false
set_option linter.unusedSimpArgs false
set_option maxRecDepth 100000
open Go.RowKit

set_option maxHeartbeats 1000000 in
/-- Read of some sectors: a new row -/
theorem devReadRow {q : Int} {w : World} {n g : Nat} {G : Nat → Prop} {D L : List UInt8} {P : List Wr} (hD : Dvc q w n g G D L P) (hq : q ≠ 0) (s m : Nat) (hs : s + m ≤ n) (hm : 0 < m) :
    Calls Tryz.prog 68 #[.pointer (some ⟨g, 0, none⟩), .int .i64 (s : Int), .int .i64 (m : Int)] w fun e w' =>
      ∃ k c, e = .returned (.tuple #[.slice (some ⟨k, 0, none⟩) (128 * m) c, .int .i64 0]) ∧ RowB w' k (secs L s m) ∧ 128 * m ≤ c ∧ c ≤ maxLen ∧ w.heap.size ≤ k ∧ Dvc (nextQ q) w' n g (fun i => (G i ∨ w.heap.size ≤ i) ∧ i ≠ k) D L P ∧ Only G w w' := by
  obtain ⟨gd, gl, cd, cl, vp, h0, f1, f2, f3, f4⟩ := hD
  have hfew := h0.few
  have HH : Hid (Calls Tryz.prog 75 #[.pointer (some ⟨g, 0, none⟩), .int .i64 (s : Int), .int .i64 (m : Int)] w fun e w' => e = .returned (.bool true) ∧ w = w') := by
    have := diskHasN h0 (s : Int) (m : Int) (by omega)
    rw [show decide (0 ≤ (s : Int) ∧ 0 ≤ (m : Int) ∧ (m : Int) ≤ (n : Int) - (s : Int)) = true by simp; omega] at this
    exact Lib.hid this
  have HX : Hid (Calls Tryz.prog 76 #[.pointer (some ⟨g, 0, none⟩)] w fun e w' => e = .returned (.bool true) ∧ Dsk (nextQ q) w' n g gd gl cd cl vp D L P ∧ Only (fun k => k = g) w w') := by
    have := diskCall h0
    rw [show decide (q ≠ 0) = true by simpa using hq] at this
    exact Lib.hid this
  clear h0 hq
  go_enter Tryz.func68, Tryz.ntmps68
  go_wp2_with fail
  refine HH.out.mono ?_
  rintro e w1 ⟨rfl, rfl⟩
  go_wp2_with fail
  refine HX.out.mono ?_
  rintro e w1 ⟨rfl, hd1, ho1⟩
  obtain ⟨-, c1, -, -⟩ := hd1.cells
  have hcap := hd1.capL
  have hlen := hd1.lenL
  have HD1 := Lib.hid hd1
  have HO1 := Lib.hid ho1
  have HPI := Lib.hid (diskPieceN w1 gl 0 (128 * n) cl s m (by omega) (by omega))
  have hsl : (secs L s m).length = 128 * m := secs_length (by omega)
  have hrp : Rd w1 (.slice (pieceAt gl 0 cl s) (128 * m) (cl - 128 * s)) (secs L s m) := by
    rw [pieceAt_pos (m := m) (by omega) hm, Nat.zero_add]
    exact hd1.rowL.rdSecs hsl (by omega) (by omega) (by omega)
  have HC := Lib.hid (bytesClone w1 _ (secs L s m) hrp (by intro e; rw [e] at hsl; simp at hsl; omega) (by omega))
  have HSL := Lib.hid hsl
  clear HH HX hd1 ho1 hrp hsl hlen
  generalize cl - 128 * s = t1 at *
  generalize pieceAt gl 0 cl s = A1 at *
  generalize 128 * n = t2 at c1 HPI
  go_wp2_with fail
  refine HPI.out.mono ?_
  rintro e w2 ⟨rfl, rfl⟩
  go_wp2_with fail
  refine HC.out.mono ?_
  rintro e w2 ⟨k, c2, rfl, r2, r3, r4, r5, N2⟩
  rw [HSL.out] at r3 ⊢
  have HR := Lib.hid r2
  have HN := Lib.hid N2
  have HB := Lib.hid (And.intro r3 (And.intro r4 r5))
  clear r2 r3 r4 r5 N2
  generalize hM : 128 * m = M at *
  have HM := Lib.hid hM
  clear hM
  go_wp2
  go_ret2
  have hM := HM.out
  subst hM
  have hg1 : Only G w w1 := HO1.out.mono (fun i _ hi => by rw [show i = g from hi]; exact f1)
  have hsz := hg1.size
  have hv : Dvc (nextQ q) w1 n g (fun i => (G i ∨ w.heap.size ≤ i) ∧ i ≠ k) D L P :=
    Dvc.narrow (F := fun i => G i) ⟨gd, gl, cd, cl, vp, HD1.out, f1, f2, f3, f4⟩ (fun i hi hF => ⟨.inl hF, by have := HB.out.2.2; omega⟩)
  exact ⟨k, c2, rfl, HR.out, HB.out.1, HB.out.2.1, by have := HB.out.2.2; omega, hv.new HN.out, hg1.trans (HN.out.only (F := G)) (fun _ _ h => h)⟩

theorem setCells_row (k : Nat) (e : TypeId) : ∀ (vs : List Value) (o : Nat) (w : World) (xs : List Value), w.heap[k]? = some (.cells xs.toArray e (0, 0)) → o + vs.length ≤ xs.length →
    (∃ ys : List Value, (w.setCells k o vs).heap[k]? = some (.cells ys.toArray e (0, 0)) ∧ ys.length = xs.length ∧ ∀ j, ys[j]? = if o ≤ j ∧ j < o + vs.length then vs[j - o]? else xs[j]?) ∧ Only (fun i => i = k) w (w.setCells k o vs) := by
  intro vs
  induction vs with
  | nil =>
    intro o w xs h _
    refine ⟨⟨xs, h, rfl, fun j => ?_⟩, Only.refl _ _⟩
    rw [if_neg (by simp only [List.length_nil]; omega)]
  | cons v r ih =>
    intro o w xs h hl
    rw [List.length_cons] at hl
    have h1 : (w.setCell ⟨k, o, none⟩ v).heap[k]? = some (.cells (xs.set o v).toArray e (0, 0)) := by rw [heap_setCell_same _ _ _ _ _ _ h]; simp
    obtain ⟨⟨ys, h2, h3, h4⟩, h5⟩ := ih (o + 1) _ (xs.set o v) h1 (by rw [List.length_set]; omega)
    refine ⟨⟨ys, h2, by rw [h3, List.length_set], fun j => ?_⟩, (only_cell w k o v).trans h5 (fun _ _ h => h)⟩
    rw [h4, List.length_cons]
    by_cases hj : j = o
    · subst hj
      rw [if_neg (by omega), if_pos (by omega), Nat.sub_self, List.getElem?_cons_zero, List.getElem?_set_self (by omega)]
    · by_cases hj2 : o + 1 ≤ j ∧ j < o + 1 + r.length
      · rw [if_pos hj2, if_pos (by omega), show j - o = (j - (o + 1)) + 1 by omega, List.getElem?_cons_succ]
      · rw [if_neg hj2, if_neg (by omega), List.getElem?_set_ne (fun e => hj e.symm)]

theorem zeroB_len {l : List UInt8} {e : Nat} (h : e ≤ l.length) : (zeroB l e).length = l.length := by
  unfold zeroB; rw [List.length_append, List.length_take, List.length_replicate]; omega

/-- clear(b[e:]) of a row -/
theorem run_clear_row {w : World} {k : Nat} {l : List UInt8} (hr : RowB w k l) (e c : Nat) (he : e < l.length) :
    ∃ w', (∀ ty, (Builtin.clear_ #[42] ty #[.slice (some ⟨k, e, none⟩) (l.length - e) c]).run Tryz.prog w = .ok (.tuple #[]) w') ∧ RowB w' k (zeroB l e) ∧ Only (fun i => i = k) w w' := by
  obtain ⟨cs, hg⟩ := hr
  obtain ⟨⟨ys, h2, h3, h4⟩, h5⟩ := setCells_row k 5 (List.replicate (l.length - e) (bv 0)) e w _ hg (by rw [List.length_replicate, List.length_append, List.length_map]; omega)
  refine ⟨_, fun ty => Lib.run_clear_slice w 42 5 ty (bv 0) Tryz.underlying42 (fun w => by kernel_rfl) rfl rfl k e (l.length - e) c (by omega) (fun j hj => ?_) (fun j hj => frozen_of_row w k _ _ _ hg), ⟨cs, ?_⟩, h5⟩
  · rw [cell_of_row _ _ _ _ _ _ hg, List.getElem?_toArray, List.getElem?_append_left (by rw [List.length_map]; omega), List.getElem?_map, List.getElem?_eq_getElem (by omega)]
    rfl
  · rw [h2]
    congr 3
    apply List.ext_getElem?
    intro j
    rw [h4, List.length_replicate]
    unfold zeroB
    by_cases hj : e ≤ j ∧ j < e + (l.length - e)
    · rw [if_pos hj, List.getElem?_replicate, if_pos (by omega), List.getElem?_append_left (by rw [List.length_map, List.length_append, List.length_take, List.length_replicate]; omega), List.getElem?_map, List.getElem?_append_right (by rw [List.length_take]; omega), List.getElem?_replicate, if_pos (by rw [List.length_take]; omega)]
      rfl
    · rw [if_neg hj]
      by_cases hj2 : j < e
      · rw [List.getElem?_append_left (by rw [List.length_map]; omega), List.getElem?_append_left (by rw [List.length_map, List.length_append, List.length_take, List.length_replicate]; omega), List.getElem?_map, List.getElem?_map, List.getElem?_append_left (by rw [List.length_take]; omega), List.getElem?_take, if_pos hj2]
      · rw [List.getElem?_append_right (by rw [List.length_map]; omega), List.getElem?_append_right (by rw [List.length_map, List.length_append, List.length_take, List.length_replicate]; omega), List.length_map, List.length_map, List.length_append, List.length_take, List.length_replicate, show min e l.length + (l.length - e) = l.length by omega]

/-- clear(b[n:]) of nothing -/
theorem run_clear_none (w : World) (a : Option Addr) (c : Nat) : ∀ ty, (Builtin.clear_ #[42] ty #[.slice a 0 c]).run Tryz.prog w = .ok (.tuple #[]) w := by
  intro ty
  cases a <;> simp [Builtin.clear_, run_underlying Tryz.underlying42]

/-- b[e:], b[:e] of a row -/
theorem run_tail (k n c e : Nat) (h1 : e < n) (h2 : n ≤ c) (h3 : c ≤ maxLen) :
    (∀ wx : World, (Instr.slice 42 (.slice (some ⟨k, 0, none⟩) n c) (some (.int .i64 (e : Int))) none none).run Tryz.prog wx = .ok (.slice (some ⟨k, e, none⟩) (n - e) (c - e)) wx) ∧ ∀ wx l, Rd wx (.slice (some ⟨k, 0, none⟩) n c) l → Rd wx (.slice (some ⟨k, e, none⟩) (n - e) (c - e)) (l.drop e) := by
  unfold maxLen at h3
  refine ⟨fun wx => ?_, fun wx l h => ?_⟩
  · rw [run_slice_l wx 42 _ n c Tryz.underlying42 .i64 _ (by omega) (by omega)]
    have hz : (sizeOf (Tryz.prog.elem 42)).run Tryz.prog wx = .ok 1 wx := by kernel_rfl
    rw [hz]
    simp only [Result.andThen_ok, sliced, Nat.mul_one, Int.toNat_natCast, Option.map_some, Addr.add_mid, Nat.zero_add]
    rw [if_neg (by omega)]
  · have := h.rest (k := e) (by omega)
    simp only [Option.map_some, Addr.add_mid, Nat.zero_add] at this
    exact this

theorem run_head (k n c e : Nat) (h1 : e ≤ n) (h2 : n ≤ c) (h3 : c ≤ maxLen) :
    (∀ wx : World, (Instr.slice 42 (.slice (some ⟨k, 0, none⟩) n c) none (some (.int .i64 (e : Int))) none).run Tryz.prog wx = .ok (.slice (some ⟨k, 0, none⟩) e c) wx) := by
  unfold maxLen at h3
  intro wx
  rw [run_slice_h wx 42 _ n c Tryz.underlying42 .i64 _ (by omega) (by omega)]
  have hz : (sizeOf (Tryz.prog.elem 42)).run Tryz.prog wx = .ok 1 wx := by kernel_rfl
  rw [hz]
  simp only [Result.andThen_ok, sliced, Nat.mul_one, Int.toNat_natCast, Option.map_some, Addr.add_mid, Nat.zero_add, Nat.sub_zero]
  split <;> rfl

theorem told_zero {B : List UInt8} {z : Nat} : ∀ (n i : Nat) (s : LgS), s.ch.length = 32 → (lgTold B z n i s).used = 0 → lgTold B z n i s = s := by
  intro n
  induction n with
  | zero => intro i s _ _; rfl
  | succ n ih =>
    intro i s hc h
    unfold lgTold at h ⊢
    by_cases hok : (sParse (lgSeg B z i) (i : Int) (s.ts.length : Int) s.ch).ok = true
    · obtain ⟨f1, -, f3, -⟩ := sParse_fits hc hok
      rw [if_pos hok] at h ⊢
      exfalso
      split at h
      · have h2 := ih (i + 1) _ (show (lgNext _ i s).ch.length = 32 from f1) h
        rw [h2] at h
        have : (sParse (lgSeg B z i) (i : Int) (s.ts.length : Int) s.ch).used = 0 := h
        omega
      · have : (sParse (lgSeg B z i) (i : Int) (s.ts.length : Int) s.ch).used = 0 := h
        omega
    · rw [if_neg hok]

/-- where the log of a region ends -/
theorem of_place {B : List UInt8} {sz N : Nat} (hB : B.length = 128 * sz * N) {T : LgS} (hT : lgTold B (128 * sz) N 0 lgStart = T) (hN : N ≤ 1000) :
    T.ch.length = 32 ∧ 41 * T.ts.length ≤ 128 * sz * N ∧ 128 * sz * T.last + T.used ≤ 128 * sz * N ∧ (PLg.of (128 * sz) T).num * ((128 * sz : Nat) : Int) + ((PLg.of (128 * sz) T).used : Int) = ((128 * sz * T.last + T.used : Nat) : Int) ∧ (PLg.of (128 * sz) T).used % 128 = (128 * sz * T.last + T.used) % 128 ∧ (PLg.of (128 * sz) T).used ≤ 128 * sz * N + 128 * sz ∧ -1 ≤ (PLg.of (128 * sz) T).num ∧ (T.used ≠ 0 → 1 ≤ sz → T.last ≤ N) := by
  obtain ⟨f1, f2, f3⟩ := lgTold_fits hB N 0 lgStart (by omega) (by simp [lgStart]) (.inr ⟨rfl, rfl⟩) (by simp [lgStart])
  rw [hT] at f1 f2 f3
  rw [Nat.zero_add] at f2 f3
  have hmod : (128 * sz * T.last + T.used) % 128 = T.used % 128 := by rw [Nat.mul_assoc, Nat.mul_add_mod]
  refine ⟨f1, f3, f2, ?_⟩
  unfold PLg.of
  by_cases hu : T.used = 0
  · have hs : T = lgStart := by rw [← hT]; exact told_zero N 0 lgStart (by simp [lgStart]) (by rw [hT]; exact hu)
    rw [if_pos hu]
    have hl : T.last = 0 := by rw [hs]; rfl
    refine ⟨?_, ?_, ?_, (by show (-1 : Int) ≤ -1; decide), fun h => absurd hu h⟩
    · dsimp only; rw [hl, hu]; omega
    · rw [hl, hu]; dsimp only; omega
    · dsimp only; omega
  · rw [if_neg hu]
    refine ⟨by dsimp only; push_cast; rw [Int.mul_comm], hmod.symm, by dsimp only; omega, by dsimp only; omega, fun _ hsz => ?_⟩
    have h2 : 128 * sz * T.last ≤ 128 * sz * N := by omega
    exact Nat.le_of_mul_le_mul_left h2 (by omega)

/-- the region behind Open's write -/
theorem secs_zeroed {D : List UInt8} {n frm M e t : Nat} (hD : D.length = 128 * n) (hf : frm + M ≤ n) (he : e ≤ 128 * M) (ht : 128 * t ≤ e) :
    secs (lay D (frm + t) ((zeroB (secs D frm M) e).drop (128 * t))) frm M = zeroB (secs D frm M) e := by
  have hB : (secs D frm M).length = 128 * M := secs_length (by omega)
  have hz : (zeroB (secs D frm M) e).length = 128 * M := by rw [zeroB_len (by omega), hB]
  have hb : ((zeroB (secs D frm M) e).drop (128 * t)).length = 128 * M - 128 * t := by rw [List.length_drop, hz]
  apply List.ext_getElem?
  intro j
  by_cases hj : j < 128 * M
  · have h1 : (secs (lay D (frm + t) ((zeroB (secs D frm M) e).drop (128 * t))) frm M)[j]? = (lay D (frm + t) ((zeroB (secs D frm M) e).drop (128 * t)))[128 * frm + j]? := by
      unfold secs; rw [List.getElem?_take, if_pos hj, List.getElem?_drop]
    rw [h1, lay_get (by rw [hb]; omega)]
    by_cases h2 : 128 * frm + j < 128 * (frm + t)
    · rw [if_pos h2, zeroB_get (by omega), if_pos (by omega)]
      unfold secs; rw [List.getElem?_take, if_pos hj, List.getElem?_drop]
    · rw [if_neg h2, if_pos (by rw [hb]; omega), List.getElem?_drop]
      congr 1
      omega
  · rw [List.getElem?_eq_none (by rw [secs_length (by rw [lay_length (by rw [hb]; omega)]; omega)]; omega), List.getElem?_eq_none (by omega)]

/-- the log that Open makes of a region -/
def ldS (B : List UInt8) (z N : Nat) : PLg := (PLg.of z (lgTold B z N 0 lgStart)).settle (B.take (z * (lgTold B z N 0 lgStart).last + (lgTold B z N 0 lgStart).used))

def Lc0123 (p : Nat) (a b c d : Value) (w : World) : Prop := w.cell? ⟨p, 0, none⟩ = some a ∧ w.cell? ⟨p, 1, none⟩ = some b ∧ w.cell? ⟨p, 2, none⟩ = some c ∧ w.cell? ⟨p, 3, none⟩ = some d

set_option maxHeartbeats 2000000 in
theorem lgLoad {w : World} {F G H : Nat → Prop} {p g frm N sz : Nat} {vch vts vtl : Value} {ps : List (Value × List UInt8)} {n : Nat} {D : List UInt8} (h : LObj w F p g frm N sz (PLg.of (128 * sz) lgStart) vch vts vtl ps) (hD : Dvc (-1) w n g G D D []) (dis : ∀ k, F k → ¬ G k) (hF : ∀ k, F k → H k) (hG : ∀ k, G k → H k)
    (hb : 1 ≤ sz ∧ sz ≤ 1000) (hN : 1 ≤ N ∧ N ≤ 1000) (hfit : frm + N * sz ≤ n) (hBb : 128 * sz * N ≤ 1000000) (hla : ∀ w', Only H w w' → Laid w') :
    Calls Tryz.prog 44 #[.pointer (some ⟨p, 0, none⟩)] w fun e w' => e = .returned (.int .i64 0) ∧ ∃ D', LogDTo (-1) w H p g frm N sz (ldS (secs D frm (N * sz)) (128 * sz) N) n D' D' [] w' ∧ secs D' frm (N * sz) = zeroB (secs D frm (N * sz)) (128 * sz * (lgTold (secs D frm (N * sz)) (128 * sz) N 0 lgStart).last + (lgTold (secs D frm (N * sz)) (128 * sz) N 0 lgStart).used) := by
  have hlens := hD.lens
  obtain ⟨M, hM⟩ : ∃ M, N * sz = M := ⟨_, rfl⟩
  rw [hM] at hfit
  have hM1 : 128 * sz * N = 128 * M := by rw [← hM, Nat.mul_assoc, Nat.mul_comm sz N]
  obtain ⟨B, hBe⟩ : ∃ B, secs D frm M = B := ⟨_, rfl⟩
  have hBl : B.length = 128 * M := by rw [← hBe]; exact secs_length (by omega)
  obtain ⟨T, hT⟩ : ∃ T, lgTold B (128 * sz) N 0 lgStart = T := ⟨_, rfl⟩
  have hpl := of_place (by rw [hBl, hM1]) hT hN.2
  have hM0 : 1 ≤ M := by rw [← hM]; exact Nat.mul_pos hN.1 hb.1
  obtain ⟨e, he⟩ : ∃ e, 128 * sz * T.last + T.used = e := ⟨_, rfl⟩
  rw [he, hM1] at hpl
  have HP := Lib.hid hpl
  have HPar : Hid (M ≤ 100000 ∧ e ≤ 128 * M ∧ B.length = 128 * M ∧ frm + M ≤ n ∧ 1 ≤ M ∧ n ≤ 65536 ∧ D.length = 128 * n) := Lib.hid ⟨by omega, hpl.2.2.1, hBl, hfit, hM0, by obtain ⟨_, _, _, _, _, hd, -⟩ := hD; exact hd.few.2, hlens.1⟩
  rw [hM, hBe, hT, he]
  have HTT := Lib.hid hT
  have HLD : Hid (ldS B (128 * sz) N = (PLg.of (128 * sz) T).settle (B.take e)) := Lib.hid (by unfold ldS; rw [hT, he])
  have HB := Lib.hid hBe
  have N1 : New w w.drew := (Below.refl _ _).drew
  have HL1 := Lib.hid (h.new N1)
  have HDI := Lib.hid (And.intro dis (And.intro hF (And.intro hG hla)))
  have HRd := Lib.hid (devReadRow (hD.new N1) (by decide) frm M hfit (by omega))
  have HC : Hid (Lc0123 p (.pointer (some ⟨g, 0, none⟩)) (.int .i64 (frm : Int)) (.int .i64 (N : Int)) (.int .i64 (sz : Int)) w.drew) := Lib.hid ⟨HL1.out.at_.cell 0 rfl, HL1.out.at_.cell 1 rfl, HL1.out.at_.cell 2 rfl, HL1.out.at_.cell 3 rfl⟩
  have HNb : Hid (N ≤ 1000 ∧ sz ≤ 1000 ∧ 1 ≤ sz ∧ 128 * sz * N ≤ 1000000 ∧ B.length = 128 * sz * N) := Lib.hid ⟨hN.2, hb.2, hb.1, hBb, by rw [hBl, hM1]⟩
  have hw1 : IntKind.i64.wrap ((N : Int) * (sz : Int)) = (M : Int) := by
    have : (N : Int) * (sz : Int) = (M : Int) := by rw [← hM]; push_cast; rfl
    rw [this]; exact IntWalk.i64_in _ (by omega)
  obtain ⟨nB, HnB⟩ : ∃ nB, Hid (128 * M = nB) := ⟨_, Lib.hid rfl⟩
  clear h hD dis hF hG hla hlens hM hM1 hBe hBl hT hpl hM0 he hb hN hfit hBb
  go_enter Tryz.func44, Tryz.ntmps44
  go_upto_region 1 with fail
  refine region_ord (Lc0123 p (.pointer (some ⟨g, 0, none⟩)) (.int .i64 (frm : Int)) (.int .i64 (N : Int)) (.int .i64 (sz : Int))) [(0, true), (1, true), (2, true), (3, true), (4, true), (5, true), (6, true), (7, true), (8, true), (9, true), (10, true), (11, true), (12, true), (13, true), (14, true), (15, true), (16, true), (17, true), (18, true), (19, true), (20, true), (21, false), (22, true), (23, true), (24, true), (25, true), (26, true)] (by kernel_rfl) (by kernel_rfl) HC.out (fun _ => ?_)
  generalize w.drew = w0 at *
  unfold Lc0123
  iterate 21 (apply ord_take; (simp only [List.getElem?_toArray, List.getElem?_cons_succ, List.getElem?_cons_zero]; rfl); rfl; (intro w hSw; (try dsimp only at hSw); go_simp; try with_reducible rfl); intro _; try simp only [Act.put, List.setIfInBounds_toArray, List.set_cons_zero, List.set_cons_succ])
  (apply ord_only; (simp only [List.getElem?_toArray, List.getElem?_cons_succ, List.getElem?_cons_zero]; rfl); rfl; intro K hK)
  go_simp
  refine HRd.out.mono ?_
  rintro _ w1 ⟨k, c, rfl, hr, hc1, hc2, hk, hd, ho⟩
  rw [HB.out] at hr
  have HRow := Lib.hid hr
  have HK : Hid (e ≤ nB ∧ nB ≤ c ∧ c ≤ maxLen ∧ w.heap.size ≤ k ∧ k < w1.heap.size) := Lib.hid ⟨by rw [← HnB.out]; exact HPar.out.2.1, by rw [← HnB.out]; exact hc1, hc2, Nat.le_trans N1.size hk, hr.lt⟩
  rw [HnB.out]
  have HLb := Lib.hid ((HL1.out.narrow (G := fun j => F j ∧ j < w0.heap.size) (fun j hj hf => ⟨hf, hj⟩)).only ho (fun j hj => HDI.out.1 j hj.1))
  have HDb : Hid (Dvc (-1) w1 n g (fun i => (G i ∨ w0.heap.size ≤ i) ∧ i ≠ k) D D []) := Lib.hid hd
  have HOb : Hid (Only H w w1) := Lib.hid ((New.only (F := H) N1).trans (ho.mono (fun j _ hj => HDI.out.2.2.1 j hj)) (fun _ _ h => h))
  have HS01 : Hid (w.heap.size ≤ w0.heap.size ∧ w0.heap.size ≤ w1.heap.size ∧ w0.heap.size ≤ k) := Lib.hid ⟨N1.size, ho.size, hk⟩
  have HC1 : Hid (Lc0123 p (.pointer (some ⟨g, 0, none⟩)) (.int .i64 (frm : Int)) (.int .i64 (N : Int)) (.int .i64 (sz : Int)) w1) := Lib.hid ⟨HLb.out.at_.cell 0 rfl, HLb.out.at_.cell 1 rfl, HLb.out.at_.cell 2 rfl, HLb.out.at_.cell 3 rfl⟩
  clear hr hc1 hc2 hk hd ho N1 HC HRd HL1
  refine hK.out _ _ (HC1.out) (fun _ => ?_)
  clear hK K
  try simp only [Act.put, List.setIfInBounds_toArray, List.set_cons_zero, List.set_cons_succ]
  iterate 5 (apply ord_take; (simp only [List.getElem?_toArray, List.getElem?_cons_succ, List.getElem?_cons_zero]; rfl); rfl; (intro w hSw; (try dsimp only at hSw); go_simp; try with_reducible rfl); intro _; try simp only [Act.put, List.setIfInBounds_toArray, List.set_cons_zero, List.set_cons_succ])
  apply ord_done
  clear HC1 hw1
  have HPa := Lib.hid (lgParse HLb.out ⟨HNb.out.2.2.1, HNb.out.2.1⟩ HNb.out.1 (fun w' hw => HDI.out.2.2.2 w' (HOb.out.trans (hw.mono (fun j _ hj => HDI.out.2.1 j hj.1)) (fun _ _ h => h))) (some ⟨k, 0, none⟩) nB c B (by
    have := HRow.out.rd (c := c) (by rw [HPar.out.2.2.1, HnB.out]; exact HK.out.2.1) HK.out.2.2.1
    rwa [HPar.out.2.2.1, HnB.out] at this) (fun j hj hf => by
    obtain rfl : k = j := by simpa [blk] using hj
    have := HS01.out; have := hf.2; omega) HNb.out.2.2.2.2 HNb.out.2.2.2.1)
  rw [HTT.out] at HPa
  go_wp2_with fail
  refine HPa.out.mono ?_
  rintro _ w2 ⟨rfl, ⟨vch2, vts2, vtl2, ps2, hl2⟩, ho2⟩
  have HL2 := Lib.hid hl2
  have HR2 := Lib.hid (HRow.out.same (ho2.block k HK.out.2.2.2.2 (fun hf => by have := HS01.out; have := hf.2; omega)))
  have HDF : Hid (∀ j, ((F j ∧ j < w0.heap.size) ∨ w1.heap.size ≤ j) → ¬ (((G j ∨ w0.heap.size ≤ j) ∧ j ≠ k) ∧ j < w1.heap.size)) := Lib.hid (fun j hj hg => by
    rcases hj with hj | hj
    · rcases hg.1.1 with h | h
      · exact HDI.out.1 j hj.1 h
      · omega
    · omega)
  have HD2 := Lib.hid ((HDb.out.narrow (G := fun j => ((G j ∨ w0.heap.size ≤ j) ∧ j ≠ k) ∧ j < w1.heap.size) (fun j hj hf => ⟨hf, hj⟩)).only ho2 (fun j hj hf => HDF.out j (.inl hf) hj))
  have HO2 : Hid (Only H w w2) := Lib.hid (HOb.out.trans (ho2.mono (fun j _ hj => HDI.out.2.1 j hj.1)) (fun _ _ h => h))
  have HS12 : Hid (w1.heap.size ≤ w2.heap.size) := Lib.hid ho2.size
  have HPF : Hid (p < w0.heap.size ∧ F p) := Lib.hid ⟨HLb.out.fp.2, HLb.out.fp.1⟩
  have HKp : Hid (k ≠ p) := Lib.hid (fun e => by have := HPF.out; have := HS01.out; omega)
  clear hl2 ho2 HPa HLb HDb HOb HRow
  have HPl := Lib.hid (lgPlace HL2.out HNb.out.2.1 ⟨HP.out.2.2.2.2.2.2.1, by
    have h1 := HP.out.2.2.2.2.2.2.2
    have h2 := HNb.out
    unfold PLg.of
    split
    · dsimp only; omega
    · rename_i hu
      have := h1 hu h2.2.2.1
      dsimp only
      omega⟩ e HP.out.2.2.2.1 (by have := HPar.out; omega) (by have := HP.out; have := HPar.out; have := HNb.out; omega))
  go_wp2_with fail
  refine HPl.out.mono ?_
  rintro _ w3 ⟨rfl, N3⟩
  have HL3 := Lib.hid (HL2.out.new N3)
  have HR3 := Lib.hid (HR2.out.same (N3.block k HR2.out.lt))
  have HD3 := Lib.hid (HD2.out.new N3)
  have HO3 : Hid (Only H w w3) := Lib.hid (HO2.out.trans (New.only (F := H) N3) (fun _ _ h => h))
  have HS13 : Hid (w1.heap.size ≤ w3.heap.size) := Lib.hid (Nat.le_trans HS12.out N3.size)
  have HKN : Hid (¬ ((F k ∧ k < w0.heap.size) ∨ w1.heap.size ≤ k)) := Lib.hid (fun h => by have := HS01.out; have := HK.out; rcases h with h | h <;> omega)
  clear N3 HPl HL2 HR2 HD2 HO2 HS12
  by_cases hlt : e < nB
  · obtain ⟨hs6, -⟩ := run_tail k nB c e hlt HK.out.2.1 HK.out.2.2.1
    obtain ⟨w4, hcl, hr4, ho4⟩ := run_clear_row HR3.out e (c - e) (by rw [HPar.out.2.2.1, HnB.out]; exact hlt)
    rw [HPar.out.2.2.1, HnB.out] at hcl
    have HL4 := Lib.hid (HL3.out.only ho4 (fun j hj e' => HKN.out (by rw [← e']; exact hj)))
    have HR4 := Lib.hid hr4
    have HD4 := Lib.hid (HD3.out.only ho4 (fun j hj e' => hj.1.2 e'))
    have HO4 : Hid (Only H w w4) := Lib.hid (HO3.out.trans ho4 (fun j hj e' => by have := HS01.out; omega))
    have HS14 : Hid (w1.heap.size ≤ w4.heap.size) := Lib.hid (Nat.le_trans HS13.out ho4.size)
    have HKF : Hid (¬ ((F k ∧ k < w0.heap.size) ∨ w1.heap.size ≤ k) ∧ k < w4.heap.size) := Lib.hid ⟨HKN.out, hr4.lt⟩
    have HLT := Lib.hid hlt
    clear hr4 ho4 HL3 HR3 HD3 HO3 HS13 hlt
    go_upto_region 7 with fail
    clear hcl hs6
    -- w4: the row at k reads as zeroB B e
    have hs7 := run_head k nB c e HK.out.1 HK.out.2.1 HK.out.2.2.1
    have HSe := Lib.hid (lgSettle HL4.out (some ⟨k, 0, none⟩) e c (B.take e) (by
      have := (HR4.out.rd (c := c) (by rw [zeroB_len (by rw [HPar.out.2.2.1, HnB.out]; exact HK.out.1), HPar.out.2.2.1, HnB.out]; exact HK.out.2.1) HK.out.2.2.1).cut (k := e) (c' := c) (by rw [zeroB_len (by rw [HPar.out.2.2.1, HnB.out]; exact HK.out.1), HPar.out.2.2.1, HnB.out]; exact HK.out.1) (by have := HK.out; omega) (Nat.le_refl _)
      rwa [show (zeroB B e).take e = B.take e from List.take_left' (by rw [List.length_take, HPar.out.2.2.1]; have := HPar.out.2.1; omega)] at this) (fun j hj => by
      obtain rfl : k = j := by simpa [blk] using hj
      exact HKp.out) (by have := HPar.out; omega) (by have := HP.out; have := HPar.out; have := HNb.out; omega) (by rw [HP.out.2.2.2.2.1]; exact Nat.mod_le _ _))
    go_wp2_with fail
    refine HSe.out.mono ?_
    rintro _ w5 ⟨rfl, ht⟩
    obtain ⟨⟨vch5, vts5, vtl5, ps5, hl5⟩, ho5⟩ := ht
    have HL5 := Lib.hid hl5
    have HR5 := Lib.hid (HR4.out.same (ho5.block k HKF.out.2 HKF.out.1))
    have HD5 := Lib.hid (HD4.out.only ho5 (fun j hj hf => HDF.out j hf hj))
    have HO5 : Hid (Only H w w5) := Lib.hid (HO4.out.trans (ho5.mono (G := fun j => H j ∨ w.heap.size ≤ j) (fun j _ hj => hj.elim (fun h => .inl (HDI.out.2.1 j h.1)) (fun h => .inr (by have := HS01.out; omega)))) (fun j hj h => h.elim id (fun h => by omega)))
    have HF5 : Hid (∀ j, (((F j ∧ j < w0.heap.size) ∨ w1.heap.size ≤ j) ∨ w4.heap.size ≤ j) → ¬ (((G j ∨ w0.heap.size ≤ j) ∧ j ≠ k) ∧ j < w1.heap.size)) := Lib.hid (fun j hj hg => by
      rcases hj with hj | hj
      · exact HDF.out j hj hg
      · have := HS14.out; omega)
    clear hl5 ho5 hs7 HSe HL4 HR4 HD4 HO4 HKF
    have hp5 : p < w0.heap.size ∧ F p := by
      have := HPF.out; exact this
    have HP5 : Hid (¬ (((G p ∨ w0.heap.size ≤ p) ∧ p ≠ k) ∧ p < w1.heap.size)) := Lib.hid (fun hg => by
      rcases hg.1.1 with h | h
      · exact HDI.out.1 p hp5.2 h
      · omega)
    clear hp5
    obtain ⟨al, cl, rfl⟩ := HL5.out.vtl_form
    obtain ⟨tlen, Htl⟩ : ∃ m, Hid (((PLg.of (128 * sz) T).settle (B.take e)).tl.length = m) := ⟨_, Lib.hid rfl⟩
    have HTl : Hid (tlen = e % 128) := Lib.hid (by
      rw [← Htl.out]
      unfold PLg.settle
      dsimp only
      rw [List.length_drop, List.length_take, HP.out.2.2.2.2.1, HPar.out.2.2.1]
      have h1 := HPar.out.2.1
      have h2 := Nat.mod_le e 128
      omega)
    have c10 := HL5.out.at_.cell 10 rfl
    rw [Htl.out] at c10
    obtain ⟨t, Ht⟩ : ∃ t, Hid (e / 128 = t) := ⟨_, Lib.hid rfl⟩
    obtain ⟨eg, Heg⟩ : ∃ x, Hid (128 * t = x) := ⟨_, Lib.hid rfl⟩
    have e8 : (e : Int) - (tlen : Int) = (eg : Int) := by have := HTl.out; have := Ht.out; have := Heg.out; omega
    have e9 : wrap64 (eg : Int) = (eg : Int) := wrap_small eg (by have := Ht.out; have := Heg.out; have := HPar.out; omega)
    have N5 : New w5 w5.drew := (Below.refl _ _).drew
    have HD6 := Lib.hid (HD5.out.new N5)
    have HL6 := Lib.hid HL5.out.drew
    have HO6 : Hid (Only H w w5.drew) := Lib.hid HO5.out.drew
    have HR6 := Lib.hid (HR5.out.same (N5.block k HR5.out.lt))
    go_upto_region 9 with fail
    rw [e9]
    clear c10 e8 N5 e9
    have HEG : Hid (eg < nB ∧ eg ≤ e) := Lib.hid (by have := HLT.out; have := Ht.out; have := Heg.out; omega)
    have hs9 := (run_tail k nB c eg HEG.out.1 HK.out.2.1 HK.out.2.2.1).1
    have HSt : Hid (Calls Tryz.prog 29 #[.pointer (some ⟨p, 0, none⟩), .int .i64 (eg : Int), .slice (some ⟨k, eg, none⟩) (nB - eg) (c - eg)] w5.drew fun x w' => x = .returned (.int .i64 0) ∧ DvcTo (-1) w5.drew n g (fun j => ((G j ∨ w0.heap.size ≤ j) ∧ j ≠ k) ∧ j < w1.heap.size) (lay D (frm + t) ((zeroB B e).drop (128 * t))) (lay D (frm + t) ((zeroB B e).drop (128 * t))) [] w') := Lib.hid (by
      have hz := HR6.out.rd (c := c) (by rw [zeroB_len (by rw [HPar.out.2.2.1, HnB.out]; exact HK.out.1), HPar.out.2.2.1, HnB.out]; exact HK.out.2.1) HK.out.2.2.1
      rw [zeroB_len (by rw [HPar.out.2.2.1, HnB.out]; exact HK.out.1), HPar.out.2.2.1, HnB.out] at hz
      have hr := (run_tail k nB c eg HEG.out.1 HK.out.2.1 HK.out.2.2.1).2 _ _ hz
      have hm : nB - eg = 128 * (M - t) := by rw [← HnB.out, ← Heg.out]; omega
      have hnb := HnB.out
      have heg := Heg.out
      have hpar := HPar.out
      have hEG := HEG.out
      rw [hm] at hr ⊢
      have := lgStore HD6.out p frm (HL6.out.at_.cell 0 rfl) (HL6.out.at_.cell 1 rfl) HP5.out eg t (M - t) heg.symm (by omega) (by omega) k eg (c - eg) _ hr (fun hg => hg.1.2 rfl) (by simp only [List.length_nil]; omega)
      have hbl : ((zeroB B e).drop eg).length = 128 * (M - t) := hr.len
      have e1 : flX (-1) = 0 := rfl
      have e2 : flD (-1) D [] (chunks (frm + t) ((zeroB B e).drop eg) (M - t)) = lay D (frm + t) ((zeroB B e).drop eg) := layAll_chunks hpar.2.2.2.2.2.2 (by omega) hbl
      have e3 : flL (-1) D (frm + t) ((zeroB B e).drop eg) = lay D (frm + t) ((zeroB B e).drop eg) := rfl
      have e4 : flP (-1) [] (chunks (frm + t) ((zeroB B e).drop eg) (M - t)) = [] := rfl
      rw [e1, e2, e3, e4] at this
      rw [heg]
      exact this)
    refine region_ord (fun _ => True) [(0, true), (1, true), (2, true), (3, true), (4, true), (5, true), (6, true), (7, false), (8, true)] (by kernel_rfl) (by kernel_rfl) trivial (fun _ => ?_)
    generalize w5.drew = wz at *
    iterate 7 (apply ord_take; (simp only [List.getElem?_toArray, List.getElem?_cons_succ, List.getElem?_cons_zero]; rfl); rfl; (intro w hSw; (try dsimp only at hSw); go_simp; try with_reducible rfl); intro _; try simp only [Act.put, List.setIfInBounds_toArray, List.set_cons_zero, List.set_cons_succ])
    (apply ord_only; (simp only [List.getElem?_toArray, List.getElem?_cons_succ, List.getElem?_cons_zero]; rfl); rfl; intro K hK)
    go_simp
    refine HSt.out.mono ?_
    rintro _ w6 ⟨rfl, hd6⟩
    have HZ := Lib.hid (LogDTo.then HO6.out (LogD.onDisk ⟨_, _, _, _, HL6.out⟩ HF5.out (fun j hj => by
      rcases hj with hj | hj
      · exact hj.elim (fun h => .inl (HDI.out.2.1 j h.1)) (fun h => .inr (by have := HS01.out; omega))
      · exact .inr (by have := HS14.out; have := HS01.out; omega)) (fun j hj => by
      rcases hj.1.1 with h | h
      · exact .inl (HDI.out.2.2.1 j h)
      · exact .inr (by have := HS01.out; omega)) hd6))
    clear hd6
    refine hK.out _ _ (trivial) (fun _ => ?_)
    clear hK K
    try simp only [Act.put, List.setIfInBounds_toArray, List.set_cons_zero, List.set_cons_succ]
    (apply ord_take; (simp only [List.getElem?_toArray, List.getElem?_cons_succ, List.getElem?_cons_zero]; rfl); rfl; (intro w hSw; (try dsimp only at hSw); go_simp; try with_reducible rfl); intro _; try simp only [Act.put, List.setIfInBounds_toArray, List.set_cons_zero, List.set_cons_succ])
    apply ord_done
    go_wp2
    go_ret
    rw [HLD.out]
    refine ⟨rfl, _, HZ.out, ?_⟩
    rw [← HB.out]
    exact secs_zeroed HPar.out.2.2.2.2.2.2 HPar.out.2.2.2.1 HPar.out.2.1 (by rw [Heg.out]; exact HEG.out.2)
  · have hee : e = nB := by have := HK.out.1; omega
    obtain ⟨e', he'⟩ : ∃ x, e = x := ⟨_, rfl⟩
    have HZB : Hid (zeroB B e = B) := Lib.hid (by unfold zeroB; rw [HPar.out.2.2.1, HnB.out, hee, Nat.sub_self, List.take_of_length_le (by rw [HPar.out.2.2.1, HnB.out]; exact Nat.le_refl _)]; simp)
    have HSX : Hid (∀ x : Nat, x = nB → ∃ aT, ∀ wx : World, (Instr.slice 42 (.slice (some ⟨k, 0, none⟩) nB c) (some (.int .i64 (x : Int))) none none).run Tryz.prog wx = .ok (.slice aT 0 (c - x)) wx) := Lib.hid (by
      intro x hx
      have hk := HK.out
      unfold maxLen at hk
      refine ⟨if c = x then some ⟨k, 0, none⟩ else (some ⟨k, 0, none⟩ : Option Addr).map (fun y => y.add x), fun wx => ?_⟩
      rw [run_slice_l wx 42 _ nB c Tryz.underlying42 .i64 _ (by omega) (by omega)]
      have hz : (sizeOf (Tryz.prog.elem 42)).run Tryz.prog wx = .ok 1 wx := by kernel_rfl
      rw [hz]
      simp only [Result.andThen_ok, sliced, Nat.mul_one, Int.toNat_natCast, show nB - x = 0 by omega])
    obtain ⟨aT, hs6⟩ := HSX.out e hee
    have hcl := run_clear_none w3 aT (c - e)
    have HL4 := HL3
    have HR4 : Hid (RowB w3 k (zeroB B e)) := Lib.hid (by rw [HZB.out]; exact HR3.out)
    have HD4 := HD3
    have HO4 := HO3
    have HS14 := HS13
    have HKF : Hid (¬ ((F k ∧ k < w0.heap.size) ∨ w1.heap.size ≤ k) ∧ k < w3.heap.size) := Lib.hid ⟨HKN.out, HR3.out.lt⟩
    obtain ⟨w4, hw4⟩ : ∃ w4, w3 = w4 := ⟨_, rfl⟩
    rw [hw4] at HL4 HR4 HD4 HO4 HS14 HKF hcl
    rw [hw4]
    have HEE := Lib.hid hee
    clear hee hlt hw4 he' HL3 HR3 HD3 HO3 HS13
    go_upto_region 7 with fail
    clear hcl hs6
    -- w4: the row at k reads as zeroB B e
    have hs7 := run_head k nB c e HK.out.1 HK.out.2.1 HK.out.2.2.1
    have HSe := Lib.hid (lgSettle HL4.out (some ⟨k, 0, none⟩) e c (B.take e) (by
      have := (HR4.out.rd (c := c) (by rw [zeroB_len (by rw [HPar.out.2.2.1, HnB.out]; exact HK.out.1), HPar.out.2.2.1, HnB.out]; exact HK.out.2.1) HK.out.2.2.1).cut (k := e) (c' := c) (by rw [zeroB_len (by rw [HPar.out.2.2.1, HnB.out]; exact HK.out.1), HPar.out.2.2.1, HnB.out]; exact HK.out.1) (by have := HK.out; omega) (Nat.le_refl _)
      rwa [show (zeroB B e).take e = B.take e from List.take_left' (by rw [List.length_take, HPar.out.2.2.1]; have := HPar.out.2.1; omega)] at this) (fun j hj => by
      obtain rfl : k = j := by simpa [blk] using hj
      exact HKp.out) (by have := HPar.out; omega) (by have := HP.out; have := HPar.out; have := HNb.out; omega) (by rw [HP.out.2.2.2.2.1]; exact Nat.mod_le _ _))
    go_wp2_with fail
    refine HSe.out.mono ?_
    rintro _ w5 ⟨rfl, ht⟩
    obtain ⟨⟨vch5, vts5, vtl5, ps5, hl5⟩, ho5⟩ := ht
    have HL5 := Lib.hid hl5
    have HR5 := Lib.hid (HR4.out.same (ho5.block k HKF.out.2 HKF.out.1))
    have HD5 := Lib.hid (HD4.out.only ho5 (fun j hj hf => HDF.out j hf hj))
    have HO5 : Hid (Only H w w5) := Lib.hid (HO4.out.trans (ho5.mono (G := fun j => H j ∨ w.heap.size ≤ j) (fun j _ hj => hj.elim (fun h => .inl (HDI.out.2.1 j h.1)) (fun h => .inr (by have := HS01.out; omega)))) (fun j hj h => h.elim id (fun h => by omega)))
    have HF5 : Hid (∀ j, (((F j ∧ j < w0.heap.size) ∨ w1.heap.size ≤ j) ∨ w4.heap.size ≤ j) → ¬ (((G j ∨ w0.heap.size ≤ j) ∧ j ≠ k) ∧ j < w1.heap.size)) := Lib.hid (fun j hj hg => by
      rcases hj with hj | hj
      · exact HDF.out j hj hg
      · have := HS14.out; omega)
    clear hl5 ho5 hs7 HSe HL4 HR4 HD4 HO4 HKF
    have hp5 : p < w0.heap.size ∧ F p := by
      have := HPF.out; exact this
    have HP5 : Hid (¬ (((G p ∨ w0.heap.size ≤ p) ∧ p ≠ k) ∧ p < w1.heap.size)) := Lib.hid (fun hg => by
      rcases hg.1.1 with h | h
      · exact HDI.out.1 p hp5.2 h
      · omega)
    clear hp5
    obtain ⟨al, cl, rfl⟩ := HL5.out.vtl_form
    obtain ⟨tlen, Htl⟩ : ∃ m, Hid (((PLg.of (128 * sz) T).settle (B.take e)).tl.length = m) := ⟨_, Lib.hid rfl⟩
    have HTl : Hid (tlen = e % 128) := Lib.hid (by
      rw [← Htl.out]
      unfold PLg.settle
      dsimp only
      rw [List.length_drop, List.length_take, HP.out.2.2.2.2.1, HPar.out.2.2.1]
      have h1 := HPar.out.2.1
      have h2 := Nat.mod_le e 128
      omega)
    have c10 := HL5.out.at_.cell 10 rfl
    rw [Htl.out] at c10
    obtain ⟨t, Ht⟩ : ∃ t, Hid (e / 128 = t) := ⟨_, Lib.hid rfl⟩
    obtain ⟨eg, Heg⟩ : ∃ x, Hid (128 * t = x) := ⟨_, Lib.hid rfl⟩
    have e8 : (e : Int) - (tlen : Int) = (eg : Int) := by have := HTl.out; have := Ht.out; have := Heg.out; omega
    have e9 : wrap64 (eg : Int) = (eg : Int) := wrap_small eg (by have := Ht.out; have := Heg.out; have := HPar.out; omega)
    have N5 : New w5 w5.drew := (Below.refl _ _).drew
    have HD6 := Lib.hid (HD5.out.new N5)
    have HL6 := Lib.hid HL5.out.drew
    have HO6 : Hid (Only H w w5.drew) := Lib.hid HO5.out.drew
    have HR6 := Lib.hid (HR5.out.same (N5.block k HR5.out.lt))
    go_upto_region 9 with fail
    rw [e9]
    clear c10 e8 N5 e9
    have HEG : Hid (eg = nB) := Lib.hid (by have := HEE.out; have := Ht.out; have := Heg.out; have := HnB.out; omega)
    obtain ⟨aT9, hs9⟩ := HSX.out eg HEG.out
    have HSt := Lib.hid (lgStore0 HD6.out (by decide) p (HL6.out.at_.cell 0 rfl) (eg : Int) aT9 (c - eg))
    refine region_ord (fun _ => True) [(0, true), (1, true), (2, true), (3, true), (4, true), (5, true), (6, true), (7, false), (8, true)] (by kernel_rfl) (by kernel_rfl) trivial (fun _ => ?_)
    generalize w5.drew = wz at *
    iterate 7 (apply ord_take; (simp only [List.getElem?_toArray, List.getElem?_cons_succ, List.getElem?_cons_zero]; rfl); rfl; (intro w hSw; (try dsimp only at hSw); go_simp; try with_reducible rfl); intro _; try simp only [Act.put, List.setIfInBounds_toArray, List.set_cons_zero, List.set_cons_succ])
    (apply ord_only; (simp only [List.getElem?_toArray, List.getElem?_cons_succ, List.getElem?_cons_zero]; rfl); rfl; intro K hK)
    go_simp
    refine HSt.out.mono ?_
    rintro _ w6 ⟨rfl, hd6⟩
    have HZ := Lib.hid (LogDTo.then HO6.out (LogD.onDisk ⟨_, _, _, _, HL6.out⟩ HF5.out (fun j hj => by
      rcases hj with hj | hj
      · exact hj.elim (fun h => .inl (HDI.out.2.1 j h.1)) (fun h => .inr (by have := HS01.out; omega))
      · exact .inr (by have := HS14.out; have := HS01.out; omega)) (fun j hj => by
      rcases hj.1.1 with h | h
      · exact .inl (HDI.out.2.2.1 j h)
      · exact .inr (by have := HS01.out; omega)) hd6))
    clear hd6
    refine hK.out _ _ (trivial) (fun _ => ?_)
    clear hK K
    try simp only [Act.put, List.setIfInBounds_toArray, List.set_cons_zero, List.set_cons_succ]
    (apply ord_take; (simp only [List.getElem?_toArray, List.getElem?_cons_succ, List.getElem?_cons_zero]; rfl); rfl; (intro w hSw; (try dsimp only at hSw); go_simp; try with_reducible rfl); intro _; try simp only [Act.put, List.setIfInBounds_toArray, List.set_cons_zero, List.set_cons_succ])
    apply ord_done
    go_wp2
    go_ret
    rw [HLD.out]
    refine ⟨rfl, _, HZ.out, ?_⟩
    rw [layAll_nil, HB.out]
    exact HZB.out.symm

end Go.Proofs.YtijkmpcgkhijgaaGreatDoor

namespace Go.Proofs.YtijkmpcgkhijgaaGreatDoor
set_option linter.unusedVariables false
set_option linter.unusedSimpArgs false
set_option maxRecDepth 100000
open Go.RowKit

/-- the end that a log starts with -/
def StartTo (w : World) (z : Nat) (e : Ending) (w' : World) : Prop :=
  ∃ k, e = .returned (.agg #[.int .i64 (-1), .int .i64 (z : Int), .bool true, .slice (some ⟨k, 0, none⟩) 32 32]) ∧ w'.heap[k]? = some (.cells ((List.replicate 32 (0 : UInt8)).map bv).toArray 5) ∧ w.heap.size ≤ k ∧ New w w'

set_option maxHeartbeats 1000000 in
theorem lgRegStart {w : World} {p sz : Nat} (hc : w.cell? ⟨p, 3, none⟩ = some (.int .i64 (sz : Int))) (hb : sz ≤ 1000000) :
    Calls Tryz.prog 43 #[.pointer (some ⟨p, 0, none⟩)] w (StartTo w (128 * sz)) := by
  obtain ⟨z, hz⟩ : ∃ z, 128 * sz = z := ⟨_, rfl⟩
  have hmk : ∀ wx : World, (Instr.makeSlice 42 (.int .i64 32) (.int .i64 32)).run Tryz.prog wx = .ok (.slice (some ⟨wx.heap.size, 0, none⟩) 32 32) (wx.alloc (.cells ((List.replicate 32 (0 : UInt8)).map bv).toArray 5)) := fun wx => run_make10 32 (by decide) wx
  have hlt := World.block_lt_of_cell? w _ hc
  have HO : Hid (∀ wx, New w wx → Calls Tryz.prog 55 #[.pointer (some ⟨p, 0, none⟩)] wx fun e w' => e = .returned (.int .i64 (z : Int)) ∧ wx = w') := Lib.hid (fun wx hw => by
    rw [← hz]
    exact lgOctets ((World.cell?_of_block (hw.block _ hlt)).trans hc) hb)
  rw [hz]
  clear hz hc hlt
  go_enter Tryz.func43, Tryz.ntmps43
  go_upto_region 1 with fail
  generalize hw1 : World.alloc w _ = w1
  have HA : Hid (At4 w1 w.heap.size 71 (.int .i64 0) (.int .i64 0) (.bool false) (.slice none 0 0)) := Lib.hid (by rw [← hw1]; exact heap_alloc_new _ _)
  have N1 : New w w1 := by rw [← hw1]; exact (Below.refl _ _).alloc (Nat.le_refl _) _
  clear hw1
  have ND : New w1 w1.drew := (Below.refl _ _).drew
  have N2 := Lib.hid (New.trans N1 ND)
  have HA2 := Lib.hid (At4.new HA.out ND)
  obtain ⟨q, Hq⟩ : ∃ q, Hid (w.heap.size = q) := ⟨_, Lib.hid rfl⟩
  rw [Hq.out] at HA2
  rw [Hq.out]
  clear HA N1 ND
  refine region_ordT (fun _ => True) (.take 0 (.two 1 2 (.only 2 (.take 3 (.only 4 .nil))) (.only 1 (.take 3 (.only 4 .nil))))) (by kernel_rfl) (by kernel_rfl) trivial (fun _ => ?_)
  generalize w1.drew = w2 at *
  (apply ordT_take; (simp only [List.getElem?_toArray, List.getElem?_cons_succ, List.getElem?_cons_zero]; rfl); rfl; (intro w hSw; (try dsimp only at hSw); go_simp; try with_reducible rfl); intro _; try simp only [Act.put, List.setIfInBounds_toArray, List.set_cons_zero, List.set_cons_succ])
  (apply ordT_two; (simp only [List.getElem?_toArray, List.getElem?_cons_succ, List.getElem?_cons_zero]; rfl); rfl; (simp only [List.getElem?_toArray, List.getElem?_cons_succ, List.getElem?_cons_zero]; rfl); rfl)
  · intro K hK
    go_simp
    refine (HO.out w2 N2.out).mono ?_
    rintro _ w9 ⟨rfl, rfl⟩
    refine hK.out _ _ (trivial) (fun _ => ?_)
    clear hK K
    try simp only [Act.put, List.setIfInBounds_toArray, List.set_cons_zero, List.set_cons_succ]
    (apply ordT_only; (simp only [List.getElem?_toArray, List.getElem?_cons_succ, List.getElem?_cons_zero]; rfl); rfl; intro K hK)
    go_simp
    generalize hw3 : World.alloc w2 _ = w3
    have n3 : New w2 w3 := by rw [← hw3]; exact (Below.refl _ _).alloc (Nat.le_refl _) _
    have HB3 : Hid (w3.heap[w2.heap.size]? = some (.cells ((List.replicate 32 (0 : UInt8)).map bv).toArray 5)) := Lib.hid (by rw [← hw3, heap_alloc_new]; rfl)
    have HA3 := Lib.hid (At4.new HA2.out n3)
    have N3 := Lib.hid (New.trans N2.out n3)
    have HQ : Hid (w.heap.size ≤ q ∧ q < w2.heap.size ∧ w2.heap.size ≤ w2.heap.size) := Lib.hid ⟨by have := Hq.out; omega, At4.lt HA2.out, Nat.le_refl _⟩
    obtain ⟨k, hk⟩ : ∃ k, w2.heap.size = k := ⟨_, rfl⟩
    rw [hk] at HB3 HQ
    rw [hk]
    clear hw3 hk n3
    refine hK.out _ _ (trivial) (fun _ => ?_)
    clear hK K
    try simp only [Act.put, List.setIfInBounds_toArray, List.set_cons_zero, List.set_cons_succ]
    (apply ordT_take; (simp only [List.getElem?_toArray, List.getElem?_cons_succ, List.getElem?_cons_zero]; rfl); rfl; (intro w hSw; (try dsimp only at hSw); go_simp; try with_reducible rfl); intro _; try simp only [Act.put, List.setIfInBounds_toArray, List.set_cons_zero, List.set_cons_succ])
    (apply ordT_only; (simp only [List.getElem?_toArray, List.getElem?_cons_succ, List.getElem?_cons_zero]; rfl); rfl; intro K hK)
    obtain ⟨z0, z1, z2, z3⟩ := HA3.out.frozen
    obtain ⟨y0, y1, y2, y3⟩ := HA3.out.cells
    go_simp
    clear z0 z1 z2 z3 y0 y1 y2 y3
    refine hK.out _ _ (trivial) (fun _ => ?_)
    clear hK K
    try simp only [Act.put, List.setIfInBounds_toArray, List.set_cons_zero, List.set_cons_succ]
    apply ordT_done
    have HP : Hid (At4 ((((w3.setCell ⟨q, 0, none⟩ (.int .i64 (-1))).setCell ⟨q, 1, none⟩ (.int .i64 (z : Int))).setCell ⟨q, 2, none⟩ (.bool true)).setCell ⟨q, 3, none⟩ (.slice (some ⟨k, 0, none⟩) 32 32)) q 71 (.int .i64 (-1)) (.int .i64 (z : Int)) (.bool true) (.slice (some ⟨k, 0, none⟩) 32 32)) := Lib.hid (HA3.out.put _ _ _ _)
    have HOp : Hid (Only (fun j => j = q) w3 ((((w3.setCell ⟨q, 0, none⟩ (.int .i64 (-1))).setCell ⟨q, 1, none⟩ (.int .i64 (z : Int))).setCell ⟨q, 2, none⟩ (.bool true)).setCell ⟨q, 3, none⟩ (.slice (some ⟨k, 0, none⟩) 32 32))) := Lib.hid (At4.put_only _ _ _ _ _ _)
    go_wp2
    refine bodyPost_ret (results_cell1 rfl _ _ q _ _ _ _ rfl HP.out Tryz.underlying71 rfl (by kernel_rfl)) rfl ?_
    refine ⟨k, rfl, (HOp.out.block k (lt_of_block HB3.out) (by have := HQ.out; omega)).trans HB3.out, by have := HQ.out; omega, Below.trans N3.out (HOp.out.below N3.out.size (fun j hj => by have := HQ.out; omega))⟩
  · intro K hK
    go_simp
    generalize hw3 : World.alloc w2 _ = w3
    have n3 : New w2 w3 := by rw [← hw3]; exact (Below.refl _ _).alloc (Nat.le_refl _) _
    have HB3 : Hid (w3.heap[w2.heap.size]? = some (.cells ((List.replicate 32 (0 : UInt8)).map bv).toArray 5)) := Lib.hid (by rw [← hw3, heap_alloc_new]; rfl)
    have HA3 := Lib.hid (At4.new HA2.out n3)
    have N3 := Lib.hid (New.trans N2.out n3)
    have HQ : Hid (w.heap.size ≤ q ∧ q < w2.heap.size ∧ w2.heap.size ≤ w2.heap.size) := Lib.hid ⟨by have := Hq.out; omega, At4.lt HA2.out, Nat.le_refl _⟩
    obtain ⟨k, hk⟩ : ∃ k, w2.heap.size = k := ⟨_, rfl⟩
    rw [hk] at HB3 HQ
    rw [hk]
    clear hw3 hk n3
    refine hK.out _ _ (trivial) (fun _ => ?_)
    clear hK K
    try simp only [Act.put, List.setIfInBounds_toArray, List.set_cons_zero, List.set_cons_succ]
    (apply ordT_only; (simp only [List.getElem?_toArray, List.getElem?_cons_succ, List.getElem?_cons_zero]; rfl); rfl; intro K hK)
    go_simp
    refine (HO.out w3 N3.out).mono ?_
    rintro _ w9 ⟨rfl, rfl⟩
    refine hK.out _ _ (trivial) (fun _ => ?_)
    clear hK K
    try simp only [Act.put, List.setIfInBounds_toArray, List.set_cons_zero, List.set_cons_succ]
    (apply ordT_take; (simp only [List.getElem?_toArray, List.getElem?_cons_succ, List.getElem?_cons_zero]; rfl); rfl; (intro w hSw; (try dsimp only at hSw); go_simp; try with_reducible rfl); intro _; try simp only [Act.put, List.setIfInBounds_toArray, List.set_cons_zero, List.set_cons_succ])
    (apply ordT_only; (simp only [List.getElem?_toArray, List.getElem?_cons_succ, List.getElem?_cons_zero]; rfl); rfl; intro K hK)
    obtain ⟨z0, z1, z2, z3⟩ := HA3.out.frozen
    obtain ⟨y0, y1, y2, y3⟩ := HA3.out.cells
    go_simp
    clear z0 z1 z2 z3 y0 y1 y2 y3
    refine hK.out _ _ (trivial) (fun _ => ?_)
    clear hK K
    try simp only [Act.put, List.setIfInBounds_toArray, List.set_cons_zero, List.set_cons_succ]
    apply ordT_done
    have HP : Hid (At4 ((((w3.setCell ⟨q, 0, none⟩ (.int .i64 (-1))).setCell ⟨q, 1, none⟩ (.int .i64 (z : Int))).setCell ⟨q, 2, none⟩ (.bool true)).setCell ⟨q, 3, none⟩ (.slice (some ⟨k, 0, none⟩) 32 32)) q 71 (.int .i64 (-1)) (.int .i64 (z : Int)) (.bool true) (.slice (some ⟨k, 0, none⟩) 32 32)) := Lib.hid (HA3.out.put _ _ _ _)
    have HOp : Hid (Only (fun j => j = q) w3 ((((w3.setCell ⟨q, 0, none⟩ (.int .i64 (-1))).setCell ⟨q, 1, none⟩ (.int .i64 (z : Int))).setCell ⟨q, 2, none⟩ (.bool true)).setCell ⟨q, 3, none⟩ (.slice (some ⟨k, 0, none⟩) 32 32))) := Lib.hid (At4.put_only _ _ _ _ _ _)
    go_wp2
    refine bodyPost_ret (results_cell1 rfl _ _ q _ _ _ _ rfl HP.out Tryz.underlying71 rfl (by kernel_rfl)) rfl ?_
    refine ⟨k, rfl, (HOp.out.block k (lt_of_block HB3.out) (by have := HQ.out; omega)).trans HB3.out, by have := HQ.out; omega, Below.trans N3.out (HOp.out.below N3.out.size (fun j hj => by have := HQ.out; omega))⟩

/-- what Open returns: a log, and what it leaves of the disk -/
def OpenTo (w : World) (G : Nat → Prop) (g frm N sz n : Nat) (D : List UInt8) (e : Ending) (w' : World) : Prop :=
  ∃ p D', e = .returned (.tuple #[.pointer (some ⟨p, 0, none⟩), .nilIface]) ∧ LogDTo (-1) w G p g frm N sz (ldS (secs D frm (N * sz)) (128 * sz) N) n D' D' [] w' ∧
    secs D' frm (N * sz) = zeroB (secs D frm (N * sz)) (128 * sz * (lgTold (secs D frm (N * sz)) (128 * sz) N 0 lgStart).last + (lgTold (secs D frm (N * sz)) (128 * sz) N 0 lgStart).used)

set_option maxHeartbeats 1000000 in
theorem lgOpen {w : World} {G : Nat → Prop} {g n : Nat} {D : List UInt8} (hD : Dvc (-1) w n g G D D []) (frm N sz : Nat) (hb : 2 ≤ sz ∧ sz ≤ 512) (hN : 1 ≤ N ∧ N ≤ 256) (hfit : frm + N * sz ≤ n) (hBb : 128 * sz * N ≤ 1000000) (hla : ∀ w', Only G w w' → Laid w') :
    Calls Tryz.prog 17 #[.pointer (some ⟨g, 0, none⟩), .int .i64 (frm : Int), .int .i64 (N : Int), .int .i64 (sz : Int)] w (OpenTo w G g frm N sz n D) := by
  have HWi : Hid (∀ wx : World, Calls Tryz.prog 42 #[.int .i64 (N : Int), .int .i64 1, .int .i64 256] wx fun e w' => e = .returned (.bool true) ∧ wx = w') := Lib.hid (fun wx => by
    have := lgWithin wx (N : Int) 1 256
    rwa [decide_eq_true (by omega)] at this)
  have HWz : Hid (∀ wx : World, Calls Tryz.prog 42 #[.int .i64 (sz : Int), .int .i64 2, .int .i64 512] wx fun e w' => e = .returned (.bool true) ∧ wx = w') := Lib.hid (fun wx => by
    have := lgWithin wx (sz : Int) 2 512
    rwa [decide_eq_true (by omega)] at this)
  have HD := Lib.hid hD
  have HPar := Lib.hid (And.intro hb (And.intro hN (And.intro hfit (And.intro hBb hla))))
  have he : ∀ wx : World, (binOp .eql 29 (.pointer (some ⟨g, 0, none⟩)) (.pointer none)).run Tryz.prog wx = .ok (.bool false) wx := fun _ => rfl
  clear hD hb hN hfit hBb hla
  go_enter Tryz.func17, Tryz.ntmps17
  go_wp2_with fail
  refine (HWi.out w).mono ?_
  rintro _ w9 ⟨rfl, rfl⟩
  go_wp2_with fail
  refine (HWz.out w).mono ?_
  rintro _ w9 ⟨rfl, rfl⟩
  go_upto_region 6 with fail
  clear he HWi HWz
  generalize hw1 : World.alloc w _ = w1
  have HA : Hid (At4 w1 w.heap.size 69 (.pointer (some ⟨g, 0, none⟩)) (.int .i64 (frm : Int)) (.int .i64 (N : Int)) (.int .i64 (sz : Int))) := Lib.hid (by rw [← hw1]; exact heap_alloc_new _ _)
  have N1 : New w w1 := by rw [← hw1]; exact (Below.refl _ _).alloc (Nat.le_refl _) _
  have ND : New w1 w1.drew := (Below.refl _ _).drew
  have N2 := Lib.hid (New.trans N1 ND)
  have HA2 := Lib.hid (At4.new HA.out ND)
  obtain ⟨q, Hq⟩ : ∃ q, Hid (w.heap.size = q) := ⟨_, Lib.hid rfl⟩
  rw [Hq.out] at HA2
  rw [Hq.out]
  clear hw1 HA N1 ND
  refine region_ord (Lc0123 q (.pointer (some ⟨g, 0, none⟩)) (.int .i64 (frm : Int)) (.int .i64 (N : Int)) (.int .i64 (sz : Int))) [(0, true), (1, false), (2, true), (3, false), (4, true)] (by kernel_rfl) (by kernel_rfl) HA2.out.cells (fun _ => ?_)
  generalize w1.drew = w2 at *
  unfold Lc0123
  (apply ord_take; (simp only [List.getElem?_toArray, List.getElem?_cons_succ, List.getElem?_cons_zero]; rfl); rfl; (intro w hSw; (try dsimp only at hSw); go_simp; try with_reducible rfl); intro _; try simp only [Act.put, List.setIfInBounds_toArray, List.set_cons_zero, List.set_cons_succ])
  obtain ⟨z, Hz⟩ : ∃ z, Hid (128 * sz = z) := ⟨_, Lib.hid rfl⟩
  have HSt := Lib.hid (lgRegStart HA2.out.cells.2.2.2 (by have := HPar.out; omega))
  rw [Hz.out] at HSt
  (apply ord_only; (simp only [List.getElem?_toArray, List.getElem?_cons_succ, List.getElem?_cons_zero]; rfl); rfl; intro K hK)
  go_simp
  refine HSt.out.mono ?_
  rintro _ w3 ⟨k, rfl, hk, hk2, N3⟩
  have HA3 := Lib.hid (At4.new HA2.out N3)
  have HN3 := Lib.hid (New.trans N2.out N3)
  have HK := Lib.hid hk
  have HK2 : Hid (w.heap.size ≤ k ∧ k < w3.heap.size) := Lib.hid ⟨Nat.le_trans N2.out.size hk2, lt_of_block hk⟩
  clear hk hk2 N3 HSt HA2 N2
  refine hK.out _ _ (HA3.out.cells) (fun _ => ?_)
  clear hK K
  try simp only [Act.put, List.setIfInBounds_toArray, List.set_cons_zero, List.set_cons_succ]
  (apply ord_take; (simp only [List.getElem?_toArray, List.getElem?_cons_succ, List.getElem?_cons_zero]; rfl); rfl; (intro w hSw; (try dsimp only at hSw); go_simp; try with_reducible rfl); intro _; try simp only [Act.put, List.setIfInBounds_toArray, List.set_cons_zero, List.set_cons_succ])
  (apply ord_only; (simp only [List.getElem?_toArray, List.getElem?_cons_succ, List.getElem?_cons_zero]; rfl); rfl; intro K hK)
  go_simp
  generalize hw4 : World.alloc w3 _ = w4
  have hA : AtN w4 w3.heap.size 73 ((PLg.of (128 * sz) lgStart).cells g frm N sz (.slice (some ⟨k, 0, none⟩) 32 32) (.slice none 0 0) (.slice none 0 0)) := by
    have e : (PLg.of (128 * sz) lgStart).cells g frm N sz (.slice (some ⟨k, 0, none⟩) 32 32) (.slice none 0 0) (.slice none 0 0) = [.pointer (some ⟨g, 0, none⟩), .int .i64 (frm : Int), .int .i64 (N : Int), .int .i64 (sz : Int), .int .i64 (-1), .int .i64 (z : Int), .bool true, .slice (some ⟨k, 0, none⟩) 32 32, .slice none 0 0, .int .i64 0, .slice none 0 0, .bool false] := by
      rw [Hz.out]; rfl
    rw [e, ← hw4]
    exact heap_alloc_new _ _
  have N4 : New w3 w4 := by rw [← hw4]; exact (Below.refl _ _).alloc (Nat.le_refl _) _
  have HN4 := Lib.hid (New.trans HN3.out N4)
  have HA4 := Lib.hid (At4.new HA3.out N4)
  have hk4 : w4.heap[k]? = some (.cells ((List.replicate 32 (0 : UInt8)).map bv).toArray 5 (0, 0)) := (N4.block k HK2.out.2).trans HK.out
  obtain ⟨p, hp⟩ : ∃ p, w3.heap.size = p := ⟨_, rfl⟩
  rw [hp] at hA
  rw [hp]
  have hpk : p ≠ k := by have := HK2.out; omega
  have hpw : w.heap.size ≤ p := by have := HN3.out.size; omega
  have hro : ∀ j, (blk (.slice (some ⟨k, 0, none⟩) 32 32) = some j ∨ ∃ q ∈ ([] : List (Value × List UInt8)), q.2 ≠ [] ∧ blk q.1 = some j) → j ≠ p ∧ blk (.slice none 0 0) ≠ some j ∧ blk (.slice none 0 0) ≠ some j := by
    rintro j (hj | ⟨e, he, -⟩)
    · obtain rfl : k = j := by simpa [blk] using hj
      exact ⟨fun e => hpk e.symm, by simp [blk], by simp [blk]⟩
    · cases he
  have hrc : Rd w4 (.slice (some ⟨k, 0, none⟩) 32 32) (List.replicate 32 0) := by
    have := rd_row10 hk4 (by rw [List.length_replicate]; decide)
    rwa [List.length_replicate] at this
  have hfc : ∀ j, blk (.slice (some ⟨k, 0, none⟩) 32 32) = some j → w.heap.size ≤ j := by
    intro j hj
    obtain rfl : k = j := by simpa [blk] using hj
    exact HK2.out.1
  have HL : Hid (LObj w4 (fun j => w.heap.size ≤ j) p g frm N sz (PLg.of (128 * sz) lgStart) (.slice (some ⟨k, 0, none⟩) 32 32) (.slice none 0 0) (.slice none 0 0) []) := Lib.hid
    ⟨hA, hrc, List.length_replicate, World.ownsRow_nil _ _ _ _, rfl, (fun q hq => nomatch hq), World.ownsRow_nil _ _ _ _, hro, hpw, hfc, (fun j hj => by simp [blk] at hj), (fun j hj => by simp [blk] at hj), (fun q hq => nomatch hq)⟩
  have HD4 := Lib.hid ((HD.out.narrow (G := fun j => G j ∧ j < w.heap.size) (fun j hj hg => ⟨hg, hj⟩)).new HN4.out)
  have HLo := Lib.hid (lgLoad HL.out HD4.out (H := fun j => G j ∨ w.heap.size ≤ j) (fun j hj hg => by have := hg.2; omega) (fun j hj => .inr hj) (fun j hj => .inl hj.1) ⟨by have := HPar.out; omega, by have := HPar.out; omega⟩ ⟨by have := HPar.out; omega, by have := HPar.out; omega⟩ HPar.out.2.2.1 HPar.out.2.2.2.1 (fun w' hw => HPar.out.2.2.2.2 w' ((New.only (F := G) HN4.out).trans hw (fun j hj h => h.elim id (fun h => by omega)))))
  clear hw4 hA N4 hk4 hp hpk hpw HA3 HN3 HK HK2 hro hrc hfc
  refine hK.out _ _ (HA4.out.cells) (fun _ => ?_)
  clear hK K
  try simp only [Act.put, List.setIfInBounds_toArray, List.set_cons_zero, List.set_cons_succ]
  (apply ord_take; (simp only [List.getElem?_toArray, List.getElem?_cons_succ, List.getElem?_cons_zero]; rfl); rfl; (intro w hSw; (try dsimp only at hSw); go_simp; try with_reducible rfl); intro _; try simp only [Act.put, List.setIfInBounds_toArray, List.set_cons_zero, List.set_cons_succ])
  apply ord_done
  go_wp2_with fail
  refine HLo.out.mono ?_
  rintro _ w5 ⟨rfl, D', hto, hsec⟩
  have HTo := Lib.hid hto
  have HSec := Lib.hid hsec
  clear hto hsec
  go_wp2
  go_ret2
  refine ⟨p, D', rfl, ⟨HTo.out.1.mono (fun j hj => hj.elim id (fun h => .inr (Nat.le_trans HN4.out.size h))), (New.only (F := G) HN4.out).trans HTo.out.2 (fun j hj h => h.elim id (fun h => by omega))⟩, HSec.out⟩

end Go.Proofs.YtijkmpcgkhijgaaGreatDoor

namespace Go.Proofs.YtijkmpcgkhijgaaGreatDoor
set_option linter.unusedVariables false
set_option linter.unusedSimpArgs false
set_option maxRecDepth 100000
open Go.RowKit

/-- new texts -/
def LTextsTo (w : World) (ts : List (List UInt8)) (e : Ending) (w' : World) : Prop := New w w' ∧ ∃ a n c qs, e = .returned (.slice a n c) ∧ RdL w' (.slice a n c) qs ∧ qs.map (·.2) = ts

/-- make([][]byte, 0, m) -/
theorem run_makeTs (m : Nat) (hm : m ≤ 1000000) (wx : World) :
    ∃ cs, (Instr.makeSlice 52 (.int .i64 0) (.int .i64 (m : Int))).run Tryz.prog wx = .ok (.slice (some ⟨wx.heap.size, 0, none⟩) 0 m) (wx.alloc (.cells cs 42)) ∧ (wx.alloc (.cells cs 42)).ownsRow wx.heap.size 42 1 (.slice (some ⟨wx.heap.size, 0, none⟩) 0 m) 0 [] := by
  obtain ⟨i0, hi0, hz0, hz1, hz2⟩ := info_parts infoSl
  have h := run_make (P := Tryz.prog) wx 52 42 i0 _ Tryz.underlying52 hi0 hz0 .i64 .i64 0 (m : Int) (by omega) (by omega) (by rw [hz2]; omega) (by omega)
  rw [Int.toNat_natCast] at h
  refine ⟨_, h, rfl, .inr ⟨wx.heap.size, m, _, rfl, Nat.le_refl _, heap_alloc_new _ _, Nat.zero_le _, by simp only [maxLen]; omega, ?_, by simp⟩⟩
  rw [size_madeCells, hz1]

/-- the loop -/
structure TxIn (w : World) (ps : List (Value × List UInt8)) (k : Nat) (vt : Value) (qs : List (Value × List UInt8)) (wr : World) : Prop where
  new : New w wr
  own : wr.ownsRow w.heap.size 42 1 vt k (qs.map (·.1))
  len : qs.length = k
  ts : qs.map (·.2) = (ps.take k).map (·.2)
  rd : ∀ q ∈ qs, Rd wr q.1 q.2 ∧ (q.2 ≠ [] → ∀ j, blk q.1 = some j → w.heap.size ≤ j ∧ blk vt ≠ some j)

set_option maxHeartbeats 1000000 in
theorem lgTexts {w : World} {F : Nat → Prop} {p g frm N sz : Nat} {s : PLg} {vch vts vtl : Value} {ps : List (Value × List UInt8)} (h : LObj w F p g frm N sz s vch vts vtl ps) (hl : ps.length ≤ 1000000) (hb : ∀ q ∈ ps, q.2.length ≤ 100000) :
    Calls Tryz.prog 19 #[.pointer (some ⟨p, 0, none⟩)] w (LTextsTo w s.ts) := by
  obtain ⟨i0, hi0, hz0, hz1, hz2⟩ := info_parts infoSl
  obtain ⟨at_, ct, rfl⟩ := h.vts_form
  have H := Lib.hid h
  have HB := Lib.hid hb
  have HPS := Lib.hid h.pst
  have c8 := h.at_.cell 8 rfl
  obtain ⟨cs, hmk, hom⟩ := run_makeTs ps.length hl w
  have N1 : New w (w.alloc (.cells cs 42)) := (Below.refl _ _).alloc (Nat.le_refl _) _
  have H1 := Lib.hid (h.new N1)
  have HI : Hid (TxIn w ps 0 (.slice (some ⟨w.heap.size, 0, none⟩) 0 ps.length) [] (w.alloc (.cells cs 42))) := Lib.hid ⟨N1, hom, rfl, by simp, fun q hq => nomatch hq⟩
  have y8 := H1.out.at_.cell 8 rfl
  clear h hom N1
  go_enter Tryz.func19, Tryz.ntmps19
  go_upto_region 2 with fail
  generalize World.alloc w _ = w1 at *
  clear c8 hmk
  go_wp2
  go_loopw [3, 5, 17] (fun v _ i wr => ∃ (k : Nat) (qs : List (Value × List UInt8)), k ≤ ps.length ∧ i = .int .i64 k ∧ TxIn w ps k v qs wr) (fun _ _ i _ => ps.length - (intOf i).toNat)
  case atStart => exact ⟨0, [], Nat.zero_le _, rfl, HI.out⟩
  case round =>
    clear HI y8
    obtain ⟨k, qs, hk, rfl, hin⟩ := hrel
    obtain ⟨av, cv, rfl, hcv, -⟩ := ownSl_form hin.own
    have HIN := Lib.hid hin
    by_cases hlt : k < ps.length
    · have hli : (k : Int) < (ps.length : Int) := by omega
      have hT := RdV.of_own (H.out.new hin.new).oT
      obtain ⟨b, off, hbo, hcell⟩ := hT.cell (by omega)
      subst hbo
      have hc1 := hcell k (ps[k]).1 (by rw [List.getElem?_map, List.getElem?_eq_getElem hlt]; rfl)
      have hmem := List.getElem_mem hlt
      have HRd := Lib.hid ((H.out.rps ps[k] hmem).new hin.new)
      have HCl := Lib.hid (cloneOwn wr _ _ HRd.out (by have := HB.out ps[k] hmem; omega))
      obtain ⟨u, Hu⟩ : ∃ u, Hid ((ps[k]).1 = u) := ⟨_, Lib.hid rfl⟩
      obtain ⟨t, Ht⟩ : ∃ t, Hid ((ps[k]).2 = t) := ⟨_, Lib.hid rfl⟩
      rw [Hu.out, Ht.out] at HCl
      rw [Hu.out] at hc1
      clear hin hcell hT hmem HRd
      go_wp2_with fail
      refine HCl.out.mono ?_
      rintro _ w2 ⟨v2, rfl, hown2, N2⟩
      obtain ⟨a2, n2, c2, rfl⟩ := own_slice hown2
      obtain ⟨v', wa, happ, hown', hO', hb', hlt'⟩ := run_append_u (P := Tryz.prog) w.heap.size w2 52 52 42 i0 _ 24 Tryz.underlying52 hi0 hz0 hz1 hz2 rfl _ k (qs.map (·.1)) (own_more HIN.out.own N2) (.slice a2 n2 c2) rfl (by omega) (by omega) (Nat.le_trans HIN.out.new.size N2.size)
      have HAPP := Lib.hid happ
      have hc0 := own_from hown2
      have HN : Hid (TxIn w ps (k + 1) v' (qs ++ [(.slice a2 n2 c2, t)]) wa) := Lib.hid (by
        have hsz := HIN.out.new.size
        refine ⟨Below.trans (New.trans HIN.out.new N2) (hO'.below (Nat.le_trans hsz N2.size) (fun j hj => own_from HIN.out.own j hj)), by rw [List.map_append]; exact hown', by rw [List.length_append, HIN.out.len]; rfl, ?_, fun q hq => ?_⟩
        · rw [List.map_append, HIN.out.ts, List.take_succ_eq_append_getElem hlt, List.map_append, ← Ht.out]; rfl
        · have hap : ∀ j, j < w2.heap.size → blk (.slice av k cv) ≠ some j → blk v' ≠ some j := fun j hj hne e => by
            rcases hb' with e1 | ⟨i, e1, hi⟩
            · exact hne (by rw [← e1]; exact e)
            · rw [e1] at e; cases e; omega
          rcases List.mem_append.1 hq with hq | hq
          · obtain ⟨r1, r2⟩ := HIN.out.rd q hq
            refine ⟨(r1.new N2).only hO' (fun j hj hne => (r2 hne j hj).2), fun hne j hj => ⟨(r2 hne j hj).1, hap j ?_ (r2 hne j hj).2⟩⟩
            have := r1.lt hj hne
            have := N2.size
            omega
          · rw [List.mem_singleton.1 hq]
            have hv : ∀ j, blk (.slice a2 n2 c2) = some j → wr.heap.size ≤ j ∧ j < w2.heap.size ∧ blk (.slice av k cv) ≠ some j := fun j hj => by
              refine ⟨hc0 j hj, own_lt15 hown2 j hj, fun e => ?_⟩
              have h1 := own_lt15 HIN.out.own j e
              have h2 := hc0 j hj
              omega
            exact ⟨(Rd.of_own hown2).only hO' (fun j hj _ => (hv j hj).2.2), fun _ j hj => ⟨by have := (hv j hj).1; omega, hap j (hv j hj).2.1 (hv j hj).2.2⟩⟩)
      clear happ hown' hO' hb' hlt' hown2 N2 hc0 hi0 hz0 hz1 hz2 hc1 HCl
      go_wp2_with (at_builtin; refine wpList_app1 rfl _ _ 52 rfl _ _ rfl rfl HAPP.out ?_)
      go_roundw
      case rel => exact ⟨k + 1, _, by omega, by go_num, HN.out⟩
      case measure => simp [intOf]; omega
    · obtain rfl : k = ps.length := by omega
      clear hlt hin
      go_wp2
      go_ret
      refine ⟨HIN.out.new, av, _, cv, qs, rfl, ⟨RdV.of_own HIN.out.own, fun q hq => (HIN.out.rd q hq).1⟩, ?_⟩
      rw [HIN.out.ts, List.take_length, HPS.out]

end Go.Proofs.YtijkmpcgkhijgaaGreatDoor
