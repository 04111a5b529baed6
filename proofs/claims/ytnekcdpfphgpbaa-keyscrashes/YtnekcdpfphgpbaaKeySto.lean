/-
  keys: store.
-/
import Derived.Test.YtnekcdpfphgpbaaKeyFns
namespace Go.Proofs.Ytnekcdpfphgpbaa
set_option linter.unusedVariables false
set_option linter.unusedSimpArgs false
set_option maxRecDepth 100000
open Go.RowKit

/-- sectors from s on, those from f to m written with b -/
def kDone (D : List UInt8) (s : Nat) (b : List UInt8) (f : Nat) : Nat → List UInt8
  | 0 => D
  | m + 1 => if f ≤ m then lay (kDone D s b f m) (s + m) b else kDone D s b f m

theorem kDone_low (D : List UInt8) (s : Nat) (b : List UInt8) (f : Nat) : ∀ m, m ≤ f → kDone D s b f m = D := by
  intro m
  induction m with
  | zero => intro _; rfl
  | succ m ih => intro h; unfold kDone; rw [if_neg (by omega)]; exact ih (by omega)

theorem kDone_two0 (D : List UInt8) (s : Nat) (b : List UInt8) : kDone D s b 0 2 = lay (lay D s b) (s + 1) b := rfl
theorem kDone_one0 (D : List UInt8) (s : Nat) (b : List UInt8) : kDone D s b 0 1 = lay D s b := rfl
theorem kDone_two1 (D : List UInt8) (s : Nat) (b : List UInt8) : kDone D s b 1 2 = lay D (s + 1) b := rfl

theorem layAll_one (D : List UInt8) (s : Nat) (b : List UInt8) : layAll D [(s, b)] = lay D s b := rfl

/-- behind two calls on a disk -/
theorem DvcTo.behind {q q' : Int} {w w1 w2 : World} {n g : Nat} {G : Nat → Prop} {D L D' L' : List UInt8} {P P' : List Wr} (h1 : DvcTo q w n g G D L P w1) (h : DvcTo q' w1 n g (fun k => G k ∨ w.heap.size ≤ k) D' L' P' w2) : DvcTo q' w n g G D' L' P' w2 :=
  ⟨h.1.narrow (fun k _ hk => hk.elim id (fun h => .inr (Nat.le_trans h1.2.size h))), h1.2.trans h.2 (fun k hk h => h.elim id (fun h => by omega))⟩

theorem DvcTo.refl {q : Int} {w : World} {n g : Nat} {G : Nat → Prop} {D L : List UInt8} {P : List Wr} (h : Dvc q w n g G D L P) : DvcTo q w n g G D L P w :=
  ⟨h.narrow (fun _ _ hk => .inl hk), Only.refl _ _⟩

theorem nextQ_neg : nextQ (-1) = -1 := rfl

/-- what store leaves -/
def StTo16 (q : Int) (w : World) (n g : Nat) (F G : Nat → Prop) (p sl frm : Nat) (L : List KSlot) (D : List UInt8) (s : Nat) (b : List UInt8) (f : Nat) (e : Ending) (w' : World) : Prop :=
  (e = .returned (.int .i64 0) ∧ KTab w' F p sl g frm L false ∧ ∃ q', (q = -1 → q' = -1) ∧ DvcTo q' w n g G (kDone D s b f 2) (kDone D s b f 2) [] w') ∨
  (q ≠ -1 ∧ e = .returned (.int .i64 22) ∧ KTab w' F p sl g frm L true ∧ Only (fun k => G k ∨ k = p) w w' ∧ ∃ m q' P', f ≤ m ∧ m < 2 ∧ (P' = [] ∨ P' = [(s + m, b)]) ∧ Dvc q' w' n g (fun k => G k ∨ w.heap.size ≤ k) (kDone D s b f m) (layAll (kDone D s b f m) P') P')

/-- in the midst of it -/
structure StIn (q : Int) (w : World) (n g : Nat) (F G : Nat → Prop) (p sl frm : Nat) (L : List KSlot) (D : List UInt8) (s : Nat) (b : List UInt8) (f m : Nat) (wr : World) : Prop where
  fm : f ≤ m
  m2 : m ≤ 2
  tab : KTab wr F p sl g frm L false
  dev : ∃ q', (q = -1 → q' = -1) ∧ DvcTo q' w n g G (kDone D s b f m) (kDone D s b f m) [] wr

theorem stDies {q q' : Int} {w wr : World} {n g : Nat} {F G : Nat → Prop} {p sl frm : Nat} {L : List KSlot} {D : List UInt8} {s : Nat} {b : List UInt8} {f m : Nat} {P' : List Wr} (hq : q ≠ -1) (ht : KTab wr F p sl g frm L false) (hfg : ∀ k, F k → ¬ G k) (hp : p < w.heap.size) (hf : f ≤ m) (hm : m < 2) (hP : P' = [] ∨ P' = [(s + m, b)])
    (hd : DvcTo q' w n g G (kDone D s b f m) (layAll (kDone D s b f m) P') P' wr) : StTo16 q w n g F G p sl frm L D s b f (.returned (.int .i64 22)) (wr.setCell ⟨p, 3, none⟩ (.bool true)) :=
  .inr ⟨hq, rfl, ht.dies, (hd.2.mono (fun k _ hk => .inl hk)).trans (only_cell wr p 3 _) (fun k _ e => .inr e), m, q', P', hf, hm, hP, hd.1.only (only_cell wr p 3 _) (fun k hk e => by subst e; exact hk.elim (hfg _ ht.fp) (fun h => by omega))⟩

def Lc01k (p : Nat) (a b : Value) (w : World) : Prop := w.cell? ⟨p, 0, none⟩ = some a ∧ w.cell? ⟨p, 1, none⟩ = some b

set_option maxHeartbeats 2000000 in
theorem keyStore {q : Int} {w : World} {n g : Nat} {F G : Nat → Prop} {p sl frm : Nat} {L : List KSlot} {D : List UInt8} (ht : KTab w F p sl g frm L false) (hfg : ∀ k, F k → ¬ G k) (hD : Dvc q w n g G D D [])
    (i f : Nat) (hf : f < 2) (hi : frm + 2 * i + 2 ≤ n) (gb ob cb : Nat) (b : List UInt8) (hrb : Rd w (.slice (some ⟨gb, ob, none⟩) 128 cb) b) (hgb : ¬ G gb) (hgp : gb ≠ p) :
    Calls Try.prog 27 #[.pointer (some ⟨p, 0, none⟩), .int .i64 (i : Int), .int .i64 (f : Int), .slice (some ⟨gb, ob, none⟩) 128 cb] w (StTo16 q w n g F G p sl frm L D (frm + 2 * i) b f) := by
  have hn : n ≤ 65536 := by obtain ⟨_, _, _, _, _, hd, -⟩ := hD; exact hd.few.2
  have hb128 : b.length = 128 := hrb.len
  have hplt : p < w.heap.size := ht.at_.lt
  have HRb := Lib.hid hrb
  have HFG := Lib.hid hfg
  have HG : Hid (¬ G gb ∧ p < w.heap.size ∧ b.length = 128 ∧ f < 2) := Lib.hid ⟨hgb, hplt, hb128, hf⟩
  obtain ⟨i2, hi2⟩ : ∃ x, 2 * i = x := ⟨_, rfl⟩
  rw [hi2] at hi
  obtain ⟨s, hs⟩ : ∃ x, frm + i2 = x := ⟨_, rfl⟩
  rw [hi2, hs]
  have e1 : IntKind.i64.wrap (2 * (i : Int)) = (i2 : Int) := by rw [IntWalk.i64_in _ (by omega)]; omega
  have e2 : IntKind.i64.wrap ((frm : Int) + (i2 : Int)) = (s : Int) := by rw [IntWalk.i64_in _ (by omega)]; omega
  have HN : Hid (s + 2 ≤ n ∧ n ≤ 65536) := Lib.hid ⟨by omega, hn⟩
  have HI0 : Hid (StIn q w n g F G p sl frm L D s b f f w) := Lib.hid ⟨Nat.le_refl _, by omega, ht, q, fun h => h, by rw [kDone_low _ _ _ _ _ (Nat.le_refl _)]; exact DvcTo.refl hD⟩
  have HT0 := Lib.hid ht
  clear ht hfg hD hi hrb hgb hgp hn hb128 hplt hi2 hs hf
  go_enter Try.func27, Try.ntmps27
  go_upto_region 2 with fail
  go_loopw [9] (fun v wr => ∃ m : Nat, v = .int .i64 m ∧ StIn q w n g F G p sl frm L D s b f m wr) (fun v _ => 2 - (intOf v).toNat)
  case atStart => exact ⟨f, rfl, HI0.out⟩
  case round =>
    clear HI0
    obtain ⟨m, rfl, hin⟩ := hrel
    have HI := Lib.hid hin
    clear hin
    by_cases hm : m < 2
    · have hlt : (m : Int) < 2 := by omega
      obtain ⟨sm, hsm⟩ : ∃ x, s + m = x := ⟨_, rfl⟩
      have e3 : IntKind.i64.wrap ((s : Int) + (m : Int)) = (sm : Int) := by have := HN.out; rw [IntWalk.i64_in _ (by omega)]; omega
      obtain ⟨q1, hq1, hdev⟩ := HI.out.dev
      have N1 : New wr wr.drew := (Below.refl _ _).drew
      have HT1 : Hid (KTab wr.drew F p sl g frm L false) := Lib.hid (HI.out.tab.new N1)
      have HD1 : Hid (DvcTo q1 w n g G (kDone D s b f m) (kDone D s b f m) [] wr.drew) := Lib.hid ⟨hdev.1.new N1, hdev.2.drew⟩
      have HQ : Hid ((q = -1 → q1 = -1) ∧ f ≤ m ∧ m < 2 ∧ s + m = sm) := Lib.hid ⟨hq1, HI.out.fm, hm, hsm⟩
      have HRb1 : Hid (Rd wr.drew (.slice (some ⟨gb, ob, none⟩) 128 cb) b) := Lib.hid (HRb.out.only HD1.out.2 (fun k hk _ => by cases hk; exact HG.out.1))
      have HNX : Hid (kDone D s b f (m + 1) = lay (kDone D s b f m) sm b) := Lib.hid (by rw [← hsm]; show (if f ≤ m then _ else _) = _; rw [if_pos HI.out.fm])
      have HC : Hid (Lc01k p (.pointer (some ⟨g, 0, none⟩)) (.int .i64 (frm : Int)) wr.drew) := Lib.hid ⟨HT1.out.at_.cells.1, HT1.out.at_.cells.2.1⟩
      obtain ⟨Dm, HDm⟩ : ∃ x, Hid (kDone D s b f m = x) := ⟨_, Lib.hid rfl⟩
      rw [HDm.out] at HD1 HNX
      have HNS : Hid (sm + 1 ≤ n) := Lib.hid (by have := HN.out; omega)
      have HW : Hid (Calls Try.prog 45 #[.pointer (some ⟨g, 0, none⟩), .int .i64 (sm : Int), .slice (some ⟨gb, ob, none⟩) 128 cb] wr.drew fun e w' => e = .returned (.int .i64 (if q1 = 0 then 22 else 0)) ∧ DvcTo (nextQ q1) w n g G Dm (if q1 = 0 then Dm else lay Dm sm b) (if q1 = 0 then [] else [(sm, b)]) w') := by
        refine Lib.hid ?_
        by_cases hq0 : q1 = 0
        · subst hq0
          rw [if_pos rfl, if_pos rfl, if_pos rfl]
          exact (diskWriteOff HD1.out.1 sm 1 HNS.out _ _).mono (fun e w' h => ⟨h.1, HD1.out.behind h.2⟩)
        · rw [if_neg hq0, if_neg hq0, if_neg hq0]
          refine (diskWriteN HD1.out.1 hq0 sm 1 HNS.out (by decide) gb ob cb b HRb1.out (fun h => h.elim HG.out.1 (fun h => ?_)) (by simp)).mono (fun e w' h => ⟨h.1, ?_⟩)
          · have := HRb.out.lt (k := gb) rfl (by intro e; have := HG.out.2.2.1; rw [e] at this; simp at this)
            omega
          · have h2 := HD1.out.behind h.2
            rw [List.nil_append, chunks_one sm HG.out.2.2.1] at h2
            exact h2
      clear hm hsm hdev N1 hq1
      go_upto_region 4 with fail
      refine region_ord (Lc01k p (.pointer (some ⟨g, 0, none⟩)) (.int .i64 (frm : Int))) [(0, true), (1, true), (2, true), (3, true), (4, true), (5, true), (6, true), (7, true), (8, true), (9, true), (10, true), (11, true), (12, true), (13, true), (14, false), (15, true)] (by kernel_rfl) (by kernel_rfl) HC.out (fun _ => ?_)
      generalize wr.drew = w1 at *
      unfold Lc01k
      iterate 14 (apply ord_take; (simp only [List.getElem?_toArray, List.getElem?_cons_succ, List.getElem?_cons_zero]; rfl); rfl; (intro w hSw; (try dsimp only at hSw); go_simp; try with_reducible rfl); intro _; try simp only [Act.put, List.setIfInBounds_toArray, List.set_cons_zero, List.set_cons_succ])
      (apply ord_only; (simp only [List.getElem?_toArray, List.getElem?_cons_succ, List.getElem?_cons_zero]; rfl); rfl; intro K hK)
      go_simp
      refine HW.out.mono ?_
      rintro _ w2 ⟨rfl, hd2⟩
      have HT2 : Hid (KTab w2 F p sl g frm L false) := Lib.hid (HT0.out.only hd2.2 HFG.out)
      have HC2 : Hid (Lc01k p (.pointer (some ⟨g, 0, none⟩)) (.int .i64 (frm : Int)) w2) := Lib.hid ⟨HT2.out.at_.cells.1, HT2.out.at_.cells.2.1⟩
      have HD2 := Lib.hid hd2
      clear hd2 HW HD1 HRb1 HC HT1
      refine hK.out _ _ (HC2.out) (fun _ => ?_)
      clear hK K
      try simp only [Act.put, List.setIfInBounds_toArray, List.set_cons_zero, List.set_cons_succ]
      (apply ord_take; (simp only [List.getElem?_toArray, List.getElem?_cons_succ, List.getElem?_cons_zero]; rfl); rfl; (intro w hSw; (try dsimp only at hSw); go_simp; try with_reducible rfl); intro _; try simp only [Act.put, List.setIfInBounds_toArray, List.set_cons_zero, List.set_cons_succ])
      apply ord_done
      by_cases hq : q1 = 0
      · subst hq
        rw [if_pos rfl, if_pos rfl] at HD2
        rw [if_pos rfl]
        have HE : Hid (StTo16 q w n g F G p sl frm L D s b f (.returned (.int .i64 22)) (w2.setCell ⟨p, 3, none⟩ (.bool true))) := Lib.hid (stDies (m := m) (P' := []) (fun e => by have := HQ.out.1 e; simp at this) HT2.out HFG.out HG.out.2.1 HQ.out.2.1 HQ.out.2.2.1 (.inl rfl) (by rw [HDm.out]; exact HD2.out))
        obtain ⟨-, -, -, x3⟩ := HT2.out.at_.cells
        obtain ⟨-, -, -, y3⟩ := HT2.out.at_.frozen
        go_wp2
        go_ret
        exact HE.out
      rw [if_neg hq, if_neg hq] at HD2
      rw [if_neg hq]
      obtain ⟨x0, -, -, -⟩ := HT2.out.at_.cells
      by_cases hq2 : nextQ q1 = 0
      · rw [hq2] at HD2
        have HFl := Lib.hid (diskFlushOff HD2.out.1)
        have HQ2 : Hid (q ≠ -1) := Lib.hid (fun e => by have h1 := HQ.out.1 e; rw [h1] at hq2; revert hq2; decide)
        clear hq hq2
        go_wp2_with fail
        refine HFl.out.mono ?_
        rintro _ w3 ⟨rfl, hd3⟩
        have hd4 := HD2.out.behind hd3
        have HT3 : Hid (KTab w3 F p sl g frm L false) := Lib.hid (HT0.out.only hd4.2 HFG.out)
        have HE : Hid (StTo16 q w n g F G p sl frm L D s b f (.returned (.int .i64 22)) (w3.setCell ⟨p, 3, none⟩ (.bool true))) := Lib.hid (stDies (m := m) (P' := [(sm, b)]) HQ2.out HT3.out HFG.out HG.out.2.1 HQ.out.2.1 HQ.out.2.2.1 (.inr (by rw [HQ.out.2.2.2])) (by rw [HDm.out, layAll_one]; exact hd4))
        clear hd3 hd4 x0
        obtain ⟨-, -, -, x3⟩ := HT3.out.at_.cells
        obtain ⟨-, -, -, y3⟩ := HT3.out.at_.frozen
        go_wp2
        go_ret
        exact HE.out
      · have HFl := Lib.hid (diskFlushN HD2.out.1 hq2)
        have HQ2 : Hid (q = -1 → nextQ (nextQ q1) = -1) := Lib.hid (fun e => by rw [HQ.out.1 e]; rfl)
        have hm2 : m < 2 := HQ.out.2.2.1
        clear hq hq2
        go_wp2_with fail
        refine HFl.out.mono ?_
        rintro _ w3 ⟨rfl, hd3⟩
        rw [layAll_one, ← HNX.out] at hd3
        have hd4 := HD2.out.behind hd3
        have HE : Hid (StIn q w n g F G p sl frm L D s b f (m + 1) w3) := Lib.hid ⟨by have := HQ.out; omega, by omega, HT0.out.only hd4.2 HFG.out, _, HQ2.out, hd4⟩
        clear hd3 hd4 x0
        go_wp2_with fail
        go_roundw
        case measure => simp [intOf]; omega
        case rel => exact ⟨m + 1, by go_num, HE.out⟩
    · obtain rfl : m = 2 := by have := HI.out.m2; omega
      clear hm
      go_wp2
      go_ret
      exact .inl ⟨rfl, HI.out.tab, HI.out.dev⟩

end Go.Proofs.Ytnekcdpfphgpbaa
