/-
  segment: Parse.
-/
import Derived.Test.YtjkhklbeimgggaaDoorSegFirst
import Derived.Test.YtjkhklbeimgggaaDoorCell4
import Derived.Test.YtjkhklbeimgggaaDoorAppOne
import Derived.Test.YtjkhklbeimgggaaDoorBase
namespace Go.Proofs.YtjkhklbeimgggaaDoor
set_option linter.unusedVariables false
set_option linter.unusedSimpArgs false
open Go.RowKit

/-- what Parse returns -/
def ParseTo (w : World) (P : SegP) (e : Ending) (w' : World) : Prop :=
  New w w' ∧ ∃ a n c a2 n2 c2 ps, e = .returned (.tuple #[.agg #[.slice a n c, .slice a2 n2 c2, .bool P.sealed, .int .i64 (P.used : Int)], .bool P.ok]) ∧ RdL w' (.slice a n c) ps ∧ ps.map (·.2) = P.ts ∧ Rd w' (.slice a2 n2 c2) P.ch

/-- the loop's objects: q: p's block -/
structure SegIn (w0 : World) (q : Nat) (b : List UInt8) (s : SegS) (vt vc : Value) (ps : List (Value × List UInt8)) (wr : World) : Prop where
  new : New w0 wr
  qge : w0.heap.size ≤ q
  at_ : At4 wr q 36 vt vc (.bool false) (.int .i64 (s.used : Int))
  own : wr.ownsRow w0.heap.size 22 1 vt ps.length (ps.map (·.1))
  tq : ∀ k, blk vt = some k → k ≠ q ∧ k < wr.heap.size
  rd : ∀ p ∈ ps, Rd wr p.1 p.2 ∧ p.2 ≠ [] ∧ ∀ k, blk p.1 = some k → w0.heap.size ≤ k ∧ k ≠ q ∧ blk vt ≠ some k
  ts : ps.map (·.2) = s.ts
  ch : Rd wr vc s.ch
  chq : ∀ k, blk vc = some k → w0.heap.size ≤ k ∧ k ≠ q ∧ blk vt ≠ some k
  len : s.ch.length = 32
  used : s.used ≤ b.length ∧ 41 * s.ts.length ≤ s.used

/-- more memory -/
theorem SegIn.more {w0 w1 w2 : World} {q : Nat} {b : List UInt8} {s : SegS} {vt vc : Value} {ps : List (Value × List UInt8)} (h : SegIn w0 q b s vt vc ps w1) (hn : New w1 w2) : SegIn w0 q b s vt vc ps w2 :=
  ⟨New.trans h.new hn, h.qge, h.at_.new hn, own_more h.own hn, fun k hk => ⟨(h.tq k hk).1, Nat.lt_of_lt_of_le (h.tq k hk).2 hn.size⟩,
   fun p hp => ⟨(h.rd p hp).1.new hn, (h.rd p hp).2⟩, h.ts, h.ch.new hn, h.chq, h.len, h.used⟩

/-- one text more -/
theorem SegIn.push {w0 wr wa : World} {q : Nat} {b : List UInt8} {s s' : SegS} {vt vc vt' x y : Value} {t : List UInt8} {ps : List (Value × List UInt8)} (h : SegIn w0 q b s vt vc ps wr)
    (hx : Rd wr x t) (ht : t ≠ []) (hxb : ∀ k, blk x = some k → w0.heap.size ≤ k ∧ k ≠ q ∧ blk vt ≠ some k) (hy : Rd wr y s'.ch) (hyb : ∀ k, blk y = some k → w0.heap.size ≤ k ∧ k ≠ q ∧ blk vt ≠ some k)
    (hs : sStep b s = some s') (hst : s'.ts = s.ts ++ [t]) (hlen : s'.ch.length = 32)
    (hown : wa.ownsRow w0.heap.size 22 1 vt' (ps.length + 1) (ps.map (·.1) ++ [x])) (ho : Only (fun k => blk vt = some k) wr wa) (hb : blk vt' = blk vt ∨ ∃ k, blk vt' = some k ∧ wr.heap.size ≤ k) (hlt : ∀ k, blk vt' = some k → k < wa.heap.size) :
    SegIn w0 q b s' vt' y (ps ++ [(x, t)]) (((wa.setCell ⟨q, 0, none⟩ vt').setCell ⟨q, 1, none⟩ y).setCell ⟨q, 3, none⟩ (.int .i64 (s'.used : Int))) := by
  have hq : q < wr.heap.size := h.at_.lt
  have hvt : ∀ k, blk vt = some k → k ≠ q := fun k hk => (h.tq k hk).1
  have hO : Only (fun k => k = q) wa (((wa.setCell ⟨q, 0, none⟩ vt').setCell ⟨q, 1, none⟩ y).setCell ⟨q, 3, none⟩ (.int .i64 (s'.used : Int))) :=
    (((Only.refl (fun k => k = q) wa).setCell (p := ⟨q, 0, none⟩) (fun _ => rfl) vt').setCell (p := ⟨q, 1, none⟩) (fun _ => rfl) y).setCell (p := ⟨q, 3, none⟩) (fun _ => rfl) _
  have hA : At4 wa q 36 vt vc (.bool false) (.int .i64 (s.used : Int)) := h.at_.only ho (fun hk => hvt q hk rfl)
  have hvt' : ∀ k, blk vt' = some k → k ≠ q := fun k hk => by
    rcases hb with e | ⟨j, e, hj⟩
    · exact hvt k (by rw [← e]; exact hk)
    · rw [e] at hk; cases hk; omega
  -- a block of a slice that reads as something, apart from vt's, is apart from vt''s
  have apart : ∀ (v : Value) (l : List UInt8), Rd wr v l → l ≠ [] → (∀ k, blk v = some k → blk vt ≠ some k) → ∀ k, blk v = some k → blk vt' ≠ some k := fun v l hr hne hv k hk e => by
    rcases hb with e1 | ⟨j, e1, hj⟩
    · exact hv k hk (by rw [← e1]; exact e)
    · rw [e1] at e; cases e
      have := hr.lt hk hne
      omega
  have keep : ∀ (v : Value) (l : List UInt8), Rd wr v l → (∀ k, blk v = some k → k ≠ q ∧ blk vt ≠ some k) → Rd (((wa.setCell ⟨q, 0, none⟩ vt').setCell ⟨q, 1, none⟩ y).setCell ⟨q, 3, none⟩ (.int .i64 (s'.used : Int))) v l := fun v l hr hv =>
    (hr.only ho (fun k hk _ e => (hv k hk).2 e)).only hO (fun k hk _ e => (hv k hk).1 e)
  refine ⟨?_, h.qge, ((hA.set0 _).set1 _).set3 _, ?_, fun k hk => ⟨hvt' k hk, Nat.lt_of_lt_of_le (hlt k hk) hO.size⟩, ?_, ?_, keep y _ hy (fun k hk => (hyb k hk).2), ?_, hlen, ?_⟩
  · refine Below.trans (Below.trans h.new (ho.below h.new.size (fun k hk => own_from h.own k hk))) (hO.below ?_ (fun k hk => by subst hk; exact h.qge))
    exact Nat.le_trans h.new.size ho.size
  · rw [List.map_append, List.length_append]
    refine ownsRow_only hown hO (fun k hk e => hvt' k hk e)
  · intro p hp
    rcases List.mem_append.1 hp with hp | hp
    · obtain ⟨r1, r2, r3⟩ := h.rd p hp
      exact ⟨keep _ _ r1 (fun k hk => (r3 k hk).2), r2, fun k hk => ⟨(r3 k hk).1, (r3 k hk).2.1, apart _ _ r1 r2 (fun k hk => (r3 k hk).2.2) k hk⟩⟩
    · rw [List.mem_singleton.1 hp]
      exact ⟨keep _ _ hx (fun k hk => (hxb k hk).2), ht, fun k hk => ⟨(hxb k hk).1, (hxb k hk).2.1, apart _ _ hx ht (fun k hk => (hxb k hk).2.2) k hk⟩⟩
  · rw [List.map_append, h.ts, hst]; rfl
  · exact fun k hk => ⟨(hyb k hk).1, (hyb k hk).2.1, apart _ _ hy (by intro e; rw [e] at hlen; cases hlen) (fun k hk => (hyb k hk).2.2) k hk⟩
  · have h1 := sStep_lt hs
    have h2 := h.used
    omega

/-- what is left when p's block and the result's block are written -/
theorem SegIn.out {w0 w2 wr : World} {q g0 : Nat} {b : List UInt8} {s : SegS} {vt vc : Value} {ps : List (Value × List UInt8)} (h : SegIn w2 q b s vt vc ps wr) (hn : New w0 w2) (hg : w0.heap.size ≤ g0) (hg2 : g0 < w2.heap.size) {w' : World} (ho : Only (fun k => k = q ∨ k = g0) wr w') :
    New w0 w' ∧ RdL w' vt ps ∧ Rd w' vc s.ch := by
  refine ⟨?_, ⟨?_, ?_⟩, ?_⟩
  · refine Below.trans (Below.trans hn (h.new.mono hn.size)) (ho.below (Nat.le_trans hn.size h.new.size) ?_)
    rintro k (rfl | rfl)
    · exact Nat.le_trans hn.size h.qge
    · exact hg
  · refine (RdV.of_own h.own).only ho ?_
    rintro k hk - (rfl | rfl)
    · exact (h.tq _ hk).1 rfl
    · have := own_from h.own _ hk; omega
  · intro p hp
    obtain ⟨r1, r2, r3⟩ := h.rd p hp
    refine r1.only ho ?_
    rintro k hk - (rfl | rfl)
    · exact (r3 _ hk).2.1 rfl
    · have := (r3 _ hk).1; omega
  · refine h.ch.only ho ?_
    rintro k hk - (rfl | rfl)
    · exact (h.chq _ hk).2.1 rfl
    · have := (h.chq _ hk).1; omega

theorem rd_tail {w : World} {a : Option Addr} {m c : Nat} {r : List UInt8} (h : Rd w (.slice a m c) r) {k : Nat} (hk : k ≤ m) : Rd w (.slice (if c = k then a else a.map (fun x => x.add k)) (m - k) (c - k)) (r.drop k) := by
  by_cases e : c = k
  · rw [if_pos e]
    obtain ⟨a', n', c', e', h1, h2, h3, h4, h5⟩ := h
    cases e'
    rw [List.drop_of_length_le (by omega)]
    exact ⟨a, _, _, rfl, by simp; omega, by omega, by omega, fun hn => by omega, fun _ _ _ _ hh => by simp at hh⟩
  · rw [if_neg e]
    exact h.rest hk

/-- 'p.Used' -/
def usedAt (w : World) (q : Nat) : Nat := match w.cell? ⟨q, 3, none⟩ with
  | some (.int _ n) => n.toNat
  | _ => 0

theorem SegIn.usedAt {w0 wr : World} {q : Nat} {b : List UInt8} {s : SegS} {vt vc : Value} {ps : List (Value × List UInt8)} (h : SegIn w0 q b s vt vc ps wr) : usedAt wr q = s.used := by
  unfold Go.Proofs.YtjkhklbeimgggaaDoor.usedAt; rw [h.at_.cells.2.2.2]; exact Int.toNat_natCast _

def CellsP (q : Nat) (vt vc : Value) (u : Nat) (w : World) : Prop := w.cell? ⟨q, 0, none⟩ = some vt ∧ w.cell? ⟨q, 1, none⟩ = some vc ∧ w.cell? ⟨q, 2, none⟩ = some (.bool false) ∧ w.cell? ⟨q, 3, none⟩ = some (.int .i64 (u : Int))

theorem infoSl : (Tryd.prog.info? 22).map (fun i => (i.zero, i.size, i.bytes)) = some (some (.slice none 0 0), 1, 24) := by kernel_rfl

set_option maxRecDepth 100000 in
set_option maxHeartbeats 2000000 in
theorem segParse (w : World) (x y : Value) (b ch : List UInt8) (number count : Int) (hx : Rd w x b) (hy : Rd w y ch) (hb : b.length ≤ 1099511627776) (hc : ch.length ≤ 1099511627776) (hn : -9223372036854775808 ≤ number) (hn' : number ≤ 9223372036854775807) (hc1 : -9223372036854775808 ≤ count) (hc2 : count ≤ 9223372036854775807) (hL : Laid w) :
    Calls Tryd.prog 14 #[x, .int .i64 number, .int .i64 count, y] w (ParseTo w (sParse b number count ch)) := by
  have HX := Lib.hid hx
  have HY := Lib.hid hy
  have HL := Lib.hid hL
  obtain ⟨ax, nx, cx, rfl, hl, hle, hm, -⟩ := hx
  obtain ⟨ay, ny, cy, rfl, -⟩ := hy
  unfold maxLen at hm
  have HB := Lib.hid hl
  have HBL := Lib.hid hb
  have HCL := Lib.hid hc
  clear hl hc hL
  obtain ⟨r, hr⟩ : ∃ r, nx % 128 = r := ⟨_, rfl⟩
  have e1 : (nx : Int) % 128 = (r : Int) := by omega
  have HR0 := Lib.hid hr
  clear hr
  go_enter Tryd.func14, Tryd.ntmps14
  go_wp2_with fail
  generalize hw1 : World.alloc w _ = w1
  have HG1 : Hid (At4 w1 w.heap.size 36 (.slice none 0 0) (.slice none 0 0) (.bool false) (.int .i64 0)) := Lib.hid (by rw [← hw1]; exact heap_alloc_new _ _)
  have N1 : New w w1 := by rw [← hw1]; exact (Below.refl _ _).alloc (Nat.le_refl _) _
  clear hw1
  refine (segHead w1 number count _ ch (HY.out.new N1) hn hn' hc1 hc2).mono ?_
  rintro e w2 ⟨vh, rfl, oh, M2⟩
  obtain ⟨ah, nh, ch', rfl⟩ := own_slice oh
  have N2 := Lib.hid (New.trans N1 M2)
  have HG2 := Lib.hid (HG1.out.new M2)
  have HH := Lib.hid (Rd.of_own oh)
  clear oh N1 M2 HG1
  obtain ⟨f0, f1, f2, f3⟩ := HG2.out.frozen
  obtain ⟨g0, g1, g2, g3⟩ := HG2.out.cells
  by_cases h1 : nx < 256
  · have h1' : (nx : Int) < 256 := by omega
    have HF : Hid (sParse b number count ch = ⟨false, [], [], false, 0⟩) := Lib.hid (if_neg (by rw [HB.out]; omega))
    clear h1
    go_wp2
    refine bodyPost_ret (results_cell_tmp rfl _ _ w.heap.size _ _ _ _ rfl (HG2.out.put _ _ _ _) Tryd.underlying36 rfl (by kernel_rfl)) rfl ?_
    rw [HF.out]
    refine ⟨Below.trans N2.out ((At4.put_only _ _ _ _ _ _).below N2.out.size (fun k hk => by subst hk; exact Nat.le_refl _)), _, _, _, _, _, _, [], rfl, ⟨RdV.nil _, by simp⟩, rfl, Rd.nil _⟩
  have h1' : ¬ (nx : Int) < 256 := by omega
  by_cases h2 : r = 0
  · subst h2
    have HR := Lib.hid (HX.out.new N2.out)
    have HE := Lib.hid (bytesEq w2 _ _ _ _ (HR.out.cut (k := 128) (c' := cx) (by omega) (by omega) (Nat.le_refl _)) HH.out)
    by_cases h3 : b.take 128 = sHeadOf number count ch
    · rw [decide_eq_true h3] at HE
      have hpl : sPlaced number count ch := by
        refine Decidable.byContradiction fun h => ?_
        unfold sHeadOf at h3
        rw [if_neg h] at h3
        have := congrArg List.length h3
        rw [List.length_take, HB.out, List.length_nil] at this
        omega
      have HP : Hid (sParse b number count ch = sEnd b count.toNat (sAll b ⟨[], ch, 128⟩)) := Lib.hid (if_pos ⟨by rw [HB.out]; omega, by rw [HB.out]; exact HR0.out, h3⟩)
      have HPL := Lib.hid hpl
      clear h3 hpl
      go_wp2_with fail
      refine HE.out.mono ?_
      rintro e w3 ⟨rfl, rfl⟩
      clear HE HH HR
      go_wp2_with fail
      refine (cloneNew w2 _ ch (HY.out.new N2.out) (by have := HCL.out; omega)).mono ?_
      rintro e w3 ⟨a3, n3, c3, rfl, r3, N3, b3⟩
      have R3 := Lib.hid r3
      have M3 := Lib.hid N3
      clear r3 N3 f0 f1 f2 f3 g0 g1 g2 g3 e1
      go_wp2
      generalize hw4 : World.alloc w3 _ = w4
      have HIN : Hid (SegIn w2 w3.heap.size b ⟨[], ch, 128⟩ (.slice none 0 0) (.slice a3 n3 c3) [] w4) := by
        have N4 : New w3 w4 := by rw [← hw4]; exact (Below.refl _ _).alloc (Nat.le_refl _) _
        refine Lib.hid ⟨New.trans M3.out N4, M3.out.size, by rw [← hw4]; exact heap_alloc_new _ _, World.ownsRow_nil _ _ _ _, by simp [blk], by simp, rfl, R3.out.new N4, ?_, HPL.out.2.1, ⟨show 128 ≤ b.length by rw [HB.out]; omega, by simp⟩⟩
        have hne : ch ≠ [] := by intro e; have := HPL.out.2.1; rw [e] at this; cases this
        refine fun k hk => ⟨b3 hne k hk, ?_, by simp [blk]⟩
        have := R3.out.lt hk hne
        omega
      obtain ⟨q, hq⟩ : ∃ q, w3.heap.size = q := ⟨_, rfl⟩
      rw [hq] at HIN
      rw [hq]
      clear hw4 hq M3 R3 b3
      go_loopw [12, 13, 14] (fun _ _ _ wr => ∃ s vt vc ps, sAll b ⟨[], ch, 128⟩ = sAll b s ∧ SegIn w2 q b s vt vc ps wr) (fun _ _ _ wr => b.length + 1 - usedAt wr q)
      case atStart => exact ⟨_, _, _, _, rfl, HIN.out⟩
      case round =>
        obtain ⟨s, vt, vc, ps, hs, hin⟩ := hrel
        obtain ⟨at', ct, hvt, hct, -⟩ := ownSl_form hin.own
        subst hvt
        obtain ⟨ac, nc, cc, hvc, -⟩ := id hin.ch
        subst hvc
        have HS := Lib.hid hs
        have N5 : New wr wr.drew := (Below.refl _ _).drew
        have HI5 := Lib.hid (hin.more N5)
        have HM := Lib.hid hin.usedAt
        clear hs hin HIN
        obtain ⟨u, Hu⟩ : ∃ u, Hid (s.used = u) := ⟨_, Lib.hid rfl⟩
        have hun : u ≤ nx := by have := HI5.out.used.1; rw [Hu.out, HB.out] at this; exact this
        have hbn : nx ≤ 1099511627776 := by have := HBL.out; rw [HB.out] at this; exact this
        have hpl : ps.length ≤ 1099511627776 := by
          have h1 := HI5.out.used.2
          have h2 := congrArg List.length HI5.out.ts
          rw [List.length_map] at h2
          have h3 := Hu.out
          omega
        obtain ⟨aT, hsl, HRT⟩ : ∃ aT, (∀ wx : World, (Instr.slice 22 (.slice ax nx cx) (some (.int .i64 (u : Int))) none none).run Tryd.prog wx = .ok (.slice aT (nx - u) (cx - u)) wx) ∧ Hid (∀ wx, Rd wx (.slice ax nx cx) b → Rd wx (.slice aT (nx - u) (cx - u)) (b.drop u)) := by
          refine ⟨_, fun wx => ?_, Lib.hid fun wx h => rd_tail h hun⟩
          rw [run_slice_l wx 22 ax nx cx Tryd.underlying22 .i64 _ (by omega) (by omega)]
          have hz : (sizeOf (Tryd.prog.elem 22)).run Tryd.prog wx = .ok 1 wx := by kernel_rfl
          rw [hz]
          simp only [Result.andThen_ok, sliced, Nat.mul_one, Int.toNat_natCast]
        have HF1 := Lib.hid (segFirst wr.drew _ _ _ _ (HRT.out _ ((HX.out.new N2.out).new HI5.out.new)) HI5.out.ch (by rw [List.length_drop]; omega) HI5.out.len ((HL.out.new N2.out).new HI5.out.new))
        have HC5 : Hid (CellsP q (.slice at' ps.length ct) (.slice ac nc cc) u wr.drew) := by
          refine Lib.hid ?_
          have := HI5.out.at_.cells
          rw [Hu.out] at this
          exact this
        go_wp2_with fail
        refine region_ord (CellsP q (.slice at' ps.length ct) (.slice ac nc cc) u) [(0, true), (1, true), (2, true), (3, true), (4, true), (5, true), (6, false), (7, true), (8, true), (9, true), (10, true), (11, true), (12, true), (13, true)] (by kernel_rfl) (by kernel_rfl) HC5.out (fun _ => ?_)
        generalize wr.drew = w5 at *
        unfold CellsP
        clear HC5 N5
        iterate 6 (apply ord_take; (simp only [List.getElem?_toArray, List.getElem?_cons_succ, List.getElem?_cons_zero]; rfl); rfl; (intro w hSw; (try dsimp only at hSw); go_simp; try with_reducible rfl); intro _; try simp only [Act.put, List.setIfInBounds_toArray, List.set_cons_zero, List.set_cons_succ])
        (apply ord_only; (simp only [List.getElem?_toArray, List.getElem?_cons_succ, List.getElem?_cons_zero]; rfl); rfl; intro K hK)
        go_simp
        refine HF1.out.mono ?_
        rintro e w6 ⟨N6, hmt⟩
        have HI6 := Lib.hid (HI5.out.more N6)
        have HC6 : Hid (CellsP q (.slice at' ps.length ct) (.slice ac nc cc) u w6) := by
          refine Lib.hid ?_
          have := HI6.out.at_.cells
          rw [Hu.out] at this
          exact this
        have HN6 := Lib.hid N6
        clear N6
        cases hf : sFirst s.ch (b.drop u) with
        | none =>
          rw [hf] at hmt
          subst hmt
          have HST : Hid (sStep b s = none) := Lib.hid (by unfold sStep; rw [Hu.out, hf]; rfl)
          clear hf HF1
          refine hK.out _ _ (HC6.out) (fun _ => ?_)
          clear hK K
          try simp only [Act.put, List.setIfInBounds_toArray, List.set_cons_zero, List.set_cons_succ]
          iterate 7 (apply ord_take; (simp only [List.getElem?_toArray, List.getElem?_cons_succ, List.getElem?_cons_zero]; rfl); rfl; (intro w hSw; (try dsimp only at hSw); go_simp; try with_reducible rfl); intro _; try simp only [Act.put, List.setIfInBounds_toArray, List.set_cons_zero, List.set_cons_succ])
          apply ord_done
          clear HM HI5 HC6 HN6 w5
          have N7 : New w6 w6.drew := (Below.refl _ _).drew
          have HI7 := Lib.hid (HI6.out.more N7)
          have HC7 : Hid (CellsP q (.slice at' ps.length ct) (.slice ac nc cc) u w6.drew) := by
            refine Lib.hid ?_
            have := HI7.out.at_.cells
            rw [Hu.out] at this
            exact this
          have hc0 : 0 ≤ count := HPL.out.1
          have hw1 : IntKind.u64.wrap count = count := IntWalk.u64_in _ (by omega)
          have hw2 : IntKind.u64.wrap (ps.length : Int) = (ps.length : Int) := IntWalk.u64_in _ (by omega)
          have hw3 : IntKind.u64.wrap (count + (ps.length : Int)) = count + (ps.length : Int) := IntWalk.u64_in _ (by omega)
          have HFt := Lib.hid (segFoot w6.drew (count + (ps.length : Int)) _ s.ch HI7.out.ch (by omega) (by omega) (by rw [HI7.out.len]; omega))
          have HTs : Hid ((count + (ps.length : Int)).toNat = count.toNat + s.ts.length) := by
            refine Lib.hid ?_
            have h2 := congrArg List.length HI7.out.ts
            rw [List.length_map] at h2
            omega
          rw [HTs.out] at HFt
          clear HTs hc0
          go_wp2
          refine region_ord (CellsP q (.slice at' ps.length ct) (.slice ac nc cc) u) [(0, true), (1, true), (2, true), (3, true), (4, true), (5, true), (6, true), (7, true), (8, true), (9, true), (10, true), (11, true), (12, true), (13, false), (14, false)] (by kernel_rfl) (by kernel_rfl) HC7.out (fun _ => ?_)
          generalize w6.drew = w7 at *
          clear HC7 N7 HI6
          unfold CellsP
          iterate 13 (apply ord_take; (simp only [List.getElem?_toArray, List.getElem?_cons_succ, List.getElem?_cons_zero]; rfl); rfl; (intro w hSw; (try dsimp only at hSw); go_simp; try with_reducible rfl); intro _; try simp only [Act.put, List.setIfInBounds_toArray, List.set_cons_zero, List.set_cons_succ])
          (apply ord_only; (simp only [List.getElem?_toArray, List.getElem?_cons_succ, List.getElem?_cons_zero]; rfl); rfl; intro K hK)
          go_simp
          refine HFt.out.mono ?_
          rintro e w8 ⟨vf, rfl, of, N8⟩
          obtain ⟨af, nf, cf, rfl⟩ := own_slice of
          have HI8 := Lib.hid (HI7.out.more N8)
          have HC8 : Hid (CellsP q (.slice at' ps.length ct) (.slice ac nc cc) u w8) := by
            refine Lib.hid ?_
            have := HI8.out.at_.cells
            rw [Hu.out] at this
            exact this
          have HPx := Lib.hid (hasPrefix w8 _ _ _ _ (HRT.out _ ((HX.out.new N2.out).new HI8.out.new)) (Rd.of_own of))
          rw [sFoot_length _ _ HI8.out.len] at HPx
          clear of N8 HI7 HFt hw1 hw2 hw3
          refine hK.out _ _ (HC8.out) (fun _ => ?_)
          clear hK K
          try simp only [Act.put, List.setIfInBounds_toArray, List.set_cons_zero, List.set_cons_succ]
          have HSd : Hid (decide (List.take 48 (List.drop u b) = sFoot (count.toNat + s.ts.length) s.ch) = sSealed b count.toNat s) := Lib.hid (by unfold sSealed; rw [Hu.out])
          rw [HSd.out] at HPx
          obtain ⟨sd, HSE⟩ : ∃ sd, Hid (sSealed b count.toNat s = sd) := ⟨_, Lib.hid rfl⟩
          rw [HSE.out] at HPx
          have HPZ : Hid (sParse b number count ch = ⟨true, s.ts, s.ch, sd, if sd = true then u + 48 else u⟩) := Lib.hid (by rw [HP.out, HS.out, sAll_none HST.out]; unfold sEnd; rw [HSE.out, Hu.out])
          clear HSd HSE HP HS HST
          (apply ord_only; (simp only [List.getElem?_toArray, List.getElem?_cons_succ, List.getElem?_cons_zero]; rfl); rfl; intro K hK)
          go_simp
          refine HPx.out.mono ?_
          rintro e w9 ⟨rfl, rfl⟩
          refine hK.out _ _ (HC8.out) (fun _ => ?_)
          clear hK K
          try simp only [Act.put, List.setIfInBounds_toArray, List.set_cons_zero, List.set_cons_succ]
          apply ord_done
          have HG8 := Lib.hid (HG2.out.new HI8.out.new)
          have HLt : Hid (w.heap.size ≠ q) := Lib.hid (by have := HI8.out.qge; have := HG2.out.lt; omega)
          clear HPx HRT hsl
          cases sd with
          | false =>
            obtain ⟨f0, f1, f2, f3⟩ := HG8.out.frozen
            obtain ⟨g0, g1, g2, g3⟩ := HG8.out.cells
            obtain ⟨x0, x1, x2, x3⟩ := HC8.out
            go_wp2
            refine bodyPost_ret (results_cell_tmp rfl _ _ w.heap.size _ _ _ _ rfl (HG8.out.put _ _ _ _) Tryd.underlying36 rfl (by kernel_rfl)) rfl ?_
            rw [HPZ.out]
            obtain ⟨z1, z2, z3⟩ := HI8.out.out N2.out (Nat.le_refl _) HG2.out.lt ((At4.put_only w8 w.heap.size (.slice at' ps.length ct) (.slice ac nc cc) (.bool false) (.int .i64 (u : Int))).mono (G := fun k => k = q ∨ k = w.heap.size) (fun _ _ h => .inr h))
            exact ⟨z1, _, _, _, _, _, _, ps, rfl, z2, HI8.out.ts, z3⟩
          | true =>
            have HA8 : Hid (At4 w8 q 36 (.slice at' ps.length ct) (.slice ac nc cc) (.bool false) (.int .i64 (u : Int))) := by
              refine Lib.hid ?_
              have := HI8.out.at_
              rw [Hu.out] at this
              exact this
            obtain ⟨f0, f1, f2, f3⟩ := HA8.out.frozen
            obtain ⟨x0, x1, x2, x3⟩ := HC8.out
            go_upto_region 12 with fail
            generalize hw10 : World.setCell w8 _ _ = w10
            have HA10 : Hid (At4 w10 q 36 (.slice at' ps.length ct) (.slice ac nc cc) (.bool true) (.int .i64 (u : Int))) := Lib.hid (by rw [← hw10]; exact HA8.out.set2 _)
            have HO10 : Hid (Only (fun k => k = q) w8 w10) := Lib.hid (by rw [← hw10]; exact only_cell _ _ _ _)
            clear hw10 x0 x1 x2 x3 f0 f1 f2 f3
            obtain ⟨f0, f1, f2, f3⟩ := HA10.out.frozen
            obtain ⟨x0, x1, x2, x3⟩ := HA10.out.cells
            go_upto_region 13 with fail
            generalize hw11 : World.setCell w10 _ _ = w11
            have HA11 : Hid (At4 w11 q 36 (.slice at' ps.length ct) (.slice ac nc cc) (.bool true) (.int .i64 ((u : Int) + 48))) := Lib.hid (by rw [← hw11]; exact HA10.out.set3 _)
            have HO11 : Hid (Only (fun k => k = q) w8 w11) := Lib.hid (by rw [← hw11]; exact HO10.out.setCell (p := ⟨q, 3, none⟩) (fun _ => rfl) _)
            have HG11 := Lib.hid (HG8.out.only HO11.out HLt.out)
            clear hw11 x0 x1 x2 x3 f0 f1 f2 f3 HA10 HO10 HG8 HA8 HC8
            obtain ⟨f0, f1, f2, f3⟩ := HG11.out.frozen
            obtain ⟨g0, g1, g2, g3⟩ := HG11.out.cells
            obtain ⟨x0, x1, x2, x3⟩ := HA11.out.cells
            go_wp2
            refine bodyPost_ret (results_cell_tmp rfl _ _ w.heap.size _ _ _ _ rfl (HG11.out.put _ _ _ _) Tryd.underlying36 rfl (by kernel_rfl)) rfl ?_
            rw [HPZ.out]
            obtain ⟨z1, z2, z3⟩ := HI8.out.out N2.out (Nat.le_refl _) HG2.out.lt ((HO11.out.mono (G := fun k => k = q ∨ k = w.heap.size) (fun _ _ h => .inl h)).trans ((At4.put_only w11 w.heap.size (.slice at' ps.length ct) (.slice ac nc cc) (.bool true) (.int .i64 ((u : Int) + 48))).mono (G := fun k => k = q ∨ k = w.heap.size) (fun _ _ h => .inr h)) (fun _ _ h => h))
            exact ⟨z1, _, _, _, _, _, _, ps, rfl, z2, HI8.out.ts, z3⟩
        | some t =>
          rw [hf] at hmt
          obtain ⟨a1, n1, c1, a2, n2, c2, rfl, r1, b1, r2, b2⟩ := hmt
          have HT := Lib.hid (sFirst_some hf)
          have HST : Hid (sStep b s = some ⟨s.ts ++ [t], sNext s.ch t, s.used + (t.length + 40)⟩) := Lib.hid (by unfold sStep; rw [Hu.out, hf]; rfl)
          have hn1 : n1 ≤ 65535 := by have := HT.out.2.1; rw [r1.len] at this; exact this
          have HN1 : Hid (t.length = n1) := Lib.hid r1.len
          clear hf HF1
          refine hK.out _ _ (HC6.out) (fun _ => ?_)
          clear hK K
          try simp only [Act.put, List.setIfInBounds_toArray, List.set_cons_zero, List.set_cons_succ]
          iterate 7 (apply ord_take; (simp only [List.getElem?_toArray, List.getElem?_cons_succ, List.getElem?_cons_zero]; rfl); rfl; (intro w hSw; (try dsimp only at hSw); go_simp; try with_reducible rfl); intro _; try simp only [Act.put, List.setIfInBounds_toArray, List.set_cons_zero, List.set_cons_succ])
          apply ord_done
          have hcx : ∀ k, blk (.slice a1 n1 c1) = some k → w2.heap.size ≤ k ∧ k ≠ q ∧ blk (.slice at' ps.length ct) ≠ some k := fun k hk => by
            have h1 := b1 k hk
            have h2 := HI5.out.new.size
            have h3 := HI5.out.at_.lt
            exact ⟨by omega, by omega, fun e => by have := (HI5.out.tq k e).2; omega⟩
          have hcy : ∀ k, blk (.slice a2 n2 c2) = some k → w2.heap.size ≤ k ∧ k ≠ q ∧ blk (.slice at' ps.length ct) ≠ some k := fun k hk => by
            have h1 := b2 k hk
            have h2 := HI5.out.new.size
            have h3 := HI5.out.at_.lt
            exact ⟨by omega, by omega, fun e => by have := (HI5.out.tq k e).2; omega⟩
          obtain ⟨i0, hi0, hz0, hz1, hz2⟩ := info_parts infoSl
          obtain ⟨v', wa, happ, hown', hO', hb', hlt'⟩ := run_append_u (P := Tryd.prog) w2.heap.size w6 34 34 22 i0 _ 24 Tryd.underlying34 hi0 hz0 hz1 hz2 rfl _ ps.length (ps.map (·.1)) HI6.out.own (.slice a1 n1 c1) rfl (by omega) (by omega) HI6.out.new.size
          obtain ⟨a', cap', rfl, -, -⟩ := ownSl_form hown'
          have HAPP := Lib.hid happ
          have HPU := Lib.hid (HI6.out.push r1 (by intro e; have := HT.out.1; rw [e] at this; simp at this) hcx r2 hcy HST.out rfl (sNext_length _ _) hown' hO' hb' hlt')
          have HAa : Hid (At4 wa q 36 (.slice at' ps.length ct) (.slice ac nc cc) (.bool false) (.int .i64 (u : Int))) := by
            refine Lib.hid ?_
            have := HI6.out.at_.only hO' (fun hk => (HI6.out.tq q hk).1 rfl)
            rw [Hu.out] at this
            exact this
          clear happ hown' hO' hb' hlt' r1 r2 b1 b2 hcx hcy
          obtain ⟨x0, x1, x2, x3⟩ := HC6.out
          obtain ⟨f0, f1, f2, f3⟩ := HAa.out.frozen
          obtain ⟨y0, y1, y2, y3⟩ := HAa.out.cells
          go_wp2_with (at_builtin; refine wpList_app1 rfl _ _ 34 rfl _ _ rfl rfl HAPP.out ?_)
          have hE := HPU.out
          have hcast : (((⟨s.ts ++ [t], sNext s.ch t, s.used + (t.length + 40)⟩ : SegS).used : Nat) : Int) = (u : Int) + (40 + (n1 : Int)) := by
            show ((s.used + (t.length + 40) : Nat) : Int) = _
            rw [Hu.out, HN1.out]
            omega
          rw [hcast] at hE
          have hlt := sStep_lt HST.out
          refine ⟨⟨_, _, _, _, by rw [HS.out, sAll_some HST.out], hE⟩, ?_⟩
          rw [hE.usedAt, HM.out]
          omega
    · have HF : Hid (sParse b number count ch = ⟨false, [], [], false, 0⟩) := Lib.hid (if_neg (by rintro ⟨-, -, h⟩; exact h3 h))
      rw [decide_eq_false h3] at HE
      clear h3
      go_wp2_with fail
      refine HE.out.mono ?_
      rintro e w3 ⟨rfl, rfl⟩
      go_wp2
      refine bodyPost_ret (results_cell_tmp rfl _ _ w.heap.size _ _ _ _ rfl (HG2.out.put _ _ _ _) Tryd.underlying36 rfl (by kernel_rfl)) rfl ?_
      rw [HF.out]
      refine ⟨Below.trans N2.out ((At4.put_only _ _ _ _ _ _).below N2.out.size (fun k hk => by subst hk; exact Nat.le_refl _)), _, _, _, _, _, _, [], rfl, ⟨RdV.nil _, by simp⟩, rfl, Rd.nil _⟩
  · have h2' : ((r : Int) == 0) = false := by simp; omega
    have h2'' : ¬ (r : Int) = 0 := by omega
    have HF : Hid (sParse b number count ch = ⟨false, [], [], false, 0⟩) := Lib.hid (if_neg (by rw [HB.out, HR0.out]; omega))
    clear h2
    go_wp2
    refine bodyPost_ret (results_cell_tmp rfl _ _ w.heap.size _ _ _ _ rfl (HG2.out.put _ _ _ _) Tryd.underlying36 rfl (by kernel_rfl)) rfl ?_
    rw [HF.out]
    refine ⟨Below.trans N2.out ((At4.put_only _ _ _ _ _ _).below N2.out.size (fun k hk => by subst hk; exact Nat.le_refl _)), _, _, _, _, _, _, [], rfl, ⟨RdV.nil _, by simp⟩, rfl, Rd.nil _⟩

end Go.Proofs.YtjkhklbeimgggaaDoor
