/-
  NodeReads: the walk.
-/
import Derived.Test.YtliojldkdmaofaaLaw19
import Derived.Test.YtliojldkdmaofaaNodRead3
import Derived.Test.YtliojldkdmaofaaRefNode6
import Derived.Test.YtliojldkdmaofaaOrdPass
import Derived.Test.YtliojldkdmaofaaWrites19
namespace Go.Proofs.Ytliojldkdmaofaa
set_option linter.unusedVariables false
set_option linter.unusedSimpArgs false
set_option maxRecDepth 100000
open Go.RowKit

/-- what the last region reads -/
def SR19 (g g2 q : Nat) (k : Int) (a1 a2 a3 b1 b2 b3 : Value) (y : Nat) (r : List UInt8) (err : Int) (w : World) : Prop :=
  (w.cell? ⟨g, 0, none⟩ = some (.int .i64 k) ∧ w.cell? ⟨g, 1, none⟩ = some a1 ∧ w.cell? ⟨g, 2, none⟩ = some (.int .u64 (y : Int)) ∧ w.cell? ⟨g, 3, none⟩ = some a2 ∧ w.cell? ⟨g, 4, none⟩ = some a3) ∧
  (w.cell? ⟨g2, 0, none⟩ = some (.int .i64 k) ∧ w.cell? ⟨g2, 1, none⟩ = some b1 ∧ w.cell? ⟨g2, 2, none⟩ = some (.int .u64 (y : Int)) ∧ w.cell? ⟨g2, 3, none⟩ = some b2 ∧ w.cell? ⟨g2, 4, none⟩ = some b3) ∧
  (w.cell? ⟨q, 0, none⟩ = some (.string (bstr r)) ∧ w.cell? ⟨q, 1, none⟩ = some (.int .i64 err))

/-- both nodes and both readers -/
structure R19 (wz w : World) (g g2 p q : Nat) (u v : NodeV) (N : NodeL) (d : Option Nat) (r : List UInt8) (err : Int) : Prop where
  new : New wz w
  a : NBlk w g u N
  b : NBlk w g2 v N
  eye : Eye w p d r err
  rey : REye w q r err

theorem R19.next {wz w w' : World} {g g2 p q : Nat} {u v : NodeV} {N : NodeL} {d : Option Nat} {r : List UInt8} {err : Int} (h : R19 wz w g g2 p q u v N d r err) (hn : New w w') : R19 wz w' g g2 p q u v N d r err :=
  ⟨New.trans h.new hn, h.a.new hn, h.b.new hn, h.eye.new hn, h.rey.new hn⟩

theorem R19.s {wz w : World} {g g2 p q : Nat} {u v : NodeV} {N : NodeL} {d : Option Nat} {r : List UInt8} {err : Int} (h : R19 wz w g g2 p q u v N d r err) : SR19 g g2 q N.kind u.nm u.pa u.un v.nm v.pa v.un N.key r err w :=
  ⟨h.a.at_.cells, h.b.at_.cells, h.rey.cells.1, h.rey.cells.2.1⟩

set_option maxHeartbeats 4000000 in
theorem readsLaw19 (w : World) (x : Value) (l : List UInt8) (hx : Rd w x l) : Calls Try.prog 4 #[x] w fun e w' => e = .returned (.bool true) ∧ New w w' := by
  have HX := Lib.hid hx
  obtain ⟨ax, nx, cx, rfl, hax, -⟩ := hx
  by_cases h1 : 400 < nx
  · have d1 : decide ((400 : Int) < (nx : Int)) = true := by simp; omega
    clear hax
    go_enter Try.func4, Try.ntmps4
    go_wp2_with fail
    refine (awake19 w).mono ?_
    rintro _ w1 ⟨rfl, N1⟩
    go_wp2_with fail
    refine (awake19 w1).mono ?_
    rintro _ w2 ⟨rfl, N2⟩
    go_wp2
    go_ret
    exact ⟨rfl, New.trans N1 N2⟩
  have d1 : decide ((400 : Int) < (nx : Int)) = false := by simp; omega
  have HLen : Hid (l.length ≤ 140737488355328) := Lib.hid (by omega)
  clear hax h1
  go_enter Try.func4, Try.ntmps4
  go_wp2_with fail
  refine (awake19 w).mono ?_
  rintro _ w1 ⟨rfl, N1⟩
  go_wp2_with fail
  refine (eyeOpen w1 _ l (HX.out.new N1) HLen.out).mono ?_
  rintro _ w2 ⟨p, d, rfl, hp, E2, hd, n2⟩
  have ks := run_str (P := Try.prog) Try.underlying22 Try.underlying5 Try.underlying9 ((HX.out.new N1).new n2)
  go_wp2_with fail
  clear ks
  generalize hw3 : World.alloc w2 _ = w3
  have hz3 : w3.heap.size = w2.heap.size + 1 := by rw [← hw3]; simp
  have N3 : New w2 w3 := by rw [← hw3]; exact (Below.refl _ _).alloc (Nat.le_refl _) _
  have q3 : REye w3 w2.heap.size l 0 := by rw [← hw3]; exact heap_alloc_new _ _
  clear hw3
  have HP : Hid (w1.heap.size ≤ p ∧ p < w2.heap.size ∧ ∀ k, d = some k → w1.heap.size ≤ k ∧ k < w2.heap.size) := Lib.hid ⟨hp, E2.data19.1, hd⟩
  have HZ := Lib.hid hz3
  have HE3 := Lib.hid (E2.new N3)
  have HQ3 := Lib.hid q3
  have HN3 := Lib.hid (New.trans N1 (New.trans n2 N3))
  have H13 := Lib.hid (New.trans n2 N3)
  have H1 := Lib.hid N1
  clear hp hd E2 N3 q3 hz3 n2 N1 d1
  obtain ⟨q, hq⟩ : ∃ q, w2.heap.size = q := ⟨_, rfl⟩
  rw [hq] at HP HZ HQ3
  rw [hq]
  clear hq
  refine (nodRead w3 p d (l, 0) HE3.out HLen.out).mono ?_
  rintro _ w4 ⟨v, rfl, nd, E4⟩
  have HND := Lib.hid nd
  have HE4 := Lib.hid E4
  have HQ4 := Lib.hid (HQ3.out.only E4.2 (fun e => by have := HP.out; omega))
  clear nd E4 HQ3 HE3
  go_wp2_with fail
  refine (refRead19 w4 q (l, 0) HQ4.out HLen.out).mono ?_
  rintro _ w5 ⟨u, rfl, ru, Q5⟩
  obtain ⟨a1, n1, c1, a2, n2, c2, a3, n3, c3, rfl⟩ := HND.out.rd.forms19
  obtain ⟨b1, m1, f1, b2, m2, f2, b3, m3, f3, rfl⟩ := ru.forms19
  have HRU := Lib.hid ru
  have HQ5 := Lib.hid Q5
  clear ru Q5
  unfold NodeV.val
  dsimp only
  go_wp2_with fail
  obtain ⟨G, hG⟩ : ∃ G, rGot (l, 0) = G := ⟨_, rfl⟩
  rw [hG] at HND HRU ⊢
  clear hG
  obtain ⟨E, hE⟩ : ∃ E, rErr19 (l, 0) = E := ⟨_, rfl⟩
  rw [hE] at HE4 HQ5
  clear hE
  obtain ⟨r, hr⟩ : ∃ r, (rNode (l, 0)).2.1 = r := ⟨_, rfl⟩
  rw [hr] at HE4 HQ5
  clear hr
  have hx : New w w5 ∧ NodeR w5 ⟨.slice a1 n1 c1, .slice a2 n2 c2, .slice a3 n3 c3⟩ G ∧ Eye w5 p d r E ∧ REye w5 q r E := by
    have hp := HP.out
    have hz := HZ.out
    have hs := H1.out.size
    have hs3 := HN3.out.size
    have hs4 := HE4.out.2.size
    have h4 : New w w4 := Below.trans HN3.out (HE4.out.2.below hs3 (fun k e => by omega))
    refine ⟨Below.trans h4 (HQ5.out.2.below (by omega) (fun k e => by omega)), (HND.out.only HQ5.out.2 (fun k e => by omega)).rd, HE4.out.1.only19 HQ5.out.2 (by omega) (fun _ k hk e => ?_), HQ5.out.1⟩
    have := (hp.2.2 k hk).2
    omega
  have HX5 := Lib.hid hx
  clear hx HND HE4 HQ4 HQ5 HN3 H13 H1 HZ HP
  generalize hw6 : World.alloc w5 _ = w6
  have hz6 : w6.heap.size = w5.heap.size + 1 := by rw [← hw6]; simp
  have N6 : New w5 w6 := by rw [← hw6]; exact (Below.refl _ _).alloc (Nat.le_refl _) _
  have A6 : At5 w6 w5.heap.size 26 (.int .i64 G.kind) (.slice a1 n1 c1) (.int .u64 (G.key : Int)) (.slice a2 n2 c2) (.slice a3 n3 c3) := by rw [← hw6]; exact heap_alloc_new _ _
  clear hw6
  generalize hw7 : World.alloc w6 _ = w7
  have N7 : New w6 w7 := by rw [← hw7]; exact (Below.refl _ _).alloc (Nat.le_refl _) _
  have A7 : At5 w7 (w5.heap.size + 1) 26 (.int .i64 G.kind) (.slice b1 m1 f1) (.int .u64 (G.key : Int)) (.slice b2 m2 f2) (.slice b3 m3 f3) := by rw [← hw7, ← hz6]; exact heap_alloc_new _ _
  clear hw7
  have HX : Hid (R19 w w7.drew w5.heap.size (w5.heap.size + 1) p q ⟨.slice a1 n1 c1, .slice a2 n2 c2, .slice a3 n3 c3⟩ ⟨.slice b1 m1 f1, .slice b2 m2 f2, .slice b3 m3 f3⟩ G d r E) := Lib.hid (by
    have N57 := New.trans N6 N7
    obtain ⟨k1, k2, k3, k4⟩ := HX5.out
    exact ⟨(New.trans k1 N57).drew, (⟨A6.new N7, k2.new N57⟩ : NBlk _ _ _ _).new (Below.refl _ _).drew, (⟨A7, HRU.out.new N57⟩ : NBlk _ _ _ _).new (Below.refl _ _).drew, (k3.new N57).new (Below.refl _ _).drew, (k4.new N57).new (Below.refl _ _).drew⟩)
  clear hz6 N6 A6 N7 A7 HX5 HRU
  obtain ⟨gk, gn, gy, gp, gu⟩ := G
  dsimp only at *
  obtain ⟨ga, hga⟩ : ∃ g, w5.heap.size = g := ⟨_, rfl⟩
  rw [hga] at HX
  rw [hga]
  clear hga
  obtain ⟨gb, hgb⟩ : ∃ g, ga + 1 = g := ⟨_, rfl⟩
  rw [hgb] at HX
  rw [hgb]
  clear hgb
  have HSM := Lib.hid fun wx h h' => refSame19 wx ⟨.slice a1 n1 c1, .slice a2 n2 c2, .slice a3 n3 c3⟩ ⟨.slice b1 m1 f1, .slice b2 m2 f2, .slice b3 m3 f3⟩ ⟨gk, gn, gy, gp, gu⟩ ⟨gk, gn, gy, gp, gu⟩ h h'
  rw [decide_eq_true rfl] at HSM
  have ke : (E == E) = true := by simp
  refine region_ordT (SR19 ga gb q gk (.slice a1 n1 c1) (.slice a2 n2 c2) (.slice a3 n3 c3) (.slice b1 m1 f1) (.slice b2 m2 f2) (.slice b3 m3 f3) gy r E) (.take 0 (.take 1 (.only 2 (.take 3 (.take 4 (.take 6 (.take 7 (.take 8 (.take 9 (.only 5 (.take 10 (.take 11 (.take 12 (.take 13 (.take 14 (.take 15 (.take 16 (.take 17 (.take 18 (.take 19 (.take 21 (.take 22 (.take 23 (.take 24 (.take 25 (.only 20 (.take 26 (.take 27 (.take 28 (.take 29 .nil)))))))))))))))))))))))))))))) (by kernel_rfl) (by kernel_rfl) HX.out.s (fun _ => ?_)
  generalize w7.drew = wq at *
  unfold SR19
  iterate 2 (apply ordT_take; (simp only [List.getElem?_toArray, List.getElem?_cons_succ, List.getElem?_cons_zero]; rfl); rfl; (intro w hSw; (try dsimp only at hSw); go_simp; try with_reducible rfl); intro _; try simp only [Act.put, List.setIfInBounds_toArray, List.set_cons_zero, List.set_cons_succ])
  (apply ordT_only; (simp only [List.getElem?_toArray, List.getElem?_cons_succ, List.getElem?_cons_zero]; rfl); rfl; intro K hK)
  go_simp
  refine (HSM.out wq HX.out.a.rd HX.out.b.rd).mono ?_
  rintro _ wn ⟨rfl, Nn⟩
  replace HX := Lib.hid (HX.out.next Nn)
  clear Nn
  refine hK.out _ _ (HX.out.s) (fun _ => ?_)
  clear hK K
  try simp only [Act.put, List.setIfInBounds_toArray, List.set_cons_zero, List.set_cons_succ]
  iterate 6 (apply ordT_take; (simp only [List.getElem?_toArray, List.getElem?_cons_succ, List.getElem?_cons_zero]; rfl); rfl; (intro w hSw; (try dsimp only at hSw); go_simp; try with_reducible rfl); intro _; try simp only [Act.put, List.setIfInBounds_toArray, List.set_cons_zero, List.set_cons_succ])
  (apply ordT_only; (simp only [List.getElem?_toArray, List.getElem?_cons_succ, List.getElem?_cons_zero]; rfl); rfl; intro K hK)
  go_simp
  refine (eyeErr _ p d r E HX.out.eye).mono ?_
  rintro _ _ ⟨rfl, rfl⟩
  refine hK.out _ _ (HX.out.s) (fun _ => ?_)
  clear hK K
  try simp only [Act.put, List.setIfInBounds_toArray, List.set_cons_zero, List.set_cons_succ]
  iterate 3 (apply ordT_take; (simp only [List.getElem?_toArray, List.getElem?_cons_succ, List.getElem?_cons_zero]; rfl); rfl; (intro w hSw; (try dsimp only at hSw); go_simp; try with_reducible rfl); intro _; try simp only [Act.put, List.setIfInBounds_toArray, List.set_cons_zero, List.set_cons_succ])
  by_cases hE : E = 0
  · subst hE
    have kl : ((r.length : Int) == ((bstr r).size : Int)) = true := by rw [bstr_size]; simp
    iterate 12 (apply ordT_take; (simp only [List.getElem?_toArray, List.getElem?_cons_succ, List.getElem?_cons_zero]; rfl); rfl; (intro w hSw; (try dsimp only at hSw); go_simp; try with_reducible rfl); intro _; try simp only [Act.put, List.setIfInBounds_toArray, List.set_cons_zero, List.set_cons_succ])
    (apply ordT_only; (simp only [List.getElem?_toArray, List.getElem?_cons_succ, List.getElem?_cons_zero]; rfl); rfl; intro K hK)
    go_simp
    refine (eyeLeft _ p d r 0 HX.out.eye).mono ?_
    rintro _ _ ⟨rfl, rfl⟩
    refine hK.out _ _ (HX.out.s) (fun _ => ?_)
    clear hK K
    try simp only [Act.put, List.setIfInBounds_toArray, List.set_cons_zero, List.set_cons_succ]
    iterate 4 (apply ordT_take; (simp only [List.getElem?_toArray, List.getElem?_cons_succ, List.getElem?_cons_zero]; rfl); rfl; (intro w hSw; (try dsimp only at hSw); go_simp; try with_reducible rfl); intro _; try simp only [Act.put, List.setIfInBounds_toArray, List.set_cons_zero, List.set_cons_succ])
    apply ordT_done
    have HN9 := Lib.hid HX.out.new
    clear HX
    go_wp2
    go_ret
    exact ⟨rfl, HN9.out⟩
  · have de : (E != 0) = true := by simpa using hE
    iterate 6 (apply ordT_take; (simp only [List.getElem?_toArray, List.getElem?_cons_succ, List.getElem?_cons_zero]; rfl); rfl; (intro w hSw; (try dsimp only at hSw); go_simp; try with_reducible rfl); intro _; try simp only [Act.put, List.setIfInBounds_toArray, List.set_cons_zero, List.set_cons_succ])
    iterate 6 (apply ordT_skip; (simp only [List.getElem?_toArray, List.getElem?_cons_succ, List.getElem?_cons_zero]; rfl); rfl; intro _; try simp only [Act.put, List.setIfInBounds_toArray, List.set_cons_zero, List.set_cons_succ])
    (apply ordT_pass; (simp only [List.getElem?_toArray, List.getElem?_cons_succ, List.getElem?_cons_zero]; rfl); rfl; intro _; try simp only [Act.put, List.setIfInBounds_toArray, List.set_cons_zero, List.set_cons_succ])
    (apply ordT_skip; (simp only [List.getElem?_toArray, List.getElem?_cons_succ, List.getElem?_cons_zero]; rfl); rfl; intro _; try simp only [Act.put, List.setIfInBounds_toArray, List.set_cons_zero, List.set_cons_succ])
    iterate 3 (apply ordT_take; (simp only [List.getElem?_toArray, List.getElem?_cons_succ, List.getElem?_cons_zero]; rfl); rfl; (intro w hSw; (try dsimp only at hSw); go_simp; try with_reducible rfl); intro _; try simp only [Act.put, List.setIfInBounds_toArray, List.set_cons_zero, List.set_cons_succ])
    apply ordT_done
    have HN9 := Lib.hid HX.out.new
    clear HX
    go_wp2
    go_ret
    exact ⟨rfl, HN9.out⟩

end Go.Proofs.Ytliojldkdmaofaa
