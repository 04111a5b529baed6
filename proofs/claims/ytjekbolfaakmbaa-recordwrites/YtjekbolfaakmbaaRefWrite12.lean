/-
  The reference's Write of layer 12, of a record that is right.
-/
import Derived.Test.YtjekbolfaakmbaaRec9
import Derived.Test.YtjekbolfaakmbaaRef01
import Derived.Test.YtjekbolfaakmbaaBase
import Derived.Deep.Cut
namespace Go.Proofs.Ytjekbolfaakmbaa
set_option linter.unusedVariables false
set_option linter.unusedSimpArgs false
open Go.RowKit

/-- what the three regions read -/
def SA12 (g : Nat) (k : Int) (u : Value) (l : List UInt8) (w : World) : Prop := w.cell? ⟨g, 0, none⟩ = some (.int .i64 k) ∧ w.cell? ⟨g, 1, none⟩ = some u ∧ (convert 22 9 u).run Try.prog w = .ok (.string (bstr l)) w
def SB12 (g : Nat) (e t b : Int) (w : World) : Prop := w.cell? ⟨g, 2, none⟩ = some (.int .i64 e) ∧ w.cell? ⟨g, 3, none⟩ = some (.int .i64 t) ∧ w.cell? ⟨g, 4, none⟩ = some (.int .i64 b)
def SC12 (g : Nat) (y tr sc wr : Value) (ly ltr lsc lwr : List UInt8) (w : World) : Prop :=
  (w.cell? ⟨g, 5, none⟩ = some y ∧ w.cell? ⟨g, 6, none⟩ = some tr ∧ w.cell? ⟨g, 7, none⟩ = some sc ∧ w.cell? ⟨g, 8, none⟩ = some wr) ∧
  (convert 22 9 y).run Try.prog w = .ok (.string (bstr ly)) w ∧ (convert 22 9 tr).run Try.prog w = .ok (.string (bstr ltr)) w ∧
  (convert 22 9 sc).run Try.prog w = .ok (.string (bstr lsc)) w ∧ (convert 22 9 wr).run Try.prog w = .ok (.string (bstr lwr)) w

theorem InBlk.sa {w : World} {g : Nat} {v : RecV} {r : RecL} (h : InBlk w g v r) : SA12 g r.kind v.g r.group w := ⟨h.at_.cells.1, h.at_.cells.2.1, run_str (P := Try.prog) Try.underlying22 Try.underlying5 Try.underlying9 h.rd.g⟩
theorem InBlk.sb {w : World} {g : Nat} {v : RecV} {r : RecL} (h : InBlk w g v r) : SB12 g r.epoch r.time r.bucket w := ⟨h.at_.cells.2.2.1, h.at_.cells.2.2.2.1, h.at_.cells.2.2.2.2.1⟩
theorem InBlk.sc {w : World} {g : Nat} {v : RecV} {r : RecL} (h : InBlk w g v r) : SC12 g v.y v.tr v.sc v.wr r.body r.tree r.script r.wrapped w :=
  ⟨h.at_.cells.2.2.2.2.2, run_str (P := Try.prog) Try.underlying22 Try.underlying5 Try.underlying9 h.rd.y, run_str (P := Try.prog) Try.underlying22 Try.underlying5 Try.underlying9 h.rd.tr, run_str (P := Try.prog) Try.underlying22 Try.underlying5 Try.underlying9 h.rd.sc, run_str (P := Try.prog) Try.underlying22 Try.underlying5 Try.underlying9 h.rd.wr⟩

def RWroteTo (w : World) (r : RecL) (e : Ending) (w' : World) : Prop := e = .returned (.string (bstr r.enc)) ∧ New w w'

theorem bsz (l : List UInt8) (n : Nat) (h : l.length ≤ n) : (bstr l).size ≤ n := by rw [bstr_size]; exact h

set_option maxRecDepth 100000 in
set_option maxHeartbeats 1000000 in
theorem refWrite12 (w : World) (v : RecV) (r : RecL) (h : RecR w v r) (hok : r.ok = true) :
    Calls Try.prog 11 #[v.val r] w (RWroteTo w r) := by
  have HR := Lib.hid h
  obtain ⟨a1, n1, c1, e1, -⟩ := h.g
  obtain ⟨a2, n2, c2, e2, -⟩ := h.y
  obtain ⟨a3, n3, c3, e3, -⟩ := h.tr
  obtain ⟨a4, n4, c4, e4, -⟩ := h.sc
  obtain ⟨a5, n5, c5, e5, -⟩ := h.wr
  clear h
  have hb := hok
  unfold RecL.ok at hb
  rw [rOk_iff] at hb
  obtain ⟨hk, hg, he, ht, hbk, hy, htr, hsc, hwr⟩ := hb
  have hh := rHash_le r.kind
  obtain ⟨ug, uy, utr, usc, uwr⟩ := v
  obtain ⟨k, g, e, t, b, y, tr, sc, wr⟩ := r
  unfold RecV.val RWroteTo
  dsimp only at *
  subst e1 e2 e3 e4 e5
  obtain ⟨k, rfl⟩ := Int.eq_ofNat_of_zero_le (show 0 ≤ k by omega)
  obtain ⟨e, rfl⟩ := Int.eq_ofNat_of_zero_le he.1
  obtain ⟨t, rfl⟩ := Int.eq_ofNat_of_zero_le ht.1
  obtain ⟨b, rfl⟩ := Int.eq_ofNat_of_zero_le hbk.1
  have Q1 := Lib.hid fun wx => refNumber wx k 1 (by omega) (by omega)
  have Q2 := Lib.hid fun wx => refText wx g 1 (by omega) (by omega)
  have Q3 := Lib.hid fun wx => refNumber wx e 8 (by omega) (by omega)
  have Q4 := Lib.hid fun wx => refNumber wx t 8 (by omega) (by omega)
  have Q5 := Lib.hid fun wx => refNumber wx b 8 (by omega) (by omega)
  have Q6 := Lib.hid fun wx => refText wx y 2 (by omega) (by omega)
  have Q7 := Lib.hid fun wx => refText wx tr 1 (by omega) (by omega)
  have Q8 := Lib.hid fun wx => refText wx sc 1 (by omega) (by omega)
  have Q9 := Lib.hid fun wx => refText wx wr 1 (by omega) (by omega)
  have uk : IntKind.u64.wrap (k : Int) = k := by rw [IntKind.wrap_u64]; omega
  have ue : IntKind.u64.wrap (e : Int) = e := by rw [IntKind.wrap_u64]; omega
  have ut : IntKind.u64.wrap (t : Int) = t := by rw [IntKind.wrap_u64]; omega
  have ub : IntKind.u64.wrap (b : Int) = b := by rw [IntKind.wrap_u64]; omega
  have z1 := bsz (be 1 k) 100000 (by rw [be_length]; omega)
  have z2 := bsz (be 1 g.length ++ g) 100000 (by rw [List.length_append, be_length]; omega)
  have z3 := bsz (be 8 e) 100000 (by rw [be_length]; omega)
  have z4 := bsz (be 8 t) 100000 (by rw [be_length]; omega)
  have z5 := bsz (be 8 b) 100000 (by rw [be_length]; omega)
  have z6 := bsz (be 2 y.length ++ y) 100000 (by rw [List.length_append, be_length]; omega)
  have z7 := bsz (be 1 tr.length ++ tr) 100000 (by rw [List.length_append, be_length]; omega)
  have z8 := bsz (be 1 sc.length ++ sc) 100000 (by rw [List.length_append, be_length]; omega)
  have z9 := bsz (be 1 wr.length ++ wr) 100000 (by rw [List.length_append, be_length]; omega)
  have HE : Hid (RecL.enc ⟨k, g, e, t, b, y, tr, sc, wr⟩ = be 1 k ++ (be 1 g.length ++ g) ++ be 8 e ++ be 8 t ++ be 8 b ++ (be 2 y.length ++ y) ++ (be 1 tr.length ++ tr) ++ (be 1 sc.length ++ sc) ++ (be 1 wr.length ++ wr)) := Lib.hid (by simp only [RecL.enc, List.append_assoc, Int.toNat_natCast])
  clear hok hk hg he ht hbk hy htr hsc hwr hh
  have HUK := Lib.hid uk
  have HUE := Lib.hid ue
  have HUT := Lib.hid ut
  have HUB := Lib.hid ub
  clear uk ue ut ub
  generalize be 1 k = L1 at *
  generalize be 1 g.length ++ g = L2 at *
  generalize be 8 e = L3 at *
  generalize be 8 t = L4 at *
  generalize be 8 b = L5 at *
  generalize be 2 y.length ++ y = L6 at *
  generalize be 1 tr.length ++ tr = L7 at *
  generalize be 1 sc.length ++ sc = L8 at *
  generalize be 1 wr.length ++ wr = L9 at *
  have step : ∀ (A B : List UInt8) (n : Nat), (bstr A).size ≤ n → (bstr B).size ≤ 100000 → n ≤ 10000000 → (bstr A ++ bstr B = bstr (A ++ B)) ∧ (bstr (A ++ B)).size ≤ n + 100000 ∧ ¬ 9223372036854775807 < (bstr A).size + (bstr B).size := fun A B n h1 h2 h3 =>
    ⟨bstr_append A B, by rw [bstr_size] at h1 h2; rw [bstr_size, List.length_append]; omega, by omega⟩
  obtain ⟨j2, y2, s2⟩ := step L1 L2 _ z1 z2 (by omega)
  obtain ⟨j3, y3, s3⟩ := step (L1 ++ L2) L3 _ y2 z3 (by omega)
  obtain ⟨j4, y4, s4⟩ := step (L1 ++ L2 ++ L3) L4 _ y3 z4 (by omega)
  obtain ⟨j5, y5, s5⟩ := step (L1 ++ L2 ++ L3 ++ L4) L5 _ y4 z5 (by omega)
  obtain ⟨j6, y6, s6⟩ := step (L1 ++ L2 ++ L3 ++ L4 ++ L5) L6 _ y5 z6 (by omega)
  obtain ⟨j7, y7, s7⟩ := step (L1 ++ L2 ++ L3 ++ L4 ++ L5 ++ L6) L7 _ y6 z7 (by omega)
  obtain ⟨j8, y8, s8⟩ := step (L1 ++ L2 ++ L3 ++ L4 ++ L5 ++ L6 ++ L7) L8 _ y7 z8 (by omega)
  obtain ⟨j9, y9, s9⟩ := step (L1 ++ L2 ++ L3 ++ L4 ++ L5 ++ L6 ++ L7 ++ L8) L9 _ y8 z9 (by omega)
  clear step y2 y3 y4 y5 y6 y7 y8 y9 z1 z2 z3 z4 z5 z6 z7 z8 z9
  rw [← HE.out] at j9
  generalize RecL.enc ⟨k, g, e, t, b, y, tr, sc, wr⟩ = M9 at *
  generalize L1 ++ L2 ++ L3 ++ L4 ++ L5 ++ L6 ++ L7 ++ L8 = M8 at *
  generalize L1 ++ L2 ++ L3 ++ L4 ++ L5 ++ L6 ++ L7 = M7 at *
  generalize L1 ++ L2 ++ L3 ++ L4 ++ L5 ++ L6 = M6 at *
  generalize L1 ++ L2 ++ L3 ++ L4 ++ L5 = M5 at *
  generalize L1 ++ L2 ++ L3 ++ L4 = M4 at *
  generalize L1 ++ L2 ++ L3 = M3 at *
  generalize L1 ++ L2 = M2 at *
  have HJ2 := Lib.hid (And.intro j2 s2)
  have HJ3 := Lib.hid (And.intro j3 s3)
  have HJ4 := Lib.hid (And.intro j4 s4)
  have HJ5 := Lib.hid (And.intro j5 s5)
  have HJ6 := Lib.hid (And.intro j6 s6)
  have HJ7 := Lib.hid (And.intro j7 s7)
  have HJ8 := Lib.hid (And.intro j8 s8)
  have HJ9 := Lib.hid (And.intro j9 s9)
  clear j2 j3 j4 j5 j6 j7 j8 j9 s2 s3 s4 s5 s6 s7 s8 s9 HE
  go_enter Try.func11, Try.ntmps11
  go_upto_region 1 with fail
  generalize hw1 : World.alloc w _ = w1
  have HC1 : Hid (At9 w1 w.heap.size 24 (.int .i64 k) (.slice a1 n1 c1) (.int .i64 e) (.int .i64 t) (.int .i64 b) (.slice a2 n2 c2) (.slice a3 n3 c3) (.slice a4 n4 c4) (.slice a5 n5 c5)) := Lib.hid (by rw [← hw1]; exact heap_alloc_new _ _)
  have N1 : New w w1 := by rw [← hw1]; exact (Below.refl _ _).alloc (Nat.le_refl _) _
  clear hw1
  obtain ⟨gb, hgb⟩ : ∃ gb, w.heap.size = gb := ⟨_, rfl⟩
  rw [hgb] at HC1
  rw [hgb]
  clear hgb
  have HI : Hid (InBlk w1.drew gb ⟨.slice a1 n1 c1, .slice a2 n2 c2, .slice a3 n3 c3, .slice a4 n4 c4, .slice a5 n5 c5⟩ ⟨k, g, e, t, b, y, tr, sc, wr⟩) := Lib.hid (InBlk.new ⟨HC1.out, HR.out.new N1⟩ (Below.refl _ _).drew)
  have NN : New w w1.drew := N1.drew
  clear HC1 HR N1
  have uk := HUK.out
  have sj := HJ2.out
  refine region_ord (SA12 gb k (.slice a1 n1 c1) g) [(0, true), (1, true), (2, true), (4, true), (5, true), (6, true), (3, false), (7, false), (8, true), (9, true)] (by kernel_rfl) (by kernel_rfl) HI.out.sa (fun _ => ?_)
  generalize w1.drew = w2 at *
  unfold SA12
  iterate 6 (apply ord_take; (simp only [List.getElem?_toArray, List.getElem?_cons_succ, List.getElem?_cons_zero]; rfl); rfl; (intro w hSw; (try dsimp only at hSw); go_simp; try with_reducible rfl); intro _; try simp only [Act.put, List.setIfInBounds_toArray, List.set_cons_zero, List.set_cons_succ])
  (apply ord_only; (simp only [List.getElem?_toArray, List.getElem?_cons_succ, List.getElem?_cons_zero]; rfl); rfl; intro K hK)
  go_simp
  refine (Q1.out w2).mono ?_
  rintro _ w3 ⟨rfl, N3⟩
  replace NN := New.trans NN N3
  replace HI := Lib.hid (HI.out.new N3)
  clear N3
  refine hK.out _ _ (HI.out.sa) (fun _ => ?_)
  clear hK K
  try simp only [Act.put, List.setIfInBounds_toArray, List.set_cons_zero, List.set_cons_succ]
  (apply ord_only; (simp only [List.getElem?_toArray, List.getElem?_cons_succ, List.getElem?_cons_zero]; rfl); rfl; intro K hK)
  go_simp
  refine (Q2.out w3).mono ?_
  rintro _ w4 ⟨rfl, N4⟩
  replace NN := New.trans NN N4
  replace HI := Lib.hid (HI.out.new N4)
  clear N4
  refine hK.out _ _ (HI.out.sa) (fun _ => ?_)
  clear hK K
  try simp only [Act.put, List.setIfInBounds_toArray, List.set_cons_zero, List.set_cons_succ]
  iterate 2 (apply ord_take; (simp only [List.getElem?_toArray, List.getElem?_cons_succ, List.getElem?_cons_zero]; rfl); rfl; (intro w hSw; (try dsimp only at hSw); go_simp; try with_reducible rfl); intro _; try simp only [Act.put, List.setIfInBounds_toArray, List.set_cons_zero, List.set_cons_succ])
  apply ord_done
  clear uk sj Q1 Q2 HUK HJ2 w3 w2 w1
  go_upto_region 2 with fail
  have NN2 : New w w4.drew := NN.drew
  have HI2 := Lib.hid (HI.out.new (Below.refl _ _).drew)
  clear NN HI
  have ue := HUE.out
  have ut := HUT.out
  have ub := HUB.out
  have sj3 := HJ3.out
  have sj4 := HJ4.out
  have sj5 := HJ5.out
  refine region_ord (SB12 gb e t b) [(0, true), (1, true), (2, true), (3, true), (6, true), (7, true), (8, true), (11, true), (12, true), (13, true), (4, false), (5, true), (9, false), (10, true), (14, false), (15, true), (16, true)] (by kernel_rfl) (by kernel_rfl) HI2.out.sb (fun _ => ?_)
  generalize w4.drew = w5 at *
  unfold SB12
  iterate 10 (apply ord_take; (simp only [List.getElem?_toArray, List.getElem?_cons_succ, List.getElem?_cons_zero]; rfl); rfl; (intro w hSw; (try dsimp only at hSw); go_simp; try with_reducible rfl); intro _; try simp only [Act.put, List.setIfInBounds_toArray, List.set_cons_zero, List.set_cons_succ])
  (apply ord_only; (simp only [List.getElem?_toArray, List.getElem?_cons_succ, List.getElem?_cons_zero]; rfl); rfl; intro K hK)
  go_simp
  refine (Q3.out w5).mono ?_
  rintro _ w6 ⟨rfl, N6⟩
  replace NN2 := New.trans NN2 N6
  replace HI2 := Lib.hid (HI2.out.new N6)
  clear N6
  refine hK.out _ _ (HI2.out.sb) (fun _ => ?_)
  clear hK K
  try simp only [Act.put, List.setIfInBounds_toArray, List.set_cons_zero, List.set_cons_succ]
  iterate 1 (apply ord_take; (simp only [List.getElem?_toArray, List.getElem?_cons_succ, List.getElem?_cons_zero]; rfl); rfl; (intro w hSw; (try dsimp only at hSw); go_simp; try with_reducible rfl); intro _; try simp only [Act.put, List.setIfInBounds_toArray, List.set_cons_zero, List.set_cons_succ])
  (apply ord_only; (simp only [List.getElem?_toArray, List.getElem?_cons_succ, List.getElem?_cons_zero]; rfl); rfl; intro K hK)
  go_simp
  refine (Q4.out w6).mono ?_
  rintro _ w7 ⟨rfl, N7⟩
  replace NN2 := New.trans NN2 N7
  replace HI2 := Lib.hid (HI2.out.new N7)
  clear N7
  refine hK.out _ _ (HI2.out.sb) (fun _ => ?_)
  clear hK K
  try simp only [Act.put, List.setIfInBounds_toArray, List.set_cons_zero, List.set_cons_succ]
  iterate 1 (apply ord_take; (simp only [List.getElem?_toArray, List.getElem?_cons_succ, List.getElem?_cons_zero]; rfl); rfl; (intro w hSw; (try dsimp only at hSw); go_simp; try with_reducible rfl); intro _; try simp only [Act.put, List.setIfInBounds_toArray, List.set_cons_zero, List.set_cons_succ])
  (apply ord_only; (simp only [List.getElem?_toArray, List.getElem?_cons_succ, List.getElem?_cons_zero]; rfl); rfl; intro K hK)
  go_simp
  refine (Q5.out w7).mono ?_
  rintro _ w8 ⟨rfl, N8⟩
  replace NN2 := New.trans NN2 N8
  replace HI2 := Lib.hid (HI2.out.new N8)
  clear N8
  refine hK.out _ _ (HI2.out.sb) (fun _ => ?_)
  clear hK K
  try simp only [Act.put, List.setIfInBounds_toArray, List.set_cons_zero, List.set_cons_succ]
  iterate 2 (apply ord_take; (simp only [List.getElem?_toArray, List.getElem?_cons_succ, List.getElem?_cons_zero]; rfl); rfl; (intro w hSw; (try dsimp only at hSw); go_simp; try with_reducible rfl); intro _; try simp only [Act.put, List.setIfInBounds_toArray, List.set_cons_zero, List.set_cons_succ])
  apply ord_done
  clear ue ut ub sj3 sj4 sj5 Q3 Q4 Q5 HUE HUT HUB HJ3 HJ4 HJ5 w7 w6 w5 w4
  go_upto_region 3 with fail
  have NN3 : New w w8.drew := NN2.drew
  have HI3 := Lib.hid (HI2.out.new (Below.refl _ _).drew)
  clear NN2 HI2
  have sj6 := HJ6.out
  have sj7 := HJ7.out
  have sj8 := HJ8.out
  have sj9 := HJ9.out
  refine region_ord (SC12 gb (.slice a2 n2 c2) (.slice a3 n3 c3) (.slice a4 n4 c4) (.slice a5 n5 c5) y tr sc wr) [(0, true), (1, true), (2, true), (3, true), (6, true), (7, true), (8, true), (11, true), (12, true), (13, true), (16, true), (17, true), (18, true), (4, false), (5, true), (9, false), (10, true), (14, false), (15, true), (19, false), (20, true), (21, true)] (by kernel_rfl) (by kernel_rfl) HI3.out.sc (fun _ => ?_)
  generalize w8.drew = w9 at *
  unfold SC12
  iterate 13 (apply ord_take; (simp only [List.getElem?_toArray, List.getElem?_cons_succ, List.getElem?_cons_zero]; rfl); rfl; (intro w hSw; (try dsimp only at hSw); go_simp; try with_reducible rfl); intro _; try simp only [Act.put, List.setIfInBounds_toArray, List.set_cons_zero, List.set_cons_succ])
  (apply ord_only; (simp only [List.getElem?_toArray, List.getElem?_cons_succ, List.getElem?_cons_zero]; rfl); rfl; intro K hK)
  go_simp
  refine (Q6.out w9).mono ?_
  rintro _ w10 ⟨rfl, N10⟩
  replace NN3 := New.trans NN3 N10
  replace HI3 := Lib.hid (HI3.out.new N10)
  clear N10
  refine hK.out _ _ (HI3.out.sc) (fun _ => ?_)
  clear hK K
  try simp only [Act.put, List.setIfInBounds_toArray, List.set_cons_zero, List.set_cons_succ]
  iterate 1 (apply ord_take; (simp only [List.getElem?_toArray, List.getElem?_cons_succ, List.getElem?_cons_zero]; rfl); rfl; (intro w hSw; (try dsimp only at hSw); go_simp; try with_reducible rfl); intro _; try simp only [Act.put, List.setIfInBounds_toArray, List.set_cons_zero, List.set_cons_succ])
  (apply ord_only; (simp only [List.getElem?_toArray, List.getElem?_cons_succ, List.getElem?_cons_zero]; rfl); rfl; intro K hK)
  go_simp
  refine (Q7.out w10).mono ?_
  rintro _ w11 ⟨rfl, N11⟩
  replace NN3 := New.trans NN3 N11
  replace HI3 := Lib.hid (HI3.out.new N11)
  clear N11
  refine hK.out _ _ (HI3.out.sc) (fun _ => ?_)
  clear hK K
  try simp only [Act.put, List.setIfInBounds_toArray, List.set_cons_zero, List.set_cons_succ]
  iterate 1 (apply ord_take; (simp only [List.getElem?_toArray, List.getElem?_cons_succ, List.getElem?_cons_zero]; rfl); rfl; (intro w hSw; (try dsimp only at hSw); go_simp; try with_reducible rfl); intro _; try simp only [Act.put, List.setIfInBounds_toArray, List.set_cons_zero, List.set_cons_succ])
  (apply ord_only; (simp only [List.getElem?_toArray, List.getElem?_cons_succ, List.getElem?_cons_zero]; rfl); rfl; intro K hK)
  go_simp
  refine (Q8.out w11).mono ?_
  rintro _ w12 ⟨rfl, N12⟩
  replace NN3 := New.trans NN3 N12
  replace HI3 := Lib.hid (HI3.out.new N12)
  clear N12
  refine hK.out _ _ (HI3.out.sc) (fun _ => ?_)
  clear hK K
  try simp only [Act.put, List.setIfInBounds_toArray, List.set_cons_zero, List.set_cons_succ]
  iterate 1 (apply ord_take; (simp only [List.getElem?_toArray, List.getElem?_cons_succ, List.getElem?_cons_zero]; rfl); rfl; (intro w hSw; (try dsimp only at hSw); go_simp; try with_reducible rfl); intro _; try simp only [Act.put, List.setIfInBounds_toArray, List.set_cons_zero, List.set_cons_succ])
  (apply ord_only; (simp only [List.getElem?_toArray, List.getElem?_cons_succ, List.getElem?_cons_zero]; rfl); rfl; intro K hK)
  go_simp
  refine (Q9.out w12).mono ?_
  rintro _ w13 ⟨rfl, N13⟩
  replace NN3 := New.trans NN3 N13
  replace HI3 := Lib.hid (HI3.out.new N13)
  clear N13
  refine hK.out _ _ (HI3.out.sc) (fun _ => ?_)
  clear hK K
  try simp only [Act.put, List.setIfInBounds_toArray, List.set_cons_zero, List.set_cons_succ]
  iterate 2 (apply ord_take; (simp only [List.getElem?_toArray, List.getElem?_cons_succ, List.getElem?_cons_zero]; rfl); rfl; (intro w hSw; (try dsimp only at hSw); go_simp; try with_reducible rfl); intro _; try simp only [Act.put, List.setIfInBounds_toArray, List.set_cons_zero, List.set_cons_succ])
  apply ord_done
  go_wp2
  go_ret
  exact ⟨rfl, NN3⟩

end Go.Proofs.Ytjekbolfaakmbaa
