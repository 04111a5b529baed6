/-
  record.Write.
-/
import Derived.Test.YtjekbolfaakmbaaDoorRecFns
namespace Go.Proofs.YtjekbolfaakmbaaDoor
set_option linter.unusedVariables false
set_option linter.unusedSimpArgs false
open Go.RowKit

/-- what Write returns -/
def RecL.wrote (r : RecL) : List UInt8 := if r.ok = true then r.enc else []

def WroteTo (w : World) (r : RecL) (e : Ending) (w' : World) : Prop := ∃ a n c, e = .returned (.tuple #[.slice a n c, .bool r.ok]) ∧ Rd w' (.slice a n c) r.wrote ∧ New w w'

set_option maxRecDepth 100000 in
set_option maxHeartbeats 2000000 in
theorem recWrite (w : World) (v : RecV) (r : RecL) (h : RecR w v r) : Calls Tryd.prog 10 #[v.val r] w (WroteTo w r) := by
  have HR := Lib.hid h
  obtain ⟨a1, n1, c1, e1, l1, -, m1, -⟩ := h.g
  obtain ⟨a2, n2, c2, e2, l2, -⟩ := h.y
  obtain ⟨a3, n3, c3, e3, l3, -⟩ := h.tr
  obtain ⟨a4, n4, c4, e4, l4, -⟩ := h.sc
  obtain ⟨a5, n5, c5, e5, l5, -⟩ := h.wr
  have HOK : Hid (rOk r.kind n1 r.epoch r.time r.bucket n2 n3 n4 n5 = r.ok) := Lib.hid (by unfold RecL.ok; rw [l1, l2, l3, l4, l5])
  have HRI := Lib.hid (fun wx => recRight wx r.kind r.epoch r.time r.bucket a1 a2 a3 a4 a5 n1 c1 n2 c2 n3 c3 n4 c4 n5 c5)
  rw [HOK.out] at HRI
  clear HOK l1 l2 l3 l4 l5 h m1
  obtain ⟨ug, uy, utr, usc, uwr⟩ := v
  obtain ⟨k, g, e, t, b, y, tr, sc, wr⟩ := r
  unfold RecV.val
  dsimp only at *
  subst e1 e2 e3 e4 e5
  obtain ⟨o, HO⟩ : ∃ o, Hid (RecL.ok ⟨k, g, e, t, b, y, tr, sc, wr⟩ = o) := ⟨_, Lib.hid rfl⟩
  rw [HO.out] at HRI
  go_enter Tryd.func10, Tryd.ntmps10
  go_wp2_with fail
  generalize hw1 : World.alloc w _ = w1
  have HC1 : Hid (At9 w1 w.heap.size 24 (.int .i64 k) (.slice a1 n1 c1) (.int .i64 e) (.int .i64 t) (.int .i64 b) (.slice a2 n2 c2) (.slice a3 n3 c3) (.slice a4 n4 c4) (.slice a5 n5 c5)) := Lib.hid (by rw [← hw1]; exact heap_alloc_new _ _)
  have N1 : New w w1 := by rw [← hw1]; exact (Below.refl _ _).alloc (Nat.le_refl _) _
  clear hw1
  obtain ⟨gb, hgb⟩ : ∃ gb, w.heap.size = gb := ⟨_, rfl⟩
  rw [hgb] at HC1
  rw [hgb]
  clear hgb
  refine (HRI.out w1).mono ?_
  rintro _ w2 ⟨rfl, N2⟩
  have NN2 := New.trans N1 N2
  have HC2 := Lib.hid (HC1.out.new N2)
  have HR2 := Lib.hid (HR.out.new NN2)
  clear HRI HC1 HR N1 N2
  cases o
  · go_wp2
    go_ret2
    exact ⟨none, 0, 0, by rw [HO.out]; rfl, by unfold RecL.wrote; rw [HO.out]; exact Rd.nil _, NN2⟩
  have hb := HO.out
  unfold RecL.ok at hb
  rw [rOk_iff] at hb
  obtain ⟨hk, hg, he, ht, hbk, hy, htr, hsc, hwr⟩ := hb
  dsimp only at hk hg he ht hbk hy htr hsc hwr
  have hh := rHash_le k
  obtain ⟨k, rfl⟩ := Int.eq_ofNat_of_zero_le (show 0 ≤ k by omega)
  obtain ⟨e, rfl⟩ := Int.eq_ofNat_of_zero_le he.1
  obtain ⟨t, rfl⟩ := Int.eq_ofNat_of_zero_le ht.1
  obtain ⟨b, rfl⟩ := Int.eq_ofNat_of_zero_le hbk.1
  have HB : Hid (g.length ≤ 16 ∧ y.length ≤ 60000 ∧ tr.length ≤ 32 ∧ sc.length ≤ 32 ∧ wr.length ≤ 48) := Lib.hid ⟨by omega, by omega, by omega, by omega, by omega⟩
  have hk' : (k : Int) ≤ 3 := hk.2
  have he' : (e : Int) ≤ 1048576 := he.2
  have ht' : (t : Int) ≤ 1099511627776 := ht.2
  have hb' : (b : Int) ≤ 1099511627776 := hbk.2
  clear hk hg he ht hbk hy htr hsc hwr hh
  go_wp2_with fail
  refine (penNew w2).mono ?_
  rintro _ w3 ⟨rfl, P3, N3, -⟩
  have HP := Lib.hid (Pend.start P3 N3)
  clear P3 N3
  obtain ⟨p, hp⟩ : ∃ p, w2.heap.size = p := ⟨_, rfl⟩
  rw [hp] at HP
  rw [hp]
  clear hp
  obtain ⟨x0, x1, x2, x3, x4, x5, x6, x7, x8⟩ := (HC2.out.new HP.out.1).cells
  go_wp2_with fail
  refine (pendU8 HP.out k (by omega) (by omega) (by intro l h; cases h; simp)).mono ?_
  rw [wU_in 1 k _ (by omega)]
  rintro _ _ ⟨rfl, hp⟩
  replace HP := Lib.hid hp
  clear hp x0 x1 x2 x3 x4 x5 x6 x7 x8
  obtain ⟨x0, x1, x2, x3, x4, x5, x6, x7, x8⟩ := (HC2.out.new HP.out.1).cells
  go_wp2_with fail
  refine (pendShort HP.out _ g HR2.out.g (by have := HB.out; intro l h; cases h; simp only [List.length_append, be_length, List.length_nil]; omega)).mono ?_
  rw [wText_in 1 g _ (by have := HB.out; omega)]
  rintro _ _ ⟨rfl, hp⟩
  replace HP := Lib.hid hp
  clear hp x0 x1 x2 x3 x4 x5 x6 x7 x8
  obtain ⟨x0, x1, x2, x3, x4, x5, x6, x7, x8⟩ := (HC2.out.new HP.out.1).cells
  go_wp2_with fail
  refine (pendU64 HP.out (e : Int) (by omega) (by omega) (by have := HB.out; intro l h; cases h; simp only [List.length_append, be_length, List.length_nil]; omega)).mono ?_
  rw [Option.map_some, Int.toNat_natCast]
  rintro _ _ ⟨rfl, hp⟩
  replace HP := Lib.hid hp
  clear hp x0 x1 x2 x3 x4 x5 x6 x7 x8
  obtain ⟨x0, x1, x2, x3, x4, x5, x6, x7, x8⟩ := (HC2.out.new HP.out.1).cells
  go_wp2_with fail
  refine (pendU64 HP.out (t : Int) (by omega) (by omega) (by have := HB.out; intro l h; cases h; simp only [List.length_append, be_length, List.length_nil]; omega)).mono ?_
  rw [Option.map_some, Int.toNat_natCast]
  rintro _ _ ⟨rfl, hp⟩
  replace HP := Lib.hid hp
  clear hp x0 x1 x2 x3 x4 x5 x6 x7 x8
  obtain ⟨x0, x1, x2, x3, x4, x5, x6, x7, x8⟩ := (HC2.out.new HP.out.1).cells
  go_wp2_with fail
  refine (pendU64 HP.out (b : Int) (by omega) (by omega) (by have := HB.out; intro l h; cases h; simp only [List.length_append, be_length, List.length_nil]; omega)).mono ?_
  rw [Option.map_some, Int.toNat_natCast]
  rintro _ _ ⟨rfl, hp⟩
  replace HP := Lib.hid hp
  clear hp x0 x1 x2 x3 x4 x5 x6 x7 x8
  obtain ⟨x0, x1, x2, x3, x4, x5, x6, x7, x8⟩ := (HC2.out.new HP.out.1).cells
  go_wp2_with fail
  refine (pendLong HP.out _ y HR2.out.y (by have := HB.out; intro l h; cases h; simp only [List.length_append, be_length, List.length_nil]; omega)).mono ?_
  rw [wText_in 2 y _ (by have := HB.out; omega)]
  rintro _ _ ⟨rfl, hp⟩
  replace HP := Lib.hid hp
  clear hp x0 x1 x2 x3 x4 x5 x6 x7 x8
  obtain ⟨x0, x1, x2, x3, x4, x5, x6, x7, x8⟩ := (HC2.out.new HP.out.1).cells
  go_wp2_with fail
  refine (pendShort HP.out _ tr HR2.out.tr (by have := HB.out; intro l h; cases h; simp only [List.length_append, be_length, List.length_nil]; omega)).mono ?_
  rw [wText_in 1 tr _ (by have := HB.out; omega)]
  rintro _ _ ⟨rfl, hp⟩
  replace HP := Lib.hid hp
  clear hp x0 x1 x2 x3 x4 x5 x6 x7 x8
  obtain ⟨x0, x1, x2, x3, x4, x5, x6, x7, x8⟩ := (HC2.out.new HP.out.1).cells
  go_wp2_with fail
  refine (pendShort HP.out _ sc HR2.out.sc (by have := HB.out; intro l h; cases h; simp only [List.length_append, be_length, List.length_nil]; omega)).mono ?_
  rw [wText_in 1 sc _ (by have := HB.out; omega)]
  rintro _ _ ⟨rfl, hp⟩
  replace HP := Lib.hid hp
  clear hp x0 x1 x2 x3 x4 x5 x6 x7 x8
  obtain ⟨x0, x1, x2, x3, x4, x5, x6, x7, x8⟩ := (HC2.out.new HP.out.1).cells
  go_wp2_with fail
  refine (pendShort HP.out _ wr HR2.out.wr (by have := HB.out; intro l h; cases h; simp only [List.length_append, be_length, List.length_nil]; omega)).mono ?_
  rw [wText_in 1 wr _ (by have := HB.out; omega)]
  rintro _ _ ⟨rfl, hp⟩
  replace HP := Lib.hid hp
  clear hp x0 x1 x2 x3 x4 x5 x6 x7 x8
  go_wp2_with fail
  refine (pendBytes HP.out (by have := HB.out; intro l h; cases h; simp only [List.length_append, be_length, List.length_nil]; omega)).mono ?_
  rintro _ w4 ⟨⟨a, n, c, rfl, hf⟩, hp⟩
  have HX := Lib.hid hf.1
  have NN4 := New.trans NN2 hp.1
  clear hf hp HP HC2 HR2
  go_wp2
  go_ret2
  refine ⟨a, n, c, by rw [HO.out]; rfl, ?_, NN4⟩
  have hx := HX.out
  unfold RecL.wrote
  rw [if_pos HO.out]
  simpa only [RecL.enc, Option.getD_some, List.nil_append, List.append_assoc, Int.toNat_natCast] using hx

end Go.Proofs.YtjekbolfaakmbaaDoor
