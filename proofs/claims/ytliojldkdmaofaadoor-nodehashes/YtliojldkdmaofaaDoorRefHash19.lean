/-
  Layer 19: the reference's LeafHash, BranchHash, ParentHash, of a node that is valid.
-/
import Derived.Test.YtliojldkdmaofaaDoorRefNode3
import Derived.Test.YtliojldkdmaofaaDoorRefSum
namespace Go.Proofs.YtliojldkdmaofaaDoor
set_option linter.unusedVariables false
set_option linter.unusedSimpArgs false
set_option maxRecDepth 100000
open Go.RowKit

/-- what a region reads: a node's cells -/
def CL19 (g : Nat) (k : Int) (a : Value) (y : Nat) (b c : Value) (w : World) : Prop :=
  w.cell? ⟨g, 0, none⟩ = some (.int .i64 k) ∧ w.cell? ⟨g, 1, none⟩ = some a ∧ w.cell? ⟨g, 2, none⟩ = some (.int .u64 (y : Int)) ∧ w.cell? ⟨g, 3, none⟩ = some b ∧ w.cell? ⟨g, 4, none⟩ = some c

theorem NBlk.cl {w : World} {g : Nat} {v : NodeV} {N : NodeL} (h : NBlk w g v N) : CL19 g N.kind v.nm N.key v.pa v.un w := h.at_.cells

theorem nEnc_le19 {N : NodeL} (h : nOk N) : (nEnc N).length ≤ 100 := nEnc_length h

set_option maxHeartbeats 2000000 in
theorem refLeafHash (w : World) (n : Nat) (hn : n ≤ 31) (u : NodeV) (N : NodeL) (hu : NodeR w u N) (hok : nOk N) :
    Calls Tryd.prog 10 #[.int .i64 (n : Int), u.val N] w (WroteTo19 w (sha256 (([1] ++ be 4 n) ++ nEnc N))) := by
  have HU := Lib.hid hu
  obtain ⟨a1, n1, c1, a2, n2, c2, a3, n3, c3, rfl⟩ : ∃ a1 n1 c1 a2 n2 c2 a3 n3 c3, u = ⟨.slice a1 n1 c1, .slice a2 n2 c2, .slice a3 n3 c3⟩ := by
    obtain ⟨a1, n1, c1, e1, -⟩ := hu.nm
    obtain ⟨a2, n2, c2, e2, -⟩ := hu.pa
    obtain ⟨a3, n3, c3, e3, -⟩ := hu.un
    obtain ⟨x, y, z⟩ := u
    exact ⟨a1, n1, c1, a2, n2, c2, a3, n3, c3, by rw [show x = _ from e1, show y = _ from e2, show z = _ from e3]⟩
  have hky := hu.key
  clear hu
  obtain ⟨rk, rn, ry, rp, ru⟩ := N
  unfold NodeV.val
  dsimp only at *
  have HOK := Lib.hid hok
  have hl := nEnc_le19 hok
  have uw : IntKind.u64.wrap (n : Int) = n := by rw [IntKind.wrap_u64]; omega
  have Q1 := Lib.hid fun wx => refNumber wx n 4 (by omega) (by omega)
  have Q2 := Lib.hid fun wx h => refWrite19 wx ⟨.slice a1 n1 c1, .slice a2 n2 c2, .slice a3 n3 c3⟩ ⟨rk, rn, ry, rp, ru⟩ h HOK.out
  have hl4 : ([1] ++ be 4 n : List UInt8).length = 5 := by rw [List.length_append, be_length]; rfl
  have Q3 := Lib.hid fun wx => refSum wx (([1] ++ be 4 n) ++ nEnc ⟨rk, rn, ry, rp, ru⟩) (by rw [List.length_append]; omega)
  have j1' : ({ data := #[1] } : ByteArray) ++ bstr (be 4 n) = bstr ([1] ++ be 4 n) := (step19 [1] (be 4 n) (by rw [be_length]; simp)).1
  have z0 : ({ data := #[1] } : ByteArray).size = 1 := rfl
  have z1 : (bstr (be 4 n)).size = 4 := by rw [bstr_size, be_length]
  obtain ⟨j2, s2⟩ := step19 ([1] ++ be 4 n) (nEnc ⟨rk, rn, ry, rp, ru⟩) (by omega)
  clear hok hl hl4 hky HOK
  generalize be 4 n = L1 at *
  generalize nEnc ⟨rk, rn, ry, rp, ru⟩ = L2 at *
  generalize ([1] ++ L1 : List UInt8) = K1 at *
  generalize K1 ++ L2 = M at *
  go_enter Tryd.func10, Tryd.ntmps10
  go_upto_region 1 with fail
  have N1 : New w (w.alloc (.cells #[.int .i64 rk, .slice a1 n1 c1, .int .u64 (ry : Int), .slice a2 n2 c2, .slice a3 n3 c3] 26)) := (Below.refl _ _).alloc (Nat.le_refl _) _
  have A1 := At5.made w 26 (.int .i64 rk) (.slice a1 n1 c1) (.int .u64 (ry : Int)) (.slice a2 n2 c2) (.slice a3 n3 c3)
  generalize w.alloc (.cells #[.int .i64 rk, .slice a1 n1 c1, .int .u64 (ry : Int), .slice a2 n2 c2, .slice a3 n3 c3] 26) = w1 at *
  have HN1 := Lib.hid N1
  have HI1 : Hid (NBlk w1 w.heap.size ⟨.slice a1 n1 c1, .slice a2 n2 c2, .slice a3 n3 c3⟩ ⟨rk, rn, ry, rp, ru⟩) := Lib.hid ⟨A1, HU.out.new N1⟩
  clear A1 N1
  obtain ⟨gb, hgb⟩ : ∃ gb, w.heap.size = gb := ⟨_, rfl⟩
  rw [hgb] at HI1
  rw [hgb]
  clear hgb
  have HI : Hid (NBlk w1.drew gb ⟨.slice a1 n1 c1, .slice a2 n2 c2, .slice a3 n3 c3⟩ ⟨rk, rn, ry, rp, ru⟩) := Lib.hid (HI1.out.new (Below.refl _ _).drew)
  have NN : Hid (New w w1.drew) := Lib.hid HN1.out.drew
  refine region_ord (CL19 gb rk (.slice a1 n1 c1) ry (.slice a2 n2 c2) (.slice a3 n3 c3)) [(0, true), (1, true), (4, true), (2, false), (3, true), (5, false), (6, true), (7, false), (8, true)] (by kernel_rfl) (by kernel_rfl) HI.out.cl (fun _ => ?_)
  generalize w1.drew = w2 at *
  unfold CL19
  iterate 3 (apply ord_take; (simp only [List.getElem?_toArray, List.getElem?_cons_succ, List.getElem?_cons_zero]; rfl); rfl; (intro w hSw; (try dsimp only at hSw); go_simp; try with_reducible rfl); intro _; try simp only [Act.put, List.setIfInBounds_toArray, List.set_cons_zero, List.set_cons_succ])
  (apply ord_only; (simp only [List.getElem?_toArray, List.getElem?_cons_succ, List.getElem?_cons_zero]; rfl); rfl; intro K hK)
  go_simp
  refine (Q1.out w2).mono ?_
  rintro _ wn ⟨rfl, Nn⟩
  replace NN := Lib.hid (New.trans NN.out Nn)
  replace HI := Lib.hid (HI.out.new Nn)
  clear Nn
  refine hK.out _ _ (HI.out.cl) (fun _ => ?_)
  clear hK K
  try simp only [Act.put, List.setIfInBounds_toArray, List.set_cons_zero, List.set_cons_succ]
  (apply ord_take; (simp only [List.getElem?_toArray, List.getElem?_cons_succ, List.getElem?_cons_zero]; rfl); rfl; (intro w hSw; (try dsimp only at hSw); go_simp; try with_reducible rfl); intro _; try simp only [Act.put, List.setIfInBounds_toArray, List.set_cons_zero, List.set_cons_succ])
  (apply ord_only; (simp only [List.getElem?_toArray, List.getElem?_cons_succ, List.getElem?_cons_zero]; rfl); rfl; intro K hK)
  go_simp
  refine (Q2.out _ HI.out.rd).mono ?_
  rintro _ wn ⟨rfl, Nn⟩
  replace NN := Lib.hid (New.trans NN.out Nn)
  replace HI := Lib.hid (HI.out.new Nn)
  clear Nn
  refine hK.out _ _ (HI.out.cl) (fun _ => ?_)
  clear hK K
  try simp only [Act.put, List.setIfInBounds_toArray, List.set_cons_zero, List.set_cons_succ]
  (apply ord_take; (simp only [List.getElem?_toArray, List.getElem?_cons_succ, List.getElem?_cons_zero]; rfl); rfl; (intro w hSw; (try dsimp only at hSw); go_simp; try with_reducible rfl); intro _; try simp only [Act.put, List.setIfInBounds_toArray, List.set_cons_zero, List.set_cons_succ])
  (apply ord_only; (simp only [List.getElem?_toArray, List.getElem?_cons_succ, List.getElem?_cons_zero]; rfl); rfl; intro K hK)
  go_simp
  refine (Q3.out _).mono ?_
  rintro _ wn ⟨rfl, Nn⟩
  replace NN := Lib.hid (New.trans NN.out Nn)
  replace HI := Lib.hid (HI.out.new Nn)
  clear Nn
  refine hK.out _ _ (HI.out.cl) (fun _ => ?_)
  clear hK K
  try simp only [Act.put, List.setIfInBounds_toArray, List.set_cons_zero, List.set_cons_succ]
  (apply ord_take; (simp only [List.getElem?_toArray, List.getElem?_cons_succ, List.getElem?_cons_zero]; rfl); rfl; (intro w hSw; (try dsimp only at hSw); go_simp; try with_reducible rfl); intro _; try simp only [Act.put, List.setIfInBounds_toArray, List.set_cons_zero, List.set_cons_succ])
  apply ord_done
  clear j1' z0 z1 j2 s2 Q1 Q2 Q3 HI
  go_wp2
  go_ret
  exact ⟨rfl, NN.out⟩

set_option maxHeartbeats 2000000 in
theorem refBranchHash (w : World) (u : NodeV) (N : NodeL) (l r : List UInt8) (hu : NodeR w u N) (hok : nOk N) (hl : l.length ≤ 1000) (hr : r.length ≤ 1000) :
    Calls Tryd.prog 11 #[u.val N, .string (bstr l), .string (bstr r)] w (WroteTo19 w (sha256 ((([2] ++ nEnc N) ++ l) ++ r))) := by
  have HU := Lib.hid hu
  obtain ⟨a1, n1, c1, a2, n2, c2, a3, n3, c3, rfl⟩ : ∃ a1 n1 c1 a2 n2 c2 a3 n3 c3, u = ⟨.slice a1 n1 c1, .slice a2 n2 c2, .slice a3 n3 c3⟩ := by
    obtain ⟨a1, n1, c1, e1, -⟩ := hu.nm
    obtain ⟨a2, n2, c2, e2, -⟩ := hu.pa
    obtain ⟨a3, n3, c3, e3, -⟩ := hu.un
    obtain ⟨x, y, z⟩ := u
    exact ⟨a1, n1, c1, a2, n2, c2, a3, n3, c3, by rw [show x = _ from e1, show y = _ from e2, show z = _ from e3]⟩
  have hky := hu.key
  clear hu
  obtain ⟨rk, rn, ry, rp, ru⟩ := N
  unfold NodeV.val
  dsimp only at *
  have HOK := Lib.hid hok
  have hle := nEnc_le19 hok
  have Q2 := Lib.hid fun wx h => refWrite19 wx ⟨.slice a1 n1 c1, .slice a2 n2 c2, .slice a3 n3 c3⟩ ⟨rk, rn, ry, rp, ru⟩ h HOK.out
  have hl1 : ([2] ++ nEnc ⟨rk, rn, ry, rp, ru⟩ : List UInt8).length ≤ 101 := by rw [List.length_append]; simp only [List.length_cons, List.length_nil]; omega
  have Q3 := Lib.hid fun wx => refSum wx ((([2] ++ nEnc ⟨rk, rn, ry, rp, ru⟩) ++ l) ++ r) (by rw [List.length_append, List.length_append]; omega)
  have j1' : ({ data := #[2] } : ByteArray) ++ bstr (nEnc ⟨rk, rn, ry, rp, ru⟩) = bstr ([2] ++ nEnc ⟨rk, rn, ry, rp, ru⟩) := (step19 [2] (nEnc ⟨rk, rn, ry, rp, ru⟩) (by simp only [List.length_cons, List.length_nil]; omega)).1
  have z0 : ({ data := #[2] } : ByteArray).size = 1 := rfl
  have z1 : (bstr (nEnc ⟨rk, rn, ry, rp, ru⟩)).size ≤ 100 := by rw [bstr_size]; exact hle
  obtain ⟨j2, s2⟩ := step19 ([2] ++ nEnc ⟨rk, rn, ry, rp, ru⟩) l (by omega)
  obtain ⟨j3, s3⟩ := step19 (([2] ++ nEnc ⟨rk, rn, ry, rp, ru⟩) ++ l) r (by rw [List.length_append]; omega)
  clear hok hl hl1 hr hle hky HOK
  generalize nEnc ⟨rk, rn, ry, rp, ru⟩ = L2 at *
  generalize ([2] ++ L2 : List UInt8) = K1 at *
  generalize K1 ++ l = K2 at *
  generalize K2 ++ r = M at *
  go_enter Tryd.func11, Tryd.ntmps11
  go_upto_region 1 with fail
  have N1 : New w (w.alloc (.cells #[.int .i64 rk, .slice a1 n1 c1, .int .u64 (ry : Int), .slice a2 n2 c2, .slice a3 n3 c3] 26)) := (Below.refl _ _).alloc (Nat.le_refl _) _
  have A1 := At5.made w 26 (.int .i64 rk) (.slice a1 n1 c1) (.int .u64 (ry : Int)) (.slice a2 n2 c2) (.slice a3 n3 c3)
  generalize w.alloc (.cells #[.int .i64 rk, .slice a1 n1 c1, .int .u64 (ry : Int), .slice a2 n2 c2, .slice a3 n3 c3] 26) = w1 at *
  have HN1 := Lib.hid N1
  have HI1 : Hid (NBlk w1 w.heap.size ⟨.slice a1 n1 c1, .slice a2 n2 c2, .slice a3 n3 c3⟩ ⟨rk, rn, ry, rp, ru⟩) := Lib.hid ⟨A1, HU.out.new N1⟩
  clear A1 N1
  obtain ⟨gb, hgb⟩ : ∃ gb, w.heap.size = gb := ⟨_, rfl⟩
  rw [hgb] at HI1
  rw [hgb]
  clear hgb
  go_wp2_with (first | refine wpList_load_row rfl 26 _ rfl gb rfl _ _ _ _ HI1.out.at_ Tryd.underlying26 rfl infoNode19 ?_ | fail)
  refine (Q2.out _ HI1.out.rd).mono ?_
  rintro _ w2 ⟨rfl, n2⟩
  have HN2 := Lib.hid (New.trans HN1.out n2)
  clear n2 HN1 HI1 Q2
  go_wp2_with fail
  refine (Q3.out _).mono ?_
  rintro _ w3 ⟨rfl, n3'⟩
  have HN3 := Lib.hid (New.trans HN2.out n3')
  clear n3' HN2 Q3 j1' z0 z1 j2 s2 j3 s3
  go_wp2
  go_ret
  exact ⟨rfl, HN3.out⟩

set_option maxHeartbeats 2000000 in
theorem refParentHash (w : World) (u : NodeV) (N : NodeL) (l : List UInt8) (hu : NodeR w u N) (hp : N.parent.length ≤ 1000) (hl : l.length ≤ 1000) :
    Calls Tryd.prog 12 #[u.val N, .string (bstr l)] w (WroteTo19 w (sha256 ((([3] ++ be 8 N.key) ++ (be 1 N.parent.length ++ N.parent)) ++ l))) := by
  have HU := Lib.hid hu
  obtain ⟨a1, n1, c1, a2, n2, c2, a3, n3, c3, rfl⟩ : ∃ a1 n1 c1 a2 n2 c2 a3 n3 c3, u = ⟨.slice a1 n1 c1, .slice a2 n2 c2, .slice a3 n3 c3⟩ := by
    obtain ⟨a1, n1, c1, e1, -⟩ := hu.nm
    obtain ⟨a2, n2, c2, e2, -⟩ := hu.pa
    obtain ⟨a3, n3, c3, e3, -⟩ := hu.un
    obtain ⟨x, y, z⟩ := u
    exact ⟨a1, n1, c1, a2, n2, c2, a3, n3, c3, by rw [show x = _ from e1, show y = _ from e2, show z = _ from e3]⟩
  have hky := hu.key
  clear hu
  obtain ⟨rk, rn, ry, rp, ru⟩ := N
  unfold NodeV.val
  dsimp only at *
  have Q1 := Lib.hid fun wx => refNumber wx ry 8 hky (by omega)
  have Q2 := Lib.hid fun wx => refText wx rp 1 (by omega) (by omega)
  have hl1 : ([3] ++ be 8 ry : List UInt8).length = 9 := by rw [List.length_append, be_length]; rfl
  have hl2 : (be 1 rp.length ++ rp).length ≤ 1001 := by rw [List.length_append, be_length]; omega
  have Q3 := Lib.hid fun wx => refSum wx ((([3] ++ be 8 ry) ++ (be 1 rp.length ++ rp)) ++ l) (by rw [List.length_append, List.length_append]; omega)
  have j1' : ({ data := #[3] } : ByteArray) ++ bstr (be 8 ry) = bstr ([3] ++ be 8 ry) := (step19 [3] (be 8 ry) (by rw [be_length]; simp)).1
  have z0 : ({ data := #[3] } : ByteArray).size = 1 := rfl
  have z1 : (bstr (be 8 ry)).size = 8 := by rw [bstr_size, be_length]
  obtain ⟨j2, s2⟩ := step19 ([3] ++ be 8 ry) (be 1 rp.length ++ rp) (by omega)
  obtain ⟨j3, s3⟩ := step19 (([3] ++ be 8 ry) ++ (be 1 rp.length ++ rp)) l (by rw [List.length_append]; omega)
  clear hp hl hl1 hl2 hky
  generalize be 8 ry = L1 at *
  generalize be 1 rp.length ++ rp = L2 at *
  generalize ([3] ++ L1 : List UInt8) = K1 at *
  generalize K1 ++ L2 = K2 at *
  generalize K2 ++ l = M at *
  go_enter Tryd.func12, Tryd.ntmps12
  go_upto_region 1 with fail
  have N1 : New w (w.alloc (.cells #[.int .i64 rk, .slice a1 n1 c1, .int .u64 (ry : Int), .slice a2 n2 c2, .slice a3 n3 c3] 26)) := (Below.refl _ _).alloc (Nat.le_refl _) _
  have A1 := At5.made w 26 (.int .i64 rk) (.slice a1 n1 c1) (.int .u64 (ry : Int)) (.slice a2 n2 c2) (.slice a3 n3 c3)
  generalize w.alloc (.cells #[.int .i64 rk, .slice a1 n1 c1, .int .u64 (ry : Int), .slice a2 n2 c2, .slice a3 n3 c3] 26) = w1 at *
  have HN1 := Lib.hid N1
  have HI1 : Hid (NBlk w1 w.heap.size ⟨.slice a1 n1 c1, .slice a2 n2 c2, .slice a3 n3 c3⟩ ⟨rk, rn, ry, rp, ru⟩) := Lib.hid ⟨A1, HU.out.new N1⟩
  clear A1 N1
  obtain ⟨gb, hgb⟩ : ∃ gb, w.heap.size = gb := ⟨_, rfl⟩
  rw [hgb] at HI1
  rw [hgb]
  clear hgb
  have HI : Hid (NBlk w1.drew gb ⟨.slice a1 n1 c1, .slice a2 n2 c2, .slice a3 n3 c3⟩ ⟨rk, rn, ry, rp, ru⟩) := Lib.hid (HI1.out.new (Below.refl _ _).drew)
  have NN : Hid (New w w1.drew) := Lib.hid HN1.out.drew
  refine region_ord (SK19 gb ry (.slice a2 n2 c2) rp) [(0, true), (1, true), (4, true), (5, true), (6, true), (9, true), (2, false), (3, true), (7, false), (8, true), (10, true), (11, false), (12, true)] (by kernel_rfl) (by kernel_rfl) HI.out.sk (fun _ => ?_)
  generalize w1.drew = w2 at *
  unfold SK19
  iterate 6 (apply ord_take; (simp only [List.getElem?_toArray, List.getElem?_cons_succ, List.getElem?_cons_zero]; rfl); rfl; (intro w hSw; (try dsimp only at hSw); go_simp; try with_reducible rfl); intro _; try simp only [Act.put, List.setIfInBounds_toArray, List.set_cons_zero, List.set_cons_succ])
  (apply ord_only; (simp only [List.getElem?_toArray, List.getElem?_cons_succ, List.getElem?_cons_zero]; rfl); rfl; intro K hK)
  go_simp
  refine (Q1.out w2).mono ?_
  rintro _ wn ⟨rfl, Nn⟩
  replace NN := Lib.hid (New.trans NN.out Nn)
  replace HI := Lib.hid (HI.out.new Nn)
  clear Nn
  refine hK.out _ _ (HI.out.sk) (fun _ => ?_)
  clear hK K
  try simp only [Act.put, List.setIfInBounds_toArray, List.set_cons_zero, List.set_cons_succ]
  (apply ord_take; (simp only [List.getElem?_toArray, List.getElem?_cons_succ, List.getElem?_cons_zero]; rfl); rfl; (intro w hSw; (try dsimp only at hSw); go_simp; try with_reducible rfl); intro _; try simp only [Act.put, List.setIfInBounds_toArray, List.set_cons_zero, List.set_cons_succ])
  (apply ord_only; (simp only [List.getElem?_toArray, List.getElem?_cons_succ, List.getElem?_cons_zero]; rfl); rfl; intro K hK)
  go_simp
  refine (Q2.out _).mono ?_
  rintro _ wn ⟨rfl, Nn⟩
  replace NN := Lib.hid (New.trans NN.out Nn)
  replace HI := Lib.hid (HI.out.new Nn)
  clear Nn
  refine hK.out _ _ (HI.out.sk) (fun _ => ?_)
  clear hK K
  try simp only [Act.put, List.setIfInBounds_toArray, List.set_cons_zero, List.set_cons_succ]
  iterate 2 (apply ord_take; (simp only [List.getElem?_toArray, List.getElem?_cons_succ, List.getElem?_cons_zero]; rfl); rfl; (intro w hSw; (try dsimp only at hSw); go_simp; try with_reducible rfl); intro _; try simp only [Act.put, List.setIfInBounds_toArray, List.set_cons_zero, List.set_cons_succ])
  (apply ord_only; (simp only [List.getElem?_toArray, List.getElem?_cons_succ, List.getElem?_cons_zero]; rfl); rfl; intro K hK)
  go_simp
  refine (Q3.out _).mono ?_
  rintro _ wn ⟨rfl, Nn⟩
  replace NN := Lib.hid (New.trans NN.out Nn)
  replace HI := Lib.hid (HI.out.new Nn)
  clear Nn
  refine hK.out _ _ (HI.out.sk) (fun _ => ?_)
  clear hK K
  try simp only [Act.put, List.setIfInBounds_toArray, List.set_cons_zero, List.set_cons_succ]
  (apply ord_take; (simp only [List.getElem?_toArray, List.getElem?_cons_succ, List.getElem?_cons_zero]; rfl); rfl; (intro w hSw; (try dsimp only at hSw); go_simp; try with_reducible rfl); intro _; try simp only [Act.put, List.setIfInBounds_toArray, List.set_cons_zero, List.set_cons_succ])
  apply ord_done
  clear j1' z0 z1 j2 s2 j3 s3 Q1 Q2 Q3 HI
  go_wp2
  go_ret
  exact ⟨rfl, NN.out⟩

end Go.Proofs.YtliojldkdmaofaaDoor
