/-
  NodeWrites: the walk.
-/
import Derived.Test.YtliojldkdmaofaaLaw19
import Derived.Test.YtliojldkdmaofaaNodRead3
import Derived.Test.YtliojldkdmaofaaNodeBack
namespace Go.Proofs.Ytliojldkdmaofaa
set_option linter.unusedVariables false
set_option linter.unusedSimpArgs false
set_option maxRecDepth 100000
open Go.RowKit

def C5 (g : Nat) (k : Int) (a : Value) (y : Nat) (b c : Value) (w : World) : Prop :=
  w.cell? ⟨g, 0, none⟩ = some (.int .i64 k) ∧ w.cell? ⟨g, 1, none⟩ = some a ∧ w.cell? ⟨g, 2, none⟩ = some (.int .u64 (y : Int)) ∧ w.cell? ⟨g, 3, none⟩ = some b ∧ w.cell? ⟨g, 4, none⟩ = some c

theorem NBlk.c5 {w : World} {g : Nat} {v : NodeV} {N : NodeL} (h : NBlk w g v N) : C5 g N.kind v.nm N.key v.pa v.un w := h.at_.cells

theorem NodeR.only19 {F : Nat → Prop} {w w' : World} {v : NodeV} {N : NodeL} (h : NodeR w v N) (ho : Only F w w') (h1 : N.name ≠ [] → ∀ k, blk v.nm = some k → ¬ F k) (h2 : N.parent ≠ [] → ∀ k, blk v.pa = some k → ¬ F k) (h3 : N.unm ≠ [] → ∀ k, blk v.un = some k → ¬ F k) : NodeR w' v N :=
  ⟨h.nm.only ho (fun k hk hne => h1 hne k hk), h.pa.only ho (fun k hk hne => h2 hne k hk), h.un.only ho (fun k hk hne => h3 (by simpa using hne) k hk), h.key⟩

theorem NodeR.forms19 {w : World} {v : NodeV} {N : NodeL} (h : NodeR w v N) : ∃ a1 n1 c1 a2 n2 c2 a3 n3 c3, v = ⟨.slice a1 n1 c1, .slice a2 n2 c2, .slice a3 n3 c3⟩ := by
  obtain ⟨a1, n1, c1, e1, -⟩ := h.nm
  obtain ⟨a2, n2, c2, e2, -⟩ := h.pa
  obtain ⟨a3, n3, c3, e3, -⟩ := h.un
  obtain ⟨x, y, z⟩ := v
  exact ⟨a1, n1, c1, a2, n2, c2, a3, n3, c3, by rw [show x = _ from e1, show y = _ from e2, show z = _ from e3]⟩

/-- an encoding is read as what it is of -/
theorem read_back19 {N : NodeL} (h : nOk N) (hk : N.key < 18446744073709551616) : rNode (nEnc N, 0) = (N, ([], 0)) ∧ rErr19 (nEnc N, 0) = 0 ∧ rGot (nEnc N, 0) = N := by
  have h1 := rNode_back h hk []
  rw [List.append_nil] at h1
  have h2 := rGot_ok (s := (nEnc N, 0)) (by rw [h1]) (by rw [h1]; exact h)
  exact ⟨h1, h2.1, by rw [h2.2, h1]⟩

/-- what the last region reads -/
def SW19 (g g2 : Nat) (k : Int) (a1 a2 a3 b1 b2 b3 : Value) (y : Nat) (x : Value) (l : List UInt8) (w : World) : Prop :=
  (w.cell? ⟨g, 0, none⟩ = some (.int .i64 k) ∧ w.cell? ⟨g, 1, none⟩ = some a1 ∧ w.cell? ⟨g, 2, none⟩ = some (.int .u64 (y : Int)) ∧ w.cell? ⟨g, 3, none⟩ = some a2 ∧ w.cell? ⟨g, 4, none⟩ = some a3) ∧
  (w.cell? ⟨g2, 0, none⟩ = some (.int .i64 k) ∧ w.cell? ⟨g2, 1, none⟩ = some b1 ∧ w.cell? ⟨g2, 2, none⟩ = some (.int .u64 (y : Int)) ∧ w.cell? ⟨g2, 3, none⟩ = some b2 ∧ w.cell? ⟨g2, 4, none⟩ = some b3) ∧
  (convert 22 9 x).run Try.prog w = .ok (.string (bstr l)) w

/-- both nodes, the octets and the reader -/
structure W19 (wz w : World) (g g2 p : Nat) (u v : NodeV) (N : NodeL) (x : Value) (l : List UInt8) (d : Option Nat) (r : List UInt8) (err : Int) : Prop where
  new : New wz w
  a : NBlk w g u N
  b : NBlk w g2 v N
  x : Rd w x l
  eye : Eye w p d r err

theorem W19.next {wz w w' : World} {g g2 p : Nat} {u v : NodeV} {N : NodeL} {x : Value} {l : List UInt8} {d : Option Nat} {r : List UInt8} {err : Int} (h : W19 wz w g g2 p u v N x l d r err) (hn : New w w') : W19 wz w' g g2 p u v N x l d r err :=
  ⟨New.trans h.new hn, h.a.new hn, h.b.new hn, h.x.new hn, h.eye.new hn⟩

theorem W19.s {wz w : World} {g g2 p : Nat} {u v : NodeV} {N : NodeL} {x : Value} {l : List UInt8} {d : Option Nat} {r : List UInt8} {err : Int} (h : W19 wz w g g2 p u v N x l d r err) : SW19 g g2 N.kind u.nm u.pa u.un v.nm v.pa v.un N.key x l w :=
  ⟨h.a.at_.cells, h.b.at_.cells, run_str (P := Try.prog) Try.underlying22 Try.underlying5 Try.underlying9 h.x⟩

set_option maxHeartbeats 4000000 in
theorem writesLaw19 (w : World) (u : NodeV) (N : NodeL) (hu : NodeR w u N) : Calls Try.prog 3 #[u.val N] w fun e w' => e = .returned (.bool true) ∧ New w w' := by
  have HU := Lib.hid hu
  obtain ⟨a1, n1, c1, a2, n2, c2, a3, n3, c3, rfl⟩ := hu.forms19
  clear hu
  obtain ⟨rk, rn, ry, rp, ru⟩ := N
  unfold NodeV.val
  dsimp only
  go_enter Try.func3, Try.ntmps3
  go_upto_region 1 with fail
  generalize hw1 : World.alloc w _ = w1
  have N1 : New w w1 := by rw [← hw1]; exact (Below.refl _ _).alloc (Nat.le_refl _) _
  have HA1 : Hid (At5 w1 w.heap.size 26 (.int .i64 rk) (.slice a1 n1 c1) (.int .u64 (ry : Int)) (.slice a2 n2 c2) (.slice a3 n3 c3)) := Lib.hid (by rw [← hw1]; exact heap_alloc_new _ _)
  clear hw1
  have HN1 := Lib.hid N1
  clear N1
  go_wp2_with fail
  refine (awake19 w1).mono ?_
  rintro _ w2 ⟨rfl, n2'⟩
  have HA2 := Lib.hid (HA1.out.new n2')
  have HN2 := Lib.hid (New.trans HN1.out n2')
  have HS := Lib.hid (small19 w2 _ _ (HU.out.new HN2.out))
  unfold NodeV.val at HS
  dsimp only at HS
  clear n2' HA1 HN1
  go_wp2_with (first | refine wpList_load_rowG (by rfl) 26 _ rfl w.heap.size rfl _ _ _ _ HA2.out Try.underlying26 rfl infoNode19 ?_ | fail)
  refine HS.out.mono ?_
  rintro _ w3 ⟨rfl, n3'⟩
  have HA3 := Lib.hid (HA2.out.new n3')
  have HN3 := Lib.hid (New.trans HN2.out n3')
  clear n3' HA2 HN2 HS
  generalize nSmall ⟨rk, rn, ry, rp, ru⟩ = z
  cases z
  · go_wp2_with fail
    refine (awake19 w3).mono ?_
    rintro _ w4 ⟨rfl, n4⟩
    have HN4 := Lib.hid (New.trans HN3.out n4)
    clear n4
    go_wp2
    go_ret
    exact ⟨rfl, HN4.out⟩
  have HW := Lib.hid (written19 w3 _ _ (HU.out.new HN3.out))
  unfold NodeV.val at HW
  dsimp only at HW
  go_wp2_with (first | refine wpList_load_row rfl 26 _ rfl w.heap.size rfl _ _ _ _ HA3.out Try.underlying26 rfl infoNode19 ?_ | fail)
  refine HW.out.mono ?_
  rintro _ w4 ⟨ax, nx, cx, rfl, rx, n4⟩
  have HI : Hid (NBlk w4 w.heap.size ⟨.slice a1 n1 c1, .slice a2 n2 c2, .slice a3 n3 c3⟩ ⟨rk, rn, ry, rp, ru⟩) := Lib.hid ⟨HA3.out.new n4, HU.out.new (New.trans HN3.out n4)⟩
  have NN := Lib.hid (New.trans HN3.out n4)
  have HR := Lib.hid rx
  have HB4 : Hid (w.heap.size < w4.heap.size) := Lib.hid HI.out.at_.lt
  clear n4 rx HA3 HN3 HW
  obtain ⟨g, hg⟩ : ∃ g, w.heap.size = g := ⟨_, rfl⟩
  have HG := Lib.hid hg
  rw [hg] at HI
  rw [hg]
  clear hg
  have HQ := Lib.hid fun wx h => nodRight wx ⟨.slice a1 n1 c1, .slice a2 n2 c2, .slice a3 n3 c3⟩ ⟨rk, rn, ry, rp, ru⟩ h
  have HQR := Lib.hid fun wx h => refRight19 wx ⟨.slice a1 n1 c1, .slice a2 n2 c2, .slice a3 n3 c3⟩ ⟨rk, rn, ry, rp, ru⟩ h
  obtain ⟨B, hB⟩ : ∃ B, decide (nOk ⟨rk, rn, ry, rp, ru⟩) = B := ⟨_, rfl⟩
  have HB := Lib.hid hB
  rw [hB] at HQ HQR
  rw [hB]
  clear hB
  have kb : (B != B) = false := by simp
  go_upto_region 4 with fail
  have HRw := HR
  have HI4 := HI
  replace HI := Lib.hid (HI.out.new (Below.refl _ _).drew)
  have NN4 : Hid (New w4 w4.drew) := Lib.hid (Below.refl _ _).drew
  have NNw := NN
  replace NN := NN4
  refine region_ordT (C5 g rk (.slice a1 n1 c1) ry (.slice a2 n2 c2) (.slice a3 n3 c3)) (.take 0 (.take 2 (.only 1 (.only 3 (.take 4 (.take 5 (.take 6 (.take 7 (.only 8 (.take 9 (.take 10 .nil))))))))))) (by kernel_rfl) (by kernel_rfl) HI.out.c5 (fun _ => ?_)
  clear NN4
  generalize w4.drew = wr at *
  unfold C5
  iterate 2 (apply ordT_take; (simp only [List.getElem?_toArray, List.getElem?_cons_succ, List.getElem?_cons_zero]; rfl); rfl; (intro w hSw; (try dsimp only at hSw); go_simp; try with_reducible rfl); intro _; try simp only [Act.put, List.setIfInBounds_toArray, List.set_cons_zero, List.set_cons_succ])
  (apply ordT_only; (simp only [List.getElem?_toArray, List.getElem?_cons_succ, List.getElem?_cons_zero]; rfl); rfl; intro K hK)
  go_simp
  refine (HQ.out wr HI.out.rd).mono ?_
  rintro _ wn ⟨rfl, Nn⟩
  replace NN := Lib.hid (New.trans NN.out Nn)
  replace HI := Lib.hid (HI.out.new Nn)
  clear Nn
  refine hK.out _ _ (HI.out.c5) (fun _ => ?_)
  clear hK K
  try simp only [Act.put, List.setIfInBounds_toArray, List.set_cons_zero, List.set_cons_succ]
  (apply ordT_only; (simp only [List.getElem?_toArray, List.getElem?_cons_succ, List.getElem?_cons_zero]; rfl); rfl; intro K hK)
  go_simp
  refine (HQR.out _ HI.out.rd).mono ?_
  rintro _ wn ⟨rfl, Nn⟩
  replace NN := Lib.hid (New.trans NN.out Nn)
  replace HI := Lib.hid (HI.out.new Nn)
  clear Nn
  refine hK.out _ _ (HI.out.c5) (fun _ => ?_)
  clear hK K
  try simp only [Act.put, List.setIfInBounds_toArray, List.set_cons_zero, List.set_cons_succ]
  iterate 4 (apply ordT_take; (simp only [List.getElem?_toArray, List.getElem?_cons_succ, List.getElem?_cons_zero]; rfl); rfl; (intro w hSw; (try dsimp only at hSw); go_simp; try with_reducible rfl); intro _; try simp only [Act.put, List.setIfInBounds_toArray, List.set_cons_zero, List.set_cons_succ])
  (apply ordT_only; (simp only [List.getElem?_toArray, List.getElem?_cons_succ, List.getElem?_cons_zero]; rfl); rfl; intro K hK)
  go_simp
  refine (HQ.out _ HI.out.rd).mono ?_
  rintro _ wn ⟨rfl, Nn⟩
  replace NN := Lib.hid (New.trans NN.out Nn)
  replace HI := Lib.hid (HI.out.new Nn)
  clear Nn
  refine hK.out _ _ (HI.out.c5) (fun _ => ?_)
  clear hK K
  try simp only [Act.put, List.setIfInBounds_toArray, List.set_cons_zero, List.set_cons_succ]
  iterate 2 (apply ordT_take; (simp only [List.getElem?_toArray, List.getElem?_cons_succ, List.getElem?_cons_zero]; rfl); rfl; (intro w hSw; (try dsimp only at hSw); go_simp; try with_reducible rfl); intro _; try simp only [Act.put, List.setIfInBounds_toArray, List.set_cons_zero, List.set_cons_succ])
  apply ordT_done
  have HR := Lib.hid (HRw.out.new NN.out)
  have HN5 := Lib.hid (New.trans NNw.out NN.out)
  have HX4 := Lib.hid NN.out
  clear NN NNw HRw HI4 HQ HQR
  cases B
  · have hn : nx = 0 := by
      have h1 := HR.out.len
      unfold nOctets at h1
      rw [if_neg (of_decide_eq_false HB.out)] at h1
      exact h1.symm
    subst hn
    clear HR HI HX4
    go_wp2
    go_ret
    exact ⟨rfl, HN5.out⟩
  have HOK : Hid (nOk ⟨rk, rn, ry, rp, ru⟩) := Lib.hid (of_decide_eq_true HB.out)
  have HRE : Hid (Rd wn (.slice ax nx cx) (nEnc ⟨rk, rn, ry, rp, ru⟩)) := Lib.hid (by have := HR.out; unfold nOctets at this; rwa [if_pos HOK.out] at this)
  have HLE : Hid ((nEnc ⟨rk, rn, ry, rp, ru⟩).length ≤ 100) := Lib.hid (nEnc_length HOK.out)
  clear HR HB
  go_wp2_with fail
  refine (eyeOpen wn _ _ HRE.out (by have := HLE.out; omega)).mono ?_
  rintro _ w6 ⟨p, d, rfl, hp, E6, hd, n6⟩
  have HP := Lib.hid hp
  have HE6 := Lib.hid E6
  have HN6 := Lib.hid n6
  clear hp E6 hd n6
  have HRD := Lib.hid (nodRead w6 p d (nEnc ⟨rk, rn, ry, rp, ru⟩, 0) HE6.out (Nat.le_trans HLE.out (by decide)))
  have HBK := Lib.hid (read_back19 HOK.out HU.out.key)
  unfold NReadTo19 at HRD
  rw [HBK.out.2.2, HBK.out.2.1, HBK.out.1] at HRD
  dsimp only at HRD
  clear HBK
  go_wp2_with fail
  refine HRD.out.mono ?_
  rintro _ w7 ⟨v, rfl, nd, E7⟩
  obtain ⟨b1, m1, f1, b2, m2, f2, b3, m3, f3, rfl⟩ := nd.rd.forms19
  have HND := Lib.hid nd
  have HE7 := Lib.hid E7
  clear nd E7 HRD
  unfold NodeV.val
  dsimp only
  go_upto_region 10 with (first | refine wpList_store_row rfl 26 _ _ rfl w7.heap.size #[.int .i64 rk, .slice b1 m1 f1, .int .u64 (ry : Int), .slice b2 m2 f2, .slice b3 m3 f3] rfl rfl _ _ (heap_alloc_new _ _) infoNode19 rfl rfl ?_ | fail)
  generalize hw8 : World.alloc w7 _ = w8
  have N8 : New w7 w8 := by rw [← hw8]; exact (Below.refl _ _).alloc (Nat.le_refl _) _
  have A8 : At5 w8 w7.heap.size 26 (.int .i64 rk) (.slice b1 m1 f1) (.int .u64 (ry : Int)) (.slice b2 m2 f2) (.slice b3 m3 f3) := by rw [← hw8]; exact heap_alloc_new _ _
  have hpw : wn.heap.size ≤ p := HP.out
  have hp6 : p < w6.heap.size := HE6.out.data19.1
  have h67 := HE7.out.2.size
  have hgn : g < wn.heap.size := HI.out.at_.lt
  have HX : Hid (W19 wn w8.drew g w7.heap.size p ⟨.slice a1 n1 c1, .slice a2 n2 c2, .slice a3 n3 c3⟩ ⟨.slice b1 m1 f1, .slice b2 m2 f2, .slice b3 m3 f3⟩ ⟨rk, rn, ry, rp, ru⟩ (.slice ax nx cx) (nEnc ⟨rk, rn, ry, rp, ru⟩) d [] 0) := Lib.hid (by
    have o1 : ∀ hne : rn ≠ [], blk (.slice a1 n1 c1) ≠ some p := fun hne e => by have := HI.out.rd.nm.lt e hne; omega
    have o2 : ∀ hne : rp ≠ [], blk (.slice a2 n2 c2) ≠ some p := fun hne e => by have := HI.out.rd.pa.lt e hne; omega
    have o3 : ∀ hne : ru ≠ [], blk (.slice a3 n3 c3) ≠ some p := fun hne e => by have := HI.out.rd.un.lt e (by simpa using hne); omega
    have ox : ∀ hne : nEnc ⟨rk, rn, ry, rp, ru⟩ ≠ [], blk (.slice ax nx cx) ≠ some p := fun hne e => by have := HRE.out.lt e hne; omega
    have k1 := HI.out.new HN6.out
    have k2 : NBlk w7 g ⟨.slice a1 n1 c1, .slice a2 n2 c2, .slice a3 n3 c3⟩ ⟨rk, rn, ry, rp, ru⟩ := ⟨k1.at_.only HE7.out.2 (fun e => by omega), k1.rd.only19 HE7.out.2 (fun hne k hk e => o1 hne (by rw [hk, e])) (fun hne k hk e => o2 hne (by rw [hk, e])) (fun hne k hk e => o3 hne (by rw [hk, e]))⟩
    have n7 : New wn w7 := Below.trans HN6.out (HE7.out.2.below HN6.out.size (fun k e => by omega))
    exact ⟨(New.trans n7 N8).drew, (k2.new N8).new (Below.refl _ _).drew, ⟨A8.new (Below.refl _ _).drew, (HND.out.rd.new N8).new (Below.refl _ _).drew⟩, (((HRE.out.new HN6.out).only HE7.out.2 (fun k hk hne e => ox hne (by rw [hk, e]))).new N8).drew, (HE7.out.1.new N8).new (Below.refl _ _).drew⟩)
  clear hw8 N8 A8 hpw hp6 h67 hgn HI HP HE6 HE7 HND HN6 HRE HX4 HB4
  have HL8 := HLE
  have HWR := Lib.hid fun wx h => refWrite19 wx ⟨.slice a1 n1 c1, .slice a2 n2 c2, .slice a3 n3 c3⟩ ⟨rk, rn, ry, rp, ru⟩ h HOK.out
  have HSM := Lib.hid fun wx h h' => refSame19 wx ⟨.slice b1 m1 f1, .slice b2 m2 f2, .slice b3 m3 f3⟩ ⟨.slice a1 n1 c1, .slice a2 n2 c2, .slice a3 n3 c3⟩ ⟨rk, rn, ry, rp, ru⟩ ⟨rk, rn, ry, rp, ru⟩ h h'
  rw [decide_eq_true rfl] at HSM
  generalize nEnc ⟨rk, rn, ry, rp, ru⟩ = L at *
  have kl : ((bstr L).toList == (bstr L).toList) = true := by simp
  generalize w7.heap.size = g2 at *
  refine region_ordT (SW19 g g2 rk (.slice a1 n1 c1) (.slice a2 n2 c2) (.slice a3 n3 c3) (.slice b1 m1 f1) (.slice b2 m2 f2) (.slice b3 m3 f3) ry (.slice ax nx cx) L) (.take 0 (.take 1 (.take 2 (.only 3 (.take 4 (.take 5 (.take 6 (.only 7 (.take 8 (.take 9 (.take 10 (.take 11 (.take 12 (.only 13 (.take 14 (.take 15 .nil)))))))))))))))) (by kernel_rfl) (by kernel_rfl) HX.out.s (fun _ => ?_)
  generalize w8.drew = wq at *
  unfold SW19
  iterate 3 (apply ordT_take; (simp only [List.getElem?_toArray, List.getElem?_cons_succ, List.getElem?_cons_zero]; rfl); rfl; (intro w hSw; (try dsimp only at hSw); go_simp; try with_reducible rfl); intro _; try simp only [Act.put, List.setIfInBounds_toArray, List.set_cons_zero, List.set_cons_succ])
  (apply ordT_only; (simp only [List.getElem?_toArray, List.getElem?_cons_succ, List.getElem?_cons_zero]; rfl); rfl; intro K hK)
  go_simp
  refine (HWR.out wq HX.out.a.rd).mono ?_
  rintro _ wn ⟨rfl, Nn⟩
  replace HX := Lib.hid (HX.out.next Nn)
  clear Nn
  refine hK.out _ _ (HX.out.s) (fun _ => ?_)
  clear hK K
  try simp only [Act.put, List.setIfInBounds_toArray, List.set_cons_zero, List.set_cons_succ]
  iterate 3 (apply ordT_take; (simp only [List.getElem?_toArray, List.getElem?_cons_succ, List.getElem?_cons_zero]; rfl); rfl; (intro w hSw; (try dsimp only at hSw); go_simp; try with_reducible rfl); intro _; try simp only [Act.put, List.setIfInBounds_toArray, List.set_cons_zero, List.set_cons_succ])
  (apply ordT_only; (simp only [List.getElem?_toArray, List.getElem?_cons_succ, List.getElem?_cons_zero]; rfl); rfl; intro K hK)
  go_simp
  refine (eyeEnd _ p d [] 0 HX.out.eye).mono ?_
  rintro _ _ ⟨rfl, rfl⟩
  rw [show eEnd [] 0 = 0 from rfl]
  refine hK.out _ _ (HX.out.s) (fun _ => ?_)
  clear hK K
  try simp only [Act.put, List.setIfInBounds_toArray, List.set_cons_zero, List.set_cons_succ]
  iterate 5 (apply ordT_take; (simp only [List.getElem?_toArray, List.getElem?_cons_succ, List.getElem?_cons_zero]; rfl); rfl; (intro w hSw; (try dsimp only at hSw); go_simp; try with_reducible rfl); intro _; try simp only [Act.put, List.setIfInBounds_toArray, List.set_cons_zero, List.set_cons_succ])
  (apply ordT_only; (simp only [List.getElem?_toArray, List.getElem?_cons_succ, List.getElem?_cons_zero]; rfl); rfl; intro K hK)
  go_simp
  refine (HSM.out _ HX.out.b.rd HX.out.a.rd).mono ?_
  rintro _ wn ⟨rfl, Nn⟩
  replace HX := Lib.hid (HX.out.next Nn)
  clear Nn
  refine hK.out _ _ (HX.out.s) (fun _ => ?_)
  clear hK K
  try simp only [Act.put, List.setIfInBounds_toArray, List.set_cons_zero, List.set_cons_succ]
  iterate 2 (apply ordT_take; (simp only [List.getElem?_toArray, List.getElem?_cons_succ, List.getElem?_cons_zero]; rfl); rfl; (intro w hSw; (try dsimp only at hSw); go_simp; try with_reducible rfl); intro _; try simp only [Act.put, List.setIfInBounds_toArray, List.set_cons_zero, List.set_cons_succ])
  apply ordT_done
  have HN9 := Lib.hid (New.trans HN5.out HX.out.new)
  clear HX
  go_wp2
  go_ret
  exact ⟨rfl, HN9.out⟩

end Go.Proofs.Ytliojldkdmaofaa
