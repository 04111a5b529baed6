/-
  NodeHashes: the walk.
-/
import Derived.Test.YtliojldkdmaofaaDoorLaw19
import Derived.Test.YtliojldkdmaofaaDoorNodHash3
import Derived.Test.YtliojldkdmaofaaDoorRefHash19
namespace Go.Proofs.YtliojldkdmaofaaDoor
set_option linter.unusedVariables false
set_option linter.unusedSimpArgs false
set_option maxRecDepth 100000
open Go.RowKit

/-- the node, the two octet strings -/
structure H19 (w wr : World) (ga gk : Nat) (u : NodeV) (N : NodeL) (x y : Value) (l r : List UInt8) : Prop where
  new : New w wr
  nd : NBlk wr ga u N
  kd : At2 wr gk 27 x y
  rx : Rd wr x l
  ry : Rd wr y r

theorem H19.next {w wr w' : World} {ga gk : Nat} {u : NodeV} {N : NodeL} {x y : Value} {l r : List UInt8} (h : H19 w wr ga gk u N x y l r) (hn : New wr w') : H19 w w' ga gk u N x y l r :=
  ⟨New.trans h.new hn, h.nd.new hn, h.kd.new hn, h.rx.new hn, h.ry.new hn⟩

/-- what region 3 reads -/
def SK3 (gk : Nat) (x y : Value) (l r : List UInt8) (w : World) : Prop :=
  w.cell? ⟨gk, 0, none⟩ = some x ∧ w.cell? ⟨gk, 1, none⟩ = some y ∧ (convert 22 9 x).run Tryd.prog w = .ok (.string (bstr l)) w ∧ (convert 22 9 y).run Tryd.prog w = .ok (.string (bstr r)) w

theorem H19.s3 {w wr : World} {ga gk : Nat} {u : NodeV} {N : NodeL} {x y : Value} {l r : List UInt8} (h : H19 w wr ga gk u N x y l r) : SK3 gk x y l r wr :=
  ⟨h.kd.cells.1, h.kd.cells.2, run_str (P := Tryd.prog) Tryd.underlying22 Tryd.underlying5 Tryd.underlying9 h.rx, run_str (P := Tryd.prog) Tryd.underlying22 Tryd.underlying5 Tryd.underlying9 h.ry⟩

/-- what region 4 reads -/
def SK4 (ga gk : Nat) (k : Int) (a : Value) (z : Nat) (b c x y : Value) (w : World) : Prop :=
  (w.cell? ⟨ga, 0, none⟩ = some (.int .i64 k) ∧ w.cell? ⟨ga, 1, none⟩ = some a ∧ w.cell? ⟨ga, 2, none⟩ = some (.int .u64 (z : Int)) ∧ w.cell? ⟨ga, 3, none⟩ = some b ∧ w.cell? ⟨ga, 4, none⟩ = some c) ∧
  (w.cell? ⟨gk, 0, none⟩ = some x ∧ w.cell? ⟨gk, 1, none⟩ = some y)

theorem H19.s4 {w wr : World} {ga gk : Nat} {u : NodeV} {N : NodeL} {x y : Value} {l r : List UInt8} (h : H19 w wr ga gk u N x y l r) : SK4 ga gk N.kind u.nm N.key u.pa u.un x y wr := ⟨h.nd.at_.cells, h.kd.cells⟩

/-- the node and the three digests -/
structure G19 (w wr : World) (ga : Nat) (u : NodeV) (N : NodeL) (a b c : Value) (A B C : List UInt8) : Prop where
  new : New w wr
  nd : NBlk wr ga u N
  ra : Rd wr a A
  rb : Rd wr b B
  rc : Rd wr c C

theorem G19.next {w wr w' : World} {ga : Nat} {u : NodeV} {N : NodeL} {a b c : Value} {A B C : List UInt8} (h : G19 w wr ga u N a b c A B C) (hn : New wr w') : G19 w w' ga u N a b c A B C :=
  ⟨New.trans h.new hn, h.nd.new hn, h.ra.new hn, h.rb.new hn, h.rc.new hn⟩

/-- what regions 10, 12, 16 read -/
def SK5 (ga : Nat) (k : Int) (a : Value) (z : Nat) (b c : Value) (x : Value) (l : List UInt8) (w : World) : Prop :=
  (w.cell? ⟨ga, 0, none⟩ = some (.int .i64 k) ∧ w.cell? ⟨ga, 1, none⟩ = some a ∧ w.cell? ⟨ga, 2, none⟩ = some (.int .u64 (z : Int)) ∧ w.cell? ⟨ga, 3, none⟩ = some b ∧ w.cell? ⟨ga, 4, none⟩ = some c) ∧
  (convert 22 9 x).run Tryd.prog w = .ok (.string (bstr l)) w

theorem G19.sa {w wr : World} {ga : Nat} {u : NodeV} {N : NodeL} {a b c : Value} {A B C : List UInt8} (h : G19 w wr ga u N a b c A B C) : SK5 ga N.kind u.nm N.key u.pa u.un a A wr := ⟨h.nd.at_.cells, run_str (P := Tryd.prog) Tryd.underlying22 Tryd.underlying5 Tryd.underlying9 h.ra⟩
theorem G19.sb {w wr : World} {ga : Nat} {u : NodeV} {N : NodeL} {a b c : Value} {A B C : List UInt8} (h : G19 w wr ga u N a b c A B C) : SK5 ga N.kind u.nm N.key u.pa u.un b B wr := ⟨h.nd.at_.cells, run_str (P := Tryd.prog) Tryd.underlying22 Tryd.underlying5 Tryd.underlying9 h.rb⟩
theorem G19.sc {w wr : World} {ga : Nat} {u : NodeV} {N : NodeL} {a b c : Value} {A B C : List UInt8} (h : G19 w wr ga u N a b c A B C) : SK5 ga N.kind u.nm N.key u.pa u.un c C wr := ⟨h.nd.at_.cells, run_str (P := Tryd.prog) Tryd.underlying22 Tryd.underlying5 Tryd.underlying9 h.rc⟩

/-- the three digests of a node, as lists -/
theorem dig_bad19 {N : NodeL} (h : ¬ nOk N) (number : Int) (l r : List UInt8) (s1 s2 s3 : Option (List UInt8)) : digO (leafS number N s1) = [] ∧ digO (branchS N l r s2) = [] ∧ digO (parentS N l s3) = [] := by
  refine ⟨?_, ?_, ?_⟩
  · unfold leafS nWrote; rw [if_neg h]; split <;> rfl
  · unfold branchS nWrote; rw [if_neg h]; rfl
  · unfold parentS; rw [if_neg (fun e => h e.2)]; rfl

theorem dig_leaf19 {N : NodeL} (h : nOk N) (n : Nat) (hn : n ≤ 31) : digO (leafS (n : Int) N (some (be 1 1))) = sha256 (([1] ++ be 4 n) ++ nEnc N) := by
  unfold leafS nWrote
  rw [if_pos ⟨by omega, by omega⟩, if_pos h]
  rfl

theorem dig_branch19 {N : NodeL} (h : nOk N) (l r : List UInt8) : digO (branchS N l r (some (be 1 2))) = sha256 ((([2] ++ nEnc N) ++ l) ++ r) := by
  unfold branchS nWrote
  rw [if_pos h]
  rfl

theorem dig_parent19 {N : NodeL} (h : nOk N) (hk : N.kind = 2) (l : List UInt8) : digO (parentS N l (some (be 1 3))) = sha256 ((([3] ++ be 8 N.key) ++ (be 1 N.parent.length ++ N.parent)) ++ l) := by
  unfold parentS
  rw [if_pos ⟨hk, h⟩]
  show sha256 (([3] ++ nTail N) ++ l) = _
  unfold nTail
  simp only [List.append_assoc]

theorem dig_out19 {N : NodeL} {number : Int} (h : ¬ (0 ≤ number ∧ number ≤ 31)) (s : Option (List UInt8)) : digO (leafS number N s) = [] := by
  unfold leafS; rw [if_neg h]; rfl

theorem dig_kind19 {N : NodeL} (h : N.kind ≠ 2) (l : List UInt8) (s : Option (List UInt8)) : digO (parentS N l s) = [] := by
  unfold parentS; rw [if_neg (fun e => h e.1)]; rfl

set_option maxHeartbeats 4000000 in
theorem hashesLaw19 (w : World) (u : NodeV) (N : NodeL) (hu : NodeR w u N) (number : Int) (hn : -9223372036854775808 ≤ number ∧ number ≤ 9223372036854775807) (x y : Value) (l r : List UInt8) (hx : Rd w x l) (hy : Rd w y r) (hL : Laid w) :
    Calls Tryd.prog 3 #[u.val N, .int .i64 number, .agg #[x, y]] w fun e w' => e = .returned (.bool true) ∧ New w w' := by
  have HU := Lib.hid hu
  have HL := Lib.hid hL
  have HX := Lib.hid hx
  have HY := Lib.hid hy
  have HNM := Lib.hid hn
  obtain ⟨a1, n1, c1, a2, n2, c2, a3, n3, c3, rfl⟩ := hu.forms
  obtain ⟨ax, nx, cx, rfl⟩ : ∃ a n c, x = .slice a n c := by obtain ⟨a, n, c, e, -⟩ := hx; exact ⟨a, n, c, e⟩
  obtain ⟨ay, ny, cy, rfl⟩ : ∃ a n c, y = .slice a n c := by obtain ⟨a, n, c, e, -⟩ := hy; exact ⟨a, n, c, e⟩
  have hlx := hx.len
  have hly := hy.len
  clear hu hL hx hy hn
  obtain ⟨rk, rn, ry, rp, ru⟩ := N
  unfold NodeV.val
  dsimp only
  go_enter Tryd.func3, Tryd.ntmps3
  go_upto_region 1 with fail
  generalize hw1 : World.alloc w _ = w1
  have hz1 : w1.heap.size = w.heap.size + 1 := by rw [← hw1]; simp
  have N1 : New w w1 := by rw [← hw1]; exact (Below.refl _ _).alloc (Nat.le_refl _) _
  have A1 : At5 w1 w.heap.size 26 (.int .i64 rk) (.slice a1 n1 c1) (.int .u64 (ry : Int)) (.slice a2 n2 c2) (.slice a3 n3 c3) := by rw [← hw1]; exact heap_alloc_new _ _
  clear hw1
  generalize hw2 : World.alloc w1 _ = w2
  have N2 : New w1 w2 := by rw [← hw2]; exact (Below.refl _ _).alloc (Nat.le_refl _) _
  have K2 : At2 w2 (w.heap.size + 1) 27 (.slice ax nx cx) (.slice ay ny cy) := by rw [← hw2, ← hz1]; exact heap_alloc_new _ _
  clear hw2
  have N02 := New.trans N1 N2
  have HH2 : Hid (H19 w w2 w.heap.size (w.heap.size + 1) ⟨.slice a1 n1 c1, .slice a2 n2 c2, .slice a3 n3 c3⟩ ⟨rk, rn, ry, rp, ru⟩ (.slice ax nx cx) (.slice ay ny cy) l r) := Lib.hid ⟨N02, ⟨A1.new N2, HU.out.new N02⟩, K2, HX.out.new N02, HY.out.new N02⟩
  clear N1 N2 A1 K2 N02 hz1
  obtain ⟨ga, hga⟩ : ∃ g, w.heap.size = g := ⟨_, rfl⟩
  rw [hga] at HH2
  rw [hga]
  clear hga
  obtain ⟨gk, hgk⟩ : ∃ g, ga + 1 = g := ⟨_, rfl⟩
  rw [hgk] at HH2
  rw [hgk]
  clear hgk
  go_wp2_with fail
  refine (awake19 w2).mono ?_
  rintro _ w3 ⟨rfl, n3'⟩
  have HH3 := Lib.hid (HH2.out.next n3')
  have HS := Lib.hid (small19 w3 _ _ HH3.out.nd.rd)
  unfold NodeV.val at HS
  dsimp only at HS
  clear n3' HH2
  go_wp2_with (first | refine wpList_load_rowG (by rfl) 26 _ rfl ga rfl _ _ _ _ HH3.out.nd.at_ Tryd.underlying26 rfl infoNode19 ?_ | fail)
  refine HS.out.mono ?_
  rintro _ w4 ⟨rfl, n4'⟩
  have HH := Lib.hid (HH3.out.next n4')
  clear n4' HH3 HS
  obtain ⟨z, hz⟩ : ∃ z, nSmall ⟨rk, rn, ry, rp, ru⟩ = z := ⟨_, rfl⟩
  have HZ := Lib.hid hz
  rw [hz]
  clear hz
  cases z
  ·
    go_wp2_with fail
    refine (awake19 w4).mono ?_
    rintro _ w5 ⟨rfl, n5⟩
    have HN5 := Lib.hid (New.trans HH.out.new n5)
    clear n5
    go_wp2
    go_ret
    exact ⟨rfl, HN5.out⟩
  obtain ⟨x0, x1⟩ := HH.out.kd.cells
  by_cases h1 : 100 < nx
  · have d1 : decide ((100 : Int) < (nx : Int)) = true := by simp; omega
    go_wp2_with fail
    refine (awake19 w4).mono ?_
    rintro _ w5 ⟨rfl, n5⟩
    have HN5 := Lib.hid (New.trans HH.out.new n5)
    clear n5
    go_wp2
    go_ret
    exact ⟨rfl, HN5.out⟩
  have d1 : decide ((100 : Int) < (nx : Int)) = false := by simp; omega
  by_cases h2 : 100 < ny
  · have d2 : decide ((100 : Int) < (ny : Int)) = true := by simp; omega
    go_wp2_with fail
    refine (awake19 w4).mono ?_
    rintro _ w5 ⟨rfl, n5⟩
    have HN5 := Lib.hid (New.trans HH.out.new n5)
    clear n5
    go_wp2
    go_ret
    exact ⟨rfl, HN5.out⟩
  have d2 : decide ((100 : Int) < (ny : Int)) = false := by simp; omega
  have HLX : Hid (l.length ≤ 1000) := Lib.hid (by omega)
  have HLY : Hid (r.length ≤ 1000) := Lib.hid (by omega)
  have HPL : Hid (rp.length ≤ 1000) := Lib.hid (by
    have := HZ.out
    unfold nSmall at this
    simp at this
    omega)
  clear hlx hly h1 h2
  go_upto_region 3 with fail
  clear d1 d2 x0 x1
  have HH3 := Lib.hid (HH.out.next (Below.refl _ _).drew)
  clear HH
  refine region_ord (SK3 gk (.slice ax nx cx) (.slice ay ny cy) l r) [(0, true), (1, true), (2, true), (3, true), (4, true), (5, true), (6, true), (7, true)] (by kernel_rfl) (by kernel_rfl) HH3.out.s3 (fun _ => ?_)
  generalize w4.drew = wq at *
  unfold SK3
  iterate 8 (apply ord_take; (simp only [List.getElem?_toArray, List.getElem?_cons_succ, List.getElem?_cons_zero]; rfl); rfl; (intro w hSw; (try dsimp only at hSw); go_simp; try with_reducible rfl); intro _; try simp only [Act.put, List.setIfInBounds_toArray, List.set_cons_zero, List.set_cons_succ])
  apply ord_done
  go_upto_region 4 with fail
  have HH4 := Lib.hid (HH3.out.next (Below.refl _ _).drew)
  clear HH3
  have QA := Lib.hid fun wx h hl => nodLeafHash wx number HNM.out ⟨.slice a1 n1 c1, .slice a2 n2 c2, .slice a3 n3 c3⟩ ⟨rk, rn, ry, rp, ru⟩ h hl
  have QB := Lib.hid fun wx h hx hy hl => nodBranchHash wx ⟨.slice a1 n1 c1, .slice a2 n2 c2, .slice a3 n3 c3⟩ ⟨rk, rn, ry, rp, ru⟩ (.slice ax nx cx) (.slice ay ny cy) l r h hx hy HLX.out HLY.out hl
  have QC := Lib.hid fun wx h hx hl => nodParentHash wx ⟨.slice a1 n1 c1, .slice a2 n2 c2, .slice a3 n3 c3⟩ ⟨rk, rn, ry, rp, ru⟩ (.slice ax nx cx) l h hx HLX.out hl
  refine region_ord (SK4 ga gk rk (.slice a1 n1 c1) ry (.slice a2 n2 c2) (.slice a3 n3 c3) (.slice ax nx cx) (.slice ay ny cy)) [(0, true), (1, true), (3, true), (4, true), (5, true), (6, true), (7, true), (9, true), (10, true), (11, true), (2, false), (8, false), (12, false), (13, true), (14, true), (15, true)] (by kernel_rfl) (by kernel_rfl) HH4.out.s4 (fun _ => ?_)
  generalize wq.drew = wd at *
  unfold SK4
  iterate 10 (apply ord_take; (simp only [List.getElem?_toArray, List.getElem?_cons_succ, List.getElem?_cons_zero]; rfl); rfl; (intro w hSw; (try dsimp only at hSw); go_simp; try with_reducible rfl); intro _; try simp only [Act.put, List.setIfInBounds_toArray, List.set_cons_zero, List.set_cons_succ])
  (apply ord_only; (simp only [List.getElem?_toArray, List.getElem?_cons_succ, List.getElem?_cons_zero]; rfl); rfl; intro K hK)
  go_simp
  refine (QA.out wd HH4.out.nd.rd (HL.out.new HH4.out.new)).mono ?_
  rintro _ we ⟨va, na, ca, rfl, ra, Nn⟩
  have HH5 := Lib.hid (HH4.out.next Nn)
  have RA5 := Lib.hid ra
  clear Nn ra HH4 QA
  refine hK.out _ _ (HH5.out.s4) (fun _ => ?_)
  clear hK K
  try simp only [Act.put, List.setIfInBounds_toArray, List.set_cons_zero, List.set_cons_succ]
  (apply ord_only; (simp only [List.getElem?_toArray, List.getElem?_cons_succ, List.getElem?_cons_zero]; rfl); rfl; intro K hK)
  go_simp
  refine (QB.out we HH5.out.nd.rd HH5.out.rx HH5.out.ry (HL.out.new HH5.out.new)).mono ?_
  rintro _ wf ⟨vb, nb, cb, rfl, rb, Nn⟩
  have HH6 := Lib.hid (HH5.out.next Nn)
  have RA6 := Lib.hid (RA5.out.new Nn)
  have RB6 := Lib.hid rb
  clear Nn rb HH5 RA5 QB
  refine hK.out _ _ (HH6.out.s4) (fun _ => ?_)
  clear hK K
  try simp only [Act.put, List.setIfInBounds_toArray, List.set_cons_zero, List.set_cons_succ]
  (apply ord_only; (simp only [List.getElem?_toArray, List.getElem?_cons_succ, List.getElem?_cons_zero]; rfl); rfl; intro K hK)
  go_simp
  refine (QC.out wf HH6.out.nd.rd HH6.out.rx (HL.out.new HH6.out.new)).mono ?_
  rintro _ wg ⟨vc, nc, cc, rfl, rc, Nn⟩
  have HH7 := Lib.hid (HH6.out.next Nn)
  have HG0 : Hid (G19 w wg ga ⟨.slice a1 n1 c1, .slice a2 n2 c2, .slice a3 n3 c3⟩ ⟨rk, rn, ry, rp, ru⟩ (.slice va na ca) (.slice vb nb cb) (.slice vc nc cc) (digO (leafS number ⟨rk, rn, ry, rp, ru⟩ (some (be 1 1)))) (digO (branchS ⟨rk, rn, ry, rp, ru⟩ l r (some (be 1 2)))) (digO (parentS ⟨rk, rn, ry, rp, ru⟩ l (some (be 1 3))))) := Lib.hid ⟨HH7.out.new, HH7.out.nd, RA6.out.new Nn, RB6.out.new Nn, rc⟩
  clear Nn rc HH6 RA6 RB6 QC
  refine hK.out _ _ (HH7.out.s4) (fun _ => ?_)
  clear hK K
  try simp only [Act.put, List.setIfInBounds_toArray, List.set_cons_zero, List.set_cons_succ]
  iterate 3 (apply ord_take; (simp only [List.getElem?_toArray, List.getElem?_cons_succ, List.getElem?_cons_zero]; rfl); rfl; (intro w hSw; (try dsimp only at hSw); go_simp; try with_reducible rfl); intro _; try simp only [Act.put, List.setIfInBounds_toArray, List.set_cons_zero, List.set_cons_succ])
  apply ord_done
  clear HH7
  have QR := Lib.hid (refRight19 wg ⟨.slice a1 n1 c1, .slice a2 n2 c2, .slice a3 n3 c3⟩ ⟨rk, rn, ry, rp, ru⟩ HG0.out.nd.rd)
  unfold NodeV.val at QR
  dsimp only at QR
  go_wp2_with (first | refine wpList_load_row rfl 26 _ rfl ga rfl _ _ _ _ HG0.out.nd.at_ Tryd.underlying26 rfl infoNode19 ?_ | fail)
  refine QR.out.mono ?_
  rintro _ wh ⟨rfl, Nh⟩
  have HG := Lib.hid (HG0.out.next Nh)
  clear Nh HG0 QR
  by_cases hok : nOk ⟨rk, rn, ry, rp, ru⟩
  rotate_left
  · rw [decide_eq_false hok]
    have e := dig_bad19 hok number l r (some (be 1 1)) (some (be 1 2)) (some (be 1 3))
    have la := HG.out.ra.len
    have lb := HG.out.rb.len
    have lc := HG.out.rc.len
    rw [e.1] at la
    rw [e.2.1] at lb
    rw [e.2.2] at lc
    have ea : na = 0 := la.symm
    have eb : nb = 0 := lb.symm
    have ec : nc = 0 := lc.symm
    have HNW := Lib.hid HG.out.new
    subst ea eb ec
    clear e la lb lc HG hok
    go_wp2
    go_ret
    exact ⟨rfl, HNW.out⟩
  rw [decide_eq_true hok]
  have HOK := Lib.hid hok
  rw [dig_branch19 hok l r] at HG
  clear hok
  have QB := Lib.hid fun wx h => refBranchHash wx ⟨.slice a1 n1 c1, .slice a2 n2 c2, .slice a3 n3 c3⟩ ⟨rk, rn, ry, rp, ru⟩ l r h HOK.out HLX.out HLY.out
  generalize sha256 ((([2] ++ nEnc ⟨rk, rn, ry, rp, ru⟩) ++ l) ++ r) = B at *
  have kb : ((bstr B).toList != (bstr B).toList) = false := by simp
  by_cases hin : 0 ≤ number ∧ number ≤ 31
  · obtain ⟨m, rfl⟩ := Int.eq_ofNat_of_zero_le hin.1
    have dl0 : decide ((m : Int) < 0) = false := by simp
    have dl1 : decide ((31 : Int) < (m : Int)) = false := by simp; omega
    have hm : m ≤ 31 := by omega
    rw [dig_leaf19 HOK.out m hm] at HG
    have QA := Lib.hid fun wx h => refLeafHash wx m hm ⟨.slice a1 n1 c1, .slice a2 n2 c2, .slice a3 n3 c3⟩ ⟨rk, rn, ry, rp, ru⟩ h HOK.out
    clear hin hm
    generalize sha256 (([1] ++ be 4 m) ++ nEnc ⟨rk, rn, ry, rp, ru⟩) = A at *
    have ka : ((bstr A).toList != (bstr A).toList) = false := by simp
    go_upto_region 10 with fail
    clear dl0 dl1
    have HGd := Lib.hid (HG.out.next (Below.refl _ _).drew)
    clear HG
    refine region_ord (SK5 ga rk (.slice a1 n1 c1) ry (.slice a2 n2 c2) (.slice a3 n3 c3) (.slice va na ca) A) [(0, true), (1, true), (2, true), (3, true), (4, false), (5, true)] (by kernel_rfl) (by kernel_rfl) HGd.out.sa (fun _ => ?_)
    generalize wh.drew = wi at *
    unfold SK5
    iterate 4 (apply ord_take; (simp only [List.getElem?_toArray, List.getElem?_cons_succ, List.getElem?_cons_zero]; rfl); rfl; (intro w hSw; (try dsimp only at hSw); go_simp; try with_reducible rfl); intro _; try simp only [Act.put, List.setIfInBounds_toArray, List.set_cons_zero, List.set_cons_succ])
    (apply ord_only; (simp only [List.getElem?_toArray, List.getElem?_cons_succ, List.getElem?_cons_zero]; rfl); rfl; intro K hK)
    go_simp
    refine (QA.out wi HGd.out.nd.rd).mono ?_
    rintro _ wj ⟨rfl, Nn⟩
    have HG := Lib.hid (HGd.out.next Nn)
    clear Nn HGd QA
    refine hK.out _ _ (HG.out.sa) (fun _ => ?_)
    clear hK K
    try simp only [Act.put, List.setIfInBounds_toArray, List.set_cons_zero, List.set_cons_succ]
    (apply ord_take; (simp only [List.getElem?_toArray, List.getElem?_cons_succ, List.getElem?_cons_zero]; rfl); rfl; (intro w hSw; (try dsimp only at hSw); go_simp; try with_reducible rfl); intro _; try simp only [Act.put, List.setIfInBounds_toArray, List.set_cons_zero, List.set_cons_succ])
    apply ord_done
    clear ka
    rename World => wt
    go_upto_region 12 with fail
    have HGd := Lib.hid (HG.out.next (Below.refl _ _).drew)
    clear HG
    refine region_ord (SK5 ga rk (.slice a1 n1 c1) ry (.slice a2 n2 c2) (.slice a3 n3 c3) (.slice vb nb cb) B) [(0, true), (1, true), (2, true), (3, true), (4, true), (5, false), (6, true)] (by kernel_rfl) (by kernel_rfl) HGd.out.sb (fun _ => ?_)
    generalize wt.drew = wu at *
    unfold SK5
    iterate 5 (apply ord_take; (simp only [List.getElem?_toArray, List.getElem?_cons_succ, List.getElem?_cons_zero]; rfl); rfl; (intro w hSw; (try dsimp only at hSw); go_simp; try with_reducible rfl); intro _; try simp only [Act.put, List.setIfInBounds_toArray, List.set_cons_zero, List.set_cons_succ])
    (apply ord_only; (simp only [List.getElem?_toArray, List.getElem?_cons_succ, List.getElem?_cons_zero]; rfl); rfl; intro K hK)
    go_simp
    refine (QB.out wu HGd.out.nd.rd).mono ?_
    rintro _ wv ⟨rfl, Nn⟩
    have HG2 := Lib.hid (HGd.out.next Nn)
    clear Nn HGd QB
    refine hK.out _ _ (HG2.out.sb) (fun _ => ?_)
    clear hK K
    try simp only [Act.put, List.setIfInBounds_toArray, List.set_cons_zero, List.set_cons_succ]
    (apply ord_take; (simp only [List.getElem?_toArray, List.getElem?_cons_succ, List.getElem?_cons_zero]; rfl); rfl; (intro w hSw; (try dsimp only at hSw); go_simp; try with_reducible rfl); intro _; try simp only [Act.put, List.setIfInBounds_toArray, List.set_cons_zero, List.set_cons_succ])
    apply ord_done
    clear kb
    obtain ⟨z0, -⟩ := HG2.out.nd.at_.cells
    dsimp only at z0
    by_cases hk : rk = 2
    · have dk : (rk != 2) = false := by rw [hk]; rfl
      rw [dig_parent19 HOK.out hk l] at HG2
      have QC := Lib.hid fun wx h => refParentHash wx ⟨.slice a1 n1 c1, .slice a2 n2 c2, .slice a3 n3 c3⟩ ⟨rk, rn, ry, rp, ru⟩ l h HPL.out HLX.out
      dsimp only at HG2 QC
      clear hk
      generalize sha256 ((([3] ++ be 8 ry) ++ (be 1 rp.length ++ rp)) ++ l) = C at *
      have kc : ((bstr C).toList == (bstr C).toList) = true := by simp
      go_upto_region 16 with fail
      clear dk z0
      have HG3 := Lib.hid (HG2.out.next (Below.refl _ _).drew)
      clear HG2
      refine region_ord (SK5 ga rk (.slice a1 n1 c1) ry (.slice a2 n2 c2) (.slice a3 n3 c3) (.slice vc nc cc) C) [(0, true), (1, true), (2, true), (3, true), (4, false), (5, true), (6, true)] (by kernel_rfl) (by kernel_rfl) HG3.out.sc (fun _ => ?_)
      generalize wv.drew = wx at *
      unfold SK5
      iterate 4 (apply ord_take; (simp only [List.getElem?_toArray, List.getElem?_cons_succ, List.getElem?_cons_zero]; rfl); rfl; (intro w hSw; (try dsimp only at hSw); go_simp; try with_reducible rfl); intro _; try simp only [Act.put, List.setIfInBounds_toArray, List.set_cons_zero, List.set_cons_succ])
      (apply ord_only; (simp only [List.getElem?_toArray, List.getElem?_cons_succ, List.getElem?_cons_zero]; rfl); rfl; intro K hK)
      go_simp
      refine (QC.out wx HG3.out.nd.rd).mono ?_
      rintro _ wy ⟨rfl, Nn⟩
      have HG4 := Lib.hid (HG3.out.next Nn)
      clear Nn HG3 QC
      refine hK.out _ _ (HG4.out.sc) (fun _ => ?_)
      clear hK K
      try simp only [Act.put, List.setIfInBounds_toArray, List.set_cons_zero, List.set_cons_succ]
      iterate 2 (apply ord_take; (simp only [List.getElem?_toArray, List.getElem?_cons_succ, List.getElem?_cons_zero]; rfl); rfl; (intro w hSw; (try dsimp only at hSw); go_simp; try with_reducible rfl); intro _; try simp only [Act.put, List.setIfInBounds_toArray, List.set_cons_zero, List.set_cons_succ])
      apply ord_done
      have HNW := Lib.hid HG4.out.new
      clear kc HG4
      go_wp2
      go_ret
      exact ⟨rfl, HNW.out⟩
    · have dk : (rk != 2) = true := by simpa using hk
      have lc := HG2.out.rc.len
      rw [dig_kind19 (N := ⟨rk, rn, ry, rp, ru⟩) hk l] at lc
      have ec : nc = 0 := lc.symm
      have HNW := Lib.hid HG2.out.new
      subst ec
      clear lc HG2 hk
      go_wp2
      go_ret
      exact ⟨rfl, HNW.out⟩
  · rw [dig_out19 hin] at HG
    have la := HG.out.ra.len
    have ea : na = 0 := la.symm
    subst ea
    clear la
    by_cases hneg : number < 0
    · have dl0 : decide (number < 0) = true := by simpa using hneg
      rename World => wt
      go_upto_region 12 with fail
      have HGd := Lib.hid (HG.out.next (Below.refl _ _).drew)
      clear HG
      refine region_ord (SK5 ga rk (.slice a1 n1 c1) ry (.slice a2 n2 c2) (.slice a3 n3 c3) (.slice vb nb cb) B) [(0, true), (1, true), (2, true), (3, true), (4, true), (5, false), (6, true)] (by kernel_rfl) (by kernel_rfl) HGd.out.sb (fun _ => ?_)
      generalize wt.drew = wu at *
      unfold SK5
      iterate 5 (apply ord_take; (simp only [List.getElem?_toArray, List.getElem?_cons_succ, List.getElem?_cons_zero]; rfl); rfl; (intro w hSw; (try dsimp only at hSw); go_simp; try with_reducible rfl); intro _; try simp only [Act.put, List.setIfInBounds_toArray, List.set_cons_zero, List.set_cons_succ])
      (apply ord_only; (simp only [List.getElem?_toArray, List.getElem?_cons_succ, List.getElem?_cons_zero]; rfl); rfl; intro K hK)
      go_simp
      refine (QB.out wu HGd.out.nd.rd).mono ?_
      rintro _ wv ⟨rfl, Nn⟩
      have HG2 := Lib.hid (HGd.out.next Nn)
      clear Nn HGd QB
      refine hK.out _ _ (HG2.out.sb) (fun _ => ?_)
      clear hK K
      try simp only [Act.put, List.setIfInBounds_toArray, List.set_cons_zero, List.set_cons_succ]
      (apply ord_take; (simp only [List.getElem?_toArray, List.getElem?_cons_succ, List.getElem?_cons_zero]; rfl); rfl; (intro w hSw; (try dsimp only at hSw); go_simp; try with_reducible rfl); intro _; try simp only [Act.put, List.setIfInBounds_toArray, List.set_cons_zero, List.set_cons_succ])
      apply ord_done
      clear kb
      obtain ⟨z0, -⟩ := HG2.out.nd.at_.cells
      dsimp only at z0
      by_cases hk : rk = 2
      · have dk : (rk != 2) = false := by rw [hk]; rfl
        rw [dig_parent19 HOK.out hk l] at HG2
        have QC := Lib.hid fun wx h => refParentHash wx ⟨.slice a1 n1 c1, .slice a2 n2 c2, .slice a3 n3 c3⟩ ⟨rk, rn, ry, rp, ru⟩ l h HPL.out HLX.out
        dsimp only at HG2 QC
        clear hk
        generalize sha256 ((([3] ++ be 8 ry) ++ (be 1 rp.length ++ rp)) ++ l) = C at *
        have kc : ((bstr C).toList == (bstr C).toList) = true := by simp
        go_upto_region 16 with fail
        clear dk z0
        have HG3 := Lib.hid (HG2.out.next (Below.refl _ _).drew)
        clear HG2
        refine region_ord (SK5 ga rk (.slice a1 n1 c1) ry (.slice a2 n2 c2) (.slice a3 n3 c3) (.slice vc nc cc) C) [(0, true), (1, true), (2, true), (3, true), (4, false), (5, true), (6, true)] (by kernel_rfl) (by kernel_rfl) HG3.out.sc (fun _ => ?_)
        generalize wv.drew = wx at *
        unfold SK5
        iterate 4 (apply ord_take; (simp only [List.getElem?_toArray, List.getElem?_cons_succ, List.getElem?_cons_zero]; rfl); rfl; (intro w hSw; (try dsimp only at hSw); go_simp; try with_reducible rfl); intro _; try simp only [Act.put, List.setIfInBounds_toArray, List.set_cons_zero, List.set_cons_succ])
        (apply ord_only; (simp only [List.getElem?_toArray, List.getElem?_cons_succ, List.getElem?_cons_zero]; rfl); rfl; intro K hK)
        go_simp
        refine (QC.out wx HG3.out.nd.rd).mono ?_
        rintro _ wy ⟨rfl, Nn⟩
        have HG4 := Lib.hid (HG3.out.next Nn)
        clear Nn HG3 QC
        refine hK.out _ _ (HG4.out.sc) (fun _ => ?_)
        clear hK K
        try simp only [Act.put, List.setIfInBounds_toArray, List.set_cons_zero, List.set_cons_succ]
        iterate 2 (apply ord_take; (simp only [List.getElem?_toArray, List.getElem?_cons_succ, List.getElem?_cons_zero]; rfl); rfl; (intro w hSw; (try dsimp only at hSw); go_simp; try with_reducible rfl); intro _; try simp only [Act.put, List.setIfInBounds_toArray, List.set_cons_zero, List.set_cons_succ])
        apply ord_done
        have HNW := Lib.hid HG4.out.new
        clear kc HG4
        go_wp2
        go_ret
        exact ⟨rfl, HNW.out⟩
      · have dk : (rk != 2) = true := by simpa using hk
        have lc := HG2.out.rc.len
        rw [dig_kind19 (N := ⟨rk, rn, ry, rp, ru⟩) hk l] at lc
        have ec : nc = 0 := lc.symm
        have HNW := Lib.hid HG2.out.new
        subst ec
        clear lc HG2 hk
        go_wp2
        go_ret
        exact ⟨rfl, HNW.out⟩
    · have dl0 : decide (number < 0) = false := by simpa using hneg
      have dl1 : decide (31 < number) = true := by simp; omega
      rename World => wt
      go_upto_region 12 with fail
      have HGd := Lib.hid (HG.out.next (Below.refl _ _).drew)
      clear HG
      refine region_ord (SK5 ga rk (.slice a1 n1 c1) ry (.slice a2 n2 c2) (.slice a3 n3 c3) (.slice vb nb cb) B) [(0, true), (1, true), (2, true), (3, true), (4, true), (5, false), (6, true)] (by kernel_rfl) (by kernel_rfl) HGd.out.sb (fun _ => ?_)
      generalize wt.drew = wu at *
      unfold SK5
      iterate 5 (apply ord_take; (simp only [List.getElem?_toArray, List.getElem?_cons_succ, List.getElem?_cons_zero]; rfl); rfl; (intro w hSw; (try dsimp only at hSw); go_simp; try with_reducible rfl); intro _; try simp only [Act.put, List.setIfInBounds_toArray, List.set_cons_zero, List.set_cons_succ])
      (apply ord_only; (simp only [List.getElem?_toArray, List.getElem?_cons_succ, List.getElem?_cons_zero]; rfl); rfl; intro K hK)
      go_simp
      refine (QB.out wu HGd.out.nd.rd).mono ?_
      rintro _ wv ⟨rfl, Nn⟩
      have HG2 := Lib.hid (HGd.out.next Nn)
      clear Nn HGd QB
      refine hK.out _ _ (HG2.out.sb) (fun _ => ?_)
      clear hK K
      try simp only [Act.put, List.setIfInBounds_toArray, List.set_cons_zero, List.set_cons_succ]
      (apply ord_take; (simp only [List.getElem?_toArray, List.getElem?_cons_succ, List.getElem?_cons_zero]; rfl); rfl; (intro w hSw; (try dsimp only at hSw); go_simp; try with_reducible rfl); intro _; try simp only [Act.put, List.setIfInBounds_toArray, List.set_cons_zero, List.set_cons_succ])
      apply ord_done
      clear kb
      obtain ⟨z0, -⟩ := HG2.out.nd.at_.cells
      dsimp only at z0
      by_cases hk : rk = 2
      · have dk : (rk != 2) = false := by rw [hk]; rfl
        rw [dig_parent19 HOK.out hk l] at HG2
        have QC := Lib.hid fun wx h => refParentHash wx ⟨.slice a1 n1 c1, .slice a2 n2 c2, .slice a3 n3 c3⟩ ⟨rk, rn, ry, rp, ru⟩ l h HPL.out HLX.out
        dsimp only at HG2 QC
        clear hk
        generalize sha256 ((([3] ++ be 8 ry) ++ (be 1 rp.length ++ rp)) ++ l) = C at *
        have kc : ((bstr C).toList == (bstr C).toList) = true := by simp
        go_upto_region 16 with fail
        clear dk z0
        have HG3 := Lib.hid (HG2.out.next (Below.refl _ _).drew)
        clear HG2
        refine region_ord (SK5 ga rk (.slice a1 n1 c1) ry (.slice a2 n2 c2) (.slice a3 n3 c3) (.slice vc nc cc) C) [(0, true), (1, true), (2, true), (3, true), (4, false), (5, true), (6, true)] (by kernel_rfl) (by kernel_rfl) HG3.out.sc (fun _ => ?_)
        generalize wv.drew = wx at *
        unfold SK5
        iterate 4 (apply ord_take; (simp only [List.getElem?_toArray, List.getElem?_cons_succ, List.getElem?_cons_zero]; rfl); rfl; (intro w hSw; (try dsimp only at hSw); go_simp; try with_reducible rfl); intro _; try simp only [Act.put, List.setIfInBounds_toArray, List.set_cons_zero, List.set_cons_succ])
        (apply ord_only; (simp only [List.getElem?_toArray, List.getElem?_cons_succ, List.getElem?_cons_zero]; rfl); rfl; intro K hK)
        go_simp
        refine (QC.out wx HG3.out.nd.rd).mono ?_
        rintro _ wy ⟨rfl, Nn⟩
        have HG4 := Lib.hid (HG3.out.next Nn)
        clear Nn HG3 QC
        refine hK.out _ _ (HG4.out.sc) (fun _ => ?_)
        clear hK K
        try simp only [Act.put, List.setIfInBounds_toArray, List.set_cons_zero, List.set_cons_succ]
        iterate 2 (apply ord_take; (simp only [List.getElem?_toArray, List.getElem?_cons_succ, List.getElem?_cons_zero]; rfl); rfl; (intro w hSw; (try dsimp only at hSw); go_simp; try with_reducible rfl); intro _; try simp only [Act.put, List.setIfInBounds_toArray, List.set_cons_zero, List.set_cons_succ])
        apply ord_done
        have HNW := Lib.hid HG4.out.new
        clear kc HG4
        go_wp2
        go_ret
        exact ⟨rfl, HNW.out⟩
      · have dk : (rk != 2) = true := by simpa using hk
        have lc := HG2.out.rc.len
        rw [dig_kind19 (N := ⟨rk, rn, ry, rp, ru⟩) hk l] at lc
        have ec : nc = 0 := lc.symm
        have HNW := Lib.hid HG2.out.new
        subst ec
        clear lc HG2 hk
        go_wp2
        go_ret
        exact ⟨rfl, HNW.out⟩

end Go.Proofs.YtliojldkdmaofaaDoor
