/-
  NodeSames: the walk.
-/
import Derived.Test.YtliojldkdmaofaaLaw19
import Derived.Test.YtliojldkdmaofaaWrites19
import Derived.Test.YtliojldkdmaofaaNodClone
import Derived.Test.YtliojldkdmaofaaPowRight
import Derived.Test.YtliojldkdmaofaaOrdPass
import Derived.Laws.OwnMore
namespace Go.Proofs.Ytliojldkdmaofaa
set_option linter.unusedVariables false
set_option linter.unusedSimpArgs false
set_option maxRecDepth 100000
open Go.RowKit

theorem own_get19 {w : World} {base g n c : Nat} {l : List UInt8} (h : w.ownsRow base 5 1 (.slice (some ⟨g, 0, none⟩) n c) n (l.map bv)) (hl : l.length = n) (i : Nat) (hi : i < n) : w.cell? ⟨g, i, none⟩ = some (bv (l.getD i 0)) := by
  rw [h.cellAt i (by omega), List.getElem?_map, List.getD_eq_getElem?_getD, List.getElem?_eq_getElem (by omega)]
  rfl

theorem own_set19 {w : World} {base g n c : Nat} {l : List UInt8} (h : w.ownsRow base 5 1 (.slice (some ⟨g, 0, none⟩) n c) n (l.map bv)) (i : Nat) (u : UInt8) :
    (w.setCell ⟨g, i, none⟩ (bv u)).ownsRow base 5 1 (.slice (some ⟨g, 0, none⟩) n c) n ((l.set i u).map bv) := by
  have h2 := (h.stored i (bv u)).1
  rw [← List.map_set] at h2
  exact h2

/-- the first i octets turned -/
def turn19 (l : List UInt8) (i : Nat) : List UInt8 := (l.take i).map (fun x => bxor x 1) ++ l.drop i

theorem turn_len19 (l : List UInt8) (i : Nat) : (turn19 l i).length = l.length := by
  unfold turn19
  rw [List.length_append, List.length_map, List.length_take, List.length_drop]
  omega

theorem turn_zero19 (l : List UInt8) : turn19 l 0 = l := by unfold turn19; simp

theorem turn_get19 (l : List UInt8) (i : Nat) (hi : i < l.length) : (turn19 l i).getD i 0 = l.getD i 0 := by
  unfold turn19
  rw [List.getD_eq_getElem?_getD, List.getElem?_append_right (by rw [List.length_map, List.length_take]; omega), List.length_map, List.length_take, Nat.min_eq_left (by omega), Nat.sub_self, List.getElem?_drop, Nat.add_zero, ← List.getD_eq_getElem?_getD]

theorem turn_set19 (l : List UInt8) (i : Nat) (hi : i < l.length) : (turn19 l i).set i (bxor (l.getD i 0) 1) = turn19 l (i + 1) := by
  unfold turn19
  have e1 : l.drop i = l[i] :: l.drop (i + 1) := List.drop_eq_getElem_cons hi
  have e2 : l.take (i + 1) = l.take i ++ [l[i]] := by rw [List.take_append_getElem]
  have e3 : l.getD i 0 = l[i] := by rw [List.getD_eq_getElem?_getD, List.getElem?_eq_getElem hi]; rfl
  rw [e1, e2, e3, List.set_append_right _ _ (by rw [List.length_map, List.length_take]; omega), List.length_map, List.length_take, Nat.min_eq_left (by omega), Nat.sub_self, List.set_cons_zero, List.map_append, List.append_assoc]
  rfl

theorem turn_ne19 (l : List UInt8) (h : l ≠ []) : turn19 l l.length ≠ l := by
  cases l with
  | nil => exact absurd rfl h
  | cons a t =>
    unfold turn19
    rw [List.take_length, List.drop_length, List.append_nil, List.map_cons]
    intro e
    have e1 := (List.cons.inj e).1
    have e2 : (a ^^^ 1) = a := e1
    have e3 : a ^^^ (a ^^^ 1) = a ^^^ a := by rw [e2]
    rw [← UInt8.xor_assoc, UInt8.xor_self, UInt8.zero_xor] at e3
    exact absurd e3 (by decide)

/-- three nodes' cells -/
def C555 (g g' g'' : Nat) (k : Int) (a : Value) (y : Nat) (b c : Value) (k' : Int) (a' : Value) (y' : Nat) (b' c' : Value) (a'' b'' c'' : Value) (w : World) : Prop :=
  (w.cell? ⟨g, 0, none⟩ = some (.int .i64 k) ∧ w.cell? ⟨g, 1, none⟩ = some a ∧ w.cell? ⟨g, 2, none⟩ = some (.int .u64 (y : Int)) ∧ w.cell? ⟨g, 3, none⟩ = some b ∧ w.cell? ⟨g, 4, none⟩ = some c) ∧
  (w.cell? ⟨g', 0, none⟩ = some (.int .i64 k') ∧ w.cell? ⟨g', 1, none⟩ = some a' ∧ w.cell? ⟨g', 2, none⟩ = some (.int .u64 (y' : Int)) ∧ w.cell? ⟨g', 3, none⟩ = some b' ∧ w.cell? ⟨g', 4, none⟩ = some c') ∧
  (w.cell? ⟨g'', 0, none⟩ = some (.int .i64 k) ∧ w.cell? ⟨g'', 1, none⟩ = some a'' ∧ w.cell? ⟨g'', 2, none⟩ = some (.int .u64 (y : Int)) ∧ w.cell? ⟨g'', 3, none⟩ = some b'' ∧ w.cell? ⟨g'', 4, none⟩ = some c'')

/-- both nodes and the clone -/
structure X19 (w wr : World) (base ga gb gc : Nat) (u v cv : NodeV) (N M : NodeL) : Prop where
  new : New w wr
  a : NBlk wr ga u N
  b : NBlk wr gb v M
  c : NBlk wr gc cv N
  own : N.name ≠ [] → wr.ownsRow base 5 1 cv.nm N.name.length (N.name.map bv)

theorem X19.next {w wr w' : World} {base ga gb gc : Nat} {u v cv : NodeV} {N M : NodeL} (h : X19 w wr base ga gb gc u v cv N M) (hn : New wr w') : X19 w w' base ga gb gc u v cv N M :=
  ⟨New.trans h.new hn, h.a.new hn, h.b.new hn, h.c.new hn, fun hne => own_keep19 (h.own hne) (fun k _ h2 => hn.block k h2)⟩

theorem X19.s {w wr : World} {base ga gb gc : Nat} {u v cv : NodeV} {N M : NodeL} (h : X19 w wr base ga gb gc u v cv N M) : C555 ga gb gc N.kind u.nm N.key u.pa u.un M.kind v.nm M.key v.pa v.un cv.nm cv.pa cv.un wr :=
  ⟨h.a.at_.cells, h.b.at_.cells, h.c.at_.cells⟩

/-- while the clone's name is turned -/
structure L19 (w wr : World) (base ga gc : Nat) (u cv : NodeV) (N : NodeL) (j : Nat) : Prop where
  new : New w wr
  aa : At5 wr ga 26 (.int .i64 N.kind) u.nm (.int .u64 (N.key : Int)) u.pa u.un
  at_ : At5 wr gc 26 (.int .i64 N.kind) cv.nm (.int .u64 (N.key : Int)) cv.pa cv.un
  own : N.name ≠ [] → wr.ownsRow base 5 1 cv.nm N.name.length ((turn19 N.name j).map bv)
  pa : Rd wr cv.pa N.parent
  un : RdV wr cv.un (N.unm.map (Value.int .i64))

/-- where the clone's name lies -/
def Apart19 (w : World) (ga gc : Nat) (cv : NodeV) (N : NodeL) : Prop := N.name ≠ [] → ∀ k, blk cv.nm = some k → w.heap.size ≤ k ∧ k ≠ ga ∧ k ≠ gc ∧ (N.parent ≠ [] → blk cv.pa ≠ some k) ∧ blk cv.un ≠ some k

theorem L19.put {w wr : World} {base ga gc k n c j : Nat} {u : NodeV} {pa un : Value} {N : NodeL} (h : L19 w wr base ga gc u ⟨.slice (some ⟨k, 0, none⟩) n c, pa, un⟩ N j) (hn : N.name.length = n) (hj : j < n) (hap : Apart19 w ga gc ⟨.slice (some ⟨k, 0, none⟩) n c, pa, un⟩ N) :
    L19 w (wr.setCell ⟨k, j, none⟩ (bv (bxor (N.name.getD j 0) 1))) base ga gc u ⟨.slice (some ⟨k, 0, none⟩) n c, pa, un⟩ N (j + 1) := by
  have hne : N.name ≠ [] := fun e => by rw [e] at hn; simp at hn; omega
  obtain ⟨a1, a2, a3, a4, a5⟩ := hap hne k rfl
  have ho : Only (fun b => b = k) wr (wr.setCell ⟨k, j, none⟩ (bv (bxor (N.name.getD j 0) 1))) := (Only.refl (fun b => b = k) wr).setCell (p := ⟨k, j, none⟩) (fun _ => rfl) _
  subst hn
  refine ⟨h.new.setCell a1 _, h.aa.only ho (fun e => a2 e.symm), h.at_.only ho (fun e => a3 e.symm), fun _ => ?_, h.pa.only ho (fun b hb hne2 e => a4 hne2 (by rw [hb, e])), h.un.only ho (fun b hb _ e => a5 (by rw [hb, e]))⟩
  rw [← turn_set19 N.name j hj]
  exact own_set19 (h.own hne) j _

theorem L19.drew {w wr : World} {base ga gc j : Nat} {u cv : NodeV} {N : NodeL} (h : L19 w wr base ga gc u cv N j) : L19 w wr.drew base ga gc u cv N j :=
  ⟨h.new.drew, h.aa.new (Below.refl _ _).drew, h.at_.new (Below.refl _ _).drew, fun hne => (h.own hne).drew, h.pa.new (Below.refl _ _).drew, h.un.new (Below.refl _ _).drew⟩

theorem L19.name {w wr : World} {base ga gc j : Nat} {u cv : NodeV} {N : NodeL} (h : L19 w wr base ga gc u cv N j) (h0 : N.name = [] → Rd wr cv.nm []) : Rd wr cv.nm (turn19 N.name j) := by
  by_cases hne : N.name = []
  · have e : turn19 N.name j = [] := List.eq_nil_of_length_eq_zero (by rw [turn_len19, hne]; rfl)
    rw [e]
    exact h0 hne
  · exact Rd.of_own (by rw [turn_len19]; exact h.own hne)

set_option maxHeartbeats 4000000 in
theorem samesLaw19 (w : World) (u : NodeV) (N : NodeL) (hu : NodeR w u N) (v : NodeV) (M : NodeL) (hv : NodeR w v M) : Calls Try.prog 5 #[u.val N, v.val M] w fun e w' => e = .returned (.bool true) ∧ New w w' := by
  have HU := Lib.hid hu
  have HV := Lib.hid hv
  obtain ⟨a1, n1, c1, a2, n2, c2, a3, n3, c3, rfl⟩ := hu.forms19
  obtain ⟨b1, m1, f1, b2, m2, f2, b3, m3, f3, rfl⟩ := hv.forms19
  clear hu hv
  obtain ⟨rk, rn, ry, rp, ru⟩ := N
  obtain ⟨sk, sn, sy, sp, su⟩ := M
  unfold NodeV.val
  dsimp only
  go_enter Try.func5, Try.ntmps5
  go_upto_region 1 with fail
  generalize hw1 : World.alloc w _ = w1
  have hz1 : w1.heap.size = w.heap.size + 1 := by rw [← hw1]; simp
  have N1 : New w w1 := by rw [← hw1]; exact (Below.refl _ _).alloc (Nat.le_refl _) _
  have A1 : At5 w1 w.heap.size 26 (.int .i64 rk) (.slice a1 n1 c1) (.int .u64 (ry : Int)) (.slice a2 n2 c2) (.slice a3 n3 c3) := by rw [← hw1]; exact heap_alloc_new _ _
  clear hw1
  generalize hw2 : World.alloc w1 _ = w2
  have N2 : New w1 w2 := by rw [← hw2]; exact (Below.refl _ _).alloc (Nat.le_refl _) _
  have B2 : At5 w2 (w.heap.size + 1) 26 (.int .i64 sk) (.slice b1 m1 f1) (.int .u64 (sy : Int)) (.slice b2 m2 f2) (.slice b3 m3 f3) := by rw [← hw2, ← hz1]; exact heap_alloc_new _ _
  have hz2 : w2.heap.size = w.heap.size + 2 := by rw [← hw2]; simp; omega
  clear hw2
  have HN2 := Lib.hid (New.trans N1 N2)
  have HA2 := Lib.hid (A1.new N2)
  have HB2 := Lib.hid B2
  clear N1 A1 N2 B2 hz1
  go_wp2_with fail
  refine (awake19 w2).mono ?_
  rintro _ w3 ⟨rfl, n3'⟩
  have HA3 := Lib.hid (HA2.out.new n3')
  have HB3 := Lib.hid (HB2.out.new n3')
  have HN3 := Lib.hid (New.trans HN2.out n3')
  have HS := Lib.hid (small19 w3 _ _ (HU.out.new HN3.out))
  unfold NodeV.val at HS
  dsimp only at HS
  clear n3' HA2 HB2 HN2
  go_wp2_with (first | refine wpList_load_rowG (by rfl) 26 _ rfl w.heap.size rfl _ _ _ _ HA3.out Try.underlying26 rfl infoNode19 ?_ | fail)
  refine HS.out.mono ?_
  rintro _ w4 ⟨rfl, n4'⟩
  have HA4 := Lib.hid (HA3.out.new n4')
  have HB4 := Lib.hid (HB3.out.new n4')
  have HN4 := Lib.hid (New.trans HN3.out n4')
  clear n4' HA3 HB3 HN3 HS
  obtain ⟨z, hz⟩ : ∃ z, nSmall ⟨rk, rn, ry, rp, ru⟩ = z := ⟨_, rfl⟩
  have HZ := Lib.hid hz
  rw [hz]
  clear hz
  cases z
  · go_wp2_with fail
    refine (awake19 w4).mono ?_
    rintro _ w5 ⟨rfl, n5⟩
    have HN5 := Lib.hid (New.trans HN4.out n5)
    clear n5
    go_wp2
    go_ret
    exact ⟨rfl, HN5.out⟩
  have HS := Lib.hid (small19 w4 _ _ (HV.out.new HN4.out))
  unfold NodeV.val at HS
  dsimp only at HS
  go_wp2_with (first | refine wpList_load_rowG (by rfl) 26 _ rfl (w.heap.size + 1) rfl _ _ _ _ HB4.out Try.underlying26 rfl infoNode19 ?_ | fail)
  refine HS.out.mono ?_
  rintro _ w5 ⟨rfl, n5'⟩
  have HA5 := Lib.hid (HA4.out.new n5')
  have HB5 := Lib.hid (HB4.out.new n5')
  have HN5 := Lib.hid (New.trans HN4.out n5')
  clear n5' HA4 HB4 HN4 HS
  generalize nSmall ⟨sk, sn, sy, sp, su⟩ = z
  cases z
  · go_wp2_with fail
    refine (awake19 w5).mono ?_
    rintro _ w6 ⟨rfl, n6⟩
    have HN6 := Lib.hid (New.trans HN5.out n6)
    clear n6
    go_wp2
    go_ret
    exact ⟨rfl, HN6.out⟩
  have hb : rn.length ≤ 40 ∧ rp.length ≤ 60 ∧ ru.length ≤ 50 := by
    have := HZ.out
    unfold nSmall at this
    simpa using this
  have HC := Lib.hid (nodClone w5 _ _ (HU.out.new HN5.out) ⟨by dsimp only; omega, by dsimp only; omega, by dsimp only; omega⟩)
  unfold NodeV.val at HC
  dsimp only at HC
  have HLN : Hid (rn.length ≤ 40) := Lib.hid hb.1
  clear hb HZ
  go_wp2_with (first | refine wpList_load_row rfl 26 _ rfl w.heap.size rfl _ _ _ _ HA5.out Try.underlying26 rfl infoNode19 ?_ | fail)
  refine HC.out.mono ?_
  rintro _ w6 ⟨cv, rfl, nd, ho, n6⟩
  obtain ⟨e1, k1, h1, e2, k2, h2, e3, k3, h3, rfl⟩ := nd.rd.forms19
  unfold NodeV.val
  dsimp only at nd ho ⊢
  have HND := Lib.hid nd
  have HO := Lib.hid ho
  have HN6 := Lib.hid n6
  clear nd ho n6 HC
  go_upto_region 4 with (first | refine wpList_store_row rfl 26 _ _ rfl w6.heap.size #[.int .i64 rk, .slice e1 k1 h1, .int .u64 (ry : Int), .slice e2 k2 h2, .slice e3 k3 h3] rfl rfl _ _ (heap_alloc_new _ _) infoNode19 rfl rfl ?_ | fail)
  generalize hw7 : World.alloc w6 _ = w7
  have N7 : New w6 w7 := by rw [← hw7]; exact (Below.refl _ _).alloc (Nat.le_refl _) _
  have C7 : At5 w7 w6.heap.size 26 (.int .i64 rk) (.slice e1 k1 h1) (.int .u64 (ry : Int)) (.slice e2 k2 h2) (.slice e3 k3 h3) := by rw [← hw7]; exact heap_alloc_new _ _
  clear hw7
  have HKL : Hid (rn.length = k1 ∧ sn.length = m1 ∧ rn.length = n1) := Lib.hid ⟨HND.out.rd.nm.len, HV.out.nm.len, HU.out.nm.len⟩
  have N67 : New w6 w7.drew := N7.drew
  have N57 := New.trans HN6.out N67
  have HX : Hid (X19 w w7.drew w5.heap.size w.heap.size (w.heap.size + 1) w6.heap.size ⟨.slice a1 n1 c1, .slice a2 n2 c2, .slice a3 n3 c3⟩ ⟨.slice b1 m1 f1, .slice b2 m2 f2, .slice b3 m3 f3⟩ ⟨.slice e1 k1 h1, .slice e2 k2 h2, .slice e3 k3 h3⟩ ⟨rk, rn, ry, rp, ru⟩ ⟨sk, sn, sy, sp, su⟩) :=
    Lib.hid ⟨New.trans HN5.out N57, ⟨HA5.out.new N57, HU.out.new (New.trans HN5.out N57)⟩, ⟨HB5.out.new N57, HV.out.new (New.trans HN5.out N57)⟩, ⟨C7.new (Below.refl _ _).drew, HND.out.rd.new N67⟩, fun hne => own_keep19 (HO.out hne).1 (fun k _ h2 => N67.block k h2)⟩
  have HAP : Hid (Apart19 w w.heap.size w6.heap.size ⟨.slice e1 k1 h1, .slice e2 k2 h2, .slice e3 k3 h3⟩ ⟨rk, rn, ry, rp, ru⟩) := Lib.hid (fun hne k hk => by
    have t1 := own_from (HO.out hne).1 k hk
    have t2 := HND.out.rd.nm.lt hk hne
    have t3 := HB5.out.lt
    exact ⟨by omega, by omega, by omega, (HO.out hne).2 k hk⟩)
  clear N57 N67 N7 C7 HA5 HB5 HN5 HN6 HND HO
  obtain ⟨ga, hga⟩ : ∃ g, w.heap.size = g := ⟨_, rfl⟩
  rw [hga] at HX HAP
  rw [hga]
  clear hga
  obtain ⟨gb, hgb⟩ : ∃ g, ga + 1 = g := ⟨_, rfl⟩
  rw [hgb] at HX
  rw [hgb]
  clear hgb
  obtain ⟨gc, hgc⟩ : ∃ g, w6.heap.size = g := ⟨_, rfl⟩
  rw [hgc] at HX HAP
  rw [hgc]
  clear hgc
  obtain ⟨base, hbase⟩ : ∃ g, w5.heap.size = g := ⟨_, rfl⟩
  rw [hbase] at HX
  clear hbase
  have HSP := Lib.hid fun wx h h' => nodSame wx ⟨.slice a1 n1 c1, .slice a2 n2 c2, .slice a3 n3 c3⟩ ⟨.slice b1 m1 f1, .slice b2 m2 f2, .slice b3 m3 f3⟩ ⟨rk, rn, ry, rp, ru⟩ ⟨sk, sn, sy, sp, su⟩ h h'
  have HSR := Lib.hid fun wx h h' => refSame19 wx ⟨.slice a1 n1 c1, .slice a2 n2 c2, .slice a3 n3 c3⟩ ⟨.slice b1 m1 f1, .slice b2 m2 f2, .slice b3 m3 f3⟩ ⟨rk, rn, ry, rp, ru⟩ ⟨sk, sn, sy, sp, su⟩ h h'
  have HSC := Lib.hid fun wx h h' => refSame19 wx ⟨.slice e1 k1 h1, .slice e2 k2 h2, .slice e3 k3 h3⟩ ⟨.slice a1 n1 c1, .slice a2 n2 c2, .slice a3 n3 c3⟩ ⟨rk, rn, ry, rp, ru⟩ ⟨rk, rn, ry, rp, ru⟩ h h'
  rw [decide_eq_true rfl] at HSC
  generalize decide ((⟨rk, rn, ry, rp, ru⟩ : NodeL) = ⟨sk, sn, sy, sp, su⟩) = B at *
  have kb : (B != B) = false := by simp
  refine region_ordT (C555 ga gb gc rk (.slice a1 n1 c1) ry (.slice a2 n2 c2) (.slice a3 n3 c3) sk (.slice b1 m1 f1) sy (.slice b2 m2 f2) (.slice b3 m3 f3) (.slice e1 k1 h1) (.slice e2 k2 h2) (.slice e3 k3 h3)) (.take 0 (.take 1 (.take 3 (.take 4 (.only 2 (.only 5 (.take 6 (.take 7 (.take 8 (.take 9 (.only 10 (.take 11 (.take 12 .nil))))))))))))) (by kernel_rfl) (by kernel_rfl) HX.out.s (fun _ => ?_)
  generalize w7.drew = wq at *
  unfold C555
  iterate 4 (apply ordT_take; (simp only [List.getElem?_toArray, List.getElem?_cons_succ, List.getElem?_cons_zero]; rfl); rfl; (intro w hSw; (try dsimp only at hSw); go_simp; try with_reducible rfl); intro _; try simp only [Act.put, List.setIfInBounds_toArray, List.set_cons_zero, List.set_cons_succ])
  (apply ordT_only; (simp only [List.getElem?_toArray, List.getElem?_cons_succ, List.getElem?_cons_zero]; rfl); rfl; intro K hK)
  go_simp
  refine (HSP.out wq HX.out.a.rd HX.out.b.rd).mono ?_
  rintro _ wn ⟨rfl, Nn⟩
  replace HX := Lib.hid (HX.out.next Nn)
  clear Nn
  refine hK.out _ _ (HX.out.s) (fun _ => ?_)
  clear hK K
  try simp only [Act.put, List.setIfInBounds_toArray, List.set_cons_zero, List.set_cons_succ]
  (apply ordT_only; (simp only [List.getElem?_toArray, List.getElem?_cons_succ, List.getElem?_cons_zero]; rfl); rfl; intro K hK)
  go_simp
  refine (HSR.out _ HX.out.a.rd HX.out.b.rd).mono ?_
  rintro _ wn ⟨rfl, Nn⟩
  replace HX := Lib.hid (HX.out.next Nn)
  clear Nn
  refine hK.out _ _ (HX.out.s) (fun _ => ?_)
  clear hK K
  try simp only [Act.put, List.setIfInBounds_toArray, List.set_cons_zero, List.set_cons_succ]
  iterate 4 (apply ordT_take; (simp only [List.getElem?_toArray, List.getElem?_cons_succ, List.getElem?_cons_zero]; rfl); rfl; (intro w hSw; (try dsimp only at hSw); go_simp; try with_reducible rfl); intro _; try simp only [Act.put, List.setIfInBounds_toArray, List.set_cons_zero, List.set_cons_succ])
  (apply ordT_only; (simp only [List.getElem?_toArray, List.getElem?_cons_succ, List.getElem?_cons_zero]; rfl); rfl; intro K hK)
  go_simp
  refine (HSC.out _ HX.out.c.rd HX.out.a.rd).mono ?_
  rintro _ wn ⟨rfl, Nn⟩
  replace HX := Lib.hid (HX.out.next Nn)
  clear Nn
  refine hK.out _ _ (HX.out.s) (fun _ => ?_)
  clear hK K
  try simp only [Act.put, List.setIfInBounds_toArray, List.set_cons_zero, List.set_cons_succ]
  iterate 2 (apply ordT_take; (simp only [List.getElem?_toArray, List.getElem?_cons_succ, List.getElem?_cons_zero]; rfl); rfl; (intro w hSw; (try dsimp only at hSw); go_simp; try with_reducible rfl); intro _; try simp only [Act.put, List.setIfInBounds_toArray, List.set_cons_zero, List.set_cons_succ])
  apply ordT_done
  have HL0 : Hid (L19 w wn base ga gc ⟨.slice a1 n1 c1, .slice a2 n2 c2, .slice a3 n3 c3⟩ ⟨.slice e1 k1 h1, .slice e2 k2 h2, .slice e3 k3 h3⟩ ⟨rk, rn, ry, rp, ru⟩ 0) := Lib.hid ⟨HX.out.new, HX.out.a.at_, HX.out.c.at_, fun hne => by rw [turn_zero19]; exact HX.out.own hne, HX.out.c.rd.pa, HX.out.c.rd.un⟩
  clear HX HSP HSR HSC kb
  go_wp2
  go_loopw [6] (fun i wr => ∃ j : Nat, j ≤ k1 ∧ i = .int .i64 j ∧ L19 w wr base ga gc ⟨.slice a1 n1 c1, .slice a2 n2 c2, .slice a3 n3 c3⟩ ⟨.slice e1 k1 h1, .slice e2 k2 h2, .slice e3 k3 h3⟩ ⟨rk, rn, ry, rp, ru⟩ j) (fun i _ => k1 - (intOf i).toNat)
  case atStart => exact ⟨0, by omega, rfl, HL0.out⟩
  case round =>
    obtain ⟨j, hj, rfl, hL⟩ := hrel
    have HL := Lib.hid hL
    clear hL HL0
    obtain ⟨x0, x1, x2, x3, x4⟩ := HL.out.at_.cells
    by_cases hlt : j < k1
    · have hne : rn ≠ [] := fun e => by have := HKL.out.1; rw [e] at this; simp at this; omega
      have hlt' : (j : Int) < (k1 : Int) := by omega
      have hlt40 : k1 ≤ 40 := by have := HKL.out.1; have := HLN.out; omega
      obtain ⟨k, cap, hv, -, -⟩ := (HL.out.own hne).form (by have := HKL.out.1; dsimp only; omega)
      obtain ⟨rfl, -, -⟩ : e1 = some ⟨k, 0, none⟩ ∧ k1 = _ ∧ h1 = cap := by simpa using hv
      clear hv x0 x2 x3 x4
      have HLd := Lib.hid HL.out.drew
      clear HL
      go_upto_region 9 with fail
      clear x1
      have HO : Hid (wr.drew.ownsRow base 5 1 (.slice (some ⟨k, 0, none⟩) k1 h1) k1 ((turn19 rn j).map bv)) := Lib.hid (by have := HLd.out.own hne; dsimp only at this; rwa [HKL.out.1] at this)
      have HJ : Hid (j < rn.length) := Lib.hid (by rw [HKL.out.1]; exact hlt)
      have hc : wr.drew.cell? ⟨k, j, none⟩ = some (bv (rn.getD j 0)) := by
        have := own_get19 HO.out (by rw [turn_len19]; exact HKL.out.1) j hlt
        rwa [turn_get19 _ _ HJ.out] at this
      have hf : wr.drew.frozen? ⟨k, j, none⟩ = false := HO.out.frozenAt j
      have HP := Lib.hid (HLd.out.put HKL.out.1 hlt HAP.out)
      have hs : wr.drew.cell? ⟨gc, 1, none⟩ = some (.slice (some ⟨k, 0, none⟩) k1 h1) := HLd.out.at_.cells.2.1
      have HS : Hid (∀ y, (wr.drew.setCell ⟨k, j, none⟩ y).cell? ⟨gc, 1, none⟩ = some (.slice (some ⟨k, 0, none⟩) k1 h1)) := Lib.hid (fun y => by
        have ho : Only (fun b => b = k) wr.drew (wr.drew.setCell ⟨k, j, none⟩ y) := (Only.refl (fun b => b = k) wr.drew).setCell (p := ⟨k, j, none⟩) (fun _ => rfl) _
        exact (HLd.out.at_.only ho (fun e => (HAP.out hne k rfl).2.2.1 e.symm)).cells.2.1)
      dsimp only at HP
      generalize rn.getD j 0 = y at *
      have hxo : bits .xor .u8 (y.toNat : Int) 1 = ((bxor y 1).toNat : Int) := u8_bxor y 1
      clear HO HJ HLd
      refine region_ord (fun wx => wx.cell? ⟨gc, 1, none⟩ = some (.slice (some ⟨k, 0, none⟩) k1 h1)) [(0, true), (1, true), (2, true), (3, true), (4, true), (5, true), (6, true), (7, false), (8, true), (9, true), (10, false)] (by kernel_rfl) (by kernel_rfl) hs (fun _ => ?_)
      generalize wr.drew = wq at *
      iterate 7 (apply ord_take; (simp only [List.getElem?_toArray, List.getElem?_cons_succ, List.getElem?_cons_zero]; rfl); rfl; (intro w hSw; (try dsimp only at hSw); go_simp; try with_reducible rfl); intro _; try simp only [Act.put, List.setIfInBounds_toArray, List.set_cons_zero, List.set_cons_succ])
      (apply ord_only; (simp only [List.getElem?_toArray, List.getElem?_cons_succ, List.getElem?_cons_zero]; rfl); rfl; intro K hK)
      go_simp
      refine hK.out _ _ (hs) (fun _ => ?_)
      clear hK K
      try simp only [Act.put, List.setIfInBounds_toArray, List.set_cons_zero, List.set_cons_succ]
      iterate 2 (apply ord_take; (simp only [List.getElem?_toArray, List.getElem?_cons_succ, List.getElem?_cons_zero]; rfl); rfl; (intro w hSw; (try dsimp only at hSw); go_simp; try with_reducible rfl); intro _; try simp only [Act.put, List.setIfInBounds_toArray, List.set_cons_zero, List.set_cons_succ])
      (apply ord_only; (simp only [List.getElem?_toArray, List.getElem?_cons_succ, List.getElem?_cons_zero]; rfl); rfl; intro K hK)
      go_simp
      refine hK.out _ _ ((HS.out _)) (fun _ => ?_)
      clear hK K
      try simp only [Act.put, List.setIfInBounds_toArray, List.set_cons_zero, List.set_cons_succ]
      apply ord_done
      have HP2 : Hid (L19 w (wq.setCell ⟨k, j, none⟩ (.int .u8 ((bxor y 1).toNat : Int))) base ga gc ⟨.slice a1 n1 c1, .slice a2 n2 c2, .slice a3 n3 c3⟩ ⟨.slice (some ⟨k, 0, none⟩) k1 h1, .slice e2 k2 h2, .slice e3 k3 h3⟩ ⟨rk, rn, ry, rp, ru⟩ (j + 1)) := Lib.hid HP.out
      clear HP HS hs hc hf hxo
      generalize wq.setCell ⟨k, j, none⟩ (.int .u8 ((bxor y 1).toNat : Int)) = wz at *
      go_wp2_with fail
      go_roundw
      case rel => exact ⟨j + 1, by omega, by go_num, HP2.out⟩
      case measure => simp [intOf]; omega
    · have hjk : j = k1 := by omega
      subst hjk
      have e1' : rn.length = n1 := HKL.out.2.2
      obtain ⟨y0, y1, y2, y3, y4⟩ := HL.out.aa.cells
      by_cases hn : n1 = 0
      · have dn : ((n1 : Int) == 0) = true := by rw [hn]; rfl
        have HNN := Lib.hid HL.out.new
        clear HL hn e1' hlt
        go_wp2_with fail
        go_ret
        exact ⟨rfl, HNN.out⟩
      · have dn : ((n1 : Int) == 0) = false := by simpa using hn
        have hne : rn ≠ [] := fun e => by rw [e] at e1'; simp at e1'; omega
        have HDN : Hid (decide ((⟨rk, turn19 rn j, ry, rp, ru⟩ : NodeL) = ⟨rk, rn, ry, rp, ru⟩) = false) := Lib.hid (decide_eq_false (fun e => turn_ne19 rn hne (by have := congrArg NodeL.name e; dsimp only at this; rw [HKL.out.1]; exact this)))
        have HC := Lib.hid (refSame19 wr ⟨.slice e1 j h1, .slice e2 k2 h2, .slice e3 k3 h3⟩ ⟨.slice a1 n1 c1, .slice a2 n2 c2, .slice a3 n3 c3⟩ ⟨rk, turn19 rn j, ry, rp, ru⟩ ⟨rk, rn, ry, rp, ru⟩ ⟨HL.out.name (fun e => absurd e hne), HL.out.pa, HL.out.un, HU.out.key⟩ (HU.out.new HL.out.new))
        rw [HDN.out] at HC
        unfold NodeV.val at HC
        dsimp only at HC
        clear hn hne HDN e1' hlt
        go_wp2_with (first | refine wpList_load_rowG (by rfl) 26 _ rfl gc rfl _ _ _ _ HL.out.at_ Try.underlying26 rfl infoNode19 ?_ | refine wpList_load_rowG (by rfl) 26 _ rfl ga rfl _ _ _ _ HL.out.aa Try.underlying26 rfl infoNode19 ?_ | fail)
        refine HC.out.mono ?_
        rintro _ wa ⟨rfl, na⟩
        have HNN := Lib.hid (New.trans HL.out.new na)
        clear na HC HL
        go_wp2_with fail
        refine (refRight7 wa 2 (by decide)).mono ?_
        rintro _ _ ⟨rfl, rfl⟩
        rw [show rightP 2 = true from rfl]
        go_wp2
        go_ret
        exact ⟨rfl, HNN.out⟩

end Go.Proofs.Ytliojldkdmaofaa
