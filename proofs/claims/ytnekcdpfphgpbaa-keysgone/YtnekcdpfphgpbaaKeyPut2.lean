/-
  keys: Put.
-/
import Derived.Test.YtnekcdpfphgpbaaKeyPut
namespace Go.Proofs.Ytnekcdpfphgpbaa
set_option linter.unusedVariables false
set_option linter.unusedSimpArgs false
set_option maxRecDepth 100000
open Go.RowKit

theorem exec_loadSl {a : Act} {o : Oper} {x : Operand} {g off : Nat} {s : KSlot} {w : World} (ho : o.op = .load 71 x) (hx : a.eval x = .pointer (some ⟨g, off, none⟩)) (h : w.rangeAt g off (sCells s)) (hs : s.ok) :
    (execOp a.eval o).run Try.prog w = .ok (.value (.agg (sCells s).toArray)) w := by
  unfold execOp
  simp only [ho, hx, Sem.run_bind, Sem.run_pure, Result.andThen_ok, run_loadAt_mid w g off 71 (sCells s) _ h Try.underlying71 rfl (by rw [sCells_length hs]; exact infoSlot)]

theorem sizeSl {s : KSlot} (hs : s.ok) : (Try.prog.info? 71).map (·.size) = some (sCells s).toArray.size := by rw [List.size_toArray, sCells_length hs]; exact infoSlot

/-- a slot's value built, as one operation -/
theorem wpList_buildSl {ops : Array Oper} {rest : List Oper} {o : Oper} {a : Act} {w : World} {Q : Exit → Act → World → Prop} (hg : o.guard = none) {x y : Operand} (ho : o.op = .build 71 #[(0, .const (.bool true)), (1, x), (2, y)]) (b : Nat) (k : List UInt8) (hk : k.length = 32) (hx : a.eval x = .int .i64 (b : Int)) (hy : a.eval y = .agg (k.map bv).toArray)
    (h : wpList Try.prog ops Q rest (a.put o.dst (.agg (sCells (some (b, k))).toArray)) w) : wpList Try.prog ops Q (o :: rest) a w := by
  refine wpList_plain hg fun K hK => ?_
  have hr := bSlot3_run b k hk w
  have he : a.eval (.const (.bool true)) = .bool true := rfl
  unfold Oper.wp execOp
  simp only [ho, List.map_toArray, List.map_cons, List.map_nil, he, hx, hy, Sem.run_bind, Sem.run_pure, hr, Result.andThen_ok]
  exact hK _ _ h

/-- the table's slots and a slot of one's own -/
def SlS (p gs : Nat) (v : Value) (s : KSlot) (w : World) : Prop := w.cell? ⟨p, 2, none⟩ = some v ∧ w.rangeAt gs 0 (sCells s)

set_option maxHeartbeats 2000000 in
theorem keyPut {q : Int} {w : World} {H : Nat → Prop} {p g frm n : Nat} {L : List KSlot} {D : List UInt8} (h : KD KMk q w H p g frm L false n D D []) (hon : KOn frm L D) (hfit : frm + 2 * L.length ≤ n)
    (b : Nat) (x : Value) (k : List UInt8) (hb : b ≤ 1099511627776) (hk : k.length = 32) (hx : Rd w x k) (hxH : ∀ j, blk x = some j → ¬ H j) (hf : kFind L b = none) (i : Nat) (hi : i < L.length) (hfr : L.findIdx? (·.isNone) = some i) :
    Calls Try.prog 12 #[.pointer (some ⟨p, 0, none⟩), .int .i64 (b : Int), x] w fun e w' =>
      (e = .returned .nilIface ∧ ∃ q' D', (q = -1 → q' = -1) ∧ KDTo KMk q' w H p g frm (L.set i (some (b, k))) false n D' D' [] w' ∧ KOn frm (L.set i (some (b, k))) D') ∨
      (q ≠ -1 ∧ (∃ y, e = .returned (.iface 102 y)) ∧ ∃ q' L2 D' P', KDTo KMk q' w H p g frm L2 true n D' (layAll D' P') P' w' ∧ KHalf n frm i L (some (b, k)) D' P') := by
  obtain ⟨gx, ox, cx, rfl⟩ := rd_form hx (by intro e; rw [e] at hk; cases hk)
  rw [hk] at hx ⊢
  obtain ⟨F, G, sl, ht, hd, hF, hG, hFG⟩ := kdOpen h
  have HT := Lib.hid ht
  have HD := Lib.hid hd
  have HFG : Hid ((∀ k, F k → H k ∧ k < w.heap.size) ∧ (∀ k, G k → H k ∧ k < w.heap.size) ∧ (∀ k, F k → ¬ G k)) := Lib.hid ⟨hF, hG, hFG⟩
  have HON := Lib.hid hon
  have HX := Lib.hid hx
  have HR := Lib.hid (keyRefusal ht b hb (some ⟨gx, ox, none⟩) cx)
  rw [show kRef L b = 0 by unfold kRef; rw [hf, hfr]; rfl] at HR
  have HIL : Hid (i < L.length ∧ frm + 2 * i + 2 ≤ n) := Lib.hid ⟨hi, by omega⟩
  have HK : Hid (b ≤ 1099511627776 ∧ k.length = 32) := Lib.hid ⟨hb, hk⟩
  have hok : KSlot.ok (some (b, k)) := fun p hp => by cases hp; exact ⟨hb, hk⟩
  have HOK := Lib.hid hok
  have HFR : Hid (firstI (·.isNone) L = (i : Int)) := Lib.hid (by unfold firstI; rw [hfr])
  obtain ⟨nL, hn⟩ : ∃ n, L.length = n := ⟨_, rfl⟩
  have hil : i < nL := by omega
  have hin : (i : Int) < (nL : Int) := by omega
  have HNL := Lib.hid hn
  clear h ht hd hF hG hFG hon hfit hf hi hn hx hxH hfr hb hk hok
  go_enter Try.func12, Try.ntmps12
  go_wp2_with fail
  refine HR.out.mono ?_
  rintro _ w1 ⟨rfl, N1⟩
  have H1 := Lib.hid (HT.out.new N1)
  have HF1 := Lib.hid (keyFree H1.out)
  rw [HFR.out] at HF1
  have N1 := Lib.hid N1
  clear HR
  go_wp2_with fail
  refine HF1.out.mono ?_
  rintro _ w2 ⟨rfl, N2⟩
  have H2 := Lib.hid (H1.out.new N2)
  have N2 := Lib.hid (New.trans N1.out N2)
  clear HF1 H1 N1
  have HRG : Hid (w2.rangeAt gx ox (k.map bv)) := Lib.hid (rd_rangeAt (HX.out.new N2.out))
  have HA := fun wx => run_arrayAt32 (some ⟨gx, ox, none⟩) 32 cx (by decide) wx
  have hz := zSlot_run
  go_upto_region 6 with (first | refine wpList_load_mid rfl 69 _ rfl gx ox rfl _ _ HRG.out Try.underlying69 rfl (by rw [List.length_map, HK.out.2]; exact info32) ?_ | refine wpList_buildSl rfl rfl b k HK.out.2 rfl rfl ?_ | refine wpList_store_row rfl 71 _ _ rfl w2.heap.size (sCells (some (b, k))).toArray rfl rfl _ _ (heap_alloc_new _ _) (sizeSl HOK.out) (by rw [List.size_toArray, List.size_toArray, sCells_length HOK.out]; rfl) (all_oneCell_toArray (sCells_one _)) ?_)
  generalize hw3 : World.setRow _ _ _ = w3
  have N3 : New w2 w3 := by rw [← hw3]; exact below_setRow ((Below.refl _ _).alloc (Nat.le_refl _) _) (Nat.le_refl _) _
  have HS3 : Hid (AtN w3 w2.heap.size 71 (sCells (some (b, k)))) := Lib.hid (by rw [← hw3]; exact setRow_heap _ _ _ _ _ _ (heap_alloc_new _ _))
  have H3 := Lib.hid (H2.out.new N3)
  have HGS : Hid (w.heap.size ≤ w2.heap.size) := Lib.hid N2.out.size
  have N3 := Lib.hid (New.trans N2.out N3)
  clear hw3 HRG HA hz H2 N2 HX
  obtain ⟨gs, hgs⟩ : ∃ gs, w2.heap.size = gs := ⟨_, rfl⟩
  rw [hgs] at HS3 HGS
  rw [hgs]
  clear hgs
  have HENC := Lib.hid (keyEncoding w3 b k HK.out.1 HK.out.2)
  go_wp2_with (refine wpList_load_row rfl 71 _ rfl gs rfl _ _ _ _ HS3.out Try.underlying71 rfl (sizeSl HOK.out) ?_)
  refine HENC.out.mono ?_
  rintro _ w4 ⟨ge, rfl, hge, hrow, N4⟩
  have hrd := rd_of_row hrow (by rw [keyEnc_length HK.out.2]; decide)
  rw [keyEnc_length HK.out.2] at hrd
  have HS4 := Lib.hid (HS3.out.new N4)
  have N4w := Lib.hid (New.trans N3.out N4)
  have hge2 : w.heap.size ≤ ge := Nat.le_trans N3.out.size hge
  have HS := Lib.hid (keyStore (HT.out.new N4w.out) HFG.out.2.2 (HD.out.new N4w.out) i 0 (by decide) HIL.out.2 ge 0 128 (keyEnc b k) hrd (fun h => by have := (HFG.out.2.1 _ h).2; omega) (by have := (HFG.out.1 _ HT.out.fp).2; omega))
  clear hge hrow N4 hrd hge2 HENC HS3 H3 N3
  have HLN : Hid (D.length = 128 * n) := Lib.hid HD.out.lens.1
  go_wp2_with fail
  refine HS.out.mono ?_
  rintro _ w5 hst
  rcases hst with ⟨rfl, ht5, q', hq', hd5⟩ | ⟨hq, rfl, ht5, ho5, m, q', P', -, hm, hP, hd5⟩
  · have HT5 := Lib.hid ht5
    have HD5 := Lib.hid hd5
    have HQ := Lib.hid hq'
    have HS5 : Hid (AtN w5 gs 71 (sCells (some (b, k)))) := Lib.hid (HS4.out.only hd5.2 (fun h => by have := (HFG.out.2.1 _ h).2; have := HGS.out; omega))
    have HTH := Lib.hid (slot_there ht5.slots ht5.ok HIL.out.1)
    have HC : Hid (SlS p gs (.slice (some ⟨sl, 0, none⟩) nL nL) (some (b, k)) w5.drew) := Lib.hid (by
      have := ht5.at_.cells.2.2.1
      rw [HNL.out] at this
      exact ⟨this, HS5.out.range⟩)
    have HTH1 : Hid (w5.drew.there sl (i * 34) (sCells (some (b, k))).toArray.size) := Lib.hid (by rw [List.size_toArray, sCells_length HOK.out]; exact HTH.out)
    clear ht5 hd5 hq' HS HTH
    go_upto_region 9 with fail
    refine region_ord (SlS p gs (.slice (some ⟨sl, 0, none⟩) nL nL) (some (b, k))) [(0, true), (1, true), (2, true), (3, true), (4, true), (5, true), (6, true), (7, false)] (by kernel_rfl) (by kernel_rfl) HC.out (fun _ => ?_)
    have N5 : New w5 w5.drew := (Below.refl _ _).drew
    have HT6 := Lib.hid (HT5.out.new N5)
    have HD6 : Hid (DvcTo q' w4 n g G (kDone D (frm + 2 * i) (keyEnc b k) 0 2) (kDone D (frm + 2 * i) (keyEnc b k) 0 2) [] w5.drew) := Lib.hid ⟨HD5.out.1.new N5, HD5.out.2.drew⟩
    have HS6 := Lib.hid (HS5.out.new N5)
    clear HT5 HD5 HS5 N5
    generalize w5.drew = w6 at *
    unfold SlS
    iterate 5 (apply ord_take; (simp only [List.getElem?_toArray, List.getElem?_cons_succ, List.getElem?_cons_zero]; rfl); rfl; (intro w hSw; (try dsimp only at hSw); go_simp; try with_reducible rfl); intro _; try simp only [Act.put, List.setIfInBounds_toArray, List.set_cons_zero, List.set_cons_succ])
    (apply ord_take; (simp only [List.getElem?_toArray, List.getElem?_cons_succ, List.getElem?_cons_zero]; rfl); rfl; (intro w hSw; exact exec_loadSl rfl rfl hSw.2 HOK.out); intro _; try simp only [Act.put, List.setIfInBounds_toArray, List.set_cons_zero, List.set_cons_succ])
    iterate 1 (apply ord_take; (simp only [List.getElem?_toArray, List.getElem?_cons_succ, List.getElem?_cons_zero]; rfl); rfl; (intro w hSw; (try dsimp only at hSw); go_simp; try with_reducible rfl); intro _; try simp only [Act.put, List.setIfInBounds_toArray, List.set_cons_zero, List.set_cons_succ])
    (apply ord_only; (simp only [List.getElem?_toArray, List.getElem?_cons_succ, List.getElem?_cons_zero]; rfl); rfl; intro K hK)
    refine wp_store_mid 71 _ _ rfl sl (i * 34) (sCells (some (b, k))).toArray rfl rfl HTH1.out (sizeSl HOK.out) (all_oneCell_toArray (sCells_one _)) ?_
    rw [List.toList_toArray]
    have HT7 := Lib.hid (HT6.out.put HIL.out.1 HOK.out)
    have O7 := (slot_set HT6.out.slots HT6.out.ok HIL.out.1 HOK.out).2
    generalize w6.setCells sl (i * 34) (sCells (some (b, k))) = w7 at *
    have HS7 := HS6.out.only O7 (fun e => by have := (HFG.out.1 _ HT.out.fs).2; have := HGS.out; omega)
    have HR : Hid (∃ q' D', (q = -1 → q' = -1) ∧ KDTo KMk q' w H p g frm (L.set i (some (b, k))) false n D' D' [] w7 ∧ KOn frm (L.set i (some (b, k))) D') := Lib.hid ⟨q', _, HQ.out, kdMk HFG.out.1 (fun k hk => (HFG.out.2.1 k hk).1) HFG.out.2.2 N4w.out.size HT7.out (HD6.out.1.only O7 (fun k hk e => by subst e; exact hk.elim (HFG.out.2.2 _ HT.out.fs) (fun h => by have := (HFG.out.1 _ HT.out.fs).2; have := N4w.out.size; omega))) (((New.only (F := H) N4w.out).trans HD6.out.2 (fun k _ hk => (HFG.out.2.1 k hk).1)).trans O7 (fun k _ e => by subst e; exact (HFG.out.1 _ HT.out.fs).1)), by
      rw [kDone_two0]
      exact HON.out.lay (s := some (b, k)) HOK.out (by have := HLN.out; have := HIL.out.2; omega)⟩
    have hc7 : w7.cell? ⟨p, 2, none⟩ = some (.slice (some ⟨sl, 0, none⟩) nL nL) := by
      have := HT7.out.at_.cells.2.2.1
      rw [List.length_set, HNL.out] at this
      exact this
    refine hK.out _ _ ⟨hc7, HS7.range⟩ (fun _ => ?_)
    clear hK K hc7 HS7 O7 HT7 HT6 HD6 HS6 HTH1 HC
    try simp only [Act.put, List.setIfInBounds_toArray, List.set_cons_zero, List.set_cons_succ]
    apply ord_done
    go_wp2
    go_ret
    exact .inl ⟨rfl, HR.out⟩
  · have HR : Hid (q ≠ -1 ∧ ∀ w6, New w5 w6 → ∃ q' L2 D' P', KDTo KMk q' w H p g frm L2 true n D' (layAll D' P') P' w6 ∧ KHalf n frm i L (some (b, k)) D' P') := Lib.hid ⟨hq, fun w6 h6 => ⟨q', L, _, P', kdMk HFG.out.1 (fun k hk => (HFG.out.2.1 k hk).1) HFG.out.2.2 N4w.out.size (ht5.new h6) (hd5.new h6) (((New.only (F := H) N4w.out).trans ho5 (fun k _ hk => hk.elim (fun h => (HFG.out.2.1 k h).1) (fun e => by subst e; exact (HFG.out.1 _ HT.out.fp).1))).trans (New.only (F := H) h6) (fun _ _ h => h)), kHalfOf (b := keyEnc b k) rfl HON.out HLN.out HOK.out HIL.out.2 hm hP⟩⟩
    have HW := Lib.hid fun wx op => wrap1 wx op (i : Int) 22 (by decide)
    clear hq ht5 ho5 hm hP hd5 HS
    go_wp2_with fail
    refine (HW.out _ _).mono ?_
    rintro _ w6 ⟨rfl, -, N6⟩
    have N6 := Lib.hid N6
    go_wp2
    go_ret
    exact .inr ⟨HR.out.1, ⟨_, rfl⟩, HR.out.2 _ N6.out⟩

end Go.Proofs.Ytnekcdpfphgpbaa
