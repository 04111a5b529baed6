/-
  disk: All.
-/
import Derived.Test.YtnekcdpfphgpbaaDskA
import Derived.Test.YtnekcdpfphgpbaaBase
namespace Go.Proofs.Ytnekcdpfphgpbaa
set_option linter.unusedVariables false
set_option linter.unusedSimpArgs false
set_option maxRecDepth 100000
open Go.RowKit

theorem infoSlA : (Try.prog.info? 37).map (fun i => (i.zero, i.size, i.bytes)) = some (some (.slice none 0 0), 1, 24) := by kernel_rfl

/-- make([][]byte, 0, m) -/
theorem run_makeAll (m : Nat) (hm : m ≤ 1000000) (wx : World) :
    ∃ cs, (Instr.makeSlice 53 (.int .i64 0) (.int .i64 (m : Int))).run Try.prog wx = .ok (.slice (some ⟨wx.heap.size, 0, none⟩) 0 m) (wx.alloc (.cells cs 37)) ∧ (wx.alloc (.cells cs 37)).ownsRow wx.heap.size 37 1 (.slice (some ⟨wx.heap.size, 0, none⟩) 0 m) 0 [] := by
  obtain ⟨i0, hi0, hz0, hz1, hz2⟩ := info_parts infoSlA
  have h := run_make (P := Try.prog) wx 53 37 i0 _ Try.underlying53 hi0 hz0 .i64 .i64 0 (m : Int) (by omega) (by omega) (by rw [hz2]; omega) (by omega)
  rw [Int.toNat_natCast] at h
  refine ⟨_, h, rfl, .inr ⟨wx.heap.size, m, _, rfl, Nat.le_refl _, heap_alloc_new _ _, Nat.zero_le _, by simp only [maxLen]; omega, ?_, by simp⟩⟩
  rw [size_madeCells, hz1]

theorem own_ltA {w : World} {base : Nat} {e : TypeId} {size : Nat} {v : Value} {n : Nat} {xs : List Value} (h : w.ownsRow base e size v n xs) : ∀ k, blk v = some k → k < w.heap.size := by
  intro k hk
  rcases h.2 with ⟨rfl, _⟩ | ⟨q, cap, cur, rfl, _, hq, _⟩
  · simp [blk] at hk
  · simp [blk] at hk; subst hk; exact lt_of_block hq

theorem own_baseA {w : World} {b b' : Nat} {e : TypeId} {size : Nat} {v : Value} {n : Nat} {xs : List Value} (h : w.ownsRow b e size v n xs) (hb : b' ≤ b) : w.ownsRow b' e size v n xs := by
  refine ⟨h.1, ?_⟩
  rcases h.2 with h0 | ⟨g, cap, cur, e1, hb1, rest⟩
  · exact .inl h0
  · exact .inr ⟨g, cap, cur, e1, Nat.le_trans hb hb1, rest⟩

/-- slices of bytes, collected in a slice of their own -/
structure AllIn (w : World) (k : Nat) (vt : Value) (qs : List (Value × List UInt8)) (wr : World) : Prop where
  new : New w wr
  own : wr.ownsRow w.heap.size 37 1 vt k (qs.map (·.1))
  len : qs.length = k
  rd : ∀ q ∈ qs, Rd wr q.1 q.2 ∧ (q.2 ≠ [] → ∀ j, blk q.1 = some j → w.heap.size ≤ j ∧ blk vt ≠ some j)

theorem AllIn.more {w wr w2 : World} {k : Nat} {vt : Value} {qs : List (Value × List UInt8)} (h : AllIn w k vt qs wr) (hn : New wr w2) : AllIn w k vt qs w2 :=
  ⟨New.trans h.new hn, own_more h.own hn, h.len, fun q hq => ⟨(h.rd q hq).1.new hn, (h.rd q hq).2⟩⟩

theorem AllIn.push {w wr w2 : World} {k : Nat} {vt : Value} {qs : List (Value × List UInt8)} (h : AllIn w k vt qs wr) (N2 : New wr w2) {v2 : Value} {t : List UInt8} (hu : v2.oneCell' = true) (hr : Rd w2 v2 t) (hb : ∀ j, blk v2 = some j → wr.heap.size ≤ j ∧ j < w2.heap.size) (hk : k ≤ 1000000) :
    ∃ v' w', (Builtin.append_ #[53, 53] 53 #[vt, .slice (some ⟨w2.heap.size, 0, none⟩) 1 1]).run Try.prog (w2.alloc (.cells #[v2] 37)) = .ok v' w' ∧ AllIn w (k + 1) v' (qs ++ [(v2, t)]) w' ∧ New w w' := by
  obtain ⟨i0, hi0, hz0, hz1, hz2⟩ := info_parts infoSlA
  have hsz := h.new.size
  obtain ⟨v', wa, happ, hown', hO', hb', hlt'⟩ := run_append_u (P := Try.prog) w.heap.size w2 53 53 37 i0 _ 24 Try.underlying53 hi0 hz0 hz1 hz2 rfl _ k (qs.map (·.1)) (own_more h.own N2) v2 hu (by omega) (by omega) (Nat.le_trans hsz N2.size)
  have hnew : New w wa := Below.trans (New.trans h.new N2) (hO'.below (Nat.le_trans hsz N2.size) (fun j hj => own_from h.own j hj))
  refine ⟨v', wa, happ, ⟨hnew, by rw [List.map_append]; exact hown', by rw [List.length_append, h.len]; rfl, fun q hq => ?_⟩, hnew⟩
  have hap : ∀ j, j < w2.heap.size → blk vt ≠ some j → blk v' ≠ some j := fun j hj hne e => by
    rcases hb' with e1 | ⟨i, e1, hi⟩
    · exact hne (by rw [← e1]; exact e)
    · rw [e1] at e; cases e; omega
  rcases List.mem_append.1 hq with hq | hq
  · obtain ⟨r1, r2⟩ := h.rd q hq
    refine ⟨(r1.new N2).only hO' (fun j hj hne => (r2 hne j hj).2), fun hne j hj => ⟨(r2 hne j hj).1, hap j ?_ (r2 hne j hj).2⟩⟩
    have := r1.lt hj hne
    have := N2.size
    omega
  · rw [List.mem_singleton.1 hq]
    have hv : ∀ j, blk v2 = some j → blk vt ≠ some j := fun j hj e => by
      have h1 := own_ltA h.own j e
      have h2 := (hb j hj).1
      omega
    exact ⟨hr.only hO' (fun j hj _ => hv j hj), fun _ j hj => ⟨by have := (hb j hj).1; omega, hap j (hb j hj).2 (hv j hj)⟩⟩

/-- new slices -/
def AllTo (w : World) (ts : List (List UInt8)) (e : Ending) (w' : World) : Prop := New w w' ∧ ∃ a n c qs, e = .returned (.slice a n c) ∧ RdL w' (.slice a n c) qs ∧ qs.map (·.2) = ts

def AllC (g : Nat) (v : Value) (w : World) : Prop := w.cell? ⟨g, 2, none⟩ = some v

set_option maxHeartbeats 2000000 in
theorem diskAll {q : Int} {w : World} {n g : Nat} {F : Nat → Prop} {D L : List UInt8} {P : List Wr} (hD : Dvc q w n g F D L P) (hP : P.length ≤ 100000) :
    Calls Try.prog 19 #[.pointer (some ⟨g, 0, none⟩)] w (AllTo w ((List.range n).map (sec D) ++ P.map (·.2))) := by
  obtain ⟨gd, gl, cd, cl, vp, h0, -⟩ := hD
  obtain ⟨ap, kp, rfl⟩ := h0.vp_slice
  have H := Lib.hid h0
  have hfew := h0.few
  have hcap := h0.capD
  have hlenD := h0.lenD
  have HSz := Lib.hid (fun (wx : World) (hx : New w wx) => diskSize (h0.new hx))
  have ND : New w w.drew := (Below.refl _ _).drew
  have HC : Hid (AllC g (.slice ap P.length kp) w.drew) := Lib.hid (h0.new ND).cells.2.2.1
  have HN := Lib.hid ND
  obtain ⟨m, hm, HM⟩ : ∃ m : Nat, (n : Int) + (P.length : Int) = (m : Int) ∧ Hid (n + P.length = m ∧ m ≤ 1000000) := ⟨n + P.length, by push_cast; rfl, Lib.hid ⟨rfl, by omega⟩⟩
  clear h0 ND
  go_enter Try.func19, Try.ntmps19
  go_wp2_with fail
  refine region_ordT (AllC g (.slice ap P.length kp)) (.take 0 (.take 2 (.take 3 (.take 4 (.take 5 (.take 6 (.only 1 (.take 7 (.only 8 (.take 9 .nil)))))))))) (by kernel_rfl) (by kernel_rfl) HC.out (fun _ => ?_)
  generalize w.drew = wd at *
  unfold AllC
  iterate 6 (apply ordT_take; (simp only [List.getElem?_toArray, List.getElem?_cons_succ, List.getElem?_cons_zero]; rfl); rfl; (intro w hSw; (try dsimp only at hSw); go_simp; try with_reducible rfl); intro _; try simp only [Act.put, List.setIfInBounds_toArray, List.set_cons_zero, List.set_cons_succ])
  (apply ordT_only; (simp only [List.getElem?_toArray, List.getElem?_cons_succ, List.getElem?_cons_zero]; rfl); rfl; intro K hK)
  go_simp
  refine (HSz.out wd HN.out).mono ?_
  rintro _ w9 ⟨rfl, rfl⟩
  refine hK.out _ _ (HC.out) (fun _ => ?_)
  clear hK K
  try simp only [Act.put, List.setIfInBounds_toArray, List.set_cons_zero, List.set_cons_succ]
  (apply ordT_take; (simp only [List.getElem?_toArray, List.getElem?_cons_succ, List.getElem?_cons_zero]; rfl); rfl; (intro w hSw; (try dsimp only at hSw); go_simp; try with_reducible rfl); intro _; try simp only [Act.put, List.setIfInBounds_toArray, List.set_cons_zero, List.set_cons_succ])
  (apply ordT_only; (simp only [List.getElem?_toArray, List.getElem?_cons_succ, List.getElem?_cons_zero]; rfl); rfl; intro K hK)
  obtain ⟨cs, hmk, hom⟩ := run_makeAll m HM.out.2 wd
  have hmw : IntKind.i64.wrap (m : Int) = (m : Int) := IntWalk.i64_in _ (by have := HM.out.2; omega)
  have N1 : New wd (wd.alloc (.cells cs 37)) := (Below.refl _ _).alloc (Nat.le_refl _) _
  go_simp
  have HI : Hid (AllIn w 0 (.slice (some ⟨wd.heap.size, 0, none⟩) 0 m) [] (wd.alloc (.cells cs 37))) := Lib.hid ⟨New.trans HN.out N1, own_baseA hom HN.out.size, rfl, fun q hq => nomatch hq⟩
  have HC1 : Hid (AllC g (.slice ap P.length kp) (wd.alloc (.cells cs 37))) := Lib.hid ((H.out.new (New.trans HN.out N1)).cells.2.2.1)
  clear hmk hom N1 hmw
  generalize World.alloc wd _ = w1 at *
  refine hK.out _ _ (HC1.out) (fun _ => ?_)
  clear hK K
  try simp only [Act.put, List.setIfInBounds_toArray, List.set_cons_zero, List.set_cons_succ]
  (apply ordT_take; (simp only [List.getElem?_toArray, List.getElem?_cons_succ, List.getElem?_cons_zero]; rfl); rfl; (intro w hSw; (try dsimp only at hSw); go_simp; try with_reducible rfl); intro _; try simp only [Act.put, List.setIfInBounds_toArray, List.set_cons_zero, List.set_cons_succ])
  apply ordT_done
  go_wp2_with fail
  refine (HSz.out w1 HI.out.new).mono ?_
  rintro _ w9 ⟨rfl, rfl⟩
  clear HC HC1 HN
  go_wp2
  go_loopw [3, 4, 18] (fun v _ i wr => ∃ (k : Nat) (qs : List (Value × List UInt8)), k ≤ n ∧ i = .int .i64 k ∧ AllIn w k v qs wr ∧ Hid (qs.map (·.2) = (List.range k).map (sec D))) (fun _ _ i _ => n - (intOf i).toNat)
  case atStart => exact ⟨0, [], Nat.zero_le _, rfl, HI.out, rfl⟩
  case round =>
    clear HI
    obtain ⟨k, qs, hk, rfl, hin, HQ⟩ := hrel
    obtain ⟨av, cv, rfl, -⟩ := ownSl_form hin.own
    have HIN := Lib.hid hin
    have hD := H.out.new hin.new
    obtain ⟨c0, -, c2, -⟩ := hD.cells
    by_cases hlt : k < n
    · have hli : (k : Int) < (n : Int) := by omega
      have HPc := Lib.hid (diskPiece wr gd (128 * n) cd k (by omega) (by omega))
      have hrd := hD.rowD.rdSec (s := k) (c := cd - 128 * k) (by rw [hlenD]; omega) (by omega) (by omega)
      have hsl : (sec D k).length = 128 := sec_length (by rw [hlenD]; omega)
      have HCl := Lib.hid (bytesClone wr _ (sec D k) hrd (by intro e; rw [e] at hsl; cases hsl) (by omega))
      clear hrd hD
      go_wp2_with fail
      refine HPc.out.mono ?_
      rintro _ w9 ⟨rfl, rfl⟩
      go_wp2_with fail
      refine HCl.out.mono ?_
      rintro _ w2 ⟨g2, d2, rfl, hrow, hc1, hc2, hge, N2⟩
      have hr2 := hrow.rd hc1 hc2
      rw [hsl] at hr2 ⊢
      obtain ⟨v', wa, happ, hI', hn'⟩ := HIN.out.push N2 (v2 := .slice (some ⟨g2, 0, none⟩) 128 d2) rfl hr2 (fun j hj => by
        simp [blk] at hj; subst hj; exact ⟨hge, hrow.lt⟩) (by omega)
      have HAPP := Lib.hid happ
      have HI' := Lib.hid hI'
      have HQ' : Hid ((qs ++ [((Value.slice (some ⟨g2, 0, none⟩) 128 d2 : Value), sec D k)]).map (·.2) = (List.range (k + 1)).map (sec D)) := Lib.hid (by rw [List.map_append, HQ.out, List.range_succ, List.map_append]; rfl)
      clear happ hI' hn' hrow hr2 hge N2 hc1 hc2 c0 c2 hsl HCl HPc hin
      go_wp2_with (at_builtin; refine wpList_app1 rfl _ _ 53 rfl _ _ rfl rfl HAPP.out ?_)
      go_roundw
      case rel => exact ⟨k + 1, _, by omega, by go_num, HI'.out, HQ'⟩
      case measure => simp [intOf]; omega
    · obtain rfl : k = n := by omega
      have hli : ¬ (k : Int) < (k : Int) := by omega
      have HI0 := Lib.hid hin
      clear hin hD hlt HIN
      go_wp2
      clear c0 c2
      go_loopw [3, 6, 37] (fun v _ i wr => ∃ (j : Nat) (qs2 : List (Value × List UInt8)), j ≤ P.length ∧ i = .int .i64 j ∧ AllIn w (k + j) v qs2 wr ∧ Hid (qs2.map (·.2) = (List.range k).map (sec D) ++ (P.take j).map (·.2))) (fun _ _ i _ => P.length - (intOf i).toNat)
      case atStart => exact ⟨0, qs, Nat.zero_le _, rfl, HI0.out, Lib.hid (by rw [HQ.out]; simp)⟩
      case round =>
        clear HI0 HQ
        obtain ⟨j, qs2, hj, rfl, hin, HQ⟩ := hrel
        obtain ⟨av2, cv2, rfl, -⟩ := ownSl_form hin.own
        have HIN := Lib.hid hin
        by_cases hlt : j < P.length
        · have hD := H.out.new hin.new
          obtain ⟨b, c, he, hr⟩ := hD.at (j := j) (p := P[j]) (List.getElem?_eq_getElem hlt)
          cases he
          have HR := Lib.hid hr
          have HW : Hid (P[j].1 < k ∧ P[j].2.length = 128) := Lib.hid (H.out.ok _ (List.getElem_mem hlt))
          have HPJ : Hid ((P.take (j + 1)).map (·.2) = (P.take j).map (·.2) ++ [P[j].2]) := Lib.hid (by rw [List.take_succ_eq_append_getElem hlt, List.map_append]; rfl)
          clear hr hin hD
          generalize P[j] = p at *
          have hz := zWr_run
          have ha := arr128_all
          go_upto_region 10 with (first | refine wpList_load_mid rfl 79 _ rfl b (j * 129) rfl _ _ HR.out Try.underlying79 rfl (by rw [wcells_length HW.out.2]; exact infoWrSize) ?_ | refine wpList_store_row rfl 79 _ _ rfl wr.heap.size (wcells p).toArray rfl rfl _ _ (heap_alloc_new _ _) (by rw [List.size_toArray, wcells_length HW.out.2]; exact infoWrSize) (by rw [zWr_size, List.size_toArray, wcells_length HW.out.2]) (all_oneCell_toArray (wcells_one p)) ?_)
          generalize hw1 : World.setRow _ _ _ = w1
          have HX : Hid (WrAt w1 wr.heap.size p) := Lib.hid (by rw [← hw1]; exact setRow_heap _ _ _ _ _ _ (heap_alloc_new _ _))
          have N1 : New wr w1 := by rw [← hw1]; exact below_setRow ((Below.refl _ _).alloc (Nat.le_refl _) _) (Nat.le_refl _) _
          have HN1 := Lib.hid N1
          have HI1 := Lib.hid (HIN.out.more N1)
          clear hw1 N1 hz HR
          obtain ⟨x, Hx⟩ : ∃ x, Hid (wr.heap.size = x) := ⟨_, Lib.hid rfl⟩
          rw [Hx.out] at HX
          rw [Hx.out]
          have HCl := Lib.hid (bytesClone w1 _ p.2 (HX.out.rd HW.out.2) (by intro e; have := HW.out.2; rw [e] at this; cases this) (by have := HW.out.2; omega))
          go_wp2_with fail
          refine HCl.out.mono ?_
          rintro _ w2 ⟨g2, d2, rfl, hrow, hc1, hc2, hge, N2⟩
          have hr2 := hrow.rd hc1 hc2
          rw [HW.out.2] at hr2 ⊢
          obtain ⟨v', wa, happ, hI', hn'⟩ := HI1.out.push N2 (v2 := .slice (some ⟨g2, 0, none⟩) 128 d2) rfl hr2 (fun j hj => by
            simp [blk] at hj; subst hj; exact ⟨hge, hrow.lt⟩) (by omega)
          have HAPP := Lib.hid happ
          have HI' := Lib.hid hI'
          have HQ' : Hid ((qs2 ++ [((Value.slice (some ⟨g2, 0, none⟩) 128 d2 : Value), p.2)]).map (·.2) = (List.range k).map (sec D) ++ (P.take (j + 1)).map (·.2)) := Lib.hid (by rw [HPJ.out, List.map_append, HQ.out, List.append_assoc]; rfl)
          clear happ hI' hn' hrow hr2 hge N2 hc1 hc2 HCl
          go_wp2_with (at_builtin; refine wpList_app1 rfl _ _ 53 rfl _ _ rfl rfl HAPP.out ?_)
          go_roundw
          case rel => exact ⟨j + 1, _, by omega, by go_num, HI'.out, HQ'⟩
          case measure => simp [intOf]; omega
        · obtain rfl : j = P.length := by omega
          clear hin hlt
          go_wp2
          go_ret
          refine ⟨HIN.out.new, _, _, _, qs2, rfl, ⟨RdV.of_own HIN.out.own, fun q hq => (HIN.out.rd q hq).1⟩, ?_⟩
          rw [HQ.out, List.take_length]

end Go.Proofs.Ytnekcdpfphgpbaa
