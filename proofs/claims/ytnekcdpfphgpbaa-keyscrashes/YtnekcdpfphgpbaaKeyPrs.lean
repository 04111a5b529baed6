/-
  keys: parsed.
-/
import Derived.Test.YtnekcdpfphgpbaaKeyEnc
import Derived.Test.YtnekcdpfphgpbaaKeyBld
import Derived.Test.YtnekcdpfphgpbaaEyeA
import Derived.BigFrame
namespace Go.Proofs.Ytnekcdpfphgpbaa
set_option linter.unusedVariables false
set_option linter.unusedSimpArgs false
set_option maxRecDepth 100000
open Go.RowKit

theorem wpList_load_row_w {P : Program} {ops : Array Oper} {rest : List Oper} {o : Oper} {a : Act} {w : World} {Q : Exit → Act → World → Prop} (hw : Region.wanted o (yielded ops a.tmps) = true) (ty : TypeId) (x : Operand) (ho : o.op = .load ty x)
    (g : Nat) (hx : a.eval x = .pointer (some ⟨g, 0, none⟩)) (t : TypeId) (cs : Array Value) (fr : Nat × Nat) (d : TypeDesc) (hg : w.heap[g]? = some (.cells cs t fr))
    (hu : P.underlying ty = some d) (hd : (match d with | .struct _ | .array _ _ => true | _ => false) = true) (hi : (P.info? ty).map (·.size) = some cs.size)
    (h : wpList P ops Q rest (a.put o.dst (.agg cs)) w) : wpList P ops Q (o :: rest) a w := by
  show if Region.wanted o (yielded ops a.tmps) then _ else _
  rw [if_pos hw]
  exact .inl (wp_load_row ty x ho g hx t cs fr d hg hu hd hi h)

/-- the key of a slot in a block of its own written -/
theorem slot_key_set {w : World} {g : Nat} {t : TypeId} {u v : Value} {old new : List Value} (h : AtN w g t (u :: v :: old)) (hl : new.length = old.length) : AtN (w.setCells g 2 new) g t (u :: v :: new) ∧ Only (fun k => k = g) w (w.setCells g 2 new) := by
  obtain ⟨⟨ys, h2, h3, h4⟩, h5⟩ := setCells_row g t new 2 w _ h (by simp only [List.length_cons]; omega)
  refine ⟨?_, h5⟩
  unfold AtN
  rw [h2]
  congr 3
  apply List.ext_getElem?
  intro m
  rw [h4]
  by_cases h0 : 2 ≤ m
  · obtain ⟨j, rfl⟩ : ∃ j, m = j + 1 + 1 := ⟨m - 2, by omega⟩
    rw [List.getElem?_cons_succ, List.getElem?_cons_succ, List.getElem?_cons_succ, List.getElem?_cons_succ]
    by_cases hj : j < new.length
    · rw [if_pos (by omega)]; congr 1
    · rw [if_neg (by omega), List.getElem?_eq_none (by omega), List.getElem?_eq_none (by omega)]
  · rw [if_neg (by omega)]
    rcases m with _ | _ | m
    · rfl
    · rfl
    · omega

theorem slot_key_there {w : World} {g : Nat} {t : TypeId} {u v : Value} {old : List Value} (h : AtN w g t (u :: v :: old)) : w.there g 2 old.length := fun j hj =>
  ⟨by rw [h.cell (2 + j) (v := old[j]) (by rw [show 2 + j = j + 1 + 1 by omega, List.getElem?_cons_succ, List.getElem?_cons_succ, List.getElem?_eq_getElem hj])]; rfl, h.frozen _⟩

theorem rd_rangeAt {w : World} {g o n c : Nat} {l : List UInt8} (h : Rd w (.slice (some ⟨g, o, none⟩) n c) l) : w.rangeAt g o (l.map bv) := fun j v hv => by
  obtain ⟨_, _, _, e, -, -, -, -, h5⟩ := h
  cases e
  rw [List.getElem?_map] at hv
  cases hj : l[j]? with
  | none => rw [hj] at hv; cases hv
  | some u =>
    rw [hj] at hv
    cases hv
    have := h5 _ rfl j u hj
    rwa [Addr.add_mid] at this

/-- in the midst of reading: the slot in block g, the reader at block p -/
structure KyIn (w : World) (g0 g p : Nat) (d : Option Nat) (r : List UInt8) (v : Value) (k : List UInt8) (wr : World) : Prop where
  eye : Eye wr p d r 0
  new : New w wr
  g0p : ¬ g0 = p
  gp : ¬ g = p
  g0g : ¬ g0 = g
  gd : ∀ k, d = some k → ¬ k = g
  pw : w.heap.size ≤ p
  gw : w.heap.size ≤ g
  res : AtN wr g0 71 (sCells none)
  cur : AtN wr g 71 (.bool true :: v :: k.map bv)

section
variable {w wr w2 : World} {g0 g p : Nat} {d : Option Nat} {r r' : List UInt8} {v : Value} {k k' : List UInt8}

theorem KyIn.step {e : Int} (h : KyIn w g0 g p d r v k wr) (E : EyeTo wr p d r' e w2) (he : e = 0) : KyIn w g0 g p d r' v k w2 := by
  subst he
  exact ⟨E.1, New.eye h.new E h.pw, h.g0p, h.gp, h.g0g, h.gd, h.pw, h.gw, h.res.only E.2 h.g0p, h.cur.only E.2 h.gp⟩

theorem KyIn.setV (h : KyIn w g0 g p d r v k wr) (u : Value) : KyIn w g0 g p d r u k (wr.setCell ⟨g, 1, none⟩ u) :=
  ⟨h.eye.only (only_cell wr g 1 u) (fun e => h.gp e.symm) h.gd, Below.trans h.new ((only_cell wr g 1 u).below h.new.size (fun k hk => by subst hk; exact h.gw)), h.g0p, h.gp, h.g0g, h.gd, h.pw, h.gw, h.res.only (only_cell wr g 1 u) h.g0g, h.cur.set 1 u⟩

theorem KyIn.setK (h : KyIn w g0 g p d r v k wr) (hk : k.length = 32) (hk' : k'.length = 32) : KyIn w g0 g p d r v k' (wr.setCells g 2 (k'.map bv)) := by
  obtain ⟨h1, h2⟩ := slot_key_set h.cur (new := k'.map bv) (by simp [hk, hk'])
  exact ⟨h.eye.only h2 (fun e => h.gp e.symm) h.gd, Below.trans h.new (h2.below h.new.size (fun k hk => by subst hk; exact h.gw)), h.g0p, h.gp, h.g0g, h.gd, h.pw, h.gw, h.res.only h2 h.g0g, h1⟩
end

theorem eAt16 {b : List UInt8} {k m : Nat} (h : k + m ≤ b.length) : eTake m (b.drop k) 0 = ((b.drop k).take m, b.drop (k + m), 0) := by
  rw [eTake_ok m (b.drop k) (by rw [List.length_drop]; omega), List.drop_drop]

def PrsTo (w : World) (b : List UInt8) (e : Ending) (w' : World) : Prop := e = .returned (.tuple #[.agg (sCells (keyDec b)).toArray, .bool (keyDec b).isSome]) ∧ New w w'

set_option maxHeartbeats 2000000 in
theorem keyParsed (w : World) (x : Value) (b : List UInt8) (hx : Rd w x b) (hb : b.length = 128) : Calls Try.prog 56 #[x] w (PrsTo w b) := by
  have HX := Lib.hid hx
  have HB : Hid (b.length = 128) := Lib.hid hb
  obtain ⟨O, HO⟩ : ∃ O, Hid (keyDec b = O) := ⟨_, Lib.hid rfl⟩
  unfold PrsTo
  rw [HO.out]
  clear hx hb
  have hz := zSlot_run
  go_enter Try.func56, Try.ntmps56
  go_upto_region 1 with fail
  generalize hw1 : World.alloc w _ = w1
  have HG1 : AtN w1 w.heap.size 71 (sCells none) := by rw [← hw1]; exact heap_alloc_new _ _
  have N1 : New w w1 := by rw [← hw1]; exact (Below.refl _ _).alloc (Nat.le_refl _) _
  have hz1 : w1.heap.size = w.heap.size + 1 := by rw [← hw1]; simp
  clear hw1
  go_wp2_with fail
  refine (eyeOpen w1 x b (HX.out.new N1) (by rw [HB.out]; decide)).mono ?_
  rintro _ w2 ⟨p, d, rfl, hp2, E2, hd2, N2⟩
  have HR := Lib.hid (eyeRaw w2 p d b 0 4 E2 (by rw [HB.out]; decide))
  have hpl : p < w2.heap.size := by obtain ⟨v, hv, -⟩ := E2; exact lt_of_block hv
  have hz2 := N2.size
  clear E2
  go_wp2_with fail
  refine HR.out.mono ?_
  rintro _ w3 ⟨ar, nr, cr, rfl, -, -, E3⟩
  rw [show eTake 4 b 0 = (b.take 4, b.drop 4, 0) from eTake_ok 4 b (by rw [HB.out]; decide)] at E3
  dsimp only at E3
  have hz3 := E3.2.size
  clear HR
  have hbl := bSlot1_run
  go_upto_region 4 with (refine wpList_store_row rfl 71 _ _ rfl w3.heap.size (sCells (some (0, List.replicate 32 0))).toArray rfl rfl _ _ (heap_alloc_new _ _) infoSlot rfl (all_oneCell_toArray (sCells_one _)) ?_)
  generalize hw4 : World.setRow _ _ _ = wr
  have N4 : New w3 wr := by rw [← hw4]; exact below_setRow ((Below.refl _ _).alloc (Nat.le_refl _) _) (Nat.le_refl _) _
  have HI : Hid (KyIn w w.heap.size w3.heap.size p d (b.drop 4) (.int .i64 0) (List.replicate 32 0) wr) := Lib.hid (by
    refine ⟨E3.1.new N4, New.trans (Below.trans (New.trans N1 N2) (E3.2.below (by omega) (fun k hk => by omega))) N4, by omega, by omega, by omega, fun k hk => by have := hd2 k hk; omega, by omega, by omega, ((HG1.new N2).only E3.2 (by omega)).new N4, ?_⟩
    rw [← hw4]
    exact setRow_heap _ _ _ _ _ _ (heap_alloc_new _ _))
  clear hz1 hz2 hz3 hpl hp2 hd2 E3 N1 N2 N4 HG1 hw4 hbl hz
  obtain ⟨g, hg⟩ : ∃ g, w3.heap.size = g := ⟨_, rfl⟩
  rw [hg] at HI
  rw [hg]
  clear hg
  obtain ⟨g0, hg⟩ : ∃ g, w.heap.size = g := ⟨_, rfl⟩
  rw [hg] at HI
  rw [hg]
  have HB0 : Hid (w.heap.size ≤ g0) := Lib.hid (by omega)
  clear hg
  obtain ⟨n, HNn⟩ : ∃ n, Hid (keyFldB b = n) := ⟨_, Lib.hid rfl⟩
  obtain ⟨k, HKk⟩ : ∃ k, Hid (keyFldK b = k) := ⟨_, Lib.hid rfl⟩
  have HK32 : Hid (k.length = 32) := Lib.hid (by rw [← HKk.out]; unfold keyFldK; rw [List.length_take, List.length_drop, HB.out]; rfl)
  have hn64 : n < 18446744073709551616 := by
    rw [← HNn.out]
    have := val_lt ((b.drop 4).take 8)
    rw [List.length_take, List.length_drop, HB.out] at this
    exact this
  have HU := Lib.hid (eyeU64 wr p d (b.drop 4) 0 HI.out.eye)
  go_wp2_with fail
  refine HU.out.mono ?_
  rintro _ wn ⟨rfl, E⟩
  have hE := eAt16 (b := b) (k := 4) (m := 8) (by rw [HB.out]; decide)
  rw [show eNum 8 (b.drop 4) 0 = n by unfold eNum; rw [hE]; exact HNn.out]
  rw [hE] at E
  replace HI := Lib.hid (HI.out.step E rfl)
  clear E hE HU wr
  rename World => wr
  have y1 := HI.out.cur.frozen 1
  have x1 := HI.out.cur.cell 1 (v := .int .i64 0) rfl
  go_upto_region 5 with fail
  clear x1 y1
  replace HI := Lib.hid (HI.out.setV (.int .i64 (wrap64 (n : Int))))
  generalize wr.setCell ⟨g, 1, none⟩ (.int .i64 (wrap64 (n : Int))) = ws at *
  clear wr
  rename World => wr
  have HU := Lib.hid (eyeRaw wr p d (b.drop 12) 0 32 HI.out.eye (by rw [List.length_drop, HB.out]; decide))
  have hE := eAt16 (b := b) (k := 12) (m := 32) (by rw [HB.out]; decide)
  rw [show eTake (32 : Int) (b.drop 12) 0 = eTake ((32 : Nat) : Int) (b.drop 12) 0 from rfl, hE] at HU
  clear hE
  rw [show (b.drop 12).take 32 = k from HKk.out] at HU
  go_wp2_with fail
  refine HU.out.mono ?_
  rintro _ wn ⟨ar, nr, cr, rfl, hr, ho, E⟩
  replace HI := Lib.hid (HI.out.step E rfl)
  have hown := ho (by intro e; have := HK32.out; rw [e] at this; cases this)
  obtain ⟨ao, co, e, -, hao⟩ := ownSl_form hown
  cases e
  obtain ⟨gr, rfl, -⟩ := hao (by rw [HK32.out]; decide)
  rw [HK32.out] at hr
  have HRG := Lib.hid (rd_rangeAt hr)
  have hk32 := HK32.out
  rw [hk32]
  have HA : ∀ wx, (Instr.arrayAt 69 (.slice (some ⟨gr, 0, none⟩) 32 cr)).run Try.prog wx = .ok (.pointer (some ⟨gr, 0, none⟩)) wx := fun wx => run_arrayAt32 (some ⟨gr, 0, none⟩) 32 cr (by decide) wx
  clear E hr ho hown hao HU wr hk32
  rename World => wr
  have HTH : Hid (wr.there g 2 (k.map bv).toArray.size) := Lib.hid (by have := slot_key_there HI.out.cur; rw [List.length_map, List.length_replicate] at this; rw [List.size_toArray, List.length_map, HK32.out]; exact this)
  go_upto_region 6 with (first | refine wpList_load_mid rfl 69 _ rfl gr 0 rfl _ _ HRG.out Try.underlying69 rfl (by rw [List.length_map, HK32.out]; exact info32) ?_ | refine wpList_store_mid rfl 69 _ _ rfl g 2 (k.map bv).toArray rfl rfl HTH.out (by rw [List.size_toArray, List.length_map, HK32.out]; exact info32) (allOneB k) ?_)
  replace HI := Lib.hid (HI.out.setK List.length_replicate HK32.out)
  generalize wr.setCells g 2 (k.map bv) = ws at *
  clear HA HTH HRG wr
  rename World => wr
  have HW := Lib.hid (keyWithin wr (wrap64 (n : Int)) 0 1099511627776)
  have x1 := HI.out.cur.cell 1 (v := .int .i64 (wrap64 (n : Int))) rfl
  by_cases hw : n ≤ 1099511627776
  rotate_left
  · have hd : decide (0 ≤ wrap64 (n : Int) ∧ wrap64 (n : Int) ≤ 1099511627776) = false := by
      rw [decide_eq_false_iff_not, wrap64_i64]
      unfold IntKind.wrap
      simp [IntKind.signed, IntKind.bits]
      omega
    rw [hd] at HW
    have HN : Hid (O = none) := Lib.hid (by rw [← HO.out]; exact if_neg (fun h => hw (by rw [← HNn.out]; exact h.1)))
    clear hd hw hn64
    have hb0 := bSlot0_run
    go_wp2_with (first | (refine HW.out.mono ?_; rintro _ w6 ⟨rfl, rfl⟩) | refine wpList_store_row rfl 71 _ _ rfl g0 (sCells none).toArray rfl rfl _ _ HI.out.res infoSlot rfl (all_oneCell_toArray (sCells_one _)) ?_)
    refine bodyPost_ret (results_cell_tmp rfl _ _ g0 _ (sCells none).toArray _ _ rfl (setRow_heap _ _ _ _ _ _ HI.out.res) Try.underlying71 rfl infoSlot) rfl ?_
    exact ⟨by rw [HN.out]; rfl, below_setRow HI.out.new HB0.out _⟩
  have he : wrap64 (n : Int) = (n : Int) := wrap_small n (by omega)
  rw [he] at HI HW x1
  rw [he]
  have hd : decide (0 ≤ (n : Int) ∧ (n : Int) ≤ 1099511627776) = true := by simp; omega
  rw [hd] at HW
  have HC : Hid (wr.heap[g]? = some (.cells (sCells (some (n, k))).toArray 71)) := Lib.hid HI.out.cur
  have hok : KSlot.ok (some (n, k)) := fun p hp => by cases hp; exact ⟨hw, HK32.out⟩
  have HS : Hid ((Try.prog.info? 71).map (·.size) = some (sCells (some (n, k))).toArray.size) := Lib.hid (by rw [List.size_toArray, sCells_length hok]; exact infoSlot)
  have HENC := Lib.hid (keyEncoding wr n k hw HK32.out)
  have HW40 := Lib.hid hw
  have HOK := Lib.hid hok
  clear hd hw hn64 he hok
  go_wp2_with (first | (refine HW.out.mono ?_; rintro _ w6 ⟨rfl, rfl⟩) | refine wpList_load_row_w (by rfl) 71 _ rfl g rfl _ _ _ _ HC.out Try.underlying71 rfl HS.out ?_ | fail)
  refine HENC.out.mono ?_
  rintro _ w7 ⟨ge, rfl, hge, hrow, N7⟩
  have hrd := rd_of_row hrow (by rw [keyEnc_length HK32.out]; decide)
  rw [keyEnc_length HK32.out] at hrd
  have N7 := Lib.hid N7
  have HG0 : Hid (AtN w7 g0 71 (sCells none)) := Lib.hid (HI.out.res.new N7.out)
  have HC7 : Hid (w7.heap[g]? = some (.cells (sCells (some (n, k))).toArray 71)) := Lib.hid (AtN.new (cs := sCells (some (n, k))) HC.out N7.out)
  have HN7 : Hid (New w w7) := Lib.hid (New.trans HI.out.new N7.out)
  have HQ := Lib.hid (bytesEq w7 _ _ b (keyEnc n k) (HX.out.new HN7.out) hrd)
  have HV : Hid (∀ h : b = keyEnc n k, O = some (n, k)) := Lib.hid (fun h => by
    rw [← HO.out]
    unfold keyDec
    rw [HNn.out, HKk.out, if_pos ⟨HW40.out, HK32.out, h.symm⟩])
  have HV2 : Hid (∀ h : ¬ b = keyEnc n k, O = none) := Lib.hid (fun h => by
    rw [← HO.out]
    unfold keyDec
    rw [HNn.out, HKk.out, if_neg (fun e => h e.2.2.symm)])
  clear hge hrow hrd HENC HC HI HO HNn HKk HW x1
  by_cases hb : b = keyEnc n k
  · rw [decide_eq_true hb] at HQ
    have HE := Lib.hid (HV.out hb)
    clear HV HV2 hb
    go_wp2_with (first | (refine HQ.out.mono ?_; rintro _ w8 ⟨rfl, rfl⟩) | refine wpList_load_row rfl 71 _ rfl g rfl _ _ _ _ HC7.out Try.underlying71 rfl HS.out ?_ | refine wpList_store_row rfl 71 _ _ rfl g0 (sCells (some (n, k))).toArray rfl rfl _ _ HG0.out HS.out (by rw [List.size_toArray, List.size_toArray, sCells_length HOK.out]; rfl) (all_oneCell_toArray (sCells_one _)) ?_)
    refine bodyPost_ret (results_cell_tmp rfl _ _ g0 _ (sCells (some (n, k))).toArray _ _ rfl (setRow_heap _ _ _ _ _ _ HG0.out) Try.underlying71 rfl HS.out) rfl ?_
    exact ⟨by rw [HE.out]; rfl, below_setRow HN7.out HB0.out _⟩
  · rw [decide_eq_false hb] at HQ
    have HE := Lib.hid (HV2.out hb)
    clear HV HV2 hb
    have hb0 := bSlot0_run
    go_wp2_with (first | (refine HQ.out.mono ?_; rintro _ w8 ⟨rfl, rfl⟩) | refine wpList_store_row rfl 71 _ _ rfl g0 (sCells none).toArray rfl rfl _ _ HG0.out infoSlot rfl (all_oneCell_toArray (sCells_one _)) ?_)
    refine bodyPost_ret (results_cell_tmp rfl _ _ g0 _ (sCells none).toArray _ _ rfl (setRow_heap _ _ _ _ _ _ HG0.out) Try.underlying71 rfl infoSlot) rfl ?_
    exact ⟨by rw [HE.out]; rfl, below_setRow HN7.out HB0.out _⟩

end Go.Proofs.Ytnekcdpfphgpbaa
