/-
  Write of one sector.
-/
import Derived.Test.YtmalbfpipdebaaaDskPend
namespace Go.Proofs.Ytmalbfpipdebaaa
set_option linter.unusedVariables false
set_option linter.unusedSimpArgs false
open Go.RowKit

theorem exec_load128 {a : Act} {o : Oper} {x : Operand} {g off : Nat} {b : List UInt8} {w : World} (ho : o.op = .load 48 x) (hx : a.eval x = .pointer (some ⟨g, off, none⟩)) (h : w.rangeAt g off (b.map bv)) (hb : b.length = 128) :
    (execOp a.eval o).run Try.prog w = .ok (.value (.agg (b.map bv).toArray)) w := by
  unfold execOp
  simp only [ho, hx, Sem.run_bind, Sem.run_pure, Result.andThen_ok, run_loadAt_mid w g off 48 (b.map bv) _ h Try.underlying48 rfl (by rw [List.length_map, hb]; exact info128)]

theorem exec_arrayAt128 {a : Act} {o : Oper} {x : Operand} {ad : Option Addr} {n c : Nat} {w : World} (ho : o.op = .sliceToArrayPointer 48 x) (hx : a.eval x = .slice ad n c) (h : 128 ≤ n) :
    (execOp a.eval o).run Try.prog w = .ok (.value (.pointer ad)) w := by
  unfold execOp
  simp only [ho, hx, Sem.run_bind, Sem.run_pure, Result.andThen_ok, run_arrayAt128 ad n c h]

theorem exec_buildW {a : Act} {o : Oper} {x y : Operand} {s : Nat} {b : List UInt8} {w : World} (ho : o.op = .build 51 #[(0, x), (1, y)]) (hx : a.eval x = .int .i64 (s : Int)) (hy : a.eval y = .agg (b.map bv).toArray) (hb : b.length = 128) :
    (execOp a.eval o).run Try.prog w = .ok (.value (.agg (wcells (s, b)).toArray)) w := by
  have h := run_build_write s b hb w
  unfold execOp
  simp only [ho, List.map_toArray, List.map_cons, List.map_nil, hx, hy, Sem.run_bind, Sem.run_pure, h, Result.andThen_ok]

theorem wp_rowW {o : Oper} {a : Act} {w : World} {K : Act → World → Prop} {Q : Exit → Act → World → Prop} {x : Operand} {s : Nat} {b : List UInt8} (ho : o.op = .buildSlice 44 1 #[(0, x)]) (hx : a.eval x = .agg (wcells (s, b)).toArray) (hb : b.length = 128)
    (h : K (a.put o.dst (.slice (some ⟨w.heap.size, 0, none⟩) 1 1)) (w.alloc (.cells (wcells (s, b)).toArray 51))) : o.wp Try.prog a w K Q := by
  have hr := run_row_write s b hb w
  unfold Oper.wp execOp
  simp only [ho, List.map_toArray, List.map_cons, List.map_nil, hx, Sem.run_bind, Sem.run_pure, hr, Result.andThen_ok]
  exact h

/-- what the loop of Write leaves -/
structure WrIn (w : World) (q : Int) (n g gd gl cd cl : Nat) (F : Nat → Prop) (vp : Value) (D L : List UInt8) (P : List Wr) (vp' : Value) (wr : World) : Prop where
  dsk : Dsk q wr n g gd gl cd cl vp' D L P
  only : Only F w wr
  near : blk vp' = blk vp ∨ ∀ k, blk vp' = some k → w.heap.size ≤ k




set_option maxRecDepth 100000 in
set_option maxHeartbeats 4000000 in
/-- whole sectors that there are, the power on -/
theorem diskWriteN {q : Int} {w : World} {n g : Nat} {F : Nat → Prop} {D L : List UInt8} {P : List Wr} (hD : Dvc q w n g F D L P) (hq : q ≠ 0) (s m : Nat) (hs : s + m ≤ n) (hm : 0 < m) (gb ob cb : Nat) (b : List UInt8) (hrb : Rd w (.slice (some ⟨gb, ob, none⟩) (128 * m) cb) b) (hgb : ¬ F gb) (hP : P.length + m ≤ 1000000) :
    Calls Try.prog 11 #[.pointer (some ⟨g, 0, none⟩), .int .i64 (s : Int), .slice (some ⟨gb, ob, none⟩) (128 * m) cb] w fun e w' => e = .returned (.int .i64 0) ∧ DvcTo (nextQ q) w n g F D (lay L s b) (P ++ chunks s b m) w' := by
  obtain ⟨gd, gl, cd, cl, vp, h0, f1, f2, f3, f4⟩ := hD
  have HRB := Lib.hid hrb
  have hbl : b.length = 128 * m := hrb.len
  have HBL := Lib.hid hbl
  have hcb : 128 * m ≤ cb ∧ cb ≤ maxLen := by obtain ⟨_, _, _, e, -, h2, h3, -⟩ := hrb; cases e; exact ⟨h2, h3⟩
  have hlt : gb < w.heap.size := hrb.lt (k := gb) rfl (by intro e; rw [e] at hbl; simp at hbl; omega)
  have HLT := Lib.hid hlt
  have hfew := h0.few
  have HS : Hid (Calls Try.prog 16 #[.slice (some ⟨gb, ob, none⟩) (128 * m) cb] w fun e w' => e = .returned (.tuple #[.int .i64 (m : Int), .bool true]) ∧ w = w') := by
    have := diskSectors w (some ⟨gb, ob, none⟩) (128 * m) cb (by omega)
    rw [show 128 * m / 128 = m by omega, show decide (128 * m % 128 = 0) = true by simp] at this
    exact Lib.hid this
  have HH : Hid (Calls Try.prog 19 #[.pointer (some ⟨g, 0, none⟩), .int .i64 (s : Int), .int .i64 (m : Int)] w fun e w' => e = .returned (.bool true) ∧ w = w') := by
    have := diskHasN h0 (s : Int) (m : Int) (by omega)
    rw [show decide (0 ≤ (s : Int) ∧ 0 ≤ (m : Int) ∧ (m : Int) ≤ (n : Int) - (s : Int)) = true by simp; omega] at this
    exact Lib.hid this
  have HX : Hid (Calls Try.prog 20 #[.pointer (some ⟨g, 0, none⟩)] w fun e w' => e = .returned (.bool true) ∧ Dsk (nextQ q) w' n g gd gl cd cl vp D L P ∧ Only (fun k => k = g) w w') := by
    have := diskCall h0
    rw [show decide (q ≠ 0) = true by simpa using hq] at this
    exact Lib.hid this
  have HPI : Hid (∀ wx (j : Nat), j < m → Calls Try.prog 21 #[.slice (some ⟨gb, ob, none⟩) (128 * m) cb, .int .i64 (j : Int), .int .i64 1] wx fun e w' => e = .returned (.slice (some ⟨gb, ob + 128 * j, none⟩) 128 (cb - 128 * j)) ∧ wx = w') := by
    refine Lib.hid (fun wx j hj => ?_)
    have := diskPieceN wx gb ob (128 * m) cb j 1 (by omega) (by omega)
    rw [pieceAt_pos (m := 1) (by omega) (by decide)] at this
    exact this
  have hf4 : Hid (∀ k, blk vp = some k → F k) := Lib.hid f4
  clear hrb hbl hlt h0 hq f4
  generalize hm128 : 128 * m = M at *
  have HM := Lib.hid hm128
  clear hm128
  go_enter Try.func11, Try.ntmps11
  go_wp2_with fail
  refine HS.out.mono ?_
  rintro e w1 ⟨rfl, rfl⟩
  go_wp2_with fail
  refine HH.out.mono ?_
  rintro e w1 ⟨rfl, rfl⟩
  go_wp2_with fail
  refine HX.out.mono ?_
  rintro e w1 ⟨rfl, hd1, ho1⟩
  have HI0 : Hid (WrIn w (nextQ q) n g gd gl cd cl F vp D L (P ++ chunks s b 0) vp w1) := Lib.hid (by
    rw [show P ++ chunks s b 0 = P by simp [chunks]]
    exact ⟨hd1, ho1.mono (fun i _ hi => by rw [show i = g from hi]; exact f1), .inl rfl⟩)
  clear HS HH HX hd1 ho1
  go_wp2
  go_loopw [26] (fun i wr => ∃ j : Nat, j ≤ m ∧ i = .int .i64 j ∧ ∃ vp', WrIn w (nextQ q) n g gd gl cd cl F vp D L (P ++ chunks s b j) vp' wr) (fun i _ => m - (intOf i).toNat)
  case atStart => exact ⟨0, Nat.zero_le _, rfl, vp, HI0.out⟩
  case round =>
    clear HI0
    obtain ⟨j, hj, rfl, vp0, hin⟩ := hrel
    by_cases hjm : j < m
    · have HI := Lib.hid hin.dsk
      have HNEAR := Lib.hid hin.near
      have HIO := Lib.hid hin.only
      have hPl : (P ++ chunks s b j).length ≤ 1000000 := by rw [List.length_append, chunks_length]; omega
      have HP := Lib.hid hPl
      have HF4 : Hid (∀ i, blk vp0 = some i → i < w.heap.size → F i) := by
        refine Lib.hid (fun i hi hl => ?_)
        rcases HNEAR.out with e | e
        · exact hf4.out i (by rw [← e]; exact hi)
        · have := e i hi; omega
      have hfv' : ∀ i, i < w.heap.size → blk vp0 = some i → F i := fun i hl hi => HF4.out i hi hl
      have hsn : s + j < n := by omega
      obtain ⟨sj, HSJ⟩ : ∃ sj, Hid (s + j = sj) := ⟨_, Lib.hid rfl⟩
      obtain ⟨bj, HBJ⟩ : ∃ bj, Hid (sec b j = bj) := ⟨_, Lib.hid rfl⟩
      have hsj : sj < n := by rw [← HSJ.out]; exact hsn
      have HB : Hid (bj.length = 128) := Lib.hid (by rw [← HBJ.out]; exact sec_length (by rw [HBL.out, ← HM.out]; omega))
      have HBw : Hid (World.rangeAt w gb (ob + 128 * j) (bj.map bv)) := Lib.hid (by rw [← HBJ.out]; exact rd_range HRB.out j)
      have HPJ := Lib.hid (fun wx => HPI.out wx j hjm)
      clear hin
      go_wp2_with fail
      have HBd : Hid (World.rangeAt wr.drew gb (ob + 128 * j) (bj.map bv)) := Lib.hid (range_same HBw.out (HIO.out.block _ HLT.out hgb))
      refine region_ordT (fun wx => World.rangeAt wx gb (ob + 128 * j) (bj.map bv)) (.take 0 (.take 1 (.take 2 (.take 3 (.take 5 (.take 6 (.take 7 (.take 8 (.take 9 (.two 4 10 (.only 10 (.take 11 (.take 12 (.take 13 (.only 14 (.only 15 (.take 16 (.take 17 (.only 18 .nil))))))))) (.take 11 (.take 12 (.take 13 (.two 4 14 (.only 14 (.only 15 (.take 16 (.take 17 (.only 18 .nil))))) (.only 4 (.only 15 (.take 16 (.take 17 (.only 18 .nil))))))))))))))))))) (by kernel_rfl) (by kernel_rfl) HBd.out (fun _ => ?_)
      have HDd := Lib.hid HI.out.drew
      have NNd : Hid (Only F w wr.drew) := Lib.hid HIO.out.drew
      clear HI HIO
      generalize wr.drew = wd at *
      have hwr : IntKind.i64.wrap ((s : Int) + (j : Int)) = (sj : Int) := by rw [IntWalk.i64_in _ (by omega), ← HSJ.out]; omega
      iterate 9 (apply ordT_take; (simp only [List.getElem?_toArray, List.getElem?_cons_succ, List.getElem?_cons_zero]; rfl); rfl; (intro w hSw; (try dsimp only at hSw); go_simp; try with_reducible rfl); intro _; try simp only [Act.put, List.setIfInBounds_toArray, List.set_cons_zero, List.set_cons_succ])
      clear hwr
      generalize hPJ : P ++ chunks s b j = PJ at *
      have HPE := Lib.hid hPJ
      clear hPJ
      (apply ordT_two; (simp only [List.getElem?_toArray, List.getElem?_cons_succ, List.getElem?_cons_zero]; rfl); rfl; (simp only [List.getElem?_toArray, List.getElem?_cons_succ, List.getElem?_cons_zero]; rfl); rfl)
      · intro K hK
        obtain ⟨-, -, c2, -⟩ := HDd.out.cells
        go_simp
        clear c2
        refine hK.out _ _ (HBd.out) (fun _ => ?_)
        clear hK K
        try simp only [Act.put, List.setIfInBounds_toArray, List.set_cons_zero, List.set_cons_succ]
        (apply ordT_only; (simp only [List.getElem?_toArray, List.getElem?_cons_succ, List.getElem?_cons_zero]; rfl); rfl; intro K hK)
        go_simp
        refine (HPJ.out wd).mono ?_
        rintro e w1 ⟨rfl, rfl⟩
        refine hK.out _ _ (HBd.out) (fun _ => ?_)
        clear hK K
        try simp only [Act.put, List.setIfInBounds_toArray, List.set_cons_zero, List.set_cons_succ]
        (apply ordT_take; (simp only [List.getElem?_toArray, List.getElem?_cons_succ, List.getElem?_cons_zero]; rfl); rfl; (intro w hSw; exact exec_arrayAt128 rfl rfl (Nat.le_refl _)); intro _; try simp only [Act.put, List.setIfInBounds_toArray, List.set_cons_zero, List.set_cons_succ])
        (apply ordT_take; (simp only [List.getElem?_toArray, List.getElem?_cons_succ, List.getElem?_cons_zero]; rfl); rfl; (intro w hSw; exact exec_load128 rfl rfl hSw HB.out); intro _; try simp only [Act.put, List.setIfInBounds_toArray, List.set_cons_zero, List.set_cons_succ])
        (apply ordT_take; (simp only [List.getElem?_toArray, List.getElem?_cons_succ, List.getElem?_cons_zero]; rfl); rfl; (intro w hSw; exact exec_buildW (s := sj) (b := bj) rfl rfl rfl HB.out); intro _; try simp only [Act.put, List.setIfInBounds_toArray, List.set_cons_zero, List.set_cons_succ])
        (apply ordT_only; (simp only [List.getElem?_toArray, List.getElem?_cons_succ, List.getElem?_cons_zero]; rfl); rfl; intro K hK)
        refine wp_rowW (s := sj) (b := bj) rfl rfl HB.out ?_
        generalize hwl : World.alloc wd _ = wl
        have HR : Hid (wl.heap[wd.heap.size]? = some (.cells (wcells (sj, bj)).toArray 51 (0, 0))) := Lib.hid (by rw [← hwl]; exact heap_alloc_new _ _)
        have Nl : New wd wl := by rw [← hwl]; exact (Below.refl _ _).alloc (Nat.le_refl _) _
        have HDl := Lib.hid (HDd.out.new Nl)
        have NNl := Lib.hid (NNd.out.trans (Nl.only (F := F)) (fun _ _ h => h))
        have HBl := Lib.hid (range_same HBd.out (Nl.block _ (Nat.lt_of_lt_of_le HLT.out NNd.out.size)))
        clear hwl Nl
        generalize wd.heap.size = r at *
        refine hK.out _ _ (HBl.out) (fun _ => ?_)
        clear hK K
        try simp only [Act.put, List.setIfInBounds_toArray, List.set_cons_zero, List.set_cons_succ]
        obtain ⟨vp', w', hr, h2, h3, h4⟩ := run_append_write HDl.out.pend HB.out HP.out HR.out
        obtain ⟨av, nv, cv, rfl⟩ : ∃ a n c, vp' = .slice a n c := by
          rcases h2.2 with ⟨e, -⟩ | ⟨_, _, _, e, -⟩
          · exact ⟨_, _, _, e⟩
          · exact ⟨_, _, _, e⟩
        have HDs := Lib.hid (HDl.out.setPend (p := (sj, bj)) h3 h2 ⟨hsj, HB.out⟩ h4)
        have hgx : w'.heap[g]? = _ := (h3.block _ (lt_of_block HDl.out.blk) HDl.out.apart.2.2.1).trans HDl.out.blk
        have hfv : ∀ i, blk vp0 = some i → i < w.heap.size → F i := HF4.out
        have HB2 := Lib.hid (range_same HBl.out (h3.block _ (Nat.lt_of_lt_of_le HLT.out NNl.out.size) (fun e => hgb (hfv _ e HLT.out))))
        have c2 : w'.cell? ⟨g, 2, none⟩ = some vp0 := by rw [cell_of_row w' g 2 _ _ _ hgx]; rfl
        have z2 : w'.frozen? ⟨g, 2, none⟩ = false := frozen_of_row _ _ 2 _ _ hgx
        have HO := Lib.hid ((NNl.out.trans h3 hfv').setCell (p := ⟨g, 2, none⟩) (fun _ => f1) (.slice av nv cv))
        have HB3 : Hid (World.rangeAt (w'.setCell ⟨g, 2, none⟩ (.slice av nv cv)) gb (ob + 128 * j) (bj.map bv)) := Lib.hid (range_same HB2.out (heap_setCell_other _ _ _ _ (fun e => hgb (by rw [show gb = g from e]; exact f1))))
        have HNR : Hid (blk (.slice av nv cv) = blk vp ∨ ∀ k, blk (.slice av nv cv) = some k → w.heap.size ≤ k) := by
          refine Lib.hid ?_
          rcases h4 with e | e
          · rcases HNEAR.out with e' | e'
            · exact .inl (e.trans e')
            · exact .inr (fun k hk => e' k (by rw [← e]; exact hk))
          · exact .inr (fun k hk => Nat.le_trans NNl.out.size (e k hk))
        clear h2 h3 h4 hgx hfv
        (apply ordT_only; (simp only [List.getElem?_toArray, List.getElem?_cons_succ, List.getElem?_cons_zero]; rfl); rfl; intro K hK)
        refine oper_append _ _ 44 rfl _ _ rfl rfl hr ?_
        clear hr
        refine hK.out _ _ (HB2.out) (fun _ => ?_)
        clear hK K
        try simp only [Act.put, List.setIfInBounds_toArray, List.set_cons_zero, List.set_cons_succ]
        iterate 2 (apply ordT_take; (simp only [List.getElem?_toArray, List.getElem?_cons_succ, List.getElem?_cons_zero]; rfl); rfl; (intro w hSw; (try dsimp only at hSw); go_simp; try with_reducible rfl); intro _; try simp only [Act.put, List.setIfInBounds_toArray, List.set_cons_zero, List.set_cons_succ])
        (apply ordT_only; (simp only [List.getElem?_toArray, List.getElem?_cons_succ, List.getElem?_cons_zero]; rfl); rfl; intro K hK)
        go_simp
        refine hK.out _ _ (HB3.out) (fun _ => ?_)
        clear hK K
        try simp only [Act.put, List.setIfInBounds_toArray, List.set_cons_zero, List.set_cons_succ]
        apply ordT_done
        go_wp2
        go_roundw
        case rel => exact ⟨j + 1, by omega, by go_num, _, by rw [chunks_succ, ← List.append_assoc, HPE.out, HSJ.out, HBJ.out]; exact ⟨HDs.out, HO.out, HNR.out⟩⟩
        case measure => simp [intOf]; omega
      · intro K hK
        go_simp
        refine (HPJ.out wd).mono ?_
        rintro e w1 ⟨rfl, rfl⟩
        refine hK.out _ _ (HBd.out) (fun _ => ?_)
        clear hK K
        try simp only [Act.put, List.setIfInBounds_toArray, List.set_cons_zero, List.set_cons_succ]
        (apply ordT_take; (simp only [List.getElem?_toArray, List.getElem?_cons_succ, List.getElem?_cons_zero]; rfl); rfl; (intro w hSw; exact exec_arrayAt128 rfl rfl (Nat.le_refl _)); intro _; try simp only [Act.put, List.setIfInBounds_toArray, List.set_cons_zero, List.set_cons_succ])
        (apply ordT_take; (simp only [List.getElem?_toArray, List.getElem?_cons_succ, List.getElem?_cons_zero]; rfl); rfl; (intro w hSw; exact exec_load128 rfl rfl hSw HB.out); intro _; try simp only [Act.put, List.setIfInBounds_toArray, List.set_cons_zero, List.set_cons_succ])
        (apply ordT_take; (simp only [List.getElem?_toArray, List.getElem?_cons_succ, List.getElem?_cons_zero]; rfl); rfl; (intro w hSw; exact exec_buildW (s := sj) (b := bj) rfl rfl rfl HB.out); intro _; try simp only [Act.put, List.setIfInBounds_toArray, List.set_cons_zero, List.set_cons_succ])
        (apply ordT_two; (simp only [List.getElem?_toArray, List.getElem?_cons_succ, List.getElem?_cons_zero]; rfl); rfl; (simp only [List.getElem?_toArray, List.getElem?_cons_succ, List.getElem?_cons_zero]; rfl); rfl)
        · intro K hK
          obtain ⟨-, -, c2, -⟩ := HDd.out.cells
          go_simp
          clear c2
          refine hK.out _ _ (HBd.out) (fun _ => ?_)
          clear hK K
          try simp only [Act.put, List.setIfInBounds_toArray, List.set_cons_zero, List.set_cons_succ]
          (apply ordT_only; (simp only [List.getElem?_toArray, List.getElem?_cons_succ, List.getElem?_cons_zero]; rfl); rfl; intro K hK)
          refine wp_rowW (s := sj) (b := bj) rfl rfl HB.out ?_
          generalize hwl : World.alloc wd _ = wl
          have HR : Hid (wl.heap[wd.heap.size]? = some (.cells (wcells (sj, bj)).toArray 51 (0, 0))) := Lib.hid (by rw [← hwl]; exact heap_alloc_new _ _)
          have Nl : New wd wl := by rw [← hwl]; exact (Below.refl _ _).alloc (Nat.le_refl _) _
          have HDl := Lib.hid (HDd.out.new Nl)
          have NNl := Lib.hid (NNd.out.trans (Nl.only (F := F)) (fun _ _ h => h))
          have HBl := Lib.hid (range_same HBd.out (Nl.block _ (Nat.lt_of_lt_of_le HLT.out NNd.out.size)))
          clear hwl Nl
          generalize wd.heap.size = r at *
          refine hK.out _ _ (HBl.out) (fun _ => ?_)
          clear hK K
          try simp only [Act.put, List.setIfInBounds_toArray, List.set_cons_zero, List.set_cons_succ]
          obtain ⟨vp', w', hr, h2, h3, h4⟩ := run_append_write HDl.out.pend HB.out HP.out HR.out
          obtain ⟨av, nv, cv, rfl⟩ : ∃ a n c, vp' = .slice a n c := by
            rcases h2.2 with ⟨e, -⟩ | ⟨_, _, _, e, -⟩
            · exact ⟨_, _, _, e⟩
            · exact ⟨_, _, _, e⟩
          have HDs := Lib.hid (HDl.out.setPend (p := (sj, bj)) h3 h2 ⟨hsj, HB.out⟩ h4)
          have hgx : w'.heap[g]? = _ := (h3.block _ (lt_of_block HDl.out.blk) HDl.out.apart.2.2.1).trans HDl.out.blk
          have hfv : ∀ i, blk vp0 = some i → i < w.heap.size → F i := HF4.out
          have HB2 := Lib.hid (range_same HBl.out (h3.block _ (Nat.lt_of_lt_of_le HLT.out NNl.out.size) (fun e => hgb (hfv _ e HLT.out))))
          have c2 : w'.cell? ⟨g, 2, none⟩ = some vp0 := by rw [cell_of_row w' g 2 _ _ _ hgx]; rfl
          have z2 : w'.frozen? ⟨g, 2, none⟩ = false := frozen_of_row _ _ 2 _ _ hgx
          have HO := Lib.hid ((NNl.out.trans h3 hfv').setCell (p := ⟨g, 2, none⟩) (fun _ => f1) (.slice av nv cv))
          have HB3 : Hid (World.rangeAt (w'.setCell ⟨g, 2, none⟩ (.slice av nv cv)) gb (ob + 128 * j) (bj.map bv)) := Lib.hid (range_same HB2.out (heap_setCell_other _ _ _ _ (fun e => hgb (by rw [show gb = g from e]; exact f1))))
          have HNR : Hid (blk (.slice av nv cv) = blk vp ∨ ∀ k, blk (.slice av nv cv) = some k → w.heap.size ≤ k) := by
            refine Lib.hid ?_
            rcases h4 with e | e
            · rcases HNEAR.out with e' | e'
              · exact .inl (e.trans e')
              · exact .inr (fun k hk => e' k (by rw [← e]; exact hk))
            · exact .inr (fun k hk => Nat.le_trans NNl.out.size (e k hk))
          clear h2 h3 h4 hgx hfv
          (apply ordT_only; (simp only [List.getElem?_toArray, List.getElem?_cons_succ, List.getElem?_cons_zero]; rfl); rfl; intro K hK)
          refine oper_append _ _ 44 rfl _ _ rfl rfl hr ?_
          clear hr
          refine hK.out _ _ (HB2.out) (fun _ => ?_)
          clear hK K
          try simp only [Act.put, List.setIfInBounds_toArray, List.set_cons_zero, List.set_cons_succ]
          iterate 2 (apply ordT_take; (simp only [List.getElem?_toArray, List.getElem?_cons_succ, List.getElem?_cons_zero]; rfl); rfl; (intro w hSw; (try dsimp only at hSw); go_simp; try with_reducible rfl); intro _; try simp only [Act.put, List.setIfInBounds_toArray, List.set_cons_zero, List.set_cons_succ])
          (apply ordT_only; (simp only [List.getElem?_toArray, List.getElem?_cons_succ, List.getElem?_cons_zero]; rfl); rfl; intro K hK)
          go_simp
          refine hK.out _ _ (HB3.out) (fun _ => ?_)
          clear hK K
          try simp only [Act.put, List.setIfInBounds_toArray, List.set_cons_zero, List.set_cons_succ]
          apply ordT_done
          go_wp2
          go_roundw
          case rel => exact ⟨j + 1, by omega, by go_num, _, by rw [chunks_succ, ← List.append_assoc, HPE.out, HSJ.out, HBJ.out]; exact ⟨HDs.out, HO.out, HNR.out⟩⟩
          case measure => simp [intOf]; omega
        · intro K hK
          refine wp_rowW (s := sj) (b := bj) rfl rfl HB.out ?_
          generalize hwl : World.alloc wd _ = wl
          have HR : Hid (wl.heap[wd.heap.size]? = some (.cells (wcells (sj, bj)).toArray 51 (0, 0))) := Lib.hid (by rw [← hwl]; exact heap_alloc_new _ _)
          have Nl : New wd wl := by rw [← hwl]; exact (Below.refl _ _).alloc (Nat.le_refl _) _
          have HDl := Lib.hid (HDd.out.new Nl)
          have NNl := Lib.hid (NNd.out.trans (Nl.only (F := F)) (fun _ _ h => h))
          have HBl := Lib.hid (range_same HBd.out (Nl.block _ (Nat.lt_of_lt_of_le HLT.out NNd.out.size)))
          clear hwl Nl
          generalize wd.heap.size = r at *
          refine hK.out _ _ (HBl.out) (fun _ => ?_)
          clear hK K
          try simp only [Act.put, List.setIfInBounds_toArray, List.set_cons_zero, List.set_cons_succ]
          (apply ordT_only; (simp only [List.getElem?_toArray, List.getElem?_cons_succ, List.getElem?_cons_zero]; rfl); rfl; intro K hK)
          obtain ⟨-, -, c2, -⟩ := HDl.out.cells
          go_simp
          clear c2
          refine hK.out _ _ (HBl.out) (fun _ => ?_)
          clear hK K
          try simp only [Act.put, List.setIfInBounds_toArray, List.set_cons_zero, List.set_cons_succ]
          obtain ⟨vp', w', hr, h2, h3, h4⟩ := run_append_write HDl.out.pend HB.out HP.out HR.out
          obtain ⟨av, nv, cv, rfl⟩ : ∃ a n c, vp' = .slice a n c := by
            rcases h2.2 with ⟨e, -⟩ | ⟨_, _, _, e, -⟩
            · exact ⟨_, _, _, e⟩
            · exact ⟨_, _, _, e⟩
          have HDs := Lib.hid (HDl.out.setPend (p := (sj, bj)) h3 h2 ⟨hsj, HB.out⟩ h4)
          have hgx : w'.heap[g]? = _ := (h3.block _ (lt_of_block HDl.out.blk) HDl.out.apart.2.2.1).trans HDl.out.blk
          have hfv : ∀ i, blk vp0 = some i → i < w.heap.size → F i := HF4.out
          have HB2 := Lib.hid (range_same HBl.out (h3.block _ (Nat.lt_of_lt_of_le HLT.out NNl.out.size) (fun e => hgb (hfv _ e HLT.out))))
          have c2 : w'.cell? ⟨g, 2, none⟩ = some vp0 := by rw [cell_of_row w' g 2 _ _ _ hgx]; rfl
          have z2 : w'.frozen? ⟨g, 2, none⟩ = false := frozen_of_row _ _ 2 _ _ hgx
          have HO := Lib.hid ((NNl.out.trans h3 hfv').setCell (p := ⟨g, 2, none⟩) (fun _ => f1) (.slice av nv cv))
          have HB3 : Hid (World.rangeAt (w'.setCell ⟨g, 2, none⟩ (.slice av nv cv)) gb (ob + 128 * j) (bj.map bv)) := Lib.hid (range_same HB2.out (heap_setCell_other _ _ _ _ (fun e => hgb (by rw [show gb = g from e]; exact f1))))
          have HNR : Hid (blk (.slice av nv cv) = blk vp ∨ ∀ k, blk (.slice av nv cv) = some k → w.heap.size ≤ k) := by
            refine Lib.hid ?_
            rcases h4 with e | e
            · rcases HNEAR.out with e' | e'
              · exact .inl (e.trans e')
              · exact .inr (fun k hk => e' k (by rw [← e]; exact hk))
            · exact .inr (fun k hk => Nat.le_trans NNl.out.size (e k hk))
          clear h2 h3 h4 hgx hfv
          (apply ordT_only; (simp only [List.getElem?_toArray, List.getElem?_cons_succ, List.getElem?_cons_zero]; rfl); rfl; intro K hK)
          refine oper_append _ _ 44 rfl _ _ rfl rfl hr ?_
          clear hr
          refine hK.out _ _ (HB2.out) (fun _ => ?_)
          clear hK K
          try simp only [Act.put, List.setIfInBounds_toArray, List.set_cons_zero, List.set_cons_succ]
          iterate 2 (apply ordT_take; (simp only [List.getElem?_toArray, List.getElem?_cons_succ, List.getElem?_cons_zero]; rfl); rfl; (intro w hSw; (try dsimp only at hSw); go_simp; try with_reducible rfl); intro _; try simp only [Act.put, List.setIfInBounds_toArray, List.set_cons_zero, List.set_cons_succ])
          (apply ordT_only; (simp only [List.getElem?_toArray, List.getElem?_cons_succ, List.getElem?_cons_zero]; rfl); rfl; intro K hK)
          go_simp
          refine hK.out _ _ (HB3.out) (fun _ => ?_)
          clear hK K
          try simp only [Act.put, List.setIfInBounds_toArray, List.set_cons_zero, List.set_cons_succ]
          apply ordT_done
          go_wp2
          go_roundw
          case rel => exact ⟨j + 1, by omega, by go_num, _, by rw [chunks_succ, ← List.append_assoc, HPE.out, HSJ.out, HBJ.out]; exact ⟨HDs.out, HO.out, HNR.out⟩⟩
          case measure => simp [intOf]; omega
    · obtain rfl : j = m := by omega
      have HI := Lib.hid hin
      clear hin HPI
      obtain ⟨-, c1, -, -⟩ := HI.out.dsk.cells
      have hcap := HI.out.dsk.capL
      have hlen := HI.out.dsk.lenL
      have HPL : Hid (∀ wx, Calls Try.prog 21 #[.slice (some ⟨gl, 0, none⟩) (128 * n) cl, .int .i64 (s : Int), .int .i64 (j : Int)] wx fun e w' => e = .returned (.slice (some ⟨gl, 128 * s, none⟩) M (cl - 128 * s)) ∧ wx = w') := by
        refine Lib.hid (fun wx => ?_)
        have := diskPieceN wx gl 0 (128 * n) cl s j (by omega) (by omega)
        rw [pieceAt_pos (m := j) (by omega) hm, Nat.zero_add, HM.out] at this
        exact this
      have hrd : Rd wr (.slice (some ⟨gb, ob, none⟩) M cb) b := HRB.out.only HI.out.only (fun k hk _ => by cases hk; exact hgb)
      have hMl := HM.out
      obtain ⟨wz, hcp, hz1, hz2⟩ := run_copy_any (cd := cl - 128 * s) HI.out.dsk.rowL (s := s) (m := M) (by omega) HBL.out (by omega) hrd
      have HZ := Lib.hid (HI.out.dsk.setL hz2 hz1 (by rw [lay_length (by rw [HBL.out]; omega)]; exact hlen))
      have HZO := Lib.hid (HI.out.only.trans hz2 (fun i _ hi => by rw [show i = gl from hi]; exact f3))
      clear hz1 hz2 hrd hcap hlen hMl
      generalize cl - 128 * s = t1 at *
      generalize 128 * s = t2 at *
      generalize 128 * n = t3 at c1 HPL
      go_wp2_with fail
      refine (HPL.out wr).mono ?_
      rintro e w1 ⟨rfl, rfl⟩
      go_wp2
      go_ret
      refine ⟨rfl, ⟨gd, gl, cd, cl, vp0, HZ.out, .inl f1, .inl f2, .inl f3, fun k hk => ?_⟩, HZO.out⟩
      rcases HI.out.near with e | e
      · exact .inl (hf4.out k (by rw [← e]; exact hk))
      · exact .inr (e k hk)

/-- no whole sectors -/
theorem diskWriteArg (w : World) (a : Int) (g : Nat) (ax : Option Addr) (m c : Nat) (hm : m ≤ 9223372036854775807) (h : m % 128 ≠ 0) :
    Calls Try.prog 11 #[.pointer (some ⟨g, 0, none⟩), .int .i64 a, .slice ax m c] w fun e w' => e = .returned (.int .i64 2) ∧ w = w' := by
  have HS := Lib.hid (diskSectors w ax m c hm)
  rw [show decide (m % 128 = 0) = false by simpa using h] at HS
  generalize m / 128 = k at *
  clear h hm
  go_enter Try.func11, Try.ntmps11
  go_wp2_with fail
  refine HS.out.mono ?_
  rintro e w1 ⟨rfl, rfl⟩
  go_wp2
  go_ret
  exact ⟨rfl, rfl⟩

/-- sectors that there aren't -/
theorem diskWriteRange {q : Int} {w : World} {n g : Nat} {F : Nat → Prop} {D L : List UInt8} {P : List Wr} (hD : Dvc q w n g F D L P) (a : Int) (ha : a ≤ 9223372036854775807) (ax : Option Addr) (m c : Nat) (hm : 128 * m ≤ 9223372036854775807) (h : ¬ (0 ≤ a ∧ (m : Int) ≤ (n : Int) - a)) :
    Calls Try.prog 11 #[.pointer (some ⟨g, 0, none⟩), .int .i64 a, .slice ax (128 * m) c] w fun e w' => e = .returned (.int .i64 20) ∧ w = w' := by
  obtain ⟨gd, gl, cd, cl, vp, h0, -⟩ := hD
  have HS := diskSectors w ax (128 * m) c hm
  rw [show 128 * m / 128 = m by omega, show decide (128 * m % 128 = 0) = true by simp] at HS
  replace HS := Lib.hid HS
  have HH := Lib.hid (diskHasN h0 a (m : Int) ha)
  rw [show decide (0 ≤ a ∧ 0 ≤ (m : Int) ∧ (m : Int) ≤ (n : Int) - a) = false by simp; omega] at HH
  clear h0 h hm
  generalize 128 * m = k at *
  go_enter Try.func11, Try.ntmps11
  go_wp2_with fail
  refine HS.out.mono ?_
  rintro e w1 ⟨rfl, rfl⟩
  go_wp2_with fail
  refine HH.out.mono ?_
  rintro e w1 ⟨rfl, rfl⟩
  go_wp2
  go_ret
  exact ⟨rfl, rfl⟩

/-- the power is off -/
theorem diskWriteOff {w : World} {n g : Nat} {F : Nat → Prop} {D L : List UInt8} {P : List Wr} (hD : Dvc 0 w n g F D L P) (s m : Nat) (hs : s + m ≤ n) (ax : Option Addr) (c : Nat) :
    Calls Try.prog 11 #[.pointer (some ⟨g, 0, none⟩), .int .i64 (s : Int), .slice ax (128 * m) c] w fun e w' => e = .returned (.int .i64 22) ∧ DvcTo 0 w n g F D L P w' := by
  obtain ⟨gd, gl, cd, cl, vp, h0, f1, f2, f3, f4⟩ := hD
  have hfew := h0.few
  have HS := diskSectors w ax (128 * m) c (by omega)
  rw [show 128 * m / 128 = m by omega, show decide (128 * m % 128 = 0) = true by simp] at HS
  replace HS := Lib.hid HS
  have HH := Lib.hid (diskHasN h0 (s : Int) (m : Int) (by omega))
  rw [show decide (0 ≤ (s : Int) ∧ 0 ≤ (m : Int) ∧ (m : Int) ≤ (n : Int) - (s : Int)) = true by simp; omega] at HH
  have HX : Hid (Calls Try.prog 20 #[.pointer (some ⟨g, 0, none⟩)] w fun e w' => e = .returned (.bool false) ∧ Dsk 0 w' n g gd gl cd cl vp D L P ∧ Only (fun k => k = g) w w') := Lib.hid (diskCall h0)
  clear h0
  generalize 128 * m = k at *
  go_enter Try.func11, Try.ntmps11
  go_wp2_with fail
  refine HS.out.mono ?_
  rintro e w1 ⟨rfl, rfl⟩
  go_wp2_with fail
  refine HH.out.mono ?_
  rintro e w1 ⟨rfl, rfl⟩
  go_wp2_with fail
  refine HX.out.mono ?_
  rintro e w1 ⟨rfl, hd1, ho1⟩
  have HD1 := Lib.hid hd1
  have HO1 := Lib.hid ho1
  clear hd1 ho1
  go_wp2
  go_ret
  exact ⟨rfl, ⟨gd, gl, cd, cl, vp, HD1.out, .inl f1, .inl f2, .inl f3, fun k hk => .inl (f4 k hk)⟩, HO1.out.mono (fun i _ hi => by rw [show i = g from hi]; exact f1)⟩

/-- one sector, no limit -/
theorem diskWrite {w : World} {n g : Nat} {F : Nat → Prop} {D L : List UInt8} {P : List Wr} (hD : Dev w n g F D L P) (s : Nat) (hs : s < n) (gb cb : Nat) (b : List UInt8) (hrb : RowB w gb b) (hb : b.length = 128) (hc : 128 ≤ cb ∧ cb ≤ maxLen) (hgb : ¬ F gb) (hP : P.length ≤ 100000) :
    Calls Try.prog 11 #[.pointer (some ⟨g, 0, none⟩), .int .i64 (s : Int), .slice (some ⟨gb, 0, none⟩) 128 cb] w fun e w' => e = .returned (.int .i64 0) ∧ DevTo w n g F D (lay L s b) (P ++ [(s, b)]) w' := by
  have hrd := hrb.rd (c := cb) (by rw [hb]; exact hc.1) hc.2
  rw [hb] at hrd
  have := diskWriteN hD (by decide) s 1 (by omega) (by decide) gb 0 cb b hrd hgb (by omega)
  rw [chunks_one s hb] at this
  exact this

end Go.Proofs.Ytmalbfpipdebaaa
