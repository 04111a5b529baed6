/-
  Write of one sector.
-/
import Derived.Test.YtmalbfpipdebaaaDskPend
namespace Go.Proofs.Ytmalbfpipdebaaa
set_option linter.unusedVariables false
set_option linter.unusedSimpArgs false
open Go.RowKit

theorem exec_load128 {a : Act} {o : Oper} {x : Operand} {g : Nat} {b : List UInt8} {w : World} (ho : o.op = .load 48 x) (hx : a.eval x = .pointer (some ⟨g, 0, none⟩)) (h : RowB w g b) (hb : b.length = 128) :
    (execOp a.eval o).run Try.prog w = .ok (.value (.agg (b.map bv).toArray)) w := by
  unfold execOp
  simp only [ho, hx, Sem.run_bind, Sem.run_pure, Result.andThen_ok, run_load128 h hb]

theorem exec_arrayAt128 {a : Act} {o : Oper} {x : Operand} {ad : Option Addr} {n c : Nat} {w : World} (ho : o.op = .sliceToArrayPointer 48 x) (hx : a.eval x = .slice ad n c) (h : 128 ≤ n) :
    (execOp a.eval o).run Try.prog w = .ok (.value (.pointer ad)) w := by
  unfold execOp
  simp only [ho, hx, Sem.run_bind, Sem.run_pure, Result.andThen_ok, run_arrayAt128 ad n c h]

theorem exec_buildW {a : Act} {o : Oper} {x y : Operand} {s : Nat} {b : List UInt8} {w : World} (ho : o.op = .build 51 #[(0, x), (1, y)]) (hx : a.eval x = .int .i64 (s : Int)) (hy : a.eval y = .agg (b.map bv).toArray) (hb : b.length = 128) :
    (execOp a.eval o).run Try.prog w = .ok (.value (.agg (wcells (s, b)).toArray)) w := by
  have h := run_build_write s b hb w
  unfold execOp
  simp only [ho, List.map_toArray, List.map_cons, List.map_nil, hx, hy, Sem.run_bind, Sem.run_pure, h, Result.andThen_ok]

theorem wp_rowW {o : Oper} {a : Act} {w : World} {K : Act → World → Prop} {Q : Exit → Act → World → Prop} {x : Operand} {s : Nat} {b : List UInt8} (ho : o.op = .buildSlice 44 1 #[(0, x)]) (hx : a.eval x = .agg (wcells (s, b)).toArray) (hb : b.length = 128)
    (h : K (a.put o.dst (.slice (some ⟨w.heap.size, 0, none⟩) 1 1)) (w.alloc (.cells (wcells (s, b)).toArray 51))) : o.wp Try.prog a w K Q := by
  have hr := run_row_write s b hb w
  unfold Oper.wp execOp
  simp only [ho, List.map_toArray, List.map_cons, List.map_nil, hx, Sem.run_bind, Sem.run_pure, hr, Result.andThen_ok]
  exact h

/-- what the loop of Write leaves -/
structure WrIn (w : World) (n g gd gl cd cl : Nat) (F : Nat → Prop) (vp : Value) (D L : List UInt8) (P : List Wr) (vp' : Value) (wr : World) : Prop where
  dsk : Dsk wr n g gd gl cd cl vp' D L P
  only : Only F w wr
  near : blk vp' = blk vp ∨ ∀ k, blk vp' = some k → w.heap.size ≤ k




set_option maxRecDepth 100000 in
set_option maxHeartbeats 4000000 in
theorem diskWrite {w : World} {n g : Nat} {F : Nat → Prop} {D L : List UInt8} {P : List Wr} (hD : Dev w n g F D L P) (s : Nat) (hs : s < n) (gb cb : Nat) (b : List UInt8) (hrb : RowB w gb b) (hb : b.length = 128) (hc : 128 ≤ cb ∧ cb ≤ maxLen) (hgb : ¬ F gb) (hP : P.length ≤ 1000000) :
    Calls Try.prog 11 #[.pointer (some ⟨g, 0, none⟩), .int .i64 (s : Int), .slice (some ⟨gb, 0, none⟩) 128 cb] w fun e w' => e = .returned (.int .i64 0) ∧ DevTo w n g F D (lay L s b) (P ++ [(s, b)]) w' := by
  obtain ⟨gd, gl, cd, cl, vp, h0, f1, f2, f3, f4⟩ := hD
  have HD := Lib.hid h0
  have HRB := Lib.hid hrb
  have HB := Lib.hid hb
  have HC := Lib.hid hc
  have HP := Lib.hid hP
  have hfew := h0.few
  have HS := Lib.hid (diskSectors w (some ⟨gb, 0, none⟩) 128 cb (by decide))
  have HH := Lib.hid (diskHas h0 s hs)
  have HX := Lib.hid (diskCall h0)
  have HPI : Hid (∀ wx, Calls Try.prog 21 #[.slice (some ⟨gb, 0, none⟩) 128 cb, .int .i64 0, .int .i64 1] wx fun e w' => e = .returned (.slice (some ⟨gb, 0, none⟩) 128 cb) ∧ wx = w') :=
    Lib.hid (fun wx => diskPiece wx gb 128 cb 0 hc.1 (by decide))
  clear hrb hb hP hc h0
  go_enter Try.func11, Try.ntmps11
  go_wp2_with fail
  refine HS.out.mono ?_
  rintro e w1 ⟨rfl, rfl⟩
  go_wp2_with fail
  refine HH.out.mono ?_
  rintro e w1 ⟨rfl, rfl⟩
  go_wp2_with fail
  refine HX.out.mono ?_
  rintro e w1 ⟨rfl, rfl⟩
  clear HS HH HX
  go_wp2
  go_loopw [26] (fun i wr => (i = .int .i64 0 ∧ wr = w) ∨ (i = .int .i64 1 ∧ ∃ vp', WrIn w n g gd gl cd cl F vp D L (P ++ [(s, b)]) vp' wr)) (fun i _ => (1 - intOf i).toNat)
  case atStart => exact .inl ⟨rfl, rfl⟩
  case round =>
    rcases hrel with ⟨rfl, rfl⟩ | ⟨rfl, vp', hin⟩
    · go_wp2_with fail
      refine region_ordT (fun wx => RowB wx gb b) (.take 0 (.take 1 (.take 2 (.take 3 (.take 5 (.take 6 (.take 7 (.take 8 (.take 9 (.two 4 10 (.only 10 (.take 11 (.take 12 (.take 13 (.only 14 (.only 15 (.take 16 (.take 17 (.only 18 .nil))))))))) (.take 11 (.take 12 (.take 13 (.two 4 14 (.only 14 (.only 15 (.take 16 (.take 17 (.only 18 .nil))))) (.only 4 (.only 15 (.take 16 (.take 17 (.only 18 .nil))))))))))))))))))) (by kernel_rfl) (by kernel_rfl) (HRB.out.same rfl) (fun _ => ?_)
      have HDd := Lib.hid HD.out.drew
      have HBd : Hid (RowB wr.drew gb b) := Lib.hid (HRB.out.same rfl)
      have NNd : Hid (New wr wr.drew) := Lib.hid ((Below.refl _ _).drew)
      generalize wr.drew = wd at *
      have hwr : IntKind.i64.wrap (s : Int) = (s : Int) := IntWalk.i64_in _ (by omega)
      iterate 9 (apply ordT_take; (simp only [List.getElem?_toArray, List.getElem?_cons_succ, List.getElem?_cons_zero]; rfl); rfl; (intro w hSw; (try dsimp only at hSw); go_simp; try with_reducible rfl); intro _; try simp only [Act.put, List.setIfInBounds_toArray, List.set_cons_zero, List.set_cons_succ])
      clear hwr
      (apply ordT_two; (simp only [List.getElem?_toArray, List.getElem?_cons_succ, List.getElem?_cons_zero]; rfl); rfl; (simp only [List.getElem?_toArray, List.getElem?_cons_succ, List.getElem?_cons_zero]; rfl); rfl)
      · intro K hK
        obtain ⟨-, -, c2, -⟩ := HDd.out.cells
        go_simp
        clear c2
        refine hK.out _ _ (HBd.out) (fun _ => ?_)
        clear hK K
        try simp only [Act.put, List.setIfInBounds_toArray, List.set_cons_zero, List.set_cons_succ]
        (apply ordT_only; (simp only [List.getElem?_toArray, List.getElem?_cons_succ, List.getElem?_cons_zero]; rfl); rfl; intro K hK)
        go_simp
        refine (HPI.out wd).mono ?_
        rintro e w1 ⟨rfl, rfl⟩
        refine hK.out _ _ (HBd.out) (fun _ => ?_)
        clear hK K
        try simp only [Act.put, List.setIfInBounds_toArray, List.set_cons_zero, List.set_cons_succ]
        (apply ordT_take; (simp only [List.getElem?_toArray, List.getElem?_cons_succ, List.getElem?_cons_zero]; rfl); rfl; (intro w hSw; exact exec_arrayAt128 rfl rfl (Nat.le_refl _)); intro _; try simp only [Act.put, List.setIfInBounds_toArray, List.set_cons_zero, List.set_cons_succ])
        (apply ordT_take; (simp only [List.getElem?_toArray, List.getElem?_cons_succ, List.getElem?_cons_zero]; rfl); rfl; (intro w hSw; exact exec_load128 rfl rfl hSw HB.out); intro _; try simp only [Act.put, List.setIfInBounds_toArray, List.set_cons_zero, List.set_cons_succ])
        (apply ordT_take; (simp only [List.getElem?_toArray, List.getElem?_cons_succ, List.getElem?_cons_zero]; rfl); rfl; (intro w hSw; exact exec_buildW (s := s) (b := b) rfl rfl rfl HB.out); intro _; try simp only [Act.put, List.setIfInBounds_toArray, List.set_cons_zero, List.set_cons_succ])
        (apply ordT_only; (simp only [List.getElem?_toArray, List.getElem?_cons_succ, List.getElem?_cons_zero]; rfl); rfl; intro K hK)
        refine wp_rowW (s := s) (b := b) rfl rfl HB.out ?_
        generalize hwl : World.alloc wd _ = wl
        have HR : Hid (wl.heap[wd.heap.size]? = some (.cells (wcells (s, b)).toArray 51 (0, 0))) := Lib.hid (by rw [← hwl]; exact heap_alloc_new _ _)
        have Nl : New wd wl := by rw [← hwl]; exact (Below.refl _ _).alloc (Nat.le_refl _) _
        have HDl := Lib.hid (HDd.out.new Nl)
        have NNl := Lib.hid (New.trans NNd.out Nl)
        have HBl := Lib.hid (HBd.out.same (Nl.block _ HBd.out.lt))
        clear hwl Nl
        generalize wd.heap.size = r at *
        refine hK.out _ _ (HBl.out) (fun _ => ?_)
        clear hK K
        try simp only [Act.put, List.setIfInBounds_toArray, List.set_cons_zero, List.set_cons_succ]
        obtain ⟨vp', w', hr, h2, h3, h4⟩ := run_append_write HDl.out.pend HB.out HP.out HR.out
        obtain ⟨av, nv, cv, rfl⟩ : ∃ a n c, vp' = .slice a n c := by
          rcases h2.2 with ⟨e, -⟩ | ⟨_, _, _, e, -⟩
          · exact ⟨_, _, _, e⟩
          · exact ⟨_, _, _, e⟩
        have HDs := Lib.hid (HDl.out.setPend (p := (s, b)) h3 h2 ⟨hs, HB.out⟩ h4)
        have hgx : w'.heap[g]? = _ := (h3.block _ (lt_of_block HDl.out.blk) HDl.out.apart.2.2.1).trans HDl.out.blk
        have HB2 := Lib.hid (HBl.out.same (h3.block _ HBl.out.lt (fun e => hgb (f4 _ e))))
        have c2 : w'.cell? ⟨g, 2, none⟩ = some vp := by rw [cell_of_row w' g 2 _ _ _ hgx]; rfl
        have z2 : w'.frozen? ⟨g, 2, none⟩ = false := frozen_of_row _ _ 2 _ _ hgx
        have HO := Lib.hid (((NNl.out.only (F := F)).trans h3 (fun i _ hi => f4 i hi)).setCell (p := ⟨g, 2, none⟩) (fun _ => f1) (.slice av nv cv))
        have HB3 : Hid (RowB (w'.setCell ⟨g, 2, none⟩ (.slice av nv cv)) gb b) := Lib.hid (HB2.out.same (heap_setCell_other _ _ _ _ (fun e => hgb (by rw [show gb = g from e]; exact f1))))
        have HNR : Hid (blk (.slice av nv cv) = blk vp ∨ ∀ k, blk (.slice av nv cv) = some k → wr.heap.size ≤ k) := Lib.hid (h4.imp_right (fun h k hk => Nat.le_trans NNl.out.size (h k hk)))
        clear h2 h3 h4 hgx
        (apply ordT_only; (simp only [List.getElem?_toArray, List.getElem?_cons_succ, List.getElem?_cons_zero]; rfl); rfl; intro K hK)
        refine oper_append _ _ 44 rfl _ _ rfl rfl hr ?_
        clear hr
        refine hK.out _ _ (HB2.out) (fun _ => ?_)
        clear hK K
        try simp only [Act.put, List.setIfInBounds_toArray, List.set_cons_zero, List.set_cons_succ]
        iterate 2 (apply ordT_take; (simp only [List.getElem?_toArray, List.getElem?_cons_succ, List.getElem?_cons_zero]; rfl); rfl; (intro w hSw; (try dsimp only at hSw); go_simp; try with_reducible rfl); intro _; try simp only [Act.put, List.setIfInBounds_toArray, List.set_cons_zero, List.set_cons_succ])
        (apply ordT_only; (simp only [List.getElem?_toArray, List.getElem?_cons_succ, List.getElem?_cons_zero]; rfl); rfl; intro K hK)
        go_simp
        refine hK.out _ _ (HB3.out) (fun _ => ?_)
        clear hK K
        try simp only [Act.put, List.setIfInBounds_toArray, List.set_cons_zero, List.set_cons_succ]
        apply ordT_done
        go_wp2
        go_roundw
        case rel => exact .inr ⟨rfl, _, HDs.out, HO.out, HNR.out⟩
        case measure => simp [intOf]
      · intro K hK
        go_simp
        refine (HPI.out wd).mono ?_
        rintro e w1 ⟨rfl, rfl⟩
        refine hK.out _ _ (HBd.out) (fun _ => ?_)
        clear hK K
        try simp only [Act.put, List.setIfInBounds_toArray, List.set_cons_zero, List.set_cons_succ]
        (apply ordT_take; (simp only [List.getElem?_toArray, List.getElem?_cons_succ, List.getElem?_cons_zero]; rfl); rfl; (intro w hSw; exact exec_arrayAt128 rfl rfl (Nat.le_refl _)); intro _; try simp only [Act.put, List.setIfInBounds_toArray, List.set_cons_zero, List.set_cons_succ])
        (apply ordT_take; (simp only [List.getElem?_toArray, List.getElem?_cons_succ, List.getElem?_cons_zero]; rfl); rfl; (intro w hSw; exact exec_load128 rfl rfl hSw HB.out); intro _; try simp only [Act.put, List.setIfInBounds_toArray, List.set_cons_zero, List.set_cons_succ])
        (apply ordT_take; (simp only [List.getElem?_toArray, List.getElem?_cons_succ, List.getElem?_cons_zero]; rfl); rfl; (intro w hSw; exact exec_buildW (s := s) (b := b) rfl rfl rfl HB.out); intro _; try simp only [Act.put, List.setIfInBounds_toArray, List.set_cons_zero, List.set_cons_succ])
        (apply ordT_two; (simp only [List.getElem?_toArray, List.getElem?_cons_succ, List.getElem?_cons_zero]; rfl); rfl; (simp only [List.getElem?_toArray, List.getElem?_cons_succ, List.getElem?_cons_zero]; rfl); rfl)
        · intro K hK
          obtain ⟨-, -, c2, -⟩ := HDd.out.cells
          go_simp
          clear c2
          refine hK.out _ _ (HBd.out) (fun _ => ?_)
          clear hK K
          try simp only [Act.put, List.setIfInBounds_toArray, List.set_cons_zero, List.set_cons_succ]
          (apply ordT_only; (simp only [List.getElem?_toArray, List.getElem?_cons_succ, List.getElem?_cons_zero]; rfl); rfl; intro K hK)
          refine wp_rowW (s := s) (b := b) rfl rfl HB.out ?_
          generalize hwl : World.alloc wd _ = wl
          have HR : Hid (wl.heap[wd.heap.size]? = some (.cells (wcells (s, b)).toArray 51 (0, 0))) := Lib.hid (by rw [← hwl]; exact heap_alloc_new _ _)
          have Nl : New wd wl := by rw [← hwl]; exact (Below.refl _ _).alloc (Nat.le_refl _) _
          have HDl := Lib.hid (HDd.out.new Nl)
          have NNl := Lib.hid (New.trans NNd.out Nl)
          have HBl := Lib.hid (HBd.out.same (Nl.block _ HBd.out.lt))
          clear hwl Nl
          generalize wd.heap.size = r at *
          refine hK.out _ _ (HBl.out) (fun _ => ?_)
          clear hK K
          try simp only [Act.put, List.setIfInBounds_toArray, List.set_cons_zero, List.set_cons_succ]
          obtain ⟨vp', w', hr, h2, h3, h4⟩ := run_append_write HDl.out.pend HB.out HP.out HR.out
          obtain ⟨av, nv, cv, rfl⟩ : ∃ a n c, vp' = .slice a n c := by
            rcases h2.2 with ⟨e, -⟩ | ⟨_, _, _, e, -⟩
            · exact ⟨_, _, _, e⟩
            · exact ⟨_, _, _, e⟩
          have HDs := Lib.hid (HDl.out.setPend (p := (s, b)) h3 h2 ⟨hs, HB.out⟩ h4)
          have hgx : w'.heap[g]? = _ := (h3.block _ (lt_of_block HDl.out.blk) HDl.out.apart.2.2.1).trans HDl.out.blk
          have HB2 := Lib.hid (HBl.out.same (h3.block _ HBl.out.lt (fun e => hgb (f4 _ e))))
          have c2 : w'.cell? ⟨g, 2, none⟩ = some vp := by rw [cell_of_row w' g 2 _ _ _ hgx]; rfl
          have z2 : w'.frozen? ⟨g, 2, none⟩ = false := frozen_of_row _ _ 2 _ _ hgx
          have HO := Lib.hid (((NNl.out.only (F := F)).trans h3 (fun i _ hi => f4 i hi)).setCell (p := ⟨g, 2, none⟩) (fun _ => f1) (.slice av nv cv))
          have HB3 : Hid (RowB (w'.setCell ⟨g, 2, none⟩ (.slice av nv cv)) gb b) := Lib.hid (HB2.out.same (heap_setCell_other _ _ _ _ (fun e => hgb (by rw [show gb = g from e]; exact f1))))
          have HNR : Hid (blk (.slice av nv cv) = blk vp ∨ ∀ k, blk (.slice av nv cv) = some k → wr.heap.size ≤ k) := Lib.hid (h4.imp_right (fun h k hk => Nat.le_trans NNl.out.size (h k hk)))
          clear h2 h3 h4 hgx
          (apply ordT_only; (simp only [List.getElem?_toArray, List.getElem?_cons_succ, List.getElem?_cons_zero]; rfl); rfl; intro K hK)
          refine oper_append _ _ 44 rfl _ _ rfl rfl hr ?_
          clear hr
          refine hK.out _ _ (HB2.out) (fun _ => ?_)
          clear hK K
          try simp only [Act.put, List.setIfInBounds_toArray, List.set_cons_zero, List.set_cons_succ]
          iterate 2 (apply ordT_take; (simp only [List.getElem?_toArray, List.getElem?_cons_succ, List.getElem?_cons_zero]; rfl); rfl; (intro w hSw; (try dsimp only at hSw); go_simp; try with_reducible rfl); intro _; try simp only [Act.put, List.setIfInBounds_toArray, List.set_cons_zero, List.set_cons_succ])
          (apply ordT_only; (simp only [List.getElem?_toArray, List.getElem?_cons_succ, List.getElem?_cons_zero]; rfl); rfl; intro K hK)
          go_simp
          refine hK.out _ _ (HB3.out) (fun _ => ?_)
          clear hK K
          try simp only [Act.put, List.setIfInBounds_toArray, List.set_cons_zero, List.set_cons_succ]
          apply ordT_done
          go_wp2
          go_roundw
          case rel => exact .inr ⟨rfl, _, HDs.out, HO.out, HNR.out⟩
          case measure => simp [intOf]
        · intro K hK
          refine wp_rowW (s := s) (b := b) rfl rfl HB.out ?_
          generalize hwl : World.alloc wd _ = wl
          have HR : Hid (wl.heap[wd.heap.size]? = some (.cells (wcells (s, b)).toArray 51 (0, 0))) := Lib.hid (by rw [← hwl]; exact heap_alloc_new _ _)
          have Nl : New wd wl := by rw [← hwl]; exact (Below.refl _ _).alloc (Nat.le_refl _) _
          have HDl := Lib.hid (HDd.out.new Nl)
          have NNl := Lib.hid (New.trans NNd.out Nl)
          have HBl := Lib.hid (HBd.out.same (Nl.block _ HBd.out.lt))
          clear hwl Nl
          generalize wd.heap.size = r at *
          refine hK.out _ _ (HBl.out) (fun _ => ?_)
          clear hK K
          try simp only [Act.put, List.setIfInBounds_toArray, List.set_cons_zero, List.set_cons_succ]
          (apply ordT_only; (simp only [List.getElem?_toArray, List.getElem?_cons_succ, List.getElem?_cons_zero]; rfl); rfl; intro K hK)
          obtain ⟨-, -, c2, -⟩ := HDl.out.cells
          go_simp
          clear c2
          refine hK.out _ _ (HBl.out) (fun _ => ?_)
          clear hK K
          try simp only [Act.put, List.setIfInBounds_toArray, List.set_cons_zero, List.set_cons_succ]
          obtain ⟨vp', w', hr, h2, h3, h4⟩ := run_append_write HDl.out.pend HB.out HP.out HR.out
          obtain ⟨av, nv, cv, rfl⟩ : ∃ a n c, vp' = .slice a n c := by
            rcases h2.2 with ⟨e, -⟩ | ⟨_, _, _, e, -⟩
            · exact ⟨_, _, _, e⟩
            · exact ⟨_, _, _, e⟩
          have HDs := Lib.hid (HDl.out.setPend (p := (s, b)) h3 h2 ⟨hs, HB.out⟩ h4)
          have hgx : w'.heap[g]? = _ := (h3.block _ (lt_of_block HDl.out.blk) HDl.out.apart.2.2.1).trans HDl.out.blk
          have HB2 := Lib.hid (HBl.out.same (h3.block _ HBl.out.lt (fun e => hgb (f4 _ e))))
          have c2 : w'.cell? ⟨g, 2, none⟩ = some vp := by rw [cell_of_row w' g 2 _ _ _ hgx]; rfl
          have z2 : w'.frozen? ⟨g, 2, none⟩ = false := frozen_of_row _ _ 2 _ _ hgx
          have HO := Lib.hid (((NNl.out.only (F := F)).trans h3 (fun i _ hi => f4 i hi)).setCell (p := ⟨g, 2, none⟩) (fun _ => f1) (.slice av nv cv))
          have HB3 : Hid (RowB (w'.setCell ⟨g, 2, none⟩ (.slice av nv cv)) gb b) := Lib.hid (HB2.out.same (heap_setCell_other _ _ _ _ (fun e => hgb (by rw [show gb = g from e]; exact f1))))
          have HNR : Hid (blk (.slice av nv cv) = blk vp ∨ ∀ k, blk (.slice av nv cv) = some k → wr.heap.size ≤ k) := Lib.hid (h4.imp_right (fun h k hk => Nat.le_trans NNl.out.size (h k hk)))
          clear h2 h3 h4 hgx
          (apply ordT_only; (simp only [List.getElem?_toArray, List.getElem?_cons_succ, List.getElem?_cons_zero]; rfl); rfl; intro K hK)
          refine oper_append _ _ 44 rfl _ _ rfl rfl hr ?_
          clear hr
          refine hK.out _ _ (HB2.out) (fun _ => ?_)
          clear hK K
          try simp only [Act.put, List.setIfInBounds_toArray, List.set_cons_zero, List.set_cons_succ]
          iterate 2 (apply ordT_take; (simp only [List.getElem?_toArray, List.getElem?_cons_succ, List.getElem?_cons_zero]; rfl); rfl; (intro w hSw; (try dsimp only at hSw); go_simp; try with_reducible rfl); intro _; try simp only [Act.put, List.setIfInBounds_toArray, List.set_cons_zero, List.set_cons_succ])
          (apply ordT_only; (simp only [List.getElem?_toArray, List.getElem?_cons_succ, List.getElem?_cons_zero]; rfl); rfl; intro K hK)
          go_simp
          refine hK.out _ _ (HB3.out) (fun _ => ?_)
          clear hK K
          try simp only [Act.put, List.setIfInBounds_toArray, List.set_cons_zero, List.set_cons_succ]
          apply ordT_done
          go_wp2
          go_roundw
          case rel => exact .inr ⟨rfl, _, HDs.out, HO.out, HNR.out⟩
          case measure => simp [intOf]
    · have HI := Lib.hid hin
      clear hin HPI
      obtain ⟨-, c1, -, -⟩ := HI.out.dsk.cells
      have hcap := HI.out.dsk.capL
      have hlen := HI.out.dsk.lenL
      have HPL : Hid (∀ wx, Calls Try.prog 21 #[.slice (some ⟨gl, 0, none⟩) (128 * n) cl, .int .i64 (s : Int), .int .i64 1] wx fun e w' => e = .returned (.slice (some ⟨gl, 128 * s, none⟩) 128 (cl - 128 * s)) ∧ wx = w') :=
        Lib.hid (fun wx => diskPiece wx gl (128 * n) cl s (by omega) (by omega))
      have HBR : Hid (RowB wr gb b) := Lib.hid (HRB.out.same (HI.out.only.block _ HRB.out.lt hgb))
      have hrd : Rd wr (.slice (some ⟨gb, 0, none⟩) 128 cb) b := by
        have := HBR.out.rd (c := cb) (by rw [HB.out]; exact HC.out.1) HC.out.2
        rwa [HB.out] at this
      obtain ⟨wz, hcp, hz1, hz2⟩ := run_copy_sec (cd := cl - 128 * s) HI.out.dsk.rowL (s := s) (by omega) HB.out hrd
      have HZ := Lib.hid (HI.out.dsk.setL hz2 hz1 (by rw [lay_length (by rw [HB.out]; omega)]; exact hlen))
      have HZO := Lib.hid (HI.out.only.trans hz2 (fun i _ hi => by rw [show i = gl from hi]; exact f3))
      clear hz1 hz2 hrd hcap hlen
      generalize cl - 128 * s = q at *
      generalize 128 * s = t at *
      generalize 128 * n = m at c1 HPL
      go_wp2_with fail
      refine (HPL.out wr).mono ?_
      rintro e w1 ⟨rfl, rfl⟩
      go_wp2
      go_ret
      refine ⟨rfl, ⟨gd, gl, cd, cl, vp', HZ.out, .inl f1, .inl f2, .inl f3, fun k hk => ?_⟩, HZO.out⟩
      rcases HI.out.near with e | e
      · exact .inl (f4 k (by rw [← e]; exact hk))
      · exact .inr (e k hk)

end Go.Proofs.Ytmalbfpipdebaaa
