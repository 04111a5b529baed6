/-
  perform, Flush.
-/
import Derived.Test.YtmalbfpipdebaaaDskWrite
namespace Go.Proofs.Ytmalbfpipdebaaa
set_option linter.unusedVariables false
set_option linter.unusedSimpArgs false
open Go.RowKit

theorem arr128 : Try.prog.underlying 48 = some (.array (Try.prog.arrayLen 48) (Try.prog.elem 48)) := by kernel_rfl
theorem arr128_len : Try.prog.arrayLen 48 = 128 := by kernel_rfl
theorem arr128_size (w : World) : (sizeOf (Try.prog.elem 48)).run Try.prog w = .ok 1 w := by kernel_rfl

/-- contents[:] of a write in a block of its own -/
theorem arr128_all (wx : World) (p : Nat) : (Instr.sliceAt 48 (.pointer (some ⟨p, 1, none⟩)) none none none).run Try.prog wx = .ok (.slice (some ⟨p, 1, none⟩) 128 128) wx := by
  rw [run_sliceAt_array_all wx _ _ arr128, arr128_size, arr128_len]
  simp only [Result.andThen_ok, slicedAt]
  rfl

/-- a write in a block of its own -/
def WrAt (w : World) (x : Nat) (p : Wr) : Prop := w.heap[x]? = some (.cells (wcells p).toArray 51 (0, 0))

theorem WrAt.cell {w : World} {x : Nat} {p : Wr} (h : WrAt w x p) : w.cell? ⟨x, 0, none⟩ = some (.int .i64 (p.1 : Int)) := by
  rw [cell_of_row w x 0 _ _ _ h]; rfl

theorem WrAt.rd {w : World} {x : Nat} {p : Wr} (h : WrAt w x p) (hb : p.2.length = 128) : Rd w (.slice (some ⟨x, 1, none⟩) 128 128) p.2 := by
  refine ⟨_, _, _, rfl, hb, Nat.le_refl _, by decide, (fun h => by cases h), fun ad had i u hu => ?_⟩
  cases had
  rw [Addr.add_mid, cell_of_row _ _ _ _ _ _ h, List.getElem?_toArray, Nat.add_comm 1 i]
  unfold wcells
  rw [List.getElem?_cons_succ, List.getElem?_map, hu]
  rfl

theorem WrAt.only {F : Nat → Prop} {w w' : World} {x : Nat} {p : Wr} (h : WrAt w x p) (ho : Only F w w') (hx : ¬ F x) : WrAt w' x p := (ho.block x (lt_of_block h) hx).trans h

/-- what perform's region reads -/
def Two (g x : Nat) (u v : Value) (w : World) : Prop := w.cell? ⟨g, 0, none⟩ = some u ∧ w.cell? ⟨x, 0, none⟩ = some v

set_option maxRecDepth 100000 in
set_option maxHeartbeats 4000000 in
theorem diskPerform {q : Int} {w : World} {n g gd gl cd cl : Nat} {vp : Value} {D L : List UInt8} {P : List Wr} (h0 : Dsk q w n g gd gl cd cl vp D L P) (p : Wr) (hp : p.1 < n ∧ p.2.length = 128) :
    Calls Try.prog 22 #[.pointer (some ⟨g, 0, none⟩), .agg (wcells p).toArray] w fun e w' => e = .returned (.tuple #[]) ∧ Dsk q w' n g gd gl cd cl vp (lay D p.1 p.2) L P ∧ Only (fun k => k = gd) w w' := by
  have hfew := h0.few
  have hcap := h0.capD
  have HD := Lib.hid h0
  have HP := Lib.hid hp
  have HPI : Hid (∀ wx, Calls Try.prog 21 #[.slice (some ⟨gd, 0, none⟩) (128 * n) cd, .int .i64 (p.1 : Int), .int .i64 1] wx fun e w' => e = .returned (.slice (some ⟨gd, 128 * p.1, none⟩) 128 (cd - 128 * p.1)) ∧ wx = w') :=
    Lib.hid (fun wx => diskPiece wx gd (128 * n) cd p.1 (by omega) (by omega))
  clear h0 hp
  have ha := arr128_all
  go_enter Try.func22, Try.ntmps22
  go_wp2_with fail
  generalize hw1 : World.alloc w _ = w1
  have HX : Hid (WrAt w1 w.heap.size p) := Lib.hid (by rw [← hw1]; exact heap_alloc_new _ _)
  have N1 : New w w1 := by rw [← hw1]; exact (Below.refl _ _).alloc (Nat.le_refl _) _
  have HD1 := Lib.hid (HD.out.new N1)
  have HN1 := Lib.hid N1
  have hlt : w.heap.size ≠ gd := by have := HD.out.rowD.lt; omega
  clear hw1 N1
  generalize w.heap.size = x at *
  have HX2 := Lib.hid (HX.out.only (New.only (F := fun _ => False) ((Below.refl _ w1).drew)) (fun f => f))
  have HD2 := Lib.hid HD1.out.drew
  refine region_ord (Two g x (.slice (some ⟨gd, 0, none⟩) (128 * n) cd) (.int .i64 (p.1 : Int))) [(0, true), (1, true), (2, true), (3, true), (4, true), (5, true), (7, true), (8, true), (6, false), (9, false)] (by kernel_rfl) (by kernel_rfl) ⟨HD2.out.cells.1, HX2.out.cell⟩ (fun _ => ?_)
  have HO2 : Hid (Only (fun k => k = gd) w w1.drew) := Lib.hid (New.only HN1.out).drew
  clear HX HD1
  generalize w1.drew = w2 at *
  unfold Two
  generalize hm : 128 * n = m at *
  iterate 8 (apply ord_take; (simp only [List.getElem?_toArray, List.getElem?_cons_succ, List.getElem?_cons_zero]; rfl); rfl; (intro w hSw; (try dsimp only at hSw); go_simp; try with_reducible rfl); intro _; try simp only [Act.put, List.setIfInBounds_toArray, List.set_cons_zero, List.set_cons_succ])
  (apply ord_only; (simp only [List.getElem?_toArray, List.getElem?_cons_succ, List.getElem?_cons_zero]; rfl); rfl; intro K hK)
  go_simp
  refine (HPI.out w2).mono ?_
  rintro e w3 ⟨rfl, rfl⟩
  refine hK.out _ _ (⟨hm ▸ HD2.out.cells.1, HX2.out.cell⟩) (fun _ => ?_)
  clear hK K
  try simp only [Act.put, List.setIfInBounds_toArray, List.set_cons_zero, List.set_cons_succ]
  (apply ord_only; (simp only [List.getElem?_toArray, List.getElem?_cons_succ, List.getElem?_cons_zero]; rfl); rfl; intro K hK)
  have hlen := HD2.out.lenD
  have hpn := HP.out.1
  obtain ⟨wz, hcp, hz1, hz2⟩ := run_copy_sec (cd := cd - 128 * p.1) HD2.out.rowD (s := p.1) (by omega) HP.out.2 (HX2.out.rd HP.out.2)
  have HZ := Lib.hid (HD2.out.setD hz2 hz1 (by rw [lay_length (by rw [HP.out.2]; omega)]; exact hlen))
  have HXZ := Lib.hid (HX2.out.only hz2 (fun e => hlt e))
  have HOZ := Lib.hid (HO2.out.trans hz2 (fun i _ hi => hi))
  clear hz1 hz2
  go_simp
  refine hK.out _ _ (⟨hm ▸ HZ.out.cells.1, HXZ.out.cell⟩) (fun _ => ?_)
  clear hK K
  try simp only [Act.put, List.setIfInBounds_toArray, List.set_cons_zero, List.set_cons_succ]
  apply ord_done
  go_wp2
  go_end0
  exact ⟨rfl, HZ.out, HOZ.out⟩

/-- the zero value of a write -/
def zWr : Array Value := (wcells (0, List.replicate 128 0)).toArray

theorem zWr_run (w : World) : (zeroValue 51).run Try.prog w = .ok (.agg zWr) w := by kernel_rfl

theorem zWr_size : zWr.size = 129 := by simp [zWr, wcells]

theorem infoWrSize : (Try.prog.info? 51).map (·.size) = some 129 := by kernel_rfl

set_option maxRecDepth 100000 in
set_option maxHeartbeats 4000000 in
theorem diskFlushN {q : Int} {w : World} {n g : Nat} {F : Nat → Prop} {D L : List UInt8} {P : List Wr} (hD : Dvc q w n g F D L P) (hq : q ≠ 0) :
    Calls Try.prog 13 #[.pointer (some ⟨g, 0, none⟩)] w fun e w' => e = .returned (.int .i64 0) ∧ DvcTo (nextQ q) w n g F (layAll D P) L [] w' := by
  obtain ⟨gd, gl, cd, cl, vp, h0, f1, f2, f3, f4⟩ := hD
  have HX : Hid (Calls Try.prog 20 #[.pointer (some ⟨g, 0, none⟩)] w fun e w' => e = .returned (.bool true) ∧ Dsk (nextQ q) w' n g gd gl cd cl vp D L P ∧ Only (fun k => k = g) w w') := by
    have := diskCall h0
    rw [show decide (q ≠ 0) = true by simpa using hq] at this
    exact Lib.hid this
  have hPl := h0.lenP
  obtain ⟨ap, kp, rfl⟩ := h0.vp_slice
  clear h0 hq
  go_enter Try.func13, Try.ntmps13
  go_wp2_with fail
  refine HX.out.mono ?_
  rintro e w1 ⟨rfl, hd1, ho1⟩
  obtain ⟨-, -, c2, -⟩ := hd1.cells
  have HD := Lib.hid hd1
  have HO0 := Lib.hid (ho1.mono (G := fun k => k = gd ∨ k = g) (fun i _ hi => .inr hi))
  clear HX hd1 ho1
  go_wp2
  clear c2
  go_loopw [13] (fun i wr => ∃ j : Nat, j ≤ P.length ∧ i = .int .i64 j ∧ Dsk (nextQ q) wr n g gd gl cd cl (.slice ap P.length kp) (layAll D (P.take j)) L P ∧ Only (fun k => k = gd ∨ k = g) w wr) (fun i _ => P.length - (intOf i).toNat)
  case atStart => exact ⟨0, Nat.zero_le _, rfl, HD.out, HO0.out⟩
  case round =>
    obtain ⟨j, hj, rfl, hin, ho⟩ := hrel
    by_cases hlt : j < P.length
    · obtain ⟨b, c, he, hr⟩ := hin.at (j := j) (p := P[j]) (List.getElem?_eq_getElem hlt)
      cases he
      have HR := Lib.hid hr
      have HI := Lib.hid hin
      clear hr hin
      have HW : Hid (P[j].1 < n ∧ P[j].2.length = 128) := Lib.hid (HD.out.ok _ (List.getElem_mem hlt))
      have HPJ : Hid (P[j]? = some P[j]) := Lib.hid (List.getElem?_eq_getElem hlt)
      generalize P[j] = p at *
      have hz := zWr_run
      go_upto_region 6 with (first | refine wpList_load_mid rfl 51 _ rfl b (j * 129) rfl _ _ HR.out Try.underlying51 rfl (by rw [wcells_length HW.out.2]; exact infoWrSize) ?_ | refine wpList_store_row rfl 51 _ _ rfl wr.heap.size (wcells p).toArray rfl rfl _ _ (heap_alloc_new _ _) (by rw [List.size_toArray, wcells_length HW.out.2]; exact infoWrSize) (by rw [zWr_size, List.size_toArray, wcells_length HW.out.2]) (all_oneCell_toArray (wcells_one p)) ?_)
      generalize hw1 : World.setRow _ _ _ = w1
      have HX : Hid (WrAt w1 wr.heap.size p) := Lib.hid (by rw [← hw1]; exact setRow_heap _ _ _ _ _ _ (heap_alloc_new _ _))
      have N1 : New wr w1 := by rw [← hw1]; exact below_setRow ((Below.refl _ _).alloc (Nat.le_refl _) _) (Nat.le_refl _) _
      have HI1 := Lib.hid (HI.out.new N1)
      have HO1 := Lib.hid (ho.trans (New.only (F := fun k => k = gd ∨ k = g) N1) (fun i _ hi => hi))
      clear hw1 N1 HI ho HR hz
      generalize wr.heap.size = x at *
      go_wp2_with (refine wpList_load_row rfl 51 _ rfl x rfl _ _ _ _ HX.out Try.underlying51 rfl (by rw [List.size_toArray, wcells_length HW.out.2]; exact infoWrSize) ?_)
      refine (diskPerform HI1.out p HW.out).mono ?_
      rintro e w2 ⟨rfl, hd2, ho2⟩
      have HI2 := Lib.hid hd2
      have HO2 := Lib.hid (HO1.out.trans ho2 (fun i _ hi => .inl hi))
      clear hd2 ho2 HI1 HO1
      go_wp2
      go_roundw
      case rel => exact ⟨j + 1, by omega, by go_num, by rw [layAll_take _ _ _ _ HPJ.out]; exact HI2.out, HO2.out⟩
      case measure => simp [intOf]; omega
    · obtain rfl : j = P.length := by omega
      rw [List.take_of_length_le (Nat.le_refl _)] at hin
      have HI := Lib.hid hin
      have HO := Lib.hid ho
      clear hin ho
      obtain ⟨-, -, c2, -⟩ := HI.out.cells
      have z2 := HI.out.free 2
      have HN := Lib.hid HI.out.setNil
      have HON := Lib.hid ((HO.out.mono (G := F) (fun i _ hi => by rcases hi with e | e; exact e ▸ f2; exact e ▸ f1)).setCell (p := ⟨g, 2, none⟩) (fun _ => f1) (.slice none 0 0))
      go_wp2
      go_ret
      exact ⟨rfl, ⟨gd, gl, cd, cl, _, HN.out, .inl f1, .inl f2, .inl f3, fun k hk => by cases hk⟩, HON.out⟩

theorem diskFlush {w : World} {n g : Nat} {F : Nat → Prop} {D L : List UInt8} {P : List Wr} (hD : Dev w n g F D L P) :
    Calls Try.prog 13 #[.pointer (some ⟨g, 0, none⟩)] w fun e w' => e = .returned (.int .i64 0) ∧ DevTo w n g F (layAll D P) L [] w' :=
  diskFlushN hD (by decide)

/-- the power is off -/
theorem diskFlushOff {w : World} {n g : Nat} {F : Nat → Prop} {D L : List UInt8} {P : List Wr} (hD : Dvc 0 w n g F D L P) :
    Calls Try.prog 13 #[.pointer (some ⟨g, 0, none⟩)] w fun e w' => e = .returned (.int .i64 22) ∧ DvcTo 0 w n g F D L P w' := by
  obtain ⟨gd, gl, cd, cl, vp, h0, f1, f2, f3, f4⟩ := hD
  have HX : Hid (Calls Try.prog 20 #[.pointer (some ⟨g, 0, none⟩)] w fun e w' => e = .returned (.bool false) ∧ Dsk 0 w' n g gd gl cd cl vp D L P ∧ Only (fun k => k = g) w w') := Lib.hid (diskCall h0)
  clear h0
  go_enter Try.func13, Try.ntmps13
  go_wp2_with fail
  refine HX.out.mono ?_
  rintro e w1 ⟨rfl, hd1, ho1⟩
  have HD1 := Lib.hid hd1
  have HO1 := Lib.hid ho1
  clear hd1 ho1
  go_wp2
  go_ret
  exact ⟨rfl, ⟨gd, gl, cd, cl, vp, HD1.out, .inl f1, .inl f2, .inl f3, fun k hk => .inl (f4 k hk)⟩, HO1.out.mono (fun i _ hi => by rw [show i = g from hi]; exact f1)⟩


end Go.Proofs.Ytmalbfpipdebaaa
