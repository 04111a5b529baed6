/-
  AesApart: the walk.
-/
import Derived.Test.YtapoelmhnbgidaaLaw05
import Derived.Test.YtapoelmhnbgidaaArrEq
import Derived.Test.YtapoelmhnbgidaaAesInj
import Derived.Test.YtapoelmhnbgidaaBase
namespace Go.Proofs.Ytapoelmhnbgidaa
set_option linter.unusedVariables false
set_option linter.unusedSimpArgs false
open Go.RowKit

/-- what the loads of the region read -/
def Three (p : Nat) (k a b : List UInt8) (a0 b0 : UInt8) (w' : World) : Prop :=
  (loadVar 22 ⟨p, 0, none⟩).run Try.prog w' = .ok (.agg (k.map bv).toArray) w' ∧ (loadVar 22 ⟨p + 1, 0, none⟩).run Try.prog w' = .ok (.agg (a.map bv).toArray) w' ∧ (loadVar 22 ⟨p + 1 + 1, 0, none⟩).run Try.prog w' = .ok (.agg (b.map bv).toArray) w' ∧
    w'.cell? ⟨p + 1, 0, none⟩ = some (bv a0) ∧ w'.cell? ⟨p + 1 + 1, 0, none⟩ = some (bv b0)

theorem load16 {w : World} {g : Nat} {l : List UInt8} (h : w.heap[g]? = some (.cells (l.map bv).toArray 22)) (hl : l.length = 16) : (loadVar 22 ⟨g, 0, none⟩).run Try.prog w = .ok (.agg (l.map bv).toArray) w :=
  run_loadVar_row w g 22 22 _ _ _ h Try.underlying22 rfl (by rw [size16 hl]; exact info16)

theorem exec_load16 {a : Act} {o : Oper} {x : Operand} {p : Nat} {l : List UInt8} {w : World} (ho : o.op = .load 22 x) (hx : a.eval x = .pointer (some ⟨p, 0, none⟩)) (h : (loadVar 22 ⟨p, 0, none⟩).run Try.prog w = .ok (.agg (l.map bv).toArray) w) :
    (execOp a.eval o).run Try.prog w = .ok (.value (.agg (l.map bv).toArray)) w := by
  unfold execOp
  simp only [ho, hx, Instr.loadAt, Instr.sureAddr, Sem.run_bind, Sem.run_pure, Result.andThen_ok, h]

theorem In3.next {w wr w' : World} {A B C : List UInt8} {tA tB tC : TypeId} (h : In3 w A tA B tB C tC wr) (hn : New wr w') : In3 w A tA B tB C tC w' :=
  ⟨(hn.block _ (lt_of_block h.a)).trans h.a, (hn.block _ (lt_of_block h.b)).trans h.b, (hn.block _ (lt_of_block h.c)).trans h.c, New.trans h.new hn⟩

theorem three {w w' : World} {k a b : List UInt8} (hk : k.length = 16) (ha : a.length = 16) (hb : b.length = 16) (h : In3 w k 22 a 22 b 22 w') : Three w.heap.size k a b (a.getD 0 0) (b.getD 0 0) w' :=
  ⟨load16 h.a hk, load16 h.b ha, load16 h.c hb, byte_cell h.b (by omega), byte_cell h.c (by omega)⟩

set_option maxRecDepth 100000 in
set_option maxHeartbeats 2000000 in
theorem apartWalk (w : World) (k a b : List UInt8) (hk : k.length = 16) (ha : a.length = 16) (hb : b.length = 16) :
    Calls Try.prog 5 #[.agg (k.map bv).toArray, .agg (a.map bv).toArray, .agg (b.map bv).toArray] w fun e w' => e = .returned (.bool true) ∧ New w w' := by
  have HT : Hid (∀ w', In3 w k 22 a 22 b 22 w' → Three w.heap.size k a b (a.getD 0 0) (b.getD 0 0) w') := Lib.hid (fun w' h => three hk ha hb h)
  have CA : Hid (∀ wx : World, Calls Try.prog 9 #[.agg (k.map bv).toArray, .agg (a.map bv).toArray] wx fun e w' => e = .returned (.agg ((enc k a 10).map bv).toArray) ∧ New wx w') := Lib.hid (fun wx => aesBlock wx k a hk ha)
  have CB : Hid (∀ wx : World, Calls Try.prog 9 #[.agg (k.map bv).toArray, .agg (b.map bv).toArray] wx fun e w' => e = .returned (.agg ((enc k b 10).map bv).toArray) ∧ New wx w') := Lib.hid (fun wx => aesBlock wx k b hk hb)
  have q1 := fun wx => eq16 a b ha hb wx
  have q2 := fun wx => eq16 (enc k a 10) (enc k b 10) (enc_length k a ha 10) (enc_length k b hb 10) wx
  have hE : decide (enc k a 10 = enc k b 10) = decide (a = b) := by
    rw [decide_eq_decide]
    exact ⟨fun h => enc_inj k a b ha hb 10 h, fun h => by rw [h]⟩
  rw [hE] at q2
  have hg : Try.prog.eqGuardType Try.prog.depth 22 = false := by kernel_rfl
  clear hE hk ha hb
  generalize decide (a = b) = d at q1 q2
  generalize enc k a 10 = A at CA q2
  generalize enc k b 10 = B at CB q2
  have hx : (((gbox (a.getD 0 0)).toNat : Int) == ((gbox (b.getD 0 0)).toNat : Int)) = (((a.getD 0 0).toNat : Int) == ((b.getD 0 0).toNat : Int)) := by
    rw [Bool.eq_iff_iff, beq_iff_eq, beq_iff_eq]
    constructor
    · intro h; rw [(gbox_inj (a.getD 0 0) (b.getD 0 0)).1 (UInt8.toNat_inj.1 (by omega))]
    · intro h; rw [UInt8.toNat_inj.1 (show (a.getD 0 0).toNat = (b.getD 0 0).toNat by omega)]
  generalize a.getD 0 0 = a0 at hx HT
  generalize b.getD 0 0 = b0 at hx HT
  go_enter Try.func5, Try.ntmps5
  go_upto_region 1 with fail
  generalize hw1 : World.alloc (World.alloc (World.alloc w _) _) _ = w1
  have hin : In3 w k 22 a 22 b 22 w1 := by rw [← hw1]; exact In3.made _ _ _ _ _ _ _
  clear hw1
  go_wp2_with fail
  refine (awake05 w1).mono ?_
  rintro e w2 ⟨rfl, N2⟩
  have HI := Lib.hid (hin.next N2).drew
  clear hin N2
  go_wp2_with fail
  refine region_ord (Three w.heap.size k a b a0 b0) [(0, true), (1, true), (3, true), (4, true), (7, true), (8, true), (9, true), (2, false), (5, false), (6, true), (10, true), (11, true), (12, true), (13, true), (15, true), (16, true), (19, true), (20, true), (21, true), (22, true), (23, true), (14, false), (17, false), (18, true), (24, true), (25, true), (26, true)] (by kernel_rfl) (by kernel_rfl) (HT.out _ HI.out) (fun _ => ?_)
  generalize w2.drew = wd at *
  unfold Three
  (apply ord_take; (simp only [List.getElem?_toArray, List.getElem?_cons_succ, List.getElem?_cons_zero]; rfl); rfl; (intro w hSw; exact exec_load16 rfl rfl hSw.1); intro _; try simp only [Act.put, List.setIfInBounds_toArray, List.set_cons_zero, List.set_cons_succ])
  (apply ord_take; (simp only [List.getElem?_toArray, List.getElem?_cons_succ, List.getElem?_cons_zero]; rfl); rfl; (intro w hSw; exact exec_load16 rfl rfl hSw.2.1); intro _; try simp only [Act.put, List.setIfInBounds_toArray, List.set_cons_zero, List.set_cons_succ])
  (apply ord_take; (simp only [List.getElem?_toArray, List.getElem?_cons_succ, List.getElem?_cons_zero]; rfl); rfl; (intro w hSw; exact exec_load16 rfl rfl hSw.1); intro _; try simp only [Act.put, List.setIfInBounds_toArray, List.set_cons_zero, List.set_cons_succ])
  (apply ord_take; (simp only [List.getElem?_toArray, List.getElem?_cons_succ, List.getElem?_cons_zero]; rfl); rfl; (intro w hSw; exact exec_load16 rfl rfl hSw.2.2.1); intro _; try simp only [Act.put, List.setIfInBounds_toArray, List.set_cons_zero, List.set_cons_succ])
  (apply ord_take; (simp only [List.getElem?_toArray, List.getElem?_cons_succ, List.getElem?_cons_zero]; rfl); rfl; (intro w hSw; exact exec_load16 rfl rfl hSw.2.1); intro _; try simp only [Act.put, List.setIfInBounds_toArray, List.set_cons_zero, List.set_cons_succ])
  (apply ord_take; (simp only [List.getElem?_toArray, List.getElem?_cons_succ, List.getElem?_cons_zero]; rfl); rfl; (intro w hSw; exact exec_load16 rfl rfl hSw.2.2.1); intro _; try simp only [Act.put, List.setIfInBounds_toArray, List.set_cons_zero, List.set_cons_succ])
  iterate 1 (apply ord_take; (simp only [List.getElem?_toArray, List.getElem?_cons_succ, List.getElem?_cons_zero]; rfl); rfl; (intro w hSw; (try dsimp only at hSw); go_simp; try with_reducible rfl); intro _; try simp only [Act.put, List.setIfInBounds_toArray, List.set_cons_zero, List.set_cons_succ])
  (apply ord_only; (simp only [List.getElem?_toArray, List.getElem?_cons_succ, List.getElem?_cons_zero]; rfl); rfl; intro K hK)
  go_simp
  refine (CA.out wd).mono ?_
  rintro e w3 ⟨rfl, N3⟩
  have HI3 := Lib.hid (HI.out.next N3)
  clear HI N3
  refine hK.out _ _ (HT.out _ HI3.out) (fun _ => ?_)
  clear hK K
  try simp only [Act.put, List.setIfInBounds_toArray, List.set_cons_zero, List.set_cons_succ]
  (apply ord_only; (simp only [List.getElem?_toArray, List.getElem?_cons_succ, List.getElem?_cons_zero]; rfl); rfl; intro K hK)
  go_simp
  refine (CB.out w3).mono ?_
  rintro e w4 ⟨rfl, N4⟩
  have HI4 := Lib.hid (HI3.out.next N4)
  clear HI3 N4
  refine hK.out _ _ (HT.out _ HI4.out) (fun _ => ?_)
  clear hK K
  try simp only [Act.put, List.setIfInBounds_toArray, List.set_cons_zero, List.set_cons_succ]
  iterate 12 (apply ord_take; (simp only [List.getElem?_toArray, List.getElem?_cons_succ, List.getElem?_cons_zero]; rfl); rfl; (intro w hSw; (try dsimp only at hSw); go_simp; try with_reducible rfl); intro _; try simp only [Act.put, List.setIfInBounds_toArray, List.set_cons_zero, List.set_cons_succ])
  (apply ord_only; (simp only [List.getElem?_toArray, List.getElem?_cons_succ, List.getElem?_cons_zero]; rfl); rfl; intro K hK)
  go_simp
  refine (aesBox w4 a0).mono ?_
  rintro e w5 ⟨rfl, N5⟩
  have HI5 := Lib.hid (HI4.out.next N5)
  clear HI4 N5
  refine hK.out _ _ (HT.out _ HI5.out) (fun _ => ?_)
  clear hK K
  try simp only [Act.put, List.setIfInBounds_toArray, List.set_cons_zero, List.set_cons_succ]
  (apply ord_only; (simp only [List.getElem?_toArray, List.getElem?_cons_succ, List.getElem?_cons_zero]; rfl); rfl; intro K hK)
  go_simp
  refine (aesBox w5 b0).mono ?_
  rintro e w6 ⟨rfl, N6⟩
  have HI6 := Lib.hid (HI5.out.next N6)
  clear HI5 N6
  refine hK.out _ _ (HT.out _ HI6.out) (fun _ => ?_)
  clear hK K
  try simp only [Act.put, List.setIfInBounds_toArray, List.set_cons_zero, List.set_cons_succ]
  iterate 4 (apply ord_take; (simp only [List.getElem?_toArray, List.getElem?_cons_succ, List.getElem?_cons_zero]; rfl); rfl; (intro w hSw; (try dsimp only at hSw); go_simp; try with_reducible rfl); intro _; try simp only [Act.put, List.setIfInBounds_toArray, List.set_cons_zero, List.set_cons_succ])
  apply ord_done
  go_wp2
  go_ret
  exact ⟨rfl, HI6.out.new⟩

end Go.Proofs.Ytapoelmhnbgidaa
