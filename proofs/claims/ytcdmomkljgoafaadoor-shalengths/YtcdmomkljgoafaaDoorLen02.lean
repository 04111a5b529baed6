/-
  ShaLengths: the walk.
-/
import Derived.Test.YtcdmomkljgoafaaDoorSums02
import Derived.Test.YtcdmomkljgoafaaDoorParts02
namespace Go.Proofs.YtcdmomkljgoafaaDoor
set_option linter.unusedVariables false
set_option linter.unusedSimpArgs false
open Go.RowKit

theorem RdL.none (w : World) : RdL w (.slice none 0 0) [] := ⟨RdV.nil w, fun p hp => by simp at hp⟩

/-- m bytes, of which the first j are c -/
def fillTo (c : UInt8) (m j : Nat) : List UInt8 := List.replicate j c ++ List.replicate (m - j) 0

theorem fillTo_length (c : UInt8) (m j : Nat) (h : j ≤ m) : (fillTo c m j).length = m := by simp [fillTo]; omega

theorem fillTo_set (c : UInt8) (m j : Nat) (h : j < m) : (fillTo c m j).set j c = fillTo c m (j + 1) := by
  unfold fillTo
  obtain ⟨d, hd⟩ : ∃ d, m - j = d + 1 := ⟨m - j - 1, by omega⟩
  rw [hd, show m - (j + 1) = d by omega, List.replicate_succ (n := d), List.replicate_succ' (n := j)]
  simp [List.set_append]

structure FillIn (w : World) (c : UInt8) (m B j : Nat) (wr : World) : Prop where
  row : wr.heap[B]? = some (.cells ((fillTo c m j).map bv).toArray 5)
  new : New w wr

theorem FillIn.put {w : World} {c : UInt8} {m B j : Nat} {wr : World} (h : FillIn w c m B j wr) (hj : j < m) (hB : w.heap.size ≤ B) : FillIn w c m B (j + 1) (wr.setCell ⟨B, j, none⟩ (bv c)) := by
  refine ⟨?_, h.new.setCell hB _⟩
  rw [heap_setCell_same _ _ _ _ _ _ h.row, List.setIfInBounds_toArray, ← List.map_set, fillTo_set c m j hj]

theorem FillIn.rd {w : World} {c : UInt8} {m B : Nat} {wr : World} (h : FillIn w c m B m wr) (hm : m ≤ 400) : Rd wr (.slice (some ⟨B, 0, none⟩) m m) (List.replicate m c) := by
  have e : fillTo c m m = List.replicate m c := by simp [fillTo]
  have hr := h.row
  rw [e] at hr
  refine ⟨_, _, _, rfl, by simp, Nat.le_refl _, by unfold maxLen; omega, (fun h => by cases h), fun ad had i u hu => ?_⟩
  cases had
  rw [show (⟨B, 0, none⟩ : Addr).add i = ⟨B, i, none⟩ by unfold Addr.add; split <;> simp_all, cell_of_row _ _ _ _ _ _ hr, List.getElem?_toArray, List.getElem?_map, hu]
  rfl

set_option maxRecDepth 100000 in
set_option maxHeartbeats 4000000 in
theorem lenWalk (hR : RefSumOk) (w : World) (n : Nat) (c : UInt8) (hn : n ≤ 65535) (hL : Laid w) :
    Calls Tryd.prog 5 #[.int .u16 n, bv c] w fun e w' => e = .returned (.bool true) ∧ New w w' := by
  have HL := Lib.hid hL
  have HR := Lib.hid hR
  clear hL hR
  obtain ⟨m, hm, hm4⟩ : ∃ m : Nat, (n : Int) % 400 = (m : Int) ∧ m < 400 := ⟨n % 400, by omega, by omega⟩
  have hmk := run_make_bytes (m : Int) (m : Int) (by omega) (by omega) (by omega)
  go_enter Tryd.func5, Tryd.ntmps5
  go_wp2_with fail
  refine (awake02 w HL.out).mono ?_
  rintro e w1 ⟨rfl, hn1⟩
  go_wp2_with fail
  clear hmk hm
  go_loopw [6] (fun i wr => ∃ j : Nat, j ≤ m ∧ i = .int .i64 j ∧ FillIn w1 c m w1.heap.size j wr) (fun i _ => m - (intOf i).toNat)
  case atStart => exact ⟨0, Nat.zero_le _, rfl, by rw [heap_alloc_new]; simp [fillTo], (Below.refl _ _).alloc (Nat.le_refl _) _⟩
  case round =>
    obtain ⟨j, hj, rfl, hin⟩ := hrel
    by_cases hlt : j < m
    · have hc : wr.cell? ⟨w1.heap.size, j, none⟩ = some (bv ((fillTo c m j).getD j 0)) := by
        rw [cell_of_row _ _ _ _ _ _ hin.row, List.getElem?_toArray, List.getElem?_map, List.getD_eq_getElem?_getD, List.getElem?_eq_getElem (by rw [fillTo_length _ _ _ hj]; exact hlt)]; rfl
      have hf := frozen_of_row wr w1.heap.size j _ _ hin.row
      generalize (fillTo c m j).getD j 0 = z at hc
      have HI := Lib.hid hin
      clear hin
      go_wp2
      go_roundw
      case rel => exact ⟨j + 1, by omega, by go_num, HI.out.put hlt (Nat.le_refl _)⟩
      case measure => simp [intOf]; omega
    · obtain rfl : j = m := by omega
      have hb := hin.rd (by omega)
      have hnw := New.trans hn1 hin.new
      have hLw := HL.out.new hnw
      obtain ⟨L, HLL⟩ : ∃ L, Hid (List.replicate j c = L) := ⟨_, Lib.hid rfl⟩
      have hll : L.length ≤ 1099511627776 := by rw [← HLL.out]; simp; omega
      rw [HLL.out] at hb
      have HB := Lib.hid hb
      clear hin hb
      go_wp2_with fail
      refine (sum1 wr _ _ L rfl HB.out hll hLw).mono ?_
      rintro e w2 ⟨a2, n2, c2, rfl, r2, rfl, N2⟩
      have HB2 := Lib.hid (HB.out.new N2)
      have HR2 := Lib.hid r2
      have hN2 := New.trans hnw N2
      clear r2 HB hnw hLw
      go_wp2_with fail
      refine region_ordT (fun w' => (convert 22 9 (.slice a2 32 c2)).run Tryd.prog w' = .ok (.string (bstr (sha256 L))) w' ∧ (convert 22 9 (.slice (some ⟨w1.heap.size, 0, none⟩) j j)).run Tryd.prog w' = .ok (.string (bstr L)) w') (.take 0 (.take 1 (.take 2 (.take 3 (.take 4 (.take 5 (.take 6 (.take 7 (.only 8 (.take 9 (.take 10 (.take 11 (.two 12 14 (.two 13 14 (.only 14 (.only 15 (.only 16 (.take 17 (.take 18 (.take 19 .nil)))))) (.two 13 15 (.only 15 (.only 16 (.take 17 (.take 18 (.take 19 .nil))))) (.two 13 16 (.only 16 (.take 17 (.take 18 (.take 19 .nil)))) (.only 13 (.take 17 (.take 18 (.take 19 .nil))))))) (.only 12 (.two 13 15 (.only 15 (.only 16 (.take 17 (.take 18 (.take 19 .nil))))) (.two 13 16 (.only 16 (.take 17 (.take 18 (.take 19 .nil)))) (.only 13 (.take 17 (.take 18 (.take 19 .nil)))))))))))))))))))) (by kernel_rfl) (by kernel_rfl) (And.intro (run_str (P := Tryd.prog) Tryd.underlying22 Tryd.underlying5 Tryd.underlying9 (w := w2.drew) HR2.out) (run_str (P := Tryd.prog) Tryd.underlying22 Tryd.underlying5 Tryd.underlying9 (w := w2.drew) HB2.out)) (fun _ => ?_)
      have qs : Rd w2.drew (.slice a2 32 c2) (sha256 L) := HR2.out
      have qb : Rd w2.drew (.slice (some ⟨w1.heap.size, 0, none⟩) j j) L := HB2.out
      have hN : New w w2.drew := hN2.drew
      have hL := HL.out.new hN
      clear HR2 HB2 hN2
      generalize w2.drew = wd at *
      iterate 8 (apply ordT_take; (simp only [List.getElem?_toArray, List.getElem?_cons_succ, List.getElem?_cons_zero]; rfl); rfl; (intro w hSw; (try dsimp only at hSw); go_simp; try with_reducible rfl); intro _; try simp only [Act.put, List.setIfInBounds_toArray, List.set_cons_zero, List.set_cons_succ])
      (apply ordT_only; (simp only [List.getElem?_toArray, List.getElem?_cons_succ, List.getElem?_cons_zero]; rfl); rfl; intro K hK)
      go_simp
      refine (HR.out wd L hll).mono ?_
      rintro e wf ⟨rfl, Nf⟩
      have qs := qs.new Nf
      have qb := qb.new Nf
      have hL := hL.new Nf
      have hN := New.trans hN Nf
      refine hK.out _ _ (And.intro (run_str (P := Tryd.prog) Tryd.underlying22 Tryd.underlying5 Tryd.underlying9 qs) (run_str (P := Tryd.prog) Tryd.underlying22 Tryd.underlying5 Tryd.underlying9 qb)) (fun _ => ?_)
      clear hK K
      try simp only [Act.put, List.setIfInBounds_toArray, List.set_cons_zero, List.set_cons_succ]
      iterate 3 (apply ordT_take; (simp only [List.getElem?_toArray, List.getElem?_cons_succ, List.getElem?_cons_zero]; rfl); rfl; (intro w hSw; (try dsimp only at hSw); go_simp; try with_reducible rfl); intro _; try simp only [Act.put, List.setIfInBounds_toArray, List.set_cons_zero, List.set_cons_succ])
      · skip
        (apply ordT_two; (simp only [List.getElem?_toArray, List.getElem?_cons_succ, List.getElem?_cons_zero]; rfl); rfl; (simp only [List.getElem?_toArray, List.getElem?_cons_succ, List.getElem?_cons_zero]; rfl); rfl)
        · intro K hK
          go_simp
          refine (sumL wf (.slice none 0 0) [] [] rfl (RdL.none wf) (by simp) (by simp) hL).mono ?_
          rintro e v1 ⟨a12, n12, c12, rfl, r4, Nn⟩
          have hL := hL.new Nn
          have qb := qb.new Nn
          have qs := qs.new Nn
          have hN := New.trans hN Nn
          refine hK.out _ _ (And.intro (run_str (P := Tryd.prog) Tryd.underlying22 Tryd.underlying5 Tryd.underlying9 qs) (run_str (P := Tryd.prog) Tryd.underlying22 Tryd.underlying5 Tryd.underlying9 qb)) (fun _ => ?_)
          clear hK K
          try simp only [Act.put, List.setIfInBounds_toArray, List.set_cons_zero, List.set_cons_succ]
          (apply ordT_two; (simp only [List.getElem?_toArray, List.getElem?_cons_succ, List.getElem?_cons_zero]; rfl); rfl; (simp only [List.getElem?_toArray, List.getElem?_cons_succ, List.getElem?_cons_zero]; rfl); rfl)
          · intro K hK
            have ks := run_str (P := Tryd.prog) Tryd.underlying22 Tryd.underlying5 Tryd.underlying9 r4
            go_simp
            refine hK.out _ _ (And.intro (run_str (P := Tryd.prog) Tryd.underlying22 Tryd.underlying5 Tryd.underlying9 qs) (run_str (P := Tryd.prog) Tryd.underlying22 Tryd.underlying5 Tryd.underlying9 qb)) (fun _ => ?_)
            clear hK K
            try simp only [Act.put, List.setIfInBounds_toArray, List.set_cons_zero, List.set_cons_succ]
            clear ks r4
            (apply ordT_only; (simp only [List.getElem?_toArray, List.getElem?_cons_succ, List.getElem?_cons_zero]; rfl); rfl; intro K hK)
            go_simp
            generalize hw : World.alloc v1 _ = v3
            have Nn : New v1 v3 := by rw [← hw]; exact (Below.refl _ _).alloc (Nat.le_refl _) _
            have R1 : RdL v3 (.slice (some ⟨v1.heap.size, 0, none⟩) 1 1) [(.slice none 0 0, [])] := by rw [← hw]; exact RdL.made1 v1 _ _ _ (Rd.nil _)
            clear hw
            have hL := hL.new Nn
            have qb := qb.new Nn
            have qs := qs.new Nn
            have hN := New.trans hN Nn
            refine hK.out _ _ (And.intro (run_str (P := Tryd.prog) Tryd.underlying22 Tryd.underlying5 Tryd.underlying9 qs) (run_str (P := Tryd.prog) Tryd.underlying22 Tryd.underlying5 Tryd.underlying9 qb)) (fun _ => ?_)
            clear hK K
            try simp only [Act.put, List.setIfInBounds_toArray, List.set_cons_zero, List.set_cons_succ]
            (apply ordT_only; (simp only [List.getElem?_toArray, List.getElem?_cons_succ, List.getElem?_cons_zero]; rfl); rfl; intro K hK)
            go_simp
            refine (sumL v3 _ [(.slice none 0 0, [])] [] rfl R1 (by simp) (by simp) hL).mono ?_
            rintro e v4 ⟨a15, n15, c15, rfl, r5, Nn⟩
            have hL := hL.new Nn
            have qb := qb.new Nn
            have qs := qs.new Nn
            have hN := New.trans hN Nn
            refine hK.out _ _ (And.intro (run_str (P := Tryd.prog) Tryd.underlying22 Tryd.underlying5 Tryd.underlying9 qs) (run_str (P := Tryd.prog) Tryd.underlying22 Tryd.underlying5 Tryd.underlying9 qb)) (fun _ => ?_)
            clear hK K
            try simp only [Act.put, List.setIfInBounds_toArray, List.set_cons_zero, List.set_cons_succ]
            (apply ordT_only; (simp only [List.getElem?_toArray, List.getElem?_cons_succ, List.getElem?_cons_zero]; rfl); rfl; intro K hK)
            have ks := run_str (P := Tryd.prog) Tryd.underlying22 Tryd.underlying5 Tryd.underlying9 r5
            go_simp
            refine hK.out _ _ (And.intro (run_str (P := Tryd.prog) Tryd.underlying22 Tryd.underlying5 Tryd.underlying9 qs) (run_str (P := Tryd.prog) Tryd.underlying22 Tryd.underlying5 Tryd.underlying9 qb)) (fun _ => ?_)
            clear hK K
            try simp only [Act.put, List.setIfInBounds_toArray, List.set_cons_zero, List.set_cons_succ]
            clear ks r5
            iterate 3 (apply ordT_take; (simp only [List.getElem?_toArray, List.getElem?_cons_succ, List.getElem?_cons_zero]; rfl); rfl; (intro w hSw; (try dsimp only at hSw); go_simp; try with_reducible rfl); intro _; try simp only [Act.put, List.setIfInBounds_toArray, List.set_cons_zero, List.set_cons_succ])
            apply ordT_done
            go_wp2
            go_ret
            exact ⟨rfl, hN⟩
          · intro K hK
            go_simp
            generalize hw : World.alloc v1 _ = v6
            have Nn : New v1 v6 := by rw [← hw]; exact (Below.refl _ _).alloc (Nat.le_refl _) _
            have R1 : RdL v6 (.slice (some ⟨v1.heap.size, 0, none⟩) 1 1) [(.slice none 0 0, [])] := by rw [← hw]; exact RdL.made1 v1 _ _ _ (Rd.nil _)
            clear hw
            have hL := hL.new Nn
            have qb := qb.new Nn
            have qs := qs.new Nn
            have r4 := r4.new Nn
            have hN := New.trans hN Nn
            refine hK.out _ _ (And.intro (run_str (P := Tryd.prog) Tryd.underlying22 Tryd.underlying5 Tryd.underlying9 qs) (run_str (P := Tryd.prog) Tryd.underlying22 Tryd.underlying5 Tryd.underlying9 qb)) (fun _ => ?_)
            clear hK K
            try simp only [Act.put, List.setIfInBounds_toArray, List.set_cons_zero, List.set_cons_succ]
            (apply ordT_two; (simp only [List.getElem?_toArray, List.getElem?_cons_succ, List.getElem?_cons_zero]; rfl); rfl; (simp only [List.getElem?_toArray, List.getElem?_cons_succ, List.getElem?_cons_zero]; rfl); rfl)
            · intro K hK
              have ks := run_str (P := Tryd.prog) Tryd.underlying22 Tryd.underlying5 Tryd.underlying9 r4
              go_simp
              refine hK.out _ _ (And.intro (run_str (P := Tryd.prog) Tryd.underlying22 Tryd.underlying5 Tryd.underlying9 qs) (run_str (P := Tryd.prog) Tryd.underlying22 Tryd.underlying5 Tryd.underlying9 qb)) (fun _ => ?_)
              clear hK K
              try simp only [Act.put, List.setIfInBounds_toArray, List.set_cons_zero, List.set_cons_succ]
              clear ks r4
              (apply ordT_only; (simp only [List.getElem?_toArray, List.getElem?_cons_succ, List.getElem?_cons_zero]; rfl); rfl; intro K hK)
              go_simp
              refine (sumL v6 _ [(.slice none 0 0, [])] [] rfl R1 (by simp) (by simp) hL).mono ?_
              rintro e v8 ⟨a15, n15, c15, rfl, r5, Nn⟩
              have hL := hL.new Nn
              have qb := qb.new Nn
              have qs := qs.new Nn
              have hN := New.trans hN Nn
              refine hK.out _ _ (And.intro (run_str (P := Tryd.prog) Tryd.underlying22 Tryd.underlying5 Tryd.underlying9 qs) (run_str (P := Tryd.prog) Tryd.underlying22 Tryd.underlying5 Tryd.underlying9 qb)) (fun _ => ?_)
              clear hK K
              try simp only [Act.put, List.setIfInBounds_toArray, List.set_cons_zero, List.set_cons_succ]
              (apply ordT_only; (simp only [List.getElem?_toArray, List.getElem?_cons_succ, List.getElem?_cons_zero]; rfl); rfl; intro K hK)
              have ks := run_str (P := Tryd.prog) Tryd.underlying22 Tryd.underlying5 Tryd.underlying9 r5
              go_simp
              refine hK.out _ _ (And.intro (run_str (P := Tryd.prog) Tryd.underlying22 Tryd.underlying5 Tryd.underlying9 qs) (run_str (P := Tryd.prog) Tryd.underlying22 Tryd.underlying5 Tryd.underlying9 qb)) (fun _ => ?_)
              clear hK K
              try simp only [Act.put, List.setIfInBounds_toArray, List.set_cons_zero, List.set_cons_succ]
              clear ks r5
              iterate 3 (apply ordT_take; (simp only [List.getElem?_toArray, List.getElem?_cons_succ, List.getElem?_cons_zero]; rfl); rfl; (intro w hSw; (try dsimp only at hSw); go_simp; try with_reducible rfl); intro _; try simp only [Act.put, List.setIfInBounds_toArray, List.set_cons_zero, List.set_cons_succ])
              apply ordT_done
              go_wp2
              go_ret
              exact ⟨rfl, hN⟩
            · intro K hK
              go_simp
              refine (sumL v6 _ [(.slice none 0 0, [])] [] rfl R1 (by simp) (by simp) hL).mono ?_
              rintro e v10 ⟨a15, n15, c15, rfl, r5, Nn⟩
              have hL := hL.new Nn
              have qb := qb.new Nn
              have qs := qs.new Nn
              have r4 := r4.new Nn
              have hN := New.trans hN Nn
              refine hK.out _ _ (And.intro (run_str (P := Tryd.prog) Tryd.underlying22 Tryd.underlying5 Tryd.underlying9 qs) (run_str (P := Tryd.prog) Tryd.underlying22 Tryd.underlying5 Tryd.underlying9 qb)) (fun _ => ?_)
              clear hK K
              try simp only [Act.put, List.setIfInBounds_toArray, List.set_cons_zero, List.set_cons_succ]
              (apply ordT_two; (simp only [List.getElem?_toArray, List.getElem?_cons_succ, List.getElem?_cons_zero]; rfl); rfl; (simp only [List.getElem?_toArray, List.getElem?_cons_succ, List.getElem?_cons_zero]; rfl); rfl)
              · intro K hK
                have ks := run_str (P := Tryd.prog) Tryd.underlying22 Tryd.underlying5 Tryd.underlying9 r4
                go_simp
                refine hK.out _ _ (And.intro (run_str (P := Tryd.prog) Tryd.underlying22 Tryd.underlying5 Tryd.underlying9 qs) (run_str (P := Tryd.prog) Tryd.underlying22 Tryd.underlying5 Tryd.underlying9 qb)) (fun _ => ?_)
                clear hK K
                try simp only [Act.put, List.setIfInBounds_toArray, List.set_cons_zero, List.set_cons_succ]
                clear ks r4
                (apply ordT_only; (simp only [List.getElem?_toArray, List.getElem?_cons_succ, List.getElem?_cons_zero]; rfl); rfl; intro K hK)
                have ks := run_str (P := Tryd.prog) Tryd.underlying22 Tryd.underlying5 Tryd.underlying9 r5
                go_simp
                refine hK.out _ _ (And.intro (run_str (P := Tryd.prog) Tryd.underlying22 Tryd.underlying5 Tryd.underlying9 qs) (run_str (P := Tryd.prog) Tryd.underlying22 Tryd.underlying5 Tryd.underlying9 qb)) (fun _ => ?_)
                clear hK K
                try simp only [Act.put, List.setIfInBounds_toArray, List.set_cons_zero, List.set_cons_succ]
                clear ks r5
                iterate 3 (apply ordT_take; (simp only [List.getElem?_toArray, List.getElem?_cons_succ, List.getElem?_cons_zero]; rfl); rfl; (intro w hSw; (try dsimp only at hSw); go_simp; try with_reducible rfl); intro _; try simp only [Act.put, List.setIfInBounds_toArray, List.set_cons_zero, List.set_cons_succ])
                apply ordT_done
                go_wp2
                go_ret
                exact ⟨rfl, hN⟩
              · intro K hK
                have ks := run_str (P := Tryd.prog) Tryd.underlying22 Tryd.underlying5 Tryd.underlying9 r5
                go_simp
                refine hK.out _ _ (And.intro (run_str (P := Tryd.prog) Tryd.underlying22 Tryd.underlying5 Tryd.underlying9 qs) (run_str (P := Tryd.prog) Tryd.underlying22 Tryd.underlying5 Tryd.underlying9 qb)) (fun _ => ?_)
                clear hK K
                try simp only [Act.put, List.setIfInBounds_toArray, List.set_cons_zero, List.set_cons_succ]
                clear ks r5
                (apply ordT_only; (simp only [List.getElem?_toArray, List.getElem?_cons_succ, List.getElem?_cons_zero]; rfl); rfl; intro K hK)
                have ks := run_str (P := Tryd.prog) Tryd.underlying22 Tryd.underlying5 Tryd.underlying9 r4
                go_simp
                refine hK.out _ _ (And.intro (run_str (P := Tryd.prog) Tryd.underlying22 Tryd.underlying5 Tryd.underlying9 qs) (run_str (P := Tryd.prog) Tryd.underlying22 Tryd.underlying5 Tryd.underlying9 qb)) (fun _ => ?_)
                clear hK K
                try simp only [Act.put, List.setIfInBounds_toArray, List.set_cons_zero, List.set_cons_succ]
                clear ks r4
                iterate 3 (apply ordT_take; (simp only [List.getElem?_toArray, List.getElem?_cons_succ, List.getElem?_cons_zero]; rfl); rfl; (intro w hSw; (try dsimp only at hSw); go_simp; try with_reducible rfl); intro _; try simp only [Act.put, List.setIfInBounds_toArray, List.set_cons_zero, List.set_cons_succ])
                apply ordT_done
                go_wp2
                go_ret
                exact ⟨rfl, hN⟩
        · intro K hK
          go_simp
          generalize hw : World.alloc wf _ = v15
          have Nn : New wf v15 := by rw [← hw]; exact (Below.refl _ _).alloc (Nat.le_refl _) _
          have R1 : RdL v15 (.slice (some ⟨wf.heap.size, 0, none⟩) 1 1) [(.slice none 0 0, [])] := by rw [← hw]; exact RdL.made1 wf _ _ _ (Rd.nil _)
          clear hw
          have hL := hL.new Nn
          have qb := qb.new Nn
          have qs := qs.new Nn
          have hN := New.trans hN Nn
          refine hK.out _ _ (And.intro (run_str (P := Tryd.prog) Tryd.underlying22 Tryd.underlying5 Tryd.underlying9 qs) (run_str (P := Tryd.prog) Tryd.underlying22 Tryd.underlying5 Tryd.underlying9 qb)) (fun _ => ?_)
          clear hK K
          try simp only [Act.put, List.setIfInBounds_toArray, List.set_cons_zero, List.set_cons_succ]
          (apply ordT_only; (simp only [List.getElem?_toArray, List.getElem?_cons_succ, List.getElem?_cons_zero]; rfl); rfl; intro K hK)
          go_simp
          refine (sumL v15 (.slice none 0 0) [] [] rfl (RdL.none v15) (by simp) (by simp) hL).mono ?_
          rintro e v16 ⟨a12, n12, c12, rfl, r4, Nn⟩
          have R1 := R1.new Nn
          have hL := hL.new Nn
          have qb := qb.new Nn
          have qs := qs.new Nn
          have hN := New.trans hN Nn
          refine hK.out _ _ (And.intro (run_str (P := Tryd.prog) Tryd.underlying22 Tryd.underlying5 Tryd.underlying9 qs) (run_str (P := Tryd.prog) Tryd.underlying22 Tryd.underlying5 Tryd.underlying9 qb)) (fun _ => ?_)
          clear hK K
          try simp only [Act.put, List.setIfInBounds_toArray, List.set_cons_zero, List.set_cons_succ]
          (apply ordT_two; (simp only [List.getElem?_toArray, List.getElem?_cons_succ, List.getElem?_cons_zero]; rfl); rfl; (simp only [List.getElem?_toArray, List.getElem?_cons_succ, List.getElem?_cons_zero]; rfl); rfl)
          · intro K hK
            have ks := run_str (P := Tryd.prog) Tryd.underlying22 Tryd.underlying5 Tryd.underlying9 r4
            go_simp
            refine hK.out _ _ (And.intro (run_str (P := Tryd.prog) Tryd.underlying22 Tryd.underlying5 Tryd.underlying9 qs) (run_str (P := Tryd.prog) Tryd.underlying22 Tryd.underlying5 Tryd.underlying9 qb)) (fun _ => ?_)
            clear hK K
            try simp only [Act.put, List.setIfInBounds_toArray, List.set_cons_zero, List.set_cons_succ]
            clear ks r4
            (apply ordT_only; (simp only [List.getElem?_toArray, List.getElem?_cons_succ, List.getElem?_cons_zero]; rfl); rfl; intro K hK)
            go_simp
            refine (sumL v16 _ [(.slice none 0 0, [])] [] rfl R1 (by simp) (by simp) hL).mono ?_
            rintro e v18 ⟨a15, n15, c15, rfl, r5, Nn⟩
            have hL := hL.new Nn
            have qb := qb.new Nn
            have qs := qs.new Nn
            have hN := New.trans hN Nn
            refine hK.out _ _ (And.intro (run_str (P := Tryd.prog) Tryd.underlying22 Tryd.underlying5 Tryd.underlying9 qs) (run_str (P := Tryd.prog) Tryd.underlying22 Tryd.underlying5 Tryd.underlying9 qb)) (fun _ => ?_)
            clear hK K
            try simp only [Act.put, List.setIfInBounds_toArray, List.set_cons_zero, List.set_cons_succ]
            (apply ordT_only; (simp only [List.getElem?_toArray, List.getElem?_cons_succ, List.getElem?_cons_zero]; rfl); rfl; intro K hK)
            have ks := run_str (P := Tryd.prog) Tryd.underlying22 Tryd.underlying5 Tryd.underlying9 r5
            go_simp
            refine hK.out _ _ (And.intro (run_str (P := Tryd.prog) Tryd.underlying22 Tryd.underlying5 Tryd.underlying9 qs) (run_str (P := Tryd.prog) Tryd.underlying22 Tryd.underlying5 Tryd.underlying9 qb)) (fun _ => ?_)
            clear hK K
            try simp only [Act.put, List.setIfInBounds_toArray, List.set_cons_zero, List.set_cons_succ]
            clear ks r5
            iterate 3 (apply ordT_take; (simp only [List.getElem?_toArray, List.getElem?_cons_succ, List.getElem?_cons_zero]; rfl); rfl; (intro w hSw; (try dsimp only at hSw); go_simp; try with_reducible rfl); intro _; try simp only [Act.put, List.setIfInBounds_toArray, List.set_cons_zero, List.set_cons_succ])
            apply ordT_done
            go_wp2
            go_ret
            exact ⟨rfl, hN⟩
          · intro K hK
            go_simp
            refine (sumL v16 _ [(.slice none 0 0, [])] [] rfl R1 (by simp) (by simp) hL).mono ?_
            rintro e v20 ⟨a15, n15, c15, rfl, r5, Nn⟩
            have hL := hL.new Nn
            have qb := qb.new Nn
            have qs := qs.new Nn
            have r4 := r4.new Nn
            have hN := New.trans hN Nn
            refine hK.out _ _ (And.intro (run_str (P := Tryd.prog) Tryd.underlying22 Tryd.underlying5 Tryd.underlying9 qs) (run_str (P := Tryd.prog) Tryd.underlying22 Tryd.underlying5 Tryd.underlying9 qb)) (fun _ => ?_)
            clear hK K
            try simp only [Act.put, List.setIfInBounds_toArray, List.set_cons_zero, List.set_cons_succ]
            (apply ordT_two; (simp only [List.getElem?_toArray, List.getElem?_cons_succ, List.getElem?_cons_zero]; rfl); rfl; (simp only [List.getElem?_toArray, List.getElem?_cons_succ, List.getElem?_cons_zero]; rfl); rfl)
            · intro K hK
              have ks := run_str (P := Tryd.prog) Tryd.underlying22 Tryd.underlying5 Tryd.underlying9 r4
              go_simp
              refine hK.out _ _ (And.intro (run_str (P := Tryd.prog) Tryd.underlying22 Tryd.underlying5 Tryd.underlying9 qs) (run_str (P := Tryd.prog) Tryd.underlying22 Tryd.underlying5 Tryd.underlying9 qb)) (fun _ => ?_)
              clear hK K
              try simp only [Act.put, List.setIfInBounds_toArray, List.set_cons_zero, List.set_cons_succ]
              clear ks r4
              (apply ordT_only; (simp only [List.getElem?_toArray, List.getElem?_cons_succ, List.getElem?_cons_zero]; rfl); rfl; intro K hK)
              have ks := run_str (P := Tryd.prog) Tryd.underlying22 Tryd.underlying5 Tryd.underlying9 r5
              go_simp
              refine hK.out _ _ (And.intro (run_str (P := Tryd.prog) Tryd.underlying22 Tryd.underlying5 Tryd.underlying9 qs) (run_str (P := Tryd.prog) Tryd.underlying22 Tryd.underlying5 Tryd.underlying9 qb)) (fun _ => ?_)
              clear hK K
              try simp only [Act.put, List.setIfInBounds_toArray, List.set_cons_zero, List.set_cons_succ]
              clear ks r5
              iterate 3 (apply ordT_take; (simp only [List.getElem?_toArray, List.getElem?_cons_succ, List.getElem?_cons_zero]; rfl); rfl; (intro w hSw; (try dsimp only at hSw); go_simp; try with_reducible rfl); intro _; try simp only [Act.put, List.setIfInBounds_toArray, List.set_cons_zero, List.set_cons_succ])
              apply ordT_done
              go_wp2
              go_ret
              exact ⟨rfl, hN⟩
            · intro K hK
              have ks := run_str (P := Tryd.prog) Tryd.underlying22 Tryd.underlying5 Tryd.underlying9 r5
              go_simp
              refine hK.out _ _ (And.intro (run_str (P := Tryd.prog) Tryd.underlying22 Tryd.underlying5 Tryd.underlying9 qs) (run_str (P := Tryd.prog) Tryd.underlying22 Tryd.underlying5 Tryd.underlying9 qb)) (fun _ => ?_)
              clear hK K
              try simp only [Act.put, List.setIfInBounds_toArray, List.set_cons_zero, List.set_cons_succ]
              clear ks r5
              (apply ordT_only; (simp only [List.getElem?_toArray, List.getElem?_cons_succ, List.getElem?_cons_zero]; rfl); rfl; intro K hK)
              have ks := run_str (P := Tryd.prog) Tryd.underlying22 Tryd.underlying5 Tryd.underlying9 r4
              go_simp
              refine hK.out _ _ (And.intro (run_str (P := Tryd.prog) Tryd.underlying22 Tryd.underlying5 Tryd.underlying9 qs) (run_str (P := Tryd.prog) Tryd.underlying22 Tryd.underlying5 Tryd.underlying9 qb)) (fun _ => ?_)
              clear hK K
              try simp only [Act.put, List.setIfInBounds_toArray, List.set_cons_zero, List.set_cons_succ]
              clear ks r4
              iterate 3 (apply ordT_take; (simp only [List.getElem?_toArray, List.getElem?_cons_succ, List.getElem?_cons_zero]; rfl); rfl; (intro w hSw; (try dsimp only at hSw); go_simp; try with_reducible rfl); intro _; try simp only [Act.put, List.setIfInBounds_toArray, List.set_cons_zero, List.set_cons_succ])
              apply ordT_done
              go_wp2
              go_ret
              exact ⟨rfl, hN⟩

theorem lenLaw (hR : RefSumOk) (w : World) (n : Int) (h1 : (Lit.int .u16 n).wf = true) (c : Int) (h2 : (Lit.int .u8 c).wf = true) (hL : Laid w) :
    Calls Tryd.prog 5 #[.int .u16 n, .int .u8 c] w fun e w' => e = .returned (.bool true) ∧ New w w' := by
  have e1 : 0 ≤ n ∧ n ≤ 65535 := by simpa [Lit.wf, IntKind.min, IntKind.max, IntKind.signed, IntKind.bits] using h1
  have e2 : 0 ≤ c ∧ c ≤ 255 := by simpa [Lit.wf, IntKind.min, IntKind.max, IntKind.signed, IntKind.bits] using h2
  have h := lenWalk hR w n.toNat (UInt8.ofNat c.toNat) (by omega) hL
  have e3 : bv (UInt8.ofNat c.toNat) = .int .u8 c := by
    show Value.int .u8 _ = _
    rw [UInt8.toNat_ofNat']
    congr 1
    show ((c.toNat % 256 : Nat) : Int) = c
    omega
  rwa [e3, Int.toNat_of_nonneg e1.1] at h

end Go.Proofs.YtcdmomkljgoafaaDoor
