/-
  Again, Wrap; the statements' made and small; the references' Place and Same.
-/
import Derived.Test.YtnjijmphmgihiaaDoorFltOps
import Derived.Test.YtnjijmphmgihiaaDoorBase
import Derived.BigQuiet
namespace Go.Proofs.YtnjijmphmgihiaaDoor
set_option linter.unusedVariables false
set_option linter.unusedSimpArgs false
open Go.RowKit

/-- links as an argument holds them -/
def RdLk (w : World) (v : Value) (l : List (List UInt8 × Int)) : Prop :=
  ∃ css, RdN w 2 v css ∧ css.length = l.length ∧ ∀ (i : Nat) cs d, css[i]? = some cs → l[i]? = some d → cs = [.string (bstr d.1), .int .i64 d.2] ∧ (-9223372036854775808 ≤ d.2 ∧ d.2 ≤ 9223372036854775807)

theorem RdLk.new {w w' : World} {v : Value} {l : List (List UInt8 × Int)} (h : RdLk w v l) (ho : New w w') : RdLk w' v l := by
  obtain ⟨css, h1, h2, h3⟩ := h
  exact ⟨css, h1.new ho, h2, h3⟩

theorem RdLk.len {w : World} {a : Option Addr} {n c : Nat} {l : List (List UInt8 × Int)} (h : RdLk w (.slice a n c) l) : l.length = n ∧ n ≤ c ∧ c ≤ 9223372036854775807 := by
  obtain ⟨css, h1, h2, h3⟩ := h
  obtain ⟨_, _, _, e, h, h', h'', _⟩ := h1
  cases e
  exact ⟨by omega, h', h''⟩

def LkAt (b off : Nat) (d : List UInt8 × Int) (w : World) : Prop := w.cell? ⟨b, off, none⟩ = some (.string (bstr d.1)) ∧ w.cell? ⟨b, off + 1, none⟩ = some (.int .i64 d.2)

theorem RdLk.at {w : World} {a : Option Addr} {n c : Nat} {l : List (List UInt8 × Int)} (h : RdLk w (.slice a n c) l) {k : Nat} (hk : k < l.length) :
    ∃ b off, a = some ⟨b, off, none⟩ ∧ (∀ j (hj : j < l.length), LkAt b (off + j * 2) (l[j]) w) ∧ b < w.heap.size ∧ (-9223372036854775808 ≤ (l[k]).2 ∧ (l[k]).2 ≤ 9223372036854775807) := by
  obtain ⟨css, h1, h2, h3⟩ := h
  have hlen : css.length = n := by obtain ⟨_, _, _, e, h, _⟩ := h1; cases e; exact h
  obtain ⟨b, off, rfl, hcell⟩ := h1.cell (fun x hx => by
    obtain ⟨i, hi, e⟩ := List.getElem_of_mem hx
    obtain ⟨e', _⟩ := h3 i x (l[i]'(by omega)) (by rw [← e]; exact List.getElem?_eq_getElem hi) (List.getElem?_eq_getElem (by omega))
    rw [e']; simp) (by omega)
  have hall : ∀ j (hj : j < l.length), LkAt b (off + j * 2) (l[j]) w := by
    intro j hj
    have hcs : css[j]? = some (css[j]'(by omega)) := List.getElem?_eq_getElem (by omega)
    obtain ⟨e', _⟩ := h3 j _ (l[j]) hcs (List.getElem?_eq_getElem hj)
    rw [e'] at hcs
    exact ⟨hcell j _ hcs 0 _ rfl, hcell j _ hcs 1 _ rfl⟩
  refine ⟨b, off, rfl, hall, World.block_lt_of_cell? w _ (hall k hk).1, ?_⟩
  exact (h3 k _ (l[k]) (List.getElem?_eq_getElem (by omega)) (List.getElem?_eq_getElem hk)).2

/-! Again, Wrap -/
theorem again0 (w : World) (op : ByteArray) (pos : Int) : Calls Tryd.prog 21 #[.string op, .int .i64 pos, .nilIface] w fun e w' => e = .returned .nilIface ∧ w = w' := by
  go_enter Tryd.func21, Tryd.ntmps21
  go_wp2
  go_ret
  exact ⟨rfl, rfl⟩

def AgTo (w : World) (op : ByteArray) (pos : Int) (v : Value) (e : Ending) (w' : World) : Prop :=
  e = .returned (.iface 42 (.pointer (some ⟨w.heap.size, 0, none⟩))) ∧ w'.heap[w.heap.size]? = some (.cells #[.string op, .int .i64 pos, v] 46) ∧ New w w'

theorem again1 (w : World) (op : ByteArray) (pos : Int) (t : TypeId) (y : Value) : Calls Tryd.prog 21 #[.string op, .int .i64 pos, .iface t y] w (AgTo w op pos (.iface t y)) := by
  have HN := Lib.hid (newAlloc (newRefl w) (.cells #[.string op, .int .i64 pos, .iface t y] 46))
  have HB := Lib.hid (heap_alloc_new w (.cells #[.string op, .int .i64 pos, .iface t y] 46))
  go_enter Tryd.func21, Tryd.ntmps21
  go_wp2
  go_ret
  exact ⟨rfl, HB.out, HN.out⟩

theorem wrap0 (w : World) (op : ByteArray) (pos : Int) : Calls Tryd.prog 22 #[.string op, .int .i64 pos, .int .i64 0] w fun e w' => e = .returned .nilIface ∧ w = w' := by
  go_enter Tryd.func22, Tryd.ntmps22
  go_wp2
  go_ret
  exact ⟨rfl, rfl⟩

theorem wrap1 (w : World) (op : ByteArray) (pos n : Int) (hn : n ≠ 0) : Calls Tryd.prog 22 #[.string op, .int .i64 pos, .int .i64 n] w (AgTo w op pos (.iface 28 (.int .i64 n))) := by
  have HA := Lib.hid (again1 w op pos 28 (.int .i64 n))
  have hn2 : (n == 0) = false := beq_eq_false_iff_ne.2 hn
  go_enter Tryd.func22, Tryd.ntmps22
  go_wp2_with fail
  refine HA.out.mono ?_
  rintro e w1 ⟨rfl, h1, N1⟩
  have HB := Lib.hid h1
  clear h1
  go_wp2
  go_ret
  exact ⟨rfl, HB.out, N1⟩

/-! made -/
theorem errAt_cons (x : Lk) (L : List Lk) (c : Cor) (i : Nat) : errAt (x :: L) c (i + 1) = errAt L c i := by
  unfold errAt; rw [List.getElem?_cons_succ]

theorem Chain.cons {w w' : World} {L : List Lk} {c : Cor} {op : List UInt8} {pos : Int} (h : Chain w L c) (hb : w'.heap[w.heap.size]? = some (.cells #[.string (bstr op), .int .i64 pos, errAt L c 0] 46)) (hn : New w w') : Chain w' (⟨w.heap.size, op, pos⟩ :: L) c := by
  have hlt : ∀ i (hi : i < L.length), (L[i]).b < w.heap.size := fun i hi => lt_of_block (h.cells i hi)
  refine ⟨fun i hi => ?_, fun i j hi hj hij => ?_⟩
  · cases i with
    | zero => rw [errAt_cons]; exact hb
    | succ i => rw [errAt_cons]; exact (h.new hn).cells i (by simpa using hi)
  · cases i with
    | zero =>
      cases j with
      | zero => exact absurd rfl hij
      | succ j => have := hlt j (by simpa using hj); simp only [List.getElem_cons_zero, List.getElem_cons_succ]; omega
    | succ i =>
      cases j with
      | zero => have := hlt i (by simpa using hi); simp only [List.getElem_cons_zero, List.getElem_cons_succ]; omega
      | succ j => simpa using h.apart i j (by simpa using hi) (by simpa using hj) (by omega)

/-- what made hands back -/
def MadeTo (w : World) (l : List (List UInt8 × Int)) (n : Int) (v : Value) (w' : World) : Prop :=
  New w w' ∧ ((l = [] ∨ n = 0) → v = .nilIface) ∧ (l ≠ [] → n ≠ 0 → ∃ L : List Lk, L.map Lk.kp = l ∧ Chain w' L (.num n) ∧ v = errAt L (.num n) 0)

theorem drop_cons9 {α : Type} {l : List α} {k : Nat} (h : k < l.length) : l.drop k = l[k] :: l.drop (k + 1) := List.drop_eq_getElem_cons h

set_option maxRecDepth 100000 in
set_option maxHeartbeats 1000000 in
theorem madeAt (w : World) (v : Value) (l : List (List UInt8 × Int)) (n : Int) (hv : RdLk w v l) (hl : l.length ≤ 1000) :
    Calls Tryd.prog 9 #[v, .int .i64 n] w fun e w' => ∃ x, e = .returned x ∧ MadeTo w l n x w' := by
  obtain ⟨a, m, c, rfl⟩ : ∃ a n c, v = .slice a n c := by obtain ⟨_, ⟨a, n, c, e, _⟩, _⟩ := hv; exact ⟨a, n, c, e⟩
  obtain ⟨hm, hmc, hc⟩ := hv.len
  subst hm
  have HV := Lib.hid hv
  clear hv
  go_enter Tryd.func9, Tryd.ntmps9
  go_wp2_with fail
  go_loopw [5, 6] (fun x i wr => ∃ k : Nat, k ≤ l.length ∧ i = .int .i64 ((k : Int) - 1) ∧ MadeTo w (l.drop k) n x wr) (fun _ i _ => (intOf i + 1).toNat)
  case atStart => exact ⟨l.length, Nat.le_refl _, by go_num, newRefl _, fun _ => rfl, fun h => by rw [List.drop_length] at h; exact absurd rfl h⟩
  case round =>
    obtain ⟨k, hk, rfl, hin⟩ := hrel
    have HIN := Lib.hid hin
    clear hin
    by_cases h0 : k = 0
    · subst h0
      have HR : Hid (MadeTo w l n _ wr) := Lib.hid (by have := HIN.out; rwa [List.drop_zero] at this)
      clear HIN
      go_wp2
      go_ret
      exact ⟨_, rfl, HR.out⟩
    · obtain ⟨j, rfl⟩ : ∃ j, k = j + 1 := ⟨k - 1, by omega⟩
      have hj : j < l.length := by omega
      have ej : ((j + 1 : Nat) : Int) - 1 = (j : Int) := by omega
      rw [ej]
      obtain ⟨b, off, rfl, hall, hb, hrng⟩ := (HV.out.new HIN.out.1).at hj
      have HC : Hid (LkAt b (off + j * 2) (l[j]) wr) := Lib.hid (hall j hj)
      have HD := Lib.hid (drop_cons9 hj)
      clear hall
      generalize hx : l[j] = x at *
      obtain ⟨op, pos⟩ := x
      by_cases hlast : j = l.length - 1
      · have hjl : ((j : Int) == (l.length : Int) - 1) = true := by rw [beq_iff_eq]; omega
        have hdl : l.drop (j + 1) = [] := by rw [List.drop_eq_nil_iff]; omega
        have HDL := Lib.hid hdl
        clear hdl hlast
        go_wp2_with fail
        clear hjl
        refine region_ord (LkAt b (off + j * 2) (op, pos)) [(0, true), (1, true), (2, true), (3, true), (4, true), (5, true), (6, true), (7, true), (8, true), (9, true), (10, true), (11, false), (12, true)] (by kernel_rfl) (by kernel_rfl) HC.out (fun _ => ?_)
        have HN2 : Hid (New w wr.drew) := Lib.hid HIN.out.1.drew
        have HC2 : Hid (LkAt b (off + j * 2) (op, pos) wr.drew) := Lib.hid HC.out
        generalize wr.drew = w2 at *
        unfold LkAt
        iterate 11 (apply ord_take; (simp only [List.getElem?_toArray, List.getElem?_cons_succ, List.getElem?_cons_zero]; rfl); rfl; (intro w hSw; (try dsimp only at hSw); go_simp; try with_reducible rfl); intro _; try simp only [Act.put, List.setIfInBounds_toArray, List.set_cons_zero, List.set_cons_succ])
        (apply ord_only; (simp only [List.getElem?_toArray, List.getElem?_cons_succ, List.getElem?_cons_zero]; rfl); rfl; intro K hK)
        go_simp
        by_cases hn0 : n = 0
        · subst hn0
          refine (wrap0 w2 _ _).mono ?_
          rintro e w3 ⟨rfl, rfl⟩
          refine hK.out _ _ (HC2.out) (fun _ => ?_)
          clear hK K
          try simp only [Act.put, List.setIfInBounds_toArray, List.set_cons_zero, List.set_cons_succ]
          iterate 1 (apply ord_take; (simp only [List.getElem?_toArray, List.getElem?_cons_succ, List.getElem?_cons_zero]; rfl); rfl; (intro w hSw; (try dsimp only at hSw); go_simp; try with_reducible rfl); intro _; try simp only [Act.put, List.setIfInBounds_toArray, List.set_cons_zero, List.set_cons_succ])
          apply ord_done
          go_wp2
          go_roundw
          case rel => exact ⟨j, by omega, by go_num, HN2.out, fun _ => rfl, fun _ h => absurd rfl h⟩
          case measure => simp [intOf] <;> omega
        · refine (wrap1 w2 _ _ n hn0).mono ?_
          rintro e w3 ⟨rfl, h3, N3⟩
          have HR : Hid (MadeTo w (l.drop j) n (.iface 42 (.pointer (some ⟨w2.heap.size, 0, none⟩))) w3) := by
            refine Lib.hid ⟨New.trans HN2.out N3, fun h => ?_, fun _ _ => ?_⟩
            · rw [HD.out] at h; simp [hn0] at h
            · refine ⟨[⟨w2.heap.size, op, pos⟩], by rw [HD.out, HDL.out]; rfl, ?_, rfl⟩
              exact Chain.cons (w := w2) (L := []) (c := .num n) ⟨fun i h => by simp at h, fun i j h => by simp at h⟩ h3 N3
          have HC3 : Hid (LkAt b (off + j * 2) (op, pos) w3) := Lib.hid ⟨by rw [N3.cell (p := ⟨b, off + j * 2, none⟩) (World.block_lt_of_cell? w2 _ HC2.out.1)]; exact HC2.out.1, by rw [N3.cell (p := ⟨b, off + j * 2 + 1, none⟩) (World.block_lt_of_cell? w2 _ HC2.out.2)]; exact HC2.out.2⟩
          clear h3 N3
          refine hK.out _ _ (HC3.out) (fun _ => ?_)
          clear hK K
          try simp only [Act.put, List.setIfInBounds_toArray, List.set_cons_zero, List.set_cons_succ]
          iterate 1 (apply ord_take; (simp only [List.getElem?_toArray, List.getElem?_cons_succ, List.getElem?_cons_zero]; rfl); rfl; (intro w hSw; (try dsimp only at hSw); go_simp; try with_reducible rfl); intro _; try simp only [Act.put, List.setIfInBounds_toArray, List.set_cons_zero, List.set_cons_succ])
          apply ord_done
          go_wp2
          go_roundw
          case rel => exact ⟨j, by omega, by go_num, HR.out⟩
          case measure => simp [intOf] <;> omega
      · have hjl : ((j : Int) == (l.length : Int) - 1) = false := by rw [beq_eq_false_iff_ne]; omega
        have hne : l.drop (j + 1) ≠ [] := by rw [ne_eq, List.drop_eq_nil_iff]; omega
        have HNE := Lib.hid hne
        have hjl2 : ¬ (j : Int) = (l.length : Int) - 1 := by omega
        clear hne
        by_cases hn0 : n = 0
        · subst hn0
          have hxv := HIN.out.2.1 (.inr rfl)
          subst hxv
          go_wp2_with fail
          refine region_ord (LkAt b (off + j * 2) (op, pos)) [(0, true), (1, true), (2, true), (3, true), (4, true), (5, true), (6, true), (7, true), (8, true), (9, true), (10, true), (11, false), (12, true)] (by kernel_rfl) (by kernel_rfl) HC.out (fun _ => ?_)
          have HN2 : Hid (New w wr.drew) := Lib.hid HIN.out.1.drew
          have HC2 : Hid (LkAt b (off + j * 2) (op, pos) wr.drew) := Lib.hid HC.out
          generalize wr.drew = w2 at *
          unfold LkAt
          iterate 11 (apply ord_take; (simp only [List.getElem?_toArray, List.getElem?_cons_succ, List.getElem?_cons_zero]; rfl); rfl; (intro w hSw; (try dsimp only at hSw); go_simp; try with_reducible rfl); intro _; try simp only [Act.put, List.setIfInBounds_toArray, List.set_cons_zero, List.set_cons_succ])
          (apply ord_only; (simp only [List.getElem?_toArray, List.getElem?_cons_succ, List.getElem?_cons_zero]; rfl); rfl; intro K hK)
          go_simp
          refine (again0 w2 _ _).mono ?_
          rintro e w3 ⟨rfl, rfl⟩
          refine hK.out _ _ (HC2.out) (fun _ => ?_)
          clear hK K
          try simp only [Act.put, List.setIfInBounds_toArray, List.set_cons_zero, List.set_cons_succ]
          iterate 1 (apply ord_take; (simp only [List.getElem?_toArray, List.getElem?_cons_succ, List.getElem?_cons_zero]; rfl); rfl; (intro w hSw; (try dsimp only at hSw); go_simp; try with_reducible rfl); intro _; try simp only [Act.put, List.setIfInBounds_toArray, List.set_cons_zero, List.set_cons_succ])
          apply ord_done
          go_wp2
          go_roundw
          case rel => exact ⟨j, by omega, by go_num, HN2.out, fun _ => rfl, fun _ h => absurd rfl h⟩
          case measure => simp [intOf] <;> omega
        · obtain ⟨L, hL1, hL2, hL3⟩ := HIN.out.2.2 HNE.out hn0
          obtain ⟨ty, y, hty⟩ : ∃ t y, errAt L (.num n) 0 = .iface t y := by
            rcases Nat.lt_or_ge 0 L.length with h2 | h2
            · exact ⟨_, _, errAt_lt h2⟩
            · exact ⟨_, _, errAt_ge h2⟩
          rw [hty] at hL3
          subst hL3
          have HTY := Lib.hid hty
          have HL1 := Lib.hid hL1
          have HL2 : Hid (Chain wr.drew L (.num n)) := Lib.hid ⟨hL2.cells, hL2.apart⟩
          clear hty hL1 hL2
          go_wp2_with fail
          refine region_ord (LkAt b (off + j * 2) (op, pos)) [(0, true), (1, true), (2, true), (3, true), (4, true), (5, true), (6, true), (7, true), (8, true), (9, true), (10, true), (11, false), (12, true)] (by kernel_rfl) (by kernel_rfl) HC.out (fun _ => ?_)
          have HN2 : Hid (New w wr.drew) := Lib.hid HIN.out.1.drew
          have HC2 : Hid (LkAt b (off + j * 2) (op, pos) wr.drew) := Lib.hid HC.out
          generalize wr.drew = w2 at *
          unfold LkAt
          iterate 11 (apply ord_take; (simp only [List.getElem?_toArray, List.getElem?_cons_succ, List.getElem?_cons_zero]; rfl); rfl; (intro w hSw; (try dsimp only at hSw); go_simp; try with_reducible rfl); intro _; try simp only [Act.put, List.setIfInBounds_toArray, List.set_cons_zero, List.set_cons_succ])
          (apply ord_only; (simp only [List.getElem?_toArray, List.getElem?_cons_succ, List.getElem?_cons_zero]; rfl); rfl; intro K hK)
          go_simp
          refine (again1 w2 _ _ ty y).mono ?_
          rintro e w3 ⟨rfl, h3, N3⟩
          have HR : Hid (MadeTo w (l.drop j) n (.iface 42 (.pointer (some ⟨w2.heap.size, 0, none⟩))) w3) := by
            refine Lib.hid ⟨New.trans HN2.out N3, fun h => ?_, fun _ _ => ?_⟩
            · rw [HD.out] at h; simp [hn0] at h
            · refine ⟨⟨w2.heap.size, op, pos⟩ :: L, by rw [HD.out, List.map_cons, HL1.out]; rfl, ?_, rfl⟩
              exact Chain.cons HL2.out (by rw [HTY.out]; exact h3) N3
          have HC3 : Hid (LkAt b (off + j * 2) (op, pos) w3) := Lib.hid ⟨by rw [N3.cell (p := ⟨b, off + j * 2, none⟩) (World.block_lt_of_cell? w2 _ HC2.out.1)]; exact HC2.out.1, by rw [N3.cell (p := ⟨b, off + j * 2 + 1, none⟩) (World.block_lt_of_cell? w2 _ HC2.out.2)]; exact HC2.out.2⟩
          clear h3 N3
          refine hK.out _ _ (HC3.out) (fun _ => ?_)
          clear hK K
          try simp only [Act.put, List.setIfInBounds_toArray, List.set_cons_zero, List.set_cons_succ]
          iterate 1 (apply ord_take; (simp only [List.getElem?_toArray, List.getElem?_cons_succ, List.getElem?_cons_zero]; rfl); rfl; (intro w hSw; (try dsimp only at hSw); go_simp; try with_reducible rfl); intro _; try simp only [Act.put, List.setIfInBounds_toArray, List.set_cons_zero, List.set_cons_succ])
          apply ord_done
          go_wp2
          go_roundw
          case rel => exact ⟨j, by omega, by go_num, HR.out⟩
          case measure => simp [intOf] <;> omega

end Go.Proofs.YtnjijmphmgihiaaDoor
