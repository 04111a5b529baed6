/-
  The reference's Sum, from its rounds: 'refCut' holds what each round has to show (found by the walk itself), and the walk from there.
-/
import Derived.Test.YtliojldkdmaofaaDoorRefShaZ
import Derived.Test.YtliojldkdmaofaaDoorShaA
import Derived.Laws.MakeOwn
import Derived.StillTailTactics
namespace Go.Proofs.YtliojldkdmaofaaDoor
set_option linter.unusedVariables false
set_option linter.unusedSimpArgs false
open Go.RowKit

attribute [local go_sem] u32_bxor u32_band u32_bnot u32_add u32_add' shr3_of shr10_of

theorem ext_succ (b : List UInt8) (t : Nat) : ext b (t + 1) = ext b t ++ [nextW (ext b t) t] := rfl

theorem infoWord : (Tryd.prog.info? 62).map (fun i => (i.zero, i.size, i.bytes)) = some (some (.int .u32 0), 1, 4) := by kernel_rfl

/-- make([]uint32, 64) -/
theorem run_make_words (wx : World) :
    (Instr.makeSlice 63 (.int .i64 64) (.int .i64 64)).run Tryd.prog wx = .ok (.slice (some ⟨wx.heap.size, 0, none⟩) 64 64) (wx.alloc (.cells (row64 []) 62)) := by
  obtain ⟨i0, hi0, hz0, hz1, hz2⟩ := info_parts infoWord
  have h := run_make (P := Tryd.prog) wx 63 62 i0 _ Tryd.underlying63 hi0 hz0 .i64 .i64 64 64 (by omega) (by omega) (by rw [hz2]; omega) (by omega)
  rw [h, hz1, Nat.mul_one]
  have e : ∀ n, madeCells (Value.int .u32 0).cells n = (List.replicate n (wv 0)).toArray := fun n => by
    apply Array.ext
    · simp [size_madeCells]
    · intro i h1 h2
      simp [madeCells, Value.cells, Nat.mod_one]
  have e2 : row64 [] = (List.replicate 64 (wv 0)).toArray := by
    unfold row64
    rw [List.nil_append, List.map_replicate]
    rfl
  rw [e, e2]
  rfl

/-- the cells of a slice of bytes, at the address as a walk has it -/
theorem Rd.cell {w : World} {a : Option Addr} {n c : Nat} {l : List UInt8} (h : Rd w (.slice a n c) l) (hn : 0 < n) :
    ∃ b off, a = some ⟨b, off, none⟩ ∧ ∀ i u, l[i]? = some u → w.cell? ⟨b, off + i, none⟩ = some (bv u) := by
  have h' : RdV w (.slice a n c) (l.map bv) := by
    obtain ⟨a', n', c', e, h1, h2, h3, h4, h5⟩ := h
    cases e
    refine ⟨a, n, c, rfl, by simpa using h1, h2, h3, h4, fun ad had i u hu => ?_⟩
    rw [List.getElem?_map] at hu
    cases hb : l[i]? with
    | none => rw [hb] at hu; cases hu
    | some x => rw [hb] at hu; cases hu; exact h5 ad had i x hb
  obtain ⟨b, off, e, hc⟩ := h'.cell hn
  exact ⟨b, off, e, fun i u hu => hc i (bv u) (by rw [List.getElem?_map, hu]; rfl)⟩

/-- what the reference's Sum has in memory behind k blocks -/
structure RefIn (w : World) (A : List UInt8) (bh bk ba off : Nat) (s : List UInt32) (wr : World) : Prop where
  h : wr.heap[bh]? = some (.cells (s.map wv).toArray 62)
  kt : wr.heap[bk]? = some (.cells (kTab.map wv).toArray 62)
  all : ∀ i u, A[i]? = some u → wr.cell? ⟨ba, off + i, none⟩ = some (bv u)
  new : New w wr

theorem RefIn.of_only {w : World} {A : List UInt8} {bh bk ba off : Nat} {s : List UInt32} {wr wr' : World} {F : Nat → Prop} (h : RefIn w A bh bk ba off s wr) (ho : Only F wr wr') (h1 : ¬ F bh) (h2 : ¬ F bk) (h3 : ¬ F ba) (hF : ∀ k, F k → w.heap.size ≤ k) : RefIn w A bh bk ba off s wr' := by
  refine ⟨(ho.block _ (lt_of_block h.h) h1).trans h.h, (ho.block _ (lt_of_block h.kt) h2).trans h.kt, fun i u hu => ?_, ?_⟩
  · have hc := h.all i u hu
    rw [World.cell?_of_block (w := wr) (ho.block _ (World.block_lt_of_cell? wr _ hc) h3)]
    exact hc
  · exact Below.trans h.new (ho.below h.new.size hF)

theorem RefIn.of_new {w : World} {A : List UInt8} {bh bk ba off : Nat} {s : List UInt32} {wr wr' : World} (h : RefIn w A bh bk ba off s wr) (ho : New wr wr') : RefIn w A bh bk ba off s wr' :=
  h.of_only (F := fun _ => False) (New.only ho) (fun h => h) (fun h => h) (fun h => h) (fun _ h => h.elim)

/-- .. with the words of a block in block bw -/
structure RefW (w : World) (A : List UInt8) (bh bk ba off bw : Nat) (s : List UInt32) (ws : List UInt32) (wr : World) : Prop where
  ref : RefIn w A bh bk ba off s wr
  words : wr.heap[bw]? = some (.cells (row64 ws) 62)

theorem RefW.drew {w : World} {A : List UInt8} {bh bk ba off bw : Nat} {s : List UInt32} {ws : List UInt32} {wr : World} (h : RefW w A bh bk ba off bw s ws wr) : RefW w A bh bk ba off bw s ws wr.drew :=
  ⟨h.ref.of_new (Below.refl _ _).drew, h.words⟩

theorem RefW.drewN {w : World} {A : List UInt8} {bh bk ba off bw : Nat} {s : List UInt32} {ws : List UInt32} {wr : World} (h : RefW w A bh bk ba off bw s ws wr) (n : Nat) : RefW w A bh bk ba off bw s ws (wr.drewN n) :=
  ⟨h.ref.of_new (below_drewN (Below.refl _ _) n), h.words⟩

theorem RefW.byte {w : World} {A : List UInt8} {bh bk ba off bw : Nat} {s : List UInt32} {ws : List UInt32} {wr : World} (h : RefW w A bh bk ba off bw s ws wr) {i : Nat} (hi : i < A.length) : ∃ x, A.getD i 0 = x ∧ wr.cell? ⟨ba, off + i, none⟩ = some (bv x) :=
  ⟨_, rfl, h.ref.all i _ (by rw [List.getD_eq_getElem?_getD, List.getElem?_eq_getElem hi]; rfl)⟩

theorem RefW.word {w : World} {A : List UInt8} {bh bk ba off bw : Nat} {s : List UInt32} {ws : List UInt32} {wr : World} (h : RefW w A bh bk ba off bw s ws wr) {i : Nat} (hi : i < ws.length) : ∃ x, ws.getD i 0 = x ∧ wr.cell? ⟨bw, i, none⟩ = some (wv x) :=
  ⟨_, rfl, by rw [cell_of_row _ _ _ _ _ _ h.words]; exact row64_get ws i hi⟩

theorem RefW.put {w : World} {A : List UInt8} {bh bk ba off bw : Nat} {s : List UInt32} {ws : List UInt32} {wr : World} (h : RefW w A bh bk ba off bw s ws wr) {x : UInt32} {t : Nat} (ht : ws.length = t) (hlt : t < 64) (h1 : bh < bw) (h2 : bk < bw) (h3 : ba < bw) (h4 : w.heap.size ≤ bw) :
    RefW w A bh bk ba off bw s (ws ++ [x]) (wr.setCell ⟨bw, t, none⟩ (wv x)) := by
  subst ht
  refine ⟨h.ref.of_only (F := fun k => k = bw) (Only.setCell (F := fun k => k = bw) (p := ⟨bw, ws.length, none⟩) (Only.refl _ _) (fun _ => rfl) _) (by omega) (by omega) (by omega) (fun k e => by subst e; exact h4), ?_⟩
  rw [heap_setCell_same _ _ _ _ _ _ h.words, row64_set _ _ hlt]

/-- a slice of eight words -/
def V8 (w : World) (base : Nat) (v : Value) (s : H8) : Prop := ∃ b c, v = .slice (some ⟨b, 0, none⟩) 8 c ∧ base ≤ b ∧ 8 ≤ c ∧ c ≤ maxLen ∧ ∀ i x, s.list[i]? = some x → w.cell? ⟨b, i, none⟩ = some (wv x)

theorem V8.of_own {w : World} {base : Nat} {e : TypeId} {v : Value} {s : H8} {n : Nat} (h : w.ownsRow base e 1 v n (s.list.map wv)) : V8 w base v s := by
  have hl := h.1
  simp [H8.list] at hl
  subst hl
  rcases h.2 with ⟨rfl, h0⟩ | ⟨g, cap, cur, rfl, hb, hg, hnc, hcm, hcs, htake⟩
  · omega
  · refine ⟨g, cap, rfl, hb, hnc, hcm, fun i x hx => ?_⟩
    have hc := h.cells (g := g) rfl i (wv x) (by rw [List.getElem?_map, hx]; rfl)
    rwa [show (⟨g, 0, none⟩ : Addr).add i = ⟨g, i, none⟩ by unfold Addr.add; split <;> simp_all] at hc

theorem V8.mono {w : World} {base base' : Nat} {v : Value} {s : H8} (h : V8 w base v s) (hb : base' ≤ base) : V8 w base' v s := by
  obtain ⟨b, c, e, h0, rest⟩ := h
  exact ⟨b, c, e, Nat.le_trans hb h0, rest⟩

theorem V8.only {w w' : World} {F : Nat → Prop} {base : Nat} {v : Value} {s : H8} (h : V8 w base v s) (ho : Only F w w') (hF : ∀ k, F k → k < base) : V8 w' base v s := by
  obtain ⟨b, c, e, h0, h1, h2, h3⟩ := h
  refine ⟨b, c, e, h0, h1, h2, fun i x hx => ?_⟩
  rw [World.cell?_of_block (w := w) (ho.block _ (World.block_lt_of_cell? w _ (h3 i x hx)) (fun f => by have := hF _ f; simp at this; omega))]
  exact h3 i x hx

theorem V8.new {w w' : World} {base : Nat} {v : Value} {s : H8} (h : V8 w base v s) (hn : New w w') : V8 w' base v s := by
  obtain ⟨b, c, e, h0, h1, h2, h3⟩ := h
  exact ⟨b, c, e, h0, h1, h2, fun i x hx => (hn.cell (p := ⟨b, i, none⟩) (World.block_lt_of_cell? w _ (h3 i x hx))).trans (h3 i x hx)⟩

theorem V8.made (w : World) (s : H8) : V8 (w.alloc (.cells (s.list.map wv).toArray 62)) w.heap.size (.slice (some ⟨w.heap.size, 0, none⟩) 8 8) s :=
  ⟨_, _, rfl, Nat.le_refl _, Nat.le_refl _, by simp [maxLen], fun i x hx => by rw [cell_of_row _ _ _ _ _ _ (heap_alloc_new _ _), List.getElem?_toArray, List.getElem?_map, hx]; rfl⟩

theorem row_cells {w : World} {b : Nat} {t : TypeId} {vs : List Value} (h : w.heap[b]? = some (.cells vs.toArray t)) : ∀ j u, vs[j]? = some u → w.cell? ((⟨b, 0, none⟩ : Addr).add j) = some u := fun j u hu => by
  rw [show (⟨b, 0, none⟩ : Addr).add j = ⟨b, j, none⟩ by unfold Addr.add; split <;> simp_all, cell_of_row _ _ _ _ _ _ h]
  simpa using hu

theorem wpList_append_run {P : Program} {w : World} {ops : Array Oper} {rest : List Oper} {o : Oper} {a : Act} {Q : Exit → Act → World → Prop} (hgd : o.guard = none) (s x : Operand) (t : TypeId)
    (ho : o.op = .call { callee := .builtin .append, args := #[s, x], argTypes := #[t, t] }) (vs vx : Value) (hs : a.eval s = vs) (hx : a.eval x = vx) {v' : Value} {w' : World}
    (hr : (Builtin.append_ #[t, t] o.type #[vs, vx]).run P w = .ok v' w') (h : wpList P ops Q rest (a.put o.dst v') w') : wpList P ops Q (o :: rest) a w :=
  wpList_plain hgd fun K hK => oper_append s x t ho vs vx hs hx hr (hK _ _ h)

/-- eight words, of which the first i have been added up -/
def hm (s r : H8) (i : Nat) : List UInt32 := (s.add r).list.take i ++ s.list.drop i

theorem hm_length (s r : H8) (i : Nat) (h : i ≤ 8) : (hm s r i).length = 8 := by
  have h1 : (s.add r).list.length = 8 := rfl
  have h2 : s.list.length = 8 := rfl
  simp [hm, h1, h2]; omega

theorem hm_get (s r : H8) (i : Nat) (h : i < 8) : (hm s r i)[i]? = some (s.list.getD i 0) := by
  have h8 : i = 0 ∨ i = 1 ∨ i = 2 ∨ i = 3 ∨ i = 4 ∨ i = 5 ∨ i = 6 ∨ i = 7 := by omega
  rcases h8 with rfl | rfl | rfl | rfl | rfl | rfl | rfl | rfl <;> rfl

theorem hm_set (s r : H8) (i : Nat) (h : i < 8) : (hm s r i).set i (wadd (s.list.getD i 0) (r.list.getD i 0)) = hm s r (i + 1) := by
  have h8 : i = 0 ∨ i = 1 ∨ i = 2 ∨ i = 3 ∨ i = 4 ∨ i = 5 ∨ i = 6 ∨ i = 7 := by omega
  rcases h8 with rfl | rfl | rfl | rfl | rfl | rfl | rfl | rfl <;> rfl

/-- h[i] = h[i] + v[i] -/
theorem RefIn.add {w : World} {A : List UInt8} {bh bk ba off : Nat} {s r : H8} {i : Nat} {wr : World} (h : RefIn w A bh bk ba off (hm s r i) wr) (hi : i < 8) (h2 : bk ≠ bh) (h3 : ba ≠ bh) (h4 : w.heap.size ≤ bh) :
    RefIn w A bh bk ba off (hm s r (i + 1)) (wr.setCell ⟨bh, i, none⟩ (wv (wadd (s.list.getD i 0) (r.list.getD i 0)))) := by
  have ho : Only (fun k => k = bh) wr (wr.setCell ⟨bh, i, none⟩ (wv (wadd (s.list.getD i 0) (r.list.getD i 0)))) := Only.setCell (F := fun k => k = bh) (p := ⟨bh, i, none⟩) (Only.refl _ _) (fun _ => rfl) _
  refine ⟨?_, (ho.block _ (lt_of_block h.kt) h2).trans h.kt, fun j u hu => ?_, Below.trans h.new (ho.below h.new.size (fun k e => by rw [e]; exact h4))⟩
  · rw [heap_setCell_same _ _ _ _ _ _ h.h, List.setIfInBounds_toArray, ← List.map_set, hm_set s r i hi]
  · have hc := h.all j u hu
    rw [World.cell?_of_block (w := wr) (ho.block _ (World.block_lt_of_cell? wr _ hc) h3)]
    exact hc

set_option maxRecDepth 100000 in
set_option maxHeartbeats 20000000 in
noncomputable def refCut : (RA : Prop) ×' (RB : Prop) ×' (RC : Prop) ×' (RD : Prop) ×' (RE : Prop) ×' (Hid RA → Hid RB → Hid RC → Hid RD → Hid RE → ∀ (w : World) (l : List UInt8) (hl : l.length ≤ 1099511627776), Calls Tryd.prog 27 #[.string (bstr l)] w fun e w' => e = .returned (.string (bstr (sha256 l))) ∧ New w w') := by
  apply PSigma.mk
  apply PSigma.mk
  apply PSigma.mk
  apply PSigma.mk
  apply PSigma.mk
  · intro hRA hRB hRC hRD hRE w l hl
    go_enter Tryd.func27, Tryd.ntmps27
    go_wp2_with fail
    refine (refK _).mono ?_
    rintro e w2 ⟨rfl, rfl⟩
    go_wp2_with fail
    refine (refOctets _ l hl).mono ?_
    generalize hw2 : World.alloc _ _ = w2
    have HH : Hid (w2.heap[w.heap.size]? = some (.cells (h0.list.map wv).toArray 62)) := by
      show _ = _
      rw [← hw2, heap_old _ _ _ (by simp)]; exact heap_alloc_new _ _
    have HK : Hid (w2.heap[w.heap.size + 1]? = some (.cells (kTab.map wv).toArray 62)) := by
      show _ = _
      rw [← hw2]; exact heap_new _ _ _ (by simp)
    have hn2 : New w w2 := by rw [← hw2]; exact ((Below.refl _ _).alloc (Nat.le_refl _) _).alloc (by simp) _
    have hs2 : w2.heap.size = w.heap.size + 2 := by rw [← hw2]; simp
    clear hw2
    rintro e w3 ⟨va, rfl, hrd, hn3, hfr⟩
    have hrd' := hrd
    obtain ⟨aa, na, ca, rfl, hla, _⟩ := hrd'
    obtain ⟨A, HA⟩ : ∃ A, Hid (l ++ padOf l.length = A) := ⟨_, Lib.hid rfl⟩
    have HM : Hid (A.length % 64 = 0) := by show _ = _; rw [← HA.out]; exact padded_mod _
    have hA1 : 64 ≤ A.length := by rw [← HA.out, List.length_append, padOf_length]; omega
    have hA2 : A.length ≤ 1099511627776 + 128 := by rw [← HA.out, List.length_append, padOf_length]; omega
    rw [HA.out] at hrd hla
    subst hla
    obtain ⟨ba, off, rfl, hall⟩ := hrd.cell (by omega)
    have hba1 : w2.heap.size ≤ ba := hfr ba rfl
    have hba2 : ba < w3.heap.size := hrd.lt (k := ba) rfl (by intro e; rw [e] at hA1; simp at hA1)
    have HI : Hid (RefIn w A w.heap.size (w.heap.size + 1) ba off (hashTo A 0).list w3) := ⟨(hn3.block _ (by omega)).trans HH.out, (hn3.block _ (by omega)).trans HK.out, hall, New.trans hn2 hn3⟩
    clear hrd hall hfr
    obtain ⟨N, HN⟩ : ∃ N, Hid (A.length = 64 * N) := ⟨A.length / 64, by have := HM.out; show _ = _; omega⟩
    go_wp2
    go_loopw [6] (fun i wr => ∃ k p : Nat, k ≤ N ∧ p = 64 * k ∧ i = .int .i64 p ∧ RefIn w A w.heap.size (w.heap.size + 1) ba off (hashTo A k).list wr ∧ w3.heap.size ≤ wr.heap.size) (fun i _ => A.length - (intOf i).toNat)
    case atStart => exact ⟨0, 0, Nat.zero_le _, rfl, rfl, HI.out, Nat.le_refl _⟩
    case round =>
      obtain ⟨k, p, hk, hp, rfl, hin, hsz⟩ := hrel
      have HP := Lib.hid hp
      have HIN := Lib.hid hin
      clear hp hin HI
      by_cases hlt : k < N
      ·
        have hpl : p < A.length := by have := HN.out; have := HP.out; omega
        have hmk := run_make_words wr
        go_upto_region 8 with fail
        clear hmk
        obtain ⟨bw, hbw⟩ : ∃ bw, bw = wr.heap.size := ⟨_, rfl⟩
        obtain ⟨w4, hw4⟩ : ∃ w4, wr.alloc (.cells (row64 []) 62) = w4 := ⟨_, rfl⟩
        have HW : Hid (RefW w A w.heap.size (w.heap.size + 1) ba off bw (hashTo A k).list [] w4) := by
          rw [← hw4]
          exact ⟨HIN.out.of_new ((Below.refl _ _).alloc (Nat.le_refl _) _), by rw [hbw]; exact heap_alloc_new _ _⟩
        have hbw1 : ba < bw := by omega
        have hsz4 : w3.heap.size ≤ w4.heap.size := by rw [← hw4]; simp; omega
        rw [hw4, ← hbw]
        clear hw4 HIN hsz
        go_wp2
        go_loopw [8] (fun i wr => ∃ t : Nat, t ≤ 16 ∧ i = .int .i64 t ∧ RefW w A w.heap.size (w.heap.size + 1) ba off bw (hashTo A k).list (head16 (chunk A k) t) wr ∧ w3.heap.size ≤ wr.heap.size) (fun i _ => 16 - (intOf i).toNat)
        case atStart => exact ⟨0, Nat.zero_le _, rfl, HW.out, hsz4⟩
        case round =>
          clear HW hbw hsz4
          obtain ⟨t, ht, rfl, hin, hsz⟩ := hrel
          have HIN := Lib.hid hin
          clear hin
          by_cases hlt2 : t < 16
          ·
            (repeat revert ‹Act → World → Prop›); (repeat revert ‹Value›); (repeat revert ‹UInt32›); (repeat revert ‹H8›); (repeat revert ‹List UInt8›); (repeat revert ‹Nat›); (repeat revert ‹World›)
            exact hRA.out
          · obtain rfl : t = 16 := by omega
            rw [show ((16 : Nat) : Int) = 16 from rfl]
            go_wp2
            go_loopw [10] (fun i wr => ∃ t : Nat, 16 ≤ t ∧ t ≤ 64 ∧ i = .int .i64 t ∧ RefW w A w.heap.size (w.heap.size + 1) ba off bw (hashTo A k).list (ext (chunk A k) (t - 16)) wr ∧ w3.heap.size ≤ wr.heap.size) (fun i _ => 64 - (intOf i).toNat)
            case atStart => exact ⟨16, by omega, by omega, rfl, HIN.out, hsz⟩
            case round =>
              clear HIN hsz hlt2 ht
              obtain ⟨t, h16, ht, rfl, hin, hsz⟩ := hrel
              have HIN := Lib.hid hin
              clear hin
              by_cases hlt2 : t < 64
              ·
                (repeat revert ‹Act → World → Prop›); (repeat revert ‹Value›); (repeat revert ‹UInt32›); (repeat revert ‹H8›); (repeat revert ‹List UInt8›); (repeat revert ‹Nat›); (repeat revert ‹World›)
                exact hRB.out
              · obtain rfl : t = 64 := by omega
                rw [show ((64 : Nat) : Int) = 64 from rfl]
                obtain ⟨i0, hi0, hz0, hz1, hz2⟩ := info_parts infoWord
                obtain ⟨v5, w5, hr5, ho5, hg5⟩ := run_append_arg_grows (P := Tryd.prog) (wr.alloc (.cells #[] 62)) 63 63 62 i0 _ 1 4 Tryd.underlying63 hi0 hz0 hz1 hz2 rfl (by omega) ⟨wr.heap.size, 0, none⟩ 0 0 [] rfl (by simp) ⟨w.heap.size, 0, none⟩ 8 8 ((hashTo A k).list.map wv) rfl (row_cells ((HIN.out.ref.of_new ((Below.refl _ _).alloc (Nat.le_refl _) _)).h)) (by omega) (by simp [maxLen]) (by omega)
                have hn5 : New wr w5 := Below.grown ((Below.refl _ _).alloc (Nat.le_refl _) _) hg5 (by simp) (by simp)
                have HV5 : Hid (V8 w5 w3.heap.size v5 (hashTo A k)) := by
                  rw [List.nil_append] at ho5
                  exact (V8.of_own ho5).mono (by simp; omega)
                have HIN5 : Hid (RefW w A w.heap.size (w.heap.size + 1) ba off bw (hashTo A k).list (ext (chunk A k) 48) w5) := ⟨HIN.out.ref.of_new hn5, (hn5.block _ (lt_of_block HIN.out.words)).trans HIN.out.words⟩
                have hsz5 : w3.heap.size ≤ w5.heap.size := Nat.le_trans hsz hn5.size
                clear ho5 hg5 HIN hsz hn5
                go_wp2_with (at_builtin; refine wpList_append_run rfl (.tmp 117) (.tmp 118) 63 rfl _ _ rfl rfl hr5 ?_)
                clear hr5
                go_loopw [13, 14] (fun v i wr => ∃ t : Nat, t ≤ 64 ∧ i = .int .i64 t ∧ V8 wr w3.heap.size v ((hashTo A k).rounds (ext (chunk A k) 48) t) ∧ RefW w A w.heap.size (w.heap.size + 1) ba off bw (hashTo A k).list (ext (chunk A k) 48) wr ∧ w3.heap.size ≤ wr.heap.size) (fun _ i _ => 64 - (intOf i).toNat)
                case atStart => exact ⟨0, Nat.zero_le _, rfl, HV5.out, HIN5.out, hsz5⟩
                case round =>
                  clear HV5 HIN5 hsz5 hlt2 ht
                  obtain ⟨t, ht, rfl, hv, hin, hsz⟩ := hrel
                  have HIN := Lib.hid hin
                  clear hin
                  by_cases hlt2 : t < 64
                  ·
                    (repeat revert ‹Act → World → Prop›); (repeat revert ‹Value›); (repeat revert ‹UInt32›); (repeat revert ‹H8›); (repeat revert ‹List UInt8›); (repeat revert ‹Nat›); (repeat revert ‹World›)
                    exact hRC.out
                  · obtain rfl : t = 64 := by omega
                    rw [show ((64 : Nat) : Int) = 64 from rfl]
                    have HIR := Lib.hid HIN.out.ref
                    have HS : Hid (hashTo A (k + 1) = (hashTo A k).add ((hashTo A k).rounds (ext (chunk A k) 48) 64)) := hashTo_succ A k
                    have HV := Lib.hid hv
                    clear HIN hv
                    obtain ⟨bvv, cv, rfl, hcv0, hcv1, hcv2, hvc0⟩ := HV.out
                    clear hvc0
                    generalize (hashTo A k).rounds (ext (chunk A k) 48) 64 = r at *
                    generalize hashTo A k = s at *
                    go_wp2
                    go_loopw [17] (fun i wr => ∃ j : Nat, j ≤ 8 ∧ i = .int .i64 j ∧ RefIn w A w.heap.size (w.heap.size + 1) ba off (hm s r j) wr ∧ V8 wr w3.heap.size (.slice (some ⟨bvv, 0, none⟩) 8 cv) r ∧ w3.heap.size ≤ wr.heap.size) (fun i _ => 8 - (intOf i).toNat)
                    case atStart => exact ⟨0, by omega, rfl, HIR.out, HV.out, hsz⟩
                    case round =>
                      clear HIR HV hsz hlt2 ht
                      obtain ⟨j, hj, rfl, hin, hv, hsz⟩ := hrel
                      by_cases hj8 : j < 8
                      ·
                        (repeat revert ‹Act → World → Prop›); (repeat revert ‹Value›); (repeat revert ‹UInt32›); (repeat revert ‹H8›); (repeat revert ‹List UInt8›); (repeat revert ‹Nat›); (repeat revert ‹World›)
                        exact hRD.out
                      · obtain rfl : j = 8 := by omega
                        go_wp2
                        go_roundw
                        case rel =>
                          refine ⟨k + 1, p + 64, by omega, by have := HP.out; omega, by go_num, ?_, hsz⟩
                          rw [HS.out]
                          exact hin
                        case measure => simp [intOf]; omega
      · obtain rfl : k = N := by omega
        have hpe : ¬ p < A.length := by have := HN.out; have := HP.out; omega
        have HIR := Lib.hid HIN.out
        clear HIN
        obtain ⟨i0, hi0, hz0, hz1, hz2⟩ := info_parts infoByte
        obtain ⟨s, HS⟩ : ∃ s, Hid (hashTo A k = s) := ⟨_, Lib.hid rfl⟩
        rw [HS.out] at HIR
        go_wp2
        go_loopw [18, 19] (fun v i wr => ∃ j : Nat, j ≤ 8 ∧ i = .int .i64 j ∧ wr.ownsRow w3.heap.size 5 1 v (wsbytes (s.list.take j)).length ((wsbytes (s.list.take j)).map bv) ∧ RefIn w A w.heap.size (w.heap.size + 1) ba off s.list wr ∧ w3.heap.size ≤ wr.heap.size) (fun _ i _ => 8 - (intOf i).toNat)
        case atStart => exact ⟨0, by omega, rfl, World.ownsRow_nil _ _ _ _, HIR.out, hsz⟩
        case round =>
          clear HIR hsz
          obtain ⟨j, hj, rfl, hown, hin, hsz⟩ := hrel
          by_cases hj8 : j < 8
          ·
            revert i0; (repeat revert ‹Act → World → Prop›); (repeat revert ‹Value›); (repeat revert ‹UInt32›); (repeat revert ‹H8›); (repeat revert ‹List UInt8›); (repeat revert ‹Nat›); (repeat revert ‹World›)
            exact hRE.out
          · obtain rfl : j = 8 := by omega
            have hr := Rd.of_own hown
            have ks := run_str (P := Tryd.prog) Tryd.underlying22 Tryd.underlying5 Tryd.underlying9 hr
            have HNW := Lib.hid hin.new
            have HE : Hid (sha256 l = wsbytes (s.list.take 8)) := by
              show _ = _
              unfold sha256
              have h1 := HA.out
              have h2 := HN.out
              rw [h1, show A.length / 64 = k by omega, HS.out]; rfl
            generalize wsbytes (s.list.take 8) = L at *
            clear hr hin hown
            go_wp2
            go_ret
            exact ⟨by rw [HE.out]; rfl, HNW.out⟩

end Go.Proofs.YtliojldkdmaofaaDoor
