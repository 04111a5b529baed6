/-
  sha.mixed: the hash after one more block.
-/
import Derived.Test.YtoooemlcackepaaDoorShaExp
namespace Go.Proofs.YtoooemlcackepaaDoor
set_option linter.unusedVariables false
set_option linter.unusedSimpArgs false
open Go.RowKit

attribute [local go_sem] u32_bxor u32_band u32_bnot u32_add u32_add' shr3_of shr10_of

def hagg (s : H8) : Value := .agg (s.list.map wv).toArray

/-- the table of constants lies where the program laid it -/
def KTab (w : World) : Prop := ∀ i, i < 64 → w.cell? ⟨1, i, none⟩ = some (wv (kTab.getD i 0))

theorem KTab.new {w w' : World} (h : KTab w) (hn : New w w') : KTab w' := fun i hi => by
  have h1 := h i hi
  exact (hn.cell (p := ⟨1, i, none⟩) (World.block_lt_of_cell? w _ h1)).trans h1

/-- arr[t] of an array value of 64 words -/
theorem run_index64 (ws : List UInt32) (hw : ws.length = 64) (t : Nat) (ht : t < 64) (wx : World) :
    (Instr.index 48 (.agg (ws.map wv).toArray) (.int .i64 (t : Int))).run Tryd.prog wx = .ok (wv (ws.getD t 0)) wx := by
  have hu : Tryd.prog.underlying 48 = some (.array 64 36) := by kernel_rfl
  have hs : (sizeOf 36).run Tryd.prog wx = .ok 1 wx := by kernel_rfl
  have ha : (isAgg 36).run Tryd.prog wx = .ok false wx := by kernel_rfl
  have hg : ws[t]? = some (ws.getD t 0) := by
    rw [List.getD_eq_getElem?_getD, List.getElem?_eq_getElem (by omega)]; rfl
  have h0 : (0 : Int) ≤ t ∧ (t : Int) < (64 : Nat) := ⟨by omega, by omega⟩
  have hp : (part 36 (ws.map wv).toArray t).run Tryd.prog wx = .ok (wv (ws.getD t 0)) wx := by
    unfold part
    rw [Sem.run_bind, ha]
    simp only [Result.andThen_ok, Bool.false_eq_true, if_false, List.getElem?_toArray, List.getElem?_map, hg, Option.map_some, Sem.run_pure]
  unfold Instr.index
  rw [Sem.run_bind]
  simp only [asIntOf, Sem.run_pure, Result.andThen_ok]
  rw [Sem.run_bind, run_underlying hu]
  simp only [Result.andThen_ok, if_pos h0]
  rw [Sem.run_bind, hs]
  simp only [Result.andThen_ok, Int.toNat_natCast, Nat.mul_one]
  exact hp

structure MixIn (w : World) (s : H8) (ws : List UInt32) (wr : World) : Prop where
  hash : wr.heap[w.heap.size]? = some (.cells (s.list.map wv).toArray 42)
  words : wr.heap[w.heap.size + 1]? = some (.cells (ws.map wv).toArray 48)
  res : wr.heap[w.heap.size + 1 + 1]? = some (.cells #[wv 0, wv 0, wv 0, wv 0, wv 0, wv 0, wv 0, wv 0] 42)
  new : New w wr

theorem MixIn.drewN {w : World} {s : H8} {ws : List UInt32} {wr : World} (h : MixIn w s ws wr) (n : Nat) : MixIn w s ws (wr.drewN n) :=
  ⟨h.hash, h.words, h.res, below_drewN h.new n⟩

theorem MixIn.cell {w : World} {s : H8} {ws : List UInt32} {wr : World} (h : MixIn w s ws wr) (i : Nat) (x : UInt32) (hx : s.list[i]? = some x) : wr.cell? ⟨w.heap.size, i, none⟩ = some (wv x) := by
  rw [cell_of_row _ _ _ _ _ _ h.hash, List.getElem?_toArray, List.getElem?_map, hx]; rfl

theorem zero8 {w : World} {p : Nat} {t : TypeId} (h : w.heap[p]? = some (.cells #[wv 0, wv 0, wv 0, wv 0, wv 0, wv 0, wv 0, wv 0] t)) (i : Nat) (hi : i < 8) : w.cell? ⟨p, i, none⟩ = some (wv 0) := by
  rw [cell_of_row _ _ _ _ _ _ h]
  have h8 : i = 0 ∨ i = 1 ∨ i = 2 ∨ i = 3 ∨ i = 4 ∨ i = 5 ∨ i = 6 ∨ i = 7 := by omega
  rcases h8 with rfl | rfl | rfl | rfl | rfl | rfl | rfl | rfl <;> rfl

theorem set8 {w : World} {p : Nat} {t : TypeId} {z0 z1 z2 z3 z4 z5 z6 z7 : Value} (h : w.heap[p]? = some (.cells #[z0, z1, z2, z3, z4, z5, z6, z7] t)) (a b c d e f g i : Value) :
    ((((((((w.setCell ⟨p, 0, none⟩ a).setCell ⟨p, 1, none⟩ b).setCell ⟨p, 2, none⟩ c).setCell ⟨p, 3, none⟩ d).setCell ⟨p, 4, none⟩ e).setCell ⟨p, 5, none⟩ f).setCell ⟨p, 6, none⟩ g).setCell ⟨p, 7, none⟩ i).heap[p]? = some (.cells #[a, b, c, d, e, f, g, i] t) := by
  have h0 : (w.setCell ⟨p, 0, none⟩ a).heap[p]? = some (.cells #[a, z1, z2, z3, z4, z5, z6, z7] t) := heap_setCell_same _ _ 0 _ _ _ h
  generalize w.setCell ⟨p, 0, none⟩ a = w0 at h0 ⊢
  have h1 : (w0.setCell ⟨p, 1, none⟩ b).heap[p]? = some (.cells #[a, b, z2, z3, z4, z5, z6, z7] t) := heap_setCell_same _ _ 1 _ _ _ h0
  generalize w0.setCell ⟨p, 1, none⟩ b = w1 at h1 ⊢
  have h2 : (w1.setCell ⟨p, 2, none⟩ c).heap[p]? = some (.cells #[a, b, c, z3, z4, z5, z6, z7] t) := heap_setCell_same _ _ 2 _ _ _ h1
  generalize w1.setCell ⟨p, 2, none⟩ c = w2 at h2 ⊢
  have h3 : (w2.setCell ⟨p, 3, none⟩ d).heap[p]? = some (.cells #[a, b, c, d, z4, z5, z6, z7] t) := heap_setCell_same _ _ 3 _ _ _ h2
  generalize w2.setCell ⟨p, 3, none⟩ d = w3 at h3 ⊢
  have h4 : (w3.setCell ⟨p, 4, none⟩ e).heap[p]? = some (.cells #[a, b, c, d, e, z5, z6, z7] t) := heap_setCell_same _ _ 4 _ _ _ h3
  generalize w3.setCell ⟨p, 4, none⟩ e = w4 at h4 ⊢
  have h5 : (w4.setCell ⟨p, 5, none⟩ f).heap[p]? = some (.cells #[a, b, c, d, e, f, z6, z7] t) := heap_setCell_same _ _ 5 _ _ _ h4
  generalize w4.setCell ⟨p, 5, none⟩ f = w5 at h5 ⊢
  have h6 : (w5.setCell ⟨p, 6, none⟩ g).heap[p]? = some (.cells #[a, b, c, d, e, f, g, z7] t) := heap_setCell_same _ _ 6 _ _ _ h5
  generalize w5.setCell ⟨p, 6, none⟩ g = w6 at h6 ⊢
  exact heap_setCell_same _ _ 7 _ _ _ h6

set_option maxRecDepth 100000 in
set_option maxHeartbeats 400000 in
theorem shaMixed (w : World) (s : H8) (ws : List UInt32) (hw : Hid (ws.length = 64)) (hk : Hid (KTab w)) :
    Calls Tryd.prog 21 #[hagg s, .agg (ws.map wv).toArray] w fun e w' => e = .returned (hagg (s.add (s.rounds ws 64))) ∧ New w w' := by
  have hag : hagg s = .agg #[wv s.a, wv s.b, wv s.c, wv s.d, wv s.e, wv s.f, wv s.g, wv s.h] := rfl
  rw [hag]
  clear hag
  go_enter Tryd.func21, Tryd.ntmps21
  go_wp2
  generalize hwm : World.alloc _ _ = wm
  have hin : MixIn w s ws wm := by
    rw [← hwm]
    exact ⟨alloc3_0 _ _ _ _, alloc3_1 _ _ _ _, alloc3_2 _ _ _ _, (((Below.refl _ _).alloc (Nat.le_refl _) _).alloc (by simp) _).alloc (by simp; omega) _⟩
  clear hwm
  have c0 := hin.cell 0 s.a rfl
  have c1 := hin.cell 1 s.b rfl
  have c2 := hin.cell 2 s.c rfl
  have c3 := hin.cell 3 s.d rfl
  have c4 := hin.cell 4 s.e rfl
  have c5 := hin.cell 5 s.f rfl
  have c6 := hin.cell 6 s.g rfl
  have c7 := hin.cell 7 s.h rfl
  go_quiet (fail)
  go_wp2
  go_quiet (fail)
  go_upto_region 3 with fail
  generalize hwn : World.drewN _ _ = wn
  have hin : MixIn w s ws wn := by
    rw [← hwn]
    exact (hin.drewN _).drewN _
  clear hwn c0 c1 c2 c3 c4 c5 c6 c7
  refine wp_region_lit ?_
  have hlen : (ws.map wv).toArray.size = 64 := by simp [hw.out]
  refine wpList_load_row rfl 48 _ rfl (w.heap.size + 1) rfl _ _ _ _ hin.words Tryd.underlying48 rfl (by rw [hlen]; kernel_rfl) ?_
  clear hlen
  have HI := Lib.hid hin
  have HK := Lib.hid (hk.out.new hin.new)
  clear hin hk
  go_wp2
  go_loop [5, 6, 7, 8, 9, 10, 11, 12, 36] (fun a b c d e f g h i => ∃ t : Nat, t ≤ 64 ∧ i = .int .i64 t ∧ a = wv (s.rounds ws t).a ∧ b = wv (s.rounds ws t).b ∧ c = wv (s.rounds ws t).c ∧ d = wv (s.rounds ws t).d ∧ e = wv (s.rounds ws t).e ∧ f = wv (s.rounds ws t).f ∧ g = wv (s.rounds ws t).g ∧ h = wv (s.rounds ws t).h) (fun _ _ _ _ _ _ _ _ i => 64 - (intOf i).toNat)
  case atStart => exact ⟨0, by omega, rfl, rfl, rfl, rfl, rfl, rfl, rfl, rfl, rfl⟩
  case round =>
    obtain ⟨t, ht, rfl, rfl, rfl, rfl, rfl, rfl, rfl, rfl, rfl⟩ := hrel
    by_cases hlt : t < 64
    · have hix := run_index64 ws hw.out t hlt
      have hkc := HK.out t hlt
      have h64 : (t : Int) < 64 := by omega
      have HR : Hid (s.rounds ws (t + 1) = (s.rounds ws t).rnd (kTab.getD t 0) (ws.getD t 0)) := rfl
      generalize ws.getD t 0 = x at hix HR
      generalize kTab.getD t 0 = k at hkc HR
      generalize s.rounds ws t = r at HR ⊢
      go_wp2_with (go_at_call 25; refine (shaRightI _ _ _ (by decide) (by decide)).mono ?_; rintro e w' ⟨rfl, rfl⟩)
      go_round
      case rel => exact ⟨t + 1, by omega, by go_num, by rw [HR.out]; rfl, by rw [HR.out]; rfl, by rw [HR.out]; rfl, by rw [HR.out]; rfl, by rw [HR.out]; rfl, by rw [HR.out]; rfl, by rw [HR.out]; rfl, by rw [HR.out]; rfl⟩
      case measure => simp [intOf]; omega
    · obtain rfl : t = 64 := by omega
      have c0 := HI.out.cell 0 s.a rfl
      have c1 := HI.out.cell 1 s.b rfl
      have c2 := HI.out.cell 2 s.c rfl
      have c3 := HI.out.cell 3 s.d rfl
      have c4 := HI.out.cell 4 s.e rfl
      have c5 := HI.out.cell 5 s.f rfl
      have c6 := HI.out.cell 6 s.g rfl
      have c7 := HI.out.cell 7 s.h rfl
      obtain ⟨r, HR⟩ : ∃ r, Hid (s.rounds ws 64 = r) := ⟨_, rfl⟩
      rw [HR.out]
      have hres := HI.out.res
      have d0 := zero8 hres 0 (by decide)
      have e0 := frozen_of_row _ _ 0 _ _ hres
      have d1 := zero8 hres 1 (by decide)
      have e1 := frozen_of_row _ _ 1 _ _ hres
      have d2 := zero8 hres 2 (by decide)
      have e2 := frozen_of_row _ _ 2 _ _ hres
      have d3 := zero8 hres 3 (by decide)
      have e3 := frozen_of_row _ _ 3 _ _ hres
      have d4 := zero8 hres 4 (by decide)
      have e4 := frozen_of_row _ _ 4 _ _ hres
      have d5 := zero8 hres 5 (by decide)
      have e5 := frozen_of_row _ _ 5 _ _ hres
      have d6 := zero8 hres 6 (by decide)
      have e6 := frozen_of_row _ _ 6 _ _ hres
      have d7 := zero8 hres 7 (by decide)
      have e7 := frozen_of_row _ _ 7 _ _ hres
      clear hres
      go_wp2
      refine bodyPost_ret (v := hagg (s.add r)) (results_cell_row rfl _ _ (w.heap.size + 1 + 1) _ _ _ _ rfl (set8 HI.out.res _ _ _ _ _ _ _ _) Tryd.underlying42 rfl (by kernel_rfl)) rfl ⟨by rw [HR.out], ?_⟩
      have hle : w.heap.size ≤ w.heap.size + 1 + 1 := by omega
      exact (((((((HI.out.new.setCell (p := ⟨w.heap.size + 1 + 1, 0, none⟩) hle _).setCell (p := ⟨w.heap.size + 1 + 1, 1, none⟩) hle _).setCell (p := ⟨w.heap.size + 1 + 1, 2, none⟩) hle _).setCell (p := ⟨w.heap.size + 1 + 1, 3, none⟩) hle _).setCell (p := ⟨w.heap.size + 1 + 1, 4, none⟩) hle _).setCell (p := ⟨w.heap.size + 1 + 1, 5, none⟩) hle _).setCell (p := ⟨w.heap.size + 1 + 1, 6, none⟩) hle _).setCell (p := ⟨w.heap.size + 1 + 1, 7, none⟩) hle _

end Go.Proofs.YtoooemlcackepaaDoor
