/-
  The reference's Ints and Text of layer 5.
-/
import Derived.Test.YtapoelmhnbgidaaRefAes2
import Derived.Test.YtapoelmhnbgidaaRefHex
import Derived.Maps.AppendAt
namespace Go.Proofs.Ytapoelmhnbgidaa
set_option linter.unusedVariables false
set_option linter.unusedSimpArgs false
open Go.RowKit

/-- the cells of a slice of ints -/
structure IRd (w : World) (g : Nat) (l : List UInt8) : Prop where
  cell : ∀ i, i < l.length → w.cell? ⟨g, i, none⟩ = some (iv (l.getD i 0))

theorem IRd.new {w w' : World} {g : Nat} {l : List UInt8} (h : IRd w g l) (hn : New w w') : IRd w' g l :=
  ⟨fun i hi => (hn.cell (World.block_lt_of_cell? w _ (h.cell i hi))).trans (h.cell i hi)⟩

theorem IRd.of_row {w : World} {g : Nat} {l : List UInt8} {t : TypeId} (h : w.heap[g]? = some (.cells (l.map iv).toArray t)) : IRd w g l := ⟨fun i hi => int_cell h hi⟩

theorem IRd.of_own {w : World} {base : Nat} {e : TypeId} {v : Value} {l : List UInt8} (h : w.ownsRow base e 1 v l.length (l.map iv)) (h0 : 0 < l.length) : ∃ g c, v = .slice (some ⟨g, 0, none⟩) l.length c ∧ l.length ≤ c ∧ c ≤ maxLen ∧ base ≤ g ∧ g < w.heap.size ∧ IRd w g l := by
  rcases h.2 with ⟨rfl, hz⟩ | ⟨g, cap, cur, rfl, hb, hg, hnc, hcm, hcs, htake⟩
  · omega
  · refine ⟨g, cap, rfl, hnc, hcm, hb, lt_of_block hg, ⟨fun i hi => ?_⟩⟩
    have := h.cells (g := g) rfl i (iv (l.getD i 0)) (by rw [List.getElem?_map, List.getD_eq_getElem?_getD, List.getElem?_eq_getElem hi]; rfl)
    rwa [Addr.add_lit, Nat.zero_add] at this

structure OwnI (w : World) (l : List UInt8) (v : Value) (wr : World) : Prop where
  own : wr.ownsRow w.heap.size 3 1 v l.length (l.map iv)
  new : New w wr

theorem OwnI.next {w : World} {l : List UInt8} {v : Value} {wr : World} {o : Obj} (h : OwnI w l v wr) {q : List UInt8} {v' : Value} {w' : World} (hown : w'.ownsRow w.heap.size 3 1 v' (l.length + q.length) (l.map iv ++ q.map iv)) (hg : (wr.alloc o).grownBy w' v.ownBlock) : OwnI w (l ++ q) v' w' := by
  refine ⟨by rw [List.length_append, List.map_append]; exact hown, Below.grown (h.new.alloc h.new.size o) hg (by have := h.new.size; simp; omega) (fun k hk => (h.own.lt k hk).1)⟩

theorem oneCell_iv (l : List UInt8) : ∀ u ∈ l.map iv, u.oneCell' = true := by
  intro u hu
  obtain ⟨b, _, rfl⟩ := List.mem_map.1 hu
  rfl

set_option maxRecDepth 100000 in
set_option maxHeartbeats 400000 in
theorem refInts5 (w : World) (l : List UInt8) (hl : l.length ≤ 1000) : Calls Try.prog 27 #[.string (bstr l)] w fun e w' => ∃ v, e = .returned v ∧ OwnI w l v w' := by
  obtain ⟨i0, hi0, hz0, hz1, hz2⟩ := info_parts infoInt
  have hz : (bstr l).size = l.length := bstr_size l
  go_enter Try.func27, Try.ntmps27
  go_wp2
  go_loopw [3, 4] (fun v i wr => ∃ k : Nat, k ≤ l.length ∧ i = .int .i64 k ∧ OwnI w (l.take k) v wr) (fun _ i _ => l.length - (intOf i).toNat)
  case atStart => exact ⟨0, Nat.zero_le _, rfl, ⟨World.ownsRow_nil w _ _ 1, Below.refl _ _⟩⟩
  case round =>
    obtain ⟨k, hk, rfl, hin⟩ := hrel
    by_cases hlt : k < l.length
    · obtain ⟨b, hb⟩ : ∃ b, l[k]? = some b := ⟨_, List.getElem?_eq_getElem hlt⟩
      have hix := fun wx => run_index_str wx l k b hb
      have hb1 := b.toNat_lt
      have w1' : IntKind.i64.wrap (b.toNat : Int) = (b.toNat : Int) := IntWalk.i64_in _ (by omega)
      have HT : Hid (l.take (k + 1) = l.take k ++ [b]) := by
        show _ = _
        rw [List.take_add_one, hb]; rfl
      have hL : (l.take k).length ≤ 1000 := by rw [List.length_take]; omega
      have HIN := Lib.hid hin
      have hsz := hin.new.size
      clear hin hb
      generalize l.take k = L at *
      go_wp2_with (at_builtin; refine wpList_append_own_at _ rfl _ _ 30 rfl w.heap.size 3 i0 _ 1 8 Try.underlying30 hi0 hz0 hz1 hz2 rfl (by decide) _ _ _ rfl (HIN.out.own.alloc _) ⟨wr.heap.size, 0, none⟩ 1 1 [iv b] rfl rfl (cell_one_new _ _ _) (oneCell_iv [b]) ?_ ?_ ?_ ?_)
      · simp only [maxLen]; omega
      · omega
      · simp; omega
      · intro v' w' hown' hg' _ _
        have HO := Lib.hid (HIN.out.next (q := [b]) hown' hg')
        clear hown' hg'
        go_wp2
        go_roundw
        case rel => exact ⟨k + 1, by omega, by go_num, by rw [HT.out]; exact HO.out⟩
        case measure => simp [intOf]; omega
    · obtain rfl : k = l.length := by omega
      rw [List.take_length] at hin
      go_wp2
      go_ret
      exact ⟨_, rfl, hin⟩

structure OwnT (w : World) (l : List UInt8) (v : Value) (wr : World) : Prop where
  own : wr.ownsRow w.heap.size 5 1 v l.length (l.map bv)
  new : New w wr

theorem OwnT.next {w : World} {l : List UInt8} {v : Value} {wr : World} {o : Obj} (h : OwnT w l v wr) {q : List UInt8} {v' : Value} {w' : World} (hown : w'.ownsRow w.heap.size 5 1 v' (l.length + q.length) (l.map bv ++ q.map bv)) (hg : (wr.alloc o).grownBy w' v.ownBlock) : OwnT w (l ++ q) v' w' := by
  refine ⟨by rw [List.length_append, List.map_append]; exact hown, Below.grown (h.new.alloc h.new.size o) hg (by have := h.new.size; simp; omega) (fun k hk => (h.own.lt k hk).1)⟩

theorem infoByte5 : (Try.prog.info? 5).map (fun i => (i.zero, i.size, i.bytes)) = some (some (.int .u8 0), 1, 1) := by kernel_rfl

set_option maxRecDepth 100000 in
set_option maxHeartbeats 400000 in
theorem refText5 (w : World) (g n c : Nat) (l : List UInt8) (hr : IRd w g l) (hn : l.length = n) (hl : n ≤ 1000) (hc : n ≤ c) : Calls Try.prog 24 #[.slice (some ⟨g, 0, none⟩) n c] w fun e w' => e = .returned (.string (bstr l)) ∧ New w w' := by
  obtain ⟨i0, hi0, hz0, hz1, hz2⟩ := info_parts infoByte5
  have HR := Lib.hid hr
  have HN := Lib.hid hn
  clear hr hn
  go_enter Try.func24, Try.ntmps24
  go_wp2
  go_loopw [3, 4] (fun v i wr => ∃ k : Nat, k ≤ n ∧ i = .int .i64 k ∧ OwnT w (l.take k) v wr) (fun _ i _ => n - (intOf i).toNat)
  case atStart => exact ⟨0, Nat.zero_le _, rfl, ⟨World.ownsRow_nil w _ _ 1, Below.refl _ _⟩⟩
  case round =>
    obtain ⟨k, hk, rfl, hin⟩ := hrel
    by_cases hlt : k < n
    · have hlt' : k < l.length := by rw [HN.out]; exact hlt
      have hcell := (HR.out.new hin.new).cell k hlt'
      have HT : Hid (l.take (k + 1) = l.take k ++ [l.getD k 0]) := by
        show _ = _
        rw [List.take_add_one, List.getD_eq_getElem?_getD, List.getElem?_eq_getElem hlt']; rfl
      generalize l.getD k 0 = b at *
      have hb1 := b.toNat_lt
      have w1' : (b.toNat : Int) % 256 = (b.toNat : Int) := by omega
      have hL : (l.take k).length ≤ 1000 := by rw [List.length_take]; omega
      have HIN := Lib.hid hin
      have hsz := hin.new.size
      have hkn : (k : Int) < (n : Int) := by omega
      clear hin hlt'
      generalize l.take k = L at *
      go_wp2_with (at_builtin; refine wpList_append_own_at _ rfl _ _ 38 rfl w.heap.size 5 i0 _ 1 1 Try.underlying38 hi0 hz0 hz1 hz2 rfl (by decide) _ _ _ rfl (HIN.out.own.alloc _) ⟨wr.heap.size, 0, none⟩ 1 1 [bv b] rfl rfl (cell_one_new _ _ _) (oneCell_bv [b]) ?_ ?_ ?_ ?_)
      · simp only [maxLen]; omega
      · omega
      · simp; omega
      · intro v' w' hown' hg' _ _
        have HO := Lib.hid (HIN.out.next (q := [b]) hown' hg')
        clear hown' hg'
        go_wp2
        go_roundw
        case rel => exact ⟨k + 1, by omega, by go_num, by rw [HT.out]; exact HO.out⟩
        case measure => simp [intOf]; omega
    · obtain rfl : k = n := by omega
      rw [List.take_of_length_le (by rw [HN.out]; exact Nat.le_refl _)] at hin
      have ks := run_str (P := Try.prog) Try.underlying38 Try.underlying5 Try.underlying9 (Rd.of_own hin.own)
      have HNW := Lib.hid hin.new
      clear hin
      go_wp2
      go_ret
      exact ⟨rfl, HNW.out⟩

end Go.Proofs.Ytapoelmhnbgidaa
