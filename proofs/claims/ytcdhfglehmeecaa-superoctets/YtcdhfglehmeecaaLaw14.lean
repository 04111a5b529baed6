/-
  The statements of layer 14: what a disk holds behind Store; their helper.
-/
import Derived.Test.YtcdhfglehmeecaaSupA
namespace Go.Proofs.Ytcdhfglehmeecaa
set_option linter.unusedVariables false
set_option linter.unusedSimpArgs false
open Go.RowKit

theorem sec_secs {l : List UInt8} {i : Nat} (h : i < 2) : sec (secs l 0 2) i = sec l i := by
  unfold sec secs
  rw [Nat.mul_zero, List.drop_zero, List.drop_take, List.take_take, Nat.min_eq_left (by omega)]

theorem secs_len {l : List UInt8} (h : 256 ≤ l.length) : 256 ≤ (secs l 0 2).length := by
  unfold secs
  rw [Nat.mul_zero, List.drop_zero, List.length_take]
  omega

theorem sec_zeros {n t : Nat} (h : t < n) : sec (zeros (128 * n)) t = List.replicate 128 0 := by
  unfold sec zeros
  rw [List.drop_replicate, List.take_replicate, Nat.min_eq_left (by omega)]

/-- one superblock on an empty disk -/
theorem new_one {n h : Nat} {s : SupN} (hn : 2 ≤ n) (hs : s.okB = true) (hh : s.gen.tmod 2 = (h : Int)) (h2 : h < 2) : supNewest (secs (lay (zeros (128 * n)) h (supEnc s)) 0 2) = some s := by
  have hl : (lay (zeros (128 * n)) h (supEnc s)).length = 128 * n := by
    rw [lay_length (by rw [zeros_length, supEnc_length]; omega), zeros_length]
  refine supNewest_one (secs_len (by rw [hl]; omega)) hs hh h2 ?_ ?_
  · rw [sec_secs h2, sec_lay (supEnc_length s) (by rw [zeros_length]; omega), if_pos rfl]
  · rw [sec_secs (by omega), sec_lay (supEnc_length s) (by rw [zeros_length]; omega), if_neg (by omega), sec_zeros (by omega)]

def ex14 : SupN := ⟨1, 0, 2, 3, 4⟩

set_option maxRecDepth 100000 in
set_option maxHeartbeats 1000000 in
theorem awake14 (w : World) : Calls Try.prog 6 #[] w (NewRet w (.bool true)) := by
  have HOK : Hid (ex14.okB = true) := Lib.hid (by decide)
  have HSc : Hid (∀ wx : World, Calls Try.prog 10 #[.agg #[.int .i64 1, .int .i64 0, .int .i64 2, .int .i64 3, .int .i64 4]] wx (NewRet wx (.int .i64 18))) := Lib.hid (fun wx => supSectorsAt wx ex14)
  go_enter Try.func6, Try.ntmps6
  go_upto_region 2 with fail
  generalize hw1 : World.alloc w _ = w1
  have HS1 : Hid (SupB w1 w.heap.size ex14) := Lib.hid (by rw [← hw1]; exact heap_alloc_new _ _)
  have N1 : Hid (New w w1) := Lib.hid (by rw [← hw1]; exact (Below.refl _ _).alloc (Nat.le_refl _) _)
  clear hw1
  obtain ⟨g1, hg⟩ : ∃ g, w.heap.size = g := ⟨_, rfl⟩
  rw [hg] at HS1
  rw [hg]
  clear hg
  go_wp2_with fail
  refine (diskNew w1 18 (by decide)).mono ?_
  rintro _ w2 ⟨g, rfl, hd, N2⟩
  have HD2 := Lib.hid hd
  have HS2 := Lib.hid (HS1.out.new N2)
  have HGF : Hid (g1 < w1.heap.size) := Lib.hid HS1.out.lt
  have N12 := Lib.hid (New.trans N1.out N2)
  have HZ1 : Hid (w.heap.size ≤ w1.heap.size ∧ w1.heap.size ≤ w2.heap.size) := Lib.hid ⟨N1.out.size, N2.size⟩
  clear hd HS1 N1 N2
  obtain ⟨x0, x1, x2, x3, x4⟩ := HS2.out.at
  unfold ex14 at x0 x1 x2 x3 x4
  dsimp only at x0 x1 x2 x3 x4
  go_wp2_with fail
  refine (HSc.out w2).mono ?_
  rintro _ w3 ⟨rfl, N3⟩
  have HD3 := Lib.hid (HD2.out.new N3)
  have HS3 := Lib.hid (HS2.out.new N3)
  have N13 := Lib.hid (New.trans N12.out N3)
  have HZ3 : Hid (w1.heap.size ≤ w3.heap.size) := Lib.hid (Nat.le_trans HZ1.out.2 N3.size)
  clear HD2 HS2 N12 N3 HSc x0 x1 x2 x3 x4
  have HSt := Lib.hid (supStore HD3.out (by decide) ex14 HOK.out 1 rfl (by decide) (by decide))
  rw [show ex14.val = .agg #[.int .i64 1, .int .i64 0, .int .i64 2, .int .i64 3, .int .i64 4] from rfl] at HSt
  obtain ⟨x0, x1, x2, x3, x4⟩ := HS3.out.at
  unfold ex14 at x0 x1 x2 x3 x4
  dsimp only at x0 x1 x2 x3 x4
  go_wp2_with fail
  refine HSt.out.mono ?_
  rintro _ w4 ⟨v, rfl, hv, -, hd⟩
  obtain rfl := hv (by decide)
  have HS4 : Hid (SupB w4 g1 ex14) := Lib.hid (HS3.out.only hd.2 (fun h => by have := HGF.out; omega))
  have HD4 : Hid (Dvc (-1) w4 18 g (fun k => w1.heap.size ≤ k) (lay (zeros (128 * 18)) 1 (supEnc ex14)) (lay (zeros (128 * 18)) 1 (supEnc ex14)) []) := Lib.hid (hd.1.narrow (fun k _ hk => hk.elim id (Nat.le_trans HZ3.out)))
  have N14 : Hid (New w w4) := Lib.hid (Below.trans N13.out (hd.2.below N13.out.size (fun k hk => Nat.le_trans HZ1.out.1 hk)))
  clear hd HSt HD3 HS3 N13 x0 x1 x2 x3 x4 hv
  have HF := Lib.hid (supFind HD4.out (by decide) (by decide) ex14 (new_one (by decide) HOK.out rfl (by decide)))
  rw [show ex14.val = .agg #[.int .i64 1, .int .i64 0, .int .i64 2, .int .i64 3, .int .i64 4] from rfl] at HF
  go_wp2_with fail
  refine HF.out.mono ?_
  rintro _ w5 ⟨rfl, hd⟩
  have HS5 : Hid (SupB w5 g1 ex14) := Lib.hid (HS4.out.only hd.2 (fun h => by have := HGF.out; omega))
  have N15 : Hid (New w w5) := Lib.hid (Below.trans N14.out (hd.2.below N14.out.size (fun k hk => Nat.le_trans HZ1.out.1 hk)))
  clear hd HF HD4 HS4 N14
  go_upto_region 6 with fail
  generalize hw6 : World.alloc w5 _ = w6
  have HT6 : Hid (SupB w6 w5.heap.size ex14) := Lib.hid (by rw [← hw6]; exact heap_alloc_new _ _)
  have N6 : New w5 w6 := by rw [← hw6]; exact (Below.refl _ _).alloc (Nat.le_refl _) _
  have HS6 := Lib.hid (HS5.out.new N6)
  have N16 := Lib.hid (New.trans N15.out N6)
  clear hw6 HS5 N15 N6
  obtain ⟨g4, hg⟩ : ∃ g, w5.heap.size = g := ⟨_, rfl⟩
  rw [hg] at HT6
  rw [hg]
  clear hg
  obtain ⟨x0, x1, x2, x3, x4⟩ := HS6.out.at
  obtain ⟨y0, y1, y2, y3, y4⟩ := HT6.out.at
  unfold ex14 at x0 x1 x2 x3 x4 y0 y1 y2 y3 y4
  dsimp only at x0 x1 x2 x3 x4 y0 y1 y2 y3 y4
  go_wp2
  go_ret
  exact ⟨rfl, N16.out⟩

end Go.Proofs.Ytcdhfglehmeecaa
