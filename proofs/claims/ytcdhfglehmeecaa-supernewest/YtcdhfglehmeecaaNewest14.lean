/-
  SuperNewest's walk.
-/
import Derived.Test.YtcdhfglehmeecaaLaw14
import Derived.Test.YtcdhfglehmeecaaRefSupA
namespace Go.Proofs.Ytcdhfglehmeecaa
set_option linter.unusedVariables false
set_option linter.unusedSimpArgs false
open Go.RowKit

set_option maxRecDepth 100000 in
set_option maxHeartbeats 2000000 in
theorem newestLaw (w : World) (x : Value) (l : List UInt8) (hx : Rd w x l) (place : Int) (hp : -9223372036854775808 ≤ place ∧ place ≤ 9223372036854775807) : Calls Try.prog 4 #[x, .int .i64 place] w fun e w' => e = .returned (.bool true) ∧ New w w' := by
  have HX := Lib.hid hx
  obtain ⟨a, n, c, rfl, hl, hle, hm, -⟩ := hx
  unfold maxLen at hm
  clear hl
  by_cases h600 : 600 < n
  · have d : decide ((600 : Int) < (n : Int)) = true := by simp; omega
    clear h600
    go_enter Try.func4, Try.ntmps4
    go_wp2_with fail
    refine (awake14 w).mono ?_
    rintro _ w1 ⟨rfl, N1⟩
    go_wp2_with fail
    refine (awake14 w1).mono ?_
    rintro _ w2 ⟨rfl, N2⟩
    go_wp2
    go_ret
    exact ⟨rfl, New.trans N1 N2⟩
  have d : decide ((600 : Int) < (n : Int)) = false := by simp; omega
  clear h600 hle hm
  have HA := Lib.hid (fun wx hx => supNewestAt wx (.slice a n c) l hx)
  have HB := Lib.hid (fun wx => refNewestSup wx l)
  have HC := Lib.hid (fun wx hx => supReadAt wx (.slice a n c) l place hx)
  have HD := Lib.hid (fun wx => refReadSup wx l place)
  generalize supGot (supNewest l) = X at *
  generalize (supNewest l).isSome = o at *
  generalize supGot (supRead l place) = Y at *
  generalize (supRead l place).isSome = p at *
  rw [SupN.val_eq] at HA HB HC HD
  go_enter Try.func4, Try.ntmps4
  go_wp2_with fail
  refine (awake14 w).mono ?_
  rintro _ w1 ⟨rfl, N1⟩
  have HN1 := Lib.hid N1
  clear N1
  go_wp2_with fail
  refine (HA.out w1 (HX.out.new HN1.out)).mono ?_
  rintro _ w2 ⟨rfl, M⟩
  have HN2 := Lib.hid (New.trans HN1.out M)
  clear M HN1 HA d
  go_upto_region 4 with fail
  generalize hw3 : World.alloc w2 _ = w3
  have HT5 : Hid (SupB w3 w2.heap.size X) := Lib.hid (by rw [← hw3]; exact heap_alloc_new _ _)
  have M : New w2 w3 := by rw [← hw3]; exact (Below.refl _ _).alloc (Nat.le_refl _) _
  have HN3 := Lib.hid (New.trans HN2.out M)
  clear hw3 HN2 M
  obtain ⟨g5, hg⟩ : ∃ g, w2.heap.size = g := ⟨_, rfl⟩
  rw [hg] at HT5
  rw [hg]
  clear hg
  have ks := run_str (P := Try.prog) Try.underlying25 Try.underlying5 Try.underlying9 (HX.out.new HN3.out)
  go_wp2_with fail
  refine (HB.out w3).mono ?_
  rintro _ w4 ⟨rfl, M⟩
  have HN4 := Lib.hid (New.trans HN3.out M)
  have HT5b := Lib.hid (HT5.out.new M)
  clear M HN3 HB HT5 ks
  go_upto_region 5 with fail
  generalize hw3 : World.alloc w4 _ = w5
  have HT7 : Hid (SupB w5 w4.heap.size X) := Lib.hid (by rw [← hw3]; exact heap_alloc_new _ _)
  have M : New w4 w5 := by rw [← hw3]; exact (Below.refl _ _).alloc (Nat.le_refl _) _
  have HN5 := Lib.hid (New.trans HN4.out M)
  have HT5 := Lib.hid (HT5b.out.new M)
  clear hw3 HN4 M HT5b
  obtain ⟨g7, hg⟩ : ∃ g, w4.heap.size = g := ⟨_, rfl⟩
  rw [hg] at HT7
  rw [hg]
  clear hg
  go_wp2_with fail
  refine (HC.out w5 (HX.out.new HN5.out)).mono ?_
  rintro _ w6 ⟨rfl, M⟩
  have HN6 := Lib.hid (New.trans HN5.out M)
  have HT5b := Lib.hid (HT5.out.new M)
  have HT7b := Lib.hid (HT7.out.new M)
  clear M HN5 HC HT5 HT7
  go_upto_region 6 with fail
  generalize hw3 : World.alloc w6 _ = w7
  have HT9 : Hid (SupB w7 w6.heap.size Y) := Lib.hid (by rw [← hw3]; exact heap_alloc_new _ _)
  have M : New w6 w7 := by rw [← hw3]; exact (Below.refl _ _).alloc (Nat.le_refl _) _
  have HN7 := Lib.hid (New.trans HN6.out M)
  have HT5 := Lib.hid (HT5b.out.new M)
  have HT7 := Lib.hid (HT7b.out.new M)
  clear hw3 HN6 M HT5b HT7b
  obtain ⟨g9, hg⟩ : ∃ g, w6.heap.size = g := ⟨_, rfl⟩
  rw [hg] at HT9
  rw [hg]
  clear hg
  have ks := run_str (P := Try.prog) Try.underlying25 Try.underlying5 Try.underlying9 (HX.out.new HN7.out)
  go_wp2_with fail
  refine (HD.out w7).mono ?_
  rintro _ w8 ⟨rfl, M⟩
  have HN8 := Lib.hid (New.trans HN7.out M)
  have HT5b := Lib.hid (HT5.out.new M)
  have HT7b := Lib.hid (HT7.out.new M)
  have HT9b := Lib.hid (HT9.out.new M)
  clear M HN7 HD HT5 HT7 HT9 ks
  go_upto_region 7 with fail
  generalize hw3 : World.alloc w8 _ = w9
  have HT11 : Hid (SupB w9 w8.heap.size Y) := Lib.hid (by rw [← hw3]; exact heap_alloc_new _ _)
  have M : New w8 w9 := by rw [← hw3]; exact (Below.refl _ _).alloc (Nat.le_refl _) _
  have HN9 := Lib.hid (New.trans HN8.out M)
  have HT5 := Lib.hid (HT5b.out.new M)
  have HT7 := Lib.hid (HT7b.out.new M)
  have HT9 := Lib.hid (HT9b.out.new M)
  clear hw3 HN8 M HT5b HT7b HT9b
  obtain ⟨g11, hg⟩ : ∃ g, w8.heap.size = g := ⟨_, rfl⟩
  rw [hg] at HT11
  rw [hg]
  clear hg
  obtain ⟨x0, x1, x2, x3, x4⟩ := HT5.out.at
  obtain ⟨y0, y1, y2, y3, y4⟩ := HT7.out.at
  obtain ⟨z0, z1, z2, z3, z4⟩ := HT9.out.at
  obtain ⟨u0, u1, u2, u3, u4⟩ := HT11.out.at
  go_wp2
  go_ret
  exact ⟨rfl, HN9.out⟩

end Go.Proofs.Ytcdhfglehmeecaa
