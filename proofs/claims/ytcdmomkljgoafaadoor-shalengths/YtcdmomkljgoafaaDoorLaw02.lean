/-
  The statements of layer 2: their own helper; Rest.
-/
import Derived.Test.YtcdmomkljgoafaaDoorRefSha0
import Derived.Lib.SlBytesConst
namespace Go.Proofs.YtcdmomkljgoafaaDoor
set_option linter.unusedVariables false
set_option linter.unusedSimpArgs false
open Go.RowKit

/-- one slice of bytes in a new block -/
theorem RdL.made1 (w : World) (v : Value) (l : List UInt8) (e : TypeId) (h : Rd w v l) : RdL (w.alloc (.cells #[v] e)) (.slice (some ⟨w.heap.size, 0, none⟩) 1 1) [(v, l)] :=
  ⟨RdV.made w [v] e (0, 0) (by simp), fun p hp => by rw [List.mem_singleton.1 hp]; exact h.new ((Below.refl _ _).alloc (Nat.le_refl _) _)⟩

/-- sha.Sum(v) as a caller writes it -/
theorem sum1 (w : World) (b : Nat) (v : Value) (l : List UInt8) (hb : b = w.heap.size) (h : Rd w v l) (hl : l.length ≤ 1099511627776) (hL : Laid w) :
    Calls Tryd.prog 7 #[.slice (some ⟨b, 0, none⟩) 1 1] (w.alloc (.cells #[v] 22)) fun e w' => ∃ a n c, e = .returned (.slice a n c) ∧ Rd w' (.slice a n c) (sha256 l) ∧ n = 32 ∧ New w w' := by
  subst hb
  have hs := shaSum _ _ _ (RdL.made1 w v l 22 h) (by simp [allOf]; omega) (by simp) (hL.new ((Below.refl _ _).alloc (Nat.le_refl _) _))
  refine hs.mono ?_
  rintro e w' ⟨v', rfl, hown, hn⟩
  have hr := Rd.of_own hown
  simp only [allOf, List.flatMap_cons, List.flatMap_nil, List.append_nil] at hr
  have hr' := hr
  obtain ⟨a, n, c, rfl, h1, _⟩ := hr'
  exact ⟨a, n, c, rfl, hr, by rw [← h1, sha256_length], New.trans ((Below.refl _ _).alloc (Nat.le_refl _) _) hn⟩

theorem hex_abc : hexOf (sha256 [97, 98, 99]) = [98, 97, 55, 56, 49, 54, 98, 102, 56, 102, 48, 49, 99, 102, 101, 97, 52, 49, 52, 49, 52, 48, 100, 101, 53, 100, 97, 101, 50, 50, 50, 51, 98, 48, 48, 51, 54, 49, 97, 51, 57, 54, 49, 55, 55, 97, 57, 99, 98, 52, 49, 48, 102, 102, 54, 49, 102, 50, 48, 48, 49, 53, 97, 100] := by
  rw [sha256_abc]; decide

set_option maxRecDepth 100000 in
set_option maxHeartbeats 400000 in
theorem awake02 (w : World) (hL : Laid w) : Calls Tryd.prog 6 #[] w fun e w' => e = .returned (.bool true) ∧ New w w' := by
  have kc := fun (w : World) (C : Array Value) (n c : Nat) => Lib.run_convert_bytes_const (P := Tryd.prog) w 22 5 C n c Tryd.underlying22 Tryd.underlying5
  have HL := Lib.hid hL
  clear hL
  go_enter Tryd.func6, Tryd.ntmps6
  go_wp2_with fail
  have hn0 : New w (w.alloc (.cells #[.int .u8 97, .int .u8 98, .int .u8 99] 5 (3, 4))) := (Below.refl _ _).alloc (Nat.le_refl _) _
  refine (sum1 _ _ (.slice (some ⟨w.heap.size, 0, none⟩) 3 3) [97, 98, 99] (by simp) (Rd.made w [97, 98, 99] 5 (3, 4) (by decide)) (by decide) (HL.out.new hn0)).mono ?_
  rintro e w1 ⟨a, n, c, rfl, hr, rfl, hn1⟩
  have ks := run_str (P := Tryd.prog) Tryd.underlying22 Tryd.underlying5 Tryd.underlying9 hr
  have HX := Lib.hid hex_abc
  have hxl := sha256_length [97, 98, 99]
  generalize sha256 [97, 98, 99] = L at *
  clear hr
  go_wp2_with fail
  refine (refHex w1 L (by omega)).mono ?_
  rintro e w2 ⟨rfl, hn2⟩
  have kb : ((bstr (hexOf L)).toList == [98, 97, 55, 56, 49, 54, 98, 102, 56, 102, 48, 49, 99, 102, 101, 97, 52, 49, 52, 49, 52, 48, 100, 101, 53, 100, 97, 101, 50, 50, 50, 51, 98, 48, 48, 51, 54, 49, 97, 51, 57, 54, 49, 55, 55, 97, 57, 99, 98, 52, 49, 48, 102, 102, 54, 49, 102, 50, 48, 48, 49, 53, 97, 100]) = true := by rw [bstr_list, HX.out]; decide
  clear hxl ks
  go_wp2
  go_ret
  exact ⟨rfl, New.trans (New.trans hn0 hn1) hn2⟩

/-- Rest: the remainder, not negative -/
theorem rest_eq (a m : Int) (hm : 0 < m) (hm2 : m ≤ 4611686018427387904) : (wrap64 (a.tmod m + m)).tmod m = a % m := by
  have h1 : -m < a.tmod m ∧ a.tmod m < m := by
    have := Int.tmod_lt_of_pos a hm
    have := Int.lt_tmod_of_pos a hm
    omega
  have h2 : wrap64 (a.tmod m + m) = a.tmod m + m := Go.IntWalk.wrap64_in _ (by omega)
  rw [h2, Int.tmod_eq_emod_of_nonneg (by omega)]
  rw [Int.tmod_eq_emod]
  split
  · simp
  · rw [show a % m - (m.natAbs : Int) + m = a % m by omega]; simp

set_option maxHeartbeats 400000 in
theorem refRest2 (w : World) (a m : Int) (hm : 0 < m) (hm2 : m ≤ 4611686018427387904) :
    Calls Tryd.prog 9 #[.int .i64 a, .int .i64 m] w fun e w' => e = .returned (.int .i64 (a % m)) ∧ w = w' := by
  have HR := Lib.hid (rest_eq a m hm hm2)
  have hm3 : (m == 0) = false := by simp; omega
  go_enter Tryd.func9, Tryd.ntmps9
  go_wp2
  go_ret
  exact ⟨by rw [← HR.out]; rfl, rfl⟩

end Go.Proofs.YtcdmomkljgoafaaDoor
