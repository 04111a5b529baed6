/-
  The statements of layer 1: their own helpers.
-/
import Derived.Test.YtfnnicdlncgfkaaRows
import Derived.Test.YtfnnicdlncgfkaaEye2
namespace Go.Proofs.Ytfnnicdlncgfkaa
set_option linter.unusedVariables false
set_option linter.unusedSimpArgs false
open Go.RowKit

set_option maxHeartbeats 400000 in
theorem awake01 (w : World) : Calls Try.prog 7 #[] w fun e w' => e = .returned (.bool true) ∧ New w w' := by
  have kc := fun (w : World) (C : Array Value) (n c : Nat) => Lib.run_convert_bytes_const (P := Try.prog) w 28 5 C n c Try.underlying28 Try.underlying5
  go_enter Try.func7, Try.ntmps7
  go_wp2_with fail
  refine (penNew w).mono ?_
  rintro e w1 ⟨rfl, hp1, hn1, hs1⟩
  have HS1 := Lib.hid hs1
  clear hs1
  go_wp2_with fail
  refine (pendU16 (Pend.start hp1 hn1) 258 (by omega) (by omega) (fun l h => by cases h; decide)).mono ?_
  rintro e w2 ⟨rfl, hp2⟩
  go_wp2_with fail
  have hr : Rd (w2.alloc (.cells #[.int .u8 97, .int .u8 98] 5 (2, 3))) (.slice (some ⟨w2.heap.size, 0, none⟩) 2 2) [97, 98] := Rd.made w2 [97, 98] 5 (2, 3) (by decide)
  have hn3 : New w2 (w2.alloc (.cells #[.int .u8 97, .int .u8 98] 5 (2, 3))) := (Below.refl _ _).alloc (Nat.le_refl _) _
  refine (pendShortNew hp2 hn3 _ _ hr (fun _ k hk => by cases hk; exact Nat.le_refl _) (fun l h => by cases h; decide)).mono ?_
  rintro e w3 ⟨rfl, hp3⟩
  clear hr hn3 hp2 hp1 hn1
  go_wp2_with fail
  have e3 : wText 1 [97, 98] (wU 2 258 (some [])) = some [1, 2, 2, 97, 98] := by decide
  rw [e3] at hp3
  clear e3
  refine (pendBytes hp3 (fun l h => by cases h; decide)).mono ?_
  rintro e w4 ⟨⟨a, n, c, rfl, hr, hn, _⟩, hp4⟩
  have ks := run_str (P := Try.prog) Try.underlying28 Try.underlying5 Try.underlying9 hr
  simp only [Option.getD_some] at ks
  have kb : ((bstr [1, 2, 2, 97, 98]).toList == [1, 2, 2, 97, 98]) = true := by rw [bstr_list]; decide
  go_wp2
  go_ret
  exact ⟨rfl, hp4.1⟩

end Go.Proofs.Ytfnnicdlncgfkaa
