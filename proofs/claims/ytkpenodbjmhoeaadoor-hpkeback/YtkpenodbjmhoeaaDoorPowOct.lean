/-
  power.Octets, Public, Right, Shared.
-/
import Derived.Test.YtkpenodbjmhoeaaDoorPowPow
import Derived.Test.YtkpenodbjmhoeaaDoorPenA
namespace Go.Proofs.YtkpenodbjmhoeaaDoor
set_option linter.unusedVariables false
set_option linter.unusedSimpArgs false
open Go.RowKit

theorem own_down {w : World} {base base' : Nat} {e : TypeId} {size : Nat} {v : Value} {n : Nat} {xs : List Value} (h : w.ownsRow base e size v n xs) (hb : base' ≤ base) : w.ownsRow base' e size v n xs := by
  refine ⟨h.1, ?_⟩
  rcases h.2 with hn | ⟨g, cap, cur, e1, e2, rest⟩
  · exact .inl hn
  · exact .inr ⟨g, cap, cur, e1, Nat.le_trans hb e2, rest⟩

/-- a slice of new memory that reads as the bytes -/
def OctTo (w : World) (l : List UInt8) (e : Ending) (w' : World) : Prop :=
  ∃ a c, e = .returned (.slice a l.length c) ∧ Rd w' (.slice a l.length c) l ∧ w'.ownsRow w.heap.size 5 1 (.slice a l.length c) l.length (l.map bv) ∧ New w w'

set_option maxHeartbeats 400000 in
theorem powOctets (w : World) (n : Nat) (hn : n < 18446744073709551616) :
    Calls Tryd.prog 54 #[.int .u64 (n : Int)] w (OctTo w (be 8 n)) := by
  go_enter Tryd.func54, Tryd.ntmps54
  go_wp2_with fail
  refine (penNew w).mono ?_
  rintro e w1 ⟨rfl, P1, N1, _⟩
  have HP := Lib.hid (Pend.start P1 N1)
  clear P1
  go_wp2_with fail
  refine (pendU64 HP.out (n : Int) (by omega) (by omega) (by intro l h; cases h; simp)).mono ?_
  rintro e w2 ⟨rfl, P2⟩
  have HP2 : Hid (Pend w w.heap.size (some (be 8 n)) w2) := P2
  clear P2
  go_wp2_with fail
  refine (pendBytes HP2.out (by intro l h; cases h; rw [be_length]; decide)).mono ?_
  rintro e w3 ⟨⟨a, m, c, rfl, F3⟩, P3⟩
  have HL : Hid (m = (be 8 n).length) := (F3.1.len).symm
  have HF : Hid (Fresh w2 (be 8 n) (.slice a m c) w3) := F3
  have HN : Hid (New w w3) := P3.1
  have HS : Hid (w.heap.size ≤ w2.heap.size) := Lib.hid HP2.out.1.size
  clear F3 P3
  go_wp2
  go_ret
  refine ⟨a, c, ?_, ?_, ?_, HN.out⟩
  · rw [← HL.out]; rfl
  · rw [← HL.out]; exact HF.out.1
  · have h := HF.out.2.2 (by intro h; have := congrArg List.length h; rw [be_length] at this; cases this)
    rw [HL.out] at h
    exact own_down h HS.out

set_option maxHeartbeats 400000 in
theorem powPublic (w : World) (n : Nat) (hn : n < 18446744073709551616) :
    Calls Tryd.prog 27 #[.int .u64 (n : Int)] w fun e w' => e = .returned (.int .u64 (powP 3 n : Int)) ∧ New w w' := by
  have C : Hid (∀ wx, Calls Tryd.prog 51 #[.int .u64 3, .int .u64 (n : Int)] wx fun e w' => e = .returned (.int .u64 (powP 3 n : Int)) ∧ New wx w') := Lib.hid (fun wx => powPow wx 3 n (by omega) hn)
  obtain ⟨r, HR⟩ : ∃ r, Hid (powP 3 n = r) := ⟨_, Lib.hid rfl⟩
  rw [HR.out] at C ⊢
  go_enter Tryd.func27, Tryd.ntmps27
  go_wp2_with fail
  refine (C.out w).mono ?_
  rintro e w1 ⟨rfl, N1⟩
  go_wp2
  go_ret
  exact ⟨rfl, N1⟩

set_option maxHeartbeats 400000 in
theorem powShared (w : World) (k p : Nat) (hk : k < 18446744073709551616) (hp : p < 18446744073709551616) :
    Calls Tryd.prog 29 #[.int .u64 (k : Int), .int .u64 (p : Int)] w (OctTo w (be 8 (powP p k))) := by
  have C := Lib.hid (fun wx => powPow wx p k hp hk)
  have hl := powP_lt p k
  obtain ⟨r, HR⟩ : ∃ r, Hid (powP p k = r) := ⟨_, Lib.hid rfl⟩
  rw [HR.out] at C hl ⊢
  go_enter Tryd.func29, Tryd.ntmps29
  go_wp2_with fail
  refine (C.out w).mono ?_
  rintro e w1 ⟨rfl, N1⟩
  go_wp2_with fail
  refine (powOctets w1 r (by omega)).mono ?_
  rintro e w2 ⟨a, c, rfl, R2, O2, N2⟩
  have HR2 := Lib.hid R2
  have HO2 := Lib.hid O2
  clear R2 O2
  go_wp2
  go_ret
  exact ⟨a, c, rfl, HR2.out, own_down HO2.out N1.size, New.trans N1 N2⟩

end Go.Proofs.YtkpenodbjmhoeaaDoor
