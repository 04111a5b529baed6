/-
  fault: Again, Wrap.
-/
import Derived.Test.YtnekcdpfphgpbaaBase
import Derived.Test.YtnekcdpfphgpbaaProg
namespace Go.Proofs.Ytnekcdpfphgpbaa
set_option linter.unusedVariables false
set_option linter.unusedSimpArgs false
open Go.RowKit

theorem again0 (w : World) (op : ByteArray) (pos : Int) : Calls Try.prog 39 #[.string op, .int .i64 pos, .nilIface] w fun e w' => e = .returned .nilIface ∧ w = w' := by
  go_enter Try.func39, Try.ntmps39
  go_wp2
  go_ret
  exact ⟨rfl, rfl⟩

def AgTo (w : World) (op : ByteArray) (pos : Int) (v : Value) (e : Ending) (w' : World) : Prop :=
  e = .returned (.iface 102 (.pointer (some ⟨w.heap.size, 0, none⟩))) ∧ w'.heap[w.heap.size]? = some (.cells #[.string op, .int .i64 pos, v] 104) ∧ New w w'

theorem again1 (w : World) (op : ByteArray) (pos : Int) (t : TypeId) (y : Value) : Calls Try.prog 39 #[.string op, .int .i64 pos, .iface t y] w (AgTo w op pos (.iface t y)) := by
  have HN : Hid (New w (w.alloc (.cells #[.string op, .int .i64 pos, .iface t y] 104))) := Lib.hid ((Below.refl _ _).alloc (Nat.le_refl _) _)
  have HB := Lib.hid (heap_alloc_new w (.cells #[.string op, .int .i64 pos, .iface t y] 104))
  go_enter Try.func39, Try.ntmps39
  go_wp2
  go_ret
  exact ⟨rfl, HB.out, HN.out⟩

theorem wrap0 (w : World) (op : ByteArray) (pos : Int) : Calls Try.prog 23 #[.string op, .int .i64 pos, .int .i64 0] w fun e w' => e = .returned .nilIface ∧ w = w' := by
  go_enter Try.func23, Try.ntmps23
  go_wp2
  go_ret
  exact ⟨rfl, rfl⟩

theorem wrap1 (w : World) (op : ByteArray) (pos n : Int) (hn : n ≠ 0) : Calls Try.prog 23 #[.string op, .int .i64 pos, .int .i64 n] w (AgTo w op pos (.iface 27 (.int .i64 n))) := by
  have HA := Lib.hid (again1 w op pos 27 (.int .i64 n))
  have hn2 : (n == 0) = false := beq_eq_false_iff_ne.2 hn
  go_enter Try.func23, Try.ntmps23
  go_wp2_with fail
  refine HA.out.mono ?_
  rintro e w1 ⟨rfl, h1, N1⟩
  have HB := Lib.hid h1
  clear h1
  go_wp2
  go_ret
  exact ⟨rfl, HB.out, N1⟩

end Go.Proofs.Ytnekcdpfphgpbaa
