/-
  KdfExpands, KdfLabels, KdfPrefixes: the laws, their arguments in the rows' order.
-/
import Derived.Test.YtofceheipabeaaaDoorExpands04
import Derived.Test.YtofceheipabeaaaDoorLabels04
import Derived.Test.YtofceheipabeaaaDoorPrefixes04
namespace Go.Proofs.YtofceheipabeaaaDoor
open Go.RowKit

theorem expandsLaw (w : World) (x : Value) (s : List UInt8) (hx : Rd w x s) (y : Value) (i : List UInt8) (hy : Rd w y i) (n : Int) (_hn : (Lit.int .i64 n).wf = true) (hL : Laid w) :
    Calls Tryd.prog 3 #[x, y, .int .i64 n] w fun e w' => e = .returned (.bool true) ∧ New w w' := expandsWalk w x y s i n hx hy hL

theorem labelsLaw (w : World) (x : Value) (s : List UInt8) (hx : Rd w x s) (l : ByteArray) (_hl : l.size ≤ maxLen) (y : Value) (c : List UInt8) (hy : Rd w y c) (hL : Laid w) :
    Calls Tryd.prog 4 #[x, .string l, y] w fun e w' => e = .returned (.bool true) ∧ New w w' := by
  have e : l = bstr l.data.toList := by simp [bstr]
  rw [e]
  exact labelsWalk w x y s l.data.toList c hx hy hL

theorem prefixesLaw (w : World) (x : Value) (s : List UInt8) (hx : Rd w x s) (y : Value) (i : List UInt8) (hy : Rd w y i) (zs : List Int) (hl : zs.length = 2) (hz : ∀ z ∈ zs, (Lit.int .u8 z).wf = true) (hL : Laid w) :
    Calls Tryd.prog 5 #[x, y, .agg (zs.map (Value.int .u8)).toArray] w fun e w' => e = .returned (.bool true) ∧ New w w' := by
  match zs, hl with
  | [a, b], _ =>
    have ha : 0 ≤ a ∧ a ≤ 255 := by simpa [Lit.wf, IntKind.min, IntKind.max, IntKind.signed, IntKind.bits] using hz a (by simp)
    have hb : 0 ≤ b ∧ b ≤ 255 := by simpa [Lit.wf, IntKind.min, IntKind.max, IntKind.signed, IntKind.bits] using hz b (by simp)
    obtain ⟨n, rfl⟩ : ∃ n : Nat, a = n := ⟨a.toNat, by omega⟩
    obtain ⟨m, rfl⟩ : ∃ m : Nat, b = m := ⟨b.toNat, by omega⟩
    exact prefixesWalk w x y s i n m (by omega) (by omega) hx hy hL

end Go.Proofs.YtofceheipabeaaaDoor
