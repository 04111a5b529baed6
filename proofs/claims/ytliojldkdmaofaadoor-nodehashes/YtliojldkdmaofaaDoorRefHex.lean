/-
  The reference's Hex; strings cut and joined.
-/
import Derived.Test.YtliojldkdmaofaaDoorProg
import Derived.Test.YtliojldkdmaofaaDoorBase
import Derived.KernelRfl
import Derived.Deep.QuietTactic
import Derived.BigQuiet
import Derived.IntWalk
namespace Go.Proofs.YtliojldkdmaofaaDoor
set_option linter.unusedVariables false
set_option linter.unusedSimpArgs false
open Go.RowKit

/-- the digits of bytes -/
def hexDigit (n : Nat) : UInt8 := [48, 49, 50, 51, 52, 53, 54, 55, 56, 57, 97, 98, 99, 100, 101, 102].getD n 0
def hexOf (l : List UInt8) : List UInt8 := l.flatMap fun b => [hexDigit (b.toNat / 16), hexDigit (b.toNat % 16)]

theorem hexOf_length (l : List UInt8) : (hexOf l).length = 2 * l.length := by
  induction l with
  | nil => rfl
  | cons x r ih => simp [hexOf] at ih ⊢; omega

theorem hex_cut (n : Nat) (h : n < 16) : (ByteArray.mk #[48, 49, 50, 51, 52, 53, 54, 55, 56, 57, 97, 98, 99, 100, 101, 102]).extract n (n + 1) = bstr [hexDigit n] := by
  have h8 : n = 0 ∨ n = 1 ∨ n = 2 ∨ n = 3 ∨ n = 4 ∨ n = 5 ∨ n = 6 ∨ n = 7 ∨ n = 8 ∨ n = 9 ∨ n = 10 ∨ n = 11 ∨ n = 12 ∨ n = 13 ∨ n = 14 ∨ n = 15 := by omega
  rcases h8 with rfl | rfl | rfl | rfl | rfl | rfl | rfl | rfl | rfl | rfl | rfl | rfl | rfl | rfl | rfl | rfl <;> (apply ByteArray.ext; simp [bstr, hexDigit, ByteArray.data_extract])

theorem bstr_join (a b : List UInt8) : bstr a ++ bstr b = bstr (a ++ b) := by
  unfold bstr
  rw [ByteArray.mk_append_mk]

theorem run_index_str (wx : World) (l : List UInt8) (k : Nat) (b : UInt8) (h : l[k]? = some b) : (Instr.index 9 (.string (bstr l)) (.int .i64 (k : Int))).run Tryd.prog wx = .ok (.int .u8 (b.toNat : Int)) wx := by
  have hu : Tryd.prog.underlying 9 = some .string := Tryd.underlying9
  have hg : (bstr l)[k]? = some b := by
    have hlt : k < l.length := by
      rcases Nat.lt_or_ge k l.length with h' | h'
      · exact h'
      · rw [List.getElem?_eq_none h'] at h; cases h
    rw [getElem?_pos (bstr l) k (by rw [bstr_size]; exact hlt)]
    rw [List.getElem?_eq_getElem hlt] at h
    cases h
    rfl
  unfold Instr.index
  rw [Sem.run_bind]
  simp only [asIntOf, Sem.run_pure, Result.andThen_ok]
  rw [Sem.run_bind, run_underlying hu]
  simp [hg]


end Go.Proofs.YtliojldkdmaofaaDoor
