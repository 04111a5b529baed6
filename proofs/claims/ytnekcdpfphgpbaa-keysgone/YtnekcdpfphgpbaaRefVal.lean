/-
  The reference's Value of layer 1; cuts of a string.
-/
import Derived.Test.YtnekcdpfphgpbaaEyeA
import Derived.Test.YtnekcdpfphgpbaaRef01
import Derived.Lib.Strings
namespace Go.Proofs.Ytnekcdpfphgpbaa
set_option linter.unusedVariables false
set_option linter.unusedSimpArgs false
open Go.RowKit

theorem bstr_cut (l : List UInt8) (a b : Nat) : (bstr l).extract a b = bstr ((l.drop a).take (b - a)) := by
  apply ByteArray.ext
  apply Array.ext'
  rw [Lib.extract_data, bstr_toList, bstr_toList]

theorem bstr_to (l : List UInt8) (b : Nat) : (bstr l).extract 0 b = bstr (l.take b) := by rw [bstr_cut, List.drop_zero, Nat.sub_zero]

theorem bstr_from (l : List UInt8) (a b : Nat) (h : l.length = b) : (bstr l).extract a b = bstr (l.drop a) := by
  rw [bstr_cut, List.take_of_length_le (by rw [List.length_drop]; omega)]

theorem byte_at (l : List UInt8) (k : Nat) (h : k < l.length) (h' : k < (bstr l).size) : (bstr l)[k]'h' = l[k]'h := rfl


end Go.Proofs.Ytnekcdpfphgpbaa
