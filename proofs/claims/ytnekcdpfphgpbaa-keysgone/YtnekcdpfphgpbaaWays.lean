/-
  Orders of a region that all come to one end: the end is walked once.
-/
import Derived.Lib.Hide
namespace Go.Proofs.Ytnekcdpfphgpbaa

/-- ways that all come to one end -/
structure Boxed (p : Prop) : Prop where
  out : p
theorem both_ways {G H : Prop} (h : Boxed G → Boxed H) (g : G) : Boxed H := h ⟨g⟩

end Go.Proofs.Ytnekcdpfphgpbaa
