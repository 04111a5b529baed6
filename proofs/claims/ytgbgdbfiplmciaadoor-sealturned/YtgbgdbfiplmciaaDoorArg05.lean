/-
  Bytes and arrays of bytes, as a row hands them in.
-/
import Derived.Test.YtgbgdbfiplmciaaDoorOpen
import Derived.Test.YtgbgdbfiplmciaaDoorBase
namespace Go.Proofs.YtgbgdbfiplmciaaDoor
open Go.RowKit

theorem byte_of_wf {n : Int} (h : (Lit.int .u8 n).wf = true) : ∃ x : UInt8, n = (x.toNat : Int) := by
  have h1 := wf_u8_lt h
  exact ⟨UInt8.ofNat n.toNat, by rw [UInt8.toNat_ofNat']; omega⟩

theorem bytes_of_wf (zs : List Int) (h : ∀ z ∈ zs, (Lit.int .u8 z).wf = true) : ∃ l : List UInt8, zs.map (Value.int .u8) = l.map bv ∧ l.length = zs.length := by
  induction zs with
  | nil => exact ⟨[], rfl, rfl⟩
  | cons z zs ih =>
    obtain ⟨l, e1, e2⟩ := ih (fun y hy => h y (List.mem_cons_of_mem _ hy))
    obtain ⟨x, hx⟩ := byte_of_wf (h z List.mem_cons_self)
    exact ⟨x :: l, by rw [List.map_cons, List.map_cons, e1, hx], by rw [List.length_cons, List.length_cons, e2]⟩

end Go.Proofs.YtgbgdbfiplmciaaDoor
