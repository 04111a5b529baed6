/-
  The reference's Hex; strings cut and joined.
-/
import Derived.Test.YtapoelmhnbgidaaProg
import Derived.Test.YtapoelmhnbgidaaBase
import Derived.KernelRfl
import Derived.Deep.QuietTactic
import Derived.BigQuiet
import Derived.IntWalk
namespace Go.Proofs.Ytapoelmhnbgidaa
set_option linter.unusedVariables false
set_option linter.unusedSimpArgs false
open Go.RowKit

/-- the digits of bytes -/
def hexDigit (n : Nat) : UInt8 := [48, 49, 50, 51, 52, 53, 54, 55, 56, 57, 97, 98, 99, 100, 101, 102].getD n 0
def hexOf (l : List UInt8) : List UInt8 := l.flatMap fun b => [hexDigit (b.toNat / 16), hexDigit (b.toNat % 16)]

theorem hexOf_length (l : List UInt8) : (hexOf l).length = 2 * l.length := by
  induction l with
  | nil => rfl
  | cons x r ih => simp [hexOf] at ih ⊢; omega

theorem hex_cut (n : Nat) (h : n < 16) : (ByteArray.mk #[48, 49, 50, 51, 52, 53, 54, 55, 56, 57, 97, 98, 99, 100, 101, 102]).extract n (n + 1) = bstr [hexDigit n] := by
  have h8 : n = 0 ∨ n = 1 ∨ n = 2 ∨ n = 3 ∨ n = 4 ∨ n = 5 ∨ n = 6 ∨ n = 7 ∨ n = 8 ∨ n = 9 ∨ n = 10 ∨ n = 11 ∨ n = 12 ∨ n = 13 ∨ n = 14 ∨ n = 15 := by omega
  rcases h8 with rfl | rfl | rfl | rfl | rfl | rfl | rfl | rfl | rfl | rfl | rfl | rfl | rfl | rfl | rfl | rfl <;> (apply ByteArray.ext; simp [bstr, hexDigit, ByteArray.data_extract])

theorem bstr_join (a b : List UInt8) : bstr a ++ bstr b = bstr (a ++ b) := by
  unfold bstr
  rw [ByteArray.mk_append_mk]

theorem run_index_str (wx : World) (l : List UInt8) (k : Nat) (b : UInt8) (h : l[k]? = some b) : (Instr.index 9 (.string (bstr l)) (.int .i64 (k : Int))).run Try.prog wx = .ok (.int .u8 (b.toNat : Int)) wx := by
  have hu : Try.prog.underlying 9 = some .string := Try.underlying9
  have hg : (bstr l)[k]? = some b := by
    have hlt : k < l.length := by
      rcases Nat.lt_or_ge k l.length with h' | h'
      · exact h'
      · rw [List.getElem?_eq_none h'] at h; cases h
    rw [getElem?_pos (bstr l) k (by rw [bstr_size]; exact hlt)]
    rw [List.getElem?_eq_getElem hlt] at h
    cases h
    rfl
  unfold Instr.index
  rw [Sem.run_bind]
  simp only [asIntOf, Sem.run_pure, Result.andThen_ok]
  rw [Sem.run_bind, run_underlying hu]
  simp [hg]

set_option maxRecDepth 100000 in
set_option maxHeartbeats 400000 in
theorem refHex (w : World) (l : List UInt8) (hl : l.length ≤ 1000000) : Calls Try.prog 16 #[.string (bstr l)] w fun e w' => e = .returned (.string (bstr (hexOf l))) ∧ New w w' := by
  have hz : (bstr l).size = l.length := bstr_size l
  go_enter Try.func16, Try.ntmps16
  go_wp2
  go_loopw [3, 4] (fun s i wr => ∃ k : Nat, k ≤ l.length ∧ i = .int .i64 k ∧ s = .string (bstr (hexOf (l.take k))) ∧ New w wr) (fun _ i _ => l.length - (intOf i).toNat)
  case atStart => exact ⟨0, Nat.zero_le _, rfl, rfl, Below.refl _ _⟩
  case round =>
    obtain ⟨k, hk, rfl, rfl, hnw⟩ := hrel
    by_cases hlt : k < l.length
    · obtain ⟨b, hb⟩ : ∃ b, l[k]? = some b := ⟨_, List.getElem?_eq_getElem hlt⟩
      have hix := fun wx => run_index_str wx l k b hb
      have hb1 := b.toNat_lt
      have HT : Hid (hexOf (l.take (k + 1)) = hexOf (l.take k) ++ [hexDigit (b.toNat / 16)] ++ [hexDigit (b.toNat % 16)]) := by
        show _ = _
        rw [List.take_add_one, hb]; simp [hexOf]
      have h1 := hex_cut (b.toNat / 16) (by omega)
      have h2 := hex_cut (b.toNat % 16) (by omega)
      have hH : (hexOf (l.take k)).length ≤ 2000000 := by
        rw [hexOf_length, List.length_take]; omega
      generalize hexOf (l.take k) = H at HT hH ⊢
      generalize hexDigit (b.toNat / 16) = d1 at h1 HT
      generalize hexDigit (b.toNat % 16) = d2 at h2 HT
      have s1 : (bstr H).size ≤ 2000000 := by rw [bstr_size]; exact hH
      have s2 : (bstr [d1]).size ≤ 1 := by rw [bstr_size]; simp
      have s3 : (bstr [d2]).size ≤ 1 := by rw [bstr_size]; simp
      have s4 : (bstr (H ++ [d1])).size ≤ 2000001 := by rw [bstr_size]; simp; omega
      have j1 := bstr_join H [d1]
      have j2 := bstr_join (H ++ [d1]) [d2]
      clear hb
      go_wp2
      go_quiet (fail)
      go_wp2
      go_roundw
      case rel =>
        refine ⟨k + 1, by omega, by go_num, ?_, below_drewN hnw _⟩
        rw [HT.out]; simp
      case measure => simp [intOf]; omega
    · obtain rfl : k = l.length := by omega
      rw [List.take_length]
      go_wp2
      go_ret
      exact ⟨rfl, hnw⟩

end Go.Proofs.Ytapoelmhnbgidaa
