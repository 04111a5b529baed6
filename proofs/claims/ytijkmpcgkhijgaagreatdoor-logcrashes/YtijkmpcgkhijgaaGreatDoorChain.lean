/-
  bytes.Equal; record.Chain; the reference's Chain.
-/
import Derived.Test.YtijkmpcgkhijgaaGreatDoorSlZero
import Derived.Test.YtijkmpcgkhijgaaGreatDoorBase
import Derived.Test.YtijkmpcgkhijgaaGreatDoorShaB
import Derived.Test.YtijkmpcgkhijgaaGreatDoorRefSum
import Derived.Deep.Cut
namespace Go.Proofs.YtijkmpcgkhijgaaGreatDoor
set_option linter.unusedVariables false
set_option linter.unusedSimpArgs false
open Go.RowKit

theorem RdL.two12 (w : World) (u v : Value) (k l : List UInt8) (e : TypeId) (hu : Rd w u k) (hv : Rd w v l) : RdL (w.alloc (.cells #[u, v] e)) (.slice (some ⟨w.heap.size, 0, none⟩) 2 2) [(u, k), (v, l)] :=
  ⟨RdV.made w [u, v] e (0, 0) (by simp), fun p hp => by
    rcases List.mem_cons.1 hp with rfl | hp
    · exact hu.new ((Below.refl _ _).alloc (Nat.le_refl _) _)
    · rw [List.mem_singleton.1 hp]; exact hv.new ((Below.refl _ _).alloc (Nat.le_refl _) _)⟩

/-- sha.Sum(x, y) as a caller writes it -/
theorem sum2 (w : World) (x y : Value) (l m : List UInt8) (hx : Rd w x l) (hy : Rd w y m) (hl : l.length + m.length ≤ 1099511627776) (hL : Laid w) :
    Calls Tryz.prog 82 #[.slice (some ⟨w.heap.size, 0, none⟩) 2 2] (w.alloc (.cells #[x, y] 42)) fun e w' => ∃ a n c, e = .returned (.slice a n c) ∧ Rd w' (.slice a n c) (sha256 (l ++ m)) ∧ New w w' ∧ ∀ k, blk (.slice a n c) = some k → w.heap.size ≤ k := by
  have hs := shaSum _ _ _ (RdL.two12 w x y l m 42 hx hy) (by simp [allOf]; omega) (by simp) (hL.new ((Below.refl _ _).alloc (Nat.le_refl _) _))
  refine hs.mono ?_
  rintro e w' ⟨v', rfl, hown, hn⟩
  have hr := Rd.of_own hown
  simp only [allOf, List.flatMap_cons, List.flatMap_nil, List.append_nil] at hr
  have hr' := hr
  obtain ⟨a, n, c, rfl, h1, _⟩ := hr'
  exact ⟨a, n, c, rfl, hr, New.trans ((Below.refl _ _).alloc (Nat.le_refl _) _) hn, fun k hk => by have := own_from hown k hk; simp at this; omega⟩

/-- record.Chain: its result is new -/
theorem recChainN (w : World) (x y : Value) (l m : List UInt8) (hx : Rd w x l) (hy : Rd w y m) (hl : l.length + m.length ≤ 1099511627776) (hL : Laid w) :
    Calls Tryz.prog 61 #[x, y] w fun e w' => ∃ a n c, e = .returned (.slice a n c) ∧ Rd w' (.slice a n c) (sha256 (l ++ m)) ∧ New w w' ∧ ∀ k, blk (.slice a n c) = some k → w.heap.size ≤ k := by
  have HS := Lib.hid (sum2 w x y l m hx hy hl hL)
  obtain ⟨a1, n1, c1, rfl, -⟩ := hx
  obtain ⟨a2, n2, c2, rfl, -⟩ := hy
  clear hL
  go_enter Tryz.func61, Tryz.ntmps61
  go_wp2_with fail
  refine HS.out.mono ?_
  rintro _ w1 ⟨a, n, c, rfl, r, N, B⟩
  have HR := Lib.hid r
  have HN := Lib.hid N
  have HB := Lib.hid B
  clear r N B
  go_wp2
  go_ret
  exact ⟨a, n, c, rfl, HR.out, HN.out, HB.out⟩

theorem recChain (w : World) (x y : Value) (l m : List UInt8) (hx : Rd w x l) (hy : Rd w y m) (hl : l.length + m.length ≤ 1099511627776) (hL : Laid w) :
    Calls Tryz.prog 61 #[x, y] w fun e w' => ∃ a n c, e = .returned (.slice a n c) ∧ Rd w' (.slice a n c) (sha256 (l ++ m)) ∧ New w w' := by
  refine (recChainN w x y l m hx hy hl hL).mono ?_
  rintro e w' ⟨a, n, c, h1, h2, h3, -⟩
  exact ⟨a, n, c, h1, h2, h3⟩

theorem refChain12 (w : World) (l m : List UInt8) (hl : l.length + m.length ≤ 1099511627776) :
    Calls Tryz.prog 103 #[.string (bstr l), .string (bstr m)] w fun e w' => e = .returned (.string (bstr (sha256 (l ++ m)))) ∧ New w w' := by
  have HS := Lib.hid (refSum w (l ++ m) (by simpa using hl))
  have j : bstr l ++ bstr m = bstr (l ++ m) := by unfold bstr; rw [ByteArray.mk_append_mk]
  have z1 : (bstr l).size = l.length := bstr_size l
  have z2 : (bstr m).size = m.length := bstr_size m
  have s1 : ¬ 9223372036854775807 < (bstr l).size + (bstr m).size := by omega
  have s2 : (bstr l).size + (bstr m).size ≤ 1099511627776 := by omega
  clear z1 z2 hl
  go_enter Tryz.func103, Tryz.ntmps103
  go_wp2_with fail
  refine HS.out.mono ?_
  rintro _ w1 ⟨rfl, N⟩
  go_wp2
  go_ret
  exact ⟨rfl, N⟩

end Go.Proofs.YtijkmpcgkhijgaaGreatDoor
