/-
  Layer 9: what the statements start with.
-/
import Derived.Test.YtnjijmphmgihiaaDoorRefFlt1
import Derived.Test.YtnjijmphmgihiaaDoorFltIs
namespace Go.Proofs.YtnjijmphmgihiaaDoor
set_option linter.unusedVariables false
set_option linter.unusedSimpArgs false
open Go.RowKit

/-- the variables that the program reads are as its text lays them -/
def Laid9 (w : World) : Prop := HasErr w ∧ Has10 w
theorem Laid9.new {w w' : World} (h : Laid9 w) (hn : New w w') : Laid9 w' := ⟨h.1.new hn, h.2.new hn⟩

theorem rdLk_two (w : World) (a b : List UInt8) (i j : Int) (hi : -9223372036854775808 ≤ i ∧ i ≤ 9223372036854775807) (hj : -9223372036854775808 ≤ j ∧ j ≤ 9223372036854775807) (t : TypeId) :
    RdLk (w.alloc (.cells #[.string (bstr a), .int .i64 i, .string (bstr b), .int .i64 j] t)) (.slice (some ⟨w.heap.size, 0, none⟩) 2 2) [(a, i), (b, j)] := by
  refine ⟨[[.string (bstr a), .int .i64 i], [.string (bstr b), .int .i64 j]], ⟨_, _, _, rfl, rfl, Nat.le_refl _, by simp [maxLen], (fun h => by cases h), fun ad had k x hx m u hu => ?_⟩, rfl, fun k cs d hc hd => ?_⟩
  · cases had
    have hblk : (w.alloc (.cells #[.string (bstr a), .int .i64 i, .string (bstr b), .int .i64 j] t)).heap[w.heap.size]? = some (.cells #[.string (bstr a), .int .i64 i, .string (bstr b), .int .i64 j] t) := heap_alloc_new _ _
    rw [Addr.add_lit, Nat.zero_add, cell_of_row _ _ _ _ _ _ hblk]
    match k, hx with
    | 0, hx =>
      cases hx
      match m, hu with
      | 0, hu => cases hu; rfl
      | 1, hu => cases hu; rfl
      | m + 2, hu => simp at hu
    | 1, hx =>
      cases hx
      match m, hu with
      | 0, hu => cases hu; rfl
      | 1, hu => cases hu; rfl
      | m + 2, hu => simp at hu
    | k + 2, hx => simp at hx
  · match k, hc, hd with
    | 0, hc, hd => cases hc; cases hd; exact ⟨rfl, hi⟩
    | 1, hc, hd => cases hc; cases hd; exact ⟨rfl, hj⟩
    | k + 2, hc, hd => simp at hc

/-- a chain that is made, and what it says -/
structure Made9 (w : World) (l : List (List UInt8 × Int)) (n : Int) (L : List Lk) : Prop where
  kp : L.map Lk.kp = l
  chain : Chain w L (.num n)

theorem Made9.len {w : World} {l : List (List UInt8 × Int)} {n : Int} {L : List Lk} (h : Made9 w l n L) : L.length = l.length := by rw [← h.kp, List.length_map]
theorem Made9.new {w w' : World} {l : List (List UInt8 × Int)} {n : Int} {L : List Lk} (h : Made9 w l n L) (hn : New w w') : Made9 w' l n L := ⟨h.kp, h.chain.new hn⟩

def wakeTxt : List UInt8 := [111, 112, 101, 110, 32, 51, 58, 32, 114, 101, 97, 100, 32, 55, 58, 32, 101, 110, 103, 114, 111, 115, 115, 101, 114, 58, 32, 101, 114, 114, 111, 114, 32, 50, 51]

theorem dec_small (u : Nat) (h : u < 10) : Lib.decDigits u = [UInt8.ofNat (48 + u)] := by rw [Lib.decDigits, dif_pos h]
theorem itoa3 : Lib.itoa 3 = [51] := by unfold Lib.itoa; rw [if_neg (by omega), show (3 : Int).toNat = 3 from rfl, dec_small 3 (by omega)]; rfl
theorem itoa7 : Lib.itoa 7 = [55] := by unfold Lib.itoa; rw [if_neg (by omega), show (7 : Int).toNat = 7 from rfl, dec_small 7 (by omega)]; rfl
theorem itoa23 : Lib.itoa 23 = [50, 51] := by
  unfold Lib.itoa
  rw [if_neg (by omega), show (23 : Int).toNat = 23 from rfl, Lib.decDigits, dif_neg (by omega), dec_small _ (by omega)]
  rfl

theorem wake_txt : chainTxt [([111, 112, 101, 110], 3), ([114, 101, 97, 100], 7)] ++ numTxt 23 = wakeTxt := by
  unfold numTxt
  rw [if_neg (by omega), itoa23]
  simp only [chainTxt, List.flatMap_cons, List.flatMap_nil, linkTxt, itoa3, itoa7]
  rfl

set_option maxRecDepth 100000 in
set_option maxHeartbeats 2000000 in
theorem awake09 (w : World) (hL : Laid9 w) : Calls Tryd.prog 7 #[] w fun e w' => e = .returned (.bool true) ∧ New w w' := by
  have HL := Lib.hid hL
  clear hL
  have HRD := Lib.hid (rdLk_two w [111, 112, 101, 110] [114, 101, 97, 100] 3 7 (by omega) (by omega) 36)
  go_enter Tryd.func7, Tryd.ntmps7
  go_wp2_with fail
  have HM := Lib.hid (madeAt _ _ _ 23 HRD.out (by decide))
  have N1 : New w (w.alloc (.cells #[.string (bstr [111, 112, 101, 110]), .int .i64 3, .string (bstr [114, 101, 97, 100]), .int .i64 7] 36)) := newAlloc (newRefl _) _
  refine Calls.mono HM.out ?_
  rintro e w2 ⟨x, rfl, N2, -, hm⟩
  obtain ⟨L, hkp, hC, rfl⟩ := hm (by simp) (by decide)
  have N12 := New.trans N1 N2
  clear N1 N2 HM HRD hm
  have hl2 : L.length = 2 := by have := congrArg List.length hkp; simpa using this
  have hlt : 0 < L.length := by omega
  have HV := Lib.hid (errAt_lt (c := .num 23) hlt)
  have HKP := Lib.hid hkp
  have HC := Lib.hid hC
  have HL2 := Lib.hid hl2
  have HR : Hid (∀ i (h : i < L.length), -9223372036854775808 ≤ (L[i]).pos ∧ (L[i]).pos ≤ 9223372036854775807) := by
    refine Lib.hid (fun i hi => ?_)
    have h3 : (L.map Lk.kp)[i]? = some (L[i]).kp := by rw [List.getElem?_map, List.getElem?_eq_getElem hi]; rfl
    rw [hkp] at h3
    have hi2 : i = 0 ∨ i = 1 := by omega
    rcases hi2 with rfl | rfl
    · simp [Lk.kp] at h3; omega
    · simp [Lk.kp] at h3; omega
  rw [HV.out]
  generalize hx : L[0] = x at *
  clear hkp hC hl2 hlt hx
  go_wp2_with fail
  generalize hw3 : World.alloc w2 _ = w3
  have HA : Hid (At1 w3 w2.heap.size 42 (.pointer none)) := Lib.hid (by rw [← hw3]; exact heap_alloc_new _ _)
  have N3 : New w2 w3 := by rw [← hw3]; exact newAlloc (newRefl _) _
  clear hw3
  have HC3 := Lib.hid (HC.out.new N3)
  have NN3 := New.trans N12 N3
  have HI1 : Hid (Calls Tryd.prog 13 #[.iface 42 (.pointer (some ⟨x.b, 0, none⟩)), .iface 28 (.int .i64 23)] w3 fun e w' => e = .returned (.bool true) ∧ w3 = w') := by
    have h := isErr w3 L 23 23 HC3.out
    rw [HV.out] at h
    exact Lib.hid h
  have HI2 : Hid (Calls Tryd.prog 13 #[.iface 42 (.pointer (some ⟨x.b, 0, none⟩)), .iface 28 (.int .i64 21)] w3 fun e w' => e = .returned (.bool false) ∧ w3 = w') := by
    have h := isErr w3 L 23 21 HC3.out
    rw [HV.out] at h
    exact Lib.hid h
  refine HI1.out.mono ?_
  rintro e w3' ⟨rfl, rfl⟩
  go_wp2_with fail
  refine HI2.out.mono ?_
  rintro e w3' ⟨rfl, rfl⟩
  clear HI1 HI2
  go_wp2_with fail
  refine (asHitF _ _ _ w3 (HL.out.1.new NN3) HA.out).mono ?_
  rintro e w4 ⟨rfl, h4, ho⟩
  have N24 := new_only N3 ho
  have N4 := New.trans N12 N24
  have hc := h4.cell
  have HER : Hid (Calls Tryd.prog 18 #[.pointer (some ⟨x.b, 0, none⟩)] w4 fun e w' => e = .returned (.string ⟨#[111, 112, 101, 110, 32, 51, 58, 32, 114, 101, 97, 100, 32, 55, 58, 32, 101, 110, 103, 114, 111, 115, 115, 101, 114, 58, 32, 101, 114, 114, 111, 114, 32, 50, 51]⟩) ∧ New w4 w') := by
    have h := errorAt w4 L (.num 23) _ HV.out (HC.out.new N24) (HL.out.1.new N4) (HL.out.2.new N4) (by rw [HL2.out]; decide) HR.out ⟨by decide, by decide⟩ (by rw [HKP.out]; simp [chainTxt, linkTxt, itoa3, itoa7])
    rw [HKP.out, show Cor.txt (.num 23) = numTxt 23 from rfl, wake_txt] at h
    exact Lib.hid h
  have HN4 := Lib.hid N4
  clear N4 N24 N12 N3 NN3 h4 ho HA HC3
  go_wp2_with fail
  refine HER.out.mono ?_
  rintro e w5 ⟨rfl, N5⟩
  have HN5 := Lib.hid (New.trans HN4.out N5)
  clear N5 hc
  go_wp2
  go_ret
  exact ⟨rfl, HN5.out⟩

end Go.Proofs.YtnjijmphmgihiaaDoor
