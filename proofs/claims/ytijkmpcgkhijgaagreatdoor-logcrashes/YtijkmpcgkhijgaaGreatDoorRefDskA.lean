/-
  The reference's disk of layer 10: there, on, See, Read.
  The reference's disk of layer 10: New, Load.
  The reference's disk of layer 10: Flush, Write.
-/
import Derived.Test.YtijkmpcgkhijgaaGreatDoorRefTxt
import Derived.Test.YtijkmpcgkhijgaaGreatDoorRefVal
import Derived.Test.YtijkmpcgkhijgaaGreatDoorSlZero
import Derived.Test.YtijkmpcgkhijgaaGreatDoorDskA
import Derived.Test.YtijkmpcgkhijgaaGreatDoorBase
import Derived.Test.YtijkmpcgkhijgaaGreatDoorAppAny
import Derived.Test.YtijkmpcgkhijgaaGreatDoorOrd3
import Derived.Deep.Cut
namespace Go.Proofs.YtijkmpcgkhijgaaGreatDoor
set_option linter.unusedVariables false
set_option linter.unusedSimpArgs false
open Go.RowKit

theorem own_neT {w : World} {base : Nat} {e t : TypeId} {size : Nat} {v : Value} {n : Nat} {xs : List Value} {p : Nat} {c : Array Value} (h : w.ownsRow base e size v n xs) (hp : w.heap[p]? = some (.cells c t (0, 0))) (het : e ≠ t) : Go.Proofs.YtijkmpcgkhijgaaGreatDoor.blk v ≠ some p := by
  intro e'
  rcases h.2 with ⟨rfl, _⟩ | ⟨q, cap, cur, rfl, _, hq, _⟩
  · simp [Go.Proofs.YtijkmpcgkhijgaaGreatDoor.blk] at e'
  · simp [Go.Proofs.YtijkmpcgkhijgaaGreatDoor.blk] at e'; subst e'; rw [hp] at hq; simp at hq; exact het hq.2.symm

theorem own_moreT {w w' : World} {base : Nat} {e : TypeId} {v : Value} {n : Nat} {xs : List Value} (h : w.ownsRow base e 1 v n xs) (hb : ∀ k, blk v = some k → k < w.heap.size → w'.heap[k]? = w.heap[k]?) : w'.ownsRow base e 1 v n xs := by
  refine ⟨h.1, ?_⟩
  rcases h.2 with h0 | ⟨g, cap, cur, rfl, hb1, e3, rest⟩
  · exact .inl h0
  · exact .inr ⟨g, cap, cur, rfl, hb1, (hb g rfl (lt_of_block e3)).trans e3, rest⟩

/-- the reference's disk in block g, its rows from b0 on; q: the calls left -/
structure RDk (q : Int) (w : World) (b0 g : Nat) (vS vA vW : Value) (S : List (List UInt8)) (A : List Int) (W : List (List UInt8)) : Prop where
  at_ : At4 w g 88 vS vA vW (.int .i64 q)
  oS : w.ownsRow b0 9 1 vS S.length (S.map strV)
  oA : w.ownsRow b0 3 1 vA A.length (A.map (Value.int .i64))
  oW : w.ownsRow b0 9 1 vW W.length (W.map strV)
  lS : ∀ s ∈ S, s.length = 128
  lW : ∀ s ∈ W, s.length = 128
  AW : A.length = W.length
  ge : b0 ≤ g
  few : S.length ≤ 100000 ∧ A.length ≤ 100000

section
variable {q : Int} {w w' : World} {b0 g : Nat} {vS vA vW : Value} {S : List (List UInt8)} {A : List Int} {W : List (List UInt8)}

theorem RDk.only {F : Nat → Prop} (h : RDk q w b0 g vS vA vW S A W) (ho : Only F w w') (hF : ∀ k, b0 ≤ k → ¬ F k) : RDk q w' b0 g vS vA vW S A W :=
  ⟨h.at_.only ho (hF _ h.ge), own_moreT h.oS (fun k hk hlt => ho.block k hlt (hF k (own_from h.oS k hk))), own_moreT h.oA (fun k hk hlt => ho.block k hlt (hF k (own_from h.oA k hk))), own_moreT h.oW (fun k hk hlt => ho.block k hlt (hF k (own_from h.oW k hk))), h.lS, h.lW, h.AW, h.ge, h.few⟩

theorem RDk.new (h : RDk q w b0 g vS vA vW S A W) (hn : New w w') : RDk q w' b0 g vS vA vW S A W := h.only (New.only (F := fun _ => False) hn) (fun _ _ f => f)

theorem RDk.frozen (h : RDk q w b0 g vS vA vW S A W) : w.frozen? ⟨g, 0, none⟩ = false ∧ w.frozen? ⟨g, 1, none⟩ = false ∧ w.frozen? ⟨g, 2, none⟩ = false ∧ w.frozen? ⟨g, 3, none⟩ = false := h.at_.frozen
end

/-- what See finds behind j of the writes -/
def seeTo (A : List Int) (W : List (List UInt8)) (at_ : Int) (s : List UInt8) : Nat → List UInt8
  | 0 => s
  | j + 1 => if A.getD j 0 = at_ then W.getD j [] else seeTo A W at_ s j
def seeR (S : List (List UInt8)) (A : List Int) (W : List (List UInt8)) (i : Nat) : List UInt8 := seeTo A W (i : Int) (S.getD i []) A.length
/-- sectors one behind the other -/
def seeAll (S : List (List UInt8)) (A : List Int) (W : List (List UInt8)) (at_ : Nat) : Nat → List UInt8
  | 0 => []
  | j + 1 => seeAll S A W at_ j ++ seeR S A W (at_ + j)

theorem seeTo_length {A : List Int} {W : List (List UInt8)} {at_ : Int} {s : List UInt8} (hs : s.length = 128) (hW : ∀ s ∈ W, s.length = 128) : ∀ {j : Nat}, j ≤ W.length → (seeTo A W at_ s j).length = 128
  | 0, _ => hs
  | j + 1, hj => by
    unfold seeTo
    split
    · rw [List.getD_eq_getElem?_getD, List.getElem?_eq_getElem (by omega)]
      exact hW _ (List.getElem_mem _)
    · exact seeTo_length hs hW (by omega)

theorem getD_len {S : List (List UInt8)} (hS : ∀ s ∈ S, s.length = 128) {i : Nat} (hi : i < S.length) : (S.getD i []).length = 128 := by
  rw [List.getD_eq_getElem?_getD, List.getElem?_eq_getElem hi]
  exact hS _ (List.getElem_mem _)

theorem seeR_length {S : List (List UInt8)} {A : List Int} {W : List (List UInt8)} (hS : ∀ s ∈ S, s.length = 128) (hW : ∀ s ∈ W, s.length = 128) (hAW : A.length = W.length) {i : Nat} (hi : i < S.length) : (seeR S A W i).length = 128 :=
  seeTo_length (getD_len hS hi) hW (by omega)

theorem seeAll_length {S : List (List UInt8)} {A : List Int} {W : List (List UInt8)} (hS : ∀ s ∈ S, s.length = 128) (hW : ∀ s ∈ W, s.length = 128) (hAW : A.length = W.length) {a : Nat} : ∀ {j : Nat}, a + j ≤ S.length → (seeAll S A W a j).length = 128 * j
  | 0, _ => rfl
  | j + 1, hj => by
    unfold seeAll
    rw [List.length_append, seeAll_length hS hW hAW (by omega), seeR_length hS hW hAW (by omega)]
    omega

theorem seeAll_none (S : List (List UInt8)) (a : Nat) : ∀ j, seeAll S [] [] a j = ((S.drop a).take j).flatten ∨ S.length < a + j
  | 0 => .inl (by simp [seeAll])
  | j + 1 => by
    rcases seeAll_none S a j with h | h
    · by_cases hj : a + j < S.length
      · left
        unfold seeAll
        rw [h]
        have hj' : j < (S.drop a).length := by rw [List.length_drop]; omega
        rw [List.take_succ_eq_append_getElem hj', List.flatten_append]
        congr 1
        simp [seeR, seeTo, List.getD_eq_getElem?_getD, List.getElem?_eq_getElem hj]
      · right; omega
    · right; omega

set_option maxRecDepth 100000 in
set_option maxHeartbeats 400000 in
theorem rdkThere {q : Int} {w : World} {b0 g : Nat} {vS vA vW : Value} {S : List (List UInt8)} {A : List Int} {W : List (List UInt8)} (h : RDk q w b0 g vS vA vW S A W) (a n : Nat) (ha : a + n ≤ S.length) :
    Calls Tryz.prog 70 #[.pointer (some ⟨g, 0, none⟩), .int .i64 (a : Int), .int .i64 (n : Int)] w fun e w' => e = .returned (.bool true) ∧ w = w' := by
  obtain ⟨aS, cS, rfl, -, -⟩ := ownSl_form h.oS
  obtain ⟨c0, -, -, -⟩ := h.at_.cells
  have hf := h.few
  have d1 : decide ((0 : Int) ≤ (n : Int)) = true := by simp
  have d2 : decide ((0 : Int) ≤ (a : Int)) = true := by simp
  have d3 : decide ((a : Int) ≤ (S.length : Int)) = true := by simp; omega
  have d4 : decide ((n : Int) ≤ (S.length : Int) - (a : Int)) = true := by simp; omega
  clear h
  generalize S.length = m at *
  go_enter Tryz.func70, Tryz.ntmps70
  go_wp2
  go_ret
  exact ⟨rfl, rfl⟩

theorem rdkOn {w : World} {b0 g : Nat} {vS vA vW : Value} {S : List (List UInt8)} {A : List Int} {W : List (List UInt8)} (h : RDk (-1) w b0 g vS vA vW S A W) :
    Calls Tryz.prog 71 #[.pointer (some ⟨g, 0, none⟩)] w fun e w' => e = .returned (.bool true) ∧ w = w' := by
  obtain ⟨-, -, -, c3⟩ := h.at_.cells
  clear h
  go_enter Tryz.func71, Tryz.ntmps71
  go_wp2
  go_ret
  exact ⟨rfl, rfl⟩

set_option maxRecDepth 100000 in
set_option maxHeartbeats 1000000 in
theorem rdkSee {q : Int} {w : World} {b0 g : Nat} {vS vA vW : Value} {S : List (List UInt8)} {A : List Int} {W : List (List UInt8)} (h : RDk q w b0 g vS vA vW S A W) (i : Nat) (hi : i < S.length) :
    Calls Tryz.prog 72 #[.pointer (some ⟨g, 0, none⟩), .int .i64 (i : Int)] w fun e w' => e = .returned (.string (bstr (seeR S A W i))) ∧ w = w' := by
  obtain ⟨aS, cS, rfl, hS1, hS2⟩ := ownSl_form h.oS
  obtain ⟨aA, cA, rfl, hA1, hA2⟩ := ownSl_form h.oA
  obtain ⟨aW, cW, rfl, hW1, hW2⟩ := ownSl_form h.oW
  obtain ⟨c0, c1, c2, -⟩ := h.at_.cells
  obtain ⟨gS, rfl, hcS⟩ := hS2 (by omega)
  have hf := h.few
  have HAW := Lib.hid h.AW
  have hc := hcS i (.string (bstr (S.getD i []))) (by rw [List.getElem?_map, List.getElem?_eq_getElem hi, List.getD_eq_getElem?_getD, List.getElem?_eq_getElem hi]; rfl)
  have HR : Hid (seeR S A W i = seeTo A W (i : Int) (S.getD i []) A.length) := Lib.hid rfl
  have HA2 := Lib.hid hA2
  have HW2 := Lib.hid hW2
  clear h hcS hS2 hA2 hW2
  generalize S.getD i [] = s0 at *
  have hiS : (i : Int) < (S.length : Int) := by omega
  generalize S.length = nS at *
  go_enter Tryz.func72, Tryz.ntmps72
  go_wp2
  go_loop [5, 6] (fun s x => ∃ j : Nat, j ≤ A.length ∧ x = .int .i64 j ∧ s = .string (bstr (seeTo A W (i : Int) s0 j))) (fun _ x => A.length - (intOf x).toNat)
  case atStart => exact ⟨0, Nat.zero_le _, rfl, rfl⟩
  case round =>
    obtain ⟨j, hj, rfl, rfl⟩ := hrel
    by_cases hlt : j < A.length
    · have hli : (j : Int) < (A.length : Int) := by omega
      have hjW : j < W.length := by rw [← HAW.out]; exact hlt
      have hliW : (j : Int) < (W.length : Int) := by omega
      obtain ⟨gA, rfl, hcA⟩ := HA2.out (by omega)
      obtain ⟨gW, rfl, hcW⟩ := HW2.out (by omega)
      have ha := hcA j (.int .i64 (A.getD j 0)) (by rw [List.getElem?_map, List.getElem?_eq_getElem hlt, List.getD_eq_getElem?_getD, List.getElem?_eq_getElem hlt]; rfl)
      have hw := hcW j (.string (bstr (W.getD j []))) (by rw [List.getElem?_map, List.getElem?_eq_getElem (by omega), List.getD_eq_getElem?_getD, List.getElem?_eq_getElem (by omega)]; rfl)
      have HN : Hid (seeTo A W (i : Int) s0 (j + 1) = if A.getD j 0 = (i : Int) then W.getD j [] else seeTo A W (i : Int) s0 j) := Lib.hid rfl
      clear hcA hcW HR
      generalize A.getD j 0 = x at *
      generalize W.getD j [] = y at *
      by_cases hx : x = (i : Int)
      · rw [if_pos hx] at HN
        subst hx
        go_wp2
        go_round
        case rel => exact ⟨j + 1, by omega, by go_num, by rw [HN.out]⟩
        case measure => simp [intOf]; omega
      · rw [if_neg hx] at HN
        have d : (x == (i : Int)) = false := by simpa using hx
        go_wp2
        go_round
        case rel => exact ⟨j + 1, by omega, by go_num, by rw [HN.out]⟩
        case measure => simp [intOf]; omega
    · obtain rfl : j = A.length := by omega
      go_wp2
      go_ret
      exact ⟨by rw [HR.out]; rfl, rfl⟩

set_option maxRecDepth 100000 in
set_option maxHeartbeats 1000000 in
theorem rdkRead {w : World} {b0 g : Nat} {vS vA vW : Value} {S : List (List UInt8)} {A : List Int} {W : List (List UInt8)} (h : RDk (-1) w b0 g vS vA vW S A W) (a n : Nat) (ha : a + n ≤ S.length) :
    Calls Tryz.prog 46 #[.pointer (some ⟨g, 0, none⟩), .int .i64 (a : Int), .int .i64 (n : Int)] w fun e w' => e = .returned (.tuple #[.string (bstr (seeAll S A W a n)), .int .i64 0]) ∧ New w w' := by
  have HT := Lib.hid (rdkThere h a n ha)
  have HO := Lib.hid (rdkOn h)
  have HH := Lib.hid h
  have hf := h.few
  have HS := Lib.hid (And.intro h.lS (And.intro h.lW h.AW))
  clear h
  go_enter Tryz.func46, Tryz.ntmps46
  go_wp2_with fail
  refine HT.out.mono ?_
  rintro _ w1 ⟨rfl, rfl⟩
  go_wp2_with fail
  refine HO.out.mono ?_
  rintro _ w1 ⟨rfl, rfl⟩
  clear HT HO
  go_wp2_with fail
  go_loopw [8, 9] (fun s x wr => ∃ j : Nat, j ≤ n ∧ x = .int .i64 j ∧ s = .string (bstr (seeAll S A W a j)) ∧ New w wr) (fun _ x _ => n - (intOf x).toNat)
  case atStart => exact ⟨0, Nat.zero_le _, rfl, rfl, Below.refl _ _⟩
  case round =>
    obtain ⟨j, hj, rfl, rfl, hnew⟩ := hrel
    have HN := Lib.hid hnew
    clear hnew
    by_cases hlt : j < n
    · have HSee := Lib.hid (rdkSee (HH.out.new HN.out) (a + j) (by omega))
      have hl := seeAll_length HS.out.1 HS.out.2.1 HS.out.2.2 (a := a) (j := j) (by omega)
      have hr := seeR_length HS.out.1 HS.out.2.1 HS.out.2.2 (i := a + j) (by omega)
      have z1 : (bstr (seeAll S A W a j)).size = 128 * j := by rw [bstr_size, hl]
      have z2 : (bstr (seeR S A W (a + j))).size = 128 := by rw [bstr_size, hr]
      have e1 : (a : Int) + (j : Int) = ((a + j : Nat) : Int) := by omega
      have HX : Hid (bstr (seeAll S A W a j) ++ bstr (seeR S A W (a + j)) = bstr (seeAll S A W a (j + 1))) := Lib.hid (bstr_append _ _)
      clear hl hr
      generalize bstr (seeAll S A W a j) = X at *
      generalize bstr (seeR S A W (a + j)) = Y at *
      have hq : a + j ≤ 100000 := by omega
      generalize a + j = p at *
      go_wp2_with fail
      refine HSee.out.mono ?_
      rintro _ w1 ⟨rfl, rfl⟩
      go_wp2
      go_roundw
      case rel => exact ⟨j + 1, by omega, by go_num, by rw [← HX.out], HN.out⟩
      case measure => simp [intOf]; omega
    · obtain rfl : j = n := by omega
      go_wp2
      go_ret2
      exact ⟨rfl, HN.out⟩

end Go.Proofs.YtijkmpcgkhijgaaGreatDoor

namespace Go.Proofs.YtijkmpcgkhijgaaGreatDoor
set_option linter.unusedVariables false
set_option linter.unusedSimpArgs false
open Go.RowKit

/-- one sector more -/
theorem RDk.push {q : Int} {wr wa : World} {b0 g : Nat} {vS v' : Value} {S : List (List UInt8)} {t : List UInt8} (h : RDk q wr b0 g vS (.slice none 0 0) (.slice none 0 0) S [] [])
    (hown : wa.ownsRow b0 9 1 v' (S.length + 1) (S.map strV ++ [strV t])) (ho : Only (fun k => blk vS = some k) wr wa) (hb : blk v' = blk vS ∨ ∃ k, blk v' = some k ∧ wr.heap.size ≤ k) (ht : t.length = 128) (hf : S.length + 1 ≤ 100000) :
    At4 wa g 88 vS (.slice none 0 0) (.slice none 0 0) (.int .i64 q) ∧ RDk q (wa.setCell ⟨g, 0, none⟩ v') b0 g v' (.slice none 0 0) (.slice none 0 0) (S ++ [t]) [] [] := by
  have hn : blk vS ≠ some g := own_neT h.oS h.at_ (by decide)
  have hA : At4 wa g 88 vS (.slice none 0 0) (.slice none 0 0) (.int .i64 q) := h.at_.only ho (fun e => hn e)
  have hn' : blk v' ≠ some g := by
    rcases hb with e | ⟨k, e, hk⟩
    · rw [e]; exact hn
    · rw [e]; intro e'; cases e'; have := h.at_.lt; omega
  refine ⟨hA, hA.set0 _, ?_, World.ownsRow_nil _ _ _ _, World.ownsRow_nil _ _ _ _, ?_, (fun s hs => (by cases hs)), rfl, h.ge, by rw [List.length_append]; exact ⟨hf, by simp⟩⟩
  · rw [List.length_append, List.map_append]
    exact own_moreT hown (fun k hk hlt => heap_setCell_other _ _ _ _ (fun e => hn' (by rw [hk, e])))
  · intro s hs
    rcases List.mem_append.1 hs with hs | hs
    · exact h.lS s hs
    · rw [List.mem_singleton.1 hs]; exact ht

/-- a disk of the reference's, made -/
def RDkNew (w : World) (S : List (List UInt8)) (e : Ending) (w' : World) : Prop :=
  ∃ g vS, e = .returned (.pointer (some ⟨g, 0, none⟩)) ∧ RDk (-1) w' w.heap.size g vS (.slice none 0 0) (.slice none 0 0) S [] [] ∧ New w w'

set_option maxRecDepth 100000 in
set_option maxHeartbeats 2000000 in
theorem rdkNew (w : World) (n : Nat) (hn : n ≤ 100000) : Calls Tryz.prog 27 #[.int .i64 (n : Int)] w (RDkNew w (List.replicate n (List.replicate 128 0))) := by
  have hmk : ∀ wx : World, (Instr.makeSlice 42 (.int .i64 128) (.int .i64 128)).run Tryz.prog wx = .ok (.slice (some ⟨wx.heap.size, 0, none⟩) 128 128) (wx.alloc (.cells (List.replicate 128 (bv 0)).toArray 5)) := fun wx => by
    have := run_make10 128 (by omega) wx
    rwa [List.map_replicate] at this
  have hst := zeroStr 128 (by omega)
  obtain ⟨Z, HZ⟩ : ∃ Z, Hid (List.replicate 128 (0 : UInt8) = Z) := ⟨_, Lib.hid rfl⟩
  rw [HZ.out] at hst
  rw [HZ.out]
  generalize hR : (List.replicate 128 (bv 0)).toArray = RZ at *
  clear hR
  have HMK := Lib.hid hmk
  have HST := Lib.hid hst
  clear hmk hst
  go_enter Tryz.func27, Tryz.ntmps27
  go_upto_region 3 with fail
  generalize hw1 : World.alloc w _ = w1
  have HI0 : Hid (RDk (-1) w1 w.heap.size w.heap.size (.slice none 0 0) (.slice none 0 0) (.slice none 0 0) [] [] []) := Lib.hid
    ⟨by rw [← hw1]; exact heap_alloc_new _ _, World.ownsRow_nil _ _ _ _, World.ownsRow_nil _ _ _ _, World.ownsRow_nil _ _ _ _, fun s hs => (by cases hs), fun s hs => (by cases hs), rfl, Nat.le_refl _, by simp⟩
  have N1 : Hid (New w w1) := Lib.hid (by rw [← hw1]; exact (Below.refl _ _).alloc (Nat.le_refl _) _)
  clear hw1
  obtain ⟨g, hg⟩ : ∃ g, w.heap.size = g := ⟨_, rfl⟩
  have HGB := Lib.hid hg
  rw [show RDk (-1) w1 w.heap.size w.heap.size = RDk (-1) w1 w.heap.size g by rw [hg]] at HI0
  rw [hg]
  clear hg
  go_loopw [4] (fun i wr => ∃ (j : Nat) (vS : Value), j ≤ n ∧ i = .int .i64 j ∧ RDk (-1) wr w.heap.size g vS (.slice none 0 0) (.slice none 0 0) (List.replicate j Z) [] [] ∧ New w wr) (fun i _ => n - (intOf i).toNat)
  case atStart => exact ⟨0, _, Nat.zero_le _, rfl, HI0.out, N1.out⟩
  case round =>
    obtain ⟨j, vS, hj, rfl, hin, hnew⟩ := hrel
    obtain ⟨aS, cS, rfl, -, -⟩ := ownSl_form hin.oS
    rw [List.length_replicate] at hin
    have HIr := Lib.hid hin
    have HNr := Lib.hid hnew
    clear hin hnew HI0 N1
    by_cases hlt : j < n
    · have hli : (j : Int) < (n : Int) := by omega
      go_upto_region 5 with fail
      refine region_ordT (fun _ => True) (.take 0 (.take 1 (.take 2 (.take 3 (.two 4 5 (.only 5 (.only 6 (.only 7 (.only 8 (.take 9 (.take 10 (.only 11 .nil))))))) (.two 4 6 (.only 6 (.only 7 (.only 8 (.take 9 (.take 10 (.only 11 .nil)))))) (.two 4 7 (.only 7 (.only 8 (.take 9 (.take 10 (.only 11 .nil))))) (.only 4 (.only 8 (.take 9 (.take 10 (.only 11 .nil))))))))))) ) (by kernel_rfl) (by kernel_rfl) trivial (fun _ => ?_)
      have HI : Hid (RDk (-1) wr.drew w.heap.size g (.slice aS j cS) (.slice none 0 0) (.slice none 0 0) (List.replicate j Z) [] []) := Lib.hid (HIr.out.new (show New wr wr.drew from (Below.refl _ _).drew))
      have HNd := Lib.hid HNr.out.drew
      clear HIr HNr
      generalize wr.drew = wd at *
      have M1 : New wd (wd.alloc (.cells RZ 5)) := (Below.refl _ _).alloc (Nat.le_refl _) _
      have M2 : New (wd.alloc (.cells RZ 5)) ((wd.alloc (.cells RZ 5)).alloc (.cells #[.string (bstr Z)] 9)) := (Below.refl _ _).alloc (Nat.le_refl _) _
      have HI1 := Lib.hid (HI.out.new M1)
      have HI2 := Lib.hid (HI1.out.new M2)
      have HN1 := Lib.hid (New.trans HNd.out M1)
      have hstd := HST.out wd
      have hmk := HMK.out
      clear M1 M2
      obtain ⟨w1', hw1'⟩ : ∃ w1, wd.alloc (.cells RZ 5) = w1 := ⟨_, rfl⟩
      obtain ⟨i0, hi0, hz0, hz1, hz2⟩ := info_parts infoStr
      obtain ⟨v', wa, happ, hown', hO', hb', hlt'⟩ := run_append_u (P := Tryz.prog) w.heap.size (wd.alloc (.cells RZ 5)) 28 28 9 i0 _ 16 Tryz.underlying28 hi0 hz0 hz1 hz2 rfl _ j ((List.replicate j Z).map strV) (by have := HI1.out.oS; rwa [List.length_replicate] at this) (.string (bstr Z)) rfl (by omega) (by omega) HN1.out.size
      obtain ⟨a', cap', rfl, -, -⟩ := ownSl_form hown'
      rw [show (wd.alloc (.cells RZ 5)).heap.size = wd.heap.size + 1 by simp] at happ
      have HAPP := Lib.hid happ
      have HPU := Lib.hid (HI1.out.push (t := Z) (by rw [List.length_replicate]; exact hown') hO' hb' (by rw [← HZ.out]; simp) (by rw [List.length_replicate]; omega))
      have HR : Hid (RDk (-1) (wa.setCell ⟨g, 0, none⟩ (.slice a' (j + 1) cap')) w.heap.size g (.slice a' (j + 1) cap') (.slice none 0 0) (.slice none 0 0) (List.replicate (j + 1) Z) [] []) := Lib.hid (by
        have := HPU.out.2
        rwa [← List.replicate_succ'] at this)
      have HNN : Hid (New w (wa.setCell ⟨g, 0, none⟩ (.slice a' (j + 1) cap'))) := Lib.hid (Below.trans (Below.trans HN1.out (hO'.below HN1.out.size (fun k hk => own_from HI1.out.oS k hk))) ((only_cell wa g 0 _).below (by have := HN1.out.size; have := hO'.size; omega) (fun k hk => by have := HGB.out; omega)))
      clear happ hown' hO' hb' hlt' hi0 hz0 hz1 hz2 hw1' w1'
      iterate 4 (apply ordT_take; (simp only [List.getElem?_toArray, List.getElem?_cons_succ, List.getElem?_cons_zero]; rfl); rfl; (intro w hSw; (try dsimp only at hSw); go_simp; try with_reducible rfl); intro _; try simp only [Act.put, List.setIfInBounds_toArray, List.set_cons_zero, List.set_cons_succ])
      (apply ordT_two; (simp only [List.getElem?_toArray, List.getElem?_cons_succ, List.getElem?_cons_zero]; rfl); rfl; (simp only [List.getElem?_toArray, List.getElem?_cons_succ, List.getElem?_cons_zero]; rfl); rfl)
      · intro K hK
        obtain ⟨c0, -, -, -⟩ := HI.out.at_.cells
        go_simp
        clear c0
        refine hK.out _ _ (trivial) (fun _ => ?_)
        clear hK K
        try simp only [Act.put, List.setIfInBounds_toArray, List.set_cons_zero, List.set_cons_succ]
        (apply ordT_only; (simp only [List.getElem?_toArray, List.getElem?_cons_succ, List.getElem?_cons_zero]; rfl); rfl; intro K hK)
        go_simp
        refine hK.out _ _ (trivial) (fun _ => ?_)
        clear hK K
        try simp only [Act.put, List.setIfInBounds_toArray, List.set_cons_zero, List.set_cons_succ]
        (apply ordT_only; (simp only [List.getElem?_toArray, List.getElem?_cons_succ, List.getElem?_cons_zero]; rfl); rfl; intro K hK)
        go_simp
        refine hK.out _ _ (trivial) (fun _ => ?_)
        clear hK K
        try simp only [Act.put, List.setIfInBounds_toArray, List.set_cons_zero, List.set_cons_succ]
        (apply ordT_only; (simp only [List.getElem?_toArray, List.getElem?_cons_succ, List.getElem?_cons_zero]; rfl); rfl; intro K hK)
        go_simp
        refine hK.out _ _ (trivial) (fun _ => ?_)
        clear hK K
        try simp only [Act.put, List.setIfInBounds_toArray, List.set_cons_zero, List.set_cons_succ]
        (apply ordT_only; (simp only [List.getElem?_toArray, List.getElem?_cons_succ, List.getElem?_cons_zero]; rfl); rfl; intro K hK)
        refine oper_append _ _ 28 rfl _ _ rfl rfl HAPP.out ?_
        refine hK.out _ _ (trivial) (fun _ => ?_)
        clear hK K
        try simp only [Act.put, List.setIfInBounds_toArray, List.set_cons_zero, List.set_cons_succ]
        iterate 2 (apply ordT_take; (simp only [List.getElem?_toArray, List.getElem?_cons_succ, List.getElem?_cons_zero]; rfl); rfl; (intro w hSw; (try dsimp only at hSw); go_simp; try with_reducible rfl); intro _; try simp only [Act.put, List.setIfInBounds_toArray, List.set_cons_zero, List.set_cons_succ])
        (apply ordT_only; (simp only [List.getElem?_toArray, List.getElem?_cons_succ, List.getElem?_cons_zero]; rfl); rfl; intro K hK)
        obtain ⟨f0, f1, f2, f3⟩ := HPU.out.1.frozen
        obtain ⟨y0, y1, y2, y3⟩ := HPU.out.1.cells
        go_simp
        refine hK.out _ _ (trivial) (fun _ => ?_)
        clear hK K
        try simp only [Act.put, List.setIfInBounds_toArray, List.set_cons_zero, List.set_cons_succ]
        apply ordT_done
        go_wp2
        go_roundw
        case rel => exact ⟨j + 1, _, by omega, by go_num, HR.out, HNN.out⟩
        case measure => simp [intOf]; omega
      · intro K hK
        go_simp
        refine hK.out _ _ (trivial) (fun _ => ?_)
        clear hK K
        try simp only [Act.put, List.setIfInBounds_toArray, List.set_cons_zero, List.set_cons_succ]
        (apply ordT_two; (simp only [List.getElem?_toArray, List.getElem?_cons_succ, List.getElem?_cons_zero]; rfl); rfl; (simp only [List.getElem?_toArray, List.getElem?_cons_succ, List.getElem?_cons_zero]; rfl); rfl)
        · intro K hK
          obtain ⟨c0, -, -, -⟩ := HI1.out.at_.cells
          go_simp
          clear c0
          refine hK.out _ _ (trivial) (fun _ => ?_)
          clear hK K
          try simp only [Act.put, List.setIfInBounds_toArray, List.set_cons_zero, List.set_cons_succ]
          (apply ordT_only; (simp only [List.getElem?_toArray, List.getElem?_cons_succ, List.getElem?_cons_zero]; rfl); rfl; intro K hK)
          go_simp
          refine hK.out _ _ (trivial) (fun _ => ?_)
          clear hK K
          try simp only [Act.put, List.setIfInBounds_toArray, List.set_cons_zero, List.set_cons_succ]
          (apply ordT_only; (simp only [List.getElem?_toArray, List.getElem?_cons_succ, List.getElem?_cons_zero]; rfl); rfl; intro K hK)
          go_simp
          refine hK.out _ _ (trivial) (fun _ => ?_)
          clear hK K
          try simp only [Act.put, List.setIfInBounds_toArray, List.set_cons_zero, List.set_cons_succ]
          (apply ordT_only; (simp only [List.getElem?_toArray, List.getElem?_cons_succ, List.getElem?_cons_zero]; rfl); rfl; intro K hK)
          refine oper_append _ _ 28 rfl _ _ rfl rfl HAPP.out ?_
          refine hK.out _ _ (trivial) (fun _ => ?_)
          clear hK K
          try simp only [Act.put, List.setIfInBounds_toArray, List.set_cons_zero, List.set_cons_succ]
          iterate 2 (apply ordT_take; (simp only [List.getElem?_toArray, List.getElem?_cons_succ, List.getElem?_cons_zero]; rfl); rfl; (intro w hSw; (try dsimp only at hSw); go_simp; try with_reducible rfl); intro _; try simp only [Act.put, List.setIfInBounds_toArray, List.set_cons_zero, List.set_cons_succ])
          (apply ordT_only; (simp only [List.getElem?_toArray, List.getElem?_cons_succ, List.getElem?_cons_zero]; rfl); rfl; intro K hK)
          obtain ⟨f0, f1, f2, f3⟩ := HPU.out.1.frozen
          obtain ⟨y0, y1, y2, y3⟩ := HPU.out.1.cells
          go_simp
          refine hK.out _ _ (trivial) (fun _ => ?_)
          clear hK K
          try simp only [Act.put, List.setIfInBounds_toArray, List.set_cons_zero, List.set_cons_succ]
          apply ordT_done
          go_wp2
          go_roundw
          case rel => exact ⟨j + 1, _, by omega, by go_num, HR.out, HNN.out⟩
          case measure => simp [intOf]; omega
        · intro K hK
          go_simp
          refine hK.out _ _ (trivial) (fun _ => ?_)
          clear hK K
          try simp only [Act.put, List.setIfInBounds_toArray, List.set_cons_zero, List.set_cons_succ]
          (apply ordT_two; (simp only [List.getElem?_toArray, List.getElem?_cons_succ, List.getElem?_cons_zero]; rfl); rfl; (simp only [List.getElem?_toArray, List.getElem?_cons_succ, List.getElem?_cons_zero]; rfl); rfl)
          · intro K hK
            obtain ⟨c0, -, -, -⟩ := HI1.out.at_.cells
            go_simp
            clear c0
            refine hK.out _ _ (trivial) (fun _ => ?_)
            clear hK K
            try simp only [Act.put, List.setIfInBounds_toArray, List.set_cons_zero, List.set_cons_succ]
            (apply ordT_only; (simp only [List.getElem?_toArray, List.getElem?_cons_succ, List.getElem?_cons_zero]; rfl); rfl; intro K hK)
            go_simp
            refine hK.out _ _ (trivial) (fun _ => ?_)
            clear hK K
            try simp only [Act.put, List.setIfInBounds_toArray, List.set_cons_zero, List.set_cons_succ]
            (apply ordT_only; (simp only [List.getElem?_toArray, List.getElem?_cons_succ, List.getElem?_cons_zero]; rfl); rfl; intro K hK)
            refine oper_append _ _ 28 rfl _ _ rfl rfl HAPP.out ?_
            refine hK.out _ _ (trivial) (fun _ => ?_)
            clear hK K
            try simp only [Act.put, List.setIfInBounds_toArray, List.set_cons_zero, List.set_cons_succ]
            iterate 2 (apply ordT_take; (simp only [List.getElem?_toArray, List.getElem?_cons_succ, List.getElem?_cons_zero]; rfl); rfl; (intro w hSw; (try dsimp only at hSw); go_simp; try with_reducible rfl); intro _; try simp only [Act.put, List.setIfInBounds_toArray, List.set_cons_zero, List.set_cons_succ])
            (apply ordT_only; (simp only [List.getElem?_toArray, List.getElem?_cons_succ, List.getElem?_cons_zero]; rfl); rfl; intro K hK)
            obtain ⟨f0, f1, f2, f3⟩ := HPU.out.1.frozen
            obtain ⟨y0, y1, y2, y3⟩ := HPU.out.1.cells
            go_simp
            refine hK.out _ _ (trivial) (fun _ => ?_)
            clear hK K
            try simp only [Act.put, List.setIfInBounds_toArray, List.set_cons_zero, List.set_cons_succ]
            apply ordT_done
            go_wp2
            go_roundw
            case rel => exact ⟨j + 1, _, by omega, by go_num, HR.out, HNN.out⟩
            case measure => simp [intOf]; omega
          · intro K hK
            go_simp
            refine hK.out _ _ (trivial) (fun _ => ?_)
            clear hK K
            try simp only [Act.put, List.setIfInBounds_toArray, List.set_cons_zero, List.set_cons_succ]
            (apply ordT_only; (simp only [List.getElem?_toArray, List.getElem?_cons_succ, List.getElem?_cons_zero]; rfl); rfl; intro K hK)
            obtain ⟨c0, -, -, -⟩ := HI2.out.at_.cells
            go_simp
            clear c0
            refine hK.out _ _ (trivial) (fun _ => ?_)
            clear hK K
            try simp only [Act.put, List.setIfInBounds_toArray, List.set_cons_zero, List.set_cons_succ]
            (apply ordT_only; (simp only [List.getElem?_toArray, List.getElem?_cons_succ, List.getElem?_cons_zero]; rfl); rfl; intro K hK)
            refine oper_append _ _ 28 rfl _ _ rfl rfl HAPP.out ?_
            refine hK.out _ _ (trivial) (fun _ => ?_)
            clear hK K
            try simp only [Act.put, List.setIfInBounds_toArray, List.set_cons_zero, List.set_cons_succ]
            iterate 2 (apply ordT_take; (simp only [List.getElem?_toArray, List.getElem?_cons_succ, List.getElem?_cons_zero]; rfl); rfl; (intro w hSw; (try dsimp only at hSw); go_simp; try with_reducible rfl); intro _; try simp only [Act.put, List.setIfInBounds_toArray, List.set_cons_zero, List.set_cons_succ])
            (apply ordT_only; (simp only [List.getElem?_toArray, List.getElem?_cons_succ, List.getElem?_cons_zero]; rfl); rfl; intro K hK)
            obtain ⟨f0, f1, f2, f3⟩ := HPU.out.1.frozen
            obtain ⟨y0, y1, y2, y3⟩ := HPU.out.1.cells
            go_simp
            refine hK.out _ _ (trivial) (fun _ => ?_)
            clear hK K
            try simp only [Act.put, List.setIfInBounds_toArray, List.set_cons_zero, List.set_cons_succ]
            apply ordT_done
            go_wp2
            go_roundw
            case rel => exact ⟨j + 1, _, by omega, by go_num, HR.out, HNN.out⟩
            case measure => simp [intOf]; omega
    · obtain rfl : j = n := by omega
      go_wp2
      go_ret
      exact ⟨g, _, rfl, HIr.out, HNr.out⟩

/-- the sectors of some bytes -/
def secL (l : List UInt8) (n : Nat) : List (List UInt8) := (List.range n).map (sec l)

theorem secL_succ (l : List UInt8) (n : Nat) : secL l (n + 1) = secL l n ++ [sec l n] := by simp [secL, List.range_succ]
theorem secL_length (l : List UInt8) (n : Nat) : (secL l n).length = n := by simp [secL]

set_option maxRecDepth 100000 in
set_option maxHeartbeats 2000000 in
theorem rdkLoad (w : World) (l : List UInt8) (n : Nat) (hl : l.length = 128 * n) (hn : n ≤ 100000) : Calls Tryz.prog 15 #[.string (bstr l)] w (RDkNew w (secL l n)) := by
  obtain ⟨m, hm⟩ : ∃ m, l.length = m := ⟨_, rfl⟩
  have hz : (bstr l).size = m := by rw [bstr_size]; exact hm
  have HM : Hid (m = 128 * n ∧ l.length = m) := Lib.hid ⟨by omega, hm⟩
  have hmb : m ≤ 12800000 := by omega
  clear hl hm
  go_enter Tryz.func15, Tryz.ntmps15
  go_upto_region 3 with fail
  generalize hw1 : World.alloc w _ = w1
  have HI0 : Hid (RDk (-1) w1 w.heap.size w.heap.size (.slice none 0 0) (.slice none 0 0) (.slice none 0 0) [] [] []) := Lib.hid
    ⟨by rw [← hw1]; exact heap_alloc_new _ _, World.ownsRow_nil _ _ _ _, World.ownsRow_nil _ _ _ _, World.ownsRow_nil _ _ _ _, fun s hs => (by cases hs), fun s hs => (by cases hs), rfl, Nat.le_refl _, by simp⟩
  have N1 : Hid (New w w1) := Lib.hid (by rw [← hw1]; exact (Below.refl _ _).alloc (Nat.le_refl _) _)
  clear hw1
  obtain ⟨g, hg⟩ : ∃ g, w.heap.size = g := ⟨_, rfl⟩
  have HGB := Lib.hid hg
  rw [show RDk (-1) w1 w.heap.size w.heap.size = RDk (-1) w1 w.heap.size g by rw [hg]] at HI0
  rw [hg]
  clear hg
  go_loopw [4] (fun i wr => ∃ (j : Nat) (vS : Value), j ≤ n ∧ i = .int .i64 ((128 * j : Nat) : Int) ∧ RDk (-1) wr w.heap.size g vS (.slice none 0 0) (.slice none 0 0) (secL l j) [] [] ∧ New w wr) (fun i _ => 128 * n - (intOf i).toNat)
  case atStart => exact ⟨0, _, Nat.zero_le _, rfl, HI0.out, N1.out⟩
  case round =>
    obtain ⟨j, vS, hj, rfl, hin, hnew⟩ := hrel
    obtain ⟨aS, cS, rfl, -, -⟩ := ownSl_form hin.oS
    rw [secL_length] at hin
    have HIr := Lib.hid hin
    have HNr := Lib.hid hnew
    clear hin hnew HI0 N1
    obtain ⟨p, hp⟩ : ∃ p, 128 * j = p := ⟨_, rfl⟩
    rw [hp]
    have HJ := Lib.hid hp
    by_cases hlt : j < n
    · have hli : (p : Int) + 128 ≤ (m : Int) := by have := HM.out.1; omega
      have HT : Hid ((sec l j).length = 128) := Lib.hid (sec_length (by have := HM.out; omega))
      obtain ⟨t, Ht⟩ : ∃ t, Hid (sec l j = t) := ⟨_, Lib.hid rfl⟩
      obtain ⟨p4, hp4⟩ : ∃ p4, p + 128 = p4 := ⟨_, rfl⟩
      have hx : (bstr l).extract p p4 = bstr t := by
        rw [bstr_cut, ← Ht.out]
        unfold sec
        rw [show p4 - p = 128 by omega, hp]
      have hwr : IntKind.i64.wrap ((p : Int) + 128) = (p4 : Int) := by rw [IntWalk.i64_in _ (by omega)]; omega
      have hi1 : (p : Int) ≤ (p4 : Int) := by omega
      have hi2 : (p4 : Int) ≤ (m : Int) := by omega
      have HP4 := Lib.hid hp4
      clear hp hp4
      go_upto_region 5 with fail
      refine region_ordT (fun _ => True) (.take 0 (.take 1 (.take 2 (.take 3 (.take 5 (.take 6 (.take 7 (.take 8 (.take 9 (.two 4 10 (.only 10 (.only 11 (.take 12 (.take 13 (.only 14 .nil))))) (.only 4 (.only 11 (.take 12 (.take 13 (.only 14 .nil))))))))))))))) (by kernel_rfl) (by kernel_rfl) trivial (fun _ => ?_)
      have HI : Hid (RDk (-1) wr.drew w.heap.size g (.slice aS j cS) (.slice none 0 0) (.slice none 0 0) (secL l j) [] []) := Lib.hid (HIr.out.new (show New wr wr.drew from (Below.refl _ _).drew))
      have HNd := Lib.hid HNr.out.drew
      clear HIr HNr
      generalize wr.drew = wd at *
      have HI1 : Hid (RDk (-1) (wd.alloc (.cells #[.string (bstr t)] 9)) w.heap.size g (.slice aS j cS) (.slice none 0 0) (.slice none 0 0) (secL l j) [] []) := Lib.hid (HI.out.new ((Below.refl _ _).alloc (Nat.le_refl _) _))
      obtain ⟨i0, hi0, hz0, hz1, hz2⟩ := info_parts infoStr
      obtain ⟨v', wa, happ, hown', hO', hb', hlt'⟩ := run_append_u (P := Tryz.prog) w.heap.size wd 28 28 9 i0 _ 16 Tryz.underlying28 hi0 hz0 hz1 hz2 rfl _ j ((secL l j).map strV) (by have := HI.out.oS; rwa [secL_length] at this) (.string (bstr t)) rfl (by omega) (by omega) HNd.out.size
      obtain ⟨a', cap', rfl, -, -⟩ := ownSl_form hown'
      have HAPP := Lib.hid happ
      have HPU := Lib.hid (HI.out.push (t := t) (by rw [secL_length]; exact hown') hO' hb' (by rw [← Ht.out]; exact HT.out) (by rw [secL_length]; omega))
      have HR : Hid (RDk (-1) (wa.setCell ⟨g, 0, none⟩ (.slice a' (j + 1) cap')) w.heap.size g (.slice a' (j + 1) cap') (.slice none 0 0) (.slice none 0 0) (secL l (j + 1)) [] []) := Lib.hid (by
        have := HPU.out.2
        rwa [← Ht.out, ← secL_succ] at this)
      have HNN : Hid (New w (wa.setCell ⟨g, 0, none⟩ (.slice a' (j + 1) cap'))) := Lib.hid (Below.trans (Below.trans HNd.out (hO'.below HNd.out.size (fun k hk => own_from HI.out.oS k hk))) ((only_cell wa g 0 _).below (by have := HNd.out.size; have := hO'.size; omega) (fun k hk => by have := HGB.out; omega)))
      clear happ hown' hO' hb' hlt' hi0 hz0 hz1 hz2
      iterate 9 (apply ordT_take; (simp only [List.getElem?_toArray, List.getElem?_cons_succ, List.getElem?_cons_zero]; rfl); rfl; (intro w hSw; (try dsimp only at hSw); go_simp; try with_reducible rfl); intro _; try simp only [Act.put, List.setIfInBounds_toArray, List.set_cons_zero, List.set_cons_succ])
      (apply ordT_two; (simp only [List.getElem?_toArray, List.getElem?_cons_succ, List.getElem?_cons_zero]; rfl); rfl; (simp only [List.getElem?_toArray, List.getElem?_cons_succ, List.getElem?_cons_zero]; rfl); rfl)
      · intro K hK
        obtain ⟨c0, -, -, -⟩ := HI.out.at_.cells
        go_simp
        clear c0
        refine hK.out _ _ (trivial) (fun _ => ?_)
        clear hK K
        try simp only [Act.put, List.setIfInBounds_toArray, List.set_cons_zero, List.set_cons_succ]
        (apply ordT_only; (simp only [List.getElem?_toArray, List.getElem?_cons_succ, List.getElem?_cons_zero]; rfl); rfl; intro K hK)
        go_simp
        refine hK.out _ _ (trivial) (fun _ => ?_)
        clear hK K
        try simp only [Act.put, List.setIfInBounds_toArray, List.set_cons_zero, List.set_cons_succ]
        (apply ordT_only; (simp only [List.getElem?_toArray, List.getElem?_cons_succ, List.getElem?_cons_zero]; rfl); rfl; intro K hK)
        refine oper_append _ _ 28 rfl _ _ rfl rfl HAPP.out ?_
        refine hK.out _ _ (trivial) (fun _ => ?_)
        clear hK K
        try simp only [Act.put, List.setIfInBounds_toArray, List.set_cons_zero, List.set_cons_succ]
        iterate 2 (apply ordT_take; (simp only [List.getElem?_toArray, List.getElem?_cons_succ, List.getElem?_cons_zero]; rfl); rfl; (intro w hSw; (try dsimp only at hSw); go_simp; try with_reducible rfl); intro _; try simp only [Act.put, List.setIfInBounds_toArray, List.set_cons_zero, List.set_cons_succ])
        (apply ordT_only; (simp only [List.getElem?_toArray, List.getElem?_cons_succ, List.getElem?_cons_zero]; rfl); rfl; intro K hK)
        obtain ⟨f0, f1, f2, f3⟩ := HPU.out.1.frozen
        obtain ⟨y0, y1, y2, y3⟩ := HPU.out.1.cells
        go_simp
        refine hK.out _ _ (trivial) (fun _ => ?_)
        clear hK K
        try simp only [Act.put, List.setIfInBounds_toArray, List.set_cons_zero, List.set_cons_succ]
        apply ordT_done
        go_wp2
        go_roundw
        case rel => exact ⟨j + 1, _, by omega, by have hh := HJ.out; have h4 := HP4.out; congr 1; omega, HR.out, HNN.out⟩
        case measure => have hh := HJ.out; have h4 := HP4.out; simp [intOf]; omega
      · intro K hK
        go_simp
        refine hK.out _ _ (trivial) (fun _ => ?_)
        clear hK K
        try simp only [Act.put, List.setIfInBounds_toArray, List.set_cons_zero, List.set_cons_succ]
        (apply ordT_only; (simp only [List.getElem?_toArray, List.getElem?_cons_succ, List.getElem?_cons_zero]; rfl); rfl; intro K hK)
        obtain ⟨c0, -, -, -⟩ := HI1.out.at_.cells
        go_simp
        clear c0
        refine hK.out _ _ (trivial) (fun _ => ?_)
        clear hK K
        try simp only [Act.put, List.setIfInBounds_toArray, List.set_cons_zero, List.set_cons_succ]
        (apply ordT_only; (simp only [List.getElem?_toArray, List.getElem?_cons_succ, List.getElem?_cons_zero]; rfl); rfl; intro K hK)
        refine oper_append _ _ 28 rfl _ _ rfl rfl HAPP.out ?_
        refine hK.out _ _ (trivial) (fun _ => ?_)
        clear hK K
        try simp only [Act.put, List.setIfInBounds_toArray, List.set_cons_zero, List.set_cons_succ]
        iterate 2 (apply ordT_take; (simp only [List.getElem?_toArray, List.getElem?_cons_succ, List.getElem?_cons_zero]; rfl); rfl; (intro w hSw; (try dsimp only at hSw); go_simp; try with_reducible rfl); intro _; try simp only [Act.put, List.setIfInBounds_toArray, List.set_cons_zero, List.set_cons_succ])
        (apply ordT_only; (simp only [List.getElem?_toArray, List.getElem?_cons_succ, List.getElem?_cons_zero]; rfl); rfl; intro K hK)
        obtain ⟨f0, f1, f2, f3⟩ := HPU.out.1.frozen
        obtain ⟨y0, y1, y2, y3⟩ := HPU.out.1.cells
        go_simp
        refine hK.out _ _ (trivial) (fun _ => ?_)
        clear hK K
        try simp only [Act.put, List.setIfInBounds_toArray, List.set_cons_zero, List.set_cons_succ]
        apply ordT_done
        go_wp2
        go_roundw
        case rel => exact ⟨j + 1, _, by omega, by have hh := HJ.out; have h4 := HP4.out; congr 1; omega, HR.out, HNN.out⟩
        case measure => have hh := HJ.out; have h4 := HP4.out; simp [intOf]; omega
    · obtain rfl : j = n := by omega
      have hpb : p ≤ 12800000 := by omega
      have hli : decide ((p : Int) + 128 ≤ (m : Int)) = false := by have := HM.out.1; simp; omega
      clear hp
      go_wp2
      go_ret
      exact ⟨g, _, rfl, HIr.out, HNr.out⟩

end Go.Proofs.YtijkmpcgkhijgaaGreatDoor

namespace Go.Proofs.YtijkmpcgkhijgaaGreatDoor
set_option linter.unusedVariables false
set_option linter.unusedSimpArgs false
open Go.RowKit

theorem own_low {w : World} {base base' : Nat} {e : TypeId} {size : Nat} {v : Value} {n : Nat} {xs : List Value} (h : w.ownsRow base e size v n xs) (hb : base' ≤ base) : w.ownsRow base' e size v n xs := by
  refine ⟨h.1, ?_⟩
  rcases h.2 with h0 | ⟨g, cap, cur, e1, h1, rest⟩
  · exact .inl h0
  · exact .inr ⟨g, cap, cur, e1, Nat.le_trans hb h1, rest⟩

/-- what is safe behind a Flush -/
def flushR (S : List (List UInt8)) (A : List Int) (W : List (List UInt8)) : List (List UInt8) := (List.range S.length).map (seeR S A W)

/-- what a call on the reference's disk leaves -/
def RDkTo (w : World) (b0 g : Nat) (S : List (List UInt8)) (A : List Int) (W : List (List UInt8)) (e : Ending) (w' : World) : Prop :=
  e = .returned (.int .i64 0) ∧ (∃ vS vA vW, RDk (-1) w' b0 g vS vA vW S A W) ∧ Only (fun k => k = g) w w'

set_option maxRecDepth 100000 in
set_option maxHeartbeats 2000000 in
theorem rdkFlush {w : World} {b0 g : Nat} {vS vA vW : Value} {S : List (List UInt8)} {A : List Int} {W : List (List UInt8)} (h : RDk (-1) w b0 g vS vA vW S A W) (hb : b0 ≤ w.heap.size) :
    Calls Tryz.prog 50 #[.pointer (some ⟨g, 0, none⟩)] w (RDkTo w b0 g (flushR S A W) [] []) := by
  have HO := Lib.hid (rdkOn h)
  have HH := Lib.hid h
  have HB := Lib.hid hb
  have hf := h.few.1
  obtain ⟨aS, cS, rfl, -, -⟩ := ownSl_form h.oS
  obtain ⟨ns, HNS⟩ : ∃ ns, Hid (S.length = ns) := ⟨_, Lib.hid rfl⟩
  rw [HNS.out] at hf
  have HAt := Lib.hid h.at_
  rw [HNS.out] at HAt
  clear h hb
  go_enter Tryz.func50, Tryz.ntmps50
  go_wp2_with fail
  refine HO.out.mono ?_
  rintro _ w1 ⟨rfl, rfl⟩
  clear HO
  go_upto_region 5 with fail
  go_loopw [3, 4] (fun v i wr => ∃ j : Nat, j ≤ ns ∧ i = .int .i64 j ∧ New w wr ∧ wr.ownsRow w.heap.size 9 1 v j (((List.range j).map (seeR S A W)).map strV)) (fun _ i _ => ns - (intOf i).toNat)
  case atStart => exact ⟨0, Nat.zero_le _, rfl, Below.refl _ _, World.ownsRow_nil _ _ _ _⟩
  case round =>
    obtain ⟨j, hj, rfl, hnew, hown⟩ := hrel
    obtain ⟨av, cv, rfl, hcv, -⟩ := ownSl_form hown
    have HN := Lib.hid hnew
    have HOw := Lib.hid hown
    have HAr := Lib.hid (HAt.out.new hnew)
    clear hnew hown
    obtain ⟨c0, -, -, -⟩ := HAr.out.cells
    by_cases hlt : j < ns
    · have hli : (j : Int) < (ns : Int) := by omega
      have HSee := Lib.hid (rdkSee (HH.out.new HN.out) j (by rw [HNS.out]; exact hlt))
      obtain ⟨i0, hi0, hz0, hz1, hz2⟩ := info_parts infoStr
      obtain ⟨v', wa, happ, hown', hO', -, -⟩ := run_append_u (P := Tryz.prog) w.heap.size wr 28 28 9 i0 _ 16 Tryz.underlying28 hi0 hz0 hz1 hz2 rfl _ j _ HOw.out (.string (bstr (seeR S A W j))) rfl (by omega) (by omega) HN.out.size
      have HAPP := Lib.hid happ
      have HOWN : Hid (wa.ownsRow w.heap.size 9 1 v' (j + 1) (((List.range (j + 1)).map (seeR S A W)).map strV)) := by
        refine Lib.hid ?_
        rw [List.range_succ, List.map_append, List.map_append]
        exact hown'
      have HN2 : Hid (New w wa) := Lib.hid (Below.trans HN.out (hO'.below HN.out.size (fun k hk => own_from HOw.out k hk)))
      generalize bstr (seeR S A W j) = X at *
      clear happ hown' hO' hi0 hz0 hz1 hz2
      go_wp2_with fail
      refine HSee.out.mono ?_
      rintro _ w2 ⟨rfl, rfl⟩
      go_wp2_with (at_builtin; refine wpList_app1 rfl _ _ 28 rfl _ _ rfl rfl HAPP.out ?_)
      go_roundw
      case rel => exact ⟨j + 1, by omega, by go_num, HN2.out, HOWN.out⟩
      case measure => simp [intOf]; omega
    · obtain rfl : j = ns := by omega
      obtain ⟨-, c1, c2, c3⟩ := HAr.out.cells
      obtain ⟨f0, f1, f2, f3⟩ := HAr.out.frozen
      have HF : Hid (RDkTo w b0 g (flushR S A W) [] [] (.returned (.int .i64 0)) (((wr.setCell ⟨g, 0, none⟩ (.slice av j cv)).setCell ⟨g, 1, none⟩ (.slice none 0 0)).setCell ⟨g, 2, none⟩ (.slice none 0 0))) := by
        have ho : Only (fun k => k = g) wr (((wr.setCell ⟨g, 0, none⟩ (.slice av j cv)).setCell ⟨g, 1, none⟩ (.slice none 0 0)).setCell ⟨g, 2, none⟩ (.slice none 0 0)) := ((only_cell wr g 0 _).trans (only_cell _ g 1 _) (fun _ _ h => h)).trans (only_cell _ g 2 _) (fun _ _ h => h)
        have hgl : g < w.heap.size := HH.out.at_.lt
        have hfl : (flushR S A W).length = j := by unfold flushR; rw [List.length_map, List.length_range, HNS.out]
        refine Lib.hid ⟨rfl, ⟨.slice av j cv, .slice none 0 0, .slice none 0 0, ?_⟩, (New.only (F := fun k => k = g) HN.out).trans ho (fun _ _ h => h)⟩
        refine ⟨((HAr.out.set0 _).set1 _).set2 _, ?_, World.ownsRow_nil _ _ _ _, World.ownsRow_nil _ _ _ _, ?_, (fun s hs => (by cases hs)), rfl, HH.out.ge, ?_⟩
        · rw [hfl]
          have h1 := HOw.out
          have h2 : ((flushR S A W).map strV) = (((List.range j).map (seeR S A W)).map strV) := by unfold flushR; rw [HNS.out]
          rw [h2]
          have h3 := own_moreT h1 (w' := ((wr.setCell ⟨g, 0, none⟩ (.slice av j cv)).setCell ⟨g, 1, none⟩ (.slice none 0 0)).setCell ⟨g, 2, none⟩ (.slice none 0 0)) (fun k hk hlt => ho.block k hlt (by have := own_from h1 k hk; omega))
          exact own_low h3 HB.out
        · intro s hs
          unfold flushR at hs
          obtain ⟨i, hi, rfl⟩ := List.mem_map.1 hs
          exact seeR_length HH.out.lS HH.out.lW HH.out.AW (by simpa using hi)
        · rw [hfl]; exact ⟨hf, by simp⟩
      go_wp2
      go_ret
      exact HF.out
theorem infoInt15 : (Tryz.prog.info? 3).map (fun i => (i.zero, i.size, i.bytes)) = some (some (.int .i64 0), 1, 8) := by kernel_rfl

def atsR (a j : Nat) : List Int := (List.range j).map (fun k => ((a + k : Nat) : Int))
theorem atsR_succ (a j : Nat) : atsR a (j + 1) = atsR a j ++ [((a + j : Nat) : Int)] := by simp [atsR, List.range_succ]
theorem atsR_length (a j : Nat) : (atsR a j).length = j := by simp [atsR]

theorem one_int (l : List Int) : ∀ u ∈ l.map (Value.int .i64), u.oneCell' = true := by
  intro u hu; obtain ⟨x, -, rfl⟩ := List.mem_map.1 hu; rfl
theorem one_str (l : List (List UInt8)) : ∀ u ∈ l.map strV, u.oneCell' = true := by
  intro u hu; obtain ⟨x, -, rfl⟩ := List.mem_map.1 hu; rfl

/-- append(append(e, w...), x) where e's row is a new one of nothing -/
theorem app_pair {P : Program} (wx : World) (base : Nat) (t ty e : TypeId) (i : TypeInfo) (z : Value) (bytes : Nat) (ht : P.underlying t = some (.slice e)) (hi : P.info? e = some i) (hz : i.zero = some z)
    (hsize : i.size = 1) (hby : i.bytes = bytes) (hzs : z.cells.size = 1) (ve vx vw : Value) (u : Value) (vs : List Value) (he : wx.ownsRow base e 1 ve 0 []) (hw : RdV wx vw vs) (hvs : ∀ u ∈ vs, u.oneCell' = true) (hx : RdV wx vx [u]) (hu : u.oneCell' = true)
    (hne : ∀ k, blk vx = some k → blk ve ≠ some k) (hb : (vs.length + 1) * bytes ≤ 140737488355328) (hn : vs.length + 1 ≤ 140737488355328) (hbase : base ≤ wx.heap.size) :
    ∃ v1 wa v2 wb, (Builtin.append_ #[t, t] ty #[ve, vw]).run P wx = .ok v1 wa ∧ (Builtin.append_ #[t, t] ty #[v1, vx]).run P wa = .ok v2 wb ∧ wb.ownsRow base e 1 v2 (vs.length + 1) (vs ++ [u]) ∧ Below base wx wb := by
  have hb' : (0 + vs.length) * bytes ≤ 140737488355328 := by
    rw [Nat.zero_add]; exact Nat.le_trans (Nat.mul_le_mul_right _ (Nat.le_succ _)) hb
  obtain ⟨v1, wa, h1, h2, h3, h4⟩ := run_append_any (P := P) wx base t ty e i z bytes ht hi hz hsize hby hzs ve 0 [] he vw vs hw hvs hb' (by omega) hbase
  rw [Nat.zero_add, List.nil_append] at h2
  have hx' : RdV wa vx [u] := hx.only h3 (fun k hk _ h => hne k hk h)
  obtain ⟨v2, wb, k1, k2, k3, -⟩ := run_append_any (P := P) wa base t ty e i z bytes ht hi hz hsize hby hzs v1 vs.length vs h2 vx [u] hx' (by simpa using hu) (by simpa using hb) (by simpa using hn) (Nat.le_trans hbase h3.size)
  refine ⟨v1, wa, v2, wb, h1, k1, k2, ?_⟩
  exact Below.trans (h3.below hbase (fun k hk => own_from he k hk)) (k3.below (Nat.le_trans hbase h3.size) (fun k hk => own_from h2 k hk))

theorem app_then {P : Program} (wx : World) (base : Nat) (t ty e : TypeId) (i : TypeInfo) (z : Value) (bytes : Nat) (ht : P.underlying t = some (.slice e)) (hi : P.info? e = some i) (hz : i.zero = some z)
    (hsize : i.size = 1) (hby : i.bytes = bytes) (hzs : z.cells.size = 1) (ve vw : Value) (u : Value) (vs : List Value) (he : wx.ownsRow base e 1 ve 0 []) (hw : RdV wx vw vs) (hvs : ∀ u ∈ vs, u.oneCell' = true) (hu : u.oneCell' = true)
    (hb : (vs.length + 1) * bytes ≤ 140737488355328) (hn : vs.length + 1 ≤ 140737488355328) (hbase : base ≤ wx.heap.size) :
    ∃ v1 wa v2 wb, (Builtin.append_ #[t, t] ty #[ve, vw]).run P wx = .ok v1 wa ∧ (Builtin.append_ #[t, t] ty #[v1, .slice (some ⟨wa.heap.size, 0, none⟩) 1 1]).run P (wa.alloc (.cells #[u] e)) = .ok v2 wb ∧ wb.ownsRow base e 1 v2 (vs.length + 1) (vs ++ [u]) ∧ Below base wx wb := by
  have hb' : (0 + vs.length) * bytes ≤ 140737488355328 := by
    rw [Nat.zero_add]; exact Nat.le_trans (Nat.mul_le_mul_right _ (Nat.le_succ _)) hb
  obtain ⟨v1, wa, h1, h2, h3, h4⟩ := run_append_any (P := P) wx base t ty e i z bytes ht hi hz hsize hby hzs ve 0 [] he vw vs hw hvs hb' (by omega) hbase
  rw [Nat.zero_add, List.nil_append] at h2
  obtain ⟨v2, wb, k1, k2, k3, -, -⟩ := run_append_u (P := P) base wa t ty e i z bytes ht hi hz hsize hby hzs v1 vs.length vs h2 u hu hb hn (Nat.le_trans hbase h3.size)
  refine ⟨v1, wa, v2, wb, h1, k1, k2, ?_⟩
  exact Below.trans (h3.below hbase (fun k hk => own_from he k hk)) (k3.below (Nat.le_trans hbase h3.size) (fun k hk => own_from h2 k hk))

/-- between the two stores of a sector's write -/
structure RMid (w : World) (b0 g : Nat) (vS vA vW : Value) (S : List (List UInt8)) (A : List Int) (W : List (List UInt8)) : Prop where
  at_ : At4 w g 88 vS vA vW (.int .i64 (-1))
  oS : w.ownsRow b0 9 1 vS S.length (S.map strV)
  oA : w.ownsRow b0 3 1 vA A.length (A.map (Value.int .i64))
  oW : w.ownsRow b0 9 1 vW W.length (W.map strV)

theorem RMid.new {w w' : World} {b0 g : Nat} {vS vA vW : Value} {S : List (List UInt8)} {A : List Int} {W : List (List UInt8)} (h : RMid w b0 g vS vA vW S A W) (hn : New w w') : RMid w' b0 g vS vA vW S A W :=
  ⟨h.at_.new hn, own_more h.oS hn, own_more h.oA hn, own_more h.oW hn⟩

/-- a row written into a field -/
theorem own_field {w : World} {b0 g o : Nat} {e : TypeId} {v u : Value} {n : Nat} {xs : List Value} {c : Array Value} (h : w.ownsRow b0 e 1 v n xs) (hg : w.heap[g]? = some (.cells c 88 (0, 0))) (he : e ≠ 88) : (w.setCell ⟨g, o, none⟩ u).ownsRow b0 e 1 v n xs :=
  own_moreT h (fun k hk hlt => heap_setCell_other _ _ _ _ (fun e' => own_neT h hg he (by rw [hk, e'])))

set_option maxRecDepth 100000 in
set_option maxHeartbeats 4000000 in
theorem rdkWrite {w : World} {b0 g : Nat} {vS vA vW : Value} {S : List (List UInt8)} {A : List Int} {W : List (List UInt8)} (h : RDk (-1) w b0 g vS vA vW S A W) (hb : b0 ≤ w.heap.size) (a m : Nat) (l : List UInt8) (hl : l.length = 128 * m) (ha : a + m ≤ S.length) (hA : A.length + m ≤ 100000) :
    Calls Tryz.prog 49 #[.pointer (some ⟨g, 0, none⟩), .int .i64 (a : Int), .string (bstr l)] w (RDkTo w b0 g S (A ++ atsR a m) (W ++ secL l m)) := by
  have HT := Lib.hid (rdkThere h a m ha)
  have HO := Lib.hid (rdkOn h)
  have HH := Lib.hid h
  have HB := Lib.hid hb
  have hf := h.few.1
  obtain ⟨nb, hnb⟩ : ∃ nb, l.length = nb := ⟨_, rfl⟩
  have hz : (bstr l).size = nb := by rw [bstr_size]; exact hnb
  have HM : Hid (nb = 128 * m ∧ l.length = nb ∧ a + m ≤ 100000 ∧ A.length + m ≤ 100000) := Lib.hid ⟨by omega, hnb, by omega, hA⟩
  have hmb : nb ≤ 12800000 := by omega
  have d1 : (nb : Int).tmod 128 = 0 := by rw [Int.tmod_eq_emod_of_nonneg (by omega)]; omega
  have d2 : (nb : Int) % 128 = 0 := by omega
  have d3 : (nb : Int).tdiv 128 = (m : Int) := by rw [Int.tdiv_eq_ediv_of_nonneg (by omega)]; omega
  have d4 : (nb : Int) / 128 = (m : Int) := by omega
  have ham : a + m ≤ 100000 := by omega
  clear h hb hl hnb ha hA
  go_enter Tryz.func49, Tryz.ntmps49
  go_wp2_with fail
  refine HT.out.mono ?_
  rintro _ w1 ⟨rfl, rfl⟩
  go_wp2_with fail
  refine HO.out.mono ?_
  rintro _ w1 ⟨rfl, rfl⟩
  clear HT HO d1 d2 d3 d4
  go_upto_region 8 with fail
  go_loopw [7] (fun i wr => ∃ (j : Nat) (vS vA vW : Value), j ≤ m ∧ i = .int .i64 ((128 * j : Nat) : Int) ∧ RDk (-1) wr b0 g vS vA vW S (A ++ atsR a j) (W ++ secL l j) ∧ Only (fun k => k = g) w wr) (fun i _ => 128 * m - (intOf i).toNat)
  case atStart => exact ⟨0, _, _, _, Nat.zero_le _, rfl, by simpa [atsR, secL] using HH.out, Only.refl _ _⟩
  case round =>
    obtain ⟨j, vS, vA, vW, hj, rfl, hin, ho⟩ := hrel
    obtain ⟨aS, cS, rfl, -, -⟩ := ownSl_form hin.oS
    obtain ⟨aA, cA, rfl, -, -⟩ := ownSl_form hin.oA
    obtain ⟨aW, cW, rfl, -, -⟩ := ownSl_form hin.oW
    obtain ⟨nA, HNA⟩ : ∃ nA, Hid ((A ++ atsR a j).length = nA) := ⟨_, Lib.hid rfl⟩
    obtain ⟨nW, HNW⟩ : ∃ nW, Hid ((W ++ secL l j).length = nW) := ⟨_, Lib.hid rfl⟩
    rw [HNA.out, HNW.out] at hin
    have HIr := Lib.hid hin
    have HOr := Lib.hid ho
    clear hin ho HH
    have HAWn : Hid (nA = nW ∧ nA + 1 ≤ 100000 ∨ m ≤ j) := Lib.hid (by
      have h1 := HIr.out.AW
      rw [HNA.out, HNW.out] at h1
      have h2 : nA = A.length + j := by rw [← HNA.out, List.length_append, atsR_length]
      have := HM.out.2.2.2
      by_cases hx : m ≤ j
      · exact .inr hx
      · exact .inl ⟨h1, by omega⟩)
    obtain ⟨p, hp⟩ : ∃ p, 128 * j = p := ⟨_, rfl⟩
    rw [hp]
    have HJ := Lib.hid hp
    by_cases hlt : j < m
    · obtain ⟨hAWe, hAb⟩ := HAWn.out.resolve_right (by omega)
      subst hAWe
      have hli : (p : Int) + 128 ≤ (nb : Int) := by have := HM.out.1; omega
      have HT : Hid ((sec l j).length = 128) := Lib.hid (sec_length (by have := HM.out; omega))
      obtain ⟨t, Ht⟩ : ∃ t, Hid (sec l j = t) := ⟨_, Lib.hid rfl⟩
      rw [Ht.out] at HT
      obtain ⟨p4, hp4⟩ : ∃ p4, p + 128 = p4 := ⟨_, rfl⟩
      have hx : (bstr l).extract p p4 = bstr t := by
        rw [bstr_cut, ← Ht.out]
        unfold sec
        rw [show p4 - p = 128 by omega, hp]
      have hpb : p ≤ 12800000 := by omega
      have hwr : IntKind.i64.wrap ((p : Int) + 128) = (p4 : Int) := by rw [IntWalk.i64_in _ (by omega)]; omega
      have hi1 : (p : Int) ≤ (p4 : Int) := by omega
      have hi2 : (p4 : Int) ≤ (nb : Int) := by omega
      have hpd1 : (p : Int).tdiv 128 = (j : Int) := by rw [Int.tdiv_eq_ediv_of_nonneg (by omega)]; omega
      have hpd2 : (p : Int) / 128 = (j : Int) := by omega
      have HP4 := Lib.hid hp4
      clear hp hp4
      have HAT1 : Hid (RMid wr b0 g (.slice aS S.length cS) (.slice aA nA cA) (.slice aW nA cW) S (A ++ atsR a j) (W ++ secL l j)) := Lib.hid ⟨HIr.out.at_, HIr.out.oS, HIr.out.oA, HIr.out.oW⟩
      have ME : New wr (wr.alloc (.cells #[] 3)) := (Below.refl _ _).alloc (Nat.le_refl _) _
      have HATE := Lib.hid (HAT1.out.new ME)
      obtain ⟨i0, hi0, hz0, hz1, hz2⟩ := info_parts infoInt15
      obtain ⟨v1, wa1, v2, wb1, ha1, ha2, hown2, hbel⟩ := app_then (P := Tryz.prog) (wr.alloc (.cells #[] 3)) wr.heap.size 23 23 3 i0 _ 8 Tryz.underlying23 hi0 hz0 hz1 hz2 rfl (.slice (some ⟨wr.heap.size, 0, none⟩) 0 0) (.slice aA nA cA) (.int .i64 ((a : Int) + (j : Int))) ((A ++ atsR a j).map (Value.int .i64)) (own_empty wr _ _ (Nat.le_refl _)) (RdV.of_own HATE.out.oA) (one_int _) rfl (by rw [List.length_map, HNA.out]; omega) (by rw [List.length_map, HNA.out]; omega) ME.size
      obtain ⟨va, vc, hv2, -, -⟩ := ownSl_form hown2
      obtain ⟨vn, Hvn⟩ : ∃ vn, Hid ((((A ++ atsR a j).map (Value.int .i64)).length + 1) = vn) := ⟨_, Lib.hid rfl⟩
      rw [Hvn.out] at hv2
      subst hv2
      have HX1 := Lib.hid ha1
      have HX2 := Lib.hid ha2
      have HNb : Hid (New wr wb1) := Lib.hid (Below.trans ME hbel)
      have HATb := Lib.hid (HAT1.out.new HNb.out)
      have HMid : Hid (RMid (wb1.setCell ⟨g, 1, none⟩ (.slice va vn vc)) b0 g (.slice aS S.length cS) (.slice va vn vc) (.slice aW nA cW) S (A ++ atsR a (j + 1)) (W ++ secL l j)) := by
        have hbk := HATb.out.at_
        refine Lib.hid ⟨hbk.set1 _, own_field HATb.out.oS hbk (by decide), ?_, own_field HATb.out.oW hbk (by decide)⟩
        have hb1 : b0 ≤ wr.heap.size := Nat.le_trans HB.out HOr.out.size
        have h1 := own_low (own_field (o := 1) (u := .slice va vn vc) hown2 hbk (by decide)) hb1
        rw [List.length_map] at h1
        rw [atsR_succ, ← List.append_assoc, List.length_append, List.map_append]
        exact h1
      have HO4 : Hid (Only (fun k => k = g) w (wb1.setCell ⟨g, 1, none⟩ (.slice va vn vc))) := Lib.hid ((HOr.out.trans (New.only (F := fun k => k = g) HNb.out) (fun _ _ h => h)).trans (only_cell wb1 g 1 (.slice va vn vc)) (fun _ _ h => h))
      obtain ⟨-, c1, -, -⟩ := HATE.out.at_.cells
      obtain ⟨-, y1, -, -⟩ := HATb.out.at_.cells
      obtain ⟨-, f1, -, -⟩ := HATb.out.at_.frozen
      clear ha1 ha2 hown2 hbel ME hi0 hz0 hz1 hz2
      go_upto_region 11 with (at_builtin; first | refine wpList_app1 rfl _ _ 23 rfl _ _ rfl rfl HX1.out ?_ | refine wpList_app1 rfl _ _ 23 rfl _ _ rfl rfl HX2.out ?_)
      clear c1 y1 f1 HX1 HX2 HATE HATb HAT1 HNb hpd1 hpd2
      generalize wb1.setCell ⟨g, 1, none⟩ (.slice va vn vc) = w4 at *
      refine region_ord3 (fun _ => True) (.take 0 (.take 2 (.take 3 (.take 4 (.take 7 (.take 8 (.take 9 (.take 10 (.take 11 (.three 1 5 12 (.two 5 12 (.two 6 12 (.only 12 (.only 13 (.take 14 (.take 15 (.only 16 .nil))))) (.only 6 (.only 13 (.take 14 (.take 15 (.only 16 .nil)))))) (.only 5 (.only 6 (.only 13 (.take 14 (.take 15 (.only 16 .nil))))))) (.two 1 12 (.two 6 12 (.only 12 (.only 13 (.take 14 (.take 15 (.only 16 .nil))))) (.only 6 (.only 13 (.take 14 (.take 15 (.only 16 .nil)))))) (.only 1 (.only 6 (.only 13 (.take 14 (.take 15 (.only 16 .nil))))))) (.two 1 5 (.only 5 (.only 6 (.only 13 (.take 14 (.take 15 (.only 16 .nil)))))) (.only 1 (.only 6 (.only 13 (.take 14 (.take 15 (.only 16 .nil))))))))))))))))) (by kernel_rfl) (by kernel_rfl) trivial (fun _ => ?_)
      replace HMid : Hid (RMid w4.drew b0 g (.slice aS S.length cS) (.slice va vn vc) (.slice aW nA cW) S (A ++ atsR a (j + 1)) (W ++ secL l j)) := Lib.hid (HMid.out.new (show New w4 w4.drew from (Below.refl _ _).drew))
      replace HO4 : Hid (Only (fun k => k = g) w w4.drew) := Lib.hid HO4.out.drew
      generalize w4.drew = wd at *
      have hbd : b0 ≤ wd.heap.size := Nat.le_trans HB.out HO4.out.size
      have NE : New wd (wd.alloc (.cells #[] 9)) := (Below.refl _ _).alloc (Nat.le_refl _) _
      have NX : New wd (wd.alloc (.cells #[.string (bstr t)] 9)) := (Below.refl _ _).alloc (Nat.le_refl _) _
      have NEX : New wd ((wd.alloc (.cells #[] 9)).alloc (.cells #[.string (bstr t)] 9)) := New.trans NE ((Below.refl _ _).alloc (Nat.le_refl _) _)
      have NXE : New wd ((wd.alloc (.cells #[.string (bstr t)] 9)).alloc (.cells #[] 9)) := New.trans NX ((Below.refl _ _).alloc (Nat.le_refl _) _)
      have HL0 := Lib.hid HMid.out.at_
      have HLE := Lib.hid (HMid.out.at_.new NE)
      have HLX := Lib.hid (HMid.out.at_.new NX)
      have HLEX := Lib.hid (HMid.out.at_.new NEX)
      have HLXE := Lib.hid (HMid.out.at_.new NXE)
      have hlenW : ((W ++ secL l j).map strV).length = nA := by rw [List.length_map, HNW.out]
      have hfin : ∀ (u2 : Value) (wb : World), New wd wb → wb.ownsRow wd.heap.size 9 1 u2 (((W ++ secL l j).map strV).length + 1) ((W ++ secL l j).map strV ++ [strV t]) →
          At4 wb g 88 (.slice aS S.length cS) (.slice va vn vc) (.slice aW nA cW) (.int .i64 (-1)) ∧ RDk (-1) (wb.setCell ⟨g, 2, none⟩ u2) b0 g (.slice aS S.length cS) (.slice va vn vc) u2 S (A ++ atsR a (j + 1)) (W ++ secL l (j + 1)) ∧ Only (fun k => k = g) w (wb.setCell ⟨g, 2, none⟩ u2) := by
        intro u2 wb hn hown
        have hm := HMid.out.new hn
        refine ⟨hm.at_, ⟨hm.at_.set2 _, own_field hm.oS hm.at_ (by decide), own_field hm.oA hm.at_ (by decide), ?_, HIr.out.lS, ?_, ?_, HIr.out.ge, HIr.out.few.1, ?_⟩, (HO4.out.trans (New.only (F := fun k => k = g) hn) (fun _ _ h => h)).trans (only_cell wb g 2 u2) (fun _ _ h => h)⟩
        · have h1 := own_low (own_field (o := 2) (u := u2) hown hm.at_ (by decide)) hbd
          rw [List.length_map] at h1
          rw [secL_succ, ← List.append_assoc, List.length_append, List.map_append, Ht.out]
          exact h1
        · intro s hs
          rw [secL_succ, ← List.append_assoc, Ht.out] at hs
          rcases List.mem_append.1 hs with hs | hs
          · exact HIr.out.lW s hs
          · rw [List.mem_singleton.1 hs]; exact HT.out
        · have h1 := HNA.out
          have h2 := HNW.out
          simp only [List.length_append, atsR_length, secL_length] at h1 h2 ⊢
          omega
        · rw [atsR_succ, ← List.append_assoc, List.length_append, HNA.out]
          exact hAb
      obtain ⟨i0, hi0, hz0, hz1, hz2⟩ := info_parts infoStr
      have hby : (((W ++ secL l j).map strV).length + 1) * 16 ≤ 140737488355328 := by rw [hlenW]; omega
      have hbn : ((W ++ secL l j).map strV).length + 1 ≤ 140737488355328 := by rw [hlenW]; omega
      obtain ⟨q1, wqa, q2, wqb, hq6, hq13, hqo, hqb⟩ := app_then (P := Tryz.prog) (wd.alloc (.cells #[] 9)) wd.heap.size 28 28 9 i0 _ 16 Tryz.underlying28 hi0 hz0 hz1 hz2 rfl (.slice (some ⟨wd.heap.size, 0, none⟩) 0 0) (.slice aW nA cW) (.string (bstr t)) ((W ++ secL l j).map strV) (own_empty wd _ _ (Nat.le_refl _)) (RdV.of_own (HMid.out.new NE).oW) (one_str _) rfl hby hbn NE.size
      obtain ⟨q2a, q2c, hq2, -, -⟩ := ownSl_form hqo
      obtain ⟨q2n, Hq2n⟩ : ∃ vn, Hid ((((W ++ secL l j).map strV).length + 1) = vn) := ⟨_, Lib.hid rfl⟩
      rw [Hq2n.out] at hq2
      subst hq2
      have H6a := Lib.hid hq6
      have H13a := Lib.hid hq13
      have HFa := Lib.hid (hfin _ wqb (Below.trans NE hqb) hqo)
      clear hq6 hq13 hqo hqb
      have hX1 : RdV ((wd.alloc (.cells #[] 9)).alloc (.cells #[.string (bstr t)] 9)) (.slice (some ⟨wd.heap.size + 1, 0, none⟩) 1 1) [.string (bstr t)] := by
        have h1 := RdV.made (wd.alloc (.cells #[] 9)) [.string (bstr t)] 9 (0, 0) (by simp)
        rw [show (wd.alloc (.cells #[] 9)).heap.size = wd.heap.size + 1 by simp] at h1
        exact h1
      have hE1 : ((wd.alloc (.cells #[] 9)).alloc (.cells #[.string (bstr t)] 9)).ownsRow wd.heap.size 9 1 (.slice (some ⟨wd.heap.size, 0, none⟩) 0 0) 0 [] := own_more (own_empty wd _ _ (Nat.le_refl _)) ((Below.refl _ _).alloc (Nat.le_refl _) _)
      obtain ⟨r1, wra, r2, wrb, hq6, hq13, hqo, hqb⟩ := app_pair (P := Tryz.prog) ((wd.alloc (.cells #[] 9)).alloc (.cells #[.string (bstr t)] 9)) wd.heap.size 28 28 9 i0 _ 16 Tryz.underlying28 hi0 hz0 hz1 hz2 rfl (.slice (some ⟨wd.heap.size, 0, none⟩) 0 0) (.slice (some ⟨wd.heap.size + 1, 0, none⟩) 1 1) (.slice aW nA cW) (.string (bstr t)) ((W ++ secL l j).map strV) hE1 (RdV.of_own (HMid.out.new NEX).oW) (one_str _) hX1 rfl (fun k hk e => by simp [blk] at hk e; omega) hby hbn NEX.size
      obtain ⟨r2a, r2c, hr2, -, -⟩ := ownSl_form hqo
      obtain ⟨r2n, Hr2n⟩ : ∃ vn, Hid ((((W ++ secL l j).map strV).length + 1) = vn) := ⟨_, Lib.hid rfl⟩
      rw [Hr2n.out] at hr2
      subst hr2
      have H6b := Lib.hid hq6
      have H13b := Lib.hid hq13
      have HFb := Lib.hid (hfin _ wrb (Below.trans NEX hqb) hqo)
      clear hq6 hq13 hqo hqb hX1 hE1
      have hE2 : ((wd.alloc (.cells #[.string (bstr t)] 9)).alloc (.cells #[] 9)).ownsRow wd.heap.size 9 1 (.slice (some ⟨wd.heap.size + 1, 0, none⟩) 0 0) 0 [] := by
        have h1 := own_empty (wd.alloc (.cells #[.string (bstr t)] 9)) wd.heap.size 9 (by simp)
        rw [show (wd.alloc (.cells #[.string (bstr t)] 9)).heap.size = wd.heap.size + 1 by simp] at h1
        exact h1
      have hX2 : RdV ((wd.alloc (.cells #[.string (bstr t)] 9)).alloc (.cells #[] 9)) (.slice (some ⟨wd.heap.size, 0, none⟩) 1 1) [.string (bstr t)] := (RdV.made wd [.string (bstr t)] 9 (0, 0) (by simp)).new ((Below.refl _ _).alloc (Nat.le_refl _) _)
      obtain ⟨s1, wsa, s2, wsb, hq6, hq13, hqo, hqb⟩ := app_pair (P := Tryz.prog) ((wd.alloc (.cells #[.string (bstr t)] 9)).alloc (.cells #[] 9)) wd.heap.size 28 28 9 i0 _ 16 Tryz.underlying28 hi0 hz0 hz1 hz2 rfl (.slice (some ⟨wd.heap.size + 1, 0, none⟩) 0 0) (.slice (some ⟨wd.heap.size, 0, none⟩) 1 1) (.slice aW nA cW) (.string (bstr t)) ((W ++ secL l j).map strV) hE2 (RdV.of_own (HMid.out.new NXE).oW) (one_str _) hX2 rfl (fun k hk e => by simp [blk] at hk e; omega) hby hbn NXE.size
      obtain ⟨s2a, s2c, hs2, -, -⟩ := ownSl_form hqo
      obtain ⟨s2n, Hs2n⟩ : ∃ vn, Hid ((((W ++ secL l j).map strV).length + 1) = vn) := ⟨_, Lib.hid rfl⟩
      rw [Hs2n.out] at hs2
      subst hs2
      have H6c := Lib.hid hq6
      have H13c := Lib.hid hq13
      have HFc := Lib.hid (hfin _ wsb (Below.trans NXE hqb) hqo)
      clear hq6 hq13 hqo hqb hX2 hE2 hfin hby hbn hlenW NE NX NEX NXE hi0 hz0 hz1 hz2 hbd HMid HO4 HIr HOr
      iterate 9 (apply ord3_take; (simp only [List.getElem?_toArray, List.getElem?_cons_succ, List.getElem?_cons_zero]; rfl); rfl; (intro w hSw; (try dsimp only at hSw); go_simp; try with_reducible rfl); intro _; try simp only [Act.put, List.setIfInBounds_toArray, List.set_cons_zero, List.set_cons_succ])
      (apply ord3_three; (simp only [List.getElem?_toArray, List.getElem?_cons_succ, List.getElem?_cons_zero]; rfl); rfl; (simp only [List.getElem?_toArray, List.getElem?_cons_succ, List.getElem?_cons_zero]; rfl); rfl; (simp only [List.getElem?_toArray, List.getElem?_cons_succ, List.getElem?_cons_zero]; rfl); rfl)
      · intro K hK
        go_simp
        refine hK.out _ _ (trivial) (fun _ => ?_)
        clear hK K
        try simp only [Act.put, List.setIfInBounds_toArray, List.set_cons_zero, List.set_cons_succ]
        (apply ord3_two; (simp only [List.getElem?_toArray, List.getElem?_cons_succ, List.getElem?_cons_zero]; rfl); rfl; (simp only [List.getElem?_toArray, List.getElem?_cons_succ, List.getElem?_cons_zero]; rfl); rfl)
        · intro K hK
          have HL := HLE
          obtain ⟨-, -, c2, -⟩ := HL.out.cells
          go_simp
          clear c2
          refine hK.out _ _ (trivial) (fun _ => ?_)
          clear hK K
          try simp only [Act.put, List.setIfInBounds_toArray, List.set_cons_zero, List.set_cons_succ]
          (apply ord3_two; (simp only [List.getElem?_toArray, List.getElem?_cons_succ, List.getElem?_cons_zero]; rfl); rfl; (simp only [List.getElem?_toArray, List.getElem?_cons_succ, List.getElem?_cons_zero]; rfl); rfl)
          · intro K hK
            have HX6 := H6a
            refine oper_append _ _ 28 rfl _ _ rfl rfl HX6.out ?_
            refine hK.out _ _ (trivial) (fun _ => ?_)
            clear hK K
            try simp only [Act.put, List.setIfInBounds_toArray, List.set_cons_zero, List.set_cons_succ]
            (apply ord3_only; (simp only [List.getElem?_toArray, List.getElem?_cons_succ, List.getElem?_cons_zero]; rfl); rfl; intro K hK)
            go_simp
            refine hK.out _ _ (trivial) (fun _ => ?_)
            clear hK K
            try simp only [Act.put, List.setIfInBounds_toArray, List.set_cons_zero, List.set_cons_succ]
            have HX13 := H13a
            have HFX := HFa
            (apply ord3_only; (simp only [List.getElem?_toArray, List.getElem?_cons_succ, List.getElem?_cons_zero]; rfl); rfl; intro K hK)
            refine oper_append _ _ 28 rfl _ _ rfl rfl HX13.out ?_
            refine hK.out _ _ (trivial) (fun _ => ?_)
            clear hK K
            try simp only [Act.put, List.setIfInBounds_toArray, List.set_cons_zero, List.set_cons_succ]
            iterate 2 (apply ord3_take; (simp only [List.getElem?_toArray, List.getElem?_cons_succ, List.getElem?_cons_zero]; rfl); rfl; (intro w hSw; (try dsimp only at hSw); go_simp; try with_reducible rfl); intro _; try simp only [Act.put, List.setIfInBounds_toArray, List.set_cons_zero, List.set_cons_succ])
            (apply ord3_only; (simp only [List.getElem?_toArray, List.getElem?_cons_succ, List.getElem?_cons_zero]; rfl); rfl; intro K hK)
            obtain ⟨f0, f1, f2, f3⟩ := HFX.out.1.frozen
            obtain ⟨y0, y1, y2, y3⟩ := HFX.out.1.cells
            go_simp
            refine hK.out _ _ (trivial) (fun _ => ?_)
            clear hK K
            try simp only [Act.put, List.setIfInBounds_toArray, List.set_cons_zero, List.set_cons_succ]
            apply ord3_done
            go_wp2
            go_roundw
            case rel => exact ⟨j + 1, _, _, _, by omega, by have hh := HJ.out; have h4 := HP4.out; congr 1; omega, HFX.out.2.1, HFX.out.2.2⟩
            case measure => have hh := HJ.out; have h4 := HP4.out; simp [intOf]; omega
          · intro K hK
            go_simp
            refine hK.out _ _ (trivial) (fun _ => ?_)
            clear hK K
            try simp only [Act.put, List.setIfInBounds_toArray, List.set_cons_zero, List.set_cons_succ]
            (apply ord3_only; (simp only [List.getElem?_toArray, List.getElem?_cons_succ, List.getElem?_cons_zero]; rfl); rfl; intro K hK)
            have HX6 := H6b
            refine oper_append _ _ 28 rfl _ _ rfl rfl HX6.out ?_
            refine hK.out _ _ (trivial) (fun _ => ?_)
            clear hK K
            try simp only [Act.put, List.setIfInBounds_toArray, List.set_cons_zero, List.set_cons_succ]
            have HX13 := H13b
            have HFX := HFb
            (apply ord3_only; (simp only [List.getElem?_toArray, List.getElem?_cons_succ, List.getElem?_cons_zero]; rfl); rfl; intro K hK)
            refine oper_append _ _ 28 rfl _ _ rfl rfl HX13.out ?_
            refine hK.out _ _ (trivial) (fun _ => ?_)
            clear hK K
            try simp only [Act.put, List.setIfInBounds_toArray, List.set_cons_zero, List.set_cons_succ]
            iterate 2 (apply ord3_take; (simp only [List.getElem?_toArray, List.getElem?_cons_succ, List.getElem?_cons_zero]; rfl); rfl; (intro w hSw; (try dsimp only at hSw); go_simp; try with_reducible rfl); intro _; try simp only [Act.put, List.setIfInBounds_toArray, List.set_cons_zero, List.set_cons_succ])
            (apply ord3_only; (simp only [List.getElem?_toArray, List.getElem?_cons_succ, List.getElem?_cons_zero]; rfl); rfl; intro K hK)
            obtain ⟨f0, f1, f2, f3⟩ := HFX.out.1.frozen
            obtain ⟨y0, y1, y2, y3⟩ := HFX.out.1.cells
            go_simp
            refine hK.out _ _ (trivial) (fun _ => ?_)
            clear hK K
            try simp only [Act.put, List.setIfInBounds_toArray, List.set_cons_zero, List.set_cons_succ]
            apply ord3_done
            go_wp2
            go_roundw
            case rel => exact ⟨j + 1, _, _, _, by omega, by have hh := HJ.out; have h4 := HP4.out; congr 1; omega, HFX.out.2.1, HFX.out.2.2⟩
            case measure => have hh := HJ.out; have h4 := HP4.out; simp [intOf]; omega
        · intro K hK
          go_simp
          refine hK.out _ _ (trivial) (fun _ => ?_)
          clear hK K
          try simp only [Act.put, List.setIfInBounds_toArray, List.set_cons_zero, List.set_cons_succ]
          (apply ord3_only; (simp only [List.getElem?_toArray, List.getElem?_cons_succ, List.getElem?_cons_zero]; rfl); rfl; intro K hK)
          have HL := HLEX
          obtain ⟨-, -, c2, -⟩ := HL.out.cells
          go_simp
          clear c2
          refine hK.out _ _ (trivial) (fun _ => ?_)
          clear hK K
          try simp only [Act.put, List.setIfInBounds_toArray, List.set_cons_zero, List.set_cons_succ]
          (apply ord3_only; (simp only [List.getElem?_toArray, List.getElem?_cons_succ, List.getElem?_cons_zero]; rfl); rfl; intro K hK)
          have HX6 := H6b
          refine oper_append _ _ 28 rfl _ _ rfl rfl HX6.out ?_
          refine hK.out _ _ (trivial) (fun _ => ?_)
          clear hK K
          try simp only [Act.put, List.setIfInBounds_toArray, List.set_cons_zero, List.set_cons_succ]
          have HX13 := H13b
          have HFX := HFb
          (apply ord3_only; (simp only [List.getElem?_toArray, List.getElem?_cons_succ, List.getElem?_cons_zero]; rfl); rfl; intro K hK)
          refine oper_append _ _ 28 rfl _ _ rfl rfl HX13.out ?_
          refine hK.out _ _ (trivial) (fun _ => ?_)
          clear hK K
          try simp only [Act.put, List.setIfInBounds_toArray, List.set_cons_zero, List.set_cons_succ]
          iterate 2 (apply ord3_take; (simp only [List.getElem?_toArray, List.getElem?_cons_succ, List.getElem?_cons_zero]; rfl); rfl; (intro w hSw; (try dsimp only at hSw); go_simp; try with_reducible rfl); intro _; try simp only [Act.put, List.setIfInBounds_toArray, List.set_cons_zero, List.set_cons_succ])
          (apply ord3_only; (simp only [List.getElem?_toArray, List.getElem?_cons_succ, List.getElem?_cons_zero]; rfl); rfl; intro K hK)
          obtain ⟨f0, f1, f2, f3⟩ := HFX.out.1.frozen
          obtain ⟨y0, y1, y2, y3⟩ := HFX.out.1.cells
          go_simp
          refine hK.out _ _ (trivial) (fun _ => ?_)
          clear hK K
          try simp only [Act.put, List.setIfInBounds_toArray, List.set_cons_zero, List.set_cons_succ]
          apply ord3_done
          go_wp2
          go_roundw
          case rel => exact ⟨j + 1, _, _, _, by omega, by have hh := HJ.out; have h4 := HP4.out; congr 1; omega, HFX.out.2.1, HFX.out.2.2⟩
          case measure => have hh := HJ.out; have h4 := HP4.out; simp [intOf]; omega
      · intro K hK
        have HL := HL0
        obtain ⟨-, -, c2, -⟩ := HL.out.cells
        go_simp
        clear c2
        refine hK.out _ _ (trivial) (fun _ => ?_)
        clear hK K
        try simp only [Act.put, List.setIfInBounds_toArray, List.set_cons_zero, List.set_cons_succ]
        (apply ord3_two; (simp only [List.getElem?_toArray, List.getElem?_cons_succ, List.getElem?_cons_zero]; rfl); rfl; (simp only [List.getElem?_toArray, List.getElem?_cons_succ, List.getElem?_cons_zero]; rfl); rfl)
        · intro K hK
          go_simp
          refine hK.out _ _ (trivial) (fun _ => ?_)
          clear hK K
          try simp only [Act.put, List.setIfInBounds_toArray, List.set_cons_zero, List.set_cons_succ]
          (apply ord3_two; (simp only [List.getElem?_toArray, List.getElem?_cons_succ, List.getElem?_cons_zero]; rfl); rfl; (simp only [List.getElem?_toArray, List.getElem?_cons_succ, List.getElem?_cons_zero]; rfl); rfl)
          · intro K hK
            have HX6 := H6a
            refine oper_append _ _ 28 rfl _ _ rfl rfl HX6.out ?_
            refine hK.out _ _ (trivial) (fun _ => ?_)
            clear hK K
            try simp only [Act.put, List.setIfInBounds_toArray, List.set_cons_zero, List.set_cons_succ]
            (apply ord3_only; (simp only [List.getElem?_toArray, List.getElem?_cons_succ, List.getElem?_cons_zero]; rfl); rfl; intro K hK)
            go_simp
            refine hK.out _ _ (trivial) (fun _ => ?_)
            clear hK K
            try simp only [Act.put, List.setIfInBounds_toArray, List.set_cons_zero, List.set_cons_succ]
            have HX13 := H13a
            have HFX := HFa
            (apply ord3_only; (simp only [List.getElem?_toArray, List.getElem?_cons_succ, List.getElem?_cons_zero]; rfl); rfl; intro K hK)
            refine oper_append _ _ 28 rfl _ _ rfl rfl HX13.out ?_
            refine hK.out _ _ (trivial) (fun _ => ?_)
            clear hK K
            try simp only [Act.put, List.setIfInBounds_toArray, List.set_cons_zero, List.set_cons_succ]
            iterate 2 (apply ord3_take; (simp only [List.getElem?_toArray, List.getElem?_cons_succ, List.getElem?_cons_zero]; rfl); rfl; (intro w hSw; (try dsimp only at hSw); go_simp; try with_reducible rfl); intro _; try simp only [Act.put, List.setIfInBounds_toArray, List.set_cons_zero, List.set_cons_succ])
            (apply ord3_only; (simp only [List.getElem?_toArray, List.getElem?_cons_succ, List.getElem?_cons_zero]; rfl); rfl; intro K hK)
            obtain ⟨f0, f1, f2, f3⟩ := HFX.out.1.frozen
            obtain ⟨y0, y1, y2, y3⟩ := HFX.out.1.cells
            go_simp
            refine hK.out _ _ (trivial) (fun _ => ?_)
            clear hK K
            try simp only [Act.put, List.setIfInBounds_toArray, List.set_cons_zero, List.set_cons_succ]
            apply ord3_done
            go_wp2
            go_roundw
            case rel => exact ⟨j + 1, _, _, _, by omega, by have hh := HJ.out; have h4 := HP4.out; congr 1; omega, HFX.out.2.1, HFX.out.2.2⟩
            case measure => have hh := HJ.out; have h4 := HP4.out; simp [intOf]; omega
          · intro K hK
            go_simp
            refine hK.out _ _ (trivial) (fun _ => ?_)
            clear hK K
            try simp only [Act.put, List.setIfInBounds_toArray, List.set_cons_zero, List.set_cons_succ]
            (apply ord3_only; (simp only [List.getElem?_toArray, List.getElem?_cons_succ, List.getElem?_cons_zero]; rfl); rfl; intro K hK)
            have HX6 := H6b
            refine oper_append _ _ 28 rfl _ _ rfl rfl HX6.out ?_
            refine hK.out _ _ (trivial) (fun _ => ?_)
            clear hK K
            try simp only [Act.put, List.setIfInBounds_toArray, List.set_cons_zero, List.set_cons_succ]
            have HX13 := H13b
            have HFX := HFb
            (apply ord3_only; (simp only [List.getElem?_toArray, List.getElem?_cons_succ, List.getElem?_cons_zero]; rfl); rfl; intro K hK)
            refine oper_append _ _ 28 rfl _ _ rfl rfl HX13.out ?_
            refine hK.out _ _ (trivial) (fun _ => ?_)
            clear hK K
            try simp only [Act.put, List.setIfInBounds_toArray, List.set_cons_zero, List.set_cons_succ]
            iterate 2 (apply ord3_take; (simp only [List.getElem?_toArray, List.getElem?_cons_succ, List.getElem?_cons_zero]; rfl); rfl; (intro w hSw; (try dsimp only at hSw); go_simp; try with_reducible rfl); intro _; try simp only [Act.put, List.setIfInBounds_toArray, List.set_cons_zero, List.set_cons_succ])
            (apply ord3_only; (simp only [List.getElem?_toArray, List.getElem?_cons_succ, List.getElem?_cons_zero]; rfl); rfl; intro K hK)
            obtain ⟨f0, f1, f2, f3⟩ := HFX.out.1.frozen
            obtain ⟨y0, y1, y2, y3⟩ := HFX.out.1.cells
            go_simp
            refine hK.out _ _ (trivial) (fun _ => ?_)
            clear hK K
            try simp only [Act.put, List.setIfInBounds_toArray, List.set_cons_zero, List.set_cons_succ]
            apply ord3_done
            go_wp2
            go_roundw
            case rel => exact ⟨j + 1, _, _, _, by omega, by have hh := HJ.out; have h4 := HP4.out; congr 1; omega, HFX.out.2.1, HFX.out.2.2⟩
            case measure => have hh := HJ.out; have h4 := HP4.out; simp [intOf]; omega
        · intro K hK
          go_simp
          refine hK.out _ _ (trivial) (fun _ => ?_)
          clear hK K
          try simp only [Act.put, List.setIfInBounds_toArray, List.set_cons_zero, List.set_cons_succ]
          (apply ord3_only; (simp only [List.getElem?_toArray, List.getElem?_cons_succ, List.getElem?_cons_zero]; rfl); rfl; intro K hK)
          go_simp
          refine hK.out _ _ (trivial) (fun _ => ?_)
          clear hK K
          try simp only [Act.put, List.setIfInBounds_toArray, List.set_cons_zero, List.set_cons_succ]
          (apply ord3_only; (simp only [List.getElem?_toArray, List.getElem?_cons_succ, List.getElem?_cons_zero]; rfl); rfl; intro K hK)
          have HX6 := H6c
          refine oper_append _ _ 28 rfl _ _ rfl rfl HX6.out ?_
          refine hK.out _ _ (trivial) (fun _ => ?_)
          clear hK K
          try simp only [Act.put, List.setIfInBounds_toArray, List.set_cons_zero, List.set_cons_succ]
          have HX13 := H13c
          have HFX := HFc
          (apply ord3_only; (simp only [List.getElem?_toArray, List.getElem?_cons_succ, List.getElem?_cons_zero]; rfl); rfl; intro K hK)
          refine oper_append _ _ 28 rfl _ _ rfl rfl HX13.out ?_
          refine hK.out _ _ (trivial) (fun _ => ?_)
          clear hK K
          try simp only [Act.put, List.setIfInBounds_toArray, List.set_cons_zero, List.set_cons_succ]
          iterate 2 (apply ord3_take; (simp only [List.getElem?_toArray, List.getElem?_cons_succ, List.getElem?_cons_zero]; rfl); rfl; (intro w hSw; (try dsimp only at hSw); go_simp; try with_reducible rfl); intro _; try simp only [Act.put, List.setIfInBounds_toArray, List.set_cons_zero, List.set_cons_succ])
          (apply ord3_only; (simp only [List.getElem?_toArray, List.getElem?_cons_succ, List.getElem?_cons_zero]; rfl); rfl; intro K hK)
          obtain ⟨f0, f1, f2, f3⟩ := HFX.out.1.frozen
          obtain ⟨y0, y1, y2, y3⟩ := HFX.out.1.cells
          go_simp
          refine hK.out _ _ (trivial) (fun _ => ?_)
          clear hK K
          try simp only [Act.put, List.setIfInBounds_toArray, List.set_cons_zero, List.set_cons_succ]
          apply ord3_done
          go_wp2
          go_roundw
          case rel => exact ⟨j + 1, _, _, _, by omega, by have hh := HJ.out; have h4 := HP4.out; congr 1; omega, HFX.out.2.1, HFX.out.2.2⟩
          case measure => have hh := HJ.out; have h4 := HP4.out; simp [intOf]; omega
      · intro K hK
        go_simp
        refine hK.out _ _ (trivial) (fun _ => ?_)
        clear hK K
        try simp only [Act.put, List.setIfInBounds_toArray, List.set_cons_zero, List.set_cons_succ]
        (apply ord3_two; (simp only [List.getElem?_toArray, List.getElem?_cons_succ, List.getElem?_cons_zero]; rfl); rfl; (simp only [List.getElem?_toArray, List.getElem?_cons_succ, List.getElem?_cons_zero]; rfl); rfl)
        · intro K hK
          go_simp
          refine hK.out _ _ (trivial) (fun _ => ?_)
          clear hK K
          try simp only [Act.put, List.setIfInBounds_toArray, List.set_cons_zero, List.set_cons_succ]
          (apply ord3_only; (simp only [List.getElem?_toArray, List.getElem?_cons_succ, List.getElem?_cons_zero]; rfl); rfl; intro K hK)
          have HL := HLXE
          obtain ⟨-, -, c2, -⟩ := HL.out.cells
          go_simp
          clear c2
          refine hK.out _ _ (trivial) (fun _ => ?_)
          clear hK K
          try simp only [Act.put, List.setIfInBounds_toArray, List.set_cons_zero, List.set_cons_succ]
          (apply ord3_only; (simp only [List.getElem?_toArray, List.getElem?_cons_succ, List.getElem?_cons_zero]; rfl); rfl; intro K hK)
          have HX6 := H6c
          refine oper_append _ _ 28 rfl _ _ rfl rfl HX6.out ?_
          refine hK.out _ _ (trivial) (fun _ => ?_)
          clear hK K
          try simp only [Act.put, List.setIfInBounds_toArray, List.set_cons_zero, List.set_cons_succ]
          have HX13 := H13c
          have HFX := HFc
          (apply ord3_only; (simp only [List.getElem?_toArray, List.getElem?_cons_succ, List.getElem?_cons_zero]; rfl); rfl; intro K hK)
          refine oper_append _ _ 28 rfl _ _ rfl rfl HX13.out ?_
          refine hK.out _ _ (trivial) (fun _ => ?_)
          clear hK K
          try simp only [Act.put, List.setIfInBounds_toArray, List.set_cons_zero, List.set_cons_succ]
          iterate 2 (apply ord3_take; (simp only [List.getElem?_toArray, List.getElem?_cons_succ, List.getElem?_cons_zero]; rfl); rfl; (intro w hSw; (try dsimp only at hSw); go_simp; try with_reducible rfl); intro _; try simp only [Act.put, List.setIfInBounds_toArray, List.set_cons_zero, List.set_cons_succ])
          (apply ord3_only; (simp only [List.getElem?_toArray, List.getElem?_cons_succ, List.getElem?_cons_zero]; rfl); rfl; intro K hK)
          obtain ⟨f0, f1, f2, f3⟩ := HFX.out.1.frozen
          obtain ⟨y0, y1, y2, y3⟩ := HFX.out.1.cells
          go_simp
          refine hK.out _ _ (trivial) (fun _ => ?_)
          clear hK K
          try simp only [Act.put, List.setIfInBounds_toArray, List.set_cons_zero, List.set_cons_succ]
          apply ord3_done
          go_wp2
          go_roundw
          case rel => exact ⟨j + 1, _, _, _, by omega, by have hh := HJ.out; have h4 := HP4.out; congr 1; omega, HFX.out.2.1, HFX.out.2.2⟩
          case measure => have hh := HJ.out; have h4 := HP4.out; simp [intOf]; omega
        · intro K hK
          have HL := HLX
          obtain ⟨-, -, c2, -⟩ := HL.out.cells
          go_simp
          clear c2
          refine hK.out _ _ (trivial) (fun _ => ?_)
          clear hK K
          try simp only [Act.put, List.setIfInBounds_toArray, List.set_cons_zero, List.set_cons_succ]
          (apply ord3_only; (simp only [List.getElem?_toArray, List.getElem?_cons_succ, List.getElem?_cons_zero]; rfl); rfl; intro K hK)
          go_simp
          refine hK.out _ _ (trivial) (fun _ => ?_)
          clear hK K
          try simp only [Act.put, List.setIfInBounds_toArray, List.set_cons_zero, List.set_cons_succ]
          (apply ord3_only; (simp only [List.getElem?_toArray, List.getElem?_cons_succ, List.getElem?_cons_zero]; rfl); rfl; intro K hK)
          have HX6 := H6c
          refine oper_append _ _ 28 rfl _ _ rfl rfl HX6.out ?_
          refine hK.out _ _ (trivial) (fun _ => ?_)
          clear hK K
          try simp only [Act.put, List.setIfInBounds_toArray, List.set_cons_zero, List.set_cons_succ]
          have HX13 := H13c
          have HFX := HFc
          (apply ord3_only; (simp only [List.getElem?_toArray, List.getElem?_cons_succ, List.getElem?_cons_zero]; rfl); rfl; intro K hK)
          refine oper_append _ _ 28 rfl _ _ rfl rfl HX13.out ?_
          refine hK.out _ _ (trivial) (fun _ => ?_)
          clear hK K
          try simp only [Act.put, List.setIfInBounds_toArray, List.set_cons_zero, List.set_cons_succ]
          iterate 2 (apply ord3_take; (simp only [List.getElem?_toArray, List.getElem?_cons_succ, List.getElem?_cons_zero]; rfl); rfl; (intro w hSw; (try dsimp only at hSw); go_simp; try with_reducible rfl); intro _; try simp only [Act.put, List.setIfInBounds_toArray, List.set_cons_zero, List.set_cons_succ])
          (apply ord3_only; (simp only [List.getElem?_toArray, List.getElem?_cons_succ, List.getElem?_cons_zero]; rfl); rfl; intro K hK)
          obtain ⟨f0, f1, f2, f3⟩ := HFX.out.1.frozen
          obtain ⟨y0, y1, y2, y3⟩ := HFX.out.1.cells
          go_simp
          refine hK.out _ _ (trivial) (fun _ => ?_)
          clear hK K
          try simp only [Act.put, List.setIfInBounds_toArray, List.set_cons_zero, List.set_cons_succ]
          apply ord3_done
          go_wp2
          go_roundw
          case rel => exact ⟨j + 1, _, _, _, by omega, by have hh := HJ.out; have h4 := HP4.out; congr 1; omega, HFX.out.2.1, HFX.out.2.2⟩
          case measure => have hh := HJ.out; have h4 := HP4.out; simp [intOf]; omega
    · obtain rfl : j = m := by omega
      have hpb : p ≤ 12800000 := by have := HM.out.1; omega
      have hli : decide ((p : Int) + 128 ≤ (nb : Int)) = false := by have := HM.out.1; simp; omega
      have HR : Hid (RDkTo w b0 g S (A ++ atsR a j) (W ++ secL l j) (.returned (.int .i64 0)) wr) := Lib.hid ⟨rfl, ⟨_, _, _, HIr.out⟩, HOr.out⟩
      clear hp
      go_wp2
      go_ret
      exact HR.out

end Go.Proofs.YtijkmpcgkhijgaaGreatDoor
