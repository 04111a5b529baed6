/-
  The reference's reader of layer 1.
-/
import Derived.Test.YtliojldkdmaofaaEyeA
import Derived.Test.YtliojldkdmaofaaRefVal
import Derived.Lib.Strings
namespace Go.Proofs.Ytliojldkdmaofaa
set_option linter.unusedVariables false
set_option linter.unusedSimpArgs false
open Go.RowKit

theorem bstr_mid (l : List UInt8) (a b : Nat) : (bstr l).extract a b = bstr ((l.drop a).take (b - a)) := by
  apply ByteArray.ext
  apply Array.ext'
  rw [Lib.extract_data, bstr_toList, bstr_toList]

/-- the reference's reader, at block q -/
def REye (w : World) (q : Nat) (r : List UInt8) (err : Int) : Prop := w.heap[q]? = some (.cells #[.string (bstr r), .int .i64 err] 40 (0, 0))

def REyeTo (w : World) (q : Nat) (r : List UInt8) (err : Int) (w' : World) : Prop := REye w' q r err ∧ Only (fun k => k = q) w w'

theorem REye.cells {w : World} {q : Nat} {r : List UInt8} {err : Int} (h : REye w q r err) :
    w.cell? ⟨q, 0, none⟩ = some (.string (bstr r)) ∧ w.cell? ⟨q, 1, none⟩ = some (.int .i64 err) ∧ w.frozen? ⟨q, 0, none⟩ = false ∧ w.frozen? ⟨q, 1, none⟩ = false := by
  unfold REye at h
  exact ⟨by rw [cell_of_row w q 0 _ _ _ h]; rfl, by rw [cell_of_row w q 1 _ _ _ h]; rfl, by simp [World.frozen?, h], by simp [World.frozen?, h]⟩

theorem REyeTo.refl {w : World} {q : Nat} {r : List UInt8} {err : Int} (h : REye w q r err) : REyeTo w q r err w := ⟨h, Only.refl _ _⟩

theorem reyeSetErr {w : World} {q : Nat} {r : List UInt8} {err x : Int} (h : REye w q r err) : REyeTo w q r x (w.setCell ⟨q, 1, none⟩ (.int .i64 x)) :=
  ⟨two_setCell1 h, (Only.refl (fun k => k = q) w).setCell (p := ⟨q, 1, none⟩) (fun _ => rfl) _⟩

theorem reyeSetRest {w : World} {q : Nat} {r r' : List UInt8} {err : Int} (h : REye w q r err) : REyeTo w q r' err (w.setCell ⟨q, 0, none⟩ (.string (bstr r'))) :=
  ⟨two_setCell0 h, (Only.refl (fun k => k = q) w).setCell (p := ⟨q, 0, none⟩) (fun _ => rfl) _⟩

theorem REye.only {F : Nat → Prop} {w w' : World} {q : Nat} {r : List UInt8} {err : Int} (h : REye w q r err) (ho : Only F w w') (hq : ¬ F q) : REye w' q r err :=
  (ho.block q (lt_of_block h) hq).trans h

theorem REye.new {w w' : World} {q : Nat} {r : List UInt8} {err : Int} (h : REye w q r err) (ho : New w w') : REye w' q r err := (ho.block q (lt_of_block h)).trans h

theorem New.reye {w w1 w2 : World} {q : Nat} {r : List UInt8} {err : Int} (h : New w w1) (k : REyeTo w1 q r err w2) (hq : w.heap.size ≤ q) : New w w2 :=
  Below.trans h (k.2.below h.size (fun j hj => by subst hj; exact hq))

def RNumTo (w : World) (q : Nat) (size : Nat) (r : List UInt8) (err : Int) (e : Ending) (w' : World) : Prop :=
  e = .returned (.int .u64 (eNum size r err)) ∧ REyeTo w q (eTake size r err).2.1 (eTake size r err).2.2 w'

set_option maxHeartbeats 400000 in
theorem reyeNumber (w : World) (q : Nat) (r : List UInt8) (err : Int) (size : Nat) (h : REye w q r err) (hs : size ≤ 8) (hr : r.length ≤ 140737488355328) :
    Calls Try.prog 34 #[.pointer (some ⟨q, 0, none⟩), .int .i64 size] w (RNumTo w q size r err) := by
  obtain ⟨hc0, hc1, hf0, hf1⟩ := h.cells
  have hz : (bstr r).size = r.length := bstr_size r
  by_cases h0 : err = 0
  · subst h0
    by_cases hl : size ≤ r.length
    · have HN : Hid (RNumTo w q size r 0 (.returned (.int .u64 (val (r.take size)))) (w.setCell ⟨q, 0, none⟩ (.string (bstr (r.drop size))))) := by
        have e := eTake_ok size r hl
        unfold Hid RNumTo eNum
        rw [e]
        exact ⟨rfl, reyeSetRest h⟩
      have hx1 : (bstr r).extract 0 size = bstr (r.take size) := by rw [bstr_mid]; simp
      have hx2 : (bstr r).extract size (bstr r).size = bstr (r.drop size) := by
        rw [bstr_mid, hz, List.take_of_length_le (by rw [List.length_drop]; exact Nat.le_refl _)]
      have hx3 : (bstr r).extract size r.length = bstr (r.drop size) := by rw [← hz]; exact hx2
      go_enter Try.func34, Try.ntmps34
      go_wp2_with fail
      refine (refValue w (r.take size) (by rw [List.length_take]; omega)).mono ?_
      rintro e w1 ⟨rfl, rfl⟩
      go_wp2
      go_ret
      exact HN.out
    · have HN : Hid (RNumTo w q size r 0 (.returned (.int .u64 0)) (w.setCell ⟨q, 1, none⟩ (.int .i64 10))) := by
        have e := eTake_short size r (by omega)
        unfold Hid RNumTo eNum
        rw [e]
        exact ⟨rfl, reyeSetErr h⟩
      go_enter Try.func34, Try.ntmps34
      go_wp2
      go_ret
      exact HN.out
  · have hb : (err != 0) = true := by simpa using h0
    have HN : Hid (RNumTo w q size r err (.returned (.int .u64 0)) w) := by
      have e := eTake_err size r err h0
      unfold Hid RNumTo eNum
      rw [e]
      exact ⟨rfl, REyeTo.refl h⟩
    go_enter Try.func34, Try.ntmps34
    go_wp2
    go_ret
    exact HN.out

def RTextTo (w : World) (q : Nat) (t : List UInt8 × List UInt8 × Int) (e : Ending) (w' : World) : Prop :=
  e = .returned (.string (bstr t.1)) ∧ REyeTo w q t.2.1 t.2.2 w'

theorem bstr_nil : (ByteArray.mk #[]) = bstr [] := rfl


/-- the parts of 'eText' -/
theorem eText_short (size : Nat) (most : Int) (r : List UInt8) (h : r.length < size) : eText size most r 0 = ([], r, 10) := by
  simp only [eText, eTake_short _ _ h]
  have hf : eFail 10 11 = 10 := by simp [eFail]
  simp only [hf, ite_self]
  rw [eTake_err _ _ _ (by decide)]
  simp

theorem eText_over (size : Nat) (most : Int) (r : List UInt8) (h : size ≤ r.length) (hm : most < (val (r.take size) : Int)) : eText size most r 0 = ([], r, 11) := by
  simp only [eText, eTake_ok _ _ h]
  rw [if_pos hm, show eFail 0 11 = 11 from rfl, eTake_err _ _ _ (by decide)]
  simp

theorem eText_less (size : Nat) (most : Int) (r : List UInt8) (h : size ≤ r.length) (hm : (val (r.take size) : Int) ≤ most) (hl : r.length - size < val (r.take size)) : eText size most r 0 = ([], r, 10) := by
  simp only [eText, eTake_ok _ _ h]
  rw [if_neg (show ¬ most < (val (r.take size) : Int) by omega), eTake_short _ _ (by rw [List.length_drop]; omega)]
  simp

theorem eText_good (size : Nat) (most : Int) (r : List UInt8) (h : size ≤ r.length) (hm : (val (r.take size) : Int) ≤ most) (hl : val (r.take size) ≤ r.length - size) :
    eText size most r 0 = ((r.drop size).take (val (r.take size)), r.drop (size + val (r.take size)), 0) := by
  simp only [eText, eTake_ok _ _ h]
  rw [if_neg (show ¬ most < (val (r.take size) : Int) by omega), eTake_ok _ _ (by rw [List.length_drop]; omega)]
  simp [List.drop_drop]

set_option maxHeartbeats 1000000 in
theorem reyeText (w : World) (q : Nat) (r : List UInt8) (err most : Int) (size : Nat) (h : REye w q r err) (hs : size ≤ 7) (hr : r.length ≤ 140737488355328) :
    Calls Try.prog 35 #[.pointer (some ⟨q, 0, none⟩), .int .i64 size, .int .i64 most] w (RTextTo w q (eText size most r err)) := by
  obtain ⟨hc0, hc1, hf0, hf1⟩ := h.cells
  have hz : (bstr r).size = r.length := bstr_size r
  by_cases h0 : err = 0
  · subst h0
    by_cases hl : size ≤ r.length
    · have hx1 : (bstr r).extract 0 size = bstr (r.take size) := by rw [bstr_mid]; simp
      have hv := val_lt8 (r.take size) 7 (by rw [List.length_take]; omega) (by omega)
      have HV := Lib.hid (refValue w (r.take size) (by rw [List.length_take]; omega))
      by_cases hm : most < (val (r.take size) : Int)
      · have HN : Hid (RTextTo w q (eText size most r 0) (.returned (.string (bstr []))) (w.setCell ⟨q, 1, none⟩ (.int .i64 11))) := by
          unfold Hid RTextTo
          rw [eText_over size most r hl hm]
          exact ⟨rfl, reyeSetErr h⟩
        generalize val (r.take size) = V at hm hv HV
        go_enter Try.func35, Try.ntmps35
        go_wp2_with fail
        refine HV.out.mono ?_
        rintro e w1 ⟨rfl, rfl⟩
        go_wp2
        go_ret
        exact HN.out
      · by_cases hk : val (r.take size) ≤ r.length - size
        · have HN : Hid (RTextTo w q (eText size most r 0) (.returned (.string (bstr ((r.drop size).take (val (r.take size)))))) (w.setCell ⟨q, 0, none⟩ (.string (bstr (r.drop (size + val (r.take size))))))) := by
            unfold Hid RTextTo
            rw [eText_good size most r hl (by omega) hk]
            exact ⟨rfl, reyeSetRest h⟩
          have hx2 : (bstr r).extract size (size + val (r.take size)) = bstr ((r.drop size).take (val (r.take size))) := by
            rw [bstr_mid]; congr 2; omega
          have hx3 : (bstr r).extract (size + val (r.take size)) r.length = bstr (r.drop (size + val (r.take size))) := by
            rw [bstr_mid, List.take_of_length_le (by rw [List.length_drop]; exact Nat.le_refl _)]
          generalize val (r.take size) = V at hm hv HV hk HN hx2 hx3
          have HX2 := Lib.hid hx2
          clear hx2
          have hi1 : (V : Int) ≤ (r.length : Int) - size := by omega
          go_enter Try.func35, Try.ntmps35
          go_wp2_with fail
          refine HV.out.mono ?_
          rintro e w1 ⟨rfl, rfl⟩
          go_wp2
          go_ret
          have hn := HN.out
          rw [← HX2.out] at hn
          exact hn
        · have HN : Hid (RTextTo w q (eText size most r 0) (.returned (.string (bstr []))) (w.setCell ⟨q, 1, none⟩ (.int .i64 10))) := by
            unfold Hid RTextTo
            rw [eText_less size most r hl (by omega) (by omega)]
            exact ⟨rfl, reyeSetErr h⟩
          generalize val (r.take size) = V at hm hv HV hk
          have hi1 : (r.length : Int) - size < V := by omega
          go_enter Try.func35, Try.ntmps35
          go_wp2_with fail
          refine HV.out.mono ?_
          rintro e w1 ⟨rfl, rfl⟩
          go_wp2
          go_ret
          exact HN.out
    · have HN : Hid (RTextTo w q (eText size most r 0) (.returned (.string (bstr []))) (w.setCell ⟨q, 1, none⟩ (.int .i64 10))) := by
        unfold Hid RTextTo
        rw [eText_short size most r (by omega)]
        exact ⟨rfl, reyeSetErr h⟩
      go_enter Try.func35, Try.ntmps35
      go_wp2
      go_ret
      exact HN.out
  · have hb : (err != 0) = true := by simpa using h0
    have HN : Hid (RTextTo w q (eText size most r err) (.returned (.string (bstr []))) w) := by
      unfold Hid RTextTo
      rw [eText_err size most r err h0]
      exact ⟨rfl, REyeTo.refl h⟩
    go_enter Try.func35, Try.ntmps35
    go_wp2
    go_ret
    exact HN.out


end Go.Proofs.Ytliojldkdmaofaa
