/-
  WireBack: the walk.
-/
import Derived.Test.YtfnnicdlncgfkaaParts01
import Derived.Test.YtfnnicdlncgfkaaWireMath
import Derived.Deep.RegionHeld3
import Derived.Deep.DrawnRows
import Derived.Deep.RegionHeld
namespace Go.Proofs.Ytfnnicdlncgfkaa
set_option linter.unusedVariables false
set_option linter.unusedSimpArgs false
open Go.RowKit
attribute [local go_sem ↓] Go.wp_at_zero Go.wp_at_succ

/-- a number as 64 bits -/
def asU64 (n : Int) : Nat := (n % 18446744073709551616).toNat

theorem u64_wrap (n : Int) : IntKind.u64.wrap n = (asU64 n : Int) := by
  rw [IntKind.wrap_u64]; unfold asU64; omega
theorem u64_lt (n : Int) : asU64 n < 18446744073709551616 := by unfold asU64; omega

/-- what is written of a part, and of parts -/
def encP (d : PartD) : List UInt8 := be 8 (asU64 d.n) ++ (be 2 d.b.length ++ (d.b ++ be 2 d.b.length))
def encL (l : List PartD) : List UInt8 := (l.map encP).flatten

theorem encP_len (d : PartD) : (encP d).length = d.b.length + 12 := by simp [encP, be_length]; omega
theorem encL_snoc (l : List PartD) (d : PartD) : encL (l ++ [d]) = encL l ++ encP d := by simp [encL]
theorem encL_cons (l : List PartD) (d : PartD) : encL (d :: l) = encP d ++ encL l := by simp [encL]

theorem small_at {l : List PartD} {most : Nat} (h : smallB l most = true) : l.length ≤ most ∧ ∀ d ∈ l, d.b.length ≤ 700 := by
  unfold smallB at h
  simp at h
  exact h

theorem encL_len (l : List PartD) (h : ∀ d ∈ l, d.b.length ≤ 700) : (encL l).length ≤ 712 * l.length := by
  induction l with
  | nil => simp [encL]
  | cons d r ih =>
    rw [encL_cons, List.length_append, encP_len, List.length_cons]
    have := ih (fun x hx => h x (by simp [hx]))
    have := h d (by simp)
    omega

/-- what the loads of a part's cells see, in every later world -/
theorem keepPart {w : World} {b o : Nat} {n : Int} {a : Option Addr} {m c : Nat} {l : List UInt8} (h1 : w.cell? ⟨b, o + 1, none⟩ = some (.int .i64 n)) (h2 : w.cell? ⟨b, o + 2, none⟩ = some (.slice a m c)) (hr : Rd w (.slice a m c) l) :
    ∀ W, New w W → W.cell? ⟨b, o + 1, none⟩ = some (.int .i64 n) ∧ W.cell? ⟨b, o + 2, none⟩ = some (.slice a m c) ∧ (convert 28 9 (.slice a m c)).run Try.prog W = .ok (.string (bstr l)) W :=
  fun _ hN => ⟨cell_later hN h1, cell_later hN h2, run_str (P := Try.prog) Try.underlying28 Try.underlying5 Try.underlying9 (hr.new hN)⟩

set_option maxHeartbeats 1000000 in
theorem backWalk (w : World) (v : Value) (l : List PartD) (h : RdParts w v l) :
    Calls Try.prog 5 #[v] w fun e w' => e = .returned (.bool true) ∧ New w w' := by
  obtain ⟨a, n, c, rfl⟩ : ∃ a n c, v = .slice a n c := by obtain ⟨_, ⟨a, n, c, e, _⟩, _⟩ := h; exact ⟨a, n, c, e⟩
  obtain ⟨hn, hnc, hc⟩ := h.len
  subst hn
  by_cases hs : smallB l 30 = true
  · obtain ⟨hl, hb⟩ := small_at hs
    have HB := Lib.hid hb
    have HS := Lib.hid hs
    clear hb hs
    go_enter Try.func5, Try.ntmps5
    go_wp2_with fail
    refine (awake01 w).mono ?_
    rintro e w1 ⟨rfl, hn1⟩
    go_wp2_with fail
    refine (small01 w1 _ l 30 (h.new hn1) (by omega)).mono ?_
    rw [HS.out]
    rintro e w2 ⟨rfl, rfl⟩
    go_wp2_with fail
    refine (penNew w1).mono ?_
    rintro e w2 ⟨rfl, hp2, hn2, _⟩
    have P2 := Pend.start hp2 hn2
    clear hp2 hn2
    go_wp2
    go_loopw [4] (fun i wr => ∃ k : Nat, k ≤ l.length ∧ i = .int .i64 k ∧ Pend w1 w1.heap.size (some (encL (l.take k))) wr) (fun i _ => l.length - (intOf i).toNat)
    case atStart => exact ⟨0, Nat.zero_le _, rfl, P2⟩
    case round =>
      obtain ⟨k, hk, rfl, P3⟩ := hrel
      clear P2
      by_cases hlt : k < l.length
      · obtain ⟨b, off, a', m', c', rfl, _, hc1, hc2, hr, _, hdn⟩ := (h.new hn1).at (List.getElem?_eq_getElem hlt)
        have HE : Hid (encL (l.take (k + 1)) = encL (l.take k) ++ encP l[k]) := by
          show _ = _
          rw [List.take_succ_eq_append_getElem hlt, encL_snoc]
        have hlen : (encL (l.take k)).length ≤ 21360 := by
          have := encL_len (l.take k) (fun d hd => HB.out d (List.mem_of_mem_take hd))
          have : (l.take k).length ≤ 30 := by rw [List.length_take]; omega
          omega
        have hbl : l[k].b.length ≤ 700 := HB.out _ (List.getElem_mem hlt)
        generalize l[k] = d at hc1 hc2 hr hdn HE hbl
        generalize encL (l.take k) = out at HE hlen P3
        have HR := Lib.hid hr
        have HC1 := Lib.hid hc1
        have HC2 := Lib.hid hc2
        have HM := Lib.hid hr.len
        have hm7 : m' ≤ 700 := by rw [← hr.len]; exact hbl
        clear hc1 hc2 hr
        have hc1 := cell_later P3.1 HC1.out
        go_wp2_with fail
        rw [u64_wrap]
        refine (pendU64 P3 _ (by omega) (by have := u64_lt d.n; omega) (fun l h => by cases h; omega)).mono ?_
        rintro e w4 ⟨rfl, P4⟩
        rw [Int.toNat_natCast] at P4
        clear hc1
        have hc2 := cell_later P4.1 HC2.out
        go_wp2_with fail
        refine (pendLong P4 _ d.b HR.out (fun l h => by cases h; simp [be_length]; omega)).mono ?_
        rintro e w5 ⟨rfl, P5⟩
        simp only [Option.map_some] at P5
        rw [wText_in 2 d.b _ (by omega)] at P5
        clear hc2 P4
        have hc2 := cell_later P5.1 HC2.out
        go_wp2_with fail
        refine (pendU16 P5 _ (by omega) (by omega) (fun l h => by cases h; simp [be_length]; omega)).mono ?_
        rintro e w6 ⟨rfl, P6⟩
        rw [show wU 2 _ _ = _ from wU_in 2 m' _ (by omega)] at P6
        clear hc2 P5
        go_wp2
        go_roundw
        case rel =>
          refine ⟨k + 1, by omega, by go_num, ?_⟩
          rw [HE.out]
          have e : out ++ encP d = out ++ be 8 (asU64 d.n) ++ (be 2 d.b.length ++ d.b) ++ be 2 m' := by
            rw [← HM.out]; simp [encP]
          rw [e]
          exact P6
        case measure => simp [intOf]; omega
      · obtain rfl : k = l.length := by omega
        rw [List.take_length] at P3
        have hel : (encL l).length ≤ 21360 := by
          have := encL_len l HB.out
          omega
        go_wp2_with fail
        refine (pendBytes P3 (fun l h => by cases h; omega)).mono ?_
        rintro e w4 ⟨⟨av, ns, cs, rfl, hr4, hn4, _⟩, P4⟩
        simp only [Option.getD_some, Option.isSome_some] at hr4 ⊢
        clear P3
        have HR4 := Lib.hid hr4
        clear hr4
        go_wp2_with fail
        refine (eyeOpen w4 _ _ HR4.out (by omega)).mono ?_
        rintro e w5 ⟨p, dd, rfl, hp5, hE5, hd5, hn5⟩
        have hn5' : New w w5 := New.trans (New.trans hn1 P4.1) hn5
        have hpw : w.heap.size ≤ p := Nat.le_trans (New.trans hn1 P4.1).size hp5
        have hE5' : Eye w5 p dd (encL (l.drop 0)) 0 := by simpa using hE5
        clear hE5 HR4 P4
        go_wp2
        go_loopw [8] (fun i wr => ∃ k : Nat, k ≤ l.length ∧ i = .int .i64 k ∧ Eye wr p dd (encL (l.drop k)) 0 ∧ New w wr) (fun i _ => l.length - (intOf i).toNat)
        case atStart => exact ⟨0, Nat.zero_le _, rfl, hE5', hn5'⟩
        case round =>
          obtain ⟨k, hk, rfl, hE, hnw⟩ := hrel
          clear hE5' hn5' hn5 hn4 hn1
          by_cases hlt : k < l.length
          · obtain ⟨b, off, a', m', c', rfl, _, hc1, hc2, hr, _, hdn⟩ := h.at (List.getElem?_eq_getElem hlt)
            have hbl : l[k].b.length ≤ 700 := HB.out _ (List.getElem_mem hlt)
            have hlr : (encL (l.drop (k + 1))).length ≤ 21360 := by
              have := encL_len (l.drop (k + 1)) (fun d hd => HB.out d (List.mem_of_mem_drop hd))
              have : (l.drop (k + 1)).length ≤ 30 := by rw [List.length_drop]; omega
              omega
            rw [List.drop_eq_getElem_cons hlt, encL_cons] at hE
            generalize l[k] = d at hc1 hc2 hr hdn hbl hE
            obtain rfl := hr.len
            have HK := Lib.hid (keepPart hc1 hc2 hr)
            clear hc1 hc2 hr
            generalize hrest : encL (l.drop (k + 1)) = rest at hE hlr
            have HREST := Lib.hid hrest
            clear hrest
            rw [show encP d ++ rest = be 8 (asU64 d.n) ++ (be 2 d.b.length ++ (d.b ++ (be 2 d.b.length ++ rest))) by simp [encP]] at hE
            have e1 := eNum_ok 8 (asU64 d.n) (be 2 d.b.length ++ (d.b ++ (be 2 d.b.length ++ rest))) (u64_lt _)
            have e2 := eText_ok 2 700 d.b (be 2 d.b.length ++ rest) (by omega) (by omega)
            have e3 := eNum_ok 2 d.b.length rest (by omega)
            have HC1 := Lib.hid (fun (W : World) (hW : Eye W p dd (be 8 (asU64 d.n) ++ (be 2 d.b.length ++ (d.b ++ (be 2 d.b.length ++ rest)))) 0) => eyeU64 W p dd _ _ hW)
            have HC2 := Lib.hid (fun (W : World) (hW : Eye W p dd (be 2 d.b.length ++ (d.b ++ (be 2 d.b.length ++ rest))) 0) => eyeLong W p dd _ _ 700 hW (by simp [be_length]; omega))
            have HC3 := Lib.hid (fun (W : World) (hW : Eye W p dd (be 2 d.b.length ++ rest) 0) => eyeU16 W p dd _ _ hW)
            unfold NumTo at HC1 HC3
            rw [e1.1, e1.2] at HC1
            rw [e2] at HC2
            rw [e3.1, e3.2] at HC3
            clear e1 e2 e3
            have hwr : IntKind.u64.wrap d.n = (asU64 d.n : Int) := u64_wrap _
            have hq1 : ((asU64 d.n : Int) != (asU64 d.n : Int)) = false := by simp
            go_wp2
            refine wp_region_noPanic ?_
            go_region_held (fun w' => w'.cell? ⟨b, off + k * 3 + 1, none⟩ = some (.int .i64 d.n) ∧ w'.cell? ⟨b, off + k * 3 + 2, none⟩ = some (.slice a' d.b.length c') ∧ (convert 28 9 (.slice a' d.b.length c')).run Try.prog w' = .ok (.string (bstr d.b)) w') (first | exact HK.out _ hN3 | exact HK.out _ hN2 | exact HK.out _ hN1 | exact HK.out _ hnw | exact HK.out _ hnw.drew) ((first | (go_at_call 27; refine (HC1.out _ (by exact hE)).mono ?_; rintro e w1' ⟨rfl, hE1⟩; have hN1 := New.eye hnw.drew hE1 hpw) | (go_at_call 30; refine (HC2.out _ (by exact hE1.1)).mono ?_; rintro e w2' ⟨a2, n2, c2, rfl, hr2, _, hE2⟩; have hN2 := New.eye hN1 hE2 hpw; have ks2 := run_str (P := Try.prog) Try.underlying28 Try.underlying5 Try.underlying9 hr2) | (go_at_call 25; refine (HC3.out _ (by exact hE2.1)).mono ?_; rintro e w3' ⟨rfl, hE3⟩; have hN3 := New.eye hN2 hE3 hpw)))
            all_goals refine NoPanic.normal ?_
            go_wp2
            go_roundw
            case rel => exact ⟨k + 1, by omega, by go_num, by rw [HREST.out]; exact hE3.1, hN3⟩
            case measure => simp [intOf]; omega
          · obtain rfl : k = l.length := by omega
            rw [List.drop_length, show encL [] = [] from rfl] at hE
            have he : eEnd [] 0 = 0 := by simp [eEnd]
            go_wp2_with fail
            refine (eyeEnd wr p dd _ 0 hE).mono ?_
            rw [he]
            clear he
            rintro e w6 ⟨rfl, rfl⟩
            go_wp2_with fail
            refine (eyeLeft wr p dd _ 0 hE).mono ?_
            rintro e w6 ⟨rfl, rfl⟩
            go_wp2
            go_ret
            exact ⟨rfl, hnw⟩
  · have HS := Lib.hid (Bool.eq_false_iff.2 hs)
    clear hs
    go_enter Try.func5, Try.ntmps5
    go_wp2_with fail
    refine (awake01 w).mono ?_
    rintro e w1 ⟨rfl, hn1⟩
    go_wp2_with fail
    refine (small01 w1 _ l 30 (h.new hn1) (by omega)).mono ?_
    rw [HS.out]
    rintro e w2 ⟨rfl, rfl⟩
    go_wp2_with fail
    refine (awake01 w1).mono ?_
    rintro e w2 ⟨rfl, hn2⟩
    go_wp2
    go_ret
    exact ⟨rfl, New.trans hn1 hn2⟩

theorem backLaw (w : World) (v : Value) (l : List PartD) (h : RdParts w v l) :
    Calls Try.prog 5 #[v] w fun e w' => e = .returned (.bool true) ∧ New w w' := backWalk w v l h

end Go.Proofs.Ytfnnicdlncgfkaa
