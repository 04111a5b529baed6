/-
  WirePens: the walk.
-/
import Derived.Test.YtfnnicdlncgfkaaBack
import Derived.Test.YtfnnicdlncgfkaaRef01
import Derived.Deep.QuietTactic
import Derived.BigQuiet
namespace Go.Proofs.Ytfnnicdlncgfkaa
set_option linter.unusedVariables false
set_option linter.unusedSimpArgs false
open Go.RowKit
attribute [local go_sem ↓] Go.wp_at_zero Go.wp_at_succ

/-- what a part does to a writer -/
def stepP (d : PartD) (k : Nat) (s : Option (List UInt8)) : Option (List UInt8) :=
  match k with
  | 0 => wU 1 d.n s
  | 1 => wU 2 d.n s
  | 2 => wU 4 d.n s
  | 3 => s.map (· ++ be 8 (asU64 d.n))
  | 4 => s.map (· ++ d.b)
  | 5 => wText 1 d.b s
  | _ => wText 2 d.b s

theorem wU_none (size : Nat) (n : Int) : wU size n none = none := by unfold wU; split <;> rfl

theorem wText_none (size : Nat) (l : List UInt8) : wText size l none = none := by unfold wText; rw [wU_none]; rfl

theorem new_drewN (w : World) (n : Nat) : New w (w.drewN n) := below_drewN (Below.refl _ _) n

theorem asU64_small (n : Int) (size : Nat) (h : 0 ≤ n ∧ n < 256 ^ size) (hs : size ≤ 4) : n.toNat = asU64 n := by
  have h1 : (256 : Int) ^ size ≤ 256 ^ 4 := by
    have : (256 : Nat) ^ size ≤ 256 ^ 4 := Nat.pow_le_pow_right (by decide) hs
    have h2 := Int.ofNat_le.2 this
    rwa [Int.natCast_pow, Int.natCast_pow] at h2
  unfold asU64
  rw [Int.emod_eq_of_lt h.1 (by omega)]

def PenRel (w1 : World) (p : Nat) (k : Nat) (wl : List UInt8) (s : Option (List UInt8)) (wr : World) : Prop :=
  Pend w1 p s wr ∧ (∀ l, s = some l → wl = l) ∧ wl.length ≤ 712 * k ∧ Fit s 100000

set_option maxRecDepth 100000 in
set_option maxHeartbeats 4000000 in
theorem pensWalk (w : World) (v : Value) (l : List PartD) (h : RdParts w v l) :
    Calls Try.prog 3 #[v] w fun e w' => e = .returned (.bool true) ∧ New w w' := by
  obtain ⟨a, n, c, rfl⟩ : ∃ a n c, v = .slice a n c := by obtain ⟨_, ⟨a, n, c, e, _⟩, _⟩ := h; exact ⟨a, n, c, e⟩
  obtain ⟨hn, hnc, hc⟩ := h.len
  subst hn
  by_cases hs : smallB l 30 = true
  · obtain ⟨hl, hb⟩ := small_at hs
    have HB := Lib.hid hb
    have HS := Lib.hid hs
    clear hb hs
    go_enter Try.func3, Try.ntmps3
    go_wp2_with fail
    refine (awake01 w).mono ?_
    rintro e w1 ⟨rfl, hn1⟩
    go_wp2_with fail
    refine (small01 w1 _ l 30 (h.new hn1) (by omega)).mono ?_
    rw [HS.out]
    rintro e w2 ⟨rfl, rfl⟩
    go_wp2_with fail
    refine (penNew w1).mono ?_
    rintro e w2 ⟨rfl, hp2, hn2, _⟩
    have P2 := Pend.start hp2 hn2
    clear hp2 hn2
    go_wp2
    go_loopw [4, 5, 6] (fun want ok i wr => ∃ (k : Nat) (s : Option (List UInt8)) (wl : List UInt8), k ≤ l.length ∧ i = .int .i64 k ∧ want = .string (bstr wl) ∧ ok = .bool s.isSome ∧ PenRel w1 w1.heap.size k wl s wr) (fun _ _ i _ => l.length - (intOf i).toNat)
    case atStart => exact ⟨0, some [], [], Nat.zero_le _, rfl, rfl, rfl, P2, fun l h => by cases h; rfl, by simp, fun l h => by cases h; simp⟩
    case round =>
      obtain ⟨k, s, wl, hk, rfl, rfl, rfl, P3, hwl, hlen, hfit⟩ := hrel
      clear P2
      by_cases hlt : k < l.length
      · obtain ⟨b, off, a', m', c', rfl, hc0, hc1, hc2, hr, hkd, hdn⟩ := (h.new hn1).at (List.getElem?_eq_getElem hlt)
        have hbl : l[k].b.length ≤ 700 := HB.out _ (List.getElem_mem hlt)
        generalize l[k] = d at hc0 hc1 hc2 hr hdn hbl hkd
        have HW := Lib.hid hwl
        have HF := Lib.hid hfit
        have HR := Lib.hid hr
        have HC0 := Lib.hid hc0
        have HC1 := Lib.hid hc1
        have HC2 := Lib.hid hc2
        have HM := Lib.hid hr.len
        have HK := Lib.hid (fun (W : World) (hW : New w1 W) => cell_later hW hc1)
        have HK3 := Lib.hid (fun (W : World) (hW : New w1 W) => And.intro (cell_later hW hc2) (run_str (P := Try.prog) Try.underlying28 Try.underlying5 Try.underlying9 (hr.new hW)))
        clear hwl hfit hr hc0 hc1 hc2
        have hc0 := cell_later P3.1 HC0.out
        go_wp2_with fail
        refine (refRest wr d.kind hkd.1 hkd.2).mono ?_
        rintro e w3 ⟨rfl, rfl⟩
        clear hc0
        obtain ⟨kd, hkd7, hkd'⟩ : ∃ kd : Nat, kd < 7 ∧ d.kind % 7 = kd := ⟨(d.kind % 7).toNat, by omega, by omega⟩
        rw [hkd']
        clear hkd'
        rcases (show kd = 0 ∨ kd = 1 ∨ kd = 2 ∨ kd = 3 ∨ kd = 4 ∨ kd = 5 ∨ kd = 6 by omega) with rfl | rfl | rfl | rfl | rfl | rfl | rfl
        · have hc1 := cell_later P3.1 HC1.out
          cases s with
          | none =>
            rw [Option.isSome_none]
            go_wp2_with fail
            refine (pendU8 P3 _ hdn.1 hdn.2 (fun l h => by cases h)).mono ?_
            rintro e w4 ⟨rfl, P4⟩
            rw [wU_none] at P4
            go_wp2
            go_quiet (fail)
            go_wp2
            go_roundw
            case rel => exact ⟨k + 1, none, wl, by omega, by go_num, rfl, rfl, P4.later (new_drewN _ _), (fun l h => by cases h), by omega, (fun l h => by cases h)⟩
            case measure => simp [intOf]; omega
          | some m =>
            obtain rfl := HW.out _ rfl
            rw [Option.isSome_some]
            go_wp2_with fail
            refine (pendU8 P3 _ hdn.1 hdn.2 (fun l h => by cases h; have := HF.out _ rfl; omega)).mono ?_
            rintro e w4 ⟨rfl, P4⟩
            clear hc1
            go_wp2
            refine wp_region_noPanic ?_
            go_region_held (fun w' => w'.cell? ⟨b, off + k * 3 + 1, none⟩ = some (.int .i64 d.n)) (first | exact HK.out _ hN5 | exact HK.out _ P4.1.drew) ((first | (go_at_call 19; refine (size01 _ 0 (by omega)).mono ?_; rintro e w5 ⟨rfl, hn5⟩; have hN5 := New.trans P4.1.drew hn5) | (go_at_call 18; refine (refFits _ _ 1 (by omega)).mono ?_; rintro e w6 ⟨rfl, rfl⟩)))
            refine NoPanic.normal ?_
            have P5 := P4.later (New.trans (Below.refl _ _).drew hn5)
            clear P4
            by_cases hf : fits d.n 1 = true
            · rw [hf]
              have hv : 0 ≤ d.n ∧ d.n < 256 ^ 1 := by simpa [fits] using hf
              have e1 : wU 1 d.n (some wl) = some (wl ++ be 1 (asU64 d.n)) := by
                unfold wU
                rw [if_pos hv, asU64_small d.n 1 hv (by omega)]
                rfl
              rw [e1] at P5
              clear hf hv e1
              have hwr : IntKind.u64.wrap d.n = (asU64 d.n : Int) := u64_wrap _
              have hsz : (bstr wl).size ≤ 21360 := by rw [bstr_size]; omega
              have hsz2 : (bstr (be 1 (asU64 d.n))).size ≤ 8 := by rw [bstr_size, be_length]; omega
              go_wp2
              refine wp_region_noPanic ?_
              go_region_held (fun w' => w'.cell? ⟨b, off + k * 3 + 1, none⟩ = some (.int .i64 d.n)) (first | exact HK.out _ hN7 | exact HK.out _ hN6 | exact HK.out _ P5.1.drew) ((first | (go_at_call 19; refine (size01 _ 0 (by omega)).mono ?_; rintro e w6 ⟨rfl, hn6⟩; have hN6 := New.trans P5.1.drew hn6) | (go_at_call 20; refine (refNumber _ (asU64 d.n) 1 (u64_lt _) (by omega)).mono ?_; rintro e w7 ⟨rfl, hn7⟩; have hN7 := New.trans hN6 hn7)))
              refine NoPanic.normal ?_
              have P7 := P5.later (New.trans (New.trans (Below.refl _ _).drew hn6) hn7)
              clear P5
              go_wp2
              go_roundw
              case rel =>
                refine ⟨k + 1, _, wl ++ be 1 (asU64 d.n), by omega, by go_num, by rw [bstr_append], rfl, P7, (fun l h => by cases h; rfl), by simp [be_length]; omega, (fun l h => by cases h; simp [be_length]; omega)⟩
              case measure => simp [intOf]; omega
            · rw [Bool.eq_false_iff.2 hf]
              have hv : ¬ (0 ≤ d.n ∧ d.n < 256 ^ 1) := by simpa [fits] using hf
              have e1 : wU 1 d.n (some wl) = none := by unfold wU; rw [if_neg hv]
              rw [e1] at P5
              clear hf hv e1
              go_wp2
              go_roundw
              case rel => exact ⟨k + 1, none, wl, by omega, by go_num, rfl, rfl, P5, (fun l h => by cases h), by omega, (fun l h => by cases h)⟩
              case measure => simp [intOf]; omega
        · have hc1 := cell_later P3.1 HC1.out
          cases s with
          | none =>
            rw [Option.isSome_none]
            go_wp2_with fail
            refine (pendU16 P3 _ hdn.1 hdn.2 (fun l h => by cases h)).mono ?_
            rintro e w4 ⟨rfl, P4⟩
            rw [wU_none] at P4
            go_wp2
            go_quiet (fail)
            go_wp2
            go_roundw
            case rel => exact ⟨k + 1, none, wl, by omega, by go_num, rfl, rfl, P4.later (new_drewN _ _), (fun l h => by cases h), by omega, (fun l h => by cases h)⟩
            case measure => simp [intOf]; omega
          | some m =>
            obtain rfl := HW.out _ rfl
            rw [Option.isSome_some]
            go_wp2_with fail
            refine (pendU16 P3 _ hdn.1 hdn.2 (fun l h => by cases h; have := HF.out _ rfl; omega)).mono ?_
            rintro e w4 ⟨rfl, P4⟩
            clear hc1
            go_wp2
            refine wp_region_noPanic ?_
            go_region_held (fun w' => w'.cell? ⟨b, off + k * 3 + 1, none⟩ = some (.int .i64 d.n)) (first | exact HK.out _ hN5 | exact HK.out _ P4.1.drew) ((first | (go_at_call 19; refine (size01 _ 1 (by omega)).mono ?_; rintro e w5 ⟨rfl, hn5⟩; have hN5 := New.trans P4.1.drew hn5) | (go_at_call 18; refine (refFits _ _ 2 (by omega)).mono ?_; rintro e w6 ⟨rfl, rfl⟩)))
            refine NoPanic.normal ?_
            have P5 := P4.later (New.trans (Below.refl _ _).drew hn5)
            clear P4
            by_cases hf : fits d.n 2 = true
            · rw [hf]
              have hv : 0 ≤ d.n ∧ d.n < 256 ^ 2 := by simpa [fits] using hf
              have e1 : wU 2 d.n (some wl) = some (wl ++ be 2 (asU64 d.n)) := by
                unfold wU
                rw [if_pos hv, asU64_small d.n 2 hv (by omega)]
                rfl
              rw [e1] at P5
              clear hf hv e1
              have hwr : IntKind.u64.wrap d.n = (asU64 d.n : Int) := u64_wrap _
              have hsz : (bstr wl).size ≤ 21360 := by rw [bstr_size]; omega
              have hsz2 : (bstr (be 2 (asU64 d.n))).size ≤ 8 := by rw [bstr_size, be_length]; omega
              go_wp2
              refine wp_region_noPanic ?_
              go_region_held (fun w' => w'.cell? ⟨b, off + k * 3 + 1, none⟩ = some (.int .i64 d.n)) (first | exact HK.out _ hN7 | exact HK.out _ hN6 | exact HK.out _ P5.1.drew) ((first | (go_at_call 19; refine (size01 _ 1 (by omega)).mono ?_; rintro e w6 ⟨rfl, hn6⟩; have hN6 := New.trans P5.1.drew hn6) | (go_at_call 20; refine (refNumber _ (asU64 d.n) 2 (u64_lt _) (by omega)).mono ?_; rintro e w7 ⟨rfl, hn7⟩; have hN7 := New.trans hN6 hn7)))
              refine NoPanic.normal ?_
              have P7 := P5.later (New.trans (New.trans (Below.refl _ _).drew hn6) hn7)
              clear P5
              go_wp2
              go_roundw
              case rel =>
                refine ⟨k + 1, _, wl ++ be 2 (asU64 d.n), by omega, by go_num, by rw [bstr_append], rfl, P7, (fun l h => by cases h; rfl), by simp [be_length]; omega, (fun l h => by cases h; simp [be_length]; omega)⟩
              case measure => simp [intOf]; omega
            · rw [Bool.eq_false_iff.2 hf]
              have hv : ¬ (0 ≤ d.n ∧ d.n < 256 ^ 2) := by simpa [fits] using hf
              have e1 : wU 2 d.n (some wl) = none := by unfold wU; rw [if_neg hv]
              rw [e1] at P5
              clear hf hv e1
              go_wp2
              go_roundw
              case rel => exact ⟨k + 1, none, wl, by omega, by go_num, rfl, rfl, P5, (fun l h => by cases h), by omega, (fun l h => by cases h)⟩
              case measure => simp [intOf]; omega
        · have hc1 := cell_later P3.1 HC1.out
          cases s with
          | none =>
            rw [Option.isSome_none]
            go_wp2_with fail
            refine (pendU32 P3 _ hdn.1 hdn.2 (fun l h => by cases h)).mono ?_
            rintro e w4 ⟨rfl, P4⟩
            rw [wU_none] at P4
            go_wp2
            go_quiet (fail)
            go_wp2
            go_roundw
            case rel => exact ⟨k + 1, none, wl, by omega, by go_num, rfl, rfl, P4.later (new_drewN _ _), (fun l h => by cases h), by omega, (fun l h => by cases h)⟩
            case measure => simp [intOf]; omega
          | some m =>
            obtain rfl := HW.out _ rfl
            rw [Option.isSome_some]
            go_wp2_with fail
            refine (pendU32 P3 _ hdn.1 hdn.2 (fun l h => by cases h; have := HF.out _ rfl; omega)).mono ?_
            rintro e w4 ⟨rfl, P4⟩
            clear hc1
            go_wp2
            refine wp_region_noPanic ?_
            go_region_held (fun w' => w'.cell? ⟨b, off + k * 3 + 1, none⟩ = some (.int .i64 d.n)) (first | exact HK.out _ hN5 | exact HK.out _ P4.1.drew) ((first | (go_at_call 19; refine (size01 _ 2 (by omega)).mono ?_; rintro e w5 ⟨rfl, hn5⟩; have hN5 := New.trans P4.1.drew hn5) | (go_at_call 18; refine (refFits _ _ 4 (by omega)).mono ?_; rintro e w6 ⟨rfl, rfl⟩)))
            refine NoPanic.normal ?_
            have P5 := P4.later (New.trans (Below.refl _ _).drew hn5)
            clear P4
            by_cases hf : fits d.n 4 = true
            · rw [hf]
              have hv : 0 ≤ d.n ∧ d.n < 256 ^ 4 := by simpa [fits] using hf
              have e1 : wU 4 d.n (some wl) = some (wl ++ be 4 (asU64 d.n)) := by
                unfold wU
                rw [if_pos hv, asU64_small d.n 4 hv (by omega)]
                rfl
              rw [e1] at P5
              clear hf hv e1
              have hwr : IntKind.u64.wrap d.n = (asU64 d.n : Int) := u64_wrap _
              have hsz : (bstr wl).size ≤ 21360 := by rw [bstr_size]; omega
              have hsz2 : (bstr (be 4 (asU64 d.n))).size ≤ 8 := by rw [bstr_size, be_length]; omega
              go_wp2
              refine wp_region_noPanic ?_
              go_region_held (fun w' => w'.cell? ⟨b, off + k * 3 + 1, none⟩ = some (.int .i64 d.n)) (first | exact HK.out _ hN7 | exact HK.out _ hN6 | exact HK.out _ P5.1.drew) ((first | (go_at_call 19; refine (size01 _ 2 (by omega)).mono ?_; rintro e w6 ⟨rfl, hn6⟩; have hN6 := New.trans P5.1.drew hn6) | (go_at_call 20; refine (refNumber _ (asU64 d.n) 4 (u64_lt _) (by omega)).mono ?_; rintro e w7 ⟨rfl, hn7⟩; have hN7 := New.trans hN6 hn7)))
              refine NoPanic.normal ?_
              have P7 := P5.later (New.trans (New.trans (Below.refl _ _).drew hn6) hn7)
              clear P5
              go_wp2
              go_roundw
              case rel =>
                refine ⟨k + 1, _, wl ++ be 4 (asU64 d.n), by omega, by go_num, by rw [bstr_append], rfl, P7, (fun l h => by cases h; rfl), by simp [be_length]; omega, (fun l h => by cases h; simp [be_length]; omega)⟩
              case measure => simp [intOf]; omega
            · rw [Bool.eq_false_iff.2 hf]
              have hv : ¬ (0 ≤ d.n ∧ d.n < 256 ^ 4) := by simpa [fits] using hf
              have e1 : wU 4 d.n (some wl) = none := by unfold wU; rw [if_neg hv]
              rw [e1] at P5
              clear hf hv e1
              go_wp2
              go_roundw
              case rel => exact ⟨k + 1, none, wl, by omega, by go_num, rfl, rfl, P5, (fun l h => by cases h), by omega, (fun l h => by cases h)⟩
              case measure => simp [intOf]; omega
        · have hc1 := cell_later P3.1 HC1.out
          have hwr0 : IntKind.u64.wrap d.n = (asU64 d.n : Int) := u64_wrap _
          have hul := u64_lt d.n
          cases s with
          | none =>
            rw [Option.isSome_none]
            go_wp2_with fail
            refine (pendU64 P3 _ (by omega) (by omega) (fun l h => by cases h)).mono ?_
            rintro e w4 ⟨rfl, P4⟩
            go_wp2
            go_roundw
            case rel => exact ⟨k + 1, none, wl, by omega, by go_num, rfl, rfl, P4, (fun l h => by cases h), by omega, (fun l h => by cases h)⟩
            case measure => simp [intOf]; omega
          | some m =>
            obtain rfl := HW.out _ rfl
            rw [Option.isSome_some]
            go_wp2_with fail
            refine (pendU64 P3 _ (by omega) (by omega) (fun l h => by cases h; have := HF.out _ rfl; omega)).mono ?_
            rintro e w4 ⟨rfl, P4⟩
            rw [Int.toNat_natCast] at P4
            simp only [Option.map_some] at P4
            clear hc1 hwr0
            · skip
              have hwr : IntKind.u64.wrap d.n = (asU64 d.n : Int) := u64_wrap _
              have hsz : (bstr wl).size ≤ 21360 := by rw [bstr_size]; omega
              have hsz2 : (bstr (be 8 (asU64 d.n))).size ≤ 8 := by rw [bstr_size, be_length]; omega
              go_wp2
              refine wp_region_noPanic ?_
              go_region_held (fun w' => w'.cell? ⟨b, off + k * 3 + 1, none⟩ = some (.int .i64 d.n)) (first | exact HK.out _ hN7 | exact HK.out _ hN6 | exact HK.out _ P4.1.drew) ((first | (go_at_call 19; refine (size01 _ 3 (by omega)).mono ?_; rintro e w6 ⟨rfl, hn6⟩; have hN6 := New.trans P4.1.drew hn6) | (go_at_call 20; refine (refNumber _ (asU64 d.n) 8 (u64_lt _) (by omega)).mono ?_; rintro e w7 ⟨rfl, hn7⟩; have hN7 := New.trans hN6 hn7)))
              refine NoPanic.normal ?_
              have P7 := P4.later (New.trans (New.trans (Below.refl _ _).drew hn6) hn7)
              clear P4
              go_wp2
              go_roundw
              case rel =>
                refine ⟨k + 1, _, wl ++ be 8 (asU64 d.n), by omega, by go_num, by rw [bstr_append], rfl, P7, (fun l h => by cases h; rfl), by simp [be_length]; omega, (fun l h => by cases h; simp [be_length]; omega)⟩
              case measure => simp [intOf]; omega
        · have hc2 := cell_later P3.1 HC2.out
          cases s with
          | none =>
            rw [Option.isSome_none]
            go_wp2_with fail
            refine (pendRaw P3 _ d.b (HR.out.new P3.1) (fun l h => by cases h)).mono ?_
            rintro e w4 ⟨rfl, P4⟩
            go_wp2
            go_roundw
            case rel => exact ⟨k + 1, none, wl, by omega, by go_num, rfl, rfl, P4, (fun l h => by cases h), by omega, (fun l h => by cases h)⟩
            case measure => simp [intOf]; omega
          | some m =>
            obtain rfl := HW.out _ rfl
            rw [Option.isSome_some]
            go_wp2_with fail
            refine (pendRaw P3 _ d.b (HR.out.new P3.1) (fun l h => by cases h; have := HF.out _ rfl; omega)).mono ?_
            rintro e w4 ⟨rfl, P4⟩
            simp only [Option.map_some] at P4
            clear hc2
            have hc2 := cell_later P4.1 HC2.out
            have ks := run_str (P := Try.prog) Try.underlying28 Try.underlying5 Try.underlying9 (HR.out.new P4.1)
            have hsz : (bstr wl).size ≤ 21360 := by rw [bstr_size]; omega
            have hsz2 : (bstr d.b).size ≤ 700 := by rw [bstr_size]; omega
            go_wp2
            go_roundw
            case rel => exact ⟨k + 1, _, wl ++ d.b, by omega, by go_num, by rw [bstr_append], rfl, P4, (fun l h => by cases h; rfl), by simp; omega, (fun l h => by cases h; simp; omega)⟩
            case measure => simp [intOf]; omega
        · have hc2 := cell_later P3.1 HC2.out
          cases s with
          | none =>
            rw [Option.isSome_none]
            go_wp2_with fail
            refine (pendShort P3 _ d.b HR.out (fun l h => by cases h)).mono ?_
            rintro e w4 ⟨rfl, P4⟩
            rw [wText_none] at P4
            clear hc2
            have hc2 := cell_later P4.1 HC2.out
            by_cases hm : m' ≤ 255
            all_goals
              go_wp2
              go_roundw
              case rel => exact ⟨k + 1, none, wl, by omega, by go_num, rfl, rfl, P4, (fun l h => by cases h), by omega, (fun l h => by cases h)⟩
              case measure => simp [intOf]; omega
          | some m =>
            obtain rfl := HW.out _ rfl
            rw [Option.isSome_some]
            go_wp2_with fail
            refine (pendShort P3 _ d.b HR.out (fun l h => by cases h; have := HF.out _ rfl; omega)).mono ?_
            rintro e w4 ⟨rfl, P4⟩
            clear hc2
            have hc2 := cell_later P4.1 HC2.out
            by_cases hm : m' ≤ 255
            · rw [wText_in 1 d.b wl (by rw [HM.out]; omega)] at P4
              have hsz : (bstr wl).size ≤ 21360 := by rw [bstr_size]; omega
              have hsz2 : (bstr (be 1 d.b.length ++ d.b)).size ≤ 710 := by rw [bstr_size]; simp [be_length]; omega
              go_wp2
              refine wp_region_noPanic ?_
              go_region_held (fun w' => w'.cell? ⟨b, off + k * 3 + 2, none⟩ = some (.slice a' m' c') ∧ (convert 28 9 (.slice a' m' c')).run Try.prog w' = .ok (.string (bstr d.b)) w') (first | exact HK3.out _ hN7 | exact HK3.out _ hN6 | exact HK3.out _ P4.1.drew) ((first | (go_at_call 19; refine (size01 _ 5 (by omega)).mono ?_; rintro e w6 ⟨rfl, hn6⟩; have hN6 := New.trans P4.1.drew hn6) | (go_at_call 21; refine (refText _ d.b 1 (by omega) (by omega)).mono ?_; rintro e w7 ⟨rfl, hn7⟩; have hN7 := New.trans hN6 hn7)))
              refine NoPanic.normal ?_
              have P7 := P4.later (New.trans (New.trans (Below.refl _ _).drew hn6) hn7)
              clear P4
              go_wp2
              go_roundw
              case rel =>
                refine ⟨k + 1, _, wl ++ (be 1 d.b.length ++ d.b), by omega, by go_num, by rw [bstr_append], rfl, P7, (fun l h => by cases h; rfl), by simp [be_length]; omega, (fun l h => by cases h; simp [be_length]; omega)⟩
              case measure => simp [intOf]; omega
            · have e1 : wText 1 d.b (some wl) = none := by
                unfold wText wU
                rw [if_neg (by rw [HM.out]; omega)]
                rfl
              rw [e1] at P4
              clear e1
              go_wp2
              go_roundw
              case rel => exact ⟨k + 1, none, wl, by omega, by go_num, rfl, rfl, P4, (fun l h => by cases h), by omega, (fun l h => by cases h)⟩
              case measure => simp [intOf]; omega
        · have hc2 := cell_later P3.1 HC2.out
          cases s with
          | none =>
            rw [Option.isSome_none]
            go_wp2_with fail
            refine (pendLong P3 _ d.b HR.out (fun l h => by cases h)).mono ?_
            rintro e w4 ⟨rfl, P4⟩
            rw [wText_none] at P4
            go_wp2
            go_roundw
            case rel => exact ⟨k + 1, none, wl, by omega, by go_num, rfl, rfl, P4, (fun l h => by cases h), by omega, (fun l h => by cases h)⟩
            case measure => simp [intOf]; omega
          | some m =>
            obtain rfl := HW.out _ rfl
            rw [Option.isSome_some]
            go_wp2_with fail
            refine (pendLong P3 _ d.b HR.out (fun l h => by cases h; have := HF.out _ rfl; omega)).mono ?_
            rintro e w4 ⟨rfl, P4⟩
            clear hc2
            rw [wText_in 2 d.b wl (by omega)] at P4
            · skip
              have hsz : (bstr wl).size ≤ 21360 := by rw [bstr_size]; omega
              have hsz2 : (bstr (be 2 d.b.length ++ d.b)).size ≤ 710 := by rw [bstr_size]; simp [be_length]; omega
              go_wp2
              refine wp_region_noPanic ?_
              go_region_held (fun w' => w'.cell? ⟨b, off + k * 3 + 2, none⟩ = some (.slice a' m' c') ∧ (convert 28 9 (.slice a' m' c')).run Try.prog w' = .ok (.string (bstr d.b)) w') (first | exact HK3.out _ hN7 | exact HK3.out _ hN6 | exact HK3.out _ P4.1.drew) ((first | (go_at_call 19; refine (size01 _ 6 (by omega)).mono ?_; rintro e w6 ⟨rfl, hn6⟩; have hN6 := New.trans P4.1.drew hn6) | (go_at_call 21; refine (refText _ d.b 2 (by omega) (by omega)).mono ?_; rintro e w7 ⟨rfl, hn7⟩; have hN7 := New.trans hN6 hn7)))
              refine NoPanic.normal ?_
              have P7 := P4.later (New.trans (New.trans (Below.refl _ _).drew hn6) hn7)
              clear P4
              go_wp2
              go_roundw
              case rel =>
                refine ⟨k + 1, _, wl ++ (be 2 d.b.length ++ d.b), by omega, by go_num, by rw [bstr_append], rfl, P7, (fun l h => by cases h; rfl), by simp [be_length]; omega, (fun l h => by cases h; simp [be_length]; omega)⟩
              case measure => simp [intOf]; omega
      · -- the end
        obtain rfl : k = l.length := by omega
        go_wp2_with fail
        refine (pendBytes P3 (fun l h => by have := hfit l h; omega)).mono ?_
        rintro e w4 ⟨⟨av, ns, cs, rfl, hr4, hn4, _⟩, P4⟩
        have ks := run_str (P := Try.prog) Try.underlying28 Try.underlying5 Try.underlying9 hr4
        cases s with
        | none =>
          have hns : ns = 0 := by have := hr4.len; simpa using this.symm
          subst hns
          simp only [Option.isSome_none, Option.getD_none] at ks ⊢
          go_wp2
          go_ret
          exact ⟨rfl, New.trans hn1 P4.1⟩
        | some m =>
          obtain rfl := hwl _ rfl
          simp only [Option.isSome_some, Option.getD_some] at ks ⊢
          clear hwl hfit
          have kb : ((bstr wl).toList == (bstr wl).toList) = true := by simp
          go_wp2
          go_ret
          exact ⟨rfl, New.trans hn1 P4.1⟩
  · have HS := Lib.hid (Bool.eq_false_iff.2 hs)
    clear hs
    go_enter Try.func3, Try.ntmps3
    go_wp2_with fail
    refine (awake01 w).mono ?_
    rintro e w1 ⟨rfl, hn1⟩
    go_wp2_with fail
    refine (small01 w1 _ l 30 (h.new hn1) (by omega)).mono ?_
    rw [HS.out]
    rintro e w2 ⟨rfl, rfl⟩
    go_wp2_with fail
    refine (awake01 w1).mono ?_
    rintro e w2 ⟨rfl, hn2⟩
    go_wp2
    go_ret
    exact ⟨rfl, New.trans hn1 hn2⟩

theorem pensLaw (w : World) (v : Value) (l : List PartD) (h : RdParts w v l) :
    Calls Try.prog 3 #[v] w fun e w' => e = .returned (.bool true) ∧ New w w' := pensWalk w v l h

end Go.Proofs.Ytfnnicdlncgfkaa
