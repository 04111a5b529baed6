/-
  segment: Head, Fits, first; bytes.Clone.
-/
import Derived.Test.YtjkhklbeimgggaaDoorSegFns
namespace Go.Proofs.YtjkhklbeimgggaaDoor
set_option linter.unusedVariables false
set_option linter.unusedSimpArgs false
open Go.RowKit

/-- copy into the beginning of a new row of zeros -/
theorem run_copy_zero {w : World} {g m : Nat} {a : Option Addr} {n c : Nat} {l : List UInt8} (hg : w.heap[g]? = some (.cells (List.replicate m (bv 0)).toArray 5)) (h : Rd w (.slice a n c) l) (hl : l.length = n) (h64 : n ≤ m) (h0 : 0 < n) :
    ∃ w', (Builtin.copy_ #[22, 22] 3 #[.slice (some ⟨g, 0, none⟩) m m, .slice a n c]).run Tryd.prog w = .ok (.int .i64 n) w' ∧ w'.heap[g]? = some (.cells ((l ++ List.replicate (m - l.length) 0).map bv).toArray 5) ∧ Only (fun k => k = g) w w' := by
  obtain ⟨a', n', c', e, h1, h2, h3, h4, h5⟩ := h
  cases e
  cases a with
  | none => have := (h4 rfl).1; omega
  | some ad =>
    have hr := run_copy_row (P := Tryd.prog) w 22 22 3 5 g 0 m m ad n c _ _ (l.map bv) Tryd.underlying22 (by kernel_rfl) hg (by rw [List.length_map, hl]; exact (Nat.min_eq_left h64).symm)
      (fun j v hj => by
        rw [List.getElem?_map] at hj
        cases hbb : l[j]? with
        | none => rw [hbb] at hj; cases hj
        | some x => rw [hbb] at hj; cases hj; exact h5 ad rfl j x hbb)
      (by simp; omega) (oneCell_bv l)
    rw [List.length_map, hl] at hr
    refine ⟨_, hr, ?_, ⟨rfl, rfl, rfl, by simp, fun k _ hk => setRow_other w g k _ hk⟩⟩
    rw [setRow_heap _ _ _ _ _ _ hg]
    simp [hl]

/-- a whole row of one's own -/
theorem own_of_full {w : World} {base g : Nat} {l : List UInt8} {e : TypeId} (hg : w.heap[g]? = some (.cells (l.map bv).toArray e)) (hb : base ≤ g) (hl : l.length ≤ 9223372036854775807) :
    w.ownsRow base e 1 (.slice (some ⟨g, 0, none⟩) l.length l.length) l.length (l.map bv) :=
  ⟨by simp, .inr ⟨g, l.length, (l.map bv).toArray, rfl, hb, hg, Nat.le_refl _, by simpa [maxLen] using hl, by simp, by simp [List.take_of_length_le]⟩⟩

set_option maxRecDepth 100000 in
set_option maxHeartbeats 1000000 in
theorem segHead (w : World) (number count : Int) (x : Value) (ch : List UInt8) (hx : Rd w x ch) (hn : -9223372036854775808 ≤ number) (hn' : number ≤ 9223372036854775807) (hc : -9223372036854775808 ≤ count) (hc' : count ≤ 9223372036854775807) :
    Calls Tryd.prog 8 #[.int .i64 number, .int .i64 count, x] w (OwnRet w (sHeadOf number count ch)) := by
  have kc := fun (w : World) (C : Array Value) (n c : Nat) => Lib.run_convert_bytes_const (P := Tryd.prog) w 22 5 C n c Tryd.underlying22 Tryd.underlying5
  have HX := Lib.hid hx
  obtain ⟨ax, nx, cx, rfl, hl, hle, hm, -⟩ := hx
  unfold maxLen at hm
  have HP := Lib.hid (segPlaced w count ax nx cx (by omega))
  by_cases h : 0 ≤ count ∧ ch.length = 32
  · rw [decide_eq_true (by omega)] at HP
    have hw : IntKind.u64.wrap count = count := IntWalk.u64_in _ (by omega)
    have HL : Hid (ch.length = 32) := Lib.hid h.2
    have hc0 := h.1
    clear hl hle hm
    go_enter Tryd.func8, Tryd.ntmps8
    go_wp2_with fail
    refine HP.out.mono ?_
    rintro e w1 ⟨rfl, rfl⟩
    go_wp2_with fail
    refine (penNew w).mono ?_
    rintro e w1 ⟨rfl, hp1, N1, -⟩
    have P1 := Lib.hid (Pend.start hp1 N1)
    clear hp1 HP
    have P2 := Lib.hid (P1.out.later ((Below.refl _ _).alloc (Nat.le_refl _) (.cells (([101, 110, 103, 114] : List UInt8).map bv).toArray 5 (4, 5))))
    have R2 := Rd.made w1 [101, 110, 103, 114] 5 (4, 5) (by decide)
    have HR := Lib.hid (pendRaw P2.out _ _ R2 (fun m h => by cases h; decide))
    clear R2
    go_wp2_with fail
    refine HR.out.mono ?_
    rintro e w3 ⟨rfl, p3⟩
    have P3 := Lib.hid p3
    clear p3 P2 HR P1 N1
    simp only [Option.map_some, List.nil_append] at P3
    have HU := Lib.hid (pendU32 P3.out number hn hn' (fun m h => by cases h; decide))
    by_cases hr : 0 ≤ number ∧ number ≤ 4294967295
    · have HF : Hid (sHeadOf number count ch = sHead number.toNat count.toNat ch) := Lib.hid (if_pos ⟨h.1, h.2, hr⟩)
      obtain ⟨n, rfl⟩ := Int.eq_ofNat_of_zero_le hr.1
      rw [wU_in 4 n _ (by omega)] at HU
      have hbl := be_length 4 n
      go_wp2_with fail
      refine HU.out.mono ?_
      rintro e w4 ⟨rfl, p4⟩
      have P4 := Lib.hid p4
      clear p4 P3 HU
      have HV := Lib.hid (pendRaw P4.out _ _ (HX.out.new P4.out.1) (fun m h => by cases h; simp [hbl, HL.out]))
      go_wp2_with fail
      refine HV.out.mono ?_
      rintro e w5 ⟨rfl, p5⟩
      have P5 := Lib.hid p5
      clear p5 P4 HV
      simp only [Option.map_some] at P5
      have HW := Lib.hid (pendU64 P5.out count (by omega) (by omega) (fun m h => by cases h; simp [hbl, HL.out]))
      go_wp2_with fail
      refine HW.out.mono ?_
      rintro e w6 ⟨rfl, p6⟩
      have P6 := Lib.hid p6
      clear p6 P5 HW
      simp only [Option.map_some] at P6
      have hbl8 := be_length 8 count.toNat
      have HB := Lib.hid (pendBytes P6.out (fun m h => by cases h; simp [hbl, hbl8, HL.out]))
      have HE : Hid ([101, 110, 103, 114] ++ be 4 n ++ ch ++ be 8 count.toNat = sHeadRaw n count.toNat ch) := Lib.hid rfl
      rw [HE.out] at HB
      go_wp2_with fail
      refine HB.out.mono ?_
      rintro e w7 ⟨⟨a, nb, cb, rfl, r7, N7, -⟩, p7⟩
      have R7 := Lib.hid r7
      have N7 := Lib.hid p7.1
      clear r7 p7 HB P6
      simp only [Option.isSome_some, Option.getD_some] at R7 ⊢
      have hmk : ∀ wx : World, (Instr.makeSlice 22 (.int .i64 128) (.int .i64 128)).run Tryd.prog wx = .ok (.slice (some ⟨wx.heap.size, 0, none⟩) 128 128) (wx.alloc (.cells (List.replicate 128 (bv 0)).toArray 5)) := fun wx => run_make_bytes 128 128 (by omega) (by omega) (by omega) wx
      go_upto_region 12 with fail
      clear hmk
      generalize hw8 : World.alloc w7 _ = w8
      have N8 : New w7 w8 := by rw [← hw8]; exact (Below.refl _ _).alloc (Nat.le_refl _) _
      have G8 : Hid (w8.heap[w7.heap.size]? = some (.cells (List.replicate 128 (bv 0)).toArray 5)) := Lib.hid (by rw [← hw8]; exact heap_alloc_new _ _)
      have hs8 : w8.heap.size = w7.heap.size + 1 := by rw [← hw8]; simp
      clear hw8
      have HC := Lib.hid (crcWith_calls w8 _ _ (R7.out.new N8) (by rw [sHeadRaw_length, HL.out]; decide))
      obtain ⟨gb, hgb⟩ : ∃ gb, w7.heap.size = gb := ⟨_, rfl⟩
      have HSZ : Hid (w.heap.size ≤ gb ∧ w8.heap.size = gb + 1) := Lib.hid ⟨by have := N7.out.size; omega, by omega⟩
      rw [hgb] at G8
      have N8w := Lib.hid (New.trans N7.out N8)
      clear hs8 N8
      rw [hgb]
      clear hgb R7 N7
      go_wp2_with fail
      refine HC.out.mono ?_
      rintro e w9 ⟨a9, n9, c9, rfl, r9, N9, -⟩
      have hlen : (crcWith (sHeadRaw n count.toNat ch)).length = 52 := by rw [crcWith_length, sHeadRaw_length, HL.out]
      have hn9 : n9 = 52 := by rw [← r9.len, hlen]
      subst hn9
      have G9 : w9.heap[gb]? = some (.cells (List.replicate 128 (bv 0)).toArray 5) := (N9.block gb (by have := HSZ.out; omega)).trans G8.out
      obtain ⟨w10, hcp, G10, O10⟩ := run_copy_zero G9 r9 hlen (by omega) (by omega)
      have HO := Lib.hid (own_of_full (base := w.heap.size) G10 HSZ.out.1 (by simp; omega))
      have e1 : (crcWith (sHeadRaw n count.toNat ch) ++ List.replicate (128 - (crcWith (sHeadRaw n count.toNat ch)).length) 0).length = 128 := sHead_length n count.toNat ch HL.out
      rw [e1] at HO
      have N10 : Hid (New w w10) := Lib.hid (Below.trans (New.trans N8w.out N9) (O10.below (by have := HSZ.out; have := N9.size; have := N8w.out.size; omega) (fun k hk => by subst hk; exact HSZ.out.1)))
      clear G10 O10 G9 r9 N9 hlen G8 HC N8w HSZ e1
      go_wp2
      go_ret
      rw [HF.out]
      refine ⟨_, rfl, ?_, N10.out⟩
      rw [sHead_length _ _ _ HL.out]
      exact HO.out
    · have HF : Hid (sHeadOf number count ch = []) := Lib.hid (if_neg (fun hh => hr ⟨hh.2.2.1, hh.2.2.2⟩))
      have hwu : ∀ l, wU 4 number (some l) = none := fun l => if_neg (fun hh => hr ⟨hh.1, by have := hh.2; omega⟩)
      rw [hwu] at HU
      clear hwu
      go_wp2_with fail
      refine HU.out.mono ?_
      rintro e w4 ⟨rfl, p4⟩
      have P4 := Lib.hid p4
      clear p4 P3 HU
      have HV := Lib.hid (pendRaw P4.out _ _ (HX.out.new P4.out.1) (fun m h => by cases h))
      go_wp2_with fail
      refine HV.out.mono ?_
      rintro e w5 ⟨rfl, p5⟩
      have P5 := Lib.hid p5
      clear p5 P4 HV
      simp only [Option.map_none] at P5
      have HW := Lib.hid (pendU64 P5.out count (by omega) (by omega) (fun m h => by cases h))
      go_wp2_with fail
      refine HW.out.mono ?_
      rintro e w6 ⟨rfl, p6⟩
      have P6 := Lib.hid p6
      clear p6 P5 HW
      simp only [Option.map_none] at P6
      have HB := Lib.hid (pendBytes P6.out (fun m h => by cases h))
      go_wp2_with fail
      refine HB.out.mono ?_
      rintro e w7 ⟨⟨a, nb, cb, rfl, -, -, -⟩, p7⟩
      have N7 := Lib.hid p7.1
      clear p7 HB P6
      simp only [Option.isSome_none]
      go_wp2
      go_ret
      rw [HF.out]
      exact OwnRet.none N7.out
  · have HF : Hid (sHeadOf number count ch = []) := Lib.hid (if_neg (fun hh => h ⟨hh.1, hh.2.1⟩))
    rw [decide_eq_false (by omega)] at HP
    clear hl hle hm
    go_enter Tryd.func8, Tryd.ntmps8
    go_wp2_with fail
    refine HP.out.mono ?_
    rintro e w1 ⟨rfl, rfl⟩
    go_wp2
    go_ret
    rw [HF.out]
    exact OwnRet.none (Below.refl _ _)


def sFits (size used text : Int) : Bool := decide (1 ≤ text ∧ text ≤ 65535 ∧ used ≤ size ∧ text + 88 ≤ size - used)

set_option maxHeartbeats 400000 in
theorem segFits (w : World) (size used text : Int) (h1 : -9223372036854775808 ≤ size) (h2 : size ≤ 9223372036854775807) (h3 : -9223372036854775808 ≤ used) (h4 : used ≤ 9223372036854775807) :
    Calls Tryd.prog 18 #[.int .i64 size, .int .i64 used, .int .i64 text] w fun e w' => e = .returned (.bool (sFits size used text)) ∧ w = w' := by
  have HP := Lib.hid (segFramed w text)
  by_cases hf : 1 ≤ text ∧ text ≤ 65535
  · rw [decide_eq_true hf] at HP
    by_cases hs : size < used
    · have HF : Hid (sFits size used text = false) := Lib.hid (decide_eq_false (by omega))
      go_enter Tryd.func18, Tryd.ntmps18
      go_wp2_with fail
      refine HP.out.mono ?_
      rintro e w1 ⟨rfl, rfl⟩
      go_wp2
      go_ret
      exact ⟨by rw [HF.out]; rfl, rfl⟩
    · have e1 : IntKind.u64.wrap (IntKind.u64.wrap size - IntKind.u64.wrap used) = size - used := by
        have a1 : IntKind.u64.wrap size = size % 18446744073709551616 := rfl
        have a2 : IntKind.u64.wrap used = used % 18446744073709551616 := rfl
        rw [a1, a2]
        show (size % 18446744073709551616 - used % 18446744073709551616) % 18446744073709551616 = _
        omega
      have e2 : IntKind.u64.wrap (40 + text + 48) = text + 88 := by rw [IntWalk.u64_in _ (by omega)]; omega
      have HF : Hid (sFits size used text = decide (text + 88 ≤ size - used)) := Lib.hid (by unfold sFits; rw [decide_eq_decide]; omega)
      obtain ⟨b, hb⟩ : ∃ b, decide (text + 88 ≤ size - used) = b := ⟨_, rfl⟩
      rw [hb] at HF
      go_enter Tryd.func18, Tryd.ntmps18
      go_wp2_with fail
      refine HP.out.mono ?_
      rintro e w1 ⟨rfl, rfl⟩
      go_wp2
      go_ret
      exact ⟨by rw [HF.out]; rfl, rfl⟩
  · rw [decide_eq_false hf] at HP
    have HF : Hid (sFits size used text = false) := Lib.hid (decide_eq_false (by omega))
    go_enter Tryd.func18, Tryd.ntmps18
    go_wp2_with fail
    refine HP.out.mono ?_
    rintro e w1 ⟨rfl, rfl⟩
    go_wp2
    go_ret
    exact ⟨by rw [HF.out]; rfl, rfl⟩

/-- a new copy -/
def CloneNew (w : World) (l : List UInt8) (e : Ending) (w' : World) : Prop := ∃ a n c, e = .returned (.slice a n c) ∧ Rd w' (.slice a n c) l ∧ New w w' ∧ (l ≠ [] → ∀ k, blk (.slice a n c) = some k → w.heap.size ≤ k)

set_option maxRecDepth 100000 in
set_option maxHeartbeats 400000 in
theorem cloneNew (w : World) (x : Value) (l : List UInt8) (h : Rd w x l) (hn : l.length ≤ 140737488355328) : Calls Tryd.prog 35 #[x] w (CloneNew w l) := by
  obtain ⟨i0, hi0, hz0, hz1, hz2⟩ := info_parts infoByte
  have HV := Lib.hid h
  have h' := h
  obtain ⟨a, n, c, rfl, h1, h2, h3, h4, h5⟩ := h'
  cases a with
  | none =>
    obtain ⟨rfl, rfl⟩ := h4 rfl
    obtain rfl := List.eq_nil_of_length_eq_zero h1
    have he : ∀ wx : World, (binOp .eql 22 (.slice none 0 0) (.slice none 0 0)).run Tryd.prog wx = .ok (.bool true) wx := fun _ => rfl
    clear h5 h1 h4
    go_enter Tryd.func35, Tryd.ntmps35
    go_wp2
    go_ret
    exact ⟨none, 0, 0, rfl, Rd.nil _, Below.refl _ _, fun h => absurd rfl h⟩
  | some ad =>
    have N1 : New w (w.alloc (.cells #[] 5)) := (Below.refl _ _).alloc (Nat.le_refl _) _
    have HX := Lib.hid (HV.out.new N1)
    have HN := Lib.hid hn
    have he : ∀ wx : World, (binOp .eql 22 (.slice (some ad) n c) (.slice none 0 0)).run Tryd.prog wx = .ok (.bool false) wx := fun _ => rfl
    clear h h1 h2 h3 h4 h5 hn
    go_enter Tryd.func35, Tryd.ntmps35
    go_wp2_with (at_builtin; (refine wpList_append_copy rfl (.tmp 5) (.tmp 6) 22 rfl 5 i0 _ Tryd.underlying22 hi0 hz0 hz1 hz2 rfl _ rfl _ l rfl HX.out HN.out ?_))
    intro v' w' h6 h7 h8
    obtain ⟨av, nv, cv, rfl⟩ : ∃ a n c, v' = .slice a n c := by obtain ⟨a, n, c, e, _⟩ := h6; exact ⟨a, n, c, e⟩
    have H6 := Lib.hid h6
    have H7 := Lib.hid h7
    have H8 := Lib.hid h8
    clear h6 h7 h8
    go_wp2
    go_ret
    exact ⟨av, nv, cv, rfl, H6.out, New.trans N1 H7.out, fun hne k hk => by have h9 := own_from (H8.out hne) k hk; have h10 := N1.size; omega⟩


end Go.Proofs.YtjkhklbeimgggaaDoor
