/-
  segment: placed, framed, checked, foot, Foot, Head, Frame, Fits; bytes.HasPrefix; bytes.Clone.
-/
import Derived.Test.YtjkhklbeimgggaaDoorChain
import Derived.Test.YtjkhklbeimgggaaDoorCrcOps
import Derived.Test.YtjkhklbeimgggaaDoorSegSpec
namespace Go.Proofs.YtjkhklbeimgggaaDoor
set_option linter.unusedVariables false
set_option linter.unusedSimpArgs false
open Go.RowKit

theorem bytesEq (w : World) (x y : Value) (l m : List UInt8) (hx : Rd w x l) (hy : Rd w y m) : Calls Tryd.prog 34 #[x, y] w fun e w' => e = .returned (.bool (decide (l = m))) ∧ w = w' := by
  refine (bytesEqual w x y l m hx hy).mono ?_
  rintro e w' ⟨rfl, rfl⟩
  rw [bstr_list, bstr_list]
  exact ⟨by congr 2; rw [Bool.eq_iff_iff]; simp, rfl⟩

theorem hasPrefix (w : World) (x y : Value) (l m : List UInt8) (hx : Rd w x l) (hy : Rd w y m) : Calls Tryd.prog 37 #[x, y] w fun e w' => e = .returned (.bool (decide (l.take m.length = m))) ∧ w = w' := by
  have hx' := hx
  have hy' := hy
  obtain ⟨a1, n1, c1, rfl, hl1, hn1, hc1, -⟩ := hx'
  obtain ⟨a2, n2, c2, rfl, hl2, hn2, hc2, -⟩ := hy'
  unfold maxLen at hc1 hc2
  by_cases h : n2 ≤ n1
  · have HX := Lib.hid (bytesEq w _ _ _ _ (hx.cut (k := n2) (c' := c1) h (by omega) (Nat.le_refl _)) hy)
    have h' : (n2 : Int) ≤ (n1 : Int) := by omega
    rw [hl2]
    generalize decide (l.take n2 = m) = d at *
    clear hx hy hl1 hl2 h
    go_enter Tryd.func37, Tryd.ntmps37
    go_wp2_with fail
    refine HX.out.mono ?_
    rintro e w' ⟨rfl, rfl⟩
    go_wp2
    go_ret
    exact ⟨rfl, rfl⟩
  · have h' : ¬ (n2 : Int) ≤ (n1 : Int) := by omega
    have hd : decide (l.take m.length = m) = false := by
      refine decide_eq_false fun e => ?_
      have := congrArg List.length e
      rw [List.length_take] at this
      omega
    rw [hd]
    clear hx hy hl1 hl2 h hd
    go_enter Tryd.func37, Tryd.ntmps37
    go_wp2
    go_ret
    exact ⟨rfl, rfl⟩

theorem segPlaced (w : World) (count : Int) (a : Option Addr) (n c : Nat) (hn : n ≤ 9223372036854775807) : Calls Tryd.prog 20 #[.int .i64 count, .slice a n c] w fun e w' => e = .returned (.bool (decide (0 ≤ count ∧ n = 32))) ∧ w = w' := by
  by_cases h : 0 ≤ count
  · have hd : decide (0 ≤ count ∧ n = 32) = decide ((n : Int) = 32) := by rw [decide_eq_decide]; omega
    rw [hd]
    by_cases h2 : (n : Int) = 32
    · rw [decide_eq_true h2]
      go_enter Tryd.func20, Tryd.ntmps20
      go_wp2
      go_ret
      exact ⟨rfl, rfl⟩
    · rw [decide_eq_false h2]
      have hq : ((n : Int) == 32) = false := by simp; omega
      go_enter Tryd.func20, Tryd.ntmps20
      go_wp2
      go_ret
      exact ⟨congrArg (fun b => Ending.returned (.bool b)) (by first | rfl | exact hq), rfl⟩
  · rw [decide_eq_false (by omega)]
    go_enter Tryd.func20, Tryd.ntmps20
    go_wp2
    go_ret
    exact ⟨rfl, rfl⟩

theorem segFramed (w : World) (n : Int) : Calls Tryd.prog 28 #[.int .i64 n] w fun e w' => e = .returned (.bool (decide (1 ≤ n ∧ n ≤ 65535))) ∧ w = w' := by
  by_cases h : 1 ≤ n
  · by_cases h2 : n ≤ 65535
    · rw [decide_eq_true ⟨h, h2⟩]
      go_enter Tryd.func28, Tryd.ntmps28
      go_wp2
      go_ret
      exact ⟨rfl, rfl⟩
    · rw [decide_eq_false (by omega)]
      go_enter Tryd.func28, Tryd.ntmps28
      go_wp2
      go_ret
      exact ⟨rfl, rfl⟩
  · rw [decide_eq_false (by omega)]
    go_enter Tryd.func28, Tryd.ntmps28
    go_wp2
    go_ret
    exact ⟨rfl, rfl⟩

theorem OwnRet.rd {w w' : World} {v : Value} {l : List UInt8} (h : w'.ownsRow w.heap.size 5 1 v l.length (l.map bv)) : Rd w' v l ∧ (∀ k, blk v = some k → w.heap.size ≤ k) := ⟨Rd.of_own h, own_from h⟩

theorem OwnRet.none {w w' : World} (hn : New w w') : OwnRet w [] (.returned (.slice none 0 0)) w' := ⟨_, rfl, World.ownsRow_nil w' _ _ _, hn⟩

theorem OwnRet.then {w w1 w2 : World} {l : List UInt8} {e : Ending} (h : OwnRet w1 l e w2) (hn : New w w1) : OwnRet w l e w2 := by
  obtain ⟨v, rfl, h1, h2⟩ := h
  exact ⟨v, rfl, own_base h1 hn.size, New.trans hn h2⟩

set_option maxHeartbeats 400000 in
theorem segChecked (w : World) (p : Nat) (g : Option Nat) (l : List UInt8) (h : Pen w p g (some l)) (hb : l.length ≤ 140737488355000) :
    Calls Tryd.prog 30 #[.pointer (some ⟨p, 0, none⟩)] w (OwnRet w (crcWith l)) := by
  have HB := Lib.hid (penBytes w p g (some l) h (fun m e => by cases e; omega))
  clear h
  go_enter Tryd.func30, Tryd.ntmps30
  go_wp2_with fail
  refine HB.out.mono ?_
  rintro e w1 ⟨a, n, c, rfl, r1, N1, -⟩
  have HW := Lib.hid (crcWith_calls w1 (.slice a n c) l r1 (by omega))
  clear r1 HB
  simp only [Option.isSome_some]
  go_wp2_with fail
  refine HW.out.mono ?_
  rintro e w2 ⟨a2, n2, c2, rfl, -, N2, o2⟩
  have HO := Lib.hid (own_base o2 N1.size)
  clear o2 HW
  go_wp2
  go_ret
  exact ⟨_, rfl, HO.out, New.trans N1 N2⟩


set_option maxRecDepth 100000 in
set_option maxHeartbeats 1000000 in
theorem segFoot (w : World) (n : Int) (x : Value) (ch : List UInt8) (hx : Rd w x ch) (hn : 0 ≤ n) (hn' : n < 18446744073709551616) (hb : ch.length ≤ 140737488350000) :
    Calls Tryd.prog 27 #[.int .u64 n, x] w (OwnRet w (sFoot n.toNat ch)) := by
  have kc := fun (w : World) (C : Array Value) (n c : Nat) => Lib.run_convert_bytes_const (P := Tryd.prog) w 22 5 C n c Tryd.underlying22 Tryd.underlying5
  have HX := Lib.hid hx
  obtain ⟨ax, nx, cx, rfl, -⟩ := hx
  go_enter Tryd.func27, Tryd.ntmps27
  go_wp2_with fail
  refine (penNew w).mono ?_
  rintro e w1 ⟨rfl, hp1, N1, -⟩
  have P1 := Lib.hid (Pend.start hp1 N1)
  clear hp1
  have P2 := Lib.hid (P1.out.later ((Below.refl _ _).alloc (Nat.le_refl _) (.cells (([255, 255, 255, 255] : List UInt8).map bv).toArray 5 (4, 5))))
  have R2 := Rd.made w1 [255, 255, 255, 255] 5 (4, 5) (by decide)
  have HR := Lib.hid (pendRaw P2.out _ _ R2 (fun m h => by cases h; decide))
  clear R2
  go_wp2_with fail
  refine HR.out.mono ?_
  rintro e w3 ⟨rfl, p3⟩
  have P3 := Lib.hid p3
  clear p3 P2 HR P1
  simp only [Option.map_some, List.nil_append] at P3
  have HU := Lib.hid (pendU64 P3.out n hn hn' (fun m h => by cases h; decide))
  go_wp2_with fail
  refine HU.out.mono ?_
  rintro e w4 ⟨rfl, p4⟩
  have P4 := Lib.hid p4
  clear p4 P3 HU
  simp only [Option.map_some] at P4
  have hbl := be_length 8 n.toNat
  have HV := Lib.hid (pendRaw P4.out _ _ (HX.out.new P4.out.1) (fun m h => by cases h; simp [hbl]; omega))
  go_wp2_with fail
  refine HV.out.mono ?_
  rintro e w5 ⟨rfl, p5⟩
  obtain ⟨h1, h2, g, h3, h4⟩ := p5
  have HC := Lib.hid (segChecked w5 _ g _ h3 (by simp [hbl]; omega))
  have N5 := Lib.hid h1
  clear h1 h2 h3 h4 P4 HV
  go_wp2_with fail
  refine HC.out.mono ?_
  rintro e w6 h6
  obtain ⟨v, rfl, h7, h8⟩ := h6.then N5.out
  have HO := Lib.hid h7
  have HN := Lib.hid h8
  clear h6 h7 h8 HC hbl
  go_wp2
  go_ret
  exact ⟨v, rfl, HO.out, HN.out⟩

theorem segFootPub (w : World) (count : Int) (x : Value) (ch : List UInt8) (hx : Rd w x ch) (hc : -9223372036854775808 ≤ count) (hc' : count ≤ 9223372036854775807) (hb : ch.length ≤ 140737488350000) :
    Calls Tryd.prog 9 #[.int .i64 count, x] w (OwnRet w (sFootOf count ch)) := by
  have HX := Lib.hid hx
  obtain ⟨ax, nx, cx, rfl, hl, hle, hm, -⟩ := hx
  unfold maxLen at hm
  have HP := Lib.hid (segPlaced w count ax nx cx (by omega))
  by_cases h : 0 ≤ count ∧ ch.length = 32
  · have HF : Hid (sFootOf count ch = sFoot count.toNat ch) := Lib.hid (if_pos h)
    rw [decide_eq_true (by omega)] at HP
    have HQ := Lib.hid (segFoot w count _ ch HX.out h.1 (by omega) hb)
    have hw : IntKind.u64.wrap count = count := IntWalk.u64_in _ (by omega)
    clear hl hle hm
    go_enter Tryd.func9, Tryd.ntmps9
    go_wp2_with fail
    refine HP.out.mono ?_
    rintro e w1 ⟨rfl, rfl⟩
    go_wp2_with fail
    refine HQ.out.mono ?_
    rintro e w6 ⟨v, rfl, h7, h8⟩
    have HO := Lib.hid h7
    have HN := Lib.hid h8
    clear h7 h8 HQ HP
    go_wp2
    go_ret
    rw [HF.out]
    exact ⟨v, rfl, HO.out, HN.out⟩
  · have HF : Hid (sFootOf count ch = []) := Lib.hid (if_neg h)
    rw [decide_eq_false (by omega)] at HP
    clear hl hle hm
    go_enter Tryd.func9, Tryd.ntmps9
    go_wp2_with fail
    refine HP.out.mono ?_
    rintro e w1 ⟨rfl, rfl⟩
    go_wp2
    go_ret
    rw [HF.out]
    exact OwnRet.none (Below.refl _ _)

def FrameTo (w : World) (f nx : List UInt8) (e : Ending) (w' : World) : Prop := ∃ v a n c, e = .returned (.tuple #[v, .slice a n c]) ∧ w'.ownsRow w.heap.size 5 1 v f.length (f.map bv) ∧ Rd w' (.slice a n c) nx ∧ (∀ k, blk (.slice a n c) = some k → w.heap.size ≤ k) ∧ (∀ k, blk v = some k → blk (.slice a n c) ≠ some k) ∧ New w w'

def sFramed (ch t : List UInt8) : Prop := (1 ≤ t.length ∧ t.length ≤ 65535) ∧ ch.length = 32
instance (ch t : List UInt8) : Decidable (sFramed ch t) := by unfold sFramed; infer_instance

set_option maxRecDepth 100000 in
set_option maxHeartbeats 1000000 in
theorem segFrame (w : World) (x y : Value) (ch t : List UInt8) (hx : Rd w x ch) (hy : Rd w y t) (hL : Laid w) :
    Calls Tryd.prog 10 #[x, y] w (FrameTo w (if sFramed ch t then sFrame ch t else []) (if sFramed ch t then sNext ch t else [])) := by
  have HX := Lib.hid hx
  have HY := Lib.hid hy
  obtain ⟨ax, nx, cx, rfl, hl, hle, hm, -⟩ := hx
  obtain ⟨ay, ny, cy, rfl, kl, kle, km, -⟩ := hy
  unfold maxLen at hm km
  have HP := Lib.hid (segFramed w (ny : Int))
  by_cases h : sFramed ch t
  · rw [if_pos h, if_pos h]
    obtain ⟨⟨h1, h2⟩, h3⟩ := h
    rw [decide_eq_true (by omega)] at HP
    have hd : ((nx : Int) == 32) = true := by simp; omega
    have HCh := Lib.hid (recChainN w _ _ ch t HX.out HY.out (by omega) hL)
    have HT : Hid (t.length = ny) := Lib.hid kl
    have HT2 : Hid (t.length ≤ 65535) := Lib.hid h2
    have hny : (ny : Int) ≤ 65535 := by omega
    clear hL
    go_enter Tryd.func10, Tryd.ntmps10
    go_wp2_with fail
    refine HP.out.mono ?_
    rintro e w1 ⟨rfl, rfl⟩
    go_wp2_with fail
    refine HCh.out.mono ?_
    rintro e w2 ⟨an, nn, cn, rfl, r2, N2, b2⟩
    have R2 := Lib.hid r2
    have N2 := Lib.hid N2
    have B2 := Lib.hid b2
    clear r2 b2 HCh HP
    go_wp2_with fail
    refine (penNew w2).mono ?_
    rintro e w3 ⟨rfl, hp3, N3, -⟩
    have P3 := Lib.hid (Pend.start hp3 N3)
    clear hp3 N3
    have HU := Lib.hid (pendU32 P3.out (ny : Int) (by omega) (by omega) (fun m h => by cases h; decide))
    rw [wU_in 4 ny [] (by omega)] at HU
    go_wp2_with fail
    refine HU.out.mono ?_
    rintro e w4 ⟨rfl, p4⟩
    have P4 := Lib.hid p4
    clear p4 P3 HU
    have hbl := be_length 4 ny
    have HV := Lib.hid (pendRaw P4.out _ _ (HY.out.new (New.trans N2.out P4.out.1)) (fun m h => by cases h; simp [hbl]; have := HT2.out; omega))
    go_wp2_with fail
    refine HV.out.mono ?_
    rintro e w5 ⟨rfl, p5⟩
    have P5 := Lib.hid p5
    clear p5 P4 HV
    have hnl := sNext_length ch t
    have HZ := Lib.hid (pendRaw P5.out _ _ (R2.out.new P5.out.1) (fun m h => by cases h; simp [hbl]; have := HT2.out; have h5 : (sha256 (ch ++ t)).length = 32 := hnl; omega))
    go_wp2_with fail
    refine HZ.out.mono ?_
    rintro e w6 ⟨rfl, p6⟩
    obtain ⟨q1, q2, g, q3, q4⟩ := p6
    have HC := Lib.hid (segChecked w6 _ g _ q3 (by simp [hbl]; have := HT2.out; have h5 : (sha256 (ch ++ t)).length = 32 := hnl; omega))
    have N6 := Lib.hid q1
    clear q1 q2 q3 q4 P5 HZ
    go_wp2_with fail
    refine HC.out.mono ?_
    rintro e w7 ⟨v, rfl, h7, h8⟩
    have HF : Hid (crcWith (be 4 ny ++ t ++ sha256 (ch ++ t)) = sFrame ch t) := Lib.hid (by unfold sFrame sNext; rw [HT.out])
    simp only [List.nil_append] at h7
    rw [HF.out] at h7
    have HO := Lib.hid h7
    have HN := Lib.hid h8
    clear h7 h8 HC hbl
    go_wp2
    go_ret2
    refine ⟨v, an, nn, cn, rfl, own_base HO.out (New.trans N2.out N6.out).size, R2.out.new (New.trans N6.out HN.out), B2.out, fun k hk e => ?_, New.trans N2.out (New.trans N6.out HN.out)⟩
    have e1 := own_from HO.out k hk
    have e2 := R2.out.lt e (by intro e0; have h5 : (sha256 (ch ++ t)).length = 32 := hnl; rw [e0] at h5; cases h5)
    have := N6.out.size
    omega
  · rw [if_neg h, if_neg h]
    have HR : Hid (FrameTo w [] [] (.returned (.tuple #[.slice none 0 0, .slice none 0 0])) w) := Lib.hid ⟨_, none, 0, 0, rfl, World.ownsRow_nil w _ _ _, Rd.nil _, (by intro k hk; cases hk), (by intro k hk; cases hk), Below.refl _ _⟩
    by_cases h1 : 1 ≤ t.length ∧ t.length ≤ 65535
    · rw [decide_eq_true (by omega)] at HP
      have hd : ((nx : Int) == 32) = false := by
        have : ¬ ch.length = 32 := fun e => h ⟨h1, e⟩
        simp; omega
      clear h h1 hl hle hm kl kle km hL
      go_enter Tryd.func10, Tryd.ntmps10
      go_wp2_with fail
      refine HP.out.mono ?_
      rintro e w1 ⟨rfl, rfl⟩
      go_wp2
      go_ret2
      exact HR.out
    · rw [decide_eq_false (by omega)] at HP
      clear h h1 hl hle hm kl kle km hL
      go_enter Tryd.func10, Tryd.ntmps10
      go_wp2_with fail
      refine HP.out.mono ?_
      rintro e w1 ⟨rfl, rfl⟩
      go_wp2
      go_ret2
      exact HR.out

end Go.Proofs.YtjkhklbeimgggaaDoor
