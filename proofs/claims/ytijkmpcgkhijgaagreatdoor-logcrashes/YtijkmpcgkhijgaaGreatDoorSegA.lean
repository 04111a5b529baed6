/-
  Layer 13, pure: headers, frames, footers; what a segment's bytes tell; what was laid is told.
  segment: placed, framed, checked, foot, Foot, Head, Frame, Fits; bytes.HasPrefix; bytes.Clone.
  segment: Head, Fits, first; bytes.Clone.
  segment: first.
  segment: Parse.
-/
import Derived.Test.YtijkmpcgkhijgaaGreatDoorCrcA
import Derived.Test.YtijkmpcgkhijgaaGreatDoorShaA
import Derived.Test.YtijkmpcgkhijgaaGreatDoorEyeA
import Derived.Test.YtijkmpcgkhijgaaGreatDoorSlZero
import Derived.Test.YtijkmpcgkhijgaaGreatDoorChain
import Derived.Test.YtijkmpcgkhijgaaGreatDoorBase
namespace Go.Proofs.YtijkmpcgkhijgaaGreatDoor
set_option linter.unusedVariables false
set_option linter.unusedSimpArgs false
open Go.RowKit

/-- the chain behind a text -/
def sNext (ch t : List UInt8) : List UInt8 := sha256 (ch ++ t)
theorem sNext_length (ch t : List UInt8) : (sNext ch t).length = 32 := sha256_length _

def sHeadRaw (n c : Nat) (ch : List UInt8) : List UInt8 := [101, 110, 103, 114] ++ be 4 n ++ ch ++ be 8 c
def sHead (n c : Nat) (ch : List UInt8) : List UInt8 := crcWith (sHeadRaw n c ch) ++ List.replicate (128 - (crcWith (sHeadRaw n c ch)).length) 0
def sFrame (ch t : List UInt8) : List UInt8 := crcWith (be 4 t.length ++ t ++ sNext ch t)
def sFoot (c : Nat) (ch : List UInt8) : List UInt8 := crcWith ([255, 255, 255, 255] ++ be 8 c ++ ch)

theorem sHeadRaw_length (n c : Nat) (ch : List UInt8) : (sHeadRaw n c ch).length = ch.length + 16 := by simp [sHeadRaw, be_length]; omega
theorem sHead_length (n c : Nat) (ch : List UInt8) (h : ch.length = 32) : (sHead n c ch).length = 128 := by
  unfold sHead
  rw [List.length_append, List.length_replicate, crcWith_length, sHeadRaw_length]
  omega
theorem sFrame_length (ch t : List UInt8) : (sFrame ch t).length = t.length + 40 := by
  unfold sFrame
  rw [crcWith_length, List.length_append, List.length_append, be_length, sNext_length]
  omega
theorem sFoot_length (c : Nat) (ch : List UInt8) (h : ch.length = 32) : (sFoot c ch).length = 48 := by
  unfold sFoot
  rw [crcWith_length]
  simp [be_length, h]

/-- the length at the beginning of b -/
def sLen (b : List UInt8) : Nat := eNum 4 (b.take 4) 0

theorem sLen_eq (b : List UInt8) : sLen b = if 4 ≤ b.length then val (b.take 4) else 0 := by
  unfold sLen eNum
  by_cases h : 4 ≤ b.length
  · rw [if_pos h, eTake_ok 4 _ (by rw [List.length_take]; omega), List.take_take, Nat.min_self]
  · rw [if_neg h, eTake_short 4 _ (by rw [List.length_take]; omega)]
    rfl

theorem sLen_lt (b : List UInt8) : sLen b < 4294967296 := eNum_lt 4 _ 0

/-- the text of the frame at the beginning of b -/
def sFirst (ch b : List UInt8) : Option (List UInt8) :=
  if 1 ≤ sLen b ∧ sLen b ≤ 65535 ∧ sLen b + 40 ≤ b.length ∧ b.take (sLen b + 40) = sFrame ch ((b.drop 4).take (sLen b)) then some ((b.drop 4).take (sLen b)) else none

theorem sFirst_some {ch b t : List UInt8} (h : sFirst ch b = some t) : 1 ≤ t.length ∧ t.length ≤ 65535 ∧ t.length + 40 ≤ b.length ∧ t.length = sLen b := by
  unfold sFirst at h
  split at h
  · rename_i hh
    have e : t = (b.drop 4).take (sLen b) := (Option.some.inj h).symm
    have : t.length = sLen b := by rw [e, List.length_take, List.length_drop]; omega
    omega
  · cases h

theorem sFirst_frame (ch t rest : List UInt8) (h1 : 1 ≤ t.length) (h2 : t.length ≤ 65535) : sFirst ch (sFrame ch t ++ rest) = some t := by
  have hl : (sFrame ch t ++ rest).length = t.length + 40 + rest.length := by rw [List.length_append, sFrame_length]
  have hs : sFrame ch t = be 4 t.length ++ (t ++ (sNext ch t ++ be 4 (crc (be 4 t.length ++ t ++ sNext ch t)).toNat)) := by
    unfold sFrame crcWith
    simp only [List.append_assoc]
  have hn : sLen (sFrame ch t ++ rest) = t.length := by
    rw [sLen_eq, if_pos (by omega), hs, List.append_assoc, List.take_left' (be_length 4 _), val_be_lt _ _ (by omega)]
  have ht : ((sFrame ch t ++ rest).drop 4).take t.length = t := by
    rw [hs, List.append_assoc, List.drop_left' (be_length 4 _), List.append_assoc, List.take_left' rfl]
  unfold sFirst
  rw [hn, ht, if_pos ⟨h1, h2, by omega, List.take_left' (sFrame_length _ _)⟩]

theorem sFirst_none_len {ch b : List UInt8} (h : sLen b = 0 ∨ 65535 < sLen b) : sFirst ch b = none := by
  unfold sFirst
  rw [if_neg (by omega)]

/-- what was read so far -/
structure SegS where
  ts : List (List UInt8)
  ch : List UInt8
  used : Nat

def sStep (b : List UInt8) (s : SegS) : Option SegS := (sFirst s.ch (b.drop s.used)).map fun t => ⟨s.ts ++ [t], sNext s.ch t, s.used + (t.length + 40)⟩

theorem sStep_lt {b : List UInt8} {s s' : SegS} (h : sStep b s = some s') : s.used + 41 ≤ s'.used ∧ s'.used ≤ b.length ∧ s'.ts.length = s.ts.length + 1 := by
  unfold sStep at h
  obtain ⟨t, ht, rfl⟩ := Option.map_eq_some_iff.1 h
  have := sFirst_some ht
  rw [List.length_drop] at this
  simp only [List.length_append, List.length_singleton]
  exact ⟨by omega, by omega, trivial⟩

def sAll (b : List UInt8) (s : SegS) : SegS := match h : sStep b s with
  | none => s
  | some s' => sAll b s'
termination_by b.length - s.used
decreasing_by have := sStep_lt h; omega

theorem sAll_none {b : List UInt8} {s : SegS} (h : sStep b s = none) : sAll b s = s := by
  rw [sAll]
  split
  · rfl
  · rename_i h'; rw [h] at h'; cases h'

theorem sAll_some {b : List UInt8} {s s' : SegS} (h : sStep b s = some s') : sAll b s = sAll b s' := by
  rw [sAll]
  split
  · rename_i h'; rw [h] at h'; cases h'
  · rename_i h'; rw [h] at h'; cases h'; rfl

theorem sAll_le (b : List UInt8) : ∀ (k : Nat) (s : SegS), b.length - s.used ≤ k → s.used ≤ b.length → 41 * s.ts.length ≤ s.used → (sAll b s).used ≤ b.length ∧ 41 * (sAll b s).ts.length ≤ (sAll b s).used := by
  intro k
  induction k with
  | zero =>
    intro s h1 h2 h3
    cases h : sStep b s with
    | none => rw [sAll_none h]; exact ⟨h2, h3⟩
    | some s' => have := sStep_lt h; omega
  | succ k ih =>
    intro s h1 h2 h3
    cases h : sStep b s with
    | none => rw [sAll_none h]; exact ⟨h2, h3⟩
    | some s' =>
      have := sStep_lt h
      rw [sAll_some h]
      exact ih s' (by omega) (by omega) (by omega)

/-- is what follows a footer? -/
def sSealed (b : List UInt8) (count : Nat) (s : SegS) : Bool := decide ((b.drop s.used).take 48 = sFoot (count + s.ts.length) s.ch)

/-- what a segment's bytes tell -/
structure SegP where
  ok : Bool
  ts : List (List UInt8)
  ch : List UInt8
  sealed : Bool
  used : Nat

/-- may it be a place in a log? -/
def sPlaced (number count : Int) (ch : List UInt8) : Prop := 0 ≤ count ∧ ch.length = 32 ∧ 0 ≤ number ∧ number ≤ 4294967295
instance (number count : Int) (ch : List UInt8) : Decidable (sPlaced number count ch) := by unfold sPlaced; infer_instance

def sHeadOf (number count : Int) (ch : List UInt8) : List UInt8 := if sPlaced number count ch then sHead number.toNat count.toNat ch else []
def sFootOf (count : Int) (ch : List UInt8) : List UInt8 := if 0 ≤ count ∧ ch.length = 32 then sFoot count.toNat ch else []

def sEnd (b : List UInt8) (count : Nat) (s : SegS) : SegP := ⟨true, s.ts, s.ch, sSealed b count s, if sSealed b count s = true then s.used + 48 else s.used⟩

def sParse (b : List UInt8) (number count : Int) (ch : List UInt8) : SegP :=
  if 256 ≤ b.length ∧ b.length % 128 = 0 ∧ b.take 128 = sHeadOf number count ch then sEnd b count.toNat (sAll b ⟨[], ch, 128⟩) else ⟨false, [], [], false, 0⟩

theorem sParse_unplaced (b : List UInt8) (number count : Int) (ch : List UInt8) (h : ¬ sPlaced number count ch) : sParse b number count ch = ⟨false, [], [], false, 0⟩ := by
  unfold sParse
  rw [if_neg]
  rintro ⟨h1, -, h3⟩
  unfold sHeadOf at h3
  rw [if_neg h] at h3
  have := congrArg List.length h3
  rw [List.length_take, List.length_nil] at this
  omega

/-- the frames of texts, one behind the other; the chain behind them -/
def sFrames : List UInt8 → List (List UInt8) → List UInt8
  | _, [] => []
  | ch, t :: r => sFrame ch t ++ sFrames (sNext ch t) r
def sChain (ch : List UInt8) (ts : List (List UInt8)) : List UInt8 := ts.foldl sNext ch

theorem sFrames_snoc (ts : List (List UInt8)) (t : List UInt8) : ∀ ch, sFrames ch (ts ++ [t]) = sFrames ch ts ++ sFrame (sChain ch ts) t := by
  induction ts with
  | nil => intro ch; simp [sFrames, sChain]
  | cons a r ih =>
    intro ch
    rw [List.cons_append, sFrames, ih, sFrames, List.append_assoc]
    rfl

theorem sChain_snoc (ch : List UInt8) (ts : List (List UInt8)) (t : List UInt8) : sChain ch (ts ++ [t]) = sNext (sChain ch ts) t := by simp [sChain]

theorem sChain_length (ch : List UInt8) (ts : List (List UInt8)) (h : ch.length = 32) : (sChain ch ts).length = 32 := by
  induction ts generalizing ch with
  | nil => exact h
  | cons a r ih => exact ih (sNext ch a) (sNext_length _ _)

theorem sAll_frames (b rest : List UInt8) : ∀ (ts : List (List UInt8)) (s : SegS), b.drop s.used = sFrames s.ch ts ++ rest → (∀ t ∈ ts, 1 ≤ t.length ∧ t.length ≤ 65535) →
    sAll b s = sAll b ⟨s.ts ++ ts, sChain s.ch ts, s.used + (sFrames s.ch ts).length⟩ := by
  intro ts
  induction ts with
  | nil => intro s _ _; simp [sFrames, sChain]
  | cons t r ih =>
    intro s hd ht
    have h1 := ht t (by simp)
    rw [sFrames, List.append_assoc] at hd
    have hs : sStep b s = some ⟨s.ts ++ [t], sNext s.ch t, s.used + (t.length + 40)⟩ := by
      unfold sStep
      rw [hd, sFirst_frame _ _ _ h1.1 h1.2]
      rfl
    rw [sAll_some hs, ih _ (by
      show b.drop (s.used + (t.length + 40)) = _
      rw [← List.drop_drop, hd, List.drop_left' (sFrame_length _ _)]) (fun x hx => ht x (by simp [hx]))]
    congr 1
    simp only [List.append_assoc, List.singleton_append, sFrames, List.length_append, sFrame_length, SegS.mk.injEq, true_and]
    refine ⟨rfl, by omega⟩

theorem val_ff : val [255, 255, 255, 255] = 4294967295 := by decide

/-- zeros are no frame and no footer -/
theorem sStep_zeros (b : List UInt8) (s : SegS) (k : Nat) (h : b.drop s.used = List.replicate k 0) : sStep b s = none := by
  unfold sStep
  rw [h, sFirst_none_len (.inl ?_)]
  · rfl
  · rw [sLen_eq]
    split
    · rename_i h4
      rw [List.length_replicate] at h4
      rw [List.take_replicate, Nat.min_eq_left h4]
      decide
    · rfl

theorem sFoot_head (c : Nat) (ch rest : List UInt8) : (sFoot c ch ++ rest).take 4 = [255, 255, 255, 255] := by
  unfold sFoot crcWith
  rfl

theorem sStep_foot (b : List UInt8) (s : SegS) (c : Nat) (ch rest : List UInt8) (h : b.drop s.used = sFoot c ch ++ rest) : sStep b s = none := by
  unfold sStep
  rw [h, sFirst_none_len (.inr ?_)]
  · rfl
  · have hl : 4 ≤ (sFoot c ch ++ rest).length := by
      have := congrArg List.length (sFoot_head c ch rest)
      rw [List.length_take] at this
      simp only [List.length_cons, List.length_nil] at this
      omega
    rw [sLen_eq, if_pos hl, sFoot_head, val_ff]
    omega

theorem sSealed_zeros (b : List UInt8) (count : Nat) (s : SegS) (k : Nat) (h : b.drop s.used = List.replicate k 0) : sSealed b count s = false := by
  unfold sSealed
  rw [h]
  refine decide_eq_false fun e => ?_
  have := congrArg (fun l : List UInt8 => l[0]?) e
  simp only [List.take_replicate, List.getElem?_replicate] at this
  have e2 : (sFoot (count + s.ts.length) s.ch)[0]? = some 255 := by unfold sFoot crcWith; rfl
  rw [e2] at this
  split at this
  · exact absurd (Option.some.inj this) (by decide)
  · cases this

/-- WHAT WAS LAID IS TOLD -/
theorem sParse_laid (number count : Int) (ch : List UInt8) (ts : List (List UInt8)) (sealed : Bool) (k : Nat) (hp : sPlaced number count ch) (ht : ∀ t ∈ ts, 1 ≤ t.length ∧ t.length ≤ 65535)
    (b : List UInt8) (hb : b = sHeadOf number count ch ++ (sFrames ch ts ++ ((if sealed = true then sFoot (count.toNat + ts.length) (sChain ch ts) else []) ++ List.replicate k 0))) (h1 : 256 ≤ b.length) (h2 : b.length % 128 = 0) :
    sParse b number count ch = ⟨true, ts, sChain ch ts, sealed, 128 + (sFrames ch ts).length + if sealed = true then 48 else 0⟩ := by
  have hh : (sHeadOf number count ch).length = 128 := by unfold sHeadOf; rw [if_pos hp, sHead_length _ _ _ hp.2.1]
  have hd : b.drop 128 = sFrames ch ts ++ ((if sealed = true then sFoot (count.toNat + ts.length) (sChain ch ts) else []) ++ List.replicate k 0) := by
    rw [hb, List.drop_left' hh]
  have htk : b.take 128 = sHeadOf number count ch := by rw [hb, List.take_left' hh]
  have hA := sAll_frames b _ ts ⟨[], ch, 128⟩ hd ht
  unfold sParse
  rw [if_pos ⟨h1, h2, htk⟩, hA]
  simp only [List.nil_append]
  have hr : b.drop (128 + (sFrames ch ts).length) = (if sealed = true then sFoot (count.toNat + ts.length) (sChain ch ts) else []) ++ List.replicate k 0 := by
    rw [← List.drop_drop, hd, List.drop_left' rfl]
  cases sealed with
  | true =>
    simp only [if_true] at hr ⊢
    rw [sAll_none (sStep_foot b _ _ _ _ hr)]
    have hs : sSealed b count.toNat ⟨ts, sChain ch ts, 128 + (sFrames ch ts).length⟩ = true := by
      unfold sSealed
      refine decide_eq_true ?_
      show (b.drop (128 + (sFrames ch ts).length)).take 48 = _
      rw [hr, List.take_left' (sFoot_length _ _ (sChain_length ch ts hp.2.1))]
    unfold sEnd
    rw [hs]
    rfl
  | false =>
    simp only [Bool.false_eq_true, if_false, List.nil_append] at hr ⊢
    rw [sAll_none (sStep_zeros b _ k hr)]
    have hs := sSealed_zeros b count.toNat ⟨ts, sChain ch ts, 128 + (sFrames ch ts).length⟩ k hr
    unfold sEnd
    rw [hs]
    rfl

end Go.Proofs.YtijkmpcgkhijgaaGreatDoor

namespace Go.Proofs.YtijkmpcgkhijgaaGreatDoor
set_option linter.unusedVariables false
set_option linter.unusedSimpArgs false
open Go.RowKit

theorem hasPrefix (w : World) (x y : Value) (l m : List UInt8) (hx : Rd w x l) (hy : Rd w y m) : Calls Tryz.prog 100 #[x, y] w fun e w' => e = .returned (.bool (decide (l.take m.length = m))) ∧ w = w' := by
  have hx' := hx
  have hy' := hy
  obtain ⟨a1, n1, c1, rfl, hl1, hn1, hc1, -⟩ := hx'
  obtain ⟨a2, n2, c2, rfl, hl2, hn2, hc2, -⟩ := hy'
  unfold maxLen at hc1 hc2
  by_cases h : n2 ≤ n1
  · have HX := Lib.hid (bytesEq w _ _ _ _ (hx.cut (k := n2) (c' := c1) h (by omega) (Nat.le_refl _)) hy)
    have h' : (n2 : Int) ≤ (n1 : Int) := by omega
    rw [hl2]
    generalize decide (l.take n2 = m) = d at *
    clear hx hy hl1 hl2 h
    go_enter Tryz.func100, Tryz.ntmps100
    go_wp2_with fail
    refine HX.out.mono ?_
    rintro e w' ⟨rfl, rfl⟩
    go_wp2
    go_ret
    exact ⟨rfl, rfl⟩
  · have h' : ¬ (n2 : Int) ≤ (n1 : Int) := by omega
    have hd : decide (l.take m.length = m) = false := by
      refine decide_eq_false fun e => ?_
      have := congrArg List.length e
      rw [List.length_take] at this
      omega
    rw [hd]
    clear hx hy hl1 hl2 h hd
    go_enter Tryz.func100, Tryz.ntmps100
    go_wp2
    go_ret
    exact ⟨rfl, rfl⟩

theorem segPlaced (w : World) (count : Int) (a : Option Addr) (n c : Nat) (hn : n ≤ 9223372036854775807) : Calls Tryz.prog 78 #[.int .i64 count, .slice a n c] w fun e w' => e = .returned (.bool (decide (0 ≤ count ∧ n = 32))) ∧ w = w' := by
  by_cases h : 0 ≤ count
  · have hd : decide (0 ≤ count ∧ n = 32) = decide ((n : Int) = 32) := by rw [decide_eq_decide]; omega
    rw [hd]
    by_cases h2 : (n : Int) = 32
    · rw [decide_eq_true h2]
      go_enter Tryz.func78, Tryz.ntmps78
      go_wp2
      go_ret
      exact ⟨rfl, rfl⟩
    · rw [decide_eq_false h2]
      have hq : ((n : Int) == 32) = false := by simp; omega
      go_enter Tryz.func78, Tryz.ntmps78
      go_wp2
      go_ret
      exact ⟨congrArg (fun b => Ending.returned (.bool b)) (by first | rfl | exact hq), rfl⟩
  · rw [decide_eq_false (by omega)]
    go_enter Tryz.func78, Tryz.ntmps78
    go_wp2
    go_ret
    exact ⟨rfl, rfl⟩

theorem segFramed (w : World) (n : Int) : Calls Tryz.prog 60 #[.int .i64 n] w fun e w' => e = .returned (.bool (decide (1 ≤ n ∧ n ≤ 65535))) ∧ w = w' := by
  by_cases h : 1 ≤ n
  · by_cases h2 : n ≤ 65535
    · rw [decide_eq_true ⟨h, h2⟩]
      go_enter Tryz.func60, Tryz.ntmps60
      go_wp2
      go_ret
      exact ⟨rfl, rfl⟩
    · rw [decide_eq_false (by omega)]
      go_enter Tryz.func60, Tryz.ntmps60
      go_wp2
      go_ret
      exact ⟨rfl, rfl⟩
  · rw [decide_eq_false (by omega)]
    go_enter Tryz.func60, Tryz.ntmps60
    go_wp2
    go_ret
    exact ⟨rfl, rfl⟩

theorem OwnRet.rd {w w' : World} {v : Value} {l : List UInt8} (h : w'.ownsRow w.heap.size 5 1 v l.length (l.map bv)) : Rd w' v l ∧ (∀ k, blk v = some k → w.heap.size ≤ k) := ⟨Rd.of_own h, own_from h⟩

theorem OwnRet.none {w w' : World} (hn : New w w') : OwnRet w [] (.returned (.slice none 0 0)) w' := ⟨_, rfl, World.ownsRow_nil w' _ _ _, hn⟩

theorem OwnRet.then {w w1 w2 : World} {l : List UInt8} {e : Ending} (h : OwnRet w1 l e w2) (hn : New w w1) : OwnRet w l e w2 := by
  obtain ⟨v, rfl, h1, h2⟩ := h
  exact ⟨v, rfl, own_base h1 hn.size, New.trans hn h2⟩

set_option maxHeartbeats 400000 in
theorem segChecked (w : World) (p : Nat) (g : Option Nat) (l : List UInt8) (h : Pen w p g (some l)) (hb : l.length ≤ 140737488355000) :
    Calls Tryz.prog 65 #[.pointer (some ⟨p, 0, none⟩)] w (OwnRet w (crcWith l)) := by
  have HB := Lib.hid (penBytes w p g (some l) h (fun m e => by cases e; omega))
  clear h
  go_enter Tryz.func65, Tryz.ntmps65
  go_wp2_with fail
  refine HB.out.mono ?_
  rintro e w1 ⟨a, n, c, rfl, r1, N1, -⟩
  have HW := Lib.hid (crcWith_calls w1 (.slice a n c) l r1 (by omega))
  clear r1 HB
  simp only [Option.isSome_some]
  go_wp2_with fail
  refine HW.out.mono ?_
  rintro e w2 ⟨a2, n2, c2, rfl, -, N2, o2⟩
  have HO := Lib.hid (own_base o2 N1.size)
  clear o2 HW
  go_wp2
  go_ret
  exact ⟨_, rfl, HO.out, New.trans N1 N2⟩


set_option maxRecDepth 100000 in
set_option maxHeartbeats 1000000 in
theorem segFoot (w : World) (n : Int) (x : Value) (ch : List UInt8) (hx : Rd w x ch) (hn : 0 ≤ n) (hn' : n < 18446744073709551616) (hb : ch.length ≤ 140737488350000) :
    Calls Tryz.prog 90 #[.int .u64 n, x] w (OwnRet w (sFoot n.toNat ch)) := by
  have kc := fun (w : World) (C : Array Value) (n c : Nat) => Lib.run_convert_bytes_const (P := Tryz.prog) w 42 5 C n c Tryz.underlying42 Tryz.underlying5
  have HX := Lib.hid hx
  obtain ⟨ax, nx, cx, rfl, -⟩ := hx
  go_enter Tryz.func90, Tryz.ntmps90
  go_wp2_with fail
  refine (penNew w).mono ?_
  rintro e w1 ⟨rfl, hp1, N1, -⟩
  have P1 := Lib.hid (Pend.start hp1 N1)
  clear hp1
  have P2 := Lib.hid (P1.out.later ((Below.refl _ _).alloc (Nat.le_refl _) (.cells (([255, 255, 255, 255] : List UInt8).map bv).toArray 5 (4, 5))))
  have R2 := Rd.made w1 [255, 255, 255, 255] 5 (4, 5) (by decide)
  have HR := Lib.hid (pendRaw P2.out _ _ R2 (fun m h => by cases h; decide))
  clear R2
  go_wp2_with fail
  refine HR.out.mono ?_
  rintro e w3 ⟨rfl, p3⟩
  have P3 := Lib.hid p3
  clear p3 P2 HR P1
  simp only [Option.map_some, List.nil_append] at P3
  have HU := Lib.hid (pendU64 P3.out n hn hn' (fun m h => by cases h; decide))
  go_wp2_with fail
  refine HU.out.mono ?_
  rintro e w4 ⟨rfl, p4⟩
  have P4 := Lib.hid p4
  clear p4 P3 HU
  simp only [Option.map_some] at P4
  have hbl := be_length 8 n.toNat
  have HV := Lib.hid (pendRaw P4.out _ _ (HX.out.new P4.out.1) (fun m h => by cases h; simp [hbl]; omega))
  go_wp2_with fail
  refine HV.out.mono ?_
  rintro e w5 ⟨rfl, p5⟩
  obtain ⟨h1, h2, g, h3, h4⟩ := p5
  have HC := Lib.hid (segChecked w5 _ g _ h3 (by simp [hbl]; omega))
  have N5 := Lib.hid h1
  clear h1 h2 h3 h4 P4 HV
  go_wp2_with fail
  refine HC.out.mono ?_
  rintro e w6 h6
  obtain ⟨v, rfl, h7, h8⟩ := h6.then N5.out
  have HO := Lib.hid h7
  have HN := Lib.hid h8
  clear h6 h7 h8 HC hbl
  go_wp2
  go_ret
  exact ⟨v, rfl, HO.out, HN.out⟩

theorem segFootPub (w : World) (count : Int) (x : Value) (ch : List UInt8) (hx : Rd w x ch) (hc : -9223372036854775808 ≤ count) (hc' : count ≤ 9223372036854775807) (hb : ch.length ≤ 140737488350000) :
    Calls Tryz.prog 77 #[.int .i64 count, x] w (OwnRet w (sFootOf count ch)) := by
  have HX := Lib.hid hx
  obtain ⟨ax, nx, cx, rfl, hl, hle, hm, -⟩ := hx
  unfold maxLen at hm
  have HP := Lib.hid (segPlaced w count ax nx cx (by omega))
  by_cases h : 0 ≤ count ∧ ch.length = 32
  · have HF : Hid (sFootOf count ch = sFoot count.toNat ch) := Lib.hid (if_pos h)
    rw [decide_eq_true (by omega)] at HP
    have HQ := Lib.hid (segFoot w count _ ch HX.out h.1 (by omega) hb)
    have hw : IntKind.u64.wrap count = count := IntWalk.u64_in _ (by omega)
    clear hl hle hm
    go_enter Tryz.func77, Tryz.ntmps77
    go_wp2_with fail
    refine HP.out.mono ?_
    rintro e w1 ⟨rfl, rfl⟩
    go_wp2_with fail
    refine HQ.out.mono ?_
    rintro e w6 ⟨v, rfl, h7, h8⟩
    have HO := Lib.hid h7
    have HN := Lib.hid h8
    clear h7 h8 HQ HP
    go_wp2
    go_ret
    rw [HF.out]
    exact ⟨v, rfl, HO.out, HN.out⟩
  · have HF : Hid (sFootOf count ch = []) := Lib.hid (if_neg h)
    rw [decide_eq_false (by omega)] at HP
    clear hl hle hm
    go_enter Tryz.func77, Tryz.ntmps77
    go_wp2_with fail
    refine HP.out.mono ?_
    rintro e w1 ⟨rfl, rfl⟩
    go_wp2
    go_ret
    rw [HF.out]
    exact OwnRet.none (Below.refl _ _)

def FrameTo (w : World) (f nx : List UInt8) (e : Ending) (w' : World) : Prop := ∃ v a n c, e = .returned (.tuple #[v, .slice a n c]) ∧ w'.ownsRow w.heap.size 5 1 v f.length (f.map bv) ∧ Rd w' (.slice a n c) nx ∧ (∀ k, blk (.slice a n c) = some k → w.heap.size ≤ k) ∧ (∀ k, blk v = some k → blk (.slice a n c) ≠ some k) ∧ New w w'

def sFramed (ch t : List UInt8) : Prop := (1 ≤ t.length ∧ t.length ≤ 65535) ∧ ch.length = 32
instance (ch t : List UInt8) : Decidable (sFramed ch t) := by unfold sFramed; infer_instance

set_option maxRecDepth 100000 in
set_option maxHeartbeats 1000000 in
theorem segFrame (w : World) (x y : Value) (ch t : List UInt8) (hx : Rd w x ch) (hy : Rd w y t) (hL : Laid w) :
    Calls Tryz.prog 36 #[x, y] w (FrameTo w (if sFramed ch t then sFrame ch t else []) (if sFramed ch t then sNext ch t else [])) := by
  have HX := Lib.hid hx
  have HY := Lib.hid hy
  obtain ⟨ax, nx, cx, rfl, hl, hle, hm, -⟩ := hx
  obtain ⟨ay, ny, cy, rfl, kl, kle, km, -⟩ := hy
  unfold maxLen at hm km
  have HP := Lib.hid (segFramed w (ny : Int))
  by_cases h : sFramed ch t
  · rw [if_pos h, if_pos h]
    obtain ⟨⟨h1, h2⟩, h3⟩ := h
    rw [decide_eq_true (by omega)] at HP
    have hd : ((nx : Int) == 32) = true := by simp; omega
    have HCh := Lib.hid (recChainN w _ _ ch t HX.out HY.out (by omega) hL)
    have HT : Hid (t.length = ny) := Lib.hid kl
    have HT2 : Hid (t.length ≤ 65535) := Lib.hid h2
    have hny : (ny : Int) ≤ 65535 := by omega
    clear hL
    go_enter Tryz.func36, Tryz.ntmps36
    go_wp2_with fail
    refine HP.out.mono ?_
    rintro e w1 ⟨rfl, rfl⟩
    go_wp2_with fail
    refine HCh.out.mono ?_
    rintro e w2 ⟨an, nn, cn, rfl, r2, N2, b2⟩
    have R2 := Lib.hid r2
    have N2 := Lib.hid N2
    have B2 := Lib.hid b2
    clear r2 b2 HCh HP
    go_wp2_with fail
    refine (penNew w2).mono ?_
    rintro e w3 ⟨rfl, hp3, N3, -⟩
    have P3 := Lib.hid (Pend.start hp3 N3)
    clear hp3 N3
    have HU := Lib.hid (pendU32 P3.out (ny : Int) (by omega) (by omega) (fun m h => by cases h; decide))
    rw [wU_in 4 ny [] (by omega)] at HU
    go_wp2_with fail
    refine HU.out.mono ?_
    rintro e w4 ⟨rfl, p4⟩
    have P4 := Lib.hid p4
    clear p4 P3 HU
    have hbl := be_length 4 ny
    have HV := Lib.hid (pendRaw P4.out _ _ (HY.out.new (New.trans N2.out P4.out.1)) (fun m h => by cases h; simp [hbl]; have := HT2.out; omega))
    go_wp2_with fail
    refine HV.out.mono ?_
    rintro e w5 ⟨rfl, p5⟩
    have P5 := Lib.hid p5
    clear p5 P4 HV
    have hnl := sNext_length ch t
    have HZ := Lib.hid (pendRaw P5.out _ _ (R2.out.new P5.out.1) (fun m h => by cases h; simp [hbl]; have := HT2.out; have h5 : (sha256 (ch ++ t)).length = 32 := hnl; omega))
    go_wp2_with fail
    refine HZ.out.mono ?_
    rintro e w6 ⟨rfl, p6⟩
    obtain ⟨q1, q2, g, q3, q4⟩ := p6
    have HC := Lib.hid (segChecked w6 _ g _ q3 (by simp [hbl]; have := HT2.out; have h5 : (sha256 (ch ++ t)).length = 32 := hnl; omega))
    have N6 := Lib.hid q1
    clear q1 q2 q3 q4 P5 HZ
    go_wp2_with fail
    refine HC.out.mono ?_
    rintro e w7 ⟨v, rfl, h7, h8⟩
    have HF : Hid (crcWith (be 4 ny ++ t ++ sha256 (ch ++ t)) = sFrame ch t) := Lib.hid (by unfold sFrame sNext; rw [HT.out])
    simp only [List.nil_append] at h7
    rw [HF.out] at h7
    have HO := Lib.hid h7
    have HN := Lib.hid h8
    clear h7 h8 HC hbl
    go_wp2
    go_ret2
    refine ⟨v, an, nn, cn, rfl, own_base HO.out (New.trans N2.out N6.out).size, R2.out.new (New.trans N6.out HN.out), B2.out, fun k hk e => ?_, New.trans N2.out (New.trans N6.out HN.out)⟩
    have e1 := own_from HO.out k hk
    have e2 := R2.out.lt e (by intro e0; have h5 : (sha256 (ch ++ t)).length = 32 := hnl; rw [e0] at h5; cases h5)
    have := N6.out.size
    omega
  · rw [if_neg h, if_neg h]
    have HR : Hid (FrameTo w [] [] (.returned (.tuple #[.slice none 0 0, .slice none 0 0])) w) := Lib.hid ⟨_, none, 0, 0, rfl, World.ownsRow_nil w _ _ _, Rd.nil _, (by intro k hk; cases hk), (by intro k hk; cases hk), Below.refl _ _⟩
    by_cases h1 : 1 ≤ t.length ∧ t.length ≤ 65535
    · rw [decide_eq_true (by omega)] at HP
      have hd : ((nx : Int) == 32) = false := by
        have : ¬ ch.length = 32 := fun e => h ⟨h1, e⟩
        simp; omega
      clear h h1 hl hle hm kl kle km hL
      go_enter Tryz.func36, Tryz.ntmps36
      go_wp2_with fail
      refine HP.out.mono ?_
      rintro e w1 ⟨rfl, rfl⟩
      go_wp2
      go_ret2
      exact HR.out
    · rw [decide_eq_false (by omega)] at HP
      clear h h1 hl hle hm kl kle km hL
      go_enter Tryz.func36, Tryz.ntmps36
      go_wp2_with fail
      refine HP.out.mono ?_
      rintro e w1 ⟨rfl, rfl⟩
      go_wp2
      go_ret2
      exact HR.out

end Go.Proofs.YtijkmpcgkhijgaaGreatDoor

namespace Go.Proofs.YtijkmpcgkhijgaaGreatDoor
set_option linter.unusedVariables false
set_option linter.unusedSimpArgs false
open Go.RowKit

set_option maxRecDepth 100000 in
set_option maxHeartbeats 1000000 in
theorem segHead (w : World) (number count : Int) (x : Value) (ch : List UInt8) (hx : Rd w x ch) (hn : -9223372036854775808 ≤ number) (hn' : number ≤ 9223372036854775807) (hc : -9223372036854775808 ≤ count) (hc' : count ≤ 9223372036854775807) :
    Calls Tryz.prog 59 #[.int .i64 number, .int .i64 count, x] w (OwnRet w (sHeadOf number count ch)) := by
  have kc := fun (w : World) (C : Array Value) (n c : Nat) => Lib.run_convert_bytes_const (P := Tryz.prog) w 42 5 C n c Tryz.underlying42 Tryz.underlying5
  have HX := Lib.hid hx
  obtain ⟨ax, nx, cx, rfl, hl, hle, hm, -⟩ := hx
  unfold maxLen at hm
  have HP := Lib.hid (segPlaced w count ax nx cx (by omega))
  by_cases h : 0 ≤ count ∧ ch.length = 32
  · rw [decide_eq_true (by omega)] at HP
    have hw : IntKind.u64.wrap count = count := IntWalk.u64_in _ (by omega)
    have HL : Hid (ch.length = 32) := Lib.hid h.2
    have hc0 := h.1
    clear hl hle hm
    go_enter Tryz.func59, Tryz.ntmps59
    go_wp2_with fail
    refine HP.out.mono ?_
    rintro e w1 ⟨rfl, rfl⟩
    go_wp2_with fail
    refine (penNew w).mono ?_
    rintro e w1 ⟨rfl, hp1, N1, -⟩
    have P1 := Lib.hid (Pend.start hp1 N1)
    clear hp1 HP
    have P2 := Lib.hid (P1.out.later ((Below.refl _ _).alloc (Nat.le_refl _) (.cells (([101, 110, 103, 114] : List UInt8).map bv).toArray 5 (4, 5))))
    have R2 := Rd.made w1 [101, 110, 103, 114] 5 (4, 5) (by decide)
    have HR := Lib.hid (pendRaw P2.out _ _ R2 (fun m h => by cases h; decide))
    clear R2
    go_wp2_with fail
    refine HR.out.mono ?_
    rintro e w3 ⟨rfl, p3⟩
    have P3 := Lib.hid p3
    clear p3 P2 HR P1 N1
    simp only [Option.map_some, List.nil_append] at P3
    have HU := Lib.hid (pendU32 P3.out number hn hn' (fun m h => by cases h; decide))
    by_cases hr : 0 ≤ number ∧ number ≤ 4294967295
    · have HF : Hid (sHeadOf number count ch = sHead number.toNat count.toNat ch) := Lib.hid (if_pos ⟨h.1, h.2, hr⟩)
      obtain ⟨n, rfl⟩ := Int.eq_ofNat_of_zero_le hr.1
      rw [wU_in 4 n _ (by omega)] at HU
      have hbl := be_length 4 n
      go_wp2_with fail
      refine HU.out.mono ?_
      rintro e w4 ⟨rfl, p4⟩
      have P4 := Lib.hid p4
      clear p4 P3 HU
      have HV := Lib.hid (pendRaw P4.out _ _ (HX.out.new P4.out.1) (fun m h => by cases h; simp [hbl, HL.out]))
      go_wp2_with fail
      refine HV.out.mono ?_
      rintro e w5 ⟨rfl, p5⟩
      have P5 := Lib.hid p5
      clear p5 P4 HV
      simp only [Option.map_some] at P5
      have HW := Lib.hid (pendU64 P5.out count (by omega) (by omega) (fun m h => by cases h; simp [hbl, HL.out]))
      go_wp2_with fail
      refine HW.out.mono ?_
      rintro e w6 ⟨rfl, p6⟩
      have P6 := Lib.hid p6
      clear p6 P5 HW
      simp only [Option.map_some] at P6
      have hbl8 := be_length 8 count.toNat
      have HB := Lib.hid (pendBytes P6.out (fun m h => by cases h; simp [hbl, hbl8, HL.out]))
      have HE : Hid ([101, 110, 103, 114] ++ be 4 n ++ ch ++ be 8 count.toNat = sHeadRaw n count.toNat ch) := Lib.hid rfl
      rw [HE.out] at HB
      go_wp2_with fail
      refine HB.out.mono ?_
      rintro e w7 ⟨⟨a, nb, cb, rfl, r7, N7, -⟩, p7⟩
      have R7 := Lib.hid r7
      have N7 := Lib.hid p7.1
      clear r7 p7 HB P6
      simp only [Option.isSome_some, Option.getD_some] at R7 ⊢
      have hmk : ∀ wx : World, (Instr.makeSlice 42 (.int .i64 128) (.int .i64 128)).run Tryz.prog wx = .ok (.slice (some ⟨wx.heap.size, 0, none⟩) 128 128) (wx.alloc (.cells (List.replicate 128 (bv 0)).toArray 5)) := fun wx => run_make_bytes 128 128 (by omega) (by omega) (by omega) wx
      go_upto_region 12 with fail
      clear hmk
      generalize hw8 : World.alloc w7 _ = w8
      have N8 : New w7 w8 := by rw [← hw8]; exact (Below.refl _ _).alloc (Nat.le_refl _) _
      have G8 : Hid (w8.heap[w7.heap.size]? = some (.cells (List.replicate 128 (bv 0)).toArray 5)) := Lib.hid (by rw [← hw8]; exact heap_alloc_new _ _)
      have hs8 : w8.heap.size = w7.heap.size + 1 := by rw [← hw8]; simp
      clear hw8
      have HC := Lib.hid (crcWith_calls w8 _ _ (R7.out.new N8) (by rw [sHeadRaw_length, HL.out]; decide))
      obtain ⟨gb, hgb⟩ : ∃ gb, w7.heap.size = gb := ⟨_, rfl⟩
      have HSZ : Hid (w.heap.size ≤ gb ∧ w8.heap.size = gb + 1) := Lib.hid ⟨by have := N7.out.size; omega, by omega⟩
      rw [hgb] at G8
      have N8w := Lib.hid (New.trans N7.out N8)
      clear hs8 N8
      rw [hgb]
      clear hgb R7 N7
      go_wp2_with fail
      refine HC.out.mono ?_
      rintro e w9 ⟨a9, n9, c9, rfl, r9, N9, -⟩
      have hlen : (crcWith (sHeadRaw n count.toNat ch)).length = 52 := by rw [crcWith_length, sHeadRaw_length, HL.out]
      have hn9 : n9 = 52 := by rw [← r9.len, hlen]
      subst hn9
      have G9 : w9.heap[gb]? = some (.cells (List.replicate 128 (bv 0)).toArray 5) := (N9.block gb (by have := HSZ.out; omega)).trans G8.out
      obtain ⟨w10, hcp, G10, O10⟩ := run_copy_zero G9 r9 hlen (by omega) (by omega)
      have HO := Lib.hid (own_of_full (base := w.heap.size) G10 HSZ.out.1 (by simp; omega))
      have e1 : (crcWith (sHeadRaw n count.toNat ch) ++ List.replicate (128 - (crcWith (sHeadRaw n count.toNat ch)).length) 0).length = 128 := sHead_length n count.toNat ch HL.out
      rw [e1] at HO
      have N10 : Hid (New w w10) := Lib.hid (Below.trans (New.trans N8w.out N9) (O10.below (by have := HSZ.out; have := N9.size; have := N8w.out.size; omega) (fun k hk => by subst hk; exact HSZ.out.1)))
      clear G10 O10 G9 r9 N9 hlen G8 HC N8w HSZ e1
      go_wp2
      go_ret
      rw [HF.out]
      refine ⟨_, rfl, ?_, N10.out⟩
      rw [sHead_length _ _ _ HL.out]
      exact HO.out
    · have HF : Hid (sHeadOf number count ch = []) := Lib.hid (if_neg (fun hh => hr ⟨hh.2.2.1, hh.2.2.2⟩))
      have hwu : ∀ l, wU 4 number (some l) = none := fun l => if_neg (fun hh => hr ⟨hh.1, by have := hh.2; omega⟩)
      rw [hwu] at HU
      clear hwu
      go_wp2_with fail
      refine HU.out.mono ?_
      rintro e w4 ⟨rfl, p4⟩
      have P4 := Lib.hid p4
      clear p4 P3 HU
      have HV := Lib.hid (pendRaw P4.out _ _ (HX.out.new P4.out.1) (fun m h => by cases h))
      go_wp2_with fail
      refine HV.out.mono ?_
      rintro e w5 ⟨rfl, p5⟩
      have P5 := Lib.hid p5
      clear p5 P4 HV
      simp only [Option.map_none] at P5
      have HW := Lib.hid (pendU64 P5.out count (by omega) (by omega) (fun m h => by cases h))
      go_wp2_with fail
      refine HW.out.mono ?_
      rintro e w6 ⟨rfl, p6⟩
      have P6 := Lib.hid p6
      clear p6 P5 HW
      simp only [Option.map_none] at P6
      have HB := Lib.hid (pendBytes P6.out (fun m h => by cases h))
      go_wp2_with fail
      refine HB.out.mono ?_
      rintro e w7 ⟨⟨a, nb, cb, rfl, -, -, -⟩, p7⟩
      have N7 := Lib.hid p7.1
      clear p7 HB P6
      simp only [Option.isSome_none]
      go_wp2
      go_ret
      rw [HF.out]
      exact OwnRet.none N7.out
  · have HF : Hid (sHeadOf number count ch = []) := Lib.hid (if_neg (fun hh => h ⟨hh.1, hh.2.1⟩))
    rw [decide_eq_false (by omega)] at HP
    clear hl hle hm
    go_enter Tryz.func59, Tryz.ntmps59
    go_wp2_with fail
    refine HP.out.mono ?_
    rintro e w1 ⟨rfl, rfl⟩
    go_wp2
    go_ret
    rw [HF.out]
    exact OwnRet.none (Below.refl _ _)


def sFits (size used text : Int) : Bool := decide (1 ≤ text ∧ text ≤ 65535 ∧ used ≤ size ∧ text + 88 ≤ size - used)

set_option maxHeartbeats 400000 in
theorem segFits (w : World) (size used text : Int) (h1 : -9223372036854775808 ≤ size) (h2 : size ≤ 9223372036854775807) (h3 : -9223372036854775808 ≤ used) (h4 : used ≤ 9223372036854775807) :
    Calls Tryz.prog 56 #[.int .i64 size, .int .i64 used, .int .i64 text] w fun e w' => e = .returned (.bool (sFits size used text)) ∧ w = w' := by
  have HP := Lib.hid (segFramed w text)
  by_cases hf : 1 ≤ text ∧ text ≤ 65535
  · rw [decide_eq_true hf] at HP
    by_cases hs : size < used
    · have HF : Hid (sFits size used text = false) := Lib.hid (decide_eq_false (by omega))
      go_enter Tryz.func56, Tryz.ntmps56
      go_wp2_with fail
      refine HP.out.mono ?_
      rintro e w1 ⟨rfl, rfl⟩
      go_wp2
      go_ret
      exact ⟨by rw [HF.out]; rfl, rfl⟩
    · have e1 : IntKind.u64.wrap (IntKind.u64.wrap size - IntKind.u64.wrap used) = size - used := by
        have a1 : IntKind.u64.wrap size = size % 18446744073709551616 := rfl
        have a2 : IntKind.u64.wrap used = used % 18446744073709551616 := rfl
        rw [a1, a2]
        show (size % 18446744073709551616 - used % 18446744073709551616) % 18446744073709551616 = _
        omega
      have e2 : IntKind.u64.wrap (40 + text + 48) = text + 88 := by rw [IntWalk.u64_in _ (by omega)]; omega
      have HF : Hid (sFits size used text = decide (text + 88 ≤ size - used)) := Lib.hid (by unfold sFits; rw [decide_eq_decide]; omega)
      obtain ⟨b, hb⟩ : ∃ b, decide (text + 88 ≤ size - used) = b := ⟨_, rfl⟩
      rw [hb] at HF
      go_enter Tryz.func56, Tryz.ntmps56
      go_wp2_with fail
      refine HP.out.mono ?_
      rintro e w1 ⟨rfl, rfl⟩
      go_wp2
      go_ret
      exact ⟨by rw [HF.out]; rfl, rfl⟩
  · rw [decide_eq_false hf] at HP
    have HF : Hid (sFits size used text = false) := Lib.hid (decide_eq_false (by omega))
    go_enter Tryz.func56, Tryz.ntmps56
    go_wp2_with fail
    refine HP.out.mono ?_
    rintro e w1 ⟨rfl, rfl⟩
    go_wp2
    go_ret
    exact ⟨by rw [HF.out]; rfl, rfl⟩

/-- a new copy -/
def CloneNew (w : World) (l : List UInt8) (e : Ending) (w' : World) : Prop := ∃ a n c, e = .returned (.slice a n c) ∧ Rd w' (.slice a n c) l ∧ New w w' ∧ (l ≠ [] → ∀ k, blk (.slice a n c) = some k → w.heap.size ≤ k)

set_option maxRecDepth 100000 in
set_option maxHeartbeats 400000 in
theorem cloneNew (w : World) (x : Value) (l : List UInt8) (h : Rd w x l) (hn : l.length ≤ 140737488355328) : Calls Tryz.prog 38 #[x] w (CloneNew w l) := by
  obtain ⟨i0, hi0, hz0, hz1, hz2⟩ := info_parts infoByte
  have HV := Lib.hid h
  have h' := h
  obtain ⟨a, n, c, rfl, h1, h2, h3, h4, h5⟩ := h'
  cases a with
  | none =>
    obtain ⟨rfl, rfl⟩ := h4 rfl
    obtain rfl := List.eq_nil_of_length_eq_zero h1
    have he : ∀ wx : World, (binOp .eql 42 (.slice none 0 0) (.slice none 0 0)).run Tryz.prog wx = .ok (.bool true) wx := fun _ => rfl
    clear h5 h1 h4
    go_enter Tryz.func38, Tryz.ntmps38
    go_wp2
    go_ret
    exact ⟨none, 0, 0, rfl, Rd.nil _, Below.refl _ _, fun h => absurd rfl h⟩
  | some ad =>
    have N1 : New w (w.alloc (.cells #[] 5)) := (Below.refl _ _).alloc (Nat.le_refl _) _
    have HX := Lib.hid (HV.out.new N1)
    have HN := Lib.hid hn
    have he : ∀ wx : World, (binOp .eql 42 (.slice (some ad) n c) (.slice none 0 0)).run Tryz.prog wx = .ok (.bool false) wx := fun _ => rfl
    clear h h1 h2 h3 h4 h5 hn
    go_enter Tryz.func38, Tryz.ntmps38
    go_wp2_with (at_builtin; (refine wpList_append_copy rfl (.tmp 5) (.tmp 6) 42 rfl 5 i0 _ Tryz.underlying42 hi0 hz0 hz1 hz2 rfl _ rfl _ l rfl HX.out HN.out ?_))
    intro v' w' h6 h7 h8
    obtain ⟨av, nv, cv, rfl⟩ : ∃ a n c, v' = .slice a n c := by obtain ⟨a, n, c, e, _⟩ := h6; exact ⟨a, n, c, e⟩
    have H6 := Lib.hid h6
    have H7 := Lib.hid h7
    have H8 := Lib.hid h8
    clear h6 h7 h8
    go_wp2
    go_ret
    exact ⟨av, nv, cv, rfl, H6.out, New.trans N1 H7.out, fun hne k hk => by have h9 := own_from (H8.out hne) k hk; have h10 := N1.size; omega⟩


end Go.Proofs.YtijkmpcgkhijgaaGreatDoor

namespace Go.Proofs.YtijkmpcgkhijgaaGreatDoor
set_option linter.unusedVariables false
set_option linter.unusedSimpArgs false
open Go.RowKit

def FirstTo (w : World) (o : Option (List UInt8)) (nx : List UInt8 → List UInt8) (e : Ending) (w' : World) : Prop :=
  New w w' ∧ match o with
  | none => e = .returned (.tuple #[.slice none 0 0, .slice none 0 0, .bool false])
  | some t => ∃ a1 n1 c1 a2 n2 c2, e = .returned (.tuple #[.slice a1 n1 c1, .slice a2 n2 c2, .bool true]) ∧ Rd w' (.slice a1 n1 c1) t ∧ (∀ k, blk (.slice a1 n1 c1) = some k → w.heap.size ≤ k) ∧ Rd w' (.slice a2 n2 c2) (nx t) ∧ (∀ k, blk (.slice a2 n2 c2) = some k → w.heap.size ≤ k)

theorem FirstTo.none {w w' : World} {o : Option (List UInt8)} {nx : List UInt8 → List UInt8} (ho : o = none) (hn : New w w') : FirstTo w o nx (.returned (.tuple #[.slice none 0 0, .slice none 0 0, .bool false])) w' := by
  subst ho; exact ⟨hn, rfl⟩

set_option maxRecDepth 100000 in
set_option maxHeartbeats 1000000 in
theorem segFirst (w : World) (x y : Value) (b ch : List UInt8) (hx : Rd w x b) (hy : Rd w y ch) (hb : b.length ≤ 140737488350000) (hc : ch.length = 32) (hL : Laid w) :
    Calls Tryz.prog 99 #[x, y] w (FirstTo w (sFirst ch b) (sNext ch)) := by
  have HX := Lib.hid hx
  have HY := Lib.hid hy
  have HL := Lib.hid hL
  obtain ⟨ax, nx, cx, rfl, hl, hle, hm, -⟩ := hx
  obtain ⟨ay, ny, cy, rfl, -⟩ := hy
  unfold maxLen at hm
  have HB := Lib.hid hl
  have HLen : Hid (b.length ≤ 140737488350000 ∧ ch.length = 32) := Lib.hid ⟨hb, hc⟩
  have hbn : nx ≤ 140737488350000 := by omega
  obtain ⟨m, hmin⟩ : ∃ m, min nx 4 = m := ⟨_, rfl⟩
  have HR4 : Hid (Rd w (.slice ax m cx) (b.take 4)) := by
    refine Lib.hid ?_
    have e : b.take m = b.take 4 := by
      rcases Nat.lt_or_ge nx 4 with h | h
      · rw [show m = b.length by omega, List.take_length, List.take_of_length_le (by omega)]
      · rw [show m = 4 by omega]
    rw [← e]
    exact HX.out.cut (by omega) (by omega) (Nat.le_refl _)
  have HO := Lib.hid (eyeOpen w _ _ HR4.out (by rw [List.length_take]; omega))
  have hmi : (if (nx : Int) ≤ 4 then (nx : Int) else 4) = (m : Int) := by split <;> omega
  have hmc : m ≤ cx := by omega
  clear hl hb hc hL
  go_enter Tryz.func99, Tryz.ntmps99
  by_cases h4 : nx ≤ 4
  · obtain rfl : nx = m := by omega
    have h4b : (nx : Int) ≤ 4 := by omega
    have h4c : ¬ 4 < (nx : Int) := by omega
    go_wp2_with fail
    refine HO.out.mono ?_
    rintro e w1 ⟨p, d, rfl, hpn, hE, hd, N1⟩
    have HU := Lib.hid (eyeU32 w1 p d _ 0 hE)
    have HN1 := Lib.hid N1
    have HPN := Lib.hid hpn
    clear hE hd N1 hpn HO hmi HR4
    go_wp2_with fail
    refine HU.out.mono ?_
    rintro e w2 ⟨rfl, e2⟩
    have N2 := Lib.hid (HN1.out.eye e2 HPN.out)
    clear e2 HU HN1 HPN hmin hmc
    rw [show eNum 4 (b.take 4) 0 = sLen b from rfl]
    obtain ⟨n, Hn⟩ : ∃ n, Hid (sLen b = n) := ⟨_, Lib.hid rfl⟩
    rw [Hn.out]
    have HP := Lib.hid (segFramed w2 (n : Int))
    by_cases hf : 1 ≤ n ∧ n ≤ 65535
    · rw [decide_eq_true (by omega)] at HP
      have hf2 : (n : Int) ≤ 65535 := by omega
      by_cases hlen : n + 40 ≤ nx
      · exfalso; omega
      · have HF : Hid (sFirst ch b = none) := Lib.hid (if_neg (by rw [Hn.out, HB.out]; omega))
        have hle2 : (nx : Int) < 40 + (n : Int) := by omega
        clear hlen
        go_wp2_with fail
        refine HP.out.mono ?_
        rintro e w3 ⟨rfl, rfl⟩
        go_wp2
        go_ret3
        exact FirstTo.none HF.out N2.out
    · have HF : Hid (sFirst ch b = none) := Lib.hid (if_neg (by rw [Hn.out]; omega))
      rw [decide_eq_false (by omega)] at HP
      clear hf
      go_wp2_with fail
      refine HP.out.mono ?_
      rintro e w3 ⟨rfl, rfl⟩
      go_wp2
      go_ret3
      exact FirstTo.none HF.out N2.out
  · obtain rfl : m = 4 := by omega
    have h4b : ¬ (nx : Int) ≤ 4 := by omega
    have h4c : 4 < (nx : Int) := by omega
    go_wp2_with fail
    refine HO.out.mono ?_
    rintro e w1 ⟨p, d, rfl, hpn, hE, hd, N1⟩
    have HU := Lib.hid (eyeU32 w1 p d _ 0 hE)
    have HN1 := Lib.hid N1
    have HPN := Lib.hid hpn
    clear hE hd N1 hpn HO hmi HR4
    go_wp2_with fail
    refine HU.out.mono ?_
    rintro e w2 ⟨rfl, e2⟩
    have N2 := Lib.hid (HN1.out.eye e2 HPN.out)
    clear e2 HU HN1 HPN hmin hmc
    rw [show eNum 4 (b.take 4) 0 = sLen b from rfl]
    obtain ⟨n, Hn⟩ : ∃ n, Hid (sLen b = n) := ⟨_, Lib.hid rfl⟩
    rw [Hn.out]
    have HP := Lib.hid (segFramed w2 (n : Int))
    by_cases hf : 1 ≤ n ∧ n ≤ 65535
    · rw [decide_eq_true (by omega)] at HP
      have hf2 : (n : Int) ≤ 65535 := by omega
      by_cases hlen : n + 40 ≤ nx
      · have hle2 : ¬ (nx : Int) < 40 + (n : Int) := by omega
        obtain ⟨t, Ht⟩ : ∃ t, Hid ((b.drop 4).take n = t) := ⟨_, Lib.hid rfl⟩
        have htl : t.length = n := by rw [← Ht.out, List.length_take, List.length_drop, HB.out]; omega
        have HRt : Hid (Rd w2 (.slice (ax.map (fun x => x.add 4)) n (cx - 4)) t) := by
          refine Lib.hid ?_
          rw [← Ht.out]
          exact ((HX.out.new N2.out).rest (k := 4) (by omega)).cut (by omega) (by omega) (Nat.le_refl _)
        have hsl : ∀ wx : World, (Instr.slice 42 (.slice ax nx cx) (some (.int .i64 4)) (some (.int .i64 (4 + (n : Int)))) none).run Tryz.prog wx = .ok (.slice (ax.map (fun x => x.add 4)) n (cx - 4)) wx := by
          intro wx
          rw [run_slice_lh wx 42 ax nx cx Tryz.underlying42 .i64 .i64 _ _ (by omega) (by omega) (by omega)]
          have hz : (sizeOf (Tryz.prog.elem 42)).run Tryz.prog wx = .ok 1 wx := by kernel_rfl
          rw [hz]
          simp only [Result.andThen_ok, sliced, Nat.mul_one]
          have t1 : (4 : Int).toNat = 4 := rfl
          have t2 : (4 + (n : Int)).toNat - 4 = n := by omega
          rw [t1, t2, if_neg (by omega)]
        have HC := Lib.hid (cloneNew w2 _ t HRt.out (by omega))
        have HT : Hid (t.length = n) := Lib.hid htl
        have hn0 : 1 ≤ n := hf.1
        clear htl hf
        go_wp2_with fail
        refine HP.out.mono ?_
        rintro e w3 ⟨rfl, rfl⟩
        go_wp2_with fail
        refine HC.out.mono ?_
        rintro e w3 ⟨a3, n3, c3, rfl, r3, N3, b3⟩
        have N23 := Lib.hid (New.trans N2.out N3)
        have R3 := Lib.hid r3
        have B3 : Hid (∀ k, blk (.slice a3 n3 c3) = some k → w.heap.size ≤ k) := Lib.hid (fun k hk => Nat.le_trans N2.out.size (b3 (fun e => by have := HT.out; rw [e] at this; simp at this; omega) k hk))
        have HFr := Lib.hid (segFrame w3 _ _ ch t (HY.out.new N23.out) r3 (HL.out.new N23.out))
        rw [if_pos (show sFramed ch t from ⟨by rw [HT.out]; omega, HLen.out.2⟩), if_pos (show sFramed ch t from ⟨by rw [HT.out]; omega, HLen.out.2⟩)] at HFr
        clear r3 N3 b3 HC HP N2 HRt
        go_wp2_with fail
        refine HFr.out.mono ?_
        rintro e w4 ⟨v, a4, n4, c4, rfl, o4, r4, b4, -, N4⟩
        obtain ⟨av, nv, cv, rfl⟩ := own_slice o4
        have N24 := Lib.hid (New.trans N23.out N4)
        have R4 := Lib.hid r4
        have R3' := Lib.hid (R3.out.new N4)
        have B4 : Hid (∀ k, blk (.slice a4 n4 c4) = some k → w.heap.size ≤ k) := Lib.hid (fun k hk => Nat.le_trans N23.out.size (b4 k hk))
        have HPx := Lib.hid (hasPrefix w4 _ _ _ _ (HX.out.new N24.out) (Rd.of_own o4))
        clear o4 r4 b4 N4 HFr R3 N23
        rw [sFrame_length, HT.out] at HPx
        have HS : Hid (sFirst ch b = if b.take (n + 40) = sFrame ch t then some t else none) := by
          refine Lib.hid ?_
          unfold sFirst
          rw [Hn.out, Ht.out, HB.out]
          by_cases hq : b.take (n + 40) = sFrame ch t
          · rw [if_pos hq, if_pos ⟨hn0, by omega, hlen, hq⟩]
          · rw [if_neg hq, if_neg (fun hh => hq hh.2.2.2)]
        by_cases hq : b.take (n + 40) = sFrame ch t
        · rw [decide_eq_true hq] at HPx
          have HS2 : Hid (sFirst ch b = some t) := Lib.hid (by rw [HS.out, if_pos hq])
          clear hq HS
          go_wp2_with fail
          refine HPx.out.mono ?_
          rintro e w5 ⟨rfl, rfl⟩
          go_wp2
          go_ret3
          refine ⟨N24.out, ?_⟩
          rw [HS2.out]
          exact ⟨_, _, _, _, _, _, rfl, R3'.out, B3.out, R4.out, B4.out⟩
        · rw [decide_eq_false hq] at HPx
          have HS2 : Hid (sFirst ch b = none) := Lib.hid (by rw [HS.out, if_neg hq])
          clear hq HS
          go_wp2_with fail
          refine HPx.out.mono ?_
          rintro e w5 ⟨rfl, rfl⟩
          go_wp2
          go_ret3
          exact FirstTo.none HS2.out N24.out
      · have HF : Hid (sFirst ch b = none) := Lib.hid (if_neg (by rw [Hn.out, HB.out]; omega))
        have hle2 : (nx : Int) < 40 + (n : Int) := by omega
        clear hlen
        go_wp2_with fail
        refine HP.out.mono ?_
        rintro e w3 ⟨rfl, rfl⟩
        go_wp2
        go_ret3
        exact FirstTo.none HF.out N2.out
    · have HF : Hid (sFirst ch b = none) := Lib.hid (if_neg (by rw [Hn.out]; omega))
      rw [decide_eq_false (by omega)] at HP
      clear hf
      go_wp2_with fail
      refine HP.out.mono ?_
      rintro e w3 ⟨rfl, rfl⟩
      go_wp2
      go_ret3
      exact FirstTo.none HF.out N2.out

end Go.Proofs.YtijkmpcgkhijgaaGreatDoor

namespace Go.Proofs.YtijkmpcgkhijgaaGreatDoor
set_option linter.unusedVariables false
set_option linter.unusedSimpArgs false
open Go.RowKit

/-- what Parse returns -/
def ParseTo (w : World) (P : SegP) (e : Ending) (w' : World) : Prop :=
  New w w' ∧ ∃ a n c a2 n2 c2 ps, e = .returned (.tuple #[.agg #[.slice a n c, .slice a2 n2 c2, .bool P.sealed, .int .i64 (P.used : Int)], .bool P.ok]) ∧ RdL w' (.slice a n c) ps ∧ ps.map (·.2) = P.ts ∧ Rd w' (.slice a2 n2 c2) P.ch

/-- the same, its texts and its chain in new memory -/
def ParseToN (w : World) (P : SegP) (e : Ending) (w' : World) : Prop :=
  New w w' ∧ ∃ a n c a2 n2 c2 ps, e = .returned (.tuple #[.agg #[.slice a n c, .slice a2 n2 c2, .bool P.sealed, .int .i64 (P.used : Int)], .bool P.ok]) ∧ RdL w' (.slice a n c) ps ∧ ps.map (·.2) = P.ts ∧ Rd w' (.slice a2 n2 c2) P.ch ∧
    (∀ k, blk (.slice a n c) = some k → w.heap.size ≤ k) ∧ (∀ p ∈ ps, p.2 ≠ [] ∧ ∀ k, blk p.1 = some k → w.heap.size ≤ k) ∧ (∀ k, blk (.slice a2 n2 c2) = some k → w.heap.size ≤ k)

/-- the loop's objects: q: p's block -/
structure SegIn (w0 : World) (q : Nat) (b : List UInt8) (s : SegS) (vt vc : Value) (ps : List (Value × List UInt8)) (wr : World) : Prop where
  new : New w0 wr
  qge : w0.heap.size ≤ q
  at_ : At4 wr q 131 vt vc (.bool false) (.int .i64 (s.used : Int))
  own : wr.ownsRow w0.heap.size 42 1 vt ps.length (ps.map (·.1))
  tq : ∀ k, blk vt = some k → k ≠ q ∧ k < wr.heap.size
  rd : ∀ p ∈ ps, Rd wr p.1 p.2 ∧ p.2 ≠ [] ∧ ∀ k, blk p.1 = some k → w0.heap.size ≤ k ∧ k ≠ q ∧ blk vt ≠ some k
  ts : ps.map (·.2) = s.ts
  ch : Rd wr vc s.ch
  chq : ∀ k, blk vc = some k → w0.heap.size ≤ k ∧ k ≠ q ∧ blk vt ≠ some k
  len : s.ch.length = 32
  used : s.used ≤ b.length ∧ 41 * s.ts.length ≤ s.used

/-- more memory -/
theorem SegIn.more {w0 w1 w2 : World} {q : Nat} {b : List UInt8} {s : SegS} {vt vc : Value} {ps : List (Value × List UInt8)} (h : SegIn w0 q b s vt vc ps w1) (hn : New w1 w2) : SegIn w0 q b s vt vc ps w2 :=
  ⟨New.trans h.new hn, h.qge, h.at_.new hn, own_more h.own hn, fun k hk => ⟨(h.tq k hk).1, Nat.lt_of_lt_of_le (h.tq k hk).2 hn.size⟩,
   fun p hp => ⟨(h.rd p hp).1.new hn, (h.rd p hp).2⟩, h.ts, h.ch.new hn, h.chq, h.len, h.used⟩

/-- one text more -/
theorem SegIn.push {w0 wr wa : World} {q : Nat} {b : List UInt8} {s s' : SegS} {vt vc vt' x y : Value} {t : List UInt8} {ps : List (Value × List UInt8)} (h : SegIn w0 q b s vt vc ps wr)
    (hx : Rd wr x t) (ht : t ≠ []) (hxb : ∀ k, blk x = some k → w0.heap.size ≤ k ∧ k ≠ q ∧ blk vt ≠ some k) (hy : Rd wr y s'.ch) (hyb : ∀ k, blk y = some k → w0.heap.size ≤ k ∧ k ≠ q ∧ blk vt ≠ some k)
    (hs : sStep b s = some s') (hst : s'.ts = s.ts ++ [t]) (hlen : s'.ch.length = 32)
    (hown : wa.ownsRow w0.heap.size 42 1 vt' (ps.length + 1) (ps.map (·.1) ++ [x])) (ho : Only (fun k => blk vt = some k) wr wa) (hb : blk vt' = blk vt ∨ ∃ k, blk vt' = some k ∧ wr.heap.size ≤ k) (hlt : ∀ k, blk vt' = some k → k < wa.heap.size) :
    SegIn w0 q b s' vt' y (ps ++ [(x, t)]) (((wa.setCell ⟨q, 0, none⟩ vt').setCell ⟨q, 1, none⟩ y).setCell ⟨q, 3, none⟩ (.int .i64 (s'.used : Int))) := by
  have hq : q < wr.heap.size := h.at_.lt
  have hvt : ∀ k, blk vt = some k → k ≠ q := fun k hk => (h.tq k hk).1
  have hO : Only (fun k => k = q) wa (((wa.setCell ⟨q, 0, none⟩ vt').setCell ⟨q, 1, none⟩ y).setCell ⟨q, 3, none⟩ (.int .i64 (s'.used : Int))) :=
    (((Only.refl (fun k => k = q) wa).setCell (p := ⟨q, 0, none⟩) (fun _ => rfl) vt').setCell (p := ⟨q, 1, none⟩) (fun _ => rfl) y).setCell (p := ⟨q, 3, none⟩) (fun _ => rfl) _
  have hA : At4 wa q 131 vt vc (.bool false) (.int .i64 (s.used : Int)) := h.at_.only ho (fun hk => hvt q hk rfl)
  have hvt' : ∀ k, blk vt' = some k → k ≠ q := fun k hk => by
    rcases hb with e | ⟨j, e, hj⟩
    · exact hvt k (by rw [← e]; exact hk)
    · rw [e] at hk; cases hk; omega
  -- a block of a slice that reads as something, apart from vt's, is apart from vt''s
  have apart : ∀ (v : Value) (l : List UInt8), Rd wr v l → l ≠ [] → (∀ k, blk v = some k → blk vt ≠ some k) → ∀ k, blk v = some k → blk vt' ≠ some k := fun v l hr hne hv k hk e => by
    rcases hb with e1 | ⟨j, e1, hj⟩
    · exact hv k hk (by rw [← e1]; exact e)
    · rw [e1] at e; cases e
      have := hr.lt hk hne
      omega
  have keep : ∀ (v : Value) (l : List UInt8), Rd wr v l → (∀ k, blk v = some k → k ≠ q ∧ blk vt ≠ some k) → Rd (((wa.setCell ⟨q, 0, none⟩ vt').setCell ⟨q, 1, none⟩ y).setCell ⟨q, 3, none⟩ (.int .i64 (s'.used : Int))) v l := fun v l hr hv =>
    (hr.only ho (fun k hk _ e => (hv k hk).2 e)).only hO (fun k hk _ e => (hv k hk).1 e)
  refine ⟨?_, h.qge, ((hA.set0 _).set1 _).set3 _, ?_, fun k hk => ⟨hvt' k hk, Nat.lt_of_lt_of_le (hlt k hk) hO.size⟩, ?_, ?_, keep y _ hy (fun k hk => (hyb k hk).2), ?_, hlen, ?_⟩
  · refine Below.trans (Below.trans h.new (ho.below h.new.size (fun k hk => own_from h.own k hk))) (hO.below ?_ (fun k hk => by subst hk; exact h.qge))
    exact Nat.le_trans h.new.size ho.size
  · rw [List.map_append, List.length_append]
    refine ownsRow_only hown hO (fun k hk e => hvt' k hk e)
  · intro p hp
    rcases List.mem_append.1 hp with hp | hp
    · obtain ⟨r1, r2, r3⟩ := h.rd p hp
      exact ⟨keep _ _ r1 (fun k hk => (r3 k hk).2), r2, fun k hk => ⟨(r3 k hk).1, (r3 k hk).2.1, apart _ _ r1 r2 (fun k hk => (r3 k hk).2.2) k hk⟩⟩
    · rw [List.mem_singleton.1 hp]
      exact ⟨keep _ _ hx (fun k hk => (hxb k hk).2), ht, fun k hk => ⟨(hxb k hk).1, (hxb k hk).2.1, apart _ _ hx ht (fun k hk => (hxb k hk).2.2) k hk⟩⟩
  · rw [List.map_append, h.ts, hst]; rfl
  · exact fun k hk => ⟨(hyb k hk).1, (hyb k hk).2.1, apart _ _ hy (by intro e; rw [e] at hlen; cases hlen) (fun k hk => (hyb k hk).2.2) k hk⟩
  · have h1 := sStep_lt hs
    have h2 := h.used
    omega

/-- what is left when p's block and the result's block are written -/
theorem SegIn.out {w0 w2 wr : World} {q g0 : Nat} {b : List UInt8} {s : SegS} {vt vc : Value} {ps : List (Value × List UInt8)} (h : SegIn w2 q b s vt vc ps wr) (hn : New w0 w2) (hg : w0.heap.size ≤ g0) (hg2 : g0 < w2.heap.size) {w' : World} (ho : Only (fun k => k = q ∨ k = g0) wr w') :
    New w0 w' ∧ RdL w' vt ps ∧ Rd w' vc s.ch := by
  refine ⟨?_, ⟨?_, ?_⟩, ?_⟩
  · refine Below.trans (Below.trans hn (h.new.mono hn.size)) (ho.below (Nat.le_trans hn.size h.new.size) ?_)
    rintro k (rfl | rfl)
    · exact Nat.le_trans hn.size h.qge
    · exact hg
  · refine (RdV.of_own h.own).only ho ?_
    rintro k hk - (rfl | rfl)
    · exact (h.tq _ hk).1 rfl
    · have := own_from h.own _ hk; omega
  · intro p hp
    obtain ⟨r1, r2, r3⟩ := h.rd p hp
    refine r1.only ho ?_
    rintro k hk - (rfl | rfl)
    · exact (r3 _ hk).2.1 rfl
    · have := (r3 _ hk).1; omega
  · refine h.ch.only ho ?_
    rintro k hk - (rfl | rfl)
    · exact (h.chq _ hk).2.1 rfl
    · have := (h.chq _ hk).1; omega

theorem rd_tail {w : World} {a : Option Addr} {m c : Nat} {r : List UInt8} (h : Rd w (.slice a m c) r) {k : Nat} (hk : k ≤ m) : Rd w (.slice (if c = k then a else a.map (fun x => x.add k)) (m - k) (c - k)) (r.drop k) := by
  by_cases e : c = k
  · rw [if_pos e]
    obtain ⟨a', n', c', e', h1, h2, h3, h4, h5⟩ := h
    cases e'
    rw [List.drop_of_length_le (by omega)]
    exact ⟨a, _, _, rfl, by simp; omega, by omega, by omega, fun hn => by omega, fun _ _ _ _ hh => by simp at hh⟩
  · rw [if_neg e]
    exact h.rest hk

/-- 'p.Used' -/
def usedAt (w : World) (q : Nat) : Nat := match w.cell? ⟨q, 3, none⟩ with
  | some (.int _ n) => n.toNat
  | _ => 0

theorem SegIn.usedAt {w0 wr : World} {q : Nat} {b : List UInt8} {s : SegS} {vt vc : Value} {ps : List (Value × List UInt8)} (h : SegIn w0 q b s vt vc ps wr) : usedAt wr q = s.used := by
  unfold Go.Proofs.YtijkmpcgkhijgaaGreatDoor.usedAt; rw [h.at_.cells.2.2.2]; exact Int.toNat_natCast _

def CellsP (q : Nat) (vt vc : Value) (u : Nat) (w : World) : Prop := w.cell? ⟨q, 0, none⟩ = some vt ∧ w.cell? ⟨q, 1, none⟩ = some vc ∧ w.cell? ⟨q, 2, none⟩ = some (.bool false) ∧ w.cell? ⟨q, 3, none⟩ = some (.int .i64 (u : Int))

theorem infoSl : (Tryz.prog.info? 42).map (fun i => (i.zero, i.size, i.bytes)) = some (some (.slice none 0 0), 1, 24) := by kernel_rfl

set_option maxRecDepth 100000 in
set_option maxHeartbeats 2000000 in
theorem segParseN (w : World) (x y : Value) (b ch : List UInt8) (number count : Int) (hx : Rd w x b) (hy : Rd w y ch) (hb : b.length ≤ 1099511627776) (hc : ch.length ≤ 1099511627776) (hn : -9223372036854775808 ≤ number) (hn' : number ≤ 9223372036854775807) (hc1 : -9223372036854775808 ≤ count) (hc2 : count ≤ 9223372036854775807) (hL : Laid w) :
    Calls Tryz.prog 84 #[x, .int .i64 number, .int .i64 count, y] w (ParseToN w (sParse b number count ch)) := by
  have HX := Lib.hid hx
  have HY := Lib.hid hy
  have HL := Lib.hid hL
  obtain ⟨ax, nx, cx, rfl, hl, hle, hm, -⟩ := hx
  obtain ⟨ay, ny, cy, rfl, -⟩ := hy
  unfold maxLen at hm
  have HB := Lib.hid hl
  have HBL := Lib.hid hb
  have HCL := Lib.hid hc
  clear hl hc hL
  obtain ⟨r, hr⟩ : ∃ r, nx % 128 = r := ⟨_, rfl⟩
  have e1 : (nx : Int) % 128 = (r : Int) := by omega
  have HR0 := Lib.hid hr
  clear hr
  go_enter Tryz.func84, Tryz.ntmps84
  go_wp2_with fail
  generalize hw1 : World.alloc w _ = w1
  have HG1 : Hid (At4 w1 w.heap.size 131 (.slice none 0 0) (.slice none 0 0) (.bool false) (.int .i64 0)) := Lib.hid (by rw [← hw1]; exact heap_alloc_new _ _)
  have N1 : New w w1 := by rw [← hw1]; exact (Below.refl _ _).alloc (Nat.le_refl _) _
  clear hw1
  refine (segHead w1 number count _ ch (HY.out.new N1) hn hn' hc1 hc2).mono ?_
  rintro e w2 ⟨vh, rfl, oh, M2⟩
  obtain ⟨ah, nh, ch', rfl⟩ := own_slice oh
  have N2 := Lib.hid (New.trans N1 M2)
  have HG2 := Lib.hid (HG1.out.new M2)
  have HH := Lib.hid (Rd.of_own oh)
  clear oh N1 M2 HG1
  obtain ⟨f0, f1, f2, f3⟩ := HG2.out.frozen
  obtain ⟨g0, g1, g2, g3⟩ := HG2.out.cells
  by_cases h1 : nx < 256
  · have h1' : (nx : Int) < 256 := by omega
    have HF : Hid (sParse b number count ch = ⟨false, [], [], false, 0⟩) := Lib.hid (if_neg (by rw [HB.out]; omega))
    clear h1
    go_wp2
    refine bodyPost_ret (results_cell_tmp rfl _ _ w.heap.size _ _ _ _ rfl (HG2.out.put _ _ _ _) Tryz.underlying131 rfl (by kernel_rfl)) rfl ?_
    rw [HF.out]
    refine ⟨Below.trans N2.out ((At4.put_only _ _ _ _ _ _).below N2.out.size (fun k hk => by subst hk; exact Nat.le_refl _)), _, _, _, _, _, _, [], rfl, ⟨RdV.nil _, by simp⟩, rfl, Rd.nil _, by simp [blk], by simp, by simp [blk]⟩
  have h1' : ¬ (nx : Int) < 256 := by omega
  by_cases h2 : r = 0
  · subst h2
    have HR := Lib.hid (HX.out.new N2.out)
    have HE := Lib.hid (bytesEq w2 _ _ _ _ (HR.out.cut (k := 128) (c' := cx) (by omega) (by omega) (Nat.le_refl _)) HH.out)
    by_cases h3 : b.take 128 = sHeadOf number count ch
    · rw [decide_eq_true h3] at HE
      have hpl : sPlaced number count ch := by
        refine Decidable.byContradiction fun h => ?_
        unfold sHeadOf at h3
        rw [if_neg h] at h3
        have := congrArg List.length h3
        rw [List.length_take, HB.out, List.length_nil] at this
        omega
      have HP : Hid (sParse b number count ch = sEnd b count.toNat (sAll b ⟨[], ch, 128⟩)) := Lib.hid (if_pos ⟨by rw [HB.out]; omega, by rw [HB.out]; exact HR0.out, h3⟩)
      have HPL := Lib.hid hpl
      clear h3 hpl
      go_wp2_with fail
      refine HE.out.mono ?_
      rintro e w3 ⟨rfl, rfl⟩
      clear HE HH HR
      go_wp2_with fail
      refine (cloneNew w2 _ ch (HY.out.new N2.out) (by have := HCL.out; omega)).mono ?_
      rintro e w3 ⟨a3, n3, c3, rfl, r3, N3, b3⟩
      have R3 := Lib.hid r3
      have M3 := Lib.hid N3
      clear r3 N3 f0 f1 f2 f3 g0 g1 g2 g3 e1
      go_wp2
      generalize hw4 : World.alloc w3 _ = w4
      have HIN : Hid (SegIn w2 w3.heap.size b ⟨[], ch, 128⟩ (.slice none 0 0) (.slice a3 n3 c3) [] w4) := by
        have N4 : New w3 w4 := by rw [← hw4]; exact (Below.refl _ _).alloc (Nat.le_refl _) _
        refine Lib.hid ⟨New.trans M3.out N4, M3.out.size, by rw [← hw4]; exact heap_alloc_new _ _, World.ownsRow_nil _ _ _ _, by simp [blk], by simp, rfl, R3.out.new N4, ?_, HPL.out.2.1, ⟨show 128 ≤ b.length by rw [HB.out]; omega, by simp⟩⟩
        have hne : ch ≠ [] := by intro e; have := HPL.out.2.1; rw [e] at this; cases this
        refine fun k hk => ⟨b3 hne k hk, ?_, by simp [blk]⟩
        have := R3.out.lt hk hne
        omega
      obtain ⟨q, hq⟩ : ∃ q, w3.heap.size = q := ⟨_, rfl⟩
      rw [hq] at HIN
      rw [hq]
      clear hw4 hq M3 R3 b3
      go_loopw [12, 13, 14] (fun _ _ _ wr => ∃ s vt vc ps, sAll b ⟨[], ch, 128⟩ = sAll b s ∧ SegIn w2 q b s vt vc ps wr) (fun _ _ _ wr => b.length + 1 - usedAt wr q)
      case atStart => exact ⟨_, _, _, _, rfl, HIN.out⟩
      case round =>
        obtain ⟨s, vt, vc, ps, hs, hin⟩ := hrel
        obtain ⟨at', ct, hvt, hct, -⟩ := ownSl_form hin.own
        subst hvt
        obtain ⟨ac, nc, cc, hvc, -⟩ := id hin.ch
        subst hvc
        have HS := Lib.hid hs
        have N5 : New wr wr.drew := (Below.refl _ _).drew
        have HI5 := Lib.hid (hin.more N5)
        have HM := Lib.hid hin.usedAt
        clear hs hin HIN
        obtain ⟨u, Hu⟩ : ∃ u, Hid (s.used = u) := ⟨_, Lib.hid rfl⟩
        have hun : u ≤ nx := by have := HI5.out.used.1; rw [Hu.out, HB.out] at this; exact this
        have hbn : nx ≤ 1099511627776 := by have := HBL.out; rw [HB.out] at this; exact this
        have hpl : ps.length ≤ 1099511627776 := by
          have h1 := HI5.out.used.2
          have h2 := congrArg List.length HI5.out.ts
          rw [List.length_map] at h2
          have h3 := Hu.out
          omega
        obtain ⟨aT, hsl, HRT⟩ : ∃ aT, (∀ wx : World, (Instr.slice 42 (.slice ax nx cx) (some (.int .i64 (u : Int))) none none).run Tryz.prog wx = .ok (.slice aT (nx - u) (cx - u)) wx) ∧ Hid (∀ wx, Rd wx (.slice ax nx cx) b → Rd wx (.slice aT (nx - u) (cx - u)) (b.drop u)) := by
          refine ⟨_, fun wx => ?_, Lib.hid fun wx h => rd_tail h hun⟩
          rw [run_slice_l wx 42 ax nx cx Tryz.underlying42 .i64 _ (by omega) (by omega)]
          have hz : (sizeOf (Tryz.prog.elem 42)).run Tryz.prog wx = .ok 1 wx := by kernel_rfl
          rw [hz]
          simp only [Result.andThen_ok, sliced, Nat.mul_one, Int.toNat_natCast]
        have HF1 := Lib.hid (segFirst wr.drew _ _ _ _ (HRT.out _ ((HX.out.new N2.out).new HI5.out.new)) HI5.out.ch (by rw [List.length_drop]; omega) HI5.out.len ((HL.out.new N2.out).new HI5.out.new))
        have HC5 : Hid (CellsP q (.slice at' ps.length ct) (.slice ac nc cc) u wr.drew) := by
          refine Lib.hid ?_
          have := HI5.out.at_.cells
          rw [Hu.out] at this
          exact this
        go_wp2_with fail
        refine region_ord (CellsP q (.slice at' ps.length ct) (.slice ac nc cc) u) [(0, true), (1, true), (2, true), (3, true), (4, true), (5, true), (6, false), (7, true), (8, true), (9, true), (10, true), (11, true), (12, true), (13, true)] (by kernel_rfl) (by kernel_rfl) HC5.out (fun _ => ?_)
        generalize wr.drew = w5 at *
        unfold CellsP
        clear HC5 N5
        iterate 6 (apply ord_take; (simp only [List.getElem?_toArray, List.getElem?_cons_succ, List.getElem?_cons_zero]; rfl); rfl; (intro w hSw; (try dsimp only at hSw); go_simp; try with_reducible rfl); intro _; try simp only [Act.put, List.setIfInBounds_toArray, List.set_cons_zero, List.set_cons_succ])
        (apply ord_only; (simp only [List.getElem?_toArray, List.getElem?_cons_succ, List.getElem?_cons_zero]; rfl); rfl; intro K hK)
        go_simp
        refine HF1.out.mono ?_
        rintro e w6 ⟨N6, hmt⟩
        have HI6 := Lib.hid (HI5.out.more N6)
        have HC6 : Hid (CellsP q (.slice at' ps.length ct) (.slice ac nc cc) u w6) := by
          refine Lib.hid ?_
          have := HI6.out.at_.cells
          rw [Hu.out] at this
          exact this
        have HN6 := Lib.hid N6
        clear N6
        cases hf : sFirst s.ch (b.drop u) with
        | none =>
          rw [hf] at hmt
          subst hmt
          have HST : Hid (sStep b s = none) := Lib.hid (by unfold sStep; rw [Hu.out, hf]; rfl)
          clear hf HF1
          refine hK.out _ _ (HC6.out) (fun _ => ?_)
          clear hK K
          try simp only [Act.put, List.setIfInBounds_toArray, List.set_cons_zero, List.set_cons_succ]
          iterate 7 (apply ord_take; (simp only [List.getElem?_toArray, List.getElem?_cons_succ, List.getElem?_cons_zero]; rfl); rfl; (intro w hSw; (try dsimp only at hSw); go_simp; try with_reducible rfl); intro _; try simp only [Act.put, List.setIfInBounds_toArray, List.set_cons_zero, List.set_cons_succ])
          apply ord_done
          clear HM HI5 HC6 HN6 w5
          have N7 : New w6 w6.drew := (Below.refl _ _).drew
          have HI7 := Lib.hid (HI6.out.more N7)
          have HC7 : Hid (CellsP q (.slice at' ps.length ct) (.slice ac nc cc) u w6.drew) := by
            refine Lib.hid ?_
            have := HI7.out.at_.cells
            rw [Hu.out] at this
            exact this
          have hc0 : 0 ≤ count := HPL.out.1
          have hw1 : IntKind.u64.wrap count = count := IntWalk.u64_in _ (by omega)
          have hw2 : IntKind.u64.wrap (ps.length : Int) = (ps.length : Int) := IntWalk.u64_in _ (by omega)
          have hw3 : IntKind.u64.wrap (count + (ps.length : Int)) = count + (ps.length : Int) := IntWalk.u64_in _ (by omega)
          have HFt := Lib.hid (segFoot w6.drew (count + (ps.length : Int)) _ s.ch HI7.out.ch (by omega) (by omega) (by rw [HI7.out.len]; omega))
          have HTs : Hid ((count + (ps.length : Int)).toNat = count.toNat + s.ts.length) := by
            refine Lib.hid ?_
            have h2 := congrArg List.length HI7.out.ts
            rw [List.length_map] at h2
            omega
          rw [HTs.out] at HFt
          clear HTs hc0
          go_wp2
          refine region_ord (CellsP q (.slice at' ps.length ct) (.slice ac nc cc) u) [(0, true), (1, true), (2, true), (3, true), (4, true), (5, true), (6, true), (7, true), (8, true), (9, true), (10, true), (11, true), (12, true), (13, false), (14, false)] (by kernel_rfl) (by kernel_rfl) HC7.out (fun _ => ?_)
          generalize w6.drew = w7 at *
          clear HC7 N7 HI6
          unfold CellsP
          iterate 13 (apply ord_take; (simp only [List.getElem?_toArray, List.getElem?_cons_succ, List.getElem?_cons_zero]; rfl); rfl; (intro w hSw; (try dsimp only at hSw); go_simp; try with_reducible rfl); intro _; try simp only [Act.put, List.setIfInBounds_toArray, List.set_cons_zero, List.set_cons_succ])
          (apply ord_only; (simp only [List.getElem?_toArray, List.getElem?_cons_succ, List.getElem?_cons_zero]; rfl); rfl; intro K hK)
          go_simp
          refine HFt.out.mono ?_
          rintro e w8 ⟨vf, rfl, of, N8⟩
          obtain ⟨af, nf, cf, rfl⟩ := own_slice of
          have HI8 := Lib.hid (HI7.out.more N8)
          have HC8 : Hid (CellsP q (.slice at' ps.length ct) (.slice ac nc cc) u w8) := by
            refine Lib.hid ?_
            have := HI8.out.at_.cells
            rw [Hu.out] at this
            exact this
          have HPx := Lib.hid (hasPrefix w8 _ _ _ _ (HRT.out _ ((HX.out.new N2.out).new HI8.out.new)) (Rd.of_own of))
          rw [sFoot_length _ _ HI8.out.len] at HPx
          clear of N8 HI7 HFt hw1 hw2 hw3
          refine hK.out _ _ (HC8.out) (fun _ => ?_)
          clear hK K
          try simp only [Act.put, List.setIfInBounds_toArray, List.set_cons_zero, List.set_cons_succ]
          have HSd : Hid (decide (List.take 48 (List.drop u b) = sFoot (count.toNat + s.ts.length) s.ch) = sSealed b count.toNat s) := Lib.hid (by unfold sSealed; rw [Hu.out])
          rw [HSd.out] at HPx
          obtain ⟨sd, HSE⟩ : ∃ sd, Hid (sSealed b count.toNat s = sd) := ⟨_, Lib.hid rfl⟩
          rw [HSE.out] at HPx
          have HPZ : Hid (sParse b number count ch = ⟨true, s.ts, s.ch, sd, if sd = true then u + 48 else u⟩) := Lib.hid (by rw [HP.out, HS.out, sAll_none HST.out]; unfold sEnd; rw [HSE.out, Hu.out])
          clear HSd HSE HP HS HST
          (apply ord_only; (simp only [List.getElem?_toArray, List.getElem?_cons_succ, List.getElem?_cons_zero]; rfl); rfl; intro K hK)
          go_simp
          refine HPx.out.mono ?_
          rintro e w9 ⟨rfl, rfl⟩
          refine hK.out _ _ (HC8.out) (fun _ => ?_)
          clear hK K
          try simp only [Act.put, List.setIfInBounds_toArray, List.set_cons_zero, List.set_cons_succ]
          apply ord_done
          have HG8 := Lib.hid (HG2.out.new HI8.out.new)
          have HLt : Hid (w.heap.size ≠ q) := Lib.hid (by have := HI8.out.qge; have := HG2.out.lt; omega)
          clear HPx HRT hsl
          cases sd with
          | false =>
            obtain ⟨f0, f1, f2, f3⟩ := HG8.out.frozen
            obtain ⟨g0, g1, g2, g3⟩ := HG8.out.cells
            obtain ⟨x0, x1, x2, x3⟩ := HC8.out
            go_wp2
            refine bodyPost_ret (results_cell_tmp rfl _ _ w.heap.size _ _ _ _ rfl (HG8.out.put _ _ _ _) Tryz.underlying131 rfl (by kernel_rfl)) rfl ?_
            rw [HPZ.out]
            obtain ⟨z1, z2, z3⟩ := HI8.out.out N2.out (Nat.le_refl _) HG2.out.lt ((At4.put_only w8 w.heap.size (.slice at' ps.length ct) (.slice ac nc cc) (.bool false) (.int .i64 (u : Int))).mono (G := fun k => k = q ∨ k = w.heap.size) (fun _ _ h => .inr h))
            exact ⟨z1, _, _, _, _, _, _, ps, rfl, z2, HI8.out.ts, z3, fun k hk => Nat.le_trans N2.out.size (own_from HI8.out.own k hk), fun p hp => ⟨(HI8.out.rd p hp).2.1, fun k hk => Nat.le_trans N2.out.size ((HI8.out.rd p hp).2.2 k hk).1⟩, fun k hk => Nat.le_trans N2.out.size (HI8.out.chq k hk).1⟩
          | true =>
            have HA8 : Hid (At4 w8 q 131 (.slice at' ps.length ct) (.slice ac nc cc) (.bool false) (.int .i64 (u : Int))) := by
              refine Lib.hid ?_
              have := HI8.out.at_
              rw [Hu.out] at this
              exact this
            obtain ⟨f0, f1, f2, f3⟩ := HA8.out.frozen
            obtain ⟨x0, x1, x2, x3⟩ := HC8.out
            go_upto_region 12 with fail
            generalize hw10 : World.setCell w8 _ _ = w10
            have HA10 : Hid (At4 w10 q 131 (.slice at' ps.length ct) (.slice ac nc cc) (.bool true) (.int .i64 (u : Int))) := Lib.hid (by rw [← hw10]; exact HA8.out.set2 _)
            have HO10 : Hid (Only (fun k => k = q) w8 w10) := Lib.hid (by rw [← hw10]; exact only_cell _ _ _ _)
            clear hw10 x0 x1 x2 x3 f0 f1 f2 f3
            obtain ⟨f0, f1, f2, f3⟩ := HA10.out.frozen
            obtain ⟨x0, x1, x2, x3⟩ := HA10.out.cells
            go_upto_region 13 with fail
            generalize hw11 : World.setCell w10 _ _ = w11
            have HA11 : Hid (At4 w11 q 131 (.slice at' ps.length ct) (.slice ac nc cc) (.bool true) (.int .i64 ((u : Int) + 48))) := Lib.hid (by rw [← hw11]; exact HA10.out.set3 _)
            have HO11 : Hid (Only (fun k => k = q) w8 w11) := Lib.hid (by rw [← hw11]; exact HO10.out.setCell (p := ⟨q, 3, none⟩) (fun _ => rfl) _)
            have HG11 := Lib.hid (HG8.out.only HO11.out HLt.out)
            clear hw11 x0 x1 x2 x3 f0 f1 f2 f3 HA10 HO10 HG8 HA8 HC8
            obtain ⟨f0, f1, f2, f3⟩ := HG11.out.frozen
            obtain ⟨g0, g1, g2, g3⟩ := HG11.out.cells
            obtain ⟨x0, x1, x2, x3⟩ := HA11.out.cells
            go_wp2
            refine bodyPost_ret (results_cell_tmp rfl _ _ w.heap.size _ _ _ _ rfl (HG11.out.put _ _ _ _) Tryz.underlying131 rfl (by kernel_rfl)) rfl ?_
            rw [HPZ.out]
            obtain ⟨z1, z2, z3⟩ := HI8.out.out N2.out (Nat.le_refl _) HG2.out.lt ((HO11.out.mono (G := fun k => k = q ∨ k = w.heap.size) (fun _ _ h => .inl h)).trans ((At4.put_only w11 w.heap.size (.slice at' ps.length ct) (.slice ac nc cc) (.bool true) (.int .i64 ((u : Int) + 48))).mono (G := fun k => k = q ∨ k = w.heap.size) (fun _ _ h => .inr h)) (fun _ _ h => h))
            exact ⟨z1, _, _, _, _, _, _, ps, rfl, z2, HI8.out.ts, z3, fun k hk => Nat.le_trans N2.out.size (own_from HI8.out.own k hk), fun p hp => ⟨(HI8.out.rd p hp).2.1, fun k hk => Nat.le_trans N2.out.size ((HI8.out.rd p hp).2.2 k hk).1⟩, fun k hk => Nat.le_trans N2.out.size (HI8.out.chq k hk).1⟩
        | some t =>
          rw [hf] at hmt
          obtain ⟨a1, n1, c1, a2, n2, c2, rfl, r1, b1, r2, b2⟩ := hmt
          have HT := Lib.hid (sFirst_some hf)
          have HST : Hid (sStep b s = some ⟨s.ts ++ [t], sNext s.ch t, s.used + (t.length + 40)⟩) := Lib.hid (by unfold sStep; rw [Hu.out, hf]; rfl)
          have hn1 : n1 ≤ 65535 := by have := HT.out.2.1; rw [r1.len] at this; exact this
          have HN1 : Hid (t.length = n1) := Lib.hid r1.len
          clear hf HF1
          refine hK.out _ _ (HC6.out) (fun _ => ?_)
          clear hK K
          try simp only [Act.put, List.setIfInBounds_toArray, List.set_cons_zero, List.set_cons_succ]
          iterate 7 (apply ord_take; (simp only [List.getElem?_toArray, List.getElem?_cons_succ, List.getElem?_cons_zero]; rfl); rfl; (intro w hSw; (try dsimp only at hSw); go_simp; try with_reducible rfl); intro _; try simp only [Act.put, List.setIfInBounds_toArray, List.set_cons_zero, List.set_cons_succ])
          apply ord_done
          have hcx : ∀ k, blk (.slice a1 n1 c1) = some k → w2.heap.size ≤ k ∧ k ≠ q ∧ blk (.slice at' ps.length ct) ≠ some k := fun k hk => by
            have h1 := b1 k hk
            have h2 := HI5.out.new.size
            have h3 := HI5.out.at_.lt
            exact ⟨by omega, by omega, fun e => by have := (HI5.out.tq k e).2; omega⟩
          have hcy : ∀ k, blk (.slice a2 n2 c2) = some k → w2.heap.size ≤ k ∧ k ≠ q ∧ blk (.slice at' ps.length ct) ≠ some k := fun k hk => by
            have h1 := b2 k hk
            have h2 := HI5.out.new.size
            have h3 := HI5.out.at_.lt
            exact ⟨by omega, by omega, fun e => by have := (HI5.out.tq k e).2; omega⟩
          obtain ⟨i0, hi0, hz0, hz1, hz2⟩ := info_parts infoSl
          obtain ⟨v', wa, happ, hown', hO', hb', hlt'⟩ := run_append_u (P := Tryz.prog) w2.heap.size w6 52 52 42 i0 _ 24 Tryz.underlying52 hi0 hz0 hz1 hz2 rfl _ ps.length (ps.map (·.1)) HI6.out.own (.slice a1 n1 c1) rfl (by omega) (by omega) HI6.out.new.size
          obtain ⟨a', cap', rfl, -, -⟩ := ownSl_form hown'
          have HAPP := Lib.hid happ
          have HPU := Lib.hid (HI6.out.push r1 (by intro e; have := HT.out.1; rw [e] at this; simp at this) hcx r2 hcy HST.out rfl (sNext_length _ _) hown' hO' hb' hlt')
          have HAa : Hid (At4 wa q 131 (.slice at' ps.length ct) (.slice ac nc cc) (.bool false) (.int .i64 (u : Int))) := by
            refine Lib.hid ?_
            have := HI6.out.at_.only hO' (fun hk => (HI6.out.tq q hk).1 rfl)
            rw [Hu.out] at this
            exact this
          clear happ hown' hO' hb' hlt' r1 r2 b1 b2 hcx hcy
          obtain ⟨x0, x1, x2, x3⟩ := HC6.out
          obtain ⟨f0, f1, f2, f3⟩ := HAa.out.frozen
          obtain ⟨y0, y1, y2, y3⟩ := HAa.out.cells
          go_wp2_with (at_builtin; refine wpList_app1 rfl _ _ 52 rfl _ _ rfl rfl HAPP.out ?_)
          have hE := HPU.out
          have hcast : (((⟨s.ts ++ [t], sNext s.ch t, s.used + (t.length + 40)⟩ : SegS).used : Nat) : Int) = (u : Int) + (40 + (n1 : Int)) := by
            show ((s.used + (t.length + 40) : Nat) : Int) = _
            rw [Hu.out, HN1.out]
            omega
          rw [hcast] at hE
          have hlt := sStep_lt HST.out
          refine ⟨⟨_, _, _, _, by rw [HS.out, sAll_some HST.out], hE⟩, ?_⟩
          rw [hE.usedAt, HM.out]
          omega
    · have HF : Hid (sParse b number count ch = ⟨false, [], [], false, 0⟩) := Lib.hid (if_neg (by rintro ⟨-, -, h⟩; exact h3 h))
      rw [decide_eq_false h3] at HE
      clear h3
      go_wp2_with fail
      refine HE.out.mono ?_
      rintro e w3 ⟨rfl, rfl⟩
      go_wp2
      refine bodyPost_ret (results_cell_tmp rfl _ _ w.heap.size _ _ _ _ rfl (HG2.out.put _ _ _ _) Tryz.underlying131 rfl (by kernel_rfl)) rfl ?_
      rw [HF.out]
      refine ⟨Below.trans N2.out ((At4.put_only _ _ _ _ _ _).below N2.out.size (fun k hk => by subst hk; exact Nat.le_refl _)), _, _, _, _, _, _, [], rfl, ⟨RdV.nil _, by simp⟩, rfl, Rd.nil _, by simp [blk], by simp, by simp [blk]⟩
  · have h2' : ((r : Int) == 0) = false := by simp; omega
    have h2'' : ¬ (r : Int) = 0 := by omega
    have HF : Hid (sParse b number count ch = ⟨false, [], [], false, 0⟩) := Lib.hid (if_neg (by rw [HB.out, HR0.out]; omega))
    clear h2
    go_wp2
    refine bodyPost_ret (results_cell_tmp rfl _ _ w.heap.size _ _ _ _ rfl (HG2.out.put _ _ _ _) Tryz.underlying131 rfl (by kernel_rfl)) rfl ?_
    rw [HF.out]
    refine ⟨Below.trans N2.out ((At4.put_only _ _ _ _ _ _).below N2.out.size (fun k hk => by subst hk; exact Nat.le_refl _)), _, _, _, _, _, _, [], rfl, ⟨RdV.nil _, by simp⟩, rfl, Rd.nil _, by simp [blk], by simp, by simp [blk]⟩

theorem segParse (w : World) (x y : Value) (b ch : List UInt8) (number count : Int) (hx : Rd w x b) (hy : Rd w y ch) (hb : b.length ≤ 1099511627776) (hc : ch.length ≤ 1099511627776) (hn : -9223372036854775808 ≤ number) (hn' : number ≤ 9223372036854775807) (hc1 : -9223372036854775808 ≤ count) (hc2 : count ≤ 9223372036854775807) (hL : Laid w) :
    Calls Tryz.prog 84 #[x, .int .i64 number, .int .i64 count, y] w (ParseTo w (sParse b number count ch)) := by
  refine (segParseN w x y b ch number count hx hy hb hc hn hn' hc1 hc2 hL).mono ?_
  rintro e w' ⟨h1, a, n, c, a2, n2, c2, ps, h2, h3, h4, h5, -⟩
  exact ⟨h1, a, n, c, a2, n2, c2, ps, h2, h3, h4, h5⟩

end Go.Proofs.YtijkmpcgkhijgaaGreatDoor
