/-
  Layer 13, pure: headers, frames, footers; what a segment's bytes tell; what was laid is told.
-/
import Derived.Test.YtjkhklbeimgggaaDoorCrcSpec
import Derived.Test.YtjkhklbeimgggaaDoorShaA
import Derived.Test.YtjkhklbeimgggaaDoorEyeA
namespace Go.Proofs.YtjkhklbeimgggaaDoor
set_option linter.unusedVariables false
set_option linter.unusedSimpArgs false
open Go.RowKit

/-- the chain behind a text -/
def sNext (ch t : List UInt8) : List UInt8 := sha256 (ch ++ t)
theorem sNext_length (ch t : List UInt8) : (sNext ch t).length = 32 := sha256_length _

def sHeadRaw (n c : Nat) (ch : List UInt8) : List UInt8 := [101, 110, 103, 114] ++ be 4 n ++ ch ++ be 8 c
def sHead (n c : Nat) (ch : List UInt8) : List UInt8 := crcWith (sHeadRaw n c ch) ++ List.replicate (128 - (crcWith (sHeadRaw n c ch)).length) 0
def sFrame (ch t : List UInt8) : List UInt8 := crcWith (be 4 t.length ++ t ++ sNext ch t)
def sFoot (c : Nat) (ch : List UInt8) : List UInt8 := crcWith ([255, 255, 255, 255] ++ be 8 c ++ ch)

theorem sHeadRaw_length (n c : Nat) (ch : List UInt8) : (sHeadRaw n c ch).length = ch.length + 16 := by simp [sHeadRaw, be_length]; omega
theorem sHead_length (n c : Nat) (ch : List UInt8) (h : ch.length = 32) : (sHead n c ch).length = 128 := by
  unfold sHead
  rw [List.length_append, List.length_replicate, crcWith_length, sHeadRaw_length]
  omega
theorem sFrame_length (ch t : List UInt8) : (sFrame ch t).length = t.length + 40 := by
  unfold sFrame
  rw [crcWith_length, List.length_append, List.length_append, be_length, sNext_length]
  omega
theorem sFoot_length (c : Nat) (ch : List UInt8) (h : ch.length = 32) : (sFoot c ch).length = 48 := by
  unfold sFoot
  rw [crcWith_length]
  simp [be_length, h]

/-- the length at the beginning of b -/
def sLen (b : List UInt8) : Nat := eNum 4 (b.take 4) 0

theorem sLen_eq (b : List UInt8) : sLen b = if 4 ≤ b.length then val (b.take 4) else 0 := by
  unfold sLen eNum
  by_cases h : 4 ≤ b.length
  · rw [if_pos h, eTake_ok 4 _ (by rw [List.length_take]; omega), List.take_take, Nat.min_self]
  · rw [if_neg h, eTake_short 4 _ (by rw [List.length_take]; omega)]
    rfl

theorem sLen_lt (b : List UInt8) : sLen b < 4294967296 := eNum_lt 4 _ 0

/-- the text of the frame at the beginning of b -/
def sFirst (ch b : List UInt8) : Option (List UInt8) :=
  if 1 ≤ sLen b ∧ sLen b ≤ 65535 ∧ sLen b + 40 ≤ b.length ∧ b.take (sLen b + 40) = sFrame ch ((b.drop 4).take (sLen b)) then some ((b.drop 4).take (sLen b)) else none

theorem sFirst_some {ch b t : List UInt8} (h : sFirst ch b = some t) : 1 ≤ t.length ∧ t.length ≤ 65535 ∧ t.length + 40 ≤ b.length ∧ t.length = sLen b := by
  unfold sFirst at h
  split at h
  · rename_i hh
    have e : t = (b.drop 4).take (sLen b) := (Option.some.inj h).symm
    have : t.length = sLen b := by rw [e, List.length_take, List.length_drop]; omega
    omega
  · cases h

theorem sFirst_frame (ch t rest : List UInt8) (h1 : 1 ≤ t.length) (h2 : t.length ≤ 65535) : sFirst ch (sFrame ch t ++ rest) = some t := by
  have hl : (sFrame ch t ++ rest).length = t.length + 40 + rest.length := by rw [List.length_append, sFrame_length]
  have hs : sFrame ch t = be 4 t.length ++ (t ++ (sNext ch t ++ be 4 (crc (be 4 t.length ++ t ++ sNext ch t)).toNat)) := by
    unfold sFrame crcWith
    simp only [List.append_assoc]
  have hn : sLen (sFrame ch t ++ rest) = t.length := by
    rw [sLen_eq, if_pos (by omega), hs, List.append_assoc, List.take_left' (be_length 4 _), val_be_lt _ _ (by omega)]
  have ht : ((sFrame ch t ++ rest).drop 4).take t.length = t := by
    rw [hs, List.append_assoc, List.drop_left' (be_length 4 _), List.append_assoc, List.take_left' rfl]
  unfold sFirst
  rw [hn, ht, if_pos ⟨h1, h2, by omega, List.take_left' (sFrame_length _ _)⟩]

theorem sFirst_none_len {ch b : List UInt8} (h : sLen b = 0 ∨ 65535 < sLen b) : sFirst ch b = none := by
  unfold sFirst
  rw [if_neg (by omega)]

/-- what was read so far -/
structure SegS where
  ts : List (List UInt8)
  ch : List UInt8
  used : Nat

def sStep (b : List UInt8) (s : SegS) : Option SegS := (sFirst s.ch (b.drop s.used)).map fun t => ⟨s.ts ++ [t], sNext s.ch t, s.used + (t.length + 40)⟩

theorem sStep_lt {b : List UInt8} {s s' : SegS} (h : sStep b s = some s') : s.used + 41 ≤ s'.used ∧ s'.used ≤ b.length ∧ s'.ts.length = s.ts.length + 1 := by
  unfold sStep at h
  obtain ⟨t, ht, rfl⟩ := Option.map_eq_some_iff.1 h
  have := sFirst_some ht
  rw [List.length_drop] at this
  simp only [List.length_append, List.length_singleton]
  exact ⟨by omega, by omega, trivial⟩

def sAll (b : List UInt8) (s : SegS) : SegS := match h : sStep b s with
  | none => s
  | some s' => sAll b s'
termination_by b.length - s.used
decreasing_by have := sStep_lt h; omega

theorem sAll_none {b : List UInt8} {s : SegS} (h : sStep b s = none) : sAll b s = s := by
  rw [sAll]
  split
  · rfl
  · rename_i h'; rw [h] at h'; cases h'

theorem sAll_some {b : List UInt8} {s s' : SegS} (h : sStep b s = some s') : sAll b s = sAll b s' := by
  rw [sAll]
  split
  · rename_i h'; rw [h] at h'; cases h'
  · rename_i h'; rw [h] at h'; cases h'; rfl

theorem sAll_le (b : List UInt8) : ∀ (k : Nat) (s : SegS), b.length - s.used ≤ k → s.used ≤ b.length → 41 * s.ts.length ≤ s.used → (sAll b s).used ≤ b.length ∧ 41 * (sAll b s).ts.length ≤ (sAll b s).used := by
  intro k
  induction k with
  | zero =>
    intro s h1 h2 h3
    cases h : sStep b s with
    | none => rw [sAll_none h]; exact ⟨h2, h3⟩
    | some s' => have := sStep_lt h; omega
  | succ k ih =>
    intro s h1 h2 h3
    cases h : sStep b s with
    | none => rw [sAll_none h]; exact ⟨h2, h3⟩
    | some s' =>
      have := sStep_lt h
      rw [sAll_some h]
      exact ih s' (by omega) (by omega) (by omega)

/-- is what follows a footer? -/
def sSealed (b : List UInt8) (count : Nat) (s : SegS) : Bool := decide ((b.drop s.used).take 48 = sFoot (count + s.ts.length) s.ch)

/-- what a segment's bytes tell -/
structure SegP where
  ok : Bool
  ts : List (List UInt8)
  ch : List UInt8
  sealed : Bool
  used : Nat

/-- may it be a place in a log? -/
def sPlaced (number count : Int) (ch : List UInt8) : Prop := 0 ≤ count ∧ ch.length = 32 ∧ 0 ≤ number ∧ number ≤ 4294967295
instance (number count : Int) (ch : List UInt8) : Decidable (sPlaced number count ch) := by unfold sPlaced; infer_instance

def sHeadOf (number count : Int) (ch : List UInt8) : List UInt8 := if sPlaced number count ch then sHead number.toNat count.toNat ch else []
def sFootOf (count : Int) (ch : List UInt8) : List UInt8 := if 0 ≤ count ∧ ch.length = 32 then sFoot count.toNat ch else []

def sEnd (b : List UInt8) (count : Nat) (s : SegS) : SegP := ⟨true, s.ts, s.ch, sSealed b count s, if sSealed b count s = true then s.used + 48 else s.used⟩

def sParse (b : List UInt8) (number count : Int) (ch : List UInt8) : SegP :=
  if 256 ≤ b.length ∧ b.length % 128 = 0 ∧ b.take 128 = sHeadOf number count ch then sEnd b count.toNat (sAll b ⟨[], ch, 128⟩) else ⟨false, [], [], false, 0⟩

theorem sParse_unplaced (b : List UInt8) (number count : Int) (ch : List UInt8) (h : ¬ sPlaced number count ch) : sParse b number count ch = ⟨false, [], [], false, 0⟩ := by
  unfold sParse
  rw [if_neg]
  rintro ⟨h1, -, h3⟩
  unfold sHeadOf at h3
  rw [if_neg h] at h3
  have := congrArg List.length h3
  rw [List.length_take, List.length_nil] at this
  omega

/-- the frames of texts, one behind the other; the chain behind them -/
def sFrames : List UInt8 → List (List UInt8) → List UInt8
  | _, [] => []
  | ch, t :: r => sFrame ch t ++ sFrames (sNext ch t) r
def sChain (ch : List UInt8) (ts : List (List UInt8)) : List UInt8 := ts.foldl sNext ch

theorem sFrames_snoc (ts : List (List UInt8)) (t : List UInt8) : ∀ ch, sFrames ch (ts ++ [t]) = sFrames ch ts ++ sFrame (sChain ch ts) t := by
  induction ts with
  | nil => intro ch; simp [sFrames, sChain]
  | cons a r ih =>
    intro ch
    rw [List.cons_append, sFrames, ih, sFrames, List.append_assoc]
    rfl

theorem sChain_snoc (ch : List UInt8) (ts : List (List UInt8)) (t : List UInt8) : sChain ch (ts ++ [t]) = sNext (sChain ch ts) t := by simp [sChain]

theorem sChain_length (ch : List UInt8) (ts : List (List UInt8)) (h : ch.length = 32) : (sChain ch ts).length = 32 := by
  induction ts generalizing ch with
  | nil => exact h
  | cons a r ih => exact ih (sNext ch a) (sNext_length _ _)

theorem sAll_frames (b rest : List UInt8) : ∀ (ts : List (List UInt8)) (s : SegS), b.drop s.used = sFrames s.ch ts ++ rest → (∀ t ∈ ts, 1 ≤ t.length ∧ t.length ≤ 65535) →
    sAll b s = sAll b ⟨s.ts ++ ts, sChain s.ch ts, s.used + (sFrames s.ch ts).length⟩ := by
  intro ts
  induction ts with
  | nil => intro s _ _; simp [sFrames, sChain]
  | cons t r ih =>
    intro s hd ht
    have h1 := ht t (by simp)
    rw [sFrames, List.append_assoc] at hd
    have hs : sStep b s = some ⟨s.ts ++ [t], sNext s.ch t, s.used + (t.length + 40)⟩ := by
      unfold sStep
      rw [hd, sFirst_frame _ _ _ h1.1 h1.2]
      rfl
    rw [sAll_some hs, ih _ (by
      show b.drop (s.used + (t.length + 40)) = _
      rw [← List.drop_drop, hd, List.drop_left' (sFrame_length _ _)]) (fun x hx => ht x (by simp [hx]))]
    congr 1
    simp only [List.append_assoc, List.singleton_append, sFrames, List.length_append, sFrame_length, SegS.mk.injEq, true_and]
    refine ⟨rfl, by omega⟩

theorem val_ff : val [255, 255, 255, 255] = 4294967295 := by decide

/-- zeros are no frame and no footer -/
theorem sStep_zeros (b : List UInt8) (s : SegS) (k : Nat) (h : b.drop s.used = List.replicate k 0) : sStep b s = none := by
  unfold sStep
  rw [h, sFirst_none_len (.inl ?_)]
  · rfl
  · rw [sLen_eq]
    split
    · rename_i h4
      rw [List.length_replicate] at h4
      rw [List.take_replicate, Nat.min_eq_left h4]
      decide
    · rfl

theorem sFoot_head (c : Nat) (ch rest : List UInt8) : (sFoot c ch ++ rest).take 4 = [255, 255, 255, 255] := by
  unfold sFoot crcWith
  rfl

theorem sStep_foot (b : List UInt8) (s : SegS) (c : Nat) (ch rest : List UInt8) (h : b.drop s.used = sFoot c ch ++ rest) : sStep b s = none := by
  unfold sStep
  rw [h, sFirst_none_len (.inr ?_)]
  · rfl
  · have hl : 4 ≤ (sFoot c ch ++ rest).length := by
      have := congrArg List.length (sFoot_head c ch rest)
      rw [List.length_take] at this
      simp only [List.length_cons, List.length_nil] at this
      omega
    rw [sLen_eq, if_pos hl, sFoot_head, val_ff]
    omega

theorem sSealed_zeros (b : List UInt8) (count : Nat) (s : SegS) (k : Nat) (h : b.drop s.used = List.replicate k 0) : sSealed b count s = false := by
  unfold sSealed
  rw [h]
  refine decide_eq_false fun e => ?_
  have := congrArg (fun l : List UInt8 => l[0]?) e
  simp only [List.take_replicate, List.getElem?_replicate] at this
  have e2 : (sFoot (count + s.ts.length) s.ch)[0]? = some 255 := by unfold sFoot crcWith; rfl
  rw [e2] at this
  split at this
  · exact absurd (Option.some.inj this) (by decide)
  · cases this

/-- WHAT WAS LAID IS TOLD -/
theorem sParse_laid (number count : Int) (ch : List UInt8) (ts : List (List UInt8)) (sealed : Bool) (k : Nat) (hp : sPlaced number count ch) (ht : ∀ t ∈ ts, 1 ≤ t.length ∧ t.length ≤ 65535)
    (b : List UInt8) (hb : b = sHeadOf number count ch ++ (sFrames ch ts ++ ((if sealed = true then sFoot (count.toNat + ts.length) (sChain ch ts) else []) ++ List.replicate k 0))) (h1 : 256 ≤ b.length) (h2 : b.length % 128 = 0) :
    sParse b number count ch = ⟨true, ts, sChain ch ts, sealed, 128 + (sFrames ch ts).length + if sealed = true then 48 else 0⟩ := by
  have hh : (sHeadOf number count ch).length = 128 := by unfold sHeadOf; rw [if_pos hp, sHead_length _ _ _ hp.2.1]
  have hd : b.drop 128 = sFrames ch ts ++ ((if sealed = true then sFoot (count.toNat + ts.length) (sChain ch ts) else []) ++ List.replicate k 0) := by
    rw [hb, List.drop_left' hh]
  have htk : b.take 128 = sHeadOf number count ch := by rw [hb, List.take_left' hh]
  have hA := sAll_frames b _ ts ⟨[], ch, 128⟩ hd ht
  unfold sParse
  rw [if_pos ⟨h1, h2, htk⟩, hA]
  simp only [List.nil_append]
  have hr : b.drop (128 + (sFrames ch ts).length) = (if sealed = true then sFoot (count.toNat + ts.length) (sChain ch ts) else []) ++ List.replicate k 0 := by
    rw [← List.drop_drop, hd, List.drop_left' rfl]
  cases sealed with
  | true =>
    simp only [if_true] at hr ⊢
    rw [sAll_none (sStep_foot b _ _ _ _ hr)]
    have hs : sSealed b count.toNat ⟨ts, sChain ch ts, 128 + (sFrames ch ts).length⟩ = true := by
      unfold sSealed
      refine decide_eq_true ?_
      show (b.drop (128 + (sFrames ch ts).length)).take 48 = _
      rw [hr, List.take_left' (sFoot_length _ _ (sChain_length ch ts hp.2.1))]
    unfold sEnd
    rw [hs]
    rfl
  | false =>
    simp only [Bool.false_eq_true, if_false, List.nil_append] at hr ⊢
    rw [sAll_none (sStep_zeros b _ k hr)]
    have hs := sSealed_zeros b count.toNat ⟨ts, sChain ch ts, 128 + (sFrames ch ts).length⟩ k hr
    unfold sEnd
    rw [hs]
    rfl

end Go.Proofs.YtjkhklbeimgggaaDoor
