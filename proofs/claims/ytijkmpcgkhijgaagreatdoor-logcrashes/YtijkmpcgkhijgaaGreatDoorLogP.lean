/-
  Layer 15, pure: what a region's bytes tell.
  Layer 15, pure: the form of what is told; what is behind the end does not count; what was laid is told.
  Layer 15, pure: the region as a log writes it: what is appended is told; what was durable is there whatever follows.
  Layer 15, pure: a region behind a crash.
-/
import Derived.Test.YtijkmpcgkhijgaaGreatDoorSegA
import Derived.Test.YtijkmpcgkhijgaaGreatDoorDskA
namespace Go.Proofs.YtijkmpcgkhijgaaGreatDoor
set_option linter.unusedVariables false
set_option linter.unusedSimpArgs false
open Go.RowKit

/-- what a region told so far: texts, chain, the last segment and its used bytes, is it sealed -/
structure LgS where
  ts : List (List UInt8)
  ch : List UInt8
  last : Nat
  used : Nat
  sealed : Bool

def lgStart : LgS := ⟨[], List.replicate 32 0, 0, 0, false⟩

/-- segment i's bytes, of z bytes each -/
def lgSeg (B : List UInt8) (z i : Nat) : List UInt8 := (B.drop (z * i)).take z

theorem lgSeg_length {B : List UInt8} {z i n : Nat} (hB : B.length = z * n) (hi : i < n) : (lgSeg B z i).length = z := by
  unfold lgSeg
  have h1 : z * (i + 1) ≤ z * n := Nat.mul_le_mul_left _ hi
  rw [Nat.mul_succ] at h1
  rw [List.length_take, List.length_drop]
  omega

/-- a segment more -/
def lgNext (p : SegP) (i : Nat) (s : LgS) : LgS := ⟨s.ts ++ p.ts, p.ch, i, p.used, p.sealed⟩

/-- what n segments from the i-th on tell -/
def lgTold (B : List UInt8) (z : Nat) : Nat → Nat → LgS → LgS
  | 0, _, s => s
  | n + 1, i, s =>
    if (sParse (lgSeg B z i) (i : Int) (s.ts.length : Int) s.ch).ok = true then
      (if (sParse (lgSeg B z i) (i : Int) (s.ts.length : Int) s.ch).sealed = true then lgTold B z n (i + 1) (lgNext (sParse (lgSeg B z i) (i : Int) (s.ts.length : Int) s.ch) i s) else lgNext (sParse (lgSeg B z i) (i : Int) (s.ts.length : Int) s.ch) i s)
    else s

theorem sAll_ch {b : List UInt8} : ∀ (k : Nat) (s : SegS), b.length - s.used ≤ k → s.ch.length = 32 → (sAll b s).ch.length = 32 := by
  intro k
  induction k with
  | zero =>
    intro s h1 h2
    cases h : sStep b s with
    | none => rw [sAll_none h]; exact h2
    | some s' => have := sStep_lt h; omega
  | succ k ih =>
    intro s h1 h2
    cases h : sStep b s with
    | none => rw [sAll_none h]; exact h2
    | some s' =>
      have hlt := sStep_lt h
      rw [sAll_some h]
      refine ih s' (by omega) ?_
      unfold sStep at h
      obtain ⟨t, -, rfl⟩ := Option.map_eq_some_iff.1 h
      exact sNext_length _ _

theorem sAll_ge (b : List UInt8) : ∀ (k : Nat) (s : SegS), b.length - s.used ≤ k → s.used ≤ (sAll b s).used := by
  intro k
  induction k with
  | zero =>
    intro s h1
    cases h : sStep b s with
    | none => rw [sAll_none h]; exact Nat.le_refl _
    | some s' => have := sStep_lt h; omega
  | succ k ih =>
    intro s h1
    cases h : sStep b s with
    | none => rw [sAll_none h]; exact Nat.le_refl _
    | some s' =>
      have hlt := sStep_lt h
      rw [sAll_some h]
      have := ih s' (by omega)
      omega

/-- a segment that has contents: its chain, its texts and used bytes -/
theorem sParse_fits {b : List UInt8} {n c : Int} {ch : List UInt8} (hc : ch.length = 32) (h : (sParse b n c ch).ok = true) :
    (sParse b n c ch).ch.length = 32 ∧ 41 * (sParse b n c ch).ts.length ≤ b.length ∧ 128 ≤ (sParse b n c ch).used ∧ (sParse b n c ch).used ≤ b.length := by
  unfold sParse at h ⊢
  split
  · rename_i hh
    have h1 := sAll_le b b.length ⟨[], ch, 128⟩ (by show b.length - 128 ≤ b.length; omega) (by show 128 ≤ b.length; omega) (by simp)
    have h2 := sAll_ch (b := b) b.length ⟨[], ch, 128⟩ (by show b.length - 128 ≤ b.length; omega) hc
    have h3 := sAll_ge b b.length ⟨[], ch, 128⟩ (by show b.length - 128 ≤ b.length; omega)
    refine ⟨h2, ?_, ?_, ?_⟩
    · show 41 * (sAll b ⟨[], ch, 128⟩).ts.length ≤ b.length
      omega
    · show 128 ≤ (if sSealed b c.toNat (sAll b ⟨[], ch, 128⟩) = true then (sAll b ⟨[], ch, 128⟩).used + 48 else (sAll b ⟨[], ch, 128⟩).used)
      have : 128 ≤ (sAll b ⟨[], ch, 128⟩).used := h3
      split <;> omega
    · show (if sSealed b c.toNat (sAll b ⟨[], ch, 128⟩) = true then (sAll b ⟨[], ch, 128⟩).used + 48 else (sAll b ⟨[], ch, 128⟩).used) ≤ b.length
      split
      · rename_i hs
        have h4 := congrArg List.length (of_decide_eq_true hs)
        rw [sFoot_length _ _ h2, List.length_take, List.length_drop] at h4
        omega
      · exact h1.1
  · rename_i hh
    rw [if_neg hh] at h
    cases h

/-- what is told lies within the region -/
theorem lgTold_fits {B : List UInt8} {z N : Nat} (hB : B.length = z * N) : ∀ (n i : Nat) (s : LgS), i + n ≤ N → s.ch.length = 32 → z * s.last + s.used ≤ z * i ∨ (s.last = 0 ∧ s.used = 0) → 41 * s.ts.length ≤ z * i →
    (lgTold B z n i s).ch.length = 32 ∧ z * (lgTold B z n i s).last + (lgTold B z n i s).used ≤ z * (i + n) ∧ 41 * (lgTold B z n i s).ts.length ≤ z * (i + n) := by
  intro n
  induction n with
  | zero =>
    intro i s hi hc hu ht
    refine ⟨hc, ?_, ht⟩
    rcases hu with h | ⟨h1, h2⟩
    · exact h
    · show z * s.last + s.used ≤ _
      rw [h1, h2]; simp
  | succ n ih =>
    intro i s hi hc hu ht
    have hm : z * i ≤ z * (i + (n + 1)) := Nat.mul_le_mul_left z (Nat.le_add_right _ _)
    have hm2 : z * (i + 1) ≤ z * (i + (n + 1)) := Nat.mul_le_mul_left z (by omega)
    rw [Nat.mul_succ] at hm2
    unfold lgTold
    by_cases hok : (sParse (lgSeg B z i) (i : Int) (s.ts.length : Int) s.ch).ok = true
    · rw [if_pos hok]
      obtain ⟨f1, f2, f3, f4⟩ := sParse_fits hc hok
      rw [lgSeg_length hB (by omega)] at f2 f4
      have g1 : (lgNext (sParse (lgSeg B z i) (i : Int) (s.ts.length : Int) s.ch) i s).ch.length = 32 := f1
      have g2 : z * (lgNext (sParse (lgSeg B z i) (i : Int) (s.ts.length : Int) s.ch) i s).last + (lgNext (sParse (lgSeg B z i) (i : Int) (s.ts.length : Int) s.ch) i s).used ≤ z * (i + 1) := by
        show z * i + _ ≤ _
        rw [Nat.mul_succ]
        exact Nat.add_le_add_left f4 _
      have g3 : 41 * (lgNext (sParse (lgSeg B z i) (i : Int) (s.ts.length : Int) s.ch) i s).ts.length ≤ z * (i + 1) := by
        show 41 * (s.ts ++ _).length ≤ _
        rw [List.length_append, Nat.mul_succ]
        omega
      split
      · have h := ih (i + 1) _ (by omega) g1 (.inl g2) g3
        rw [show i + 1 + n = i + (n + 1) by omega] at h
        exact h
      · rw [Nat.mul_succ] at g2 g3
        exact ⟨g1, by omega, by omega⟩
    · rw [if_neg hok]
      refine ⟨hc, ?_, by omega⟩
      rcases hu with h | ⟨h1, h2⟩
      · omega
      · rw [h1, h2]; simp

end Go.Proofs.YtijkmpcgkhijgaaGreatDoor

namespace Go.Proofs.YtijkmpcgkhijgaaGreatDoor
set_option linter.unusedVariables false
set_option linter.unusedSimpArgs false
open Go.RowKit

def okTexts (ts : List (List UInt8)) : Prop := ∀ t ∈ ts, 1 ≤ t.length ∧ t.length ≤ 65535

theorem sFirst_bytes {ch b t : List UInt8} (h : sFirst ch b = some t) : b = sFrame ch t ++ b.drop (t.length + 40) := by
  have h1 := sFirst_some h
  unfold sFirst at h
  split at h
  · rename_i hh
    have e : t = (b.drop 4).take (sLen b) := (Option.some.inj h).symm
    have h2 := hh.2.2.2
    rw [← e, ← h1.2.2.2] at h2
    rw [← h2, List.take_append_drop]
  · cases h

/-- what is told lies in the bytes -/
theorem sAll_form (b : List UInt8) : ∀ (k : Nat) (s : SegS), b.length - s.used ≤ k → ∃ r, sAll b s = ⟨s.ts ++ r, sChain s.ch r, s.used + (sFrames s.ch r).length⟩ ∧ b.drop s.used = sFrames s.ch r ++ b.drop (s.used + (sFrames s.ch r).length) ∧ okTexts r := by
  intro k
  induction k with
  | zero =>
    intro s h1
    cases h : sStep b s with
    | none => exact ⟨[], by rw [sAll_none h]; simp [sChain, sFrames], by simp [sFrames], fun t ht => by cases ht⟩
    | some s' => have := sStep_lt h; omega
  | succ k ih =>
    intro s h1
    cases h : sStep b s with
    | none => exact ⟨[], by rw [sAll_none h]; simp [sChain, sFrames], by simp [sFrames], fun t ht => by cases ht⟩
    | some s' =>
      have hlt := sStep_lt h
      obtain ⟨r, e1, e2, e3⟩ := ih s' (by omega)
      unfold sStep at h
      obtain ⟨t, ht, rfl⟩ := Option.map_eq_some_iff.1 h
      have hb := sFirst_bytes ht
      have hs := sFirst_some ht
      dsimp only at e1 e2
      refine ⟨t :: r, ?_, ?_, ?_⟩
      · rw [sAll_some (show sStep b s = some _ from h), e1]
        simp only [List.append_assoc, List.singleton_append, sFrames, List.length_append, sFrame_length, SegS.mk.injEq, true_and]
        exact ⟨rfl, by omega⟩
      · rw [List.drop_drop] at hb
        rw [hb, e2]
        simp only [sFrames, List.append_assoc, List.length_append, sFrame_length]
        rw [show s.used + (t.length + 40) + (sFrames (sNext s.ch t) r).length = s.used + (t.length + 40 + (sFrames (sNext s.ch t) r).length) by omega]
      · intro x hx
        rcases List.mem_cons.1 hx with rfl | hx
        · exact ⟨hs.1, hs.2.1⟩
        · exact e3 x hx

/-- the bytes of a segment that has contents -/
theorem sParse_form {b : List UInt8} {n c : Int} {ch : List UInt8} (hc : ch.length = 32) (h : (sParse b n c ch).ok = true) :
    sPlaced n c ch ∧ 256 ≤ b.length ∧ b.length % 128 = 0 ∧ okTexts (sParse b n c ch).ts ∧ (sParse b n c ch).ch = sChain ch (sParse b n c ch).ts ∧
      (sParse b n c ch).used = 128 + (sFrames ch (sParse b n c ch).ts).length + (if (sParse b n c ch).sealed = true then 48 else 0) ∧
      b = sHeadOf n c ch ++ (sFrames ch (sParse b n c ch).ts ++ ((if (sParse b n c ch).sealed = true then sFoot (c.toNat + (sParse b n c ch).ts.length) (sChain ch (sParse b n c ch).ts) else []) ++ b.drop (sParse b n c ch).used)) := by
  by_cases hp : sPlaced n c ch
  rotate_left
  · rw [sParse_unplaced _ _ _ _ hp] at h; cases h
  have hh : (sHeadOf n c ch).length = 128 := by unfold sHeadOf; rw [if_pos hp, sHead_length _ _ _ hp.2.1]
  by_cases hcnd : 256 ≤ b.length ∧ b.length % 128 = 0 ∧ b.take 128 = sHeadOf n c ch
  rotate_left
  · unfold sParse at h; rw [if_neg hcnd] at h; cases h
  obtain ⟨r, e1, e2, e3⟩ := sAll_form b b.length ⟨[], ch, 128⟩ (by show b.length - 128 ≤ b.length; omega)
  dsimp only at e1 e2
  rw [List.nil_append] at e1
  have hP : sParse b n c ch = sEnd b c.toNat ⟨r, sChain ch r, 128 + (sFrames ch r).length⟩ := by
    unfold sParse; rw [if_pos hcnd, e1]
  have hb : b = sHeadOf n c ch ++ (sFrames ch r ++ b.drop (128 + (sFrames ch r).length)) := by
    rw [← e2, ← hcnd.2.2, List.take_append_drop]
  refine ⟨hp, hcnd.1, hcnd.2.1, ?_⟩
  rw [hP]
  obtain ⟨x, hx⟩ : ∃ x, sSealed b c.toNat ⟨r, sChain ch r, 128 + (sFrames ch r).length⟩ = x := ⟨_, rfl⟩
  have hE : sEnd b c.toNat ⟨r, sChain ch r, 128 + (sFrames ch r).length⟩ = ⟨true, r, sChain ch r, x, if x = true then 128 + (sFrames ch r).length + 48 else 128 + (sFrames ch r).length⟩ := by
    unfold sEnd; rw [hx]
  rw [hE]
  refine ⟨e3, rfl, ?_, ?_⟩
  · cases x <;> rfl
  · cases x with
    | false => exact hb
    | true =>
      have hf : (b.drop (128 + (sFrames ch r).length)).take 48 = sFoot (c.toNat + r.length) (sChain ch r) := of_decide_eq_true hx
      show b = sHeadOf n c ch ++ (sFrames ch r ++ (sFoot (c.toNat + r.length) (sChain ch r) ++ b.drop (128 + (sFrames ch r).length + 48)))
      rw [← hf, ← List.drop_drop (i := 48), List.take_append_drop]
      exact hb

theorem sHead_first (n c : Nat) (ch : List UInt8) : (sHead n c ch)[0]? = some 101 := by unfold sHead crcWith sHeadRaw; rfl

theorem sParse_zeros (k : Nat) (n c : Int) (ch : List UInt8) : (sParse (List.replicate k 0) n c ch).ok = false := by
  by_cases hp : sPlaced n c ch
  · unfold sParse
    rw [if_neg]
    rintro ⟨h1, -, h2⟩
    have h3 := congrArg (fun l : List UInt8 => l[0]?) h2
    rw [List.length_replicate] at h1
    have h4 : (sHeadOf n c ch)[0]? = some 101 := by unfold sHeadOf; rw [if_pos hp]; exact sHead_first _ _ _
    simp only [h4, List.take_replicate, List.getElem?_replicate] at h3
    rw [if_pos (by omega)] at h3
    exact absurd (Option.some.inj h3) (by decide)
  · rw [sParse_unplaced _ _ _ _ hp]

/-- with zeros behind its end a segment tells the same -/
theorem sParse_zeroed {b : List UInt8} {n c : Int} {ch : List UInt8} (hc : ch.length = 32) (h : (sParse b n c ch).ok = true) :
    sParse (b.take (sParse b n c ch).used ++ List.replicate (b.length - (sParse b n c ch).used) 0) n c ch = sParse b n c ch := by
  obtain ⟨hp, h1, h2, h3, h4, h5, h6⟩ := sParse_form hc h
  have hfit := sParse_fits hc h
  generalize hP : sParse b n c ch = P at *
  have hh : (sHeadOf n c ch).length = 128 := by unfold sHeadOf; rw [if_pos hp, sHead_length _ _ _ hp.2.1]
  have hk : b.take P.used = sHeadOf n c ch ++ (sFrames ch P.ts ++ (if P.sealed = true then sFoot (c.toNat + P.ts.length) (sChain ch P.ts) else [])) := by
    have hl : (sHeadOf n c ch ++ (sFrames ch P.ts ++ (if P.sealed = true then sFoot (c.toNat + P.ts.length) (sChain ch P.ts) else []))).length = P.used := by
      rw [List.length_append, List.length_append, hh, h5]
      split
      · rw [sFoot_length _ _ (sChain_length _ _ hp.2.1)]; omega
      · simp
    have h7 : b = (sHeadOf n c ch ++ (sFrames ch P.ts ++ (if P.sealed = true then sFoot (c.toNat + P.ts.length) (sChain ch P.ts) else []))) ++ b.drop P.used := by
      rw [List.append_assoc, List.append_assoc]; exact h6
    conv => lhs; rw [h7]
    exact List.take_left' hl
  have h8 := sParse_laid n c ch P.ts P.sealed (b.length - P.used) hp h3 (b.take P.used ++ List.replicate (b.length - P.used) 0) (by rw [hk]; simp only [List.append_assoc]) (by rw [List.length_append, List.length_take, List.length_replicate]; omega) (by rw [List.length_append, List.length_take, List.length_replicate, show min P.used b.length + (b.length - P.used) = b.length by omega]; exact h2)
  rw [h8]
  have hok : P.ok = true := h
  rw [← h4, ← h5, ← hok]

/-- the segments ahead of the i-th are sealed, and lead to s -/
inductive Reach (B : List UInt8) (z : Nat) : Nat → LgS → Prop where
  | zero : Reach B z 0 lgStart
  | next {i : Nat} {s : LgS} (h : Reach B z i s) (h1 : (sParse (lgSeg B z i) (i : Int) (s.ts.length : Int) s.ch).ok = true) (h2 : (sParse (lgSeg B z i) (i : Int) (s.ts.length : Int) s.ch).sealed = true) : Reach B z (i + 1) (lgNext (sParse (lgSeg B z i) (i : Int) (s.ts.length : Int) s.ch) i s)

theorem Reach.ch {B : List UInt8} {z i : Nat} {s : LgS} (h : Reach B z i s) : s.ch.length = 32 := by
  induction h with
  | zero => simp [lgStart]
  | next h h1 h2 ih => exact (sParse_fits ih h1).1

theorem Reach.told {B : List UInt8} {z i : Nat} {s : LgS} (h : Reach B z i s) : ∀ n, i ≤ n → lgTold B z n 0 lgStart = lgTold B z (n - i) i s := by
  induction h with
  | zero => intro n _; rfl
  | @next i s h h1 h2 ih =>
    intro n hn
    rw [ih n (by omega), show n - i = (n - (i + 1)) + 1 by omega]
    conv => lhs; unfold lgTold
    rw [if_pos h1, if_pos h2]

theorem Reach.same {B B' : List UInt8} {z i : Nat} {s : LgS} (h : Reach B z i s) : (∀ j, j < i → lgSeg B' z j = lgSeg B z j) → Reach B' z i s := by
  induction h with
  | zero => intro _; exact .zero
  | @next i s h h1 h2 ih =>
    intro hs
    have hr := ih (fun j hj => hs j (by omega))
    have he := hs i (by omega)
    have hn := Reach.next hr (by rw [he]; exact h1) (by rw [he]; exact h2)
    rwa [he] at hn

/-- how a reading ends -/
theorem told_end {B : List UInt8} {z : Nat} : ∀ (n i : Nat) (s : LgS), Reach B z i s →
    (∃ i' s', Reach B z i' s' ∧ i' ≤ i + n ∧ lgTold B z n i s = s' ∧ (i' = i + n ∨ (sParse (lgSeg B z i') (i' : Int) (s'.ts.length : Int) s'.ch).ok = false)) ∨
    (∃ i' s', Reach B z i' s' ∧ i' < i + n ∧ (sParse (lgSeg B z i') (i' : Int) (s'.ts.length : Int) s'.ch).ok = true ∧ (sParse (lgSeg B z i') (i' : Int) (s'.ts.length : Int) s'.ch).sealed = false ∧ lgTold B z n i s = lgNext (sParse (lgSeg B z i') (i' : Int) (s'.ts.length : Int) s'.ch) i' s') := by
  intro n
  induction n with
  | zero => intro i s h; exact .inl ⟨i, s, h, by omega, rfl, .inl rfl⟩
  | succ n ih =>
    intro i s h
    unfold lgTold
    by_cases hok : (sParse (lgSeg B z i) (i : Int) (s.ts.length : Int) s.ch).ok = true
    · rw [if_pos hok]
      by_cases hse : (sParse (lgSeg B z i) (i : Int) (s.ts.length : Int) s.ch).sealed = true
      · rw [if_pos hse]
        have := ih (i + 1) _ (.next h hok hse)
        rwa [show i + 1 + n = i + (n + 1) by omega] at this
      · rw [if_neg hse]
        exact .inr ⟨i, s, h, by omega, hok, by simpa using hse, rfl⟩
    · rw [if_neg hok]
      exact .inl ⟨i, s, h, by omega, rfl, .inr (by simpa using hok)⟩

theorem lgTold_mono {B : List UInt8} {z : Nat} : ∀ (n i : Nat) (s : LgS), s.ts.length ≤ (lgTold B z n i s).ts.length := by
  intro n
  induction n with
  | zero => intro i s; exact Nat.le_refl _
  | succ n ih =>
    intro i s
    unfold lgTold
    split
    · split
      · refine Nat.le_trans ?_ (ih _ _)
        show s.ts.length ≤ (s.ts ++ _).length
        rw [List.length_append]; omega
      · show s.ts.length ≤ (s.ts ++ _).length
        rw [List.length_append]; omega
    · exact Nat.le_refl _

def zeroB (B : List UInt8) (e : Nat) : List UInt8 := B.take e ++ List.replicate (B.length - e) 0

theorem lgSeg_get (B : List UInt8) (z j i : Nat) : (lgSeg B z j)[i]? = if i < z then B[z * j + i]? else none := by
  unfold lgSeg
  rw [List.getElem?_take, List.getElem?_drop]

theorem zeroB_get {B : List UInt8} {e : Nat} (he : e ≤ B.length) (i : Nat) : (zeroB B e)[i]? = if i < e then B[i]? else if i < B.length then some 0 else none := by
  unfold zeroB
  by_cases h : i < e
  · rw [List.getElem?_append_left (by rw [List.length_take]; omega), List.getElem?_take, if_pos h, if_pos h]
  · rw [List.getElem?_append_right (by rw [List.length_take]; omega), List.length_take, Nat.min_eq_left he, List.getElem?_replicate, if_neg h]
    by_cases h2 : i < B.length
    · rw [if_pos (by omega), if_pos h2]
    · rw [if_neg (by omega), if_neg h2]

theorem lgSeg_ahead {B B' : List UInt8} {z j e : Nat} (h : ∀ i, i < e → B'[i]? = B[i]?) (hj : z * (j + 1) ≤ e) : lgSeg B' z j = lgSeg B z j := by
  rw [Nat.mul_succ] at hj
  apply List.ext_getElem?
  intro i
  rw [lgSeg_get, lgSeg_get]
  split
  · exact h _ (by omega)
  · rfl

theorem lgSeg_zeroB {B : List UInt8} {z j u N : Nat} (hB : B.length = z * N) (hj : j < N) (hu : u ≤ z) : lgSeg (zeroB B (z * j + u)) z j = (lgSeg B z j).take u ++ List.replicate ((lgSeg B z j).length - u) 0 := by
  have hz : z * (j + 1) ≤ z * N := Nat.mul_le_mul_left z hj
  rw [Nat.mul_succ] at hz
  have hl := lgSeg_length hB hj
  apply List.ext_getElem?
  intro i
  rw [lgSeg_get, zeroB_get (by omega), hl]
  by_cases h1 : i < u
  · rw [List.getElem?_append_left (by rw [List.length_take]; omega), List.getElem?_take, if_pos h1, lgSeg_get, if_pos (by omega), if_pos (by omega), if_pos (by omega)]
  · rw [List.getElem?_append_right (by rw [List.length_take]; omega), List.length_take, hl, Nat.min_eq_left hu, List.getElem?_replicate]
    by_cases h2 : i < z
    · rw [if_pos h2, if_neg (by omega), if_pos (by omega), if_pos (by omega)]
    · rw [if_neg h2, if_neg (by omega)]

theorem lgSeg_behind {B : List UInt8} {z j e N : Nat} (hB : B.length = z * N) (hj : j < N) (he : e ≤ z * j) : lgSeg (zeroB B e) z j = List.replicate z 0 := by
  have hz : z * (j + 1) ≤ z * N := Nat.mul_le_mul_left z hj
  rw [Nat.mul_succ] at hz
  apply List.ext_getElem?
  intro i
  rw [lgSeg_get, zeroB_get (by omega), List.getElem?_replicate]
  by_cases h2 : i < z
  · rw [if_pos h2, if_pos h2, if_neg (by omega), if_pos (by omega)]
  · rw [if_neg h2, if_neg h2]

theorem Reach.last {B : List UInt8} {z N i : Nat} {s : LgS} (hB : B.length = z * N) (hi : i ≤ N) (h : Reach B z i s) : (i = 0 ∧ s = lgStart) ∨ ∃ j s0, i = j + 1 ∧ Reach B z j s0 ∧ (sParse (lgSeg B z j) (j : Int) (s0.ts.length : Int) s0.ch).ok = true ∧ (sParse (lgSeg B z j) (j : Int) (s0.ts.length : Int) s0.ch).sealed = true ∧ s = lgNext (sParse (lgSeg B z j) (j : Int) (s0.ts.length : Int) s0.ch) j s0 := by
  cases h with
  | zero => exact .inl ⟨rfl, rfl⟩
  | next h h1 h2 => exact .inr ⟨_, _, rfl, h, h1, h2, rfl⟩

/-- WHAT IS BEHIND THE END DOES NOT COUNT: with zeros there the region tells the same -/
theorem told_zeroed {B : List UInt8} {z N : Nat} (hB : B.length = z * N) : lgTold (zeroB B (z * (lgTold B z N 0 lgStart).last + (lgTold B z N 0 lgStart).used)) z N 0 lgStart = lgTold B z N 0 lgStart := by
  have part : ∀ (j : Nat) (s0 : LgS), j < N → Reach B z j s0 → (sParse (lgSeg B z j) (j : Int) (s0.ts.length : Int) s0.ch).ok = true →
      Reach (zeroB B (z * j + (sParse (lgSeg B z j) (j : Int) (s0.ts.length : Int) s0.ch).used)) z j s0 ∧ sParse (lgSeg (zeroB B (z * j + (sParse (lgSeg B z j) (j : Int) (s0.ts.length : Int) s0.ch).used)) z j) (j : Int) (s0.ts.length : Int) s0.ch = sParse (lgSeg B z j) (j : Int) (s0.ts.length : Int) s0.ch := by
    intro j s0 hj hr hok
    have hf := sParse_fits hr.ch hok
    have hl := lgSeg_length hB hj
    rw [hl] at hf
    refine ⟨hr.same (fun i hi => ?_), ?_⟩
    · have h1 : z * (i + 1) ≤ z * j := Nat.mul_le_mul_left z hi
      have hz : z * (j + 1) ≤ z * N := Nat.mul_le_mul_left z hj
      rw [Nat.mul_succ] at hz
      refine lgSeg_ahead (e := z * j) (fun k hk => ?_) h1
      rw [zeroB_get (by omega), if_pos (by omega)]
    · rw [lgSeg_zeroB hB hj hf.2.2.2]
      exact sParse_zeroed hr.ch hok
  rcases told_end N 0 lgStart (.zero (B := B) (z := z)) with ⟨i, s, hr, hi, hT, hend⟩ | ⟨i, s, hr, hi, hok, hns, hT⟩
  · rw [Nat.zero_add] at hi hend
    rw [hT]
    rcases hr.last hB hi with ⟨rfl, rfl⟩ | ⟨j, s0, rfl, hr0, hok, hse, rfl⟩
    · show lgTold (zeroB B (z * 0 + 0)) z N 0 lgStart = lgStart
      cases N with
      | zero => rfl
      | succ N =>
        unfold lgTold
        rw [lgSeg_behind hB (by omega) (by simp), sParse_zeros, if_neg (by decide)]
    · obtain ⟨hr1, hp1⟩ := part j s0 (by omega) hr0 hok
      show lgTold (zeroB B (z * j + (sParse (lgSeg B z j) (j : Int) (s0.ts.length : Int) s0.ch).used)) z N 0 lgStart = _
      have hr2 := Reach.next hr1 (by rw [hp1]; exact hok) (by rw [hp1]; exact hse)
      rw [hp1] at hr2
      rw [hr2.told N hi]
      rcases Nat.lt_or_ge (j + 1) N with h | h
      · rw [show N - (j + 1) = (N - (j + 2)) + 1 by omega]
        have hf := sParse_fits hr0.ch hok
        rw [lgSeg_length hB (by omega)] at hf
        conv => lhs; unfold lgTold
        rw [lgSeg_behind hB h (by rw [Nat.mul_succ]; omega), sParse_zeros, if_neg (by decide)]
      · rw [show N - (j + 1) = 0 by omega]; rfl
  · rw [Nat.zero_add] at hi
    rw [hT]
    obtain ⟨hr1, hp1⟩ := part i s hi hr hok
    show lgTold (zeroB B (z * i + (sParse (lgSeg B z i) (i : Int) (s.ts.length : Int) s.ch).used)) z N 0 lgStart = _
    rw [hr1.told N (by omega), show N - i = (N - (i + 1)) + 1 by omega]
    conv => lhs; unfold lgTold
    rw [hp1, if_pos hok, if_neg (by rw [hns]; decide)]

end Go.Proofs.YtijkmpcgkhijgaaGreatDoor

namespace Go.Proofs.YtijkmpcgkhijgaaGreatDoor
set_option linter.unusedVariables false
set_option linter.unusedSimpArgs false
open Go.RowKit

/-- bytes written over others -/
def putB (B : List UInt8) (e : Nat) (s : List UInt8) : List UInt8 := B.take e ++ (s ++ B.drop (e + s.length))

theorem putB_length {B : List UInt8} {e : Nat} {s : List UInt8} (h : e + s.length ≤ B.length) : (putB B e s).length = B.length := by
  unfold putB; rw [List.length_append, List.length_append, List.length_take, List.length_drop]; omega

theorem putB_ahead {B : List UInt8} {e : Nat} {s : List UInt8} (h : e ≤ B.length) : ∀ i, i < e → (putB B e s)[i]? = B[i]? := by
  intro i hi
  unfold putB
  rw [List.getElem?_append_left (by rw [List.length_take]; omega), List.getElem?_take, if_pos hi]

theorem putB_drop {B : List UInt8} {e k : Nat} {s : List UInt8} (h : e ≤ B.length) (hk : k ≤ e) : (putB B e s).drop k = (B.drop k).take (e - k) ++ (s ++ B.drop (e + s.length)) := by
  unfold putB
  rw [List.drop_append_of_le_length (by rw [List.length_take]; omega), List.drop_take]

/-- the segment i is begun, with the texts tl; zeros behind -/
structure LgW (B : List UInt8) (z N i : Nat) (s0 : LgS) (tl : List (List UInt8)) : Prop where
  len : B.length = z * N
  zz : 256 ≤ z ∧ z % 128 = 0 ∧ N ≤ 4294967295
  lt : i < N
  reach : Reach B z i s0
  fit : 128 + (sFrames s0.ch tl).length + 48 ≤ z
  texts : okTexts tl
  seg : ∃ k, B.drop (z * i) = sHead i s0.ts.length s0.ch ++ (sFrames s0.ch tl ++ List.replicate k 0)

/-- where it ends -/
def lwEnd (z i : Nat) (s0 : LgS) (tl : List (List UInt8)) : Nat := z * i + (128 + (sFrames s0.ch tl).length)

section
variable {B B' : List UInt8} {z N i : Nat} {s0 : LgS} {tl : List (List UInt8)}

theorem LgW.head (h : LgW B z N i s0 tl) : (sHead i s0.ts.length s0.ch).length = 128 := sHead_length _ _ _ h.reach.ch

theorem LgW.room (h : LgW B z N i s0 tl) : z * i + z ≤ z * N := by
  have := Nat.mul_le_mul_left z h.lt
  rwa [Nat.mul_succ] at this

theorem LgW.placed (h : LgW B z N i s0 tl) : sPlaced (i : Int) (s0.ts.length : Int) s0.ch := ⟨by omega, h.reach.ch, by omega, by have := h.lt; have := h.zz; omega⟩

theorem LgW.headOf (h : LgW B z N i s0 tl) : sHeadOf (i : Int) (s0.ts.length : Int) s0.ch = sHead i s0.ts.length s0.ch := by
  unfold sHeadOf; rw [if_pos h.placed, Int.toNat_natCast, Int.toNat_natCast]

/-- its segment alone -/
theorem LgW.segm (h : LgW B z N i s0 tl) : lgSeg B z i = sHead i s0.ts.length s0.ch ++ (sFrames s0.ch tl ++ List.replicate (z - (128 + (sFrames s0.ch tl).length)) 0) := by
  obtain ⟨k, hk⟩ := h.seg
  have hl := congrArg List.length hk
  rw [List.length_drop, h.len, List.length_append, List.length_append, h.head, List.length_replicate] at hl
  have hr := h.room
  have hf := h.fit
  unfold lgSeg
  rw [hk, List.take_append, h.head, List.take_of_length_le (by rw [h.head]; omega), List.take_append, List.take_of_length_le (by omega), List.take_replicate]
  congr 3
  omega

theorem LgW.parse (h : LgW B z N i s0 tl) : sParse (lgSeg B z i) (i : Int) (s0.ts.length : Int) s0.ch = ⟨true, tl, sChain s0.ch tl, false, 128 + (sFrames s0.ch tl).length⟩ := by
  have hl : (lgSeg B z i).length = z := lgSeg_length h.len h.lt
  have := sParse_laid (i : Int) (s0.ts.length : Int) s0.ch tl false (z - (128 + (sFrames s0.ch tl).length)) h.placed h.texts (lgSeg B z i) (by rw [h.segm, h.headOf]; rfl) (by rw [hl]; exact h.zz.1) (by rw [hl]; exact h.zz.2.1)
  rw [this]
  rfl

/-- WHAT WAS LAID IS TOLD -/
theorem LgW.told (h : LgW B z N i s0 tl) : lgTold B z N 0 lgStart = ⟨s0.ts ++ tl, sChain s0.ch tl, i, 128 + (sFrames s0.ch tl).length, false⟩ := by
  rw [h.reach.told N (Nat.le_of_lt h.lt), show N - i = (N - (i + 1)) + 1 by have := h.lt; omega]
  unfold lgTold
  rw [h.parse]
  rfl

/-- WHAT WAS DURABLE IS THERE, whatever follows its end -/
theorem LgW.more (h : LgW B z N i s0 tl) (hl : B'.length = z * N) (hs : ∀ j, j < lwEnd z i s0 tl → B'[j]? = B[j]?) : s0.ts.length + tl.length ≤ (lgTold B' z N 0 lgStart).ts.length := by
  have hr := h.room
  have hf := h.fit
  have hreach : Reach B' z i s0 := h.reach.same (fun j hj => lgSeg_ahead (e := z * i) (fun k hk => hs k (by unfold lwEnd; omega)) (Nat.mul_le_mul_left z hj))
  have hseg : lgSeg B' z i = sHead i s0.ts.length s0.ch ++ (sFrames s0.ch tl ++ (lgSeg B' z i).drop (128 + (sFrames s0.ch tl).length)) := by
    have h1 : (lgSeg B' z i).take (128 + (sFrames s0.ch tl).length) = (lgSeg B z i).take (128 + (sFrames s0.ch tl).length) := by
      apply List.ext_getElem?
      intro k
      rw [List.getElem?_take, List.getElem?_take, lgSeg_get, lgSeg_get]
      split
      · rename_i hk
        rw [if_pos (by omega), if_pos (by omega)]
        exact hs _ (by unfold lwEnd; omega)
      · rfl
    have h2 : (lgSeg B z i).take (128 + (sFrames s0.ch tl).length) = sHead i s0.ts.length s0.ch ++ sFrames s0.ch tl := by
      rw [h.segm, ← List.append_assoc]
      exact List.take_left' (by rw [List.length_append, h.head])
    rw [← List.append_assoc, ← h2, ← h1, List.take_append_drop]
  have hlen : (lgSeg B' z i).length = z := lgSeg_length hl h.lt
  obtain ⟨r, e1, -, -⟩ := sAll_form (lgSeg B' z i) (lgSeg B' z i).length ⟨[] ++ tl, sChain s0.ch tl, 128 + (sFrames s0.ch tl).length⟩ (Nat.sub_le _ _)
  have hA : sAll (lgSeg B' z i) ⟨[], s0.ch, 128⟩ = sAll (lgSeg B' z i) ⟨[] ++ tl, sChain s0.ch tl, 128 + (sFrames s0.ch tl).length⟩ := by
    refine sAll_frames (lgSeg B' z i) ((lgSeg B' z i).drop (128 + (sFrames s0.ch tl).length)) tl ⟨[], s0.ch, 128⟩ ?_ h.texts
    show (lgSeg B' z i).drop 128 = _
    conv => lhs; rw [hseg]
    exact List.drop_left' h.head
  have hP : sParse (lgSeg B' z i) (i : Int) (s0.ts.length : Int) s0.ch = sEnd (lgSeg B' z i) s0.ts.length (sAll (lgSeg B' z i) ⟨[], s0.ch, 128⟩) := by
    unfold sParse
    rw [if_pos ⟨by rw [hlen]; exact h.zz.1, by rw [hlen]; exact h.zz.2.1, by
      rw [h.headOf]
      conv => lhs; rw [hseg]
      exact List.take_left' h.head⟩]
    rfl
  have hts : (sParse (lgSeg B' z i) (i : Int) (s0.ts.length : Int) s0.ch).ts = [] ++ tl ++ r := by rw [hP, hA, e1]; rfl
  have hok : (sParse (lgSeg B' z i) (i : Int) (s0.ts.length : Int) s0.ch).ok = true := by rw [hP]; rfl
  have hge : s0.ts.length + tl.length ≤ (lgNext (sParse (lgSeg B' z i) (i : Int) (s0.ts.length : Int) s0.ch) i s0).ts.length := by
    show _ ≤ (s0.ts ++ (sParse (lgSeg B' z i) (i : Int) (s0.ts.length : Int) s0.ch).ts).length
    rw [hts]
    simp only [List.nil_append, List.length_append]
    omega
  rw [hreach.told N (Nat.le_of_lt h.lt), show N - i = (N - (i + 1)) + 1 by have := h.lt; omega]
  unfold lgTold
  rw [if_pos hok]
  split
  · exact Nat.le_trans hge (lgTold_mono _ _ _)
  · exact hge

theorem LgW.endle (h : LgW B z N i s0 tl) : lwEnd z i s0 tl + 48 ≤ z * i + z ∧ z * i + z ≤ B.length := by
  have hr := h.room
  have hf := h.fit
  have hl := h.len
  unfold lwEnd
  omega

/-- the bytes from the segment on -/
theorem LgW.body (h : LgW B z N i s0 tl) : (B.drop (z * i)).take (lwEnd z i s0 tl - z * i) = sHead i s0.ts.length s0.ch ++ sFrames s0.ch tl ∧ ∃ k, B.drop (lwEnd z i s0 tl) = List.replicate k 0 := by
  obtain ⟨k, hk⟩ := h.seg
  have hl : (sHead i s0.ts.length s0.ch ++ sFrames s0.ch tl).length = 128 + (sFrames s0.ch tl).length := by rw [List.length_append, h.head]
  constructor
  · rw [hk, ← List.append_assoc, show lwEnd z i s0 tl - z * i = 128 + (sFrames s0.ch tl).length by unfold lwEnd; omega]
    exact List.take_left' hl
  · refine ⟨k, ?_⟩
    unfold lwEnd
    rw [← List.drop_drop, hk, ← List.append_assoc]
    exact List.drop_left' hl

/-- one text more -/
theorem LgW.app (h : LgW B z N i s0 tl) {t : List UInt8} (ht : 1 ≤ t.length ∧ t.length ≤ 65535) (hfit : 128 + (sFrames s0.ch tl).length + (t.length + 40) + 48 ≤ z) :
    LgW (putB B (lwEnd z i s0 tl) (sFrame (sChain s0.ch tl) t)) z N i s0 (tl ++ [t]) := by
  have he := h.endle
  have hr := h.room
  obtain ⟨hb1, k, hb2⟩ := h.body
  have hfl : (sFrame (sChain s0.ch tl) t).length = t.length + 40 := sFrame_length _ _
  have hend : lwEnd z i s0 tl = z * i + (128 + (sFrames s0.ch tl).length) := rfl
  refine ⟨?_, h.zz, h.lt, h.reach.same (fun j hj => lgSeg_ahead (e := z * i) (fun q hq => putB_ahead (by omega) q (by omega)) (Nat.mul_le_mul_left z hj)), ?_, ?_, ?_⟩
  · rw [putB_length (by rw [hfl]; omega)]; exact h.len
  · rw [sFrames_snoc, List.length_append, hfl]; omega
  · intro x hx
    rcases List.mem_append.1 hx with hx | hx
    · exact h.texts x hx
    · rw [List.mem_singleton.1 hx]; exact ht
  · refine ⟨k - (sFrame (sChain s0.ch tl) t).length, ?_⟩
    rw [putB_drop (by omega) (by omega), hb1, sFrames_snoc, ← List.drop_drop, hb2, List.drop_replicate]
    simp only [List.append_assoc]

/-- the segment sealed, the next one begun -/
theorem LgW.next (h : LgW B z N i s0 tl) (hi : i + 1 < N) :
    LgW (putB (putB B (lwEnd z i s0 tl) (sFoot (s0.ts.length + tl.length) (sChain s0.ch tl))) (z * (i + 1)) (sHead (i + 1) (s0.ts.length + tl.length) (sChain s0.ch tl))) z N (i + 1) ⟨s0.ts ++ tl, sChain s0.ch tl, i, 128 + (sFrames s0.ch tl).length + 48, true⟩ [] := by
  have he := h.endle
  have hr := h.room
  have hf := h.fit
  have hz2 : z * (i + 2) ≤ z * N := Nat.mul_le_mul_left z hi
  rw [Nat.mul_succ, Nat.mul_succ] at hz2
  have hend : lwEnd z i s0 tl = z * i + (128 + (sFrames s0.ch tl).length) := rfl
  obtain ⟨hb1, k, hb2⟩ := h.body
  have hch := sChain_length s0.ch tl h.reach.ch
  have hfl : (sFoot (s0.ts.length + tl.length) (sChain s0.ch tl)).length = 48 := sFoot_length _ _ hch
  have hhl : (sHead (i + 1) (s0.ts.length + tl.length) (sChain s0.ch tl)).length = 128 := sHead_length _ _ _ hch
  have hl := h.len
  obtain ⟨B1, hB1⟩ : ∃ B1, putB B (lwEnd z i s0 tl) (sFoot (s0.ts.length + tl.length) (sChain s0.ch tl)) = B1 := ⟨_, rfl⟩
  have hl1 : B1.length = z * N := by rw [← hB1, putB_length (by rw [hfl]; omega)]; exact hl
  rw [hB1]
  have hd1 : B1.drop (z * i) = sHead i s0.ts.length s0.ch ++ (sFrames s0.ch tl ++ (sFoot (s0.ts.length + tl.length) (sChain s0.ch tl) ++ List.replicate (k - 48) 0)) := by
    rw [← hB1, putB_drop (by omega) (by omega), hb1, ← List.drop_drop, hb2, List.drop_replicate, hfl]
    simp only [List.append_assoc]
  have hreach1 : Reach B1 z i s0 := h.reach.same (fun j hj => lgSeg_ahead (e := z * i) (fun q hq => by rw [← hB1]; exact putB_ahead (by omega) q (by omega)) (Nat.mul_le_mul_left z hj))
  have hkl := congrArg List.length hd1
  rw [List.length_drop, hl1, List.length_append, List.length_append, List.length_append, h.head, hfl, List.length_replicate] at hkl
  have hseg1 : lgSeg B1 z i = sHead i s0.ts.length s0.ch ++ (sFrames s0.ch tl ++ (sFoot (s0.ts.length + tl.length) (sChain s0.ch tl) ++ List.replicate (z - (128 + (sFrames s0.ch tl).length + 48)) 0)) := by
    unfold lgSeg
    rw [hd1, List.take_append, h.head, List.take_of_length_le (by rw [h.head]; omega), List.take_append, List.take_of_length_le (by omega), List.take_append, List.take_of_length_le (by rw [hfl]; omega), hfl, List.take_replicate]
    congr 4
    omega
  have hsl : (lgSeg B1 z i).length = z := lgSeg_length hl1 h.lt
  have hparse : sParse (lgSeg B1 z i) (i : Int) (s0.ts.length : Int) s0.ch = ⟨true, tl, sChain s0.ch tl, true, 128 + (sFrames s0.ch tl).length + 48⟩ := by
    have := sParse_laid (i : Int) (s0.ts.length : Int) s0.ch tl true (z - (128 + (sFrames s0.ch tl).length + 48)) h.placed h.texts (lgSeg B1 z i) (by rw [hseg1, h.headOf, Int.toNat_natCast]; rfl) (by rw [hsl]; exact h.zz.1) (by rw [hsl]; exact h.zz.2.1)
    rw [this]
    rfl
  have hreach2 : Reach B1 z (i + 1) ⟨s0.ts ++ tl, sChain s0.ch tl, i, 128 + (sFrames s0.ch tl).length + 48, true⟩ := by
    have := Reach.next hreach1 (by rw [hparse]) (by rw [hparse])
    rw [hparse] at this
    exact this
  have hz1 : z * (i + 1) = z * i + z := Nat.mul_succ z i
  refine ⟨by rw [putB_length (by rw [hhl]; omega)]; exact hl1, h.zz, hi, hreach2.same (fun j hj => lgSeg_ahead (e := z * (i + 1)) (fun q hq => putB_ahead (by omega) q hq) (Nat.mul_le_mul_left z hj)), by simp [sFrames]; have := h.zz.1; omega, fun t ht => (by cases ht), ?_⟩
  refine ⟨k - 48 - (z - (128 + (sFrames s0.ch tl).length + 48)) - 128, ?_⟩
  have hz0 : B1.drop (z * i + (128 + (sFrames s0.ch tl).length + 48)) = List.replicate (k - 48) 0 := by
    rw [← List.drop_drop, hd1, ← List.append_assoc (sFrames s0.ch tl), ← List.append_assoc]
    exact List.drop_left' (by rw [List.length_append, List.length_append, h.head, hfl]; omega)
  have hz : B1.drop (z * (i + 1)) = List.replicate (k - 48 - (z - (128 + (sFrames s0.ch tl).length + 48))) 0 := by
    rw [hz1, show z * i + z = z * i + (128 + (sFrames s0.ch tl).length + 48) + (z - (128 + (sFrames s0.ch tl).length + 48)) by omega, ← List.drop_drop, hz0, List.drop_replicate]
  rw [putB_drop (by omega) (Nat.le_refl _), Nat.sub_self, List.take_zero, List.nil_append, ← List.drop_drop, hz, hhl, List.drop_replicate]
  simp only [sFrames, List.nil_append, List.length_append]

/-- the first segment begun -/
theorem LgW.first (hz : 256 ≤ z ∧ z % 128 = 0 ∧ N ≤ 4294967295) (hN : 1 ≤ N) : LgW (putB (List.replicate (z * N) 0) 0 (sHead 0 0 lgStart.ch)) z N 0 lgStart [] := by
  have hzn : z ≤ z * N := Nat.le_mul_of_pos_right z hN
  have hhl : (sHead 0 0 lgStart.ch).length = 128 := sHead_length _ _ _ (by simp [lgStart])
  refine ⟨by rw [putB_length (by rw [hhl, List.length_replicate]; omega), List.length_replicate], hz, hN, .zero, by simp [sFrames]; omega, fun t ht => (by cases ht), ⟨z * N - 128, ?_⟩⟩
  rw [Nat.mul_zero, putB_drop (Nat.zero_le _) (Nat.le_refl _), Nat.sub_self, List.take_zero, List.nil_append, Nat.zero_add, hhl, List.drop_replicate]
  show _ = sHead 0 0 lgStart.ch ++ ([] ++ _)
  rw [List.nil_append]
end

end Go.Proofs.YtijkmpcgkhijgaaGreatDoor

namespace Go.Proofs.YtijkmpcgkhijgaaGreatDoor
set_option linter.unusedVariables false
set_option linter.unusedSimpArgs false
open Go.RowKit

theorem get_sec (l : List UInt8) (s j : Nat) (h : j < 128) : l[128 * s + j]? = (sec l s)[j]? := by rw [sec_get, if_pos h]

/-- bytes that the durable contents and the written ones agree in are there behind a crash -/
theorem crash_region {n : Nat} {P : List Wr} {D : List UInt8} (hok : OkW n P) (hD : D.length = 128 * n) (keep : List Int) (frm : Nat) {Bm : List UInt8} (hP : ∀ p ∈ P, ∃ t, p.1 = frm + t ∧ p.2 = sec Bm t) (e : Nat) (hag : ∀ j, j < e → D[128 * frm + j]? = Bm[j]?) :
    ∀ j, j < e → (loseAll (crAll P D keep).2.2 P (layAll D P))[128 * frm + j]? = D[128 * frm + j]? := by
  intro j hj
  obtain ⟨t, r, hr, ht⟩ : ∃ t r, r < 128 ∧ j = 128 * t + r := ⟨j / 128, j % 128, Nat.mod_lt _ (by omega), by omega⟩
  subst ht
  rw [show 128 * frm + (128 * t + r) = 128 * (frm + t) + r by omega, get_sec _ _ _ hr, get_sec D _ _ hr]
  rcases crash_sec hok hD keep (frm + t) with h | ⟨p, hp, h1, h2⟩
  · rw [h]
  · obtain ⟨t', e1, e2⟩ := hP p hp
    obtain rfl : t' = t := by omega
    rw [h2, e2, ← get_sec _ _ _ hr, ← get_sec _ _ _ hr, ← hag _ hj, show 128 * frm + (128 * t' + r) = 128 * (frm + t') + r by omega]

/-- without a write that waits a crash changes nothing -/
theorem crash_none (D : List UInt8) (keep : List Int) : loseAll (crAll [] D keep).2.2 [] D = D := rfl

/-- the writes of consecutive sectors of some bytes -/
theorem chunks_secs {Bm : List UInt8} {frm first m : Nat} {b : List UInt8} (hb : b = (Bm.drop (128 * first)).take (128 * m)) : ∀ p ∈ chunks (frm + first) b m, ∃ t, p.1 = frm + t ∧ p.2 = sec Bm t := by
  intro p hp
  unfold chunks at hp
  obtain ⟨i, hi, rfl⟩ := List.mem_map.1 hp
  have hi' : i < m := by simpa using hi
  refine ⟨first + i, by show frm + first + i = _; omega, ?_⟩
  show sec b i = sec Bm (first + i)
  unfold sec
  rw [hb, List.drop_take, List.drop_drop, List.take_take, Nat.min_eq_left (by omega), Nat.mul_add]

end Go.Proofs.YtijkmpcgkhijgaaGreatDoor
