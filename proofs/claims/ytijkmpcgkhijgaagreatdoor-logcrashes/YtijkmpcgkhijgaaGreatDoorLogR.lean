/-
  Layer 15, pure: a log that begins with an empty region: what it holds, and what is durable.
  Layer 15, pure: what a flush writes, what a crash leaves of it.
-/
import Derived.Test.YtijkmpcgkhijgaaGreatDoorLogP
import Derived.Test.YtijkmpcgkhijgaaGreatDoorLogB
import Derived.Test.YtijkmpcgkhijgaaGreatDoorLogA
namespace Go.Proofs.YtijkmpcgkhijgaaGreatDoor
set_option linter.unusedVariables false
set_option linter.unusedSimpArgs false
open Go.RowKit

theorem putB_get {B : List UInt8} {e : Nat} {s : List UInt8} (h : e + s.length ≤ B.length) (j : Nat) : (putB B e s)[j]? = if j < e then B[j]? else if j < e + s.length then s[j - e]? else B[j]? := by
  unfold putB
  have h1 : (B.take e).length = e := by rw [List.length_take]; omega
  by_cases hj : j < e
  · rw [List.getElem?_append_left (by omega), if_pos hj, List.getElem?_take, if_pos hj]
  · rw [List.getElem?_append_right (by omega), if_neg hj, h1]
    by_cases hk : j < e + s.length
    · rw [List.getElem?_append_left (by omega), if_pos hk]
    · rw [List.getElem?_append_right (by omega), if_neg hk, List.getElem?_drop]
      congr 1
      omega

/-- l: the bytes of B from c on -/
def TailB (B : List UInt8) (c : Nat) (l : List UInt8) : Prop := ∀ j, j < l.length → l[j]? = B[c + j]?

theorem TailB.put {B : List UInt8} {c e : Nat} {l f : List UInt8} (h : TailB B c l) (hc : c + l.length = e) (hf : e + f.length ≤ B.length) : TailB (putB B e f) c (l ++ f) := by
  intro j hj
  rw [List.length_append] at hj
  rw [putB_get hf]
  by_cases h1 : j < l.length
  · rw [List.getElem?_append_left h1, if_pos (by omega)]; exact h j h1
  · rw [List.getElem?_append_right (by omega), if_neg (by omega), if_pos (by omega)]
    congr 1
    omega

theorem TailB.zeros {B : List UInt8} {c e m : Nat} {l : List UInt8} (h : TailB B c l) (hc : c + l.length = e) (hz : ∀ j, j < m → B[e + j]? = some 0) : TailB B c (l ++ List.replicate m 0) := by
  intro j hj
  rw [List.length_append, List.length_replicate] at hj
  by_cases h1 : j < l.length
  · rw [List.getElem?_append_left h1]; exact h j h1
  · rw [List.getElem?_append_right (by omega), List.getElem?_replicate, if_pos (by omega), show c + j = e + (j - l.length) by omega, hz _ (by omega)]

theorem TailB.drop {B : List UInt8} {c k : Nat} {l : List UInt8} (h : TailB B c l) (hk : k ≤ l.length) : TailB B (c + k) (l.drop k) := by
  intro j hj
  rw [List.length_drop] at hj
  rw [List.getElem?_drop, h _ (by omega)]
  congr 1
  omega

/-- nothing was laid yet -/
def LgNone (sz N : Nat) (s : PLg) (B Bd : List UInt8) : Prop := s = ⟨-1, 128 * sz, true, List.replicate 32 0, [], 0, [], false⟩ ∧ B = List.replicate (128 * sz * N) 0 ∧ Bd = B

/-- segment i is begun; B: all that was laid; Bd: what is durable; c: where the tail begins -/
structure LgSome (sz N : Nat) (s : PLg) (B Bd : List UInt8) (i : Nat) (s0 : LgS) (tl : List (List UInt8)) (c : Nat) : Prop where
  w : LgW B (128 * sz) N i s0 tl
  num : s.num = (i : Int)
  used : s.used = 128 + (sFrames s0.ch tl).length
  sealed : s.sealed = false
  ch : s.ch = sChain s0.ch tl
  ts : s.ts = s0.ts ++ tl
  dead : s.dead = false
  cut : c % 128 = 0
  tail : c + s.tl.length = lwEnd (128 * sz) i s0 tl
  tlb : TailB B c s.tl
  mod : s.used % 128 ≤ s.tl.length
  pos : s.sure ≠ s.ts.length → 0 < s.tl.length
  old : ∀ j, j < c → B[j]? = Bd[j]?
  lenD : Bd.length = 128 * sz * N
  zero : ∀ j, lwEnd (128 * sz) i s0 tl ≤ j → j < 128 * sz * N → Bd[j]? = some 0
  le : s.sure ≤ s.ts.length
  sure : s.sure = 0 ∨ ∃ i' s0' tl', LgW Bd (128 * sz) N i' s0' tl' ∧ s.sure = s0'.ts.length + tl'.length ∧ lwEnd (128 * sz) i' s0' tl' ≤ lwEnd (128 * sz) i s0 tl ∧ (∀ j, j < lwEnd (128 * sz) i' s0' tl' → Bd[j]? = B[j]?)
  same : s.sure = s.ts.length → Bd = B

def LgOk (sz N : Nat) (s : PLg) (B Bd : List UInt8) : Prop := LgNone sz N s B Bd ∨ ∃ i s0 tl c, LgSome sz N s B Bd i s0 tl c

section
variable {sz N : Nat} {s : PLg} {B Bd : List UInt8} {i c : Nat} {s0 : LgS} {tl : List (List UInt8)}

theorem LgSome.zeroB (h : LgSome sz N s B Bd i s0 tl c) (j : Nat) (h1 : lwEnd (128 * sz) i s0 tl ≤ j) (h2 : j < 128 * sz * N) : B[j]? = some 0 := by
  obtain ⟨-, k, hk⟩ := h.w.body
  have hl := congrArg List.length hk
  rw [List.length_drop, h.w.len, List.length_replicate] at hl
  have h3 : (B.drop (lwEnd (128 * sz) i s0 tl))[j - lwEnd (128 * sz) i s0 tl]? = some 0 := by
    rw [hk, List.getElem?_replicate, if_pos (by omega)]
  rw [List.getElem?_drop, show lwEnd (128 * sz) i s0 tl + (j - lwEnd (128 * sz) i s0 tl) = j by omega] at h3
  exact h3

/-- a text laid behind the others: B grows at its end -/
theorem LgSome.more (h : LgSome sz N s B Bd i s0 tl c) {s' : PLg} {B' : List UInt8} {i' : Nat} {s0' : LgS} {tl' : List (List UInt8)} (hw : LgW B' (128 * sz) N i' s0' tl') (hnum : s'.num = (i' : Int)) (hused : s'.used = 128 + (sFrames s0'.ch tl').length) (hse : s'.sealed = false) (hch : s'.ch = sChain s0'.ch tl') (hts : s'.ts = s0'.ts ++ tl')
    (hd : s'.dead = false) (htail : c + s'.tl.length = lwEnd (128 * sz) i' s0' tl') (htl : TailB B' c s'.tl) (hmod : s'.used % 128 ≤ s'.tl.length) (hpos : 0 < s'.tl.length) (hold : ∀ j, j < lwEnd (128 * sz) i s0 tl → B'[j]? = B[j]?) (hle : lwEnd (128 * sz) i s0 tl ≤ lwEnd (128 * sz) i' s0' tl') (hsure : s'.sure = s.sure) (hmore : s.ts.length < s'.ts.length) :
    LgSome sz N s' B' Bd i' s0' tl' c :=
  ⟨hw, hnum, hused, hse, hch, hts, hd, h.cut, htail, htl, hmod, fun _ => hpos, fun j hj => by rw [hold j (by have := h.tail; omega)]; exact h.old j hj, h.lenD, fun j h1 h2 => h.zero j (by omega) h2, by rw [hsure]; have := h.le; omega, by
    rw [hsure]
    rcases h.sure with h1 | ⟨i1, s1, t1, h1, h2, h3, h4⟩
    · exact .inl h1
    · exact .inr ⟨i1, s1, t1, h1, h2, by omega, fun j hj => by rw [h4 j hj, hold j (by omega)]⟩, fun e => by have := h.le; omega⟩

theorem fits_iff {s : PLg} {z n : Nat} (h : s.fits z (n : Int) = true) : s.sealed = false ∧ 1 ≤ n ∧ n ≤ 65535 ∧ s.used ≤ z ∧ n + 88 ≤ z - s.used := by
  unfold PLg.fits sFits at h
  simp only [Bool.and_eq_true, Bool.not_eq_true', decide_eq_true_eq] at h
  exact ⟨h.1, by omega, by omega, by omega, by omega⟩

theorem LgSome.app1 (h : LgSome sz N s B Bd i s0 tl c) {t : List UInt8} (hf : s.fits (128 * sz) (t.length : Int) = true) : ∃ B', LgSome sz N (s.add t) B' Bd i s0 (tl ++ [t]) c := by
  obtain ⟨-, h1, h2, h3, h4⟩ := fits_iff hf
  have he := h.w.endle
  have hu := h.used
  have hfit : 128 + (sFrames s0.ch tl).length + (t.length + 40) + 48 ≤ 128 * sz := by omega
  have hfl : (sFrame s.ch t).length = t.length + 40 := sFrame_length _ _
  have hfl2 : (sFrame (sChain s0.ch tl) t).length = t.length + 40 := sFrame_length _ _
  have hlen := h.w.len
  have hE : lwEnd (128 * sz) i s0 (tl ++ [t]) = lwEnd (128 * sz) i s0 tl + (t.length + 40) := by
    unfold lwEnd; rw [sFrames_snoc, List.length_append, hfl2]; omega
  have ht := h.tail
  have hend : lwEnd (128 * sz) i s0 tl = 128 * sz * i + (128 + (sFrames s0.ch tl).length) := rfl
  refine ⟨putB B (lwEnd (128 * sz) i s0 tl) (sFrame (sChain s0.ch tl) t), h.more (h.w.app ⟨h1, h2⟩ hfit) h.num ?_ h.sealed ?_ ?_ h.dead ?_ ?_ ?_ ?_ (fun j hj => putB_ahead (by omega) j hj) (by omega) rfl ?_⟩
  · show s.used + (t.length + 40) = _
    rw [sFrames_snoc, List.length_append, hfl2]; omega
  · show sNext s.ch t = _
    rw [sChain_snoc, h.ch]
  · show s.ts ++ [t] = _
    rw [h.ts, List.append_assoc]
  · show c + (s.tl ++ sFrame s.ch t).length = _
    rw [List.length_append, hfl]; omega
  · show TailB _ c (s.tl ++ sFrame s.ch t)
    rw [h.ch]
    exact h.tlb.put ht (by rw [hfl2]; omega)
  · show (s.used + (t.length + 40)) % 128 ≤ (s.tl ++ sFrame s.ch t).length
    rw [List.length_append, hfl]
    have := h.mod
    omega
  · show 0 < (s.tl ++ sFrame s.ch t).length
    rw [List.length_append, hfl]; omega
  · show s.ts.length < (s.ts ++ [t]).length
    rw [List.length_append]; simp

theorem LgSome.app2 (h : LgSome sz N s B Bd i s0 tl c) {t : List UInt8} (hf : sFits ((128 * sz : Nat) : Int) 128 (t.length : Int) = true) (hi : i + 1 < N) : ∃ B' i' s0' tl', LgSome sz N ((s.seal (128 * sz)).next.add t) B' Bd i' s0' tl' c := by
  unfold sFits at hf
  have hf' := of_decide_eq_true hf
  have he := h.w.endle
  have hw1 := h.w.next hi
  have hch : s.ch.length = 32 := by rw [h.ch]; exact sChain_length _ _ h.w.reach.ch
  have htl : s.ts.length = s0.ts.length + tl.length := by rw [h.ts, List.length_append]
  obtain ⟨e, hee⟩ : ∃ e, lwEnd (128 * sz) i s0 tl = e := ⟨_, rfl⟩
  have hend : e = 128 * sz * i + s.used := by rw [← hee, h.used]; rfl
  have hlen := h.w.len
  have hr := h.w.room
  have hr2 : 128 * sz * (i + 1) + 128 * sz ≤ 128 * sz * N := by
    have := Nat.mul_le_mul_left (128 * sz) (show i + 1 + 1 ≤ N by omega)
    rwa [Nat.mul_succ] at this
  have hz1 : 128 * sz * (i + 1) = 128 * sz * i + 128 * sz := Nat.mul_succ _ _
  have hzz := h.w.zz
  rw [← h.ch, ← htl, ← h.used, ← h.ts] at hw1
  rw [hee] at hw1 he
  have hfl : (sFoot s.ts.length s.ch).length = 48 := sFoot_length _ _ hch
  have hhl : (sHead (i + 1) s.ts.length s.ch).length = 128 := sHead_length _ _ _ hch
  obtain ⟨B1, hB1⟩ : ∃ B1, putB B e (sFoot s.ts.length s.ch) = B1 := ⟨_, rfl⟩
  have hl1 : B1.length = 128 * sz * N := by rw [← hB1, putB_length (by rw [hfl]; omega)]; exact hlen
  obtain ⟨B2, hB2⟩ : ∃ B2, putB B1 (128 * sz * (i + 1)) (sHead (i + 1) s.ts.length s.ch) = B2 := ⟨_, rfl⟩
  have hl2 : B2.length = 128 * sz * N := by rw [← hB2, putB_length (by rw [hhl]; omega)]; exact hl1
  rw [hB1, hB2] at hw1
  have hwa := hw1.app (t := t) ⟨by omega, by omega⟩ (by simp [sFrames]; omega)
  have hfr : (sFrame s.ch t).length = t.length + 40 := sFrame_length _ _
  have hE1 : lwEnd (128 * sz) (i + 1) ⟨s.ts, s.ch, i, s.used + 48, true⟩ [] = 128 * sz * (i + 1) + 128 := by unfold lwEnd; simp [sFrames]
  have hE2 : lwEnd (128 * sz) (i + 1) ⟨s.ts, s.ch, i, s.used + 48, true⟩ ([] ++ [t]) = 128 * sz * (i + 1) + 128 + (t.length + 40) := by unfold lwEnd; simp [sFrames, sFrame_length]; omega
  have hs1 : s.seal (128 * sz) = ⟨s.num, s.used + 48 + (128 * sz - (s.used + 48)), s.sealed, s.ch, s.ts, s.sure, s.tl ++ sFoot s.ts.length s.ch ++ List.replicate (128 * sz - (s.used + 48)) 0, s.dead⟩ := by
    unfold PLg.seal
    rw [if_neg (by rw [h.sealed]; decide)]
    unfold PLg.put
    dsimp only
    rw [hfl, List.length_replicate]
  have hs2 : (s.seal (128 * sz)).next = ⟨s.num + 1, 0 + (sHead (s.num + 1).toNat s.ts.length s.ch).length, false, s.ch, s.ts, s.sure, s.tl ++ sFoot s.ts.length s.ch ++ List.replicate (128 * sz - (s.used + 48)) 0 ++ sHead (s.num + 1).toNat s.ts.length s.ch, s.dead⟩ := by
    rw [hs1]; rfl
  have hnum : (s.num + 1).toNat = i + 1 := by rw [h.num]; omega
  rw [hnum, hhl] at hs2
  have ht := h.tail
  rw [hee] at ht
  have T1 : TailB B1 c (s.tl ++ sFoot s.ts.length s.ch) := by rw [← hB1]; exact h.tlb.put ht (by rw [hfl]; omega)
  have T2 : TailB B1 c (s.tl ++ sFoot s.ts.length s.ch ++ List.replicate (128 * sz - (s.used + 48)) 0) := T1.zeros (e := e + 48) (by rw [List.length_append, hfl]; omega) (fun j hj => by
    rw [← hB1, putB_get (by rw [hfl]; omega), if_neg (by omega), if_neg (by rw [hfl]; omega)]
    exact h.zeroB _ (by rw [hee]; omega) (by omega))
  have T3 : TailB B2 c (s.tl ++ sFoot s.ts.length s.ch ++ List.replicate (128 * sz - (s.used + 48)) 0 ++ sHead (i + 1) s.ts.length s.ch) := by
    rw [← hB2]
    exact T2.put (by rw [List.length_append, List.length_append, hfl, List.length_replicate]; omega) (by rw [hhl]; omega)
  have hsl : (s.tl ++ sFoot s.ts.length s.ch ++ List.replicate (128 * sz - (s.used + 48)) 0 ++ sHead (i + 1) s.ts.length s.ch).length + c = 128 * sz * (i + 1) + 128 := by
    rw [List.length_append, List.length_append, List.length_append, hfl, List.length_replicate, hhl]; omega
  obtain ⟨X, hX⟩ : ∃ X, s.tl ++ sFoot s.ts.length s.ch ++ List.replicate (128 * sz - (s.used + 48)) 0 ++ sHead (i + 1) s.ts.length s.ch = X := ⟨_, rfl⟩
  rw [hX] at hs2 T3 hsl
  rw [hs2]
  refine ⟨_, i + 1, ⟨s.ts, s.ch, i, s.used + 48, true⟩, [] ++ [t], h.more hwa ?_ ?_ rfl ?_ rfl h.dead ?_ ?_ ?_ ?_ (fun j hj => ?_) (by rw [hee, hE2]; omega) rfl ?_⟩
  · show s.num + 1 = _
    rw [h.num]; omega
  · show 0 + 128 + (t.length + 40) = _
    simp [sFrames, sFrame_length]
  · show sNext s.ch t = _
    simp [sChain]
  · show c + (X ++ sFrame s.ch t).length = _
    rw [List.length_append, hfr, hE2]; omega
  · show TailB _ c (X ++ sFrame s.ch t)
    have := T3.put (e := 128 * sz * (i + 1) + 128) (f := sFrame s.ch t) (by omega) (by rw [hfr]; omega)
    rw [hE1]
    exact this
  · show (0 + 128 + (t.length + 40)) % 128 ≤ (X ++ sFrame s.ch t).length
    rw [List.length_append, hfr]; omega
  · show 0 < (X ++ sFrame s.ch t).length
    rw [List.length_append, hfr]; omega
  · rw [hee] at hj
    rw [putB_get (by rw [hE1]; show 128 * sz * (i + 1) + 128 + (sFrame s.ch t).length ≤ _; rw [hfr]; omega), if_pos (by rw [hE1]; omega), ← hB2, putB_get (by rw [hhl]; omega), if_pos (by omega), ← hB1, putB_get (by rw [hfl]; omega), if_pos hj]
  · show s.ts.length < (s.ts ++ [t]).length
    rw [List.length_append]; simp

theorem LgNone.app (h : LgNone sz N s B Bd) (hb : 2 ≤ sz) (hN : 1 ≤ N ∧ N ≤ 1000) {t : List UInt8} (hf : sFits ((128 * sz : Nat) : Int) 128 (t.length : Int) = true) : ∃ B' i' s0' tl', LgSome sz N ((s.seal (128 * sz)).next.add t) B' Bd i' s0' tl' 0 := by
  obtain ⟨rfl, rfl, rfl⟩ := h
  unfold sFits at hf
  have hf' := of_decide_eq_true hf
  have hzz : 256 ≤ 128 * sz ∧ 128 * sz % 128 = 0 ∧ N ≤ 4294967295 := ⟨by omega, by omega, by omega⟩
  have hw1 := LgW.first hzz hN.1
  have hzn : 128 * sz ≤ 128 * sz * N := Nat.le_mul_of_pos_right _ hN.1
  have hch : (List.replicate 32 (0 : UInt8)).length = 32 := List.length_replicate
  have hhl : (sHead 0 0 (List.replicate 32 0)).length = 128 := sHead_length _ _ _ hch
  have hwa := hw1.app (t := t) ⟨by omega, by omega⟩ (by simp [sFrames]; omega)
  have hfr : (sFrame (List.replicate 32 0) t).length = t.length + 40 := sFrame_length _ _
  have hE1 : lwEnd (128 * sz) 0 lgStart [] = 128 := by unfold lwEnd; simp [sFrames]
  have hE2 : lwEnd (128 * sz) 0 lgStart ([] ++ [t]) = 128 + (t.length + 40) := by unfold lwEnd; simp [sFrames, sFrame_length]
  have hs2 : ((⟨-1, 128 * sz, true, List.replicate 32 0, [], 0, [], false⟩ : PLg).seal (128 * sz)).next = ⟨0, 0 + (sHead 0 0 (List.replicate 32 0)).length, false, List.replicate 32 0, [], 0, sHead 0 0 (List.replicate 32 0), false⟩ := by
    unfold PLg.seal
    rw [if_pos rfl]
    rfl
  rw [hhl] at hs2
  have hl1 : (putB (List.replicate (128 * sz * N) 0) 0 (sHead 0 0 lgStart.ch)).length = 128 * sz * N := hw1.len
  have T0 : TailB (List.replicate (128 * sz * N) 0) 0 [] := fun j hj => by simp at hj
  have T1 := T0.put (e := 0) (f := sHead 0 0 (List.replicate 32 0)) rfl (by rw [hhl, List.length_replicate]; omega)
  rw [List.nil_append] at T1
  have T2 := T1.put (e := 128) (f := sFrame (List.replicate 32 0) t) (by rw [hhl]) (by rw [hfr, putB_length (by rw [hhl, List.length_replicate]; omega), List.length_replicate]; omega)
  rw [hs2]
  refine ⟨_, 0, lgStart, [] ++ [t], hwa, rfl, ?_, rfl, ?_, ?_, rfl, rfl, ?_, ?_, ?_, ?_, (fun j hj => by omega), by rw [List.length_replicate], (fun j h1 h2 => by rw [List.getElem?_replicate, if_pos h2]), Nat.zero_le _, .inl rfl, ?_⟩
  · show 0 + 128 + (t.length + 40) = _
    simp [sFrames, sFrame_length]
  · show sNext (List.replicate 32 0) t = _
    simp [sChain, lgStart]
  · show [] ++ [t] = _
    rfl
  · show 0 + (sHead 0 0 (List.replicate 32 0) ++ sFrame (List.replicate 32 0) t).length = _
    rw [List.length_append, hhl, hfr, hE2]; omega
  · rw [hE1]
    exact T2
  · show (0 + 128 + (t.length + 40)) % 128 ≤ (sHead 0 0 (List.replicate 32 0) ++ sFrame (List.replicate 32 0) t).length
    rw [List.length_append, hhl, hfr]; omega
  · intro _
    show 0 < (sHead 0 0 (List.replicate 32 0) ++ sFrame (List.replicate 32 0) t).length
    rw [List.length_append, hhl, hfr]; omega
  · intro e
    have : (0 : Nat) = ([] ++ [t] : List (List UInt8)).length := e
    simp at this

/-- an append that was not refused -/
theorem LgOk.app (h : LgOk sz N s B Bd) (hb : 2 ≤ sz) (hN : 1 ≤ N ∧ N ≤ 1000) {t : List UInt8} (hr : s.refuse (128 * sz) N (t.length : Int) = 0) : ∃ B', LgOk sz N (s.app (128 * sz) t) B' Bd := by
  obtain ⟨h1, h2⟩ := refuse_zero hr
  unfold PLg.app
  rcases h with h | ⟨i, s0, tl, c, h⟩
  · have hf : s.fits (128 * sz) (t.length : Int) = false := by
      obtain ⟨rfl, -, -⟩ := h
      rfl
    rw [if_neg (by rw [hf]; decide)]
    obtain ⟨B', i', s0', tl', h'⟩ := h.app hb hN h1
    exact ⟨B', .inr ⟨i', s0', tl', 0, h'⟩⟩
  · by_cases hf : s.fits (128 * sz) (t.length : Int) = true
    · rw [if_pos hf]
      obtain ⟨B', h'⟩ := h.app1 hf
      exact ⟨B', .inr ⟨i, s0, tl ++ [t], c, h'⟩⟩
    · rw [if_neg hf]
      have hg : s.goes (128 * sz) N = true := by rcases h2 with h2 | h2; exact absurd h2 hf; exact h2
      unfold PLg.goes at hg
      simp only [Bool.and_eq_true, decide_eq_true_eq] at hg
      have hnum := h.num
      obtain ⟨B', i', s0', tl', h'⟩ := h.app2 h1 (by omega)
      exact ⟨B', .inr ⟨i', s0', tl', c, h'⟩⟩

theorem app_ts (s : PLg) (z : Nat) (t : List UInt8) : (s.app z t).ts = s.ts ++ [t] ∧ (s.app z t).sure = s.sure ∧ (s.app z t).dead = s.dead := by
  unfold PLg.app PLg.add
  dsimp only
  split
  · exact ⟨rfl, rfl, rfl⟩
  · unfold PLg.next PLg.put PLg.seal PLg.put
    dsimp only
    split <;> exact ⟨rfl, rfl, rfl⟩
end

end Go.Proofs.YtijkmpcgkhijgaaGreatDoor

namespace Go.Proofs.YtijkmpcgkhijgaaGreatDoor
set_option linter.unusedVariables false
set_option linter.unusedSimpArgs false
open Go.RowKit

section
variable {sz N : Nat} {s : PLg} {B Bd : List UInt8}

theorem told_texts {B : List UInt8} {z : Nat} : ∀ (n i : Nat) (s : LgS), s.ch.length = 32 → okTexts s.ts → okTexts (lgTold B z n i s).ts := by
  intro n
  induction n with
  | zero => intro i s _ h; exact h
  | succ n ih =>
    intro i s hc h
    unfold lgTold
    by_cases hok : (sParse (lgSeg B z i) (i : Int) (s.ts.length : Int) s.ch).ok = true
    · obtain ⟨f1, -, -, -⟩ := sParse_fits hc hok
      obtain ⟨-, -, -, f2, -⟩ := sParse_form hc hok
      have h2 : okTexts (lgNext (sParse (lgSeg B z i) (i : Int) (s.ts.length : Int) s.ch) i s).ts := fun t ht => (List.mem_append.1 ht).elim (h t) (f2 t)
      rw [if_pos hok]
      split
      · exact ih (i + 1) _ f1 h2
      · exact h2
    · rw [if_neg hok]; exact h

theorem told_none (M z N : Nat) : lgTold (List.replicate M 0) z N 0 lgStart = lgStart := by
  cases N with
  | zero => rfl
  | succ n =>
    unfold lgTold
    have : lgSeg (List.replicate M 0) z 0 = List.replicate (min z (M - 0)) 0 := by unfold lgSeg; rw [Nat.mul_zero, List.drop_replicate, List.take_replicate]
    rw [this, if_neg (by rw [sParse_zeros]; decide)]

/-- where all is durable the region tells all -/
theorem LgOk.told (h : LgOk sz N s B Bd) (e : s.sure = s.ts.length) : (lgTold Bd (128 * sz) N 0 lgStart).ts = s.ts ∧ (lgTold Bd (128 * sz) N 0 lgStart).ch = s.ch := by
  rcases h with ⟨rfl, rfl, rfl⟩ | ⟨i, s0, tl, c, h⟩
  · rw [told_none]; exact ⟨rfl, rfl⟩
  · rw [h.same e, h.w.told, h.ts, h.ch]; exact ⟨rfl, rfl⟩

theorem LgOk.bounds (h : LgOk sz N s B Bd) (hN : 1 ≤ N) : -1 ≤ s.num ∧ s.num + 1 ≤ (N : Int) ∧ s.used ≤ 128 * sz ∧ s.tl.length ≤ 128 * sz * N ∧ s.ch.length = 32 ∧ 41 * s.ts.length ≤ 128 * sz * N ∧ s.dead = false ∧ Bd.length = 128 * sz * N ∧ okTexts s.ts ∧ s.sure ≤ s.ts.length := by
  rcases h with ⟨rfl, rfl, rfl⟩ | ⟨i, s0, tl, c, h⟩
  · refine ⟨Int.le_refl _, by show (-1 : Int) + 1 ≤ _; omega, Nat.le_refl _, Nat.zero_le _, List.length_replicate, Nat.zero_le _, rfl, List.length_replicate, (fun t ht => nomatch ht), Nat.le_refl _⟩
  · have hnum := h.num
    have hlt := h.w.lt
    have hfit := h.w.fit
    have hused := h.used
    have hend := h.w.endle
    have htail := h.tail
    have hlen := h.w.len
    obtain ⟨f1, -, f3⟩ := lgTold_fits h.w.len N 0 lgStart (by omega) (by simp [lgStart]) (.inr ⟨rfl, rfl⟩) (by simp [lgStart])
    have f4 := told_texts (B := B) (z := 128 * sz) N 0 lgStart (by simp [lgStart]) (fun t ht => nomatch ht)
    rw [h.w.told, Nat.zero_add] at f3
    rw [h.w.told] at f1 f4
    refine ⟨by omega, by omega, by omega, by omega, by rw [h.ch]; exact f1, by rw [h.ts]; exact f3, h.dead, h.lenD, by rw [h.ts]; exact f4, h.le⟩

/-- what is durable stays told, whatever follows -/
theorem LgOk.keeps (h : LgOk sz N s B Bd) : ∃ e, e ≤ 128 * sz * N ∧ (∀ j, j < e → Bd[j]? = B[j]?) ∧ ∀ B2 : List UInt8, B2.length = 128 * sz * N → (∀ j, j < e → B2[j]? = Bd[j]?) → s.sure ≤ (lgTold B2 (128 * sz) N 0 lgStart).ts.length := by
  rcases h with ⟨rfl, rfl, rfl⟩ | ⟨i, s0, tl, c, h⟩
  · exact ⟨0, Nat.zero_le _, fun j hj => by omega, fun _ _ _ => Nat.zero_le _⟩
  · rcases h.sure with h1 | ⟨i1, s1, t1, h1, h2, h3, h4⟩
    · exact ⟨0, Nat.zero_le _, fun j hj => by omega, fun _ _ _ => by rw [h1]; exact Nat.zero_le _⟩
    · refine ⟨lwEnd (128 * sz) i1 s1 t1, ?_, h4, fun B2 hl hB => by rw [h2]; exact h1.more hl hB⟩
      have := h1.endle
      have := h1.len
      omega

/-- what a flush writes -/
structure FlushB (sz N : Nat) (s : PLg) (B Bd : List UInt8) (m t : Nat) : Prop where
  place : s.num * ((128 * sz : Nat) : Int) + (s.used : Int) = (m : Int)
  cut : m = 128 * t + s.tl.length
  fit : t + (s.tl.length + 127) / 128 ≤ N * sz
  mod : s.used % 128 ≤ s.tl.length
  pos : 0 < s.tl.length
  pad : padB s.tl = (B.drop (128 * t)).take (128 * ((s.tl.length + 127) / 128))
  ok : LgOk sz N (s.settle s.tl) B B
  len : B.length = 128 * sz * N
  old : ∀ j, j < 128 * t → B[j]? = Bd[j]?
  new : ∀ j, 128 * t + 128 * ((s.tl.length + 127) / 128) ≤ j → B[j]? = Bd[j]?

theorem LgOk.flush (h : LgOk sz N s B Bd) (hne : s.sure ≠ s.ts.length) : ∃ m t, FlushB sz N s B Bd m t := by
  rcases h with ⟨rfl, rfl, rfl⟩ | ⟨i, s0, tl, c, h⟩
  · exact absurd rfl hne
  · obtain ⟨t, ht⟩ : ∃ t, c = 128 * t := ⟨c / 128, by have := h.cut; omega⟩
    subst ht
    obtain ⟨k, hk⟩ : ∃ k, (s.tl.length + 127) / 128 = k := ⟨_, rfl⟩
    obtain ⟨e, hee⟩ : ∃ e, lwEnd (128 * sz) i s0 tl = e := ⟨_, rfl⟩
    have hend : e = 128 * sz * i + s.used := by rw [← hee, h.used]; rfl
    have htail := h.tail
    have hle := h.w.endle
    have hlen := h.w.len
    have hpos := h.pos hne
    have hmod := h.mod
    have hzM : 128 * sz * N = 128 * (sz * N) := Nat.mul_assoc _ _ _
    have hzi : 128 * sz * i = 128 * (sz * i) := Nat.mul_assoc _ _ _
    have hz : ∀ j, e ≤ j → j < 128 * sz * N → B[j]? = some 0 := fun j h1 h2 => h.zeroB j (by rw [hee]; exact h1) h2
    rw [hee] at htail hle
    have hkN : 128 * t + 128 * k ≤ 128 * sz * N := by omega
    refine ⟨e, t, ?_, htail.symm, ?_, hmod, hpos, ?_, ?_, hlen, h.old, ?_⟩
    · rw [h.num, hend]; push_cast; rw [Int.mul_comm (i : Int)]
    · rw [hk, Nat.mul_comm N sz]; omega
    · rw [hk]
      unfold padB
      rw [hk]
      apply List.ext_getElem?
      intro j
      rw [List.getElem?_take, List.getElem?_drop]
      by_cases h1 : j < s.tl.length
      · rw [List.getElem?_append_left h1, if_pos (by omega)]
        exact h.tlb j h1
      · rw [List.getElem?_append_right (by omega), List.getElem?_replicate]
        by_cases h2 : j < 128 * k
        · rw [if_pos (by omega), if_pos h2, hz _ (by omega) (by omega)]
        · rw [if_neg (by omega), if_neg h2]
    · refine .inr ⟨i, s0, tl, 128 * t + (s.tl.length - s.used % 128), h.w, h.num, h.used, h.sealed, h.ch, h.ts, h.dead, by omega, ?_, h.tlb.drop (Nat.sub_le _ _), ?_, fun hn => absurd rfl hn, fun _ _ => rfl, hlen, h.zeroB, Nat.le_refl _, .inr ⟨i, s0, tl, h.w, ?_, Nat.le_refl _, fun _ _ => rfl⟩, fun _ => rfl⟩
      · show 128 * t + (s.tl.length - s.used % 128) + (s.tl.drop (s.tl.length - s.used % 128)).length = _
        rw [List.length_drop, hee]; omega
      · show s.used % 128 ≤ (s.tl.drop (s.tl.length - s.used % 128)).length
        rw [List.length_drop]; omega
      · show s.ts.length = _
        rw [h.ts, List.length_append]
    · intro j hj
      rw [hk] at hj
      by_cases h2 : j < 128 * sz * N
      · rw [hz j (by omega) h2, h.zero j (by rw [hee]; omega) h2]
      · rw [List.getElem?_eq_none (by omega), List.getElem?_eq_none (by rw [h.lenD]; omega)]

/-- a region's bytes -/
theorem secs_get (D : List UInt8) (frm M j : Nat) : (secs D frm M)[j]? = if j < 128 * M then D[128 * frm + j]? else none := by
  unfold secs; rw [List.getElem?_take, List.getElem?_drop]

theorem FlushB.region {m t : Nat} (h : FlushB sz N s B Bd m t) {D : List UInt8} {n frm : Nat} (hD : D.length = 128 * n) (hf : frm + N * sz ≤ n) (hB : secs D frm (N * sz) = Bd) : secs (lay D (frm + t) (padB s.tl)) frm (N * sz) = B := by
  obtain ⟨k, hk⟩ : ∃ k, (s.tl.length + 127) / 128 = k := ⟨_, rfl⟩
  have hp := padB_length s.tl
  have hfit := h.fit
  have hlen := h.len
  rw [hk] at hp hfit
  have hM : 128 * sz * N = 128 * (N * sz) := by rw [Nat.mul_assoc, Nat.mul_comm sz N]
  apply List.ext_getElem?
  intro j
  rw [secs_get]
  by_cases hj : j < 128 * (N * sz)
  · have hd : D[128 * frm + j]? = Bd[j]? := by rw [← hB, secs_get, if_pos hj]
    rw [if_pos hj, lay_get (by rw [hp]; omega)]
    by_cases h1 : 128 * frm + j < 128 * (frm + t)
    · rw [if_pos h1, hd, h.old j (by omega)]
    · rw [if_neg h1]
      by_cases h2 : 128 * frm + j < 128 * (frm + t) + (padB s.tl).length
      · rw [if_pos h2, h.pad, hk, List.getElem?_take, if_pos (by omega), List.getElem?_drop]
        congr 1
        omega
      · rw [if_neg h2, hd, h.new j (by rw [hk]; omega)]
  · rw [if_neg hj, List.getElem?_eq_none (by omega)]

/-- BEHIND A CRASH WHAT WAS DURABLE IS TOLD -/
theorem LgOk.crash (h : LgOk sz N s B Bd) {D : List UInt8} {n frm : Nat} (hD : D.length = 128 * n) (hf : frm + N * sz ≤ n) (hB : secs D frm (N * sz) = Bd) {P : List Wr} (hok : OkW n P) (hP : ∀ p ∈ P, ∃ t, p.1 = frm + t ∧ p.2 = sec B t) (keep : List Int) :
    s.sure ≤ (lgTold (secs (loseAll (crAll P D keep).2.2 P (layAll D P)) frm (N * sz)) (128 * sz) N 0 lgStart).ts.length := by
  obtain ⟨e, h1, h2, h3⟩ := h.keeps
  have hM : 128 * sz * N = 128 * (N * sz) := by rw [Nat.mul_assoc, Nat.mul_comm sz N]
  have hca := crOk_all hok hD keep
  have hl := loseAll_length hca.len hok (layAll_length hok hD)
  refine h3 _ (by rw [secs_length (by omega)]; exact hM.symm) (fun j hj => ?_)
  have hd : ∀ j, j < e → D[128 * frm + j]? = Bd[j]? := fun j hj => by rw [← hB, secs_get, if_pos (by omega)]
  rw [secs_get, if_pos (by omega), crash_region hok hD keep frm hP e (fun j hj => by rw [hd j hj, h2 j hj]) j hj, hd j hj]

theorem FlushB.writes {m t : Nat} (h : FlushB sz N s B Bd m t) (frm : Nat) : ∀ p ∈ chunks (frm + t) (padB s.tl) ((s.tl.length + 127) / 128), ∃ t', p.1 = frm + t' ∧ p.2 = sec B t' := chunks_secs h.pad
end

end Go.Proofs.YtijkmpcgkhijgaaGreatDoor
