/-
  Layer 16, pure: keys, their encodings, slots, tables; what a crash leaves of a table's disk, and what Open reads of it.
-/
import Derived.Test.YtnekcdpfphgpbaaCrcA
import Derived.Test.YtnekcdpfphgpbaaEyeA
import Derived.Test.YtnekcdpfphgpbaaDskA
namespace Go.Proofs.Ytnekcdpfphgpbaa
set_option linter.unusedVariables false
set_option linter.unusedSimpArgs false
set_option maxRecDepth 100000
open Go.RowKit

/-- what is checked of a key -/
def keyRaw (b : Nat) (k : List UInt8) : List UInt8 := [101, 110, 103, 107] ++ be 8 b ++ k

/-- the encoding of a key -/
def keyEnc (b : Nat) (k : List UInt8) : List UInt8 := crcWith (keyRaw b k) ++ List.replicate 80 0

theorem keyRaw_length {b : Nat} {k : List UInt8} (hk : k.length = 32) : (keyRaw b k).length = 44 := by unfold keyRaw; simp [be_length, hk]
theorem keyEnc_length {b : Nat} {k : List UInt8} (hk : k.length = 32) : (keyEnc b k).length = 128 := by unfold keyEnc; rw [List.length_append, crcWith_length, keyRaw_length hk, List.length_replicate]

def keyZero : List UInt8 := List.replicate 128 0
theorem keyZero_length : keyZero.length = 128 := List.length_replicate

def keyFldB (s : List UInt8) : Nat := val ((s.drop 4).take 8)
def keyFldK (s : List UInt8) : List UInt8 := (s.drop 12).take 32

theorem keyEnc_form (b : Nat) (k : List UInt8) : ∃ r, keyEnc b k = [101, 110, 103, 107] ++ (be 8 b ++ (k ++ r)) := by
  unfold keyEnc crcWith keyRaw
  exact ⟨be 4 (crc ([101, 110, 103, 107] ++ be 8 b ++ k)).toNat ++ List.replicate 80 0, by simp only [List.append_assoc]⟩

theorem keyFldB_enc {b : Nat} {k : List UInt8} (hb : b < 18446744073709551616) : keyFldB (keyEnc b k) = b := by
  obtain ⟨r, hr⟩ := keyEnc_form b k
  unfold keyFldB
  rw [hr, List.drop_left' (by rfl), List.take_left' (be_length _ _), val_be_lt _ _ (by omega)]

theorem keyFldK_enc {b : Nat} {k : List UInt8} (hk : k.length = 32) : keyFldK (keyEnc b k) = k := by
  obtain ⟨r, hr⟩ := keyEnc_form b k
  unfold keyFldK
  rw [hr, ← List.append_assoc, List.drop_left' (by simp [be_length]), List.take_left' hk]

theorem keyEnc_ne_zero (b : Nat) (k : List UInt8) : keyEnc b k ≠ keyZero := by
  intro e
  obtain ⟨r, hr⟩ := keyEnc_form b k
  rw [hr] at e
  have := congrArg (fun l : List UInt8 => l[0]?) e
  simp [keyZero] at this

/-- a slot of a table -/
abbrev KSlot := Option (Nat × List UInt8)

def KSlot.ok (s : KSlot) : Prop := ∀ p, s = some p → p.1 ≤ 1099511627776 ∧ p.2.length = 32

def slotB (s : KSlot) : List UInt8 := match s with | none => keyZero | some p => keyEnc p.1 p.2

theorem slotB_length {s : KSlot} (h : s.ok) : (slotB s).length = 128 := by
  cases s with
  | none => exact keyZero_length
  | some p => exact keyEnc_length (h p rfl).2

/-- the key of a sector -/
def keyDec (s : List UInt8) : KSlot := if keyFldB s ≤ 1099511627776 ∧ (keyFldK s).length = 32 ∧ keyEnc (keyFldB s) (keyFldK s) = s then some (keyFldB s, keyFldK s) else none

theorem keyDec_enc {b : Nat} {k : List UInt8} (hb : b ≤ 1099511627776) (hk : k.length = 32) : keyDec (keyEnc b k) = some (b, k) := by
  unfold keyDec
  rw [keyFldB_enc (by omega), keyFldK_enc hk, if_pos ⟨hb, hk, rfl⟩]

theorem keyDec_zero : keyDec keyZero = none := if_neg fun h => keyEnc_ne_zero _ _ h.2.2

theorem keyDec_slot {s : KSlot} (h : s.ok) : keyDec (slotB s) = s := by
  cases s with
  | none => exact keyDec_zero
  | some p => exact keyDec_enc (h p rfl).1 (h p rfl).2

theorem keyDec_some {s : List UInt8} {p : Nat × List UInt8} (h : keyDec s = some p) : p.1 ≤ 1099511627776 ∧ p.2.length = 32 ∧ s = keyEnc p.1 p.2 := by
  unfold keyDec at h
  split at h
  · rename_i hh
    cases h
    exact ⟨hh.1, hh.2.1, hh.2.2.symm⟩
  · cases h

/-- no two of the same bucket -/
def KDist (L : List KSlot) : Prop := ∀ (i j : Nat) (p q : Nat × List UInt8), L[i]? = some (some p) → L[j]? = some (some q) → p.1 = q.1 → i = j

structure KOk (L : List KSlot) : Prop where
  ok : ∀ s ∈ L, s.ok
  dist : KDist L

/-- the slot of a bucket -/
def kHas (b : Nat) (s : KSlot) : Bool := match s with | none => false | some p => decide (p.1 = b)
def kFind (L : List KSlot) (b : Nat) : Option Nat := L.findIdx? (kHas b)

theorem kHas_some {b : Nat} {s : KSlot} (h : kHas b s = true) : ∃ k, s = some (b, k) := by
  cases s with
  | none => simp [kHas] at h
  | some p =>
    obtain ⟨x, k⟩ := p
    simp only [kHas, decide_eq_true_eq] at h
    exact ⟨k, by rw [h]⟩

theorem kFind_some {L : List KSlot} {b i : Nat} (h : kFind L b = some i) : ∃ k, L[i]? = some (some (b, k)) := by
  obtain ⟨hi, h1, -⟩ := List.findIdx?_eq_some_iff_getElem.1 h
  obtain ⟨k, hk⟩ := kHas_some h1
  exact ⟨k, by rw [List.getElem?_eq_getElem hi, hk]⟩

theorem kFind_none {L : List KSlot} {b : Nat} (h : kFind L b = none) : ∀ (i : Nat) (p : Nat × List UInt8), L[i]? = some (some p) → p.1 ≠ b := by
  intro i p hp e
  have h1 := List.findIdx?_eq_none_iff.1 h (some p) (List.mem_of_getElem? hp)
  simp [kHas, e] at h1

theorem kFind_at {L : List KSlot} (hd : KDist L) {i b : Nat} {k : List UInt8} (h : L[i]? = some (some (b, k))) : kFind L b = some i := by
  cases hf : kFind L b with
  | none => exact absurd rfl (kFind_none hf i _ h)
  | some j =>
    obtain ⟨k', hj⟩ := kFind_some hf
    rw [hd i j _ _ h hj rfl]

theorem KOk.put {L : List KSlot} {b i : Nat} {k : List UInt8} (h : KOk L) (hb : b ≤ 1099511627776) (hk : k.length = 32) (hf : kFind L b = none) : KOk (L.set i (some (b, k))) := by
  refine ⟨fun s hs => ?_, fun a c p q ha hc e => ?_⟩
  · rcases List.mem_or_eq_of_mem_set hs with h1 | rfl
    · exact h.ok s h1
    · intro p hp; cases hp; exact ⟨hb, hk⟩
  · rw [List.getElem?_set] at ha hc
    have hn := kFind_none hf
    split at ha <;> split at hc
    · omega
    · rename_i h1 h2
      split at ha
      · cases ha; exact absurd e.symm (hn c q hc)
      · cases ha
    · rename_i h1 h2
      split at hc
      · cases hc; exact absurd e (hn a p ha)
      · cases hc
    · exact h.dist a c p q ha hc e

theorem KOk.shred {L : List KSlot} {i : Nat} (h : KOk L) : KOk (L.set i none) := by
  refine ⟨fun s hs => ?_, fun a c p q ha hc e => ?_⟩
  · rcases List.mem_or_eq_of_mem_set hs with h1 | rfl
    · exact h.ok s h1
    · intro p hp; cases hp
  · rw [List.getElem?_set] at ha hc
    split at ha <;> split at hc
    · omega
    · split at ha <;> cases ha
    · split at hc <;> cases hc
    · exact h.dist a c p q ha hc e

/-- the table lies on the disk -/
def KOn (frm : Nat) (L : List KSlot) (D : List UInt8) : Prop := ∀ i s, L[i]? = some s → sec D (frm + 2 * i) = slotB s ∧ sec D (frm + 2 * i + 1) = slotB s

/-- both copies of slot i written -/
theorem KOn.lay {frm : Nat} {L : List KSlot} {D : List UInt8} (h : KOn frm L D) {i : Nat} {s : KSlot} (hs : s.ok) (hi : 128 * (frm + 2 * i + 2) ≤ D.length) : KOn frm (L.set i s) (lay (lay D (frm + 2 * i) (slotB s)) (frm + 2 * i + 1) (slotB s)) := by
  have hl := slotB_length hs
  have h1 : (Go.Proofs.Ytnekcdpfphgpbaa.lay D (frm + 2 * i) (slotB s)).length = D.length := lay_length (by rw [hl]; omega)
  intro j x hx
  rw [List.getElem?_set] at hx
  rw [sec_lay hl (by rw [h1]; omega), sec_lay hl (by omega), sec_lay hl (by rw [h1]; omega), sec_lay hl (by omega)]
  by_cases e : i = j
  · subst e
    rw [if_pos rfl] at hx
    split at hx
    · cases hx
      rw [if_neg (by omega), if_pos rfl, if_pos rfl]
      exact ⟨rfl, rfl⟩
    · cases hx
  · rw [if_neg e] at hx
    obtain ⟨h2, h3⟩ := h j x hx
    rw [if_neg (by omega), if_neg (by omega), if_neg (by omega), if_neg (by omega)]
    exact ⟨h2, h3⟩

/-- what Open reads: the slots, each of a bucket that no earlier one has -/
def kGot (L : List KSlot) (x : List UInt8) : KSlot := match keyDec x with | none => none | some p => if kFind L p.1 = none then some p else none
def kOpenT (B : List UInt8) (frm : Nat) : Nat → List KSlot
  | 0 => []
  | i + 1 => kOpenT B frm i ++ [kGot (kOpenT B frm i) (sec B (frm + 2 * i))]

theorem kOpenT_length (B : List UInt8) (frm : Nat) : ∀ i, (kOpenT B frm i).length = i := by
  intro i
  induction i with
  | zero => rfl
  | succ i ih => unfold kOpenT; rw [List.length_append, ih]; rfl

/-- where the first copies are those of a table, it's that table -/
theorem kOpenT_same {B : List UInt8} {frm : Nat} {L : List KSlot} (h : KOk L) (hB : ∀ i s, L[i]? = some s → sec B (frm + 2 * i) = slotB s) : ∀ i, i ≤ L.length → kOpenT B frm i = L.take i := by
  intro i
  induction i with
  | zero => intro _; rfl
  | succ i ih =>
    intro hi
    have hlt : i < L.length := by omega
    unfold kOpenT
    rw [ih (by omega), List.take_succ_eq_append_getElem hlt]
    congr 2
    have hg := List.getElem?_eq_getElem hlt
    have hm := List.getElem_mem hlt
    rw [hB i _ hg]
    generalize L[i] = s at *
    unfold kGot
    rw [keyDec_slot (h.ok s hm)]
    cases s with
    | none => rfl
    | some p =>
      show (if kFind (L.take i) p.1 = none then some p else none) = some p
      rw [if_pos]
      cases hf : kFind (L.take i) p.1 with
      | none => rfl
      | some j =>
        obtain ⟨k', hj⟩ := kFind_some hf
        rw [List.getElem?_take] at hj
        split at hj
        · rename_i hji
          have := h.dist i j p (p.1, k') hg hj rfl
          omega
        · cases hj

theorem kOpenT_ok (B : List UInt8) (frm : Nat) : ∀ i, KOk (kOpenT B frm i) := by
  intro i
  induction i with
  | zero => exact ⟨fun s hs => (nomatch hs), fun i j p q hi => by simp [kOpenT] at hi⟩
  | succ i ih =>
    have hl := kOpenT_length B frm i
    unfold kOpenT
    have hg : ∀ p, kGot (kOpenT B frm i) (sec B (frm + 2 * i)) = some p → (p.1 ≤ 1099511627776 ∧ p.2.length = 32) ∧ kFind (kOpenT B frm i) p.1 = none := by
      intro p hp
      unfold kGot at hp
      cases hd : keyDec (sec B (frm + 2 * i)) with
      | none => rw [hd] at hp; cases hp
      | some q =>
        rw [hd] at hp
        have hp' : (if kFind (kOpenT B frm i) q.1 = none then some q else none) = some p := hp
        split at hp'
        · cases hp'
          have := keyDec_some hd
          exact ⟨⟨this.1, this.2.1⟩, by assumption⟩
        · cases hp'
    generalize kGot (kOpenT B frm i) (sec B (frm + 2 * i)) = s at *
    generalize kOpenT B frm i = L at *
    refine ⟨fun x hx => ?_, fun a c p q ha hc e => ?_⟩
    · rcases List.mem_append.1 hx with hx | hx
      · exact ih.ok x hx
      · rw [List.mem_singleton.1 hx]; intro p hp; exact (hg p hp).1
    · rw [List.getElem?_append] at ha hc
      split at ha <;> split at hc
      · exact ih.dist a c p q ha hc e
      · rename_i h1 h2
        have : c - L.length = 0 := by
          rcases Nat.eq_zero_or_pos (c - L.length) with h | h
          · exact h
          · rw [List.getElem?_eq_none (by simp; omega)] at hc; cases hc
        rw [this] at hc
        simp only [List.getElem?_cons_zero, Option.some.injEq] at hc
        exact absurd e (kFind_none (hg q hc).2 a p ha)
      · rename_i h1 h2
        have : a - L.length = 0 := by
          rcases Nat.eq_zero_or_pos (a - L.length) with h | h
          · exact h
          · rw [List.getElem?_eq_none (by simp; omega)] at ha; cases ha
        rw [this] at ha
        simp only [List.getElem?_cons_zero, Option.some.injEq] at ha
        exact absurd e.symm (kFind_none (hg p ha).2 c q hc)
      · have h3 : a - L.length = 0 := by
          rcases Nat.eq_zero_or_pos (a - L.length) with h | h
          · exact h
          · rw [List.getElem?_eq_none (by simp; omega)] at ha; cases ha
        have h4 : c - L.length = 0 := by
          rcases Nat.eq_zero_or_pos (c - L.length) with h | h
          · exact h
          · rw [List.getElem?_eq_none (by simp; omega)] at hc; cases hc
        omega

/-- what a crash leaves of the first copies: those of the table, and of slot i the old one or the new one -/
theorem kCrash {n frm i : Nat} {L : List KSlot} {s' : KSlot} {D : List UInt8} {P : List Wr} (hok : OkW n P) (hD : D.length = 128 * n) (hL : KOk L) (hL' : KOk (L.set i s')) (hi : i < L.length)
    (h1 : ∀ j s, L[j]? = some s → j ≠ i → sec D (frm + 2 * j) = slotB s) (h2 : ∀ s, L[i]? = some s → sec D (frm + 2 * i) = slotB s ∨ sec D (frm + 2 * i) = slotB s')
    (h3 : ∀ p ∈ P, (p.1 = frm + 2 * i ∧ p.2 = slotB s') ∨ p.1 = frm + 2 * i + 1) (keep : List Int) :
    kOpenT (crAll P D keep).2.2 frm L.length = L ∨ kOpenT (crAll P D keep).2.2 frm L.length = L.set i s' := by
  have hc := (crOk_all hok hD keep).secs
  have hgi := List.getElem?_eq_getElem hi
  have hC1 : ∀ j s, L[j]? = some s → j ≠ i → sec (crAll P D keep).2.2 (frm + 2 * j) = slotB s := by
    intro j s hj hne
    rcases hc (frm + 2 * j) with e | ⟨p, hp, e, -⟩
    · rw [e]; exact h1 j s hj hne
    · rcases h3 p hp with ⟨h4, -⟩ | h4 <;> omega
  have hC2 : sec (crAll P D keep).2.2 (frm + 2 * i) = slotB L[i] ∨ sec (crAll P D keep).2.2 (frm + 2 * i) = slotB s' := by
    rcases hc (frm + 2 * i) with e | ⟨p, hp, e, e2⟩
    · rw [e]; exact h2 _ hgi
    · rcases h3 p hp with ⟨h4, h5⟩ | h4
      · right; rw [e2, h5]
      · omega
  rcases hC2 with e | e
  · left
    have := kOpenT_same (B := (crAll P D keep).2.2) (frm := frm) hL (fun j s hj => by
      by_cases hji : j = i
      · subst hji; rw [hgi] at hj; cases hj; exact e
      · exact hC1 j s hj hji) L.length (Nat.le_refl _)
    rwa [List.take_length] at this
  · right
    have := kOpenT_same (B := (crAll P D keep).2.2) (frm := frm) hL' (fun j s hj => by
      rw [List.getElem?_set] at hj
      by_cases hji : i = j
      · subst hji
        rw [if_pos rfl, if_pos hi] at hj
        cases hj; exact e
      · rw [if_neg hji] at hj
        exact hC1 j s hj (fun e => hji e.symm)) (L.set i s').length (Nat.le_refl _)
    rw [List.take_length, List.length_set] at this
    exact this

/-- in the midst of writing slot i: what is durable, what waits -/
structure KHalf (n frm i : Nat) (L : List KSlot) (s' : KSlot) (D : List UInt8) (P : List Wr) : Prop where
  ok : OkW n P
  len : D.length = 128 * n
  few : P.length ≤ 1
  out : ∀ j s, L[j]? = some s → j ≠ i → sec D (frm + 2 * j) = slotB s
  at_ : ∀ s, L[i]? = some s → sec D (frm + 2 * i) = slotB s ∨ sec D (frm + 2 * i) = slotB s'
  wr : ∀ p ∈ P, (p.1 = frm + 2 * i ∧ p.2 = slotB s') ∨ p.1 = frm + 2 * i + 1

section
variable {n frm i : Nat} {L : List KSlot} {s' : KSlot} {D : List UInt8}

theorem kHalf0 (h : KOn frm L D) (hD : D.length = 128 * n) : KHalf n frm i L s' D [] :=
  ⟨fun p hp => (nomatch hp), hD, Nat.zero_le _, fun j s hj _ => (h j s hj).1, fun s hs => .inl (h i s hs).1, fun p hp => (nomatch hp)⟩

theorem kHalf1 (h : KOn frm L D) (hD : D.length = 128 * n) (hs : s'.ok) (hi : frm + 2 * i < n) : KHalf n frm i L s' D [(frm + 2 * i, slotB s')] :=
  ⟨fun p hp => by rw [List.mem_singleton.1 hp]; exact ⟨hi, slotB_length hs⟩, hD, Nat.le_refl _, fun j s hj _ => (h j s hj).1, fun s hs => .inl (h i s hs).1, fun p hp => by rw [List.mem_singleton.1 hp]; exact .inl ⟨rfl, rfl⟩⟩

theorem kHalf2 (h : KOn frm L D) (hD : D.length = 128 * n) (hs : s'.ok) (hi : frm + 2 * i < n) : KHalf n frm i L s' (lay D (frm + 2 * i) (slotB s')) [] := by
  have hl := slotB_length hs
  refine ⟨fun p hp => (nomatch hp), by rw [lay_length (by rw [hl]; omega)]; exact hD, Nat.zero_le _, fun j s hj hne => ?_, fun s hs => .inr ?_, fun p hp => (nomatch hp)⟩
  · rw [sec_lay hl (by omega), if_neg (by omega)]; exact (h j s hj).1
  · rw [sec_lay hl (by omega), if_pos rfl]

theorem kHalf3 (h : KOn frm L D) (hD : D.length = 128 * n) (hs : s'.ok) (hi : frm + 2 * i + 1 < n) : KHalf n frm i L s' (lay D (frm + 2 * i) (slotB s')) [(frm + 2 * i + 1, slotB s')] := by
  have h1 := kHalf2 (i := i) h hD hs (by omega)
  exact ⟨fun p hp => by rw [List.mem_singleton.1 hp]; exact ⟨hi, slotB_length hs⟩, h1.len, Nat.le_refl _, h1.out, h1.at_, fun p hp => by rw [List.mem_singleton.1 hp]; exact .inr rfl⟩

theorem kHalfCrash {P : List Wr} (h : KHalf n frm i L s' D P) (hL : KOk L) (hL' : KOk (L.set i s')) (hi : i < L.length) (keep : List Int) :
    kOpenT (crAll P D keep).2.2 frm L.length = L ∨ kOpenT (crAll P D keep).2.2 frm L.length = L.set i s' :=
  kCrash h.ok h.len hL hL' hi h.out h.at_ h.wr keep
end

/-- behind a crash nothing waits: what is durable is all -/
theorem crash_same16 {n : Nat} {P : List Wr} {D : List UInt8} (hok : OkW n P) (hD : D.length = 128 * n) (keep : List Int) : loseAll (crAll P D keep).2.2 P (layAll D P) = (crAll P D keep).2.2 := by
  have hca := crOk_all hok hD keep
  have hl := layAll_length hok hD
  refine eq_of_secs (n := n) (loseAll_length hca.len hok hl) hca.len fun t _ => ?_
  obtain ⟨h1, -, h3⟩ := loseAll_sec (d := (crAll P D keep).2.2) hca.len (s := t) hok hl
  by_cases hx : ∃ p ∈ P, p.1 = t
  · exact h1 hx
  · have hne : ∀ p ∈ P, p.1 ≠ t := fun p hp e => hx ⟨p, hp, e⟩
    rw [h3 hne, layAll_sec hok hD hne]
    rcases hca.secs t with h | ⟨p, hp, e, -⟩
    · exact h.symm
    · exact absurd e (hne p hp)

/-- a new disk: an empty table -/
theorem KOn_zeros (n frm slots : Nat) (h : frm + 2 * slots ≤ n) : KOn frm (List.replicate slots none) (List.replicate (128 * n) 0) := by
  intro i s hs
  rw [List.getElem?_replicate] at hs
  split at hs
  · cases hs
    have hz : ∀ t, t < n → sec (List.replicate (128 * n) (0 : UInt8)) t = keyZero := by
      intro t ht
      unfold sec keyZero
      rw [List.drop_replicate, List.take_replicate, Nat.min_eq_left (by omega)]
    exact ⟨hz _ (by omega), hz _ (by omega)⟩
  · cases hs

theorem KOk_empty (slots : Nat) : KOk (List.replicate slots none) := by
  refine ⟨fun s hs p hp => ?_, fun i j p q hi => ?_⟩
  · rw [List.eq_of_mem_replicate hs] at hp; cases hp
  · rw [List.getElem?_replicate] at hi
    split at hi <;> cases hi

end Go.Proofs.Ytnekcdpfphgpbaa
