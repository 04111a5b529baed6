/-
  A disk as lists of bytes: sectors, writes that wait, a crash. Plain lemmas.
-/
import Derived.Test.YtmalbfpipdebaaaBase
namespace Go.Proofs.Ytmalbfpipdebaaa
set_option linter.unusedVariables false
set_option linter.unusedSimpArgs false

/-- a write: its sector, its bytes -/
abbrev Wr := Nat × List UInt8

/-- sector s -/
def sec (l : List UInt8) (s : Nat) : List UInt8 := (l.drop (128 * s)).take 128

/-- b laid over l from sector s on -/
def lay (l : List UInt8) (s : Nat) (b : List UInt8) : List UInt8 := l.take (128 * s) ++ (b ++ l.drop (128 * s + b.length))

theorem lay_length {l b : List UInt8} {s : Nat} (h : 128 * s + b.length ≤ l.length) : (lay l s b).length = l.length := by simp [lay]; omega

theorem sec_length {l : List UInt8} {s : Nat} (h : 128 * s + 128 ≤ l.length) : (sec l s).length = 128 := by simp [sec]; omega

theorem sec_get (l : List UInt8) (s i : Nat) : (sec l s)[i]? = if i < 128 then l[128 * s + i]? else none := by
  unfold sec
  rw [List.getElem?_take]
  split
  · rw [List.getElem?_drop]
  · rfl

theorem lay_get {l b : List UInt8} {s : Nat} (h : 128 * s + b.length ≤ l.length) (j : Nat) : (lay l s b)[j]? = if j < 128 * s then l[j]? else if j < 128 * s + b.length then b[j - 128 * s]? else l[j]? := by
  unfold lay
  have h1 : (l.take (128 * s)).length = 128 * s := by simp; omega
  by_cases hj : j < 128 * s
  · rw [List.getElem?_append_left (by omega), if_pos hj, List.getElem?_take, if_pos hj]
  · rw [List.getElem?_append_right (by omega), if_neg hj, h1]
    by_cases hk : j < 128 * s + b.length
    · rw [List.getElem?_append_left (by omega), if_pos hk]
    · rw [List.getElem?_append_right (by omega), if_neg hk, List.getElem?_drop]
      congr 1
      omega

theorem sec_lay {l b : List UInt8} {s t : Nat} (hb : b.length = 128) (h : 128 * s + 128 ≤ l.length) : sec (lay l s b) t = if t = s then b else sec l t := by
  apply List.ext_getElem?
  intro i
  rw [sec_get]
  by_cases hi : i < 128
  · rw [if_pos hi, lay_get (by omega)]
    by_cases ht : t = s
    · subst ht
      rw [if_pos rfl, if_neg (by omega), if_pos (by omega)]
      congr 1
      omega
    · rw [if_neg ht, sec_get, if_pos hi]
      by_cases h1 : 128 * t + i < 128 * s
      · rw [if_pos h1]
      · rw [if_neg h1, if_neg (by omega)]
  · rw [if_neg hi]
    by_cases ht : t = s
    · rw [if_pos ht, List.getElem?_eq_none (by omega)]
    · rw [if_neg ht, sec_get, if_neg hi]

/-- writes that a disk of n sectors may have -/
def OkW (n : Nat) (P : List Wr) : Prop := ∀ p ∈ P, p.1 < n ∧ p.2.length = 128

/-- all writes done, in order -/
def layAll (d : List UInt8) (P : List Wr) : List UInt8 := P.foldl (fun d p => lay d p.1 p.2) d

theorem layAll_nil (d : List UInt8) : layAll d [] = d := rfl
theorem layAll_snoc (d : List UInt8) (P : List Wr) (p : Wr) : layAll d (P ++ [p]) = lay (layAll d P) p.1 p.2 := by simp [layAll]

theorem layAll_length {n : Nat} {P : List Wr} : ∀ {d : List UInt8}, OkW n P → d.length = 128 * n → (layAll d P).length = 128 * n := by
  induction P with
  | nil => intro d _ h; exact h
  | cons p P ih =>
    intro d hok h
    have hp := hok p (by simp)
    exact ih (fun q hq => hok q (by simp [hq])) (by rw [lay_length (by omega)]; exact h)

theorem layAll_sec {n : Nat} {P : List Wr} {s : Nat} : ∀ {d : List UInt8}, OkW n P → d.length = 128 * n → (∀ p ∈ P, p.1 ≠ s) → sec (layAll d P) s = sec d s := by
  induction P with
  | nil => intro d _ _ _; rfl
  | cons p P ih =>
    intro d hok h hne
    have hp := hok p (by simp)
    show sec (layAll (lay d p.1 p.2) P) s = _
    rw [ih (fun q hq => hok q (by simp [hq])) (by rw [lay_length (by omega)]; exact h) (fun q hq => hne q (by simp [hq])), sec_lay hp.2 (by omega), if_neg (fun e => hne p (by simp) e.symm)]

/-- a crash: which writes are done, how many, what is durable -/
abbrev Cr := List Bool × Nat × List UInt8

def crStep (P : List Wr) (st : Cr) (i : Int) : Cr :=
  if i < 0 ∨ (P.length : Int) ≤ i ∨ st.1.getD i.toNat false = true then st
  else (st.1.set i.toNat true, st.2.1 + 1, lay st.2.2 (P.getD i.toNat (0, [])).1 (P.getD i.toNat (0, [])).2)

def crAll (P : List Wr) (d : List UInt8) (keep : List Int) : Cr := keep.foldl (crStep P) (List.replicate P.length false, 0, d)

theorem crAll_take (P : List Wr) (d : List UInt8) (keep : List Int) (j : Nat) (i : Int) (h : keep[j]? = some i) : crAll P d (keep.take (j + 1)) = crStep P (crAll P d (keep.take j)) i := by
  rw [List.take_add_one, h]
  simp [crAll]

theorem getD_mem {P : List Wr} {j : Nat} (h : j < P.length) : P.getD j (0, []) ∈ P := by
  rw [List.getD_eq_getElem?_getD, List.getElem?_eq_getElem h]
  exact List.getElem_mem h

/-- what a crash keeps -/
structure CrOk (n : Nat) (P : List Wr) (d : List UInt8) (st : Cr) : Prop where
  marks : st.1.length = P.length
  len : st.2.2.length = 128 * n
  secs : ∀ s, sec st.2.2 s = sec d s ∨ ∃ p ∈ P, p.1 = s ∧ sec st.2.2 s = p.2

theorem crOk_step {n : Nat} {P : List Wr} {d : List UInt8} {st : Cr} (hok : OkW n P) (h : CrOk n P d st) (i : Int) : CrOk n P d (crStep P st i) := by
  unfold crStep
  split
  · exact h
  · rename_i hc
    have hi : i.toNat < P.length := by omega
    have hm := getD_mem hi
    have hp := hok _ hm
    have hl := h.len
    refine ⟨by simp [h.marks], ?_, fun s => ?_⟩
    · show (lay _ _ _).length = _
      rw [lay_length (by omega)]; exact h.len
    · show sec (lay _ _ _) s = _ ∨ _
      rw [sec_lay hp.2 (by omega)]
      by_cases hs : s = (P.getD i.toNat (0, [])).1
      · right
        exact ⟨_, hm, hs.symm, if_pos hs⟩
      · rw [if_neg hs]
        rcases h.secs s with h1 | ⟨p, h1, h2, h3⟩
        · exact .inl h1
        · right
          exact ⟨p, h1, h2, h3⟩

theorem crOk_fold {n : Nat} {P : List Wr} {d : List UInt8} (hok : OkW n P) (keep : List Int) : ∀ {st : Cr}, CrOk n P d st → CrOk n P d (keep.foldl (crStep P) st) := by
  induction keep with
  | nil => intro st h; exact h
  | cons i r ih => intro st h; exact ih (crOk_step hok h i)

theorem crOk_all {n : Nat} {P : List Wr} {d : List UInt8} (hok : OkW n P) (hd : d.length = 128 * n) (keep : List Int) : CrOk n P d (crAll P d keep) :=
  crOk_fold hok keep ⟨by simp, hd, fun s => .inl rfl⟩

/-- the sectors of the writes that were lost, as the disk has them -/
def loseAll (d : List UInt8) (P : List Wr) (l : List UInt8) : List UInt8 := P.foldl (fun l p => lay l p.1 (sec d p.1)) l

theorem loseAll_take (d : List UInt8) (P : List Wr) (l : List UInt8) (j : Nat) (p : Wr) (h : P[j]? = some p) : loseAll d (P.take (j + 1)) l = lay (loseAll d (P.take j) l) p.1 (sec d p.1) := by
  rw [List.take_add_one, h]
  simp [loseAll]

theorem layAll_take (d : List UInt8) (P : List Wr) (j : Nat) (p : Wr) (h : P[j]? = some p) : layAll d (P.take (j + 1)) = lay (layAll d (P.take j)) p.1 p.2 := by
  rw [List.take_add_one, h]
  exact layAll_snoc _ _ _

theorem loseAll_length {n : Nat} {d : List UInt8} (hd : d.length = 128 * n) {P : List Wr} : ∀ {l : List UInt8}, OkW n P → l.length = 128 * n → (loseAll d P l).length = 128 * n := by
  induction P with
  | nil => intro l _ h; exact h
  | cons p P ih =>
    intro l hok h
    have hp := hok p (by simp)
    have hs : (sec d p.1).length = 128 := sec_length (by omega)
    exact ih (fun q hq => hok q (by simp [hq])) (by rw [lay_length (by omega)]; exact h)

theorem loseAll_sec {n : Nat} {d : List UInt8} (hd : d.length = 128 * n) {P : List Wr} {s : Nat} : ∀ {l : List UInt8}, OkW n P → l.length = 128 * n →
    ((∃ p ∈ P, p.1 = s) → sec (loseAll d P l) s = sec d s) ∧ (sec l s = sec d s → sec (loseAll d P l) s = sec d s) ∧ ((∀ p ∈ P, p.1 ≠ s) → sec (loseAll d P l) s = sec l s) := by
  induction P with
  | nil => intro l _ _; exact ⟨fun ⟨p, h, _⟩ => by simp at h, fun h => h, fun _ => rfl⟩
  | cons p P ih =>
    intro l hok h
    have hp := hok p (by simp)
    have hs : (sec d p.1).length = 128 := sec_length (by omega)
    have hll : (lay l p.1 (sec d p.1)).length = 128 * n := by rw [lay_length (by omega)]; exact h
    obtain ⟨h1, h2, h3⟩ := ih (l := lay l p.1 (sec d p.1)) (fun q hq => hok q (by simp [hq])) hll
    have hsl := sec_lay (l := l) (t := s) hs (s := p.1) (by omega)
    refine ⟨fun ⟨q, hq, hqs⟩ => ?_, fun he => ?_, fun hne => ?_⟩
    · rcases List.mem_cons.1 hq with rfl | hq
      · exact h2 (by rw [hsl, if_pos hqs.symm, hqs])
      · exact h1 ⟨q, hq, hqs⟩
    · refine h2 ?_
      rw [hsl]
      split
      · rename_i e; rw [e]
      · exact he
    · show sec (loseAll d P _) s = _
      rw [h3 (fun q hq => hne q (by simp [hq])), hsl, if_neg (fun e => hne p (by simp) e.symm)]

/-- P10.3: behind a crash each sector has what it had, or one of its writes -/
theorem crash_sec {n : Nat} {P : List Wr} {d : List UInt8} (hok : OkW n P) (hd : d.length = 128 * n) (keep : List Int) (s : Nat) :
    sec (loseAll (crAll P d keep).2.2 P (layAll d P)) s = sec d s ∨ ∃ p ∈ P, p.1 = s ∧ sec (loseAll (crAll P d keep).2.2 P (layAll d P)) s = p.2 := by
  have hc := crOk_all hok hd keep
  have hl := layAll_length hok hd
  obtain ⟨h1, -, h3⟩ := loseAll_sec (d := (crAll P d keep).2.2) hc.len (s := s) hok hl
  by_cases hx : ∃ p ∈ P, p.1 = s
  · rw [h1 hx]
    exact hc.secs s
  · have hne : ∀ p ∈ P, p.1 ≠ s := fun p hp e => hx ⟨p, hp, e⟩
    rw [h3 hne, layAll_sec hok hd hne]
    exact .inl rfl

/-- m sectors from s on -/
def secs (l : List UInt8) (s m : Nat) : List UInt8 := (l.drop (128 * s)).take (128 * m)

theorem secs_one (l : List UInt8) (s : Nat) : secs l s 1 = sec l s := rfl

theorem secs_length {l : List UInt8} {s m : Nat} (h : 128 * s + 128 * m ≤ l.length) : (secs l s m).length = 128 * m := by simp [secs]; omega

/-- the writes of m sectors of b, from s on -/
def chunks (s : Nat) (b : List UInt8) (m : Nat) : List Wr := (List.range m).map fun i => (s + i, sec b i)

theorem chunks_succ (s : Nat) (b : List UInt8) (m : Nat) : chunks s b (m + 1) = chunks s b m ++ [(s + m, sec b m)] := by simp [chunks, List.range_succ]

theorem chunks_length (s : Nat) (b : List UInt8) (m : Nat) : (chunks s b m).length = m := by simp [chunks]

theorem chunks_one (s : Nat) {b : List UInt8} (hb : b.length = 128) : chunks s b 1 = [(s, b)] := by
  have : sec b 0 = b := by unfold sec; rw [Nat.mul_zero, List.drop_zero, List.take_of_length_le (by omega)]
  simp [chunks, this]

theorem chunks_ok {n s : Nat} {b : List UInt8} {m : Nat} (h : s + m ≤ n) (hb : 128 * m ≤ b.length) : OkW n (chunks s b m) := by
  intro p hp
  obtain ⟨i, hi, rfl⟩ := List.mem_map.1 hp
  have hi' : i < m := by simpa using hi
  exact ⟨by show s + i < n; omega, sec_length (by omega)⟩

/-- sectors all the same: the same bytes -/
theorem eq_of_secs {n : Nat} {a b : List UInt8} (ha : a.length = 128 * n) (hb : b.length = 128 * n) (h : ∀ t, t < n → sec a t = sec b t) : a = b := by
  apply List.ext_getElem?
  intro i
  by_cases hi : i < 128 * n
  · have h1 := congrArg (fun l => l[i % 128]?) (h (i / 128) (by omega))
    simp only [sec_get] at h1
    rw [if_pos (by omega), if_pos (by omega), show 128 * (i / 128) + i % 128 = i by omega] at h1
    exact h1
  · rw [List.getElem?_eq_none (by omega), List.getElem?_eq_none (by omega)]

theorem sec_layN {l b : List UInt8} {s m t : Nat} (hb : b.length = 128 * m) (h : 128 * s + 128 * m ≤ l.length) : sec (lay l s b) t = if s ≤ t ∧ t < s + m then sec b (t - s) else sec l t := by
  apply List.ext_getElem?
  intro i
  rw [sec_get]
  by_cases hi : i < 128
  · rw [if_pos hi, lay_get (by omega)]
    by_cases ht : s ≤ t ∧ t < s + m
    · rw [if_pos ht, if_neg (by omega), if_pos (by omega), sec_get, if_pos hi]
      congr 1
      omega
    · rw [if_neg ht, sec_get, if_pos hi]
      by_cases h1 : 128 * t + i < 128 * s
      · rw [if_pos h1]
      · rw [if_neg h1, if_neg (by omega)]
  · rw [if_neg hi]
    split
    · rw [sec_get, if_neg hi]
    · rw [sec_get, if_neg hi]

theorem sec_chunks {n s : Nat} {b : List UInt8} {l : List UInt8} (hl : l.length = 128 * n) : ∀ {m : Nat}, s + m ≤ n → 128 * m ≤ b.length → ∀ t, sec (layAll l (chunks s b m)) t = if s ≤ t ∧ t < s + m then sec b (t - s) else sec l t := by
  intro m
  induction m with
  | zero => intro _ _ t; rw [if_neg (by omega)]; rfl
  | succ m ih =>
    intro h hb t
    have hlen := layAll_length (n := n) (chunks_ok (n := n) (s := s) (b := b) (m := m) (by omega) (by omega)) hl
    rw [chunks_succ, layAll_snoc, sec_lay (sec_length (by omega)) (by show 128 * (s + m) + 128 ≤ _; omega), ih (by omega) (by omega) t]
    by_cases e : t = s + m
    · rw [if_pos e, if_pos (by omega), show t - s = m by omega]
    · rw [if_neg e]
      by_cases h1 : s ≤ t ∧ t < s + m
      · rw [if_pos h1, if_pos (by omega)]
      · rw [if_neg h1, if_neg (by omega)]

/-- sector by sector, or at once -/
theorem layAll_chunks {n s m : Nat} {b l : List UInt8} (hl : l.length = 128 * n) (h : s + m ≤ n) (hb : b.length = 128 * m) : layAll l (chunks s b m) = lay l s b := by
  refine eq_of_secs (n := n) (layAll_length (chunks_ok h (by omega)) hl) (by rw [lay_length (by omega)]; exact hl) fun t _ => ?_
  rw [sec_chunks hl h (by omega), sec_layN hb (by omega)]

theorem layAll_append (d : List UInt8) (P Q : List Wr) : layAll d (P ++ Q) = layAll (layAll d P) Q := by simp [layAll]

/-- the calls that are left, behind one -/
def nextQ (q : Int) : Int := if 0 < q then q - 1 else q

end Go.Proofs.Ytmalbfpipdebaaa
