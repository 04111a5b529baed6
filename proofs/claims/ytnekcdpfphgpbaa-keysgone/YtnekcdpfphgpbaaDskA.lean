/-
  A disk as lists of bytes: sectors, writes that wait, a crash. Plain lemmas.
  A disk in memory: its block of four cells, its two rows of bytes, its row of writes.
  disk: sectors, allowed, piece, has, call, Size, Waiting; bytes.Clone; Image.
  disk.Load, disk.New.
  A write as a value: built of its parts, laid in a row of its own, appended.
  Write of one sector.
  perform, Flush.
  lose, Crash, Read.
  A disk as a caller has it; string(b).
-/
import Derived.Test.YtnekcdpfphgpbaaBase
import Derived.Test.YtnekcdpfphgpbaaProg
import Derived.Deep.RegionHeld3
import Derived.Deep.DrawnRows
import Derived.Deep.MidRow
import Derived.Deep.Cut
import Derived.Maps.AppendAt
import Derived.KernelRfl
import Derived.Great.BuildSlice
namespace Go.Proofs.Ytnekcdpfphgpbaa
set_option linter.unusedVariables false
set_option linter.unusedSimpArgs false

/-- a write: its sector, its bytes -/
abbrev Wr := Nat × List UInt8

/-- sector s -/
def sec (l : List UInt8) (s : Nat) : List UInt8 := (l.drop (128 * s)).take 128

/-- b laid over l from sector s on -/
def lay (l : List UInt8) (s : Nat) (b : List UInt8) : List UInt8 := l.take (128 * s) ++ (b ++ l.drop (128 * s + b.length))

theorem lay_length {l b : List UInt8} {s : Nat} (h : 128 * s + b.length ≤ l.length) : (lay l s b).length = l.length := by simp [lay]; omega

theorem sec_length {l : List UInt8} {s : Nat} (h : 128 * s + 128 ≤ l.length) : (sec l s).length = 128 := by simp [sec]; omega

theorem sec_get (l : List UInt8) (s i : Nat) : (sec l s)[i]? = if i < 128 then l[128 * s + i]? else none := by
  unfold sec
  rw [List.getElem?_take]
  split
  · rw [List.getElem?_drop]
  · rfl

theorem lay_get {l b : List UInt8} {s : Nat} (h : 128 * s + b.length ≤ l.length) (j : Nat) : (lay l s b)[j]? = if j < 128 * s then l[j]? else if j < 128 * s + b.length then b[j - 128 * s]? else l[j]? := by
  unfold lay
  have h1 : (l.take (128 * s)).length = 128 * s := by simp; omega
  by_cases hj : j < 128 * s
  · rw [List.getElem?_append_left (by omega), if_pos hj, List.getElem?_take, if_pos hj]
  · rw [List.getElem?_append_right (by omega), if_neg hj, h1]
    by_cases hk : j < 128 * s + b.length
    · rw [List.getElem?_append_left (by omega), if_pos hk]
    · rw [List.getElem?_append_right (by omega), if_neg hk, List.getElem?_drop]
      congr 1
      omega

theorem sec_lay {l b : List UInt8} {s t : Nat} (hb : b.length = 128) (h : 128 * s + 128 ≤ l.length) : sec (lay l s b) t = if t = s then b else sec l t := by
  apply List.ext_getElem?
  intro i
  rw [sec_get]
  by_cases hi : i < 128
  · rw [if_pos hi, lay_get (by omega)]
    by_cases ht : t = s
    · subst ht
      rw [if_pos rfl, if_neg (by omega), if_pos (by omega)]
      congr 1
      omega
    · rw [if_neg ht, sec_get, if_pos hi]
      by_cases h1 : 128 * t + i < 128 * s
      · rw [if_pos h1]
      · rw [if_neg h1, if_neg (by omega)]
  · rw [if_neg hi]
    by_cases ht : t = s
    · rw [if_pos ht, List.getElem?_eq_none (by omega)]
    · rw [if_neg ht, sec_get, if_neg hi]

/-- writes that a disk of n sectors may have -/
def OkW (n : Nat) (P : List Wr) : Prop := ∀ p ∈ P, p.1 < n ∧ p.2.length = 128

/-- all writes done, in order -/
def layAll (d : List UInt8) (P : List Wr) : List UInt8 := P.foldl (fun d p => lay d p.1 p.2) d

theorem layAll_nil (d : List UInt8) : layAll d [] = d := rfl
theorem layAll_snoc (d : List UInt8) (P : List Wr) (p : Wr) : layAll d (P ++ [p]) = lay (layAll d P) p.1 p.2 := by simp [layAll]

theorem layAll_length {n : Nat} {P : List Wr} : ∀ {d : List UInt8}, OkW n P → d.length = 128 * n → (layAll d P).length = 128 * n := by
  induction P with
  | nil => intro d _ h; exact h
  | cons p P ih =>
    intro d hok h
    have hp := hok p (by simp)
    exact ih (fun q hq => hok q (by simp [hq])) (by rw [lay_length (by omega)]; exact h)

theorem layAll_sec {n : Nat} {P : List Wr} {s : Nat} : ∀ {d : List UInt8}, OkW n P → d.length = 128 * n → (∀ p ∈ P, p.1 ≠ s) → sec (layAll d P) s = sec d s := by
  induction P with
  | nil => intro d _ _ _; rfl
  | cons p P ih =>
    intro d hok h hne
    have hp := hok p (by simp)
    show sec (layAll (lay d p.1 p.2) P) s = _
    rw [ih (fun q hq => hok q (by simp [hq])) (by rw [lay_length (by omega)]; exact h) (fun q hq => hne q (by simp [hq])), sec_lay hp.2 (by omega), if_neg (fun e => hne p (by simp) e.symm)]

/-- a crash: which writes are done, how many, what is durable -/
abbrev Cr := List Bool × Nat × List UInt8

def crStep (P : List Wr) (st : Cr) (i : Int) : Cr :=
  if i < 0 ∨ (P.length : Int) ≤ i ∨ st.1.getD i.toNat false = true then st
  else (st.1.set i.toNat true, st.2.1 + 1, lay st.2.2 (P.getD i.toNat (0, [])).1 (P.getD i.toNat (0, [])).2)

def crAll (P : List Wr) (d : List UInt8) (keep : List Int) : Cr := keep.foldl (crStep P) (List.replicate P.length false, 0, d)

theorem crAll_take (P : List Wr) (d : List UInt8) (keep : List Int) (j : Nat) (i : Int) (h : keep[j]? = some i) : crAll P d (keep.take (j + 1)) = crStep P (crAll P d (keep.take j)) i := by
  rw [List.take_add_one, h]
  simp [crAll]

theorem getD_mem {P : List Wr} {j : Nat} (h : j < P.length) : P.getD j (0, []) ∈ P := by
  rw [List.getD_eq_getElem?_getD, List.getElem?_eq_getElem h]
  exact List.getElem_mem h

/-- what a crash keeps -/
structure CrOk (n : Nat) (P : List Wr) (d : List UInt8) (st : Cr) : Prop where
  marks : st.1.length = P.length
  len : st.2.2.length = 128 * n
  secs : ∀ s, sec st.2.2 s = sec d s ∨ ∃ p ∈ P, p.1 = s ∧ sec st.2.2 s = p.2

theorem crOk_step {n : Nat} {P : List Wr} {d : List UInt8} {st : Cr} (hok : OkW n P) (h : CrOk n P d st) (i : Int) : CrOk n P d (crStep P st i) := by
  unfold crStep
  split
  · exact h
  · rename_i hc
    have hi : i.toNat < P.length := by omega
    have hm := getD_mem hi
    have hp := hok _ hm
    have hl := h.len
    refine ⟨by simp [h.marks], ?_, fun s => ?_⟩
    · show (lay _ _ _).length = _
      rw [lay_length (by omega)]; exact h.len
    · show sec (lay _ _ _) s = _ ∨ _
      rw [sec_lay hp.2 (by omega)]
      by_cases hs : s = (P.getD i.toNat (0, [])).1
      · right
        exact ⟨_, hm, hs.symm, if_pos hs⟩
      · rw [if_neg hs]
        rcases h.secs s with h1 | ⟨p, h1, h2, h3⟩
        · exact .inl h1
        · right
          exact ⟨p, h1, h2, h3⟩

theorem crOk_fold {n : Nat} {P : List Wr} {d : List UInt8} (hok : OkW n P) (keep : List Int) : ∀ {st : Cr}, CrOk n P d st → CrOk n P d (keep.foldl (crStep P) st) := by
  induction keep with
  | nil => intro st h; exact h
  | cons i r ih => intro st h; exact ih (crOk_step hok h i)

theorem crOk_all {n : Nat} {P : List Wr} {d : List UInt8} (hok : OkW n P) (hd : d.length = 128 * n) (keep : List Int) : CrOk n P d (crAll P d keep) :=
  crOk_fold hok keep ⟨by simp, hd, fun s => .inl rfl⟩

/-- the sectors of the writes that were lost, as the disk has them -/
def loseAll (d : List UInt8) (P : List Wr) (l : List UInt8) : List UInt8 := P.foldl (fun l p => lay l p.1 (sec d p.1)) l

theorem loseAll_take (d : List UInt8) (P : List Wr) (l : List UInt8) (j : Nat) (p : Wr) (h : P[j]? = some p) : loseAll d (P.take (j + 1)) l = lay (loseAll d (P.take j) l) p.1 (sec d p.1) := by
  rw [List.take_add_one, h]
  simp [loseAll]

theorem layAll_take (d : List UInt8) (P : List Wr) (j : Nat) (p : Wr) (h : P[j]? = some p) : layAll d (P.take (j + 1)) = lay (layAll d (P.take j)) p.1 p.2 := by
  rw [List.take_add_one, h]
  exact layAll_snoc _ _ _

theorem loseAll_length {n : Nat} {d : List UInt8} (hd : d.length = 128 * n) {P : List Wr} : ∀ {l : List UInt8}, OkW n P → l.length = 128 * n → (loseAll d P l).length = 128 * n := by
  induction P with
  | nil => intro l _ h; exact h
  | cons p P ih =>
    intro l hok h
    have hp := hok p (by simp)
    have hs : (sec d p.1).length = 128 := sec_length (by omega)
    exact ih (fun q hq => hok q (by simp [hq])) (by rw [lay_length (by omega)]; exact h)

theorem loseAll_sec {n : Nat} {d : List UInt8} (hd : d.length = 128 * n) {P : List Wr} {s : Nat} : ∀ {l : List UInt8}, OkW n P → l.length = 128 * n →
    ((∃ p ∈ P, p.1 = s) → sec (loseAll d P l) s = sec d s) ∧ (sec l s = sec d s → sec (loseAll d P l) s = sec d s) ∧ ((∀ p ∈ P, p.1 ≠ s) → sec (loseAll d P l) s = sec l s) := by
  induction P with
  | nil => intro l _ _; exact ⟨fun ⟨p, h, _⟩ => by simp at h, fun h => h, fun _ => rfl⟩
  | cons p P ih =>
    intro l hok h
    have hp := hok p (by simp)
    have hs : (sec d p.1).length = 128 := sec_length (by omega)
    have hll : (lay l p.1 (sec d p.1)).length = 128 * n := by rw [lay_length (by omega)]; exact h
    obtain ⟨h1, h2, h3⟩ := ih (l := lay l p.1 (sec d p.1)) (fun q hq => hok q (by simp [hq])) hll
    have hsl := sec_lay (l := l) (t := s) hs (s := p.1) (by omega)
    refine ⟨fun ⟨q, hq, hqs⟩ => ?_, fun he => ?_, fun hne => ?_⟩
    · rcases List.mem_cons.1 hq with rfl | hq
      · exact h2 (by rw [hsl, if_pos hqs.symm, hqs])
      · exact h1 ⟨q, hq, hqs⟩
    · refine h2 ?_
      rw [hsl]
      split
      · rename_i e; rw [e]
      · exact he
    · show sec (loseAll d P _) s = _
      rw [h3 (fun q hq => hne q (by simp [hq])), hsl, if_neg (fun e => hne p (by simp) e.symm)]

/-- P10.3: behind a crash each sector has what it had, or one of its writes -/
theorem crash_sec {n : Nat} {P : List Wr} {d : List UInt8} (hok : OkW n P) (hd : d.length = 128 * n) (keep : List Int) (s : Nat) :
    sec (loseAll (crAll P d keep).2.2 P (layAll d P)) s = sec d s ∨ ∃ p ∈ P, p.1 = s ∧ sec (loseAll (crAll P d keep).2.2 P (layAll d P)) s = p.2 := by
  have hc := crOk_all hok hd keep
  have hl := layAll_length hok hd
  obtain ⟨h1, -, h3⟩ := loseAll_sec (d := (crAll P d keep).2.2) hc.len (s := s) hok hl
  by_cases hx : ∃ p ∈ P, p.1 = s
  · rw [h1 hx]
    exact hc.secs s
  · have hne : ∀ p ∈ P, p.1 ≠ s := fun p hp e => hx ⟨p, hp, e⟩
    rw [h3 hne, layAll_sec hok hd hne]
    exact .inl rfl

/-- m sectors from s on -/
def secs (l : List UInt8) (s m : Nat) : List UInt8 := (l.drop (128 * s)).take (128 * m)

theorem secs_one (l : List UInt8) (s : Nat) : secs l s 1 = sec l s := rfl

theorem secs_length {l : List UInt8} {s m : Nat} (h : 128 * s + 128 * m ≤ l.length) : (secs l s m).length = 128 * m := by simp [secs]; omega

/-- the writes of m sectors of b, from s on -/
def chunks (s : Nat) (b : List UInt8) (m : Nat) : List Wr := (List.range m).map fun i => (s + i, sec b i)

theorem chunks_succ (s : Nat) (b : List UInt8) (m : Nat) : chunks s b (m + 1) = chunks s b m ++ [(s + m, sec b m)] := by simp [chunks, List.range_succ]

theorem chunks_length (s : Nat) (b : List UInt8) (m : Nat) : (chunks s b m).length = m := by simp [chunks]

theorem chunks_one (s : Nat) {b : List UInt8} (hb : b.length = 128) : chunks s b 1 = [(s, b)] := by
  have : sec b 0 = b := by unfold sec; rw [Nat.mul_zero, List.drop_zero, List.take_of_length_le (by omega)]
  simp [chunks, this]

theorem chunks_ok {n s : Nat} {b : List UInt8} {m : Nat} (h : s + m ≤ n) (hb : 128 * m ≤ b.length) : OkW n (chunks s b m) := by
  intro p hp
  obtain ⟨i, hi, rfl⟩ := List.mem_map.1 hp
  have hi' : i < m := by simpa using hi
  exact ⟨by show s + i < n; omega, sec_length (by omega)⟩

/-- sectors all the same: the same bytes -/
theorem eq_of_secs {n : Nat} {a b : List UInt8} (ha : a.length = 128 * n) (hb : b.length = 128 * n) (h : ∀ t, t < n → sec a t = sec b t) : a = b := by
  apply List.ext_getElem?
  intro i
  by_cases hi : i < 128 * n
  · have h1 := congrArg (fun l => l[i % 128]?) (h (i / 128) (by omega))
    simp only [sec_get] at h1
    rw [if_pos (by omega), if_pos (by omega), show 128 * (i / 128) + i % 128 = i by omega] at h1
    exact h1
  · rw [List.getElem?_eq_none (by omega), List.getElem?_eq_none (by omega)]

theorem sec_layN {l b : List UInt8} {s m t : Nat} (hb : b.length = 128 * m) (h : 128 * s + 128 * m ≤ l.length) : sec (lay l s b) t = if s ≤ t ∧ t < s + m then sec b (t - s) else sec l t := by
  apply List.ext_getElem?
  intro i
  rw [sec_get]
  by_cases hi : i < 128
  · rw [if_pos hi, lay_get (by omega)]
    by_cases ht : s ≤ t ∧ t < s + m
    · rw [if_pos ht, if_neg (by omega), if_pos (by omega), sec_get, if_pos hi]
      congr 1
      omega
    · rw [if_neg ht, sec_get, if_pos hi]
      by_cases h1 : 128 * t + i < 128 * s
      · rw [if_pos h1]
      · rw [if_neg h1, if_neg (by omega)]
  · rw [if_neg hi]
    split
    · rw [sec_get, if_neg hi]
    · rw [sec_get, if_neg hi]

theorem sec_chunks {n s : Nat} {b : List UInt8} {l : List UInt8} (hl : l.length = 128 * n) : ∀ {m : Nat}, s + m ≤ n → 128 * m ≤ b.length → ∀ t, sec (layAll l (chunks s b m)) t = if s ≤ t ∧ t < s + m then sec b (t - s) else sec l t := by
  intro m
  induction m with
  | zero => intro _ _ t; rw [if_neg (by omega)]; rfl
  | succ m ih =>
    intro h hb t
    have hlen := layAll_length (n := n) (chunks_ok (n := n) (s := s) (b := b) (m := m) (by omega) (by omega)) hl
    rw [chunks_succ, layAll_snoc, sec_lay (sec_length (by omega)) (by show 128 * (s + m) + 128 ≤ _; omega), ih (by omega) (by omega) t]
    by_cases e : t = s + m
    · rw [if_pos e, if_pos (by omega), show t - s = m by omega]
    · rw [if_neg e]
      by_cases h1 : s ≤ t ∧ t < s + m
      · rw [if_pos h1, if_pos (by omega)]
      · rw [if_neg h1, if_neg (by omega)]

/-- sector by sector, or at once -/
theorem layAll_chunks {n s m : Nat} {b l : List UInt8} (hl : l.length = 128 * n) (h : s + m ≤ n) (hb : b.length = 128 * m) : layAll l (chunks s b m) = lay l s b := by
  refine eq_of_secs (n := n) (layAll_length (chunks_ok h (by omega)) hl) (by rw [lay_length (by omega)]; exact hl) fun t _ => ?_
  rw [sec_chunks hl h (by omega), sec_layN hb (by omega)]

theorem layAll_append (d : List UInt8) (P Q : List Wr) : layAll d (P ++ Q) = layAll (layAll d P) Q := by simp [layAll]

/-- the calls that are left, behind one -/
def nextQ (q : Int) : Int := if 0 < q then q - 1 else q

end Go.Proofs.Ytnekcdpfphgpbaa

namespace Go.Proofs.Ytnekcdpfphgpbaa
set_option linter.unusedVariables false
set_option maxRecDepth 100000
set_option linter.unusedSimpArgs false
open Go.RowKit

theorem infoB10 : (Try.prog.info? 5).map (fun i => (i.zero, i.size, i.bytes)) = some (some (.int .u8 0), 1, 1) := by kernel_rfl

/-- block g holds the bytes l from its head on -/
def RowB (w : World) (g : Nat) (l : List UInt8) : Prop := ∃ cs : List Value, w.heap[g]? = some (.cells (l.map bv ++ cs).toArray 5 (0, 0))

theorem RowB.lt {w : World} {g : Nat} {l : List UInt8} (h : RowB w g l) : g < w.heap.size := by obtain ⟨cs, h⟩ := h; exact lt_of_block h

theorem RowB.same {w w' : World} {g : Nat} {l : List UInt8} (h : RowB w g l) (e : w'.heap[g]? = w.heap[g]?) : RowB w' g l := by obtain ⟨cs, h⟩ := h; exact ⟨cs, e.trans h⟩

/-- a row as a slice of all its bytes -/
theorem RowB.rd {w : World} {g : Nat} {l : List UInt8} (h : RowB w g l) {c : Nat} (hl : l.length ≤ c) (hc : c ≤ maxLen) : Rd w (.slice (some ⟨g, 0, none⟩) l.length c) l := by
  obtain ⟨cs, hg⟩ := h
  refine ⟨_, _, _, rfl, rfl, hl, hc, (fun h => by cases h), fun ad had i u hu => ?_⟩
  cases had
  have hi : i < l.length := (List.getElem?_eq_some_iff.1 hu).1
  rw [Addr.add_mid, Nat.zero_add, cell_of_row _ _ _ _ _ _ hg, List.getElem?_toArray, List.getElem?_append_left (by rw [List.length_map]; exact hi), List.getElem?_map, hu]
  rfl

/-- one of its sectors -/
theorem RowB.rdSec {w : World} {g : Nat} {l : List UInt8} (h : RowB w g l) {s c : Nat} (hs : 128 * s + 128 ≤ l.length) (hl : 128 ≤ c) (hc : c ≤ maxLen) : Rd w (.slice (some ⟨g, 128 * s, none⟩) 128 c) (sec l s) := by
  obtain ⟨cs, hg⟩ := h
  refine ⟨_, _, _, rfl, sec_length hs, hl, hc, (fun h => by cases h), fun ad had i u hu => ?_⟩
  cases had
  rw [sec_get] at hu
  split at hu
  · rename_i hi
    rw [Addr.add_mid, cell_of_row _ _ _ _ _ _ hg, List.getElem?_toArray, List.getElem?_append_left (by rw [List.length_map]; omega), List.getElem?_map, hu]
    rfl
  · cases hu

/-- m sectors of it -/
theorem RowB.rdSecs {w : World} {g : Nat} {l : List UInt8} (h : RowB w g l) {s m c : Nat} (hsl : (secs l s m).length = 128 * m) (hs : 128 * s + 128 * m ≤ l.length) (hl : 128 * m ≤ c) (hc : c ≤ maxLen) : Rd w (.slice (some ⟨g, 128 * s, none⟩) (128 * m) c) (secs l s m) := by
  obtain ⟨cs, hg⟩ := h
  refine ⟨_, _, _, rfl, hsl, hl, hc, (fun h => by cases h), fun ad had i u hu => ?_⟩
  cases had
  unfold secs at hu
  rw [List.getElem?_take] at hu
  split at hu
  · rename_i hi
    rw [List.getElem?_drop] at hu
    rw [Addr.add_mid, cell_of_row _ _ _ _ _ _ hg, List.getElem?_toArray, List.getElem?_append_left (by rw [List.length_map]; omega), List.getElem?_map, hu]
    rfl
  · cases hu

/-- copy(b[128*s:128*s+128], x) of 128 bytes -/
theorem run_copy_sec {w : World} {g : Nat} {l b : List UInt8} {s cd cs : Nat} {a : Option Addr} (hg : RowB w g l) (hs : 128 * s + 128 ≤ l.length) (hb : b.length = 128) (hx : Rd w (.slice a 128 cs) b) :
    ∃ w', (Builtin.copy_ #[37, 37] 3 #[.slice (some ⟨g, 128 * s, none⟩) 128 cd, .slice a 128 cs]).run Try.prog w = .ok (.int .i64 128) w' ∧ RowB w' g (lay l s b) ∧ Only (fun k => k = g) w w' := by
  obtain ⟨sp, hg⟩ := hg
  obtain ⟨a', n', c', e, h1, h2, h3, h4, h5⟩ := hx
  cases e
  cases a with
  | none => have := (h4 rfl).1; omega
  | some ad =>
    have hr := run_copy_row (P := Try.prog) w 37 37 3 5 g (128 * s) 128 cd ad 128 cs _ _ (b.map bv) Try.underlying37 (by kernel_rfl) hg (by rw [List.length_map, hb]; rfl)
      (fun j v hj => by
        rw [List.getElem?_map] at hj
        cases hbb : b[j]? with
        | none => rw [hbb] at hj; cases hj
        | some x => rw [hbb] at hj; cases hj; exact h5 ad rfl j x hbb)
      (by simp; omega) (oneCell_bv b)
    rw [List.length_map, hb] at hr
    refine ⟨_, hr, ⟨sp, ?_⟩, ⟨rfl, rfl, rfl, by simp, fun k _ hk => setRow_other w g k _ hk⟩⟩
    rw [setRow_heap _ _ _ _ _ _ hg]
    congr 3
    simp only [List.toList_toArray]
    unfold lay
    rw [List.map_append, List.map_append, List.map_take, List.map_drop, hb, List.take_append_of_le_length (by rw [List.length_map]; omega), List.drop_append_of_le_length (by rw [List.length_map]; omega)]
    simp

/-- copy(b[128*s:128*s+len(x)], x) -/
theorem run_copy_any {w : World} {g : Nat} {l b : List UInt8} {s cd cs m : Nat} {a : Option Addr} (hg : RowB w g l) (hs : 128 * s + m ≤ l.length) (hb : b.length = m) (hm : 0 < m) (hx : Rd w (.slice a m cs) b) :
    ∃ w', (Builtin.copy_ #[37, 37] 3 #[.slice (some ⟨g, 128 * s, none⟩) m cd, .slice a m cs]).run Try.prog w = .ok (.int .i64 (m : Int)) w' ∧ RowB w' g (lay l s b) ∧ Only (fun k => k = g) w w' := by
  obtain ⟨sp, hg⟩ := hg
  obtain ⟨a', n', c', e, h1, h2, h3, h4, h5⟩ := hx
  cases e
  cases a with
  | none => have := (h4 rfl).1; omega
  | some ad =>
    have hr := run_copy_row (P := Try.prog) w 37 37 3 5 g (128 * s) m cd ad m cs _ _ (b.map bv) Try.underlying37 (by kernel_rfl) hg (by rw [List.length_map, hb]; exact (Nat.min_self m).symm)
      (fun j v hj => by
        rw [List.getElem?_map] at hj
        cases hbb : b[j]? with
        | none => rw [hbb] at hj; cases hj
        | some x => rw [hbb] at hj; cases hj; exact h5 ad rfl j x hbb)
      (by simp; omega) (oneCell_bv b)
    rw [List.length_map, hb] at hr
    refine ⟨_, hr, ⟨sp, ?_⟩, ⟨rfl, rfl, rfl, by simp, fun k _ hk => setRow_other w g k _ hk⟩⟩
    rw [setRow_heap _ _ _ _ _ _ hg]
    congr 3
    simp only [List.toList_toArray]
    unfold lay
    rw [List.map_append, List.map_append, List.map_take, List.map_drop, hb, List.take_append_of_le_length (by rw [List.length_map]; omega), List.drop_append_of_le_length (by rw [List.length_map]; omega)]
    simp

/-- sector j of an argument, as a range of cells -/
theorem rd_range {w : World} {gb ob n c : Nat} {b : List UInt8} (h : Rd w (.slice (some ⟨gb, ob, none⟩) n c) b) (j : Nat) : w.rangeAt gb (ob + 128 * j) ((sec b j).map bv) := by
  obtain ⟨a', n', c', e, h1, h2, h3, h4, h5⟩ := h
  cases e
  intro i v hv
  rw [List.getElem?_map, sec_get] at hv
  split at hv
  · cases hb : b[128 * j + i]? with
    | none => rw [hb] at hv; cases hv
    | some x =>
      rw [hb] at hv
      cases hv
      have := h5 _ rfl _ x hb
      rwa [Addr.add_mid, ← Nat.add_assoc] at this
  · cases hv

theorem range_same {w w' : World} {g o : Nat} {cs : List Value} (h : w.rangeAt g o cs) (e : w'.heap[g]? = w.heap[g]?) : w'.rangeAt g o cs := fun j v hv => by
  rw [World.cell?_of_block (w := w) (show w'.heap[g]? = w.heap[g]? from e)]
  exact h j v hv

/-- a write's cells -/
def wcells (p : Wr) : List Value := .int .i64 (p.1 : Int) :: p.2.map bv

theorem wcells_length {p : Wr} (h : p.2.length = 128) : (wcells p).length = 129 := by simp [wcells, h]

theorem wcells_one (p : Wr) : ∀ v ∈ wcells p, v.oneCell' = true := by
  intro v hv
  rcases List.mem_cons.1 hv with rfl | hv
  · rfl
  · exact oneCell_bv _ v hv

def pcells (P : List Wr) : List Value := P.flatMap wcells

theorem pcells_snoc (P : List Wr) (p : Wr) : pcells (P ++ [p]) = pcells P ++ wcells p := by simp [pcells]

theorem pcells_get {P : List Wr} {n : Nat} (hok : OkW n P) : ∀ {j : Nat} {p : Wr}, P[j]? = some p → ∀ i v, (wcells p)[i]? = some v → (pcells P)[j * 129 + i]? = some v := by
  induction P with
  | nil => intro j p h; simp at h
  | cons q P ih =>
    intro j p h i v hv
    have hq := wcells_length (hok q (by simp)).2
    show (wcells q ++ pcells P)[_]? = _
    cases j with
    | zero =>
      cases h
      rw [List.getElem?_append_left (by rw [Nat.zero_mul, Nat.zero_add]; exact (List.getElem?_eq_some_iff.1 hv).1), Nat.zero_mul, Nat.zero_add]
      exact hv
    | succ j =>
      have h' : P[j]? = some p := by simpa using h
      rw [List.getElem?_append_right (by omega), hq, show (j + 1) * 129 + i - 129 = j * 129 + i by omega]
      exact ih (fun q hq => hok q (by simp [hq])) h' i v hv

/-- The disk at block g: rows gd and gl, writes vp. -/
structure Dsk q (w : World) (n g gd gl cd cl : Nat) (vp : Value) (D L : List UInt8) (P : List Wr) : Prop where
  blk : w.heap[g]? = some (.cells #[.slice (some ⟨gd, 0, none⟩) (128 * n) cd, .slice (some ⟨gl, 0, none⟩) (128 * n) cl, vp, .int .i64 q] 67 (0, 0))
  rowD : RowB w gd D
  rowL : RowB w gl L
  lenD : D.length = 128 * n
  lenL : L.length = 128 * n
  capD : 128 * n ≤ cd ∧ cd ≤ maxLen
  capL : 128 * n ≤ cl ∧ cl ≤ maxLen
  pend : w.ownsRow 0 79 129 vp P.length (pcells P)
  ok : OkW n P
  ne : gd ≠ gl
  few : 1 ≤ n ∧ n ≤ 65536
  left : -9223372036854775808 ≤ q ∧ q ≤ 9223372036854775807

theorem own_ne10 {w : World} {base : Nat} {e t : TypeId} {size : Nat} {v : Value} {n : Nat} {xs : List Value} {p : Nat} {c : Array Value} (h : w.ownsRow base e size v n xs) (hp : w.heap[p]? = some (.cells c t (0, 0))) (het : e ≠ t) : Go.Proofs.Ytnekcdpfphgpbaa.blk v ≠ some p := by
  intro e'
  rcases h.2 with ⟨rfl, _⟩ | ⟨q, cap, cur, rfl, _, hq, _⟩
  · simp [Go.Proofs.Ytnekcdpfphgpbaa.blk] at e'
  · simp [Go.Proofs.Ytnekcdpfphgpbaa.blk] at e'; subst e'; rw [hp] at hq; simp at hq; exact het hq.2.symm

section
variable {q : Int} {w : World} {n g gd gl cd cl : Nat} {vp : Value} {D L : List UInt8} {P : List Wr}

theorem Dsk.cells (h : Dsk q w n g gd gl cd cl vp D L P) : w.cell? ⟨g, 0, none⟩ = some (.slice (some ⟨gd, 0, none⟩) (128 * n) cd) ∧ w.cell? ⟨g, 1, none⟩ = some (.slice (some ⟨gl, 0, none⟩) (128 * n) cl) ∧ w.cell? ⟨g, 2, none⟩ = some vp ∧ w.cell? ⟨g, 3, none⟩ = some (.int .i64 q) :=
  ⟨by rw [cell_of_row w g 0 _ _ _ h.blk]; rfl, by rw [cell_of_row w g 1 _ _ _ h.blk]; rfl, by rw [cell_of_row w g 2 _ _ _ h.blk]; rfl, by rw [cell_of_row w g 3 _ _ _ h.blk]; rfl⟩

theorem Dsk.free (h : Dsk q w n g gd gl cd cl vp D L P) (i : Nat) : w.frozen? ⟨g, i, none⟩ = false := frozen_of_row _ _ i _ _ h.blk

/-- nothing of a disk lies in another part of it -/
theorem Dsk.apart (h : Dsk q w n g gd gl cd cl vp D L P) : g ≠ gd ∧ g ≠ gl ∧ Go.Proofs.Ytnekcdpfphgpbaa.blk vp ≠ some g ∧ Go.Proofs.Ytnekcdpfphgpbaa.blk vp ≠ some gd ∧ Go.Proofs.Ytnekcdpfphgpbaa.blk vp ≠ some gl := by
  obtain ⟨c1, h1⟩ := h.rowD
  obtain ⟨c2, h2⟩ := h.rowL
  have hb := h.blk
  refine ⟨?_, ?_, own_ne10 h.pend hb (by decide), own_ne10 h.pend h1 (by decide), own_ne10 h.pend h2 (by decide)⟩
  · rintro rfl; rw [hb] at h1; simp at h1
  · rintro rfl; rw [hb] at h2; simp at h2

theorem own_same {w w' : World} {base : Nat} {e : TypeId} {size : Nat} {v : Value} {n : Nat} {xs : List Value} (h : w.ownsRow base e size v n xs) (hb : ∀ k, Go.Proofs.Ytnekcdpfphgpbaa.blk v = some k → k < w.heap.size → w'.heap[k]? = w.heap[k]?) : w'.ownsRow base e size v n xs := by
  refine ⟨h.1, ?_⟩
  rcases h.2 with h0 | ⟨g, cap, cur, rfl, hb1, e3, rest⟩
  · exact .inl h0
  · exact .inr ⟨g, cap, cur, rfl, hb1, (hb g rfl (lt_of_block e3)).trans e3, rest⟩

/-- a disk none of whose blocks was touched -/
theorem Dsk.only {F : Nat → Prop} {w' : World} (h : Dsk q w n g gd gl cd cl vp D L P) (ho : Only F w w') (h1 : ¬ F g) (h2 : ¬ F gd) (h3 : ¬ F gl) (h4 : ∀ k, Go.Proofs.Ytnekcdpfphgpbaa.blk vp = some k → ¬ F k) : Dsk q w' n g gd gl cd cl vp D L P :=
  ⟨(ho.block _ (lt_of_block h.blk) h1).trans h.blk, h.rowD.same (ho.block _ h.rowD.lt h2), h.rowL.same (ho.block _ h.rowL.lt h3), h.lenD, h.lenL, h.capD, h.capL,
    own_same h.pend (fun k hk hlt => ho.block _ hlt (h4 k hk)), h.ok, h.ne, h.few, h.left⟩

theorem Dsk.new {w' : World} (h : Dsk q w n g gd gl cd cl vp D L P) (ho : New w w') : Dsk q w' n g gd gl cd cl vp D L P :=
  h.only (ho.only (F := fun _ => False)) (fun f => f) (fun f => f) (fun f => f) (fun _ _ f => f)

theorem Dsk.drew (h : Dsk q w n g gd gl cd cl vp D L P) : Dsk q w.drew n g gd gl cd cl vp D L P := h.new ((Below.refl _ _).drew)

/-- the durable row is another one -/
theorem Dsk.setD {w' : World} {D' : List UInt8} (h : Dsk q w n g gd gl cd cl vp D L P) (ho : Only (fun k => k = gd) w w') (hr : RowB w' gd D') (hl : D'.length = 128 * n) : Dsk q w' n g gd gl cd cl vp D' L P := by
  obtain ⟨h1, h2, h3, h4, h5⟩ := h.apart
  exact ⟨(ho.block _ (lt_of_block h.blk) h1).trans h.blk, hr, h.rowL.same (ho.block _ h.rowL.lt (fun e => h.ne e.symm)), hl, h.lenL, h.capD, h.capL,
    own_same h.pend (fun k hk hlt => ho.block _ hlt (fun e => h4 (by rw [hk, e]))), h.ok, h.ne, h.few, h.left⟩

theorem Dsk.setL {w' : World} {L' : List UInt8} (h : Dsk q w n g gd gl cd cl vp D L P) (ho : Only (fun k => k = gl) w w') (hr : RowB w' gl L') (hl : L'.length = 128 * n) : Dsk q w' n g gd gl cd cl vp D L' P := by
  obtain ⟨h1, h2, h3, h4, h5⟩ := h.apart
  exact ⟨(ho.block _ (lt_of_block h.blk) h2).trans h.blk, h.rowD.same (ho.block _ h.rowD.lt h.ne), hr, h.lenD, hl, h.capD, h.capL,
    own_same h.pend (fun k hk hlt => ho.block _ hlt (fun e => h5 (by rw [hk, e]))), h.ok, h.ne, h.few, h.left⟩

/-- no write waits any more -/
theorem Dsk.setNil (h : Dsk q w n g gd gl cd cl vp D L P) : Dsk q (w.setCell ⟨g, 2, none⟩ (.slice none 0 0)) n g gd gl cd cl (.slice none 0 0) D L [] := by
  obtain ⟨h1, h2, h3, h4, h5⟩ := h.apart
  exact ⟨by rw [heap_setCell_same _ _ _ _ _ _ h.blk]; rfl, h.rowD.same (heap_setCell_other _ _ _ _ (fun e => h1 e.symm)), h.rowL.same (heap_setCell_other _ _ _ _ (fun e => h2 e.symm)), h.lenD, h.lenL, h.capD, h.capL,
    World.ownsRow_nil _ _ _ _, (fun p hp => by simp at hp), h.ne, h.few, h.left⟩

theorem Dsk.setLeft (h : Dsk q w n g gd gl cd cl vp D L P) (r : Int) (hr : -9223372036854775808 ≤ r ∧ r ≤ 9223372036854775807) : Dsk r (w.setCell ⟨g, 3, none⟩ (.int .i64 r)) n g gd gl cd cl vp D L P := by
  obtain ⟨h1, h2, h3, h4, h5⟩ := h.apart
  exact ⟨by rw [heap_setCell_same _ _ _ _ _ _ h.blk]; rfl, h.rowD.same (heap_setCell_other _ _ _ _ (fun e => h1 e.symm)), h.rowL.same (heap_setCell_other _ _ _ _ (fun e => h2 e.symm)), h.lenD, h.lenL, h.capD, h.capL,
    own_same h.pend (fun k hk hlt => heap_setCell_other _ _ _ _ (fun e => h3 (by rw [hk, e]))), h.ok, h.ne, h.few, hr⟩

/-- one write more waits: behind append's world w' -/
theorem Dsk.setPend {w' : World} {vp' : Value} {p : Wr} (h : Dsk q w n g gd gl cd cl vp D L P) (ho : Only (fun k => Go.Proofs.Ytnekcdpfphgpbaa.blk vp = some k) w w') (hown : w'.ownsRow 0 79 129 vp' (P.length + 1) (pcells P ++ wcells p))
    (hp : p.1 < n ∧ p.2.length = 128) (hne : Go.Proofs.Ytnekcdpfphgpbaa.blk vp' = Go.Proofs.Ytnekcdpfphgpbaa.blk vp ∨ ∀ k, Go.Proofs.Ytnekcdpfphgpbaa.blk vp' = some k → w.heap.size ≤ k) : Dsk q (w'.setCell ⟨g, 2, none⟩ vp') n g gd gl cd cl vp' D L (P ++ [p]) := by
  obtain ⟨h1, h2, h3, h4, h5⟩ := h.apart
  have hb := (ho.block _ (lt_of_block h.blk) h3).trans h.blk
  have hv : Go.Proofs.Ytnekcdpfphgpbaa.blk vp' ≠ some g := by
    rcases hne with e | e
    · rw [e]; exact h3
    · intro e'; have := e _ e'; have := lt_of_block h.blk; omega
  refine ⟨by rw [heap_setCell_same _ _ _ _ _ _ hb]; rfl, ?_, ?_, h.lenD, h.lenL, h.capD, h.capL, ?_, ?_, h.ne, h.few, h.left⟩
  · exact (h.rowD.same (ho.block _ h.rowD.lt h4)).same (heap_setCell_other _ _ _ _ (fun e => h1 e.symm))
  · exact (h.rowL.same (ho.block _ h.rowL.lt h5)).same (heap_setCell_other _ _ _ _ (fun e => h2 e.symm))
  · rw [pcells_snoc, List.length_append, List.length_singleton]
    exact own_same hown (fun k hk hlt => heap_setCell_other _ _ _ _ (fun e => hv (by rw [hk, e])))
  · intro q hq
    rcases List.mem_append.1 hq with hq | hq
    · exact h.ok q hq
    · obtain rfl := List.mem_singleton.1 hq; exact hp

/-- the row of the writes: write j's cells -/
theorem Dsk.at (h : Dsk q w n g gd gl cd cl vp D L P) {j : Nat} {p : Wr} (hj : P[j]? = some p) : ∃ b c, vp = .slice (some ⟨b, 0, none⟩) P.length c ∧ w.rangeAt b (j * 129) (wcells p) := by
  have hlt : j < P.length := (List.getElem?_eq_some_iff.1 hj).1
  rcases h.pend.2 with ⟨-, h0⟩ | ⟨b, cap, cur, e, -, hg, -, -, -, -⟩
  · omega
  · refine ⟨b, cap, e, fun i v hv => ?_⟩
    have := h.pend.cells (g := b) (by rw [e]; rfl) _ v (pcells_get h.ok hj i v hv)
    rwa [Addr.add_mid, Nat.zero_add] at this

theorem Dsk.lenP (h : Dsk q w n g gd gl cd cl vp D L P) : P.length ≤ 9223372036854775807 := by
  rcases h.pend.2 with ⟨e, h0⟩ | ⟨b, cap, cur, e, -, -, h1, h2, -⟩
  · omega
  · unfold maxLen at h2; omega

theorem Dsk.vp_slice (h : Dsk q w n g gd gl cd cl vp D L P) : ∃ a c, vp = .slice a P.length c := by
  rcases h.pend.2 with ⟨e, h0⟩ | ⟨b, cap, cur, e, -⟩
  · exact ⟨none, 0, by rw [e, h0]⟩
  · exact ⟨_, _, e⟩
end

/-- The disk behind the pointer to block g; F: where its blocks may lie. -/
def Dvc (q : Int) (w : World) (n g : Nat) (F : Nat → Prop) (D L : List UInt8) (P : List Wr) : Prop :=
  ∃ gd gl cd cl vp, Dsk q w n g gd gl cd cl vp D L P ∧ F g ∧ F gd ∧ F gl ∧ ∀ k, blk vp = some k → F k

/-- what a call on a disk leaves -/
def DvcTo (q : Int) (w : World) (n g : Nat) (F : Nat → Prop) (D L : List UInt8) (P : List Wr) (w' : World) : Prop :=
  Dvc q w' n g (fun k => F k ∨ w.heap.size ≤ k) D L P ∧ Only F w w'

/-- the same, with no limit of calls -/
abbrev Dev (w : World) (n g : Nat) (F : Nat → Prop) (D L : List UInt8) (P : List Wr) : Prop := Dvc (-1) w n g F D L P
abbrev DevTo (w : World) (n g : Nat) (F : Nat → Prop) (D L : List UInt8) (P : List Wr) (w' : World) : Prop := DvcTo (-1) w n g F D L P w'

section
variable {q : Int} {w : World} {n g : Nat} {F : Nat → Prop} {D L : List UInt8} {P : List Wr}

theorem Dvc.narrow {G : Nat → Prop} (h : Dvc q w n g F D L P) (hG : ∀ k, k < w.heap.size → F k → G k) : Dvc q w n g G D L P := by
  obtain ⟨gd, gl, cd, cl, vp, h0, h1, h2, h3, h4⟩ := h
  refine ⟨gd, gl, cd, cl, vp, h0, hG _ (lt_of_block h0.blk) h1, hG _ h0.rowD.lt h2, hG _ h0.rowL.lt h3, fun k hk => ?_⟩
  rcases h0.pend.2 with ⟨e, -⟩ | ⟨b, cap, cur, e, -, hg, -⟩
  · rw [e] at hk; simp [blk] at hk
  · have hk' := hk
    rw [e] at hk'; simp [blk] at hk'; subst hk'
    exact hG _ (lt_of_block hg) (h4 _ hk)

theorem Dvc.only {G : Nat → Prop} {w' : World} (h : Dvc q w n g F D L P) (ho : Only G w w') (hG : ∀ k, F k → ¬ G k) : Dvc q w' n g F D L P := by
  obtain ⟨gd, gl, cd, cl, vp, h0, h1, h2, h3, h4⟩ := h
  exact ⟨gd, gl, cd, cl, vp, h0.only ho (hG _ h1) (hG _ h2) (hG _ h3) (fun k hk => hG _ (h4 k hk)), h1, h2, h3, h4⟩

theorem Dvc.new {w' : World} (h : Dvc q w n g F D L P) (ho : New w w') : Dvc q w' n g F D L P := by
  obtain ⟨gd, gl, cd, cl, vp, h0, h1⟩ := h
  exact ⟨gd, gl, cd, cl, vp, h0.new ho, h1⟩
end

end Go.Proofs.Ytnekcdpfphgpbaa

namespace Go.Proofs.Ytnekcdpfphgpbaa
set_option linter.unusedVariables false
set_option maxRecDepth 100000
set_option linter.unusedSimpArgs false
open Go.RowKit

set_option maxHeartbeats 400000 in
theorem diskSectors (w : World) (a : Option Addr) (m c : Nat) (hm : m ≤ 9223372036854775807) :
    Calls Try.prog 38 #[.slice a m c] w fun e w' => e = .returned (.tuple #[.int .i64 ((m / 128 : Nat) : Int), .bool (decide (m % 128 = 0))]) ∧ w = w' := by
  have h1 : (m : Int).tdiv 128 = ((m / 128 : Nat) : Int) := by rw [Int.tdiv_eq_ediv_of_nonneg (by omega)]; omega
  have h2 : (m : Int) % 128 = ((m % 128 : Nat) : Int) := by omega
  have h3 : (((m % 128 : Nat) : Int) == 0) = decide (m % 128 = 0) := by
    by_cases h : m % 128 = 0
    · simp [h]
    · simp [h]; omega
  have h4 : IntKind.i64.wrap ((m / 128 : Nat) : Int) = ((m / 128 : Nat) : Int) := IntWalk.i64_in _ (by omega)
  generalize decide (m % 128 = 0) = z at *
  generalize m / 128 = q at *
  generalize m % 128 = r at *
  go_enter Try.func38, Try.ntmps38
  go_wp2
  go_ret2
  exact ⟨rfl, rfl⟩

set_option maxHeartbeats 400000 in
theorem diskAllowed (w : World) (n : Int) :
    Calls Try.prog 21 #[.int .i64 n] w fun e w' => e = .returned (.bool (decide (1 ≤ n ∧ n ≤ 65536))) ∧ w = w' := by
  by_cases h1 : 1 ≤ n
  · by_cases h2 : n ≤ 65536
    · have d : decide (1 ≤ n ∧ n ≤ 65536) = true := by simp [h1, h2]
      rw [d]
      have d1 : decide (1 ≤ n) = true := by simp [h1]
      have d2 : decide (n ≤ 65536) = true := by simp [h2]
      clear d
      go_enter Try.func21, Try.ntmps21
      go_wp2
      go_ret
      exact ⟨rfl, rfl⟩
    · have d : decide (1 ≤ n ∧ n ≤ 65536) = false := by simp [h1, h2]
      rw [d]
      have d1 : decide (1 ≤ n) = true := by simp [h1]
      have d2 : decide (n ≤ 65536) = false := by simp [h2]
      clear d
      go_enter Try.func21, Try.ntmps21
      go_wp2
      go_ret
      exact ⟨rfl, rfl⟩
  · have d : decide (1 ≤ n ∧ n ≤ 65536) = false := by simp [h1]
    rw [d]
    have d1 : decide (1 ≤ n) = false := by simp [h1]
    clear d
    go_enter Try.func21, Try.ntmps21
    go_wp2
    go_ret
    exact ⟨rfl, rfl⟩

/-- piece(b, s, 1) -/
theorem diskPiece (w : World) (b n c s : Nat) (h : 128 * s + 128 ≤ c) (hs : s ≤ 1000000) :
    Calls Try.prog 37 #[.slice (some ⟨b, 0, none⟩) n c, .int .i64 (s : Int), .int .i64 1] w fun e w' => e = .returned (.slice (some ⟨b, 128 * s, none⟩) 128 (c - 128 * s)) ∧ w = w' := by
  have h1 : (s : Int) * 128 = ((128 * s : Nat) : Int) := by omega
  have h2 : ((s : Int) + 1) * 128 = ((128 * s + 128 : Nat) : Int) := by omega
  have hr : ∀ wx : World, (Instr.slice 37 (.slice (some ⟨b, 0, none⟩) n c) (some (.int .i64 ((128 * s : Nat) : Int))) (some (.int .i64 ((128 * s + 128 : Nat) : Int))) none).run Try.prog wx = .ok (.slice (some ⟨b, 128 * s, none⟩) 128 (c - 128 * s)) wx := by
    intro wx
    rw [run_slice_lh wx 37 (some ⟨b, 0, none⟩) n c Try.underlying37 .i64 .i64 _ _ (by omega) (by omega) (by omega)]
    have hz : (sizeOf (Try.prog.elem 37)).run Try.prog wx = .ok 1 wx := by kernel_rfl
    rw [hz]
    simp only [Result.andThen_ok, sliced, Int.toNat_natCast, Nat.mul_one]
    rw [if_neg (by omega), show 128 * s + 128 - 128 * s = 128 by omega, Option.map_some, Addr.add_mid, Nat.zero_add]
  generalize (128 * s + 128 : Nat) = q at *
  generalize hp : (128 * s : Nat) = p at *
  clear hp
  go_enter Try.func37, Try.ntmps37
  go_wp2
  go_ret
  exact ⟨rfl, rfl⟩

set_option maxHeartbeats 400000 in
theorem diskSize {q : Int} {w : World} {n g gd gl cd cl : Nat} {vp : Value} {D L : List UInt8} {P : List Wr} (h : Dsk q w n g gd gl cd cl vp D L P) :
    Calls Try.prog 36 #[.pointer (some ⟨g, 0, none⟩)] w fun e w' => e = .returned (.int .i64 (n : Int)) ∧ w = w' := by
  obtain ⟨c0, -, -, -⟩ := h.cells
  have hf := h.few
  have h1 : ((128 * n : Nat) : Int).tdiv 128 = (n : Int) := by rw [Int.tdiv_eq_ediv_of_nonneg (by omega)]; omega
  have h4 : IntKind.i64.wrap (n : Int) = (n : Int) := IntWalk.i64_in _ (by omega)
  clear h
  generalize 128 * n = m at *
  go_enter Try.func36, Try.ntmps36
  go_wp2
  go_ret
  exact ⟨rfl, rfl⟩


set_option maxHeartbeats 400000 in
theorem diskCall {q : Int} {w : World} {n g gd gl cd cl : Nat} {vp : Value} {D L : List UInt8} {P : List Wr} (h : Dsk q w n g gd gl cd cl vp D L P) :
    Calls Try.prog 55 #[.pointer (some ⟨g, 0, none⟩)] w fun e w' => e = .returned (.bool (decide (q ≠ 0))) ∧ Dsk (nextQ q) w' n g gd gl cd cl vp D L P ∧ Only (fun k => k = g) w w' := by
  obtain ⟨-, -, -, c3⟩ := h.cells
  have z3 := h.free 3
  have hq := h.left
  have HD := Lib.hid h
  clear h
  by_cases h0 : q = 0
  · subst h0
    go_enter Try.func55, Try.ntmps55
    go_wp2
    go_ret
    exact ⟨rfl, HD.out, Only.refl _ _⟩
  · have d0 : (q == 0) = false := by simpa using h0
    rw [show decide (q ≠ 0) = true by simpa using h0]
    by_cases h1 : 0 < q
    · have d1 : decide (0 < q) = true := by simp [h1]
      have hn : nextQ q = q - 1 := by unfold nextQ; rw [if_pos h1]
      have HS := Lib.hid (HD.out.setLeft (q - 1) (by omega))
      rw [hn]
      clear hn h0
      go_enter Try.func55, Try.ntmps55
      go_wp2
      go_ret
      exact ⟨rfl, HS.out, (Only.refl (fun k => k = g) _).setCell (p := ⟨g, 3, none⟩) (fun _ => rfl) _⟩
    · have d1 : decide (0 < q) = false := by simp; omega
      have hn : nextQ q = q := by unfold nextQ; rw [if_neg h1]
      rw [hn]
      clear hn h0
      go_enter Try.func55, Try.ntmps55
      go_wp2
      go_ret
      exact ⟨rfl, HD.out, Only.refl _ _⟩

set_option maxHeartbeats 400000 in
theorem diskHasN {q : Int} {w : World} {n g gd gl cd cl : Nat} {vp : Value} {D L : List UInt8} {P : List Wr} (h : Dsk q w n g gd gl cd cl vp D L P) (a m : Int) (ha : a ≤ 9223372036854775807) :
    Calls Try.prog 54 #[.pointer (some ⟨g, 0, none⟩), .int .i64 a, .int .i64 m] w fun e w' => e = .returned (.bool (decide (0 ≤ a ∧ 0 ≤ m ∧ m ≤ (n : Int) - a))) ∧ w = w' := by
  have HS := Lib.hid (diskSize h)
  have hf := h.few
  clear h
  by_cases h1 : 0 ≤ a
  · have d1 : decide (0 ≤ a) = true := by simp [h1]
    by_cases h2 : 0 ≤ m
    · have d2 : decide (0 ≤ m) = true := by simp [h2]
      have e : decide (0 ≤ a ∧ 0 ≤ m ∧ m ≤ (n : Int) - a) = decide (m ≤ (n : Int) - a) := by simp [h1, h2]
      rw [e]
      clear e
      by_cases h3 : m ≤ (n : Int) - a
      · have d3 : decide (m ≤ (n : Int) - a) = true := by simp [h3]
        rw [d3]
        go_enter Try.func54, Try.ntmps54
        go_wp2_with fail
        refine HS.out.mono ?_
        rintro e w1 ⟨rfl, rfl⟩
        go_wp2
        go_ret
        exact ⟨rfl, rfl⟩
      · have d3 : decide (m ≤ (n : Int) - a) = false := by simpa using h3
        rw [d3]
        clear h3
        go_enter Try.func54, Try.ntmps54
        go_wp2_with fail
        refine HS.out.mono ?_
        rintro e w1 ⟨rfl, rfl⟩
        go_wp2
        go_ret
        exact ⟨rfl, rfl⟩
    · have d2 : decide (0 ≤ m) = false := by simp; omega
      have e : decide (0 ≤ a ∧ 0 ≤ m ∧ m ≤ (n : Int) - a) = false := by simp; omega
      rw [e]
      clear e
      go_enter Try.func54, Try.ntmps54
      go_wp2
      go_ret
      exact ⟨rfl, rfl⟩
  · have d1 : decide (0 ≤ a) = false := by simp; omega
    have e : decide (0 ≤ a ∧ 0 ≤ m ∧ m ≤ (n : Int) - a) = false := by simp; omega
    rw [e]
    clear e
    go_enter Try.func54, Try.ntmps54
    go_wp2
    go_ret
    exact ⟨rfl, rfl⟩

/-- where piece(b, s, m) begins -/
def pieceAt (b off c s : Nat) : Option Addr := if c = 128 * s then some ⟨b, off, none⟩ else some ⟨b, off + 128 * s, none⟩

theorem pieceAt_pos {b off c s m : Nat} (h : 128 * (s + m) ≤ c) (hm : 0 < m) : pieceAt b off c s = some ⟨b, off + 128 * s, none⟩ := by
  unfold pieceAt
  rw [if_neg (by omega)]

/-- piece(b, s, m) -/
theorem diskPieceN (w : World) (b off n c s m : Nat) (h : 128 * (s + m) ≤ c) (hs : s + m ≤ 1000000) :
    Calls Try.prog 37 #[.slice (some ⟨b, off, none⟩) n c, .int .i64 (s : Int), .int .i64 (m : Int)] w fun e w' => e = .returned (.slice (pieceAt b off c s) (128 * m) (c - 128 * s)) ∧ w = w' := by
  have h1 : (s : Int) * 128 = ((128 * s : Nat) : Int) := by omega
  have h2 : ((s : Int) + (m : Int)) * 128 = ((128 * s + 128 * m : Nat) : Int) := by omega
  have hr : ∀ wx : World, (Instr.slice 37 (.slice (some ⟨b, off, none⟩) n c) (some (.int .i64 ((128 * s : Nat) : Int))) (some (.int .i64 ((128 * s + 128 * m : Nat) : Int))) none).run Try.prog wx = .ok (.slice (pieceAt b off c s) (128 * m) (c - 128 * s)) wx := by
    intro wx
    rw [run_slice_lh wx 37 (some ⟨b, off, none⟩) n c Try.underlying37 .i64 .i64 _ _ (by omega) (by omega) (by omega)]
    have hz : (sizeOf (Try.prog.elem 37)).run Try.prog wx = .ok 1 wx := by kernel_rfl
    rw [hz]
    simp only [Result.andThen_ok, sliced, Int.toNat_natCast, Nat.mul_one]
    rw [show 128 * s + 128 * m - 128 * s = 128 * m by omega, Option.map_some, Addr.add_mid]
    rfl
  have h3 : 128 * s + 128 * m ≤ 128000000 := by omega
  generalize pieceAt b off c s = A at *
  generalize hq : (128 * s + 128 * m : Nat) = y at *
  generalize hp : (128 * s : Nat) = p at *
  generalize 128 * m = z at *
  go_enter Try.func37, Try.ntmps37
  go_wp2
  go_ret
  exact ⟨rfl, rfl⟩

set_option maxHeartbeats 400000 in
theorem diskHas {q : Int} {w : World} {n g gd gl cd cl : Nat} {vp : Value} {D L : List UInt8} {P : List Wr} (h : Dsk q w n g gd gl cd cl vp D L P) (s : Nat) (hs : s < n) :
    Calls Try.prog 54 #[.pointer (some ⟨g, 0, none⟩), .int .i64 (s : Int), .int .i64 1] w fun e w' => e = .returned (.bool true) ∧ w = w' := by
  have := diskHasN h (s : Int) 1 (by have := h.few; omega)
  rwa [show decide (0 ≤ (s : Int) ∧ 0 ≤ (1 : Int) ∧ (1 : Int) ≤ (n : Int) - (s : Int)) = true by simp; omega] at this

/-- a new copy: its row, its value -/
def CopyTo (w : World) (l : List UInt8) (e : Ending) (w' : World) : Prop :=
  ∃ g c, e = .returned (.slice (some ⟨g, 0, none⟩) l.length c) ∧ RowB w' g l ∧ l.length ≤ c ∧ c ≤ maxLen ∧ w.heap.size ≤ g ∧ New w w'

theorem row_of_own {w : World} {base : Nat} {v : Value} {l : List UInt8} (h : w.ownsRow base 5 1 v l.length (l.map bv)) (hl : l ≠ []) :
    ∃ g c, v = .slice (some ⟨g, 0, none⟩) l.length c ∧ RowB w g l ∧ l.length ≤ c ∧ c ≤ maxLen ∧ base ≤ g := by
  rcases h.2 with ⟨-, h0⟩ | ⟨g, cap, cur, e, hb, hg, hn, hm, hs, ht⟩
  · exact absurd (List.eq_nil_of_length_eq_zero h0) hl
  · refine ⟨g, cap, e, ⟨cur.toList.drop l.length, ?_⟩, hn, hm, hb⟩
    rw [hg]
    congr 2
    rw [← ht, Nat.mul_one, List.take_append_drop]

set_option maxHeartbeats 400000 in
theorem bytesClone (w : World) (v : Value) (l : List UInt8) (h : Rd w v l) (hl : l ≠ []) (hn : l.length ≤ 140737488355328) : Calls Try.prog 33 #[v] w (CopyTo w l) := by
  obtain ⟨i0, hi0, hz0, hz1, hz2⟩ := info_parts infoB10
  have HV := Lib.hid h
  have h' := h
  obtain ⟨a, n, c, rfl, h1, h2, h3, h4, h5⟩ := h'
  cases a with
  | none => exact absurd (List.eq_nil_of_length_eq_zero (by rw [h1]; exact (h4 rfl).1)) hl
  | some ad =>
    have N1 : New w (w.alloc (.cells #[] 5)) := (Below.refl _ _).alloc (Nat.le_refl _) _
    have HX := Lib.hid (HV.out.new N1)
    have HL := Lib.hid hl
    have HN := Lib.hid hn
    have he : ∀ wx : World, (binOp .eql 37 (.slice (some ad) n c) (.slice none 0 0)).run Try.prog wx = .ok (.bool false) wx := fun _ => rfl
    clear h h1 h2 h3 h4 h5 hl hn
    go_enter Try.func33, Try.ntmps33
    go_wp2_with (at_builtin; (refine wpList_append_copy rfl (.tmp 5) (.tmp 6) 37 rfl 5 i0 _ Try.underlying37 hi0 hz0 hz1 hz2 rfl _ rfl _ l rfl HX.out HN.out ?_))
    intro v' w' h6 h7 h8
    have H8 := Lib.hid (h8 HL.out)
    have H7 := Lib.hid h7
    clear h6 h7 h8
    go_wp2
    go_ret
    obtain ⟨g, c', rfl, h9, h10, h11, h12⟩ := row_of_own H8.out HL.out
    exact ⟨g, c', rfl, h9, h10, h11, Nat.le_trans (by simp) h12, New.trans N1 H7.out⟩

/-- bytes.Clone of any slice -/
def CloneTo (w : World) (l : List UInt8) (e : Ending) (w' : World) : Prop :=
  ∃ a c, e = .returned (.slice a l.length c) ∧ Rd w' (.slice a l.length c) l ∧ New w w' ∧ (l ≠ [] → ∃ g, blk (.slice a l.length c) = some g ∧ w.heap.size ≤ g)

set_option maxHeartbeats 400000 in
theorem bytesCloneAny (w : World) (v : Value) (l : List UInt8) (h : Rd w v l) (hn : l.length ≤ 140737488355328) : Calls Try.prog 33 #[v] w (CloneTo w l) := by
  by_cases hl : l = []
  · subst hl
    obtain ⟨i0, hi0, hz0, hz1, hz2⟩ := info_parts infoB10
    have HV := Lib.hid h
    obtain ⟨a, n, c, rfl, h1, h2, h3, h4, h5⟩ := h
    simp only [List.length_nil] at h1
    subst h1
    cases a with
    | none =>
      obtain rfl : c = 0 := (h4 rfl).2
      have he : ∀ wx : World, (binOp .eql 37 (.slice none 0 0) (.slice none 0 0)).run Try.prog wx = .ok (.bool true) wx := fun _ => rfl
      clear h5
      go_enter Try.func33, Try.ntmps33
      go_wp2
      go_ret
      exact ⟨none, 0, rfl, Rd.nil _, Below.refl _ _, fun h => absurd rfl h⟩
    | some ad =>
      have N1 : New w (w.alloc (.cells #[] 5)) := (Below.refl _ _).alloc (Nat.le_refl _) _
      have HX := Lib.hid (HV.out.new N1)
      have he : ∀ wx : World, (binOp .eql 37 (.slice (some ad) 0 c) (.slice none 0 0)).run Try.prog wx = .ok (.bool false) wx := fun _ => rfl
      clear h2 h3 h4 h5 hn
      go_enter Try.func33, Try.ntmps33
      go_wp2_with (at_builtin; (refine wpList_append_copy rfl (.tmp 5) (.tmp 6) 37 rfl 5 i0 _ Try.underlying37 hi0 hz0 hz1 hz2 rfl _ rfl _ [] rfl HX.out (by decide) ?_))
      intro v' w' h6 h7
      obtain ⟨av, nv, cv, rfl, hnv⟩ : ∃ a n c, v' = .slice a n c ∧ n = 0 := by
        obtain ⟨a, n, c, e, h, -⟩ := h6; exact ⟨a, n, c, e, by simpa using h.symm⟩
      subst hnv
      have H6 := Lib.hid h6
      have H7 := Lib.hid h7
      clear h6 h7
      go_wp2
      go_ret
      exact ⟨av, cv, rfl, H6.out, New.trans N1 H7.out, fun h => absurd rfl h⟩
  · refine (bytesClone w v l h hl hn).mono fun e w' hh => ?_
    obtain ⟨g, c, rfl, h1, h2, h3, h4, h5⟩ := hh
    exact ⟨_, c, rfl, h1.rd h2 h3, h5, fun _ => ⟨g, rfl, h4⟩⟩

theorem Dsk.rdL {q : Int} {w : World} {n g gd gl cd cl : Nat} {vp : Value} {D L : List UInt8} {P : List Wr} (h : Dsk q w n g gd gl cd cl vp D L P) : Rd w (.slice (some ⟨gl, 0, none⟩) (128 * n) cl) L := by
  have := h.rowL.rd (c := cl) (by rw [h.lenL]; exact h.capL.1) h.capL.2
  rwa [h.lenL] at this

set_option maxHeartbeats 400000 in
theorem diskImage {q : Int} {w : World} {n g gd gl cd cl : Nat} {vp : Value} {D L : List UInt8} {P : List Wr} (h : Dsk q w n g gd gl cd cl vp D L P) :
    Calls Try.prog 20 #[.pointer (some ⟨g, 0, none⟩)] w (CopyTo w L) := by
  obtain ⟨-, c1, -, -⟩ := h.cells
  have HC := Lib.hid (bytesClone w _ L h.rdL (by intro e; have h1 := h.few; have h2 := h.lenL; rw [e] at h2; simp at h2; omega) (by have := h.lenL; have := h.few; omega))
  clear h
  generalize 128 * n = m at *
  go_enter Try.func20, Try.ntmps20
  go_wp2_with fail
  refine HC.out.mono ?_
  rintro e w1 ⟨g1, k1, rfl, h1⟩
  have H1 := Lib.hid h1
  clear h1
  go_wp2
  go_ret
  exact ⟨g1, k1, rfl, H1.out⟩

end Go.Proofs.Ytnekcdpfphgpbaa

namespace Go.Proofs.Ytnekcdpfphgpbaa
set_option linter.unusedVariables false
set_option linter.unusedSimpArgs false
open Go.RowKit

/-- a new disk of n sectors -/
def NewDisk (w : World) (n : Nat) (l : List UInt8) (e : Ending) (w' : World) : Prop :=
  ∃ g, e = .returned (.tuple #[.pointer (some ⟨g, 0, none⟩), .int .i64 0]) ∧ Dev w' n g (fun k => w.heap.size ≤ k) l l [] ∧ New w w'

set_option maxRecDepth 100000 in
set_option maxHeartbeats 1000000 in
theorem diskLoad (w : World) (v : Value) (l : List UInt8) (n : Nat) (h : Rd w v l) (hl : l.length = 128 * n) (hn : 1 ≤ n ∧ n ≤ 65536) : Calls Try.prog 22 #[v] w (NewDisk w n l) := by
  have HV := Lib.hid h
  obtain ⟨a, m, c, rfl, h1, -⟩ := h
  obtain rfl : m = 128 * n := by omega
  have HS : Hid (∀ wx : World, Calls Try.prog 38 #[.slice a (128 * n) c] wx fun e w' => e = .returned (.tuple #[.int .i64 (n : Int), .bool true]) ∧ wx = w') := by
    refine Lib.hid (fun wx => ?_)
    have := diskSectors wx a (128 * n) c (by omega)
    rwa [show 128 * n / 128 = n by omega, show decide (128 * n % 128 = 0) = true by simp] at this
  have HA : Hid (∀ wx : World, Calls Try.prog 21 #[.int .i64 (n : Int)] wx fun e w' => e = .returned (.bool true) ∧ wx = w') := by
    refine Lib.hid (fun wx => ?_)
    have := diskAllowed wx (n : Int)
    rwa [show decide (1 ≤ (n : Int) ∧ (n : Int) ≤ 65536) = true by simp; omega] at this
  have HC : Hid (∀ wx : World, Rd wx (.slice a (128 * n) c) l → Calls Try.prog 33 #[.slice a (128 * n) c] wx (CopyTo wx l)) :=
    Lib.hid (fun wx hr => bytesClone wx _ l hr (by intro e; rw [e] at hl; simp at hl; omega) (by omega))
  have HL := Lib.hid hl
  have HN := Lib.hid hn
  clear hl hn h1
  generalize hq : 128 * n = q at *
  have HQ := Lib.hid hq
  clear hq
  go_enter Try.func22, Try.ntmps22
  go_wp2_with fail
  refine (HS.out w).mono ?_
  rintro e w1 ⟨rfl, rfl⟩
  go_wp2_with fail
  refine (HA.out w).mono ?_
  rintro e w1 ⟨rfl, rfl⟩
  clear HS HA
  go_wp2_with fail
  refine (HC.out w HV.out).mono ?_
  rintro e w1 ⟨g1, c1, rfl, r1, k1, m1, b1, N1⟩
  rw [HL.out] at k1 ⊢
  have R1 := Lib.hid r1
  have K1 := Lib.hid (And.intro k1 m1)
  clear r1 k1 m1
  go_wp2_with fail
  refine (HC.out w1 (HV.out.new N1)).mono ?_
  rintro e w2 ⟨g2, c2, rfl, r2, k2, m2, b2, N2⟩
  rw [HL.out] at k2 ⊢
  have R2 := Lib.hid r2
  have K2 := Lib.hid (And.intro k2 m2)
  have HN1 := Lib.hid N1
  have HN2 := Lib.hid N2
  have B1 := Lib.hid b1
  have B2 := Lib.hid b2
  clear r2 k2 m2 N1 N2 b1 b2 HC
  go_wp2
  go_ret2
  refine ⟨w2.heap.size, rfl, ?_, ?_⟩
  · have hlt1 := R1.out.lt
    have e1 := HN2.out.block _ hlt1
    have s1 := HN1.out.size
    have s2 := HN2.out.size
    have hb2 := B2.out
    have hq := HQ.out
    subst hq
    refine ⟨g1, g2, c1, c2, .slice none 0 0, ⟨?_, (R1.out.same e1).same (heap_alloc_old _ _ (by omega)), R2.out.same (heap_alloc_old _ _ R2.out.lt), HL.out, HL.out, K1.out, K2.out, World.ownsRow_nil _ _ _ _, (fun p hp => by simp at hp), ?_, HN.out, by decide⟩, ?_, B1.out, ?_, ?_⟩
    · exact heap_alloc_new _ _
    · omega
    · show w.heap.size ≤ w2.heap.size; omega
    · show w.heap.size ≤ g2; omega
    · intro k hk; simp [blk] at hk
  · exact (New.trans HN1.out HN2.out).alloc (by have := HN1.out.size; have := HN2.out.size; omega) _

set_option maxRecDepth 100000 in
set_option maxHeartbeats 400000 in
theorem diskLoadBad (w : World) (a : Option Addr) (m c : Nat) (hm : m ≤ 9223372036854775807) (hb : ¬ (m % 128 = 0 ∧ 1 ≤ m / 128 ∧ m / 128 ≤ 65536)) :
    Calls Try.prog 22 #[.slice a m c] w fun e w' => e = .returned (.tuple #[.pointer none, .int .i64 2]) ∧ w = w' := by
  have HS := Lib.hid (diskSectors w a m c hm)
  have HA := Lib.hid (diskAllowed w ((m / 128 : Nat) : Int))
  by_cases h1 : m % 128 = 0
  · have d : decide (1 ≤ ((m / 128 : Nat) : Int) ∧ ((m / 128 : Nat) : Int) ≤ 65536) = false := by
      simp only [decide_eq_false_iff_not]
      intro h
      exact hb ⟨h1, by omega, by omega⟩
    rw [d] at HA
    rw [show decide (m % 128 = 0) = true by simp [h1]] at HS
    generalize m / 128 = q at *
    clear d h1 hb
    go_enter Try.func22, Try.ntmps22
    go_wp2_with fail
    refine HS.out.mono ?_
    rintro e w1 ⟨rfl, rfl⟩
    go_wp2_with fail
    refine HA.out.mono ?_
    rintro e w1 ⟨rfl, rfl⟩
    go_wp2
    go_ret2
    exact ⟨rfl, rfl⟩
  · rw [show decide (m % 128 = 0) = false by simp [h1]] at HS
    clear HA
    generalize m / 128 = q at *
    clear h1 hb
    go_enter Try.func22, Try.ntmps22
    go_wp2_with fail
    refine HS.out.mono ?_
    rintro e w1 ⟨rfl, rfl⟩
    go_wp2
    go_ret2
    exact ⟨rfl, rfl⟩

/-- make([]byte, m) -/
theorem run_make10 (m : Nat) (hm : m ≤ 281474976710656) (wx : World) :
    (Instr.makeSlice 37 (.int .i64 (m : Int)) (.int .i64 (m : Int))).run Try.prog wx = .ok (.slice (some ⟨wx.heap.size, 0, none⟩) m m) (wx.alloc (.cells ((List.replicate m (0 : UInt8)).map bv).toArray 5)) := by
  obtain ⟨i0, hi0, hz0, hz1, hz2⟩ := info_parts infoB10
  have h := run_make (P := Try.prog) wx 37 5 i0 _ Try.underlying37 hi0 hz0 .i64 .i64 (m : Int) (m : Int) (by omega) (by omega) (by rw [hz2]; omega) (by omega)
  rw [h, hz1, Nat.mul_one]
  have e : madeCells (Value.int .u8 0).cells m = ((List.replicate m (0 : UInt8)).map bv).toArray := by
    apply Array.ext
    · simp [size_madeCells]
    · intro i h1 h2
      simp [madeCells, Value.cells, Nat.mod_one]
  simp only [Int.toNat_natCast]
  rw [e]

/-- a row made of bytes reads as them -/
theorem rd_row10 {w : World} {g : Nat} {l : List UInt8} (h : w.heap[g]? = some (.cells (l.map bv).toArray 5 (0, 0))) (hl : l.length ≤ 9223372036854775807) : Rd w (.slice (some ⟨g, 0, none⟩) l.length l.length) l :=
  RowB.rd ⟨[], by rw [List.append_nil]; exact h⟩ (Nat.le_refl _) (by simpa [maxLen] using hl)

def zeros (m : Nat) : List UInt8 := List.replicate m 0

theorem zeros_length (m : Nat) : (zeros m).length = m := by simp [zeros]

set_option maxRecDepth 100000 in
set_option maxHeartbeats 400000 in
theorem diskNew (w : World) (n : Nat) (hn : 1 ≤ n ∧ n ≤ 65536) : Calls Try.prog 7 #[.int .i64 (n : Int)] w (NewDisk w n (zeros (128 * n))) := by
  have HA : Hid (Calls Try.prog 21 #[.int .i64 (n : Int)] w fun e w' => e = .returned (.bool true) ∧ w = w') := by
    have := diskAllowed w (n : Int)
    rw [show decide (1 ≤ (n : Int) ∧ (n : Int) ≤ 65536) = true by simp; omega] at this
    exact Lib.hid this
  have hm : ∀ wx : World, (Instr.makeSlice 37 (.int .i64 ((128 * n : Nat) : Int)) (.int .i64 ((128 * n : Nat) : Int))).run Try.prog wx = .ok (.slice (some ⟨wx.heap.size, 0, none⟩) (128 * n) (128 * n)) (wx.alloc (.cells ((zeros (128 * n)).map bv).toArray 5)) := fun wx => run_make10 (128 * n) (by omega) wx
  have HL := Lib.hid (fun wx v h => diskLoad wx v (zeros (128 * n)) n h (zeros_length _) hn)
  have h1 : (n : Int) * 128 = ((128 * n : Nat) : Int) := by omega
  have hz : Hid ((zeros (128 * n)).length = 128 * n) := Lib.hid (zeros_length _)
  generalize zeros (128 * n) = z at *
  have HQ : Hid (128 * n ≤ 9223372036854775807) := Lib.hid (by omega)
  have h4 : IntKind.i64.wrap ((128 * n : Nat) : Int) = ((128 * n : Nat) : Int) := IntWalk.i64_in _ (by omega)
  generalize 128 * n = q at *
  go_enter Try.func7, Try.ntmps7
  go_wp2_with fail
  refine HA.out.mono ?_
  rintro e w1 ⟨rfl, rfl⟩
  go_wp2_with fail
  generalize hw1 : World.alloc w _ = w1
  have HR : Hid (Rd w1 (.slice (some ⟨w.heap.size, 0, none⟩) q q) z) := by
    have := rd_row10 (w := w1) (g := w.heap.size) (l := z) (by rw [← hw1]; exact heap_alloc_new _ _) (by rw [hz.out]; exact HQ.out)
    rw [hz.out] at this
    exact Lib.hid this
  have HN1 : Hid (New w w1) := by rw [← hw1]; exact Lib.hid ((Below.refl _ _).alloc (Nat.le_refl _) _)
  clear hw1 hm
  refine (HL.out w1 _ HR.out).mono ?_
  rintro e w2 ⟨g, rfl, h2, h3⟩
  have H2 := Lib.hid h2
  have H3 := Lib.hid h3
  clear h2 h3
  go_wp2
  go_ret2
  exact ⟨g, rfl, H2.out.narrow (fun k _ h => Nat.le_trans HN1.out.size h), New.trans HN1.out H3.out⟩

set_option maxRecDepth 100000 in
set_option maxHeartbeats 400000 in
theorem diskNewBad (w : World) (n : Int) (hn : ¬ (1 ≤ n ∧ n ≤ 65536)) :
    Calls Try.prog 7 #[.int .i64 n] w fun e w' => e = .returned (.tuple #[.pointer none, .int .i64 2]) ∧ w = w' := by
  have HA := Lib.hid (diskAllowed w n)
  rw [show decide (1 ≤ n ∧ n ≤ 65536) = false by simpa using hn] at HA
  clear hn
  go_enter Try.func7, Try.ntmps7
  go_wp2_with fail
  refine HA.out.mono ?_
  rintro e w1 ⟨rfl, rfl⟩
  go_wp2
  go_ret2
  exact ⟨rfl, rfl⟩

end Go.Proofs.Ytnekcdpfphgpbaa

namespace Go.Proofs.Ytnekcdpfphgpbaa
set_option linter.unusedVariables false
set_option linter.unusedSimpArgs false
open Go.RowKit

theorem infoWr : (Try.prog.info? 79).map (fun i => (i.zero.map (fun z => z.cells.size), i.size, i.bytes)) = some (some 129, 129, 136) := by kernel_rfl

theorem infoWr_parts : ∃ i z, Try.prog.info? 79 = some i ∧ i.zero = some z ∧ z.cells.size = 129 ∧ i.size = 129 ∧ i.bytes = 136 := by
  have h := infoWr
  cases hi : Try.prog.info? 79 with
  | none => rw [hi] at h; cases h
  | some i =>
    rw [hi] at h
    simp only [Option.map_some, Option.some.injEq, Prod.mk.injEq] at h
    cases hz : i.zero with
    | none => rw [hz] at h; simp at h
    | some z =>
      rw [hz] at h
      simp only [Option.map_some, Option.some.injEq] at h
      exact ⟨i, z, rfl, hz, h.1, h.2.1, h.2.2⟩

theorem placesWr : (match Try.prog.underlying 79 with
    | some (.struct fields) => fields.toList.mapM (fun f => (Try.prog.info? f.type).map fun i => (f.offset, i.size))
    | _ => none) = some [(0, 1), (1, 128)] := by kernel_rfl

theorem fill2 (cells : Array Value) (v : Value) (bs : List Value) (hv : v.cells = #[v]) (hb : bs.length = 128) (hc : cells.size = 129) :
    Instr.fill ([(0, 1), (1, 128)].toArray[·]?) cells [(0, v), (1, .agg bs.toArray)] = some (v :: bs).toArray := by
  have e1 : (Value.agg bs.toArray).cells = bs.toArray := rfl
  have s1 : v.cells.size = 1 := by rw [hv]; rfl
  obtain ⟨g1, g2⟩ := Great.foldl_set 0 [v] 0 cells
  obtain ⟨k1, k2⟩ := Great.foldl_set 1 bs 0 (([v].zipIdx 0).foldl (fun cs (x : Value × Nat) => cs.setIfInBounds (0 + x.2) x.1) cells)
  unfold Instr.fill
  simp only [List.getElem?_toArray, List.getElem?_cons_zero]
  rw [if_neg (show ¬ ((decide (v.cells.size ≠ 1) || decide (0 + v.cells.size > cells.size)) = true) by rw [s1, hc]; decide)]
  unfold Instr.fill
  simp only [List.getElem?_cons_succ, List.getElem?_cons_zero]
  rw [hv, e1]
  rw [if_neg (by
    rw [← Array.foldl_toList, Array.toList_zipIdx]
    show ¬ ((decide (bs.toArray.size ≠ 128) || decide (1 + bs.toArray.size > _)) = true)
    rw [g1, hc, List.size_toArray, hb]; decide)]
  unfold Instr.fill
  congr 1
  rw [← Array.foldl_toList, ← Array.foldl_toList, Array.toList_zipIdx, Array.toList_zipIdx]
  simp only [List.toList_toArray]
  apply Array.ext_getElem?
  intro k
  rw [k2 k, g1]
  by_cases h0 : k = 0
  · subst h0
    rw [if_neg (by omega), g2 0, if_pos (by simp; omega)]
    simp
  · by_cases h1 : k < 129
    · rw [if_pos (by omega)]
      obtain ⟨m, rfl⟩ : ∃ m, k = m + 1 := ⟨k - 1, by omega⟩
      simp
    · rw [if_neg (by omega), g2 k, if_neg (by simp; omega), Array.getElem?_eq_none (by omega), List.getElem?_toArray, List.getElem?_eq_none (by simp; omega)]

theorem built_write (s : Nat) (b : List UInt8) (hb : b.length = 128) :
    Try.prog.built 79 [(0, .int .i64 (s : Int)), (1, .agg (b.map bv).toArray)] = some (wcells (s, b)).toArray := by
  obtain ⟨i, z, hi, hz, hzs, -, -⟩ := infoWr_parts
  have hp := placesWr
  unfold Program.built
  rw [hi]
  cases hu : Try.prog.underlying 79 with
  | none => rw [hu] at hp; cases hp
  | some d =>
    rw [hu] at hp
    cases d <;> first | (cases hp; done) | skip
    case struct fields =>
      simp only at hp ⊢
      rw [hz, hp]
      exact fill2 _ _ _ rfl (by rw [List.length_map]; exact hb) hzs

theorem run_build_write (s : Nat) (b : List UInt8) (hb : b.length = 128) (w : World) :
    (Instr.build 79 #[(0, .int .i64 (s : Int)), (1, .agg (b.map bv).toArray)]).run Try.prog w = .ok (.agg (wcells (s, b)).toArray) w :=
  run_build w _ _ _ (built_write s b hb)

/-- one write in a new row -/
theorem run_row_write (s : Nat) (b : List UInt8) (hb : b.length = 128) (w : World) :
    (Instr.buildSlice 65 1 #[(0, .agg (wcells (s, b)).toArray)]).run Try.prog w = .ok (.slice (some ⟨w.heap.size, 0, none⟩) 1 1) (w.alloc (.cells (wcells (s, b)).toArray 79)) := by
  obtain ⟨i, z, hi, hz, hzs, hs, -⟩ := infoWr_parts
  refine run_buildSlice w 65 79 1 _ _ i z Try.underlying65 hi hz (by rw [hs]; decide) (by rw [hs]; decide) ?_
  have h := Great.fill_whole (s := 129) (by decide) [.agg (wcells (s, b)).toArray] ((Array.range (1 * i.size)).map (z.cells[· % z.cells.size]!)) (by
    intro v hv
    obtain rfl := List.mem_singleton.1 hv
    show (wcells (s, b)).toArray.size = 129
    rw [List.size_toArray, wcells_length hb]) (by simp [hs])
  rw [hs] at h ⊢
  simp only [List.zipIdx_cons, List.zipIdx_nil, List.map_cons, List.map_nil, List.flatMap_cons, List.flatMap_nil, List.append_nil] at h
  exact h

/-- [128]byte(b): where it points -/
theorem run_arrayAt128 (a : Option Addr) (n c : Nat) (h : 128 ≤ n) (wx : World) : (Instr.arrayAt 77 (.slice a n c)).run Try.prog wx = .ok (.pointer a) wx := by
  unfold Instr.arrayAt
  rw [Sem.run_bind, run_underlying (P := Try.prog) Try.underlying77]
  simp only [Result.andThen_ok]
  rw [if_neg (by omega)]
  rfl

theorem info128 : (Try.prog.info? 77).map (·.size) = some 128 := by kernel_rfl

/-- the load of 128 bytes -/
theorem run_load128 {w : World} {g : Nat} {b : List UInt8} (h : RowB w g b) (hb : b.length = 128) : (Instr.loadAt 77 (.pointer (some ⟨g, 0, none⟩))).run Try.prog w = .ok (.agg (b.map bv).toArray) w := by
  obtain ⟨cs, hg⟩ := h
  refine run_loadAt_mid w g 0 77 (b.map bv) _ (fun j v hj => ?_) Try.underlying77 rfl (by rw [List.length_map, hb]; exact info128)
  rw [Nat.zero_add, cell_of_row _ _ _ _ _ _ hg, List.getElem?_toArray, List.getElem?_append_left (List.getElem?_eq_some_iff.1 hj).1, hj]

/-- one write is appended -/
theorem run_append_write {w : World} {vp : Value} {P : List Wr} {s : Nat} {b : List UInt8} {r : Nat} (hown : w.ownsRow 0 79 129 vp P.length (pcells P)) (hb : b.length = 128) (hP : P.length ≤ 1000000)
    (hr : w.heap[r]? = some (.cells (wcells (s, b)).toArray 79 (0, 0))) :
    ∃ vp' w', (Builtin.append_ #[65, 65] 65 #[vp, .slice (some ⟨r, 0, none⟩) 1 1]).run Try.prog w = .ok vp' w' ∧
      w'.ownsRow 0 79 129 vp' (P.length + 1) (pcells P ++ wcells (s, b)) ∧ Only (fun k => blk vp = some k) w w' ∧ (blk vp' = blk vp ∨ ∀ k, blk vp' = some k → w.heap.size ≤ k) := by
  obtain ⟨i, z, hi, hz, hzs, hs, hby⟩ := infoWr_parts
  obtain ⟨v', w', h1, h2, h3, h4, h5⟩ := run_append_own_at (P := Try.prog) w 0 65 65 79 i z 129 136 Try.underlying65 hi hz hs hby hzs (by decide) vp P.length (pcells P) hown
    ⟨r, 0, none⟩ 1 1 (wcells (s, b)) (by rw [wcells_length hb]) (fun j u hj => by rw [Addr.add_mid, Nat.zero_add, cell_of_row _ _ _ _ _ _ hr, List.getElem?_toArray]; exact hj) (wcells_one _) (by unfold maxLen; omega) (by omega) (Nat.zero_le _)
  refine ⟨v', w', h1, h2, ⟨h3.os, h3.tape, h3.output, h3.size, fun k hk hne => h3.block k hk (fun e => hne (by rw [blk_own, ← e]))⟩, ?_⟩
  rw [blk_own, blk_own]
  rcases h5 with e | e
  · exact .inl e
  · exact .inr (fun k hk => by rw [e] at hk; cases hk; exact Nat.le_refl _)

end Go.Proofs.Ytnekcdpfphgpbaa

namespace Go.Proofs.Ytnekcdpfphgpbaa
set_option linter.unusedVariables false
set_option linter.unusedSimpArgs false
open Go.RowKit

theorem exec_load128 {a : Act} {o : Oper} {x : Operand} {g off : Nat} {b : List UInt8} {w : World} (ho : o.op = .load 77 x) (hx : a.eval x = .pointer (some ⟨g, off, none⟩)) (h : w.rangeAt g off (b.map bv)) (hb : b.length = 128) :
    (execOp a.eval o).run Try.prog w = .ok (.value (.agg (b.map bv).toArray)) w := by
  unfold execOp
  simp only [ho, hx, Sem.run_bind, Sem.run_pure, Result.andThen_ok, run_loadAt_mid w g off 77 (b.map bv) _ h Try.underlying77 rfl (by rw [List.length_map, hb]; exact info128)]

theorem exec_arrayAt128 {a : Act} {o : Oper} {x : Operand} {ad : Option Addr} {n c : Nat} {w : World} (ho : o.op = .sliceToArrayPointer 77 x) (hx : a.eval x = .slice ad n c) (h : 128 ≤ n) :
    (execOp a.eval o).run Try.prog w = .ok (.value (.pointer ad)) w := by
  unfold execOp
  simp only [ho, hx, Sem.run_bind, Sem.run_pure, Result.andThen_ok, run_arrayAt128 ad n c h]

theorem exec_buildW {a : Act} {o : Oper} {x y : Operand} {s : Nat} {b : List UInt8} {w : World} (ho : o.op = .build 79 #[(0, x), (1, y)]) (hx : a.eval x = .int .i64 (s : Int)) (hy : a.eval y = .agg (b.map bv).toArray) (hb : b.length = 128) :
    (execOp a.eval o).run Try.prog w = .ok (.value (.agg (wcells (s, b)).toArray)) w := by
  have h := run_build_write s b hb w
  unfold execOp
  simp only [ho, List.map_toArray, List.map_cons, List.map_nil, hx, hy, Sem.run_bind, Sem.run_pure, h, Result.andThen_ok]

theorem wp_rowW {o : Oper} {a : Act} {w : World} {K : Act → World → Prop} {Q : Exit → Act → World → Prop} {x : Operand} {s : Nat} {b : List UInt8} (ho : o.op = .buildSlice 65 1 #[(0, x)]) (hx : a.eval x = .agg (wcells (s, b)).toArray) (hb : b.length = 128)
    (h : K (a.put o.dst (.slice (some ⟨w.heap.size, 0, none⟩) 1 1)) (w.alloc (.cells (wcells (s, b)).toArray 79))) : o.wp Try.prog a w K Q := by
  have hr := run_row_write s b hb w
  unfold Oper.wp execOp
  simp only [ho, List.map_toArray, List.map_cons, List.map_nil, hx, Sem.run_bind, Sem.run_pure, hr, Result.andThen_ok]
  exact h

/-- what the loop of Write leaves -/
structure WrIn (w : World) (q : Int) (n g gd gl cd cl : Nat) (F : Nat → Prop) (vp : Value) (D L : List UInt8) (P : List Wr) (vp' : Value) (wr : World) : Prop where
  dsk : Dsk q wr n g gd gl cd cl vp' D L P
  only : Only F w wr
  near : blk vp' = blk vp ∨ ∀ k, blk vp' = some k → w.heap.size ≤ k




set_option maxRecDepth 100000 in
set_option maxHeartbeats 4000000 in
/-- whole sectors that there are, the power on -/
theorem diskWriteN {q : Int} {w : World} {n g : Nat} {F : Nat → Prop} {D L : List UInt8} {P : List Wr} (hD : Dvc q w n g F D L P) (hq : q ≠ 0) (s m : Nat) (hs : s + m ≤ n) (hm : 0 < m) (gb ob cb : Nat) (b : List UInt8) (hrb : Rd w (.slice (some ⟨gb, ob, none⟩) (128 * m) cb) b) (hgb : ¬ F gb) (hP : P.length + m ≤ 1000000) :
    Calls Try.prog 45 #[.pointer (some ⟨g, 0, none⟩), .int .i64 (s : Int), .slice (some ⟨gb, ob, none⟩) (128 * m) cb] w fun e w' => e = .returned (.int .i64 0) ∧ DvcTo (nextQ q) w n g F D (lay L s b) (P ++ chunks s b m) w' := by
  obtain ⟨gd, gl, cd, cl, vp, h0, f1, f2, f3, f4⟩ := hD
  have HRB := Lib.hid hrb
  have hbl : b.length = 128 * m := hrb.len
  have HBL := Lib.hid hbl
  have hcb : 128 * m ≤ cb ∧ cb ≤ maxLen := by obtain ⟨_, _, _, e, -, h2, h3, -⟩ := hrb; cases e; exact ⟨h2, h3⟩
  have hlt : gb < w.heap.size := hrb.lt (k := gb) rfl (by intro e; rw [e] at hbl; simp at hbl; omega)
  have HLT := Lib.hid hlt
  have hfew := h0.few
  have HS : Hid (Calls Try.prog 38 #[.slice (some ⟨gb, ob, none⟩) (128 * m) cb] w fun e w' => e = .returned (.tuple #[.int .i64 (m : Int), .bool true]) ∧ w = w') := by
    have := diskSectors w (some ⟨gb, ob, none⟩) (128 * m) cb (by omega)
    rw [show 128 * m / 128 = m by omega, show decide (128 * m % 128 = 0) = true by simp] at this
    exact Lib.hid this
  have HH : Hid (Calls Try.prog 54 #[.pointer (some ⟨g, 0, none⟩), .int .i64 (s : Int), .int .i64 (m : Int)] w fun e w' => e = .returned (.bool true) ∧ w = w') := by
    have := diskHasN h0 (s : Int) (m : Int) (by omega)
    rw [show decide (0 ≤ (s : Int) ∧ 0 ≤ (m : Int) ∧ (m : Int) ≤ (n : Int) - (s : Int)) = true by simp; omega] at this
    exact Lib.hid this
  have HX : Hid (Calls Try.prog 55 #[.pointer (some ⟨g, 0, none⟩)] w fun e w' => e = .returned (.bool true) ∧ Dsk (nextQ q) w' n g gd gl cd cl vp D L P ∧ Only (fun k => k = g) w w') := by
    have := diskCall h0
    rw [show decide (q ≠ 0) = true by simpa using hq] at this
    exact Lib.hid this
  have HPI : Hid (∀ wx (j : Nat), j < m → Calls Try.prog 37 #[.slice (some ⟨gb, ob, none⟩) (128 * m) cb, .int .i64 (j : Int), .int .i64 1] wx fun e w' => e = .returned (.slice (some ⟨gb, ob + 128 * j, none⟩) 128 (cb - 128 * j)) ∧ wx = w') := by
    refine Lib.hid (fun wx j hj => ?_)
    have := diskPieceN wx gb ob (128 * m) cb j 1 (by omega) (by omega)
    rw [pieceAt_pos (m := 1) (by omega) (by decide)] at this
    exact this
  have hf4 : Hid (∀ k, blk vp = some k → F k) := Lib.hid f4
  clear hrb hbl hlt h0 hq f4
  generalize hm128 : 128 * m = M at *
  have HM := Lib.hid hm128
  clear hm128
  go_enter Try.func45, Try.ntmps45
  go_wp2_with fail
  refine HS.out.mono ?_
  rintro e w1 ⟨rfl, rfl⟩
  go_wp2_with fail
  refine HH.out.mono ?_
  rintro e w1 ⟨rfl, rfl⟩
  go_wp2_with fail
  refine HX.out.mono ?_
  rintro e w1 ⟨rfl, hd1, ho1⟩
  have HI0 : Hid (WrIn w (nextQ q) n g gd gl cd cl F vp D L (P ++ chunks s b 0) vp w1) := Lib.hid (by
    rw [show P ++ chunks s b 0 = P by simp [chunks]]
    exact ⟨hd1, ho1.mono (fun i _ hi => by rw [show i = g from hi]; exact f1), .inl rfl⟩)
  clear HS HH HX hd1 ho1
  go_wp2
  go_loopw [26] (fun i wr => ∃ j : Nat, j ≤ m ∧ i = .int .i64 j ∧ ∃ vp', WrIn w (nextQ q) n g gd gl cd cl F vp D L (P ++ chunks s b j) vp' wr) (fun i _ => m - (intOf i).toNat)
  case atStart => exact ⟨0, Nat.zero_le _, rfl, vp, HI0.out⟩
  case round =>
    clear HI0
    obtain ⟨j, hj, rfl, vp0, hin⟩ := hrel
    by_cases hjm : j < m
    · have HI := Lib.hid hin.dsk
      have HNEAR := Lib.hid hin.near
      have HIO := Lib.hid hin.only
      have hPl : (P ++ chunks s b j).length ≤ 1000000 := by rw [List.length_append, chunks_length]; omega
      have HP := Lib.hid hPl
      have HF4 : Hid (∀ i, blk vp0 = some i → i < w.heap.size → F i) := by
        refine Lib.hid (fun i hi hl => ?_)
        rcases HNEAR.out with e | e
        · exact hf4.out i (by rw [← e]; exact hi)
        · have := e i hi; omega
      have hfv' : ∀ i, i < w.heap.size → blk vp0 = some i → F i := fun i hl hi => HF4.out i hi hl
      have hsn : s + j < n := by omega
      obtain ⟨sj, HSJ⟩ : ∃ sj, Hid (s + j = sj) := ⟨_, Lib.hid rfl⟩
      obtain ⟨bj, HBJ⟩ : ∃ bj, Hid (sec b j = bj) := ⟨_, Lib.hid rfl⟩
      have hsj : sj < n := by rw [← HSJ.out]; exact hsn
      have HB : Hid (bj.length = 128) := Lib.hid (by rw [← HBJ.out]; exact sec_length (by rw [HBL.out, ← HM.out]; omega))
      have HBw : Hid (World.rangeAt w gb (ob + 128 * j) (bj.map bv)) := Lib.hid (by rw [← HBJ.out]; exact rd_range HRB.out j)
      have HPJ := Lib.hid (fun wx => HPI.out wx j hjm)
      clear hin
      go_wp2_with fail
      have HBd : Hid (World.rangeAt wr.drew gb (ob + 128 * j) (bj.map bv)) := Lib.hid (range_same HBw.out (HIO.out.block _ HLT.out hgb))
      refine region_ordT (fun wx => World.rangeAt wx gb (ob + 128 * j) (bj.map bv)) (.take 0 (.take 1 (.take 2 (.take 3 (.take 5 (.take 6 (.take 7 (.take 8 (.take 9 (.two 4 10 (.only 10 (.take 11 (.take 12 (.take 13 (.only 14 (.only 15 (.take 16 (.take 17 (.only 18 .nil))))))))) (.take 11 (.take 12 (.take 13 (.two 4 14 (.only 14 (.only 15 (.take 16 (.take 17 (.only 18 .nil))))) (.only 4 (.only 15 (.take 16 (.take 17 (.only 18 .nil))))))))))))))))))) (by kernel_rfl) (by kernel_rfl) HBd.out (fun _ => ?_)
      have HDd := Lib.hid HI.out.drew
      have NNd : Hid (Only F w wr.drew) := Lib.hid HIO.out.drew
      clear HI HIO
      generalize wr.drew = wd at *
      have hwr : IntKind.i64.wrap ((s : Int) + (j : Int)) = (sj : Int) := by rw [IntWalk.i64_in _ (by omega), ← HSJ.out]; omega
      iterate 9 (apply ordT_take; (simp only [List.getElem?_toArray, List.getElem?_cons_succ, List.getElem?_cons_zero]; rfl); rfl; (intro w hSw; (try dsimp only at hSw); go_simp; try with_reducible rfl); intro _; try simp only [Act.put, List.setIfInBounds_toArray, List.set_cons_zero, List.set_cons_succ])
      clear hwr
      generalize hPJ : P ++ chunks s b j = PJ at *
      have HPE := Lib.hid hPJ
      clear hPJ
      (apply ordT_two; (simp only [List.getElem?_toArray, List.getElem?_cons_succ, List.getElem?_cons_zero]; rfl); rfl; (simp only [List.getElem?_toArray, List.getElem?_cons_succ, List.getElem?_cons_zero]; rfl); rfl)
      · intro K hK
        obtain ⟨-, -, c2, -⟩ := HDd.out.cells
        go_simp
        clear c2
        refine hK.out _ _ (HBd.out) (fun _ => ?_)
        clear hK K
        try simp only [Act.put, List.setIfInBounds_toArray, List.set_cons_zero, List.set_cons_succ]
        (apply ordT_only; (simp only [List.getElem?_toArray, List.getElem?_cons_succ, List.getElem?_cons_zero]; rfl); rfl; intro K hK)
        go_simp
        refine (HPJ.out wd).mono ?_
        rintro e w1 ⟨rfl, rfl⟩
        refine hK.out _ _ (HBd.out) (fun _ => ?_)
        clear hK K
        try simp only [Act.put, List.setIfInBounds_toArray, List.set_cons_zero, List.set_cons_succ]
        (apply ordT_take; (simp only [List.getElem?_toArray, List.getElem?_cons_succ, List.getElem?_cons_zero]; rfl); rfl; (intro w hSw; exact exec_arrayAt128 rfl rfl (Nat.le_refl _)); intro _; try simp only [Act.put, List.setIfInBounds_toArray, List.set_cons_zero, List.set_cons_succ])
        (apply ordT_take; (simp only [List.getElem?_toArray, List.getElem?_cons_succ, List.getElem?_cons_zero]; rfl); rfl; (intro w hSw; exact exec_load128 rfl rfl hSw HB.out); intro _; try simp only [Act.put, List.setIfInBounds_toArray, List.set_cons_zero, List.set_cons_succ])
        (apply ordT_take; (simp only [List.getElem?_toArray, List.getElem?_cons_succ, List.getElem?_cons_zero]; rfl); rfl; (intro w hSw; exact exec_buildW (s := sj) (b := bj) rfl rfl rfl HB.out); intro _; try simp only [Act.put, List.setIfInBounds_toArray, List.set_cons_zero, List.set_cons_succ])
        (apply ordT_only; (simp only [List.getElem?_toArray, List.getElem?_cons_succ, List.getElem?_cons_zero]; rfl); rfl; intro K hK)
        refine wp_rowW (s := sj) (b := bj) rfl rfl HB.out ?_
        generalize hwl : World.alloc wd _ = wl
        have HR : Hid (wl.heap[wd.heap.size]? = some (.cells (wcells (sj, bj)).toArray 79 (0, 0))) := Lib.hid (by rw [← hwl]; exact heap_alloc_new _ _)
        have Nl : New wd wl := by rw [← hwl]; exact (Below.refl _ _).alloc (Nat.le_refl _) _
        have HDl := Lib.hid (HDd.out.new Nl)
        have NNl := Lib.hid (NNd.out.trans (Nl.only (F := F)) (fun _ _ h => h))
        have HBl := Lib.hid (range_same HBd.out (Nl.block _ (Nat.lt_of_lt_of_le HLT.out NNd.out.size)))
        clear hwl Nl
        generalize wd.heap.size = r at *
        refine hK.out _ _ (HBl.out) (fun _ => ?_)
        clear hK K
        try simp only [Act.put, List.setIfInBounds_toArray, List.set_cons_zero, List.set_cons_succ]
        obtain ⟨vp', w', hr, h2, h3, h4⟩ := run_append_write HDl.out.pend HB.out HP.out HR.out
        obtain ⟨av, nv, cv, rfl⟩ : ∃ a n c, vp' = .slice a n c := by
          rcases h2.2 with ⟨e, -⟩ | ⟨_, _, _, e, -⟩
          · exact ⟨_, _, _, e⟩
          · exact ⟨_, _, _, e⟩
        have HDs := Lib.hid (HDl.out.setPend (p := (sj, bj)) h3 h2 ⟨hsj, HB.out⟩ h4)
        have hgx : w'.heap[g]? = _ := (h3.block _ (lt_of_block HDl.out.blk) HDl.out.apart.2.2.1).trans HDl.out.blk
        have hfv : ∀ i, blk vp0 = some i → i < w.heap.size → F i := HF4.out
        have HB2 := Lib.hid (range_same HBl.out (h3.block _ (Nat.lt_of_lt_of_le HLT.out NNl.out.size) (fun e => hgb (hfv _ e HLT.out))))
        have c2 : w'.cell? ⟨g, 2, none⟩ = some vp0 := by rw [cell_of_row w' g 2 _ _ _ hgx]; rfl
        have z2 : w'.frozen? ⟨g, 2, none⟩ = false := frozen_of_row _ _ 2 _ _ hgx
        have HO := Lib.hid ((NNl.out.trans h3 hfv').setCell (p := ⟨g, 2, none⟩) (fun _ => f1) (.slice av nv cv))
        have HB3 : Hid (World.rangeAt (w'.setCell ⟨g, 2, none⟩ (.slice av nv cv)) gb (ob + 128 * j) (bj.map bv)) := Lib.hid (range_same HB2.out (heap_setCell_other _ _ _ _ (fun e => hgb (by rw [show gb = g from e]; exact f1))))
        have HNR : Hid (blk (.slice av nv cv) = blk vp ∨ ∀ k, blk (.slice av nv cv) = some k → w.heap.size ≤ k) := by
          refine Lib.hid ?_
          rcases h4 with e | e
          · rcases HNEAR.out with e' | e'
            · exact .inl (e.trans e')
            · exact .inr (fun k hk => e' k (by rw [← e]; exact hk))
          · exact .inr (fun k hk => Nat.le_trans NNl.out.size (e k hk))
        clear h2 h3 h4 hgx hfv
        (apply ordT_only; (simp only [List.getElem?_toArray, List.getElem?_cons_succ, List.getElem?_cons_zero]; rfl); rfl; intro K hK)
        refine oper_append _ _ 65 rfl _ _ rfl rfl hr ?_
        clear hr
        refine hK.out _ _ (HB2.out) (fun _ => ?_)
        clear hK K
        try simp only [Act.put, List.setIfInBounds_toArray, List.set_cons_zero, List.set_cons_succ]
        iterate 2 (apply ordT_take; (simp only [List.getElem?_toArray, List.getElem?_cons_succ, List.getElem?_cons_zero]; rfl); rfl; (intro w hSw; (try dsimp only at hSw); go_simp; try with_reducible rfl); intro _; try simp only [Act.put, List.setIfInBounds_toArray, List.set_cons_zero, List.set_cons_succ])
        (apply ordT_only; (simp only [List.getElem?_toArray, List.getElem?_cons_succ, List.getElem?_cons_zero]; rfl); rfl; intro K hK)
        go_simp
        refine hK.out _ _ (HB3.out) (fun _ => ?_)
        clear hK K
        try simp only [Act.put, List.setIfInBounds_toArray, List.set_cons_zero, List.set_cons_succ]
        apply ordT_done
        go_wp2
        go_roundw
        case rel => exact ⟨j + 1, by omega, by go_num, _, by rw [chunks_succ, ← List.append_assoc, HPE.out, HSJ.out, HBJ.out]; exact ⟨HDs.out, HO.out, HNR.out⟩⟩
        case measure => simp [intOf]; omega
      · intro K hK
        go_simp
        refine (HPJ.out wd).mono ?_
        rintro e w1 ⟨rfl, rfl⟩
        refine hK.out _ _ (HBd.out) (fun _ => ?_)
        clear hK K
        try simp only [Act.put, List.setIfInBounds_toArray, List.set_cons_zero, List.set_cons_succ]
        (apply ordT_take; (simp only [List.getElem?_toArray, List.getElem?_cons_succ, List.getElem?_cons_zero]; rfl); rfl; (intro w hSw; exact exec_arrayAt128 rfl rfl (Nat.le_refl _)); intro _; try simp only [Act.put, List.setIfInBounds_toArray, List.set_cons_zero, List.set_cons_succ])
        (apply ordT_take; (simp only [List.getElem?_toArray, List.getElem?_cons_succ, List.getElem?_cons_zero]; rfl); rfl; (intro w hSw; exact exec_load128 rfl rfl hSw HB.out); intro _; try simp only [Act.put, List.setIfInBounds_toArray, List.set_cons_zero, List.set_cons_succ])
        (apply ordT_take; (simp only [List.getElem?_toArray, List.getElem?_cons_succ, List.getElem?_cons_zero]; rfl); rfl; (intro w hSw; exact exec_buildW (s := sj) (b := bj) rfl rfl rfl HB.out); intro _; try simp only [Act.put, List.setIfInBounds_toArray, List.set_cons_zero, List.set_cons_succ])
        (apply ordT_two; (simp only [List.getElem?_toArray, List.getElem?_cons_succ, List.getElem?_cons_zero]; rfl); rfl; (simp only [List.getElem?_toArray, List.getElem?_cons_succ, List.getElem?_cons_zero]; rfl); rfl)
        · intro K hK
          obtain ⟨-, -, c2, -⟩ := HDd.out.cells
          go_simp
          clear c2
          refine hK.out _ _ (HBd.out) (fun _ => ?_)
          clear hK K
          try simp only [Act.put, List.setIfInBounds_toArray, List.set_cons_zero, List.set_cons_succ]
          (apply ordT_only; (simp only [List.getElem?_toArray, List.getElem?_cons_succ, List.getElem?_cons_zero]; rfl); rfl; intro K hK)
          refine wp_rowW (s := sj) (b := bj) rfl rfl HB.out ?_
          generalize hwl : World.alloc wd _ = wl
          have HR : Hid (wl.heap[wd.heap.size]? = some (.cells (wcells (sj, bj)).toArray 79 (0, 0))) := Lib.hid (by rw [← hwl]; exact heap_alloc_new _ _)
          have Nl : New wd wl := by rw [← hwl]; exact (Below.refl _ _).alloc (Nat.le_refl _) _
          have HDl := Lib.hid (HDd.out.new Nl)
          have NNl := Lib.hid (NNd.out.trans (Nl.only (F := F)) (fun _ _ h => h))
          have HBl := Lib.hid (range_same HBd.out (Nl.block _ (Nat.lt_of_lt_of_le HLT.out NNd.out.size)))
          clear hwl Nl
          generalize wd.heap.size = r at *
          refine hK.out _ _ (HBl.out) (fun _ => ?_)
          clear hK K
          try simp only [Act.put, List.setIfInBounds_toArray, List.set_cons_zero, List.set_cons_succ]
          obtain ⟨vp', w', hr, h2, h3, h4⟩ := run_append_write HDl.out.pend HB.out HP.out HR.out
          obtain ⟨av, nv, cv, rfl⟩ : ∃ a n c, vp' = .slice a n c := by
            rcases h2.2 with ⟨e, -⟩ | ⟨_, _, _, e, -⟩
            · exact ⟨_, _, _, e⟩
            · exact ⟨_, _, _, e⟩
          have HDs := Lib.hid (HDl.out.setPend (p := (sj, bj)) h3 h2 ⟨hsj, HB.out⟩ h4)
          have hgx : w'.heap[g]? = _ := (h3.block _ (lt_of_block HDl.out.blk) HDl.out.apart.2.2.1).trans HDl.out.blk
          have hfv : ∀ i, blk vp0 = some i → i < w.heap.size → F i := HF4.out
          have HB2 := Lib.hid (range_same HBl.out (h3.block _ (Nat.lt_of_lt_of_le HLT.out NNl.out.size) (fun e => hgb (hfv _ e HLT.out))))
          have c2 : w'.cell? ⟨g, 2, none⟩ = some vp0 := by rw [cell_of_row w' g 2 _ _ _ hgx]; rfl
          have z2 : w'.frozen? ⟨g, 2, none⟩ = false := frozen_of_row _ _ 2 _ _ hgx
          have HO := Lib.hid ((NNl.out.trans h3 hfv').setCell (p := ⟨g, 2, none⟩) (fun _ => f1) (.slice av nv cv))
          have HB3 : Hid (World.rangeAt (w'.setCell ⟨g, 2, none⟩ (.slice av nv cv)) gb (ob + 128 * j) (bj.map bv)) := Lib.hid (range_same HB2.out (heap_setCell_other _ _ _ _ (fun e => hgb (by rw [show gb = g from e]; exact f1))))
          have HNR : Hid (blk (.slice av nv cv) = blk vp ∨ ∀ k, blk (.slice av nv cv) = some k → w.heap.size ≤ k) := by
            refine Lib.hid ?_
            rcases h4 with e | e
            · rcases HNEAR.out with e' | e'
              · exact .inl (e.trans e')
              · exact .inr (fun k hk => e' k (by rw [← e]; exact hk))
            · exact .inr (fun k hk => Nat.le_trans NNl.out.size (e k hk))
          clear h2 h3 h4 hgx hfv
          (apply ordT_only; (simp only [List.getElem?_toArray, List.getElem?_cons_succ, List.getElem?_cons_zero]; rfl); rfl; intro K hK)
          refine oper_append _ _ 65 rfl _ _ rfl rfl hr ?_
          clear hr
          refine hK.out _ _ (HB2.out) (fun _ => ?_)
          clear hK K
          try simp only [Act.put, List.setIfInBounds_toArray, List.set_cons_zero, List.set_cons_succ]
          iterate 2 (apply ordT_take; (simp only [List.getElem?_toArray, List.getElem?_cons_succ, List.getElem?_cons_zero]; rfl); rfl; (intro w hSw; (try dsimp only at hSw); go_simp; try with_reducible rfl); intro _; try simp only [Act.put, List.setIfInBounds_toArray, List.set_cons_zero, List.set_cons_succ])
          (apply ordT_only; (simp only [List.getElem?_toArray, List.getElem?_cons_succ, List.getElem?_cons_zero]; rfl); rfl; intro K hK)
          go_simp
          refine hK.out _ _ (HB3.out) (fun _ => ?_)
          clear hK K
          try simp only [Act.put, List.setIfInBounds_toArray, List.set_cons_zero, List.set_cons_succ]
          apply ordT_done
          go_wp2
          go_roundw
          case rel => exact ⟨j + 1, by omega, by go_num, _, by rw [chunks_succ, ← List.append_assoc, HPE.out, HSJ.out, HBJ.out]; exact ⟨HDs.out, HO.out, HNR.out⟩⟩
          case measure => simp [intOf]; omega
        · intro K hK
          refine wp_rowW (s := sj) (b := bj) rfl rfl HB.out ?_
          generalize hwl : World.alloc wd _ = wl
          have HR : Hid (wl.heap[wd.heap.size]? = some (.cells (wcells (sj, bj)).toArray 79 (0, 0))) := Lib.hid (by rw [← hwl]; exact heap_alloc_new _ _)
          have Nl : New wd wl := by rw [← hwl]; exact (Below.refl _ _).alloc (Nat.le_refl _) _
          have HDl := Lib.hid (HDd.out.new Nl)
          have NNl := Lib.hid (NNd.out.trans (Nl.only (F := F)) (fun _ _ h => h))
          have HBl := Lib.hid (range_same HBd.out (Nl.block _ (Nat.lt_of_lt_of_le HLT.out NNd.out.size)))
          clear hwl Nl
          generalize wd.heap.size = r at *
          refine hK.out _ _ (HBl.out) (fun _ => ?_)
          clear hK K
          try simp only [Act.put, List.setIfInBounds_toArray, List.set_cons_zero, List.set_cons_succ]
          (apply ordT_only; (simp only [List.getElem?_toArray, List.getElem?_cons_succ, List.getElem?_cons_zero]; rfl); rfl; intro K hK)
          obtain ⟨-, -, c2, -⟩ := HDl.out.cells
          go_simp
          clear c2
          refine hK.out _ _ (HBl.out) (fun _ => ?_)
          clear hK K
          try simp only [Act.put, List.setIfInBounds_toArray, List.set_cons_zero, List.set_cons_succ]
          obtain ⟨vp', w', hr, h2, h3, h4⟩ := run_append_write HDl.out.pend HB.out HP.out HR.out
          obtain ⟨av, nv, cv, rfl⟩ : ∃ a n c, vp' = .slice a n c := by
            rcases h2.2 with ⟨e, -⟩ | ⟨_, _, _, e, -⟩
            · exact ⟨_, _, _, e⟩
            · exact ⟨_, _, _, e⟩
          have HDs := Lib.hid (HDl.out.setPend (p := (sj, bj)) h3 h2 ⟨hsj, HB.out⟩ h4)
          have hgx : w'.heap[g]? = _ := (h3.block _ (lt_of_block HDl.out.blk) HDl.out.apart.2.2.1).trans HDl.out.blk
          have hfv : ∀ i, blk vp0 = some i → i < w.heap.size → F i := HF4.out
          have HB2 := Lib.hid (range_same HBl.out (h3.block _ (Nat.lt_of_lt_of_le HLT.out NNl.out.size) (fun e => hgb (hfv _ e HLT.out))))
          have c2 : w'.cell? ⟨g, 2, none⟩ = some vp0 := by rw [cell_of_row w' g 2 _ _ _ hgx]; rfl
          have z2 : w'.frozen? ⟨g, 2, none⟩ = false := frozen_of_row _ _ 2 _ _ hgx
          have HO := Lib.hid ((NNl.out.trans h3 hfv').setCell (p := ⟨g, 2, none⟩) (fun _ => f1) (.slice av nv cv))
          have HB3 : Hid (World.rangeAt (w'.setCell ⟨g, 2, none⟩ (.slice av nv cv)) gb (ob + 128 * j) (bj.map bv)) := Lib.hid (range_same HB2.out (heap_setCell_other _ _ _ _ (fun e => hgb (by rw [show gb = g from e]; exact f1))))
          have HNR : Hid (blk (.slice av nv cv) = blk vp ∨ ∀ k, blk (.slice av nv cv) = some k → w.heap.size ≤ k) := by
            refine Lib.hid ?_
            rcases h4 with e | e
            · rcases HNEAR.out with e' | e'
              · exact .inl (e.trans e')
              · exact .inr (fun k hk => e' k (by rw [← e]; exact hk))
            · exact .inr (fun k hk => Nat.le_trans NNl.out.size (e k hk))
          clear h2 h3 h4 hgx hfv
          (apply ordT_only; (simp only [List.getElem?_toArray, List.getElem?_cons_succ, List.getElem?_cons_zero]; rfl); rfl; intro K hK)
          refine oper_append _ _ 65 rfl _ _ rfl rfl hr ?_
          clear hr
          refine hK.out _ _ (HB2.out) (fun _ => ?_)
          clear hK K
          try simp only [Act.put, List.setIfInBounds_toArray, List.set_cons_zero, List.set_cons_succ]
          iterate 2 (apply ordT_take; (simp only [List.getElem?_toArray, List.getElem?_cons_succ, List.getElem?_cons_zero]; rfl); rfl; (intro w hSw; (try dsimp only at hSw); go_simp; try with_reducible rfl); intro _; try simp only [Act.put, List.setIfInBounds_toArray, List.set_cons_zero, List.set_cons_succ])
          (apply ordT_only; (simp only [List.getElem?_toArray, List.getElem?_cons_succ, List.getElem?_cons_zero]; rfl); rfl; intro K hK)
          go_simp
          refine hK.out _ _ (HB3.out) (fun _ => ?_)
          clear hK K
          try simp only [Act.put, List.setIfInBounds_toArray, List.set_cons_zero, List.set_cons_succ]
          apply ordT_done
          go_wp2
          go_roundw
          case rel => exact ⟨j + 1, by omega, by go_num, _, by rw [chunks_succ, ← List.append_assoc, HPE.out, HSJ.out, HBJ.out]; exact ⟨HDs.out, HO.out, HNR.out⟩⟩
          case measure => simp [intOf]; omega
    · obtain rfl : j = m := by omega
      have HI := Lib.hid hin
      clear hin HPI
      obtain ⟨-, c1, -, -⟩ := HI.out.dsk.cells
      have hcap := HI.out.dsk.capL
      have hlen := HI.out.dsk.lenL
      have HPL : Hid (∀ wx, Calls Try.prog 37 #[.slice (some ⟨gl, 0, none⟩) (128 * n) cl, .int .i64 (s : Int), .int .i64 (j : Int)] wx fun e w' => e = .returned (.slice (some ⟨gl, 128 * s, none⟩) M (cl - 128 * s)) ∧ wx = w') := by
        refine Lib.hid (fun wx => ?_)
        have := diskPieceN wx gl 0 (128 * n) cl s j (by omega) (by omega)
        rw [pieceAt_pos (m := j) (by omega) hm, Nat.zero_add, HM.out] at this
        exact this
      have hrd : Rd wr (.slice (some ⟨gb, ob, none⟩) M cb) b := HRB.out.only HI.out.only (fun k hk _ => by cases hk; exact hgb)
      have hMl := HM.out
      obtain ⟨wz, hcp, hz1, hz2⟩ := run_copy_any (cd := cl - 128 * s) HI.out.dsk.rowL (s := s) (m := M) (by omega) HBL.out (by omega) hrd
      have HZ := Lib.hid (HI.out.dsk.setL hz2 hz1 (by rw [lay_length (by rw [HBL.out]; omega)]; exact hlen))
      have HZO := Lib.hid (HI.out.only.trans hz2 (fun i _ hi => by rw [show i = gl from hi]; exact f3))
      clear hz1 hz2 hrd hcap hlen hMl
      generalize cl - 128 * s = t1 at *
      generalize 128 * s = t2 at *
      generalize 128 * n = t3 at c1 HPL
      go_wp2_with fail
      refine (HPL.out wr).mono ?_
      rintro e w1 ⟨rfl, rfl⟩
      go_wp2
      go_ret
      refine ⟨rfl, ⟨gd, gl, cd, cl, vp0, HZ.out, .inl f1, .inl f2, .inl f3, fun k hk => ?_⟩, HZO.out⟩
      rcases HI.out.near with e | e
      · exact .inl (hf4.out k (by rw [← e]; exact hk))
      · exact .inr (e k hk)

/-- no whole sectors -/
theorem diskWriteArg (w : World) (a : Int) (g : Nat) (ax : Option Addr) (m c : Nat) (hm : m ≤ 9223372036854775807) (h : m % 128 ≠ 0) :
    Calls Try.prog 45 #[.pointer (some ⟨g, 0, none⟩), .int .i64 a, .slice ax m c] w fun e w' => e = .returned (.int .i64 2) ∧ w = w' := by
  have HS := Lib.hid (diskSectors w ax m c hm)
  rw [show decide (m % 128 = 0) = false by simpa using h] at HS
  generalize m / 128 = k at *
  clear h hm
  go_enter Try.func45, Try.ntmps45
  go_wp2_with fail
  refine HS.out.mono ?_
  rintro e w1 ⟨rfl, rfl⟩
  go_wp2
  go_ret
  exact ⟨rfl, rfl⟩

/-- sectors that there aren't -/
theorem diskWriteRange {q : Int} {w : World} {n g : Nat} {F : Nat → Prop} {D L : List UInt8} {P : List Wr} (hD : Dvc q w n g F D L P) (a : Int) (ha : a ≤ 9223372036854775807) (ax : Option Addr) (m c : Nat) (hm : 128 * m ≤ 9223372036854775807) (h : ¬ (0 ≤ a ∧ (m : Int) ≤ (n : Int) - a)) :
    Calls Try.prog 45 #[.pointer (some ⟨g, 0, none⟩), .int .i64 a, .slice ax (128 * m) c] w fun e w' => e = .returned (.int .i64 20) ∧ w = w' := by
  obtain ⟨gd, gl, cd, cl, vp, h0, -⟩ := hD
  have HS := diskSectors w ax (128 * m) c hm
  rw [show 128 * m / 128 = m by omega, show decide (128 * m % 128 = 0) = true by simp] at HS
  replace HS := Lib.hid HS
  have HH := Lib.hid (diskHasN h0 a (m : Int) ha)
  rw [show decide (0 ≤ a ∧ 0 ≤ (m : Int) ∧ (m : Int) ≤ (n : Int) - a) = false by simp; omega] at HH
  clear h0 h hm
  generalize 128 * m = k at *
  go_enter Try.func45, Try.ntmps45
  go_wp2_with fail
  refine HS.out.mono ?_
  rintro e w1 ⟨rfl, rfl⟩
  go_wp2_with fail
  refine HH.out.mono ?_
  rintro e w1 ⟨rfl, rfl⟩
  go_wp2
  go_ret
  exact ⟨rfl, rfl⟩

/-- the power is off -/
theorem diskWriteOff {w : World} {n g : Nat} {F : Nat → Prop} {D L : List UInt8} {P : List Wr} (hD : Dvc 0 w n g F D L P) (s m : Nat) (hs : s + m ≤ n) (ax : Option Addr) (c : Nat) :
    Calls Try.prog 45 #[.pointer (some ⟨g, 0, none⟩), .int .i64 (s : Int), .slice ax (128 * m) c] w fun e w' => e = .returned (.int .i64 22) ∧ DvcTo 0 w n g F D L P w' := by
  obtain ⟨gd, gl, cd, cl, vp, h0, f1, f2, f3, f4⟩ := hD
  have hfew := h0.few
  have HS := diskSectors w ax (128 * m) c (by omega)
  rw [show 128 * m / 128 = m by omega, show decide (128 * m % 128 = 0) = true by simp] at HS
  replace HS := Lib.hid HS
  have HH := Lib.hid (diskHasN h0 (s : Int) (m : Int) (by omega))
  rw [show decide (0 ≤ (s : Int) ∧ 0 ≤ (m : Int) ∧ (m : Int) ≤ (n : Int) - (s : Int)) = true by simp; omega] at HH
  have HX : Hid (Calls Try.prog 55 #[.pointer (some ⟨g, 0, none⟩)] w fun e w' => e = .returned (.bool false) ∧ Dsk 0 w' n g gd gl cd cl vp D L P ∧ Only (fun k => k = g) w w') := Lib.hid (diskCall h0)
  clear h0
  generalize 128 * m = k at *
  go_enter Try.func45, Try.ntmps45
  go_wp2_with fail
  refine HS.out.mono ?_
  rintro e w1 ⟨rfl, rfl⟩
  go_wp2_with fail
  refine HH.out.mono ?_
  rintro e w1 ⟨rfl, rfl⟩
  go_wp2_with fail
  refine HX.out.mono ?_
  rintro e w1 ⟨rfl, hd1, ho1⟩
  have HD1 := Lib.hid hd1
  have HO1 := Lib.hid ho1
  clear hd1 ho1
  go_wp2
  go_ret
  exact ⟨rfl, ⟨gd, gl, cd, cl, vp, HD1.out, .inl f1, .inl f2, .inl f3, fun k hk => .inl (f4 k hk)⟩, HO1.out.mono (fun i _ hi => by rw [show i = g from hi]; exact f1)⟩

/-- one sector, no limit -/
theorem diskWrite {w : World} {n g : Nat} {F : Nat → Prop} {D L : List UInt8} {P : List Wr} (hD : Dev w n g F D L P) (s : Nat) (hs : s < n) (gb cb : Nat) (b : List UInt8) (hrb : RowB w gb b) (hb : b.length = 128) (hc : 128 ≤ cb ∧ cb ≤ maxLen) (hgb : ¬ F gb) (hP : P.length ≤ 100000) :
    Calls Try.prog 45 #[.pointer (some ⟨g, 0, none⟩), .int .i64 (s : Int), .slice (some ⟨gb, 0, none⟩) 128 cb] w fun e w' => e = .returned (.int .i64 0) ∧ DevTo w n g F D (lay L s b) (P ++ [(s, b)]) w' := by
  have hrd := hrb.rd (c := cb) (by rw [hb]; exact hc.1) hc.2
  rw [hb] at hrd
  have := diskWriteN hD (by decide) s 1 (by omega) (by decide) gb 0 cb b hrd hgb (by omega)
  rw [chunks_one s hb] at this
  exact this

end Go.Proofs.Ytnekcdpfphgpbaa

namespace Go.Proofs.Ytnekcdpfphgpbaa
set_option linter.unusedVariables false
set_option linter.unusedSimpArgs false
open Go.RowKit

theorem arr128 : Try.prog.underlying 77 = some (.array (Try.prog.arrayLen 77) (Try.prog.elem 77)) := by kernel_rfl
theorem arr128_len : Try.prog.arrayLen 77 = 128 := by kernel_rfl
theorem arr128_size (w : World) : (sizeOf (Try.prog.elem 77)).run Try.prog w = .ok 1 w := by kernel_rfl

/-- contents[:] of a write in a block of its own -/
theorem arr128_all (wx : World) (p : Nat) : (Instr.sliceAt 77 (.pointer (some ⟨p, 1, none⟩)) none none none).run Try.prog wx = .ok (.slice (some ⟨p, 1, none⟩) 128 128) wx := by
  rw [run_sliceAt_array_all wx _ _ arr128, arr128_size, arr128_len]
  simp only [Result.andThen_ok, slicedAt]
  rfl

/-- a write in a block of its own -/
def WrAt (w : World) (x : Nat) (p : Wr) : Prop := w.heap[x]? = some (.cells (wcells p).toArray 79 (0, 0))

theorem WrAt.cell {w : World} {x : Nat} {p : Wr} (h : WrAt w x p) : w.cell? ⟨x, 0, none⟩ = some (.int .i64 (p.1 : Int)) := by
  rw [cell_of_row w x 0 _ _ _ h]; rfl

theorem WrAt.rd {w : World} {x : Nat} {p : Wr} (h : WrAt w x p) (hb : p.2.length = 128) : Rd w (.slice (some ⟨x, 1, none⟩) 128 128) p.2 := by
  refine ⟨_, _, _, rfl, hb, Nat.le_refl _, by decide, (fun h => by cases h), fun ad had i u hu => ?_⟩
  cases had
  rw [Addr.add_mid, cell_of_row _ _ _ _ _ _ h, List.getElem?_toArray, Nat.add_comm 1 i]
  unfold wcells
  rw [List.getElem?_cons_succ, List.getElem?_map, hu]
  rfl

theorem WrAt.only {F : Nat → Prop} {w w' : World} {x : Nat} {p : Wr} (h : WrAt w x p) (ho : Only F w w') (hx : ¬ F x) : WrAt w' x p := (ho.block x (lt_of_block h) hx).trans h

/-- what perform's region reads -/
def Two (g x : Nat) (u v : Value) (w : World) : Prop := w.cell? ⟨g, 0, none⟩ = some u ∧ w.cell? ⟨x, 0, none⟩ = some v

set_option maxRecDepth 100000 in
set_option maxHeartbeats 4000000 in
theorem diskPerform {q : Int} {w : World} {n g gd gl cd cl : Nat} {vp : Value} {D L : List UInt8} {P : List Wr} (h0 : Dsk q w n g gd gl cd cl vp D L P) (p : Wr) (hp : p.1 < n ∧ p.2.length = 128) :
    Calls Try.prog 31 #[.pointer (some ⟨g, 0, none⟩), .agg (wcells p).toArray] w fun e w' => e = .returned (.tuple #[]) ∧ Dsk q w' n g gd gl cd cl vp (lay D p.1 p.2) L P ∧ Only (fun k => k = gd) w w' := by
  have hfew := h0.few
  have hcap := h0.capD
  have HD := Lib.hid h0
  have HP := Lib.hid hp
  have HPI : Hid (∀ wx, Calls Try.prog 37 #[.slice (some ⟨gd, 0, none⟩) (128 * n) cd, .int .i64 (p.1 : Int), .int .i64 1] wx fun e w' => e = .returned (.slice (some ⟨gd, 128 * p.1, none⟩) 128 (cd - 128 * p.1)) ∧ wx = w') :=
    Lib.hid (fun wx => diskPiece wx gd (128 * n) cd p.1 (by omega) (by omega))
  clear h0 hp
  have ha := arr128_all
  go_enter Try.func31, Try.ntmps31
  go_wp2_with fail
  generalize hw1 : World.alloc w _ = w1
  have HX : Hid (WrAt w1 w.heap.size p) := Lib.hid (by rw [← hw1]; exact heap_alloc_new _ _)
  have N1 : New w w1 := by rw [← hw1]; exact (Below.refl _ _).alloc (Nat.le_refl _) _
  have HD1 := Lib.hid (HD.out.new N1)
  have HN1 := Lib.hid N1
  have hlt : w.heap.size ≠ gd := by have := HD.out.rowD.lt; omega
  clear hw1 N1
  generalize w.heap.size = x at *
  have HX2 := Lib.hid (HX.out.only (New.only (F := fun _ => False) ((Below.refl _ w1).drew)) (fun f => f))
  have HD2 := Lib.hid HD1.out.drew
  refine region_ord (Two g x (.slice (some ⟨gd, 0, none⟩) (128 * n) cd) (.int .i64 (p.1 : Int))) [(0, true), (1, true), (2, true), (3, true), (4, true), (5, true), (7, true), (8, true), (6, false), (9, false)] (by kernel_rfl) (by kernel_rfl) ⟨HD2.out.cells.1, HX2.out.cell⟩ (fun _ => ?_)
  have HO2 : Hid (Only (fun k => k = gd) w w1.drew) := Lib.hid (New.only HN1.out).drew
  clear HX HD1
  generalize w1.drew = w2 at *
  unfold Two
  generalize hm : 128 * n = m at *
  iterate 8 (apply ord_take; (simp only [List.getElem?_toArray, List.getElem?_cons_succ, List.getElem?_cons_zero]; rfl); rfl; (intro w hSw; (try dsimp only at hSw); go_simp; try with_reducible rfl); intro _; try simp only [Act.put, List.setIfInBounds_toArray, List.set_cons_zero, List.set_cons_succ])
  (apply ord_only; (simp only [List.getElem?_toArray, List.getElem?_cons_succ, List.getElem?_cons_zero]; rfl); rfl; intro K hK)
  go_simp
  refine (HPI.out w2).mono ?_
  rintro e w3 ⟨rfl, rfl⟩
  refine hK.out _ _ (⟨hm ▸ HD2.out.cells.1, HX2.out.cell⟩) (fun _ => ?_)
  clear hK K
  try simp only [Act.put, List.setIfInBounds_toArray, List.set_cons_zero, List.set_cons_succ]
  (apply ord_only; (simp only [List.getElem?_toArray, List.getElem?_cons_succ, List.getElem?_cons_zero]; rfl); rfl; intro K hK)
  have hlen := HD2.out.lenD
  have hpn := HP.out.1
  obtain ⟨wz, hcp, hz1, hz2⟩ := run_copy_sec (cd := cd - 128 * p.1) HD2.out.rowD (s := p.1) (by omega) HP.out.2 (HX2.out.rd HP.out.2)
  have HZ := Lib.hid (HD2.out.setD hz2 hz1 (by rw [lay_length (by rw [HP.out.2]; omega)]; exact hlen))
  have HXZ := Lib.hid (HX2.out.only hz2 (fun e => hlt e))
  have HOZ := Lib.hid (HO2.out.trans hz2 (fun i _ hi => hi))
  clear hz1 hz2
  go_simp
  refine hK.out _ _ (⟨hm ▸ HZ.out.cells.1, HXZ.out.cell⟩) (fun _ => ?_)
  clear hK K
  try simp only [Act.put, List.setIfInBounds_toArray, List.set_cons_zero, List.set_cons_succ]
  apply ord_done
  go_wp2
  go_end0
  exact ⟨rfl, HZ.out, HOZ.out⟩

/-- the zero value of a write -/
def zWr : Array Value := (wcells (0, List.replicate 128 0)).toArray

theorem zWr_run (w : World) : (zeroValue 79).run Try.prog w = .ok (.agg zWr) w := by kernel_rfl

theorem zWr_size : zWr.size = 129 := by simp [zWr, wcells]

theorem infoWrSize : (Try.prog.info? 79).map (·.size) = some 129 := by kernel_rfl

set_option maxRecDepth 100000 in
set_option maxHeartbeats 4000000 in
theorem diskFlushN {q : Int} {w : World} {n g : Nat} {F : Nat → Prop} {D L : List UInt8} {P : List Wr} (hD : Dvc q w n g F D L P) (hq : q ≠ 0) :
    Calls Try.prog 46 #[.pointer (some ⟨g, 0, none⟩)] w fun e w' => e = .returned (.int .i64 0) ∧ DvcTo (nextQ q) w n g F (layAll D P) L [] w' := by
  obtain ⟨gd, gl, cd, cl, vp, h0, f1, f2, f3, f4⟩ := hD
  have HX : Hid (Calls Try.prog 55 #[.pointer (some ⟨g, 0, none⟩)] w fun e w' => e = .returned (.bool true) ∧ Dsk (nextQ q) w' n g gd gl cd cl vp D L P ∧ Only (fun k => k = g) w w') := by
    have := diskCall h0
    rw [show decide (q ≠ 0) = true by simpa using hq] at this
    exact Lib.hid this
  have hPl := h0.lenP
  obtain ⟨ap, kp, rfl⟩ := h0.vp_slice
  clear h0 hq
  go_enter Try.func46, Try.ntmps46
  go_wp2_with fail
  refine HX.out.mono ?_
  rintro e w1 ⟨rfl, hd1, ho1⟩
  obtain ⟨-, -, c2, -⟩ := hd1.cells
  have HD := Lib.hid hd1
  have HO0 := Lib.hid (ho1.mono (G := fun k => k = gd ∨ k = g) (fun i _ hi => .inr hi))
  clear HX hd1 ho1
  go_wp2
  clear c2
  go_loopw [13] (fun i wr => ∃ j : Nat, j ≤ P.length ∧ i = .int .i64 j ∧ Dsk (nextQ q) wr n g gd gl cd cl (.slice ap P.length kp) (layAll D (P.take j)) L P ∧ Only (fun k => k = gd ∨ k = g) w wr) (fun i _ => P.length - (intOf i).toNat)
  case atStart => exact ⟨0, Nat.zero_le _, rfl, HD.out, HO0.out⟩
  case round =>
    obtain ⟨j, hj, rfl, hin, ho⟩ := hrel
    by_cases hlt : j < P.length
    · obtain ⟨b, c, he, hr⟩ := hin.at (j := j) (p := P[j]) (List.getElem?_eq_getElem hlt)
      cases he
      have HR := Lib.hid hr
      have HI := Lib.hid hin
      clear hr hin
      have HW : Hid (P[j].1 < n ∧ P[j].2.length = 128) := Lib.hid (HD.out.ok _ (List.getElem_mem hlt))
      have HPJ : Hid (P[j]? = some P[j]) := Lib.hid (List.getElem?_eq_getElem hlt)
      generalize P[j] = p at *
      have hz := zWr_run
      go_upto_region 6 with (first | refine wpList_load_mid rfl 79 _ rfl b (j * 129) rfl _ _ HR.out Try.underlying79 rfl (by rw [wcells_length HW.out.2]; exact infoWrSize) ?_ | refine wpList_store_row rfl 79 _ _ rfl wr.heap.size (wcells p).toArray rfl rfl _ _ (heap_alloc_new _ _) (by rw [List.size_toArray, wcells_length HW.out.2]; exact infoWrSize) (by rw [zWr_size, List.size_toArray, wcells_length HW.out.2]) (all_oneCell_toArray (wcells_one p)) ?_)
      generalize hw1 : World.setRow _ _ _ = w1
      have HX : Hid (WrAt w1 wr.heap.size p) := Lib.hid (by rw [← hw1]; exact setRow_heap _ _ _ _ _ _ (heap_alloc_new _ _))
      have N1 : New wr w1 := by rw [← hw1]; exact below_setRow ((Below.refl _ _).alloc (Nat.le_refl _) _) (Nat.le_refl _) _
      have HI1 := Lib.hid (HI.out.new N1)
      have HO1 := Lib.hid (ho.trans (New.only (F := fun k => k = gd ∨ k = g) N1) (fun i _ hi => hi))
      clear hw1 N1 HI ho HR hz
      generalize wr.heap.size = x at *
      go_wp2_with (refine wpList_load_row rfl 79 _ rfl x rfl _ _ _ _ HX.out Try.underlying79 rfl (by rw [List.size_toArray, wcells_length HW.out.2]; exact infoWrSize) ?_)
      refine (diskPerform HI1.out p HW.out).mono ?_
      rintro e w2 ⟨rfl, hd2, ho2⟩
      have HI2 := Lib.hid hd2
      have HO2 := Lib.hid (HO1.out.trans ho2 (fun i _ hi => .inl hi))
      clear hd2 ho2 HI1 HO1
      go_wp2
      go_roundw
      case rel => exact ⟨j + 1, by omega, by go_num, by rw [layAll_take _ _ _ _ HPJ.out]; exact HI2.out, HO2.out⟩
      case measure => simp [intOf]; omega
    · obtain rfl : j = P.length := by omega
      rw [List.take_of_length_le (Nat.le_refl _)] at hin
      have HI := Lib.hid hin
      have HO := Lib.hid ho
      clear hin ho
      obtain ⟨-, -, c2, -⟩ := HI.out.cells
      have z2 := HI.out.free 2
      have HN := Lib.hid HI.out.setNil
      have HON := Lib.hid ((HO.out.mono (G := F) (fun i _ hi => by rcases hi with e | e; exact e ▸ f2; exact e ▸ f1)).setCell (p := ⟨g, 2, none⟩) (fun _ => f1) (.slice none 0 0))
      go_wp2
      go_ret
      exact ⟨rfl, ⟨gd, gl, cd, cl, _, HN.out, .inl f1, .inl f2, .inl f3, fun k hk => by cases hk⟩, HON.out⟩

theorem diskFlush {w : World} {n g : Nat} {F : Nat → Prop} {D L : List UInt8} {P : List Wr} (hD : Dev w n g F D L P) :
    Calls Try.prog 46 #[.pointer (some ⟨g, 0, none⟩)] w fun e w' => e = .returned (.int .i64 0) ∧ DevTo w n g F (layAll D P) L [] w' :=
  diskFlushN hD (by decide)

/-- the power is off -/
theorem diskFlushOff {w : World} {n g : Nat} {F : Nat → Prop} {D L : List UInt8} {P : List Wr} (hD : Dvc 0 w n g F D L P) :
    Calls Try.prog 46 #[.pointer (some ⟨g, 0, none⟩)] w fun e w' => e = .returned (.int .i64 22) ∧ DvcTo 0 w n g F D L P w' := by
  obtain ⟨gd, gl, cd, cl, vp, h0, f1, f2, f3, f4⟩ := hD
  have HX : Hid (Calls Try.prog 55 #[.pointer (some ⟨g, 0, none⟩)] w fun e w' => e = .returned (.bool false) ∧ Dsk 0 w' n g gd gl cd cl vp D L P ∧ Only (fun k => k = g) w w') := Lib.hid (diskCall h0)
  clear h0
  go_enter Try.func46, Try.ntmps46
  go_wp2_with fail
  refine HX.out.mono ?_
  rintro e w1 ⟨rfl, hd1, ho1⟩
  have HD1 := Lib.hid hd1
  have HO1 := Lib.hid ho1
  clear hd1 ho1
  go_wp2
  go_ret
  exact ⟨rfl, ⟨gd, gl, cd, cl, vp, HD1.out, .inl f1, .inl f2, .inl f3, fun k hk => .inl (f4 k hk)⟩, HO1.out.mono (fun i _ hi => by rw [show i = g from hi]; exact f1)⟩

/-- Limit -/
theorem diskLimit {q : Int} {w : World} {n g : Nat} {F : Nat → Prop} {D L : List UInt8} {P : List Wr} (hD : Dvc q w n g F D L P) (r : Int) (hr : -9223372036854775808 ≤ r ∧ r ≤ 9223372036854775807) :
    Calls Try.prog 10 #[.pointer (some ⟨g, 0, none⟩), .int .i64 r] w fun e w' => e = .returned (.tuple #[]) ∧ DvcTo r w n g F D L P w' := by
  obtain ⟨gd, gl, cd, cl, vp, h0, f1, f2, f3, f4⟩ := hD
  obtain ⟨-, -, -, c3⟩ := h0.cells
  have z3 := h0.free 3
  have HS := Lib.hid (h0.setLeft r hr)
  clear h0
  go_enter Try.func10, Try.ntmps10
  go_wp2
  go_end0
  exact ⟨rfl, ⟨gd, gl, cd, cl, vp, HS.out, .inl f1, .inl f2, .inl f3, fun k hk => .inl (f4 k hk)⟩, (Only.refl F _).setCell (p := ⟨g, 3, none⟩) (fun _ => f1) _⟩

end Go.Proofs.Ytnekcdpfphgpbaa

namespace Go.Proofs.Ytnekcdpfphgpbaa
set_option linter.unusedVariables false
set_option linter.unusedSimpArgs false
open Go.RowKit

/-- what lose's region reads -/
def Three (g x : Nat) (u v y : Value) (w : World) : Prop := w.cell? ⟨g, 0, none⟩ = some u ∧ w.cell? ⟨g, 1, none⟩ = some v ∧ w.cell? ⟨x, 0, none⟩ = some y

set_option maxRecDepth 100000 in
set_option maxHeartbeats 4000000 in
theorem diskLose {q : Int} {w : World} {n g gd gl cd cl : Nat} {vp : Value} {D L : List UInt8} {P : List Wr} (h0 : Dsk q w n g gd gl cd cl vp D L P) :
    Calls Try.prog 32 #[.pointer (some ⟨g, 0, none⟩)] w fun e w' => e = .returned (.tuple #[]) ∧ Dsk q w' n g gd gl cd cl (.slice none 0 0) D (loseAll D P L) [] ∧ Only (fun k => k = gl ∨ k = g) w w' := by
  have HD := Lib.hid h0
  have hPl := h0.lenP
  have hfew := h0.few
  have hcapD := h0.capD
  have hcapL := h0.capL
  obtain ⟨ap, kp, rfl⟩ := h0.vp_slice
  obtain ⟨-, -, c2, -⟩ := h0.cells
  clear h0
  have HPI : Hid (∀ wx (b c s : Nat), s < n → 128 * n ≤ c → Calls Try.prog 37 #[.slice (some ⟨b, 0, none⟩) (128 * n) c, .int .i64 (s : Int), .int .i64 1] wx fun e w' => e = .returned (.slice (some ⟨b, 128 * s, none⟩) 128 (c - 128 * s)) ∧ wx = w') :=
    Lib.hid (fun wx b c s h1 h2 => diskPiece wx b (128 * n) c s (by omega) (by omega))
  go_enter Try.func32, Try.ntmps32
  go_wp2
  clear c2
  go_loopw [9] (fun i wr => ∃ j : Nat, j ≤ P.length ∧ i = .int .i64 j ∧ Dsk q wr n g gd gl cd cl (.slice ap P.length kp) D (loseAll D (P.take j) L) P ∧ Only (fun k => k = gl) w wr) (fun i _ => P.length - (intOf i).toNat)
  case atStart => exact ⟨0, Nat.zero_le _, rfl, HD.out, Only.refl _ _⟩
  case round =>
    obtain ⟨j, hj, rfl, hin, ho⟩ := hrel
    by_cases hlt : j < P.length
    · obtain ⟨b, c, he, hr⟩ := hin.at (j := j) (p := P[j]) (List.getElem?_eq_getElem hlt)
      cases he
      have HR := Lib.hid hr
      have HI := Lib.hid hin
      clear hr hin
      have HW : Hid (P[j].1 < n ∧ P[j].2.length = 128) := Lib.hid (HD.out.ok _ (List.getElem_mem hlt))
      have HPJ : Hid (P[j]? = some P[j]) := Lib.hid (List.getElem?_eq_getElem hlt)
      generalize P[j] = p at *
      have hz := zWr_run
      go_upto_region 3 with (first | refine wpList_load_mid rfl 79 _ rfl b (j * 129) rfl _ _ HR.out Try.underlying79 rfl (by rw [wcells_length HW.out.2]; exact infoWrSize) ?_ | refine wpList_store_row rfl 79 _ _ rfl wr.heap.size (wcells p).toArray rfl rfl _ _ (heap_alloc_new _ _) (by rw [List.size_toArray, wcells_length HW.out.2]; exact infoWrSize) (by rw [zWr_size, List.size_toArray, wcells_length HW.out.2]) (all_oneCell_toArray (wcells_one p)) ?_)
      generalize hw1 : World.setRow _ _ _ = w1
      have HX : Hid (WrAt w1 wr.heap.size p) := Lib.hid (by rw [← hw1]; exact setRow_heap _ _ _ _ _ _ (heap_alloc_new _ _))
      have N1 : New wr w1 := by rw [← hw1]; exact below_setRow ((Below.refl _ _).alloc (Nat.le_refl _) _) (Nat.le_refl _) _
      have HI1 := Lib.hid (HI.out.new N1)
      have HO1 := Lib.hid (ho.trans (New.only (F := fun k => k = gl) N1) (fun i _ hi => hi))
      have hne : wr.heap.size ≠ gl := by have := HI.out.rowL.lt; omega
      clear hw1 N1 HI ho HR hz
      generalize wr.heap.size = x at *
      have HX2 := Lib.hid (HX.out.only (New.only (F := fun _ => False) ((Below.refl _ w1).drew)) (fun f => f))
      have HI2 := Lib.hid HI1.out.drew
      have HO2 : Hid (Only (fun k => k = gl) w w1.drew) := Lib.hid HO1.out.drew
      refine region_ord (Three g x (.slice (some ⟨gd, 0, none⟩) (128 * n) cd) (.slice (some ⟨gl, 0, none⟩) (128 * n) cl) (.int .i64 (p.1 : Int))) [(0, true), (1, true), (2, true), (3, true), (4, true), (5, true), (7, true), (8, true), (9, true), (10, true), (11, true), (12, true), (6, false), (13, false), (14, false)] (by kernel_rfl) (by kernel_rfl) ⟨HI2.out.cells.1, HI2.out.cells.2.1, HX2.out.cell⟩ (fun _ => ?_)
      clear HX HI1 HO1
      generalize w1.drew = w2 at *
      unfold Three
      have HP1 := Lib.hid (HPI.out w2 gl cl p.1 HW.out.1 hcapL.1)
      have HP2 := Lib.hid (HPI.out w2 gd cd p.1 HW.out.1 hcapD.1)
      generalize hm : 128 * n = m at *
      iterate 12 (apply ord_take; (simp only [List.getElem?_toArray, List.getElem?_cons_succ, List.getElem?_cons_zero]; rfl); rfl; (intro w hSw; (try dsimp only at hSw); go_simp; try with_reducible rfl); intro _; try simp only [Act.put, List.setIfInBounds_toArray, List.set_cons_zero, List.set_cons_succ])
      (apply ord_only; (simp only [List.getElem?_toArray, List.getElem?_cons_succ, List.getElem?_cons_zero]; rfl); rfl; intro K hK)
      go_simp
      refine HP1.out.mono ?_
      rintro e w3 ⟨rfl, rfl⟩
      refine hK.out _ _ (⟨hm ▸ HI2.out.cells.1, hm ▸ HI2.out.cells.2.1, HX2.out.cell⟩) (fun _ => ?_)
      clear hK K
      try simp only [Act.put, List.setIfInBounds_toArray, List.set_cons_zero, List.set_cons_succ]
      (apply ord_only; (simp only [List.getElem?_toArray, List.getElem?_cons_succ, List.getElem?_cons_zero]; rfl); rfl; intro K hK)
      go_simp
      refine HP2.out.mono ?_
      rintro e w3 ⟨rfl, rfl⟩
      refine hK.out _ _ (⟨hm ▸ HI2.out.cells.1, hm ▸ HI2.out.cells.2.1, HX2.out.cell⟩) (fun _ => ?_)
      clear hK K
      try simp only [Act.put, List.setIfInBounds_toArray, List.set_cons_zero, List.set_cons_succ]
      (apply ord_only; (simp only [List.getElem?_toArray, List.getElem?_cons_succ, List.getElem?_cons_zero]; rfl); rfl; intro K hK)
      have hpn := HW.out.1
      have hs128 : Hid ((sec D p.1).length = 128) := Lib.hid (sec_length (by have := HI2.out.lenD; omega))
      obtain ⟨wz, hcp, hz1, hz2⟩ := run_copy_sec (cd := cl - 128 * p.1) (cs := cd - 128 * p.1) HI2.out.rowL (s := p.1) (by have := HI2.out.lenL; omega) hs128.out (HI2.out.rowD.rdSec (c := cd - 128 * p.1) (by have := HI2.out.lenD; omega) (by omega) (by have := hcapD.2; omega))
      have HZ := Lib.hid (HI2.out.setL hz2 hz1 (by rw [lay_length (by rw [hs128.out]; have := HI2.out.lenL; omega)]; exact HI2.out.lenL))
      have HXZ := Lib.hid (HX2.out.only hz2 (fun e => hne e))
      have HOZ := Lib.hid (HO2.out.trans hz2 (fun i _ hi => hi))
      clear hz1 hz2 hpn hs128
      go_simp
      clear hcp
      refine hK.out _ _ (⟨hm ▸ HZ.out.cells.1, hm ▸ HZ.out.cells.2.1, HXZ.out.cell⟩) (fun _ => ?_)
      clear hK K
      try simp only [Act.put, List.setIfInBounds_toArray, List.set_cons_zero, List.set_cons_succ]
      apply ord_done
      go_wp2
      go_roundw
      case rel => exact ⟨j + 1, by omega, by go_num, by rw [loseAll_take _ _ _ _ _ HPJ.out]; exact HZ.out, HOZ.out⟩
      case measure => simp [intOf]; omega
    · obtain rfl : j = P.length := by omega
      rw [List.take_of_length_le (Nat.le_refl _)] at hin
      have HI := Lib.hid hin
      have HO := Lib.hid ho
      clear hin ho
      obtain ⟨-, -, c2, -⟩ := HI.out.cells
      have z2 := HI.out.free 2
      have HN := Lib.hid HI.out.setNil
      have HON := Lib.hid ((HO.out.mono (G := fun k => k = gl ∨ k = g) (fun i _ hi => .inl hi)).setCell (p := ⟨g, 2, none⟩) (fun _ => .inr rfl) (.slice none 0 0))
      go_wp2
      go_end0
      exact ⟨rfl, HN.out, HON.out⟩

theorem infoBool10 : (Try.prog.info? 4).map (fun i => (i.zero, i.size, i.bytes)) = some (some (.bool false), 1, 1) := by kernel_rfl

/-- make([]bool, m) -/
theorem run_makeBools (m : Nat) (hm : m ≤ 281474976710656) (wx : World) :
    (Instr.makeSlice 35 (.int .i64 (m : Int)) (.int .i64 (m : Int))).run Try.prog wx = .ok (.slice (some ⟨wx.heap.size, 0, none⟩) m m) (wx.alloc (.cells ((List.replicate m false).map Value.bool).toArray 4)) := by
  obtain ⟨i0, hi0, hz0, hz1, hz2⟩ := info_parts infoBool10
  have h := run_make (P := Try.prog) wx 35 4 i0 _ Try.underlying35 hi0 hz0 .i64 .i64 (m : Int) (m : Int) (by omega) (by omega) (by rw [hz2]; omega) (by omega)
  rw [h, hz1, Nat.mul_one]
  have e : madeCells (Value.bool false).cells m = ((List.replicate m false).map Value.bool).toArray := by
    apply Array.ext
    · simp [size_madeCells]
    · intro i h1 h2
      simp [madeCells, Value.cells, Nat.mod_one]
  simp only [Int.toNat_natCast]
  rw [e]

theorem crStep_count (P : List Wr) (st : Cr) (i : Int) : (crStep P st i).2.1 ≤ st.2.1 + 1 := by
  unfold crStep
  split
  · omega
  · exact Nat.le_refl _

theorem crFold_count (P : List Wr) (keep : List Int) : ∀ st : Cr, (keep.foldl (crStep P) st).2.1 ≤ st.2.1 + keep.length := by
  induction keep with
  | nil => intro st; exact Nat.le_refl _
  | cons i r ih =>
    intro st
    have h1 := ih (crStep P st i)
    have h2 := crStep_count P st i
    simp only [List.foldl_cons, List.length_cons]
    omega

theorem crAll_count (P : List Wr) (d : List UInt8) (keep : List Int) : (crAll P d keep).2.1 ≤ keep.length := by
  have := crFold_count P keep (List.replicate P.length false, 0, d)
  unfold crAll
  simpa using this

/-- in the midst of a crash: the marks lie in block mb -/
structure CrIn (q : Int) (w : World) (n g gd gl cd cl mb : Nat) (F : Nat → Prop) (vp : Value) (L : List UInt8) (P : List Wr) (st : Cr) (wr : World) : Prop where
  dsk : Dsk q wr n g gd gl cd cl vp st.2.2 L P
  marks : wr.heap[mb]? = some (.cells (st.1.map Value.bool).toArray 4 (0, 0))
  only : Only F w wr

theorem CrIn.apart {q : Int} {w : World} {n g gd gl cd cl mb : Nat} {F : Nat → Prop} {vp : Value} {L : List UInt8} {P : List Wr} {st : Cr} {wr : World} (h : CrIn q w n g gd gl cd cl mb F vp L P st wr) : g ≠ mb ∧ gd ≠ mb ∧ gl ≠ mb ∧ blk vp ≠ some mb := by
  have hm := h.marks
  have hb := h.dsk.blk
  obtain ⟨c1, h1⟩ := h.dsk.rowD
  obtain ⟨c2, h2⟩ := h.dsk.rowL
  refine ⟨?_, ?_, ?_, own_ne10 h.dsk.pend hm (by decide)⟩
  · rintro rfl; rw [hb] at hm; simp at hm
  · rintro rfl; rw [h1] at hm; simp at hm
  · rintro rfl; rw [h2] at hm; simp at hm

/-- one write is done -/
theorem CrIn.perform {q : Int} {w : World} {n g gd gl cd cl mb : Nat} {F : Nat → Prop} {vp : Value} {L : List UInt8} {P : List Wr} {M : List Bool} {k : Nat} {d d' : List UInt8} {wr w2 : World} (h : CrIn q w n g gd gl cd cl mb F vp L P (M, k, d) wr)
    (hd : Dsk q w2 n g gd gl cd cl vp d' L P) (ho : Only (fun i => i = gd) wr w2) (hF : F gd) : CrIn q w n g gd gl cd cl mb F vp L P (M, k, d') w2 :=
  ⟨hd, (ho.block _ (lt_of_block h.marks) (fun e => h.apart.2.1 e.symm)).trans h.marks, h.only.trans ho (fun i _ hi => by rw [show i = gd from hi]; exact hF)⟩

/-- it is marked -/
theorem CrIn.mark {q : Int} {w : World} {n g gd gl cd cl mb : Nat} {F : Nat → Prop} {vp : Value} {L : List UInt8} {P : List Wr} {M : List Bool} {k : Nat} {d : List UInt8} {wr : World} (h : CrIn q w n g gd gl cd cl mb F vp L P (M, k, d) wr) (m k' : Nat) (hm : w.heap.size ≤ mb) :
    CrIn q w n g gd gl cd cl mb F vp L P (M.set m true, k', d) (wr.setCell ⟨mb, m, none⟩ (.bool true)) := by
  obtain ⟨h1, h2, h3, h4⟩ := h.apart
  refine ⟨h.dsk.only ((Only.refl (fun i => i = mb) wr).setCell (p := ⟨mb, m, none⟩) (fun _ => rfl) _) h1 h2 h3 (fun i hi e => h4 (by rw [hi, e])), ?_, h.only.setCell (p := ⟨mb, m, none⟩) (fun hl => by have : mb < w.heap.size := hl; omega) _⟩
  rw [heap_setCell_same _ _ _ _ _ _ h.marks, List.setIfInBounds_toArray, ← List.map_set]

theorem CrIn.cell {q : Int} {w : World} {n g gd gl cd cl mb : Nat} {F : Nat → Prop} {vp : Value} {L : List UInt8} {P : List Wr} {st : Cr} {wr : World} (h : CrIn q w n g gd gl cd cl mb F vp L P st wr) {m : Nat} (hm : m < st.1.length) : wr.cell? ⟨mb, m, none⟩ = some (.bool (st.1.getD m false)) := by
  rw [cell_of_row _ _ _ _ _ _ h.marks, List.getElem?_toArray, List.getElem?_map, List.getD_eq_getElem?_getD, List.getElem?_eq_getElem hm]
  rfl

set_option maxRecDepth 100000 in
set_option maxHeartbeats 4000000 in
theorem diskCrash {q : Int} {w : World} {n g : Nat} {F : Nat → Prop} {D L : List UInt8} {P : List Wr} (hD : Dvc q w n g F D L P) (v : Value) (keep : List Int) (hk : RdV w v (keep.map (Value.int .i64))) (hkF : ∀ k, blk v = some k → keep.map (Value.int .i64) ≠ [] → ¬ F k) (hkl : keep.length ≤ 1000000) (hP : P.length ≤ 1000000) :
    Calls Try.prog 14 #[.pointer (some ⟨g, 0, none⟩), v] w fun e w' => e = .returned (.int .i64 ((crAll P D keep).2.1 : Int)) ∧ DevTo w n g F (crAll P D keep).2.2 (loseAll (crAll P D keep).2.2 P L) [] w' := by
  obtain ⟨gd, gl, cd, cl, vp, h0, f1, f2, f3, f4⟩ := hD
  have HD := Lib.hid h0
  have HOK := Lib.hid h0.ok
  have hlen := Lib.hid h0.lenD
  have HK := Lib.hid hk
  obtain ⟨ak, nk, ck, rfl, hnk, -⟩ := hk
  rw [List.length_map] at hnk
  subst hnk
  obtain ⟨ap, kp, rfl⟩ := h0.vp_slice
  obtain ⟨-, -, c2, -⟩ := h0.cells
  have hmk := run_makeBools P.length (by omega)
  clear h0
  go_enter Try.func14, Try.ntmps14
  go_upto_region 2 with fail
  generalize hw1 : World.alloc w _ = w1
  have HI0 : Hid (CrIn q w n g gd gl cd cl w.heap.size F (.slice ap P.length kp) L P (crAll P D (keep.take 0)) w1) := by
    have N1 : New w w1 := by rw [← hw1]; exact (Below.refl _ _).alloc (Nat.le_refl _) _
    have e : ((crAll P D (keep.take 0)).1.map Value.bool).toArray = Array.replicate P.length (Value.bool false) := by
      show ((List.replicate P.length false).map Value.bool).toArray = _
      rw [List.map_replicate, List.toArray_replicate]
    exact Lib.hid ⟨HD.out.new N1, by rw [e, ← hw1]; exact heap_alloc_new _ _, New.only N1⟩
  have hmb : w.heap.size ≤ w.heap.size := Nat.le_refl _
  clear hw1 hmk c2 HD
  obtain ⟨mb, Hmb⟩ : ∃ mb, Hid (w.heap.size = mb) := ⟨_, Lib.hid rfl⟩
  rw [Hmb.out] at HI0 ⊢
  go_wp2
  go_loopw [6, 17] (fun c i wr => ∃ j : Nat, j ≤ keep.length ∧ i = .int .i64 j ∧ c = .int .i64 ((crAll P D (keep.take j)).2.1 : Int) ∧ CrIn q w n g gd gl cd cl mb F (.slice ap P.length kp) L P (crAll P D (keep.take j)) wr) (fun _ i _ => keep.length - (intOf i).toNat)
  case atStart => exact ⟨0, Nat.zero_le _, rfl, rfl, HI0.out⟩
  case round =>
    clear HI0
    obtain ⟨j, hj, rfl, rfl, hin⟩ := hrel
    by_cases hlt : j < keep.length
    · have HG : Hid (keep[j]? = some keep[j]) := Lib.hid (List.getElem?_eq_getElem hlt)
      have HCO : Hid (CrOk n P D (crAll P D (keep.take j))) := Lib.hid (crOk_all HOK.out hlen.out _)
      have hcnt := crAll_count P D (keep.take j)
      rw [List.length_take] at hcnt
      have HN : Hid (crAll P D (keep.take (j + 1)) = crStep P (crAll P D (keep.take j)) keep[j]) := Lib.hid (crAll_take P D keep j _ HG.out)
      obtain ⟨b, off, rfl, hck⟩ := (HK.out.only hin.only hkF).cell (by omega)
      have hd := hck j (.int .i64 keep[j]) (by rw [List.getElem?_map, HG.out]; rfl)
      clear hck
      generalize keep[j] = i at *
      generalize crAll P D (keep.take j) = st at *
      obtain ⟨M, k, d⟩ := st
      have HI := Lib.hid hin
      clear hin
      obtain ⟨-, -, c2, -⟩ := HI.out.dsk.cells
      simp only at hcnt ⊢
      by_cases h1 : i < 0
      · have d1 : decide (i < 0) = true := by simp [h1]
        have HS : Hid (crAll P D (keep.take (j + 1)) = (M, k, d)) := by
          show _ = _
          rw [HN.out]; unfold crStep; rw [if_pos (.inl h1)]
        go_wp2
        go_roundw
        case rel => exact ⟨j + 1, by omega, by go_num, by rw [HS.out], by rw [HS.out]; exact HI.out⟩
        case measure => simp [intOf]; omega
      have d1 : decide (i < 0) = false := by simp; omega
      by_cases h2 : (P.length : Int) ≤ i
      · have d2 : decide ((P.length : Int) ≤ i) = true := by simp [h2]
        have HS : Hid (crAll P D (keep.take (j + 1)) = (M, k, d)) := by
          show _ = _
          rw [HN.out]; unfold crStep; rw [if_pos (.inr (.inl h2))]
        go_wp2
        go_roundw
        case rel => exact ⟨j + 1, by omega, by go_num, by rw [HS.out], by rw [HS.out]; exact HI.out⟩
        case measure => simp [intOf]; omega
      have d2 : decide ((P.length : Int) ≤ i) = false := by simp; omega
      obtain ⟨m, rfl⟩ : ∃ m : Nat, i = m := ⟨i.toNat, by omega⟩
      have hmP : m < P.length := by omega
      have hcm := HI.out.cell (m := m) (by rw [HCO.out.marks]; exact hmP)
      have hzm := frozen_of_row _ _ m _ _ HI.out.marks
      by_cases h3 : M.getD m false = true
      · have HS : Hid (crAll P D (keep.take (j + 1)) = (M, k, d)) := by
          show _ = _
          rw [HN.out]; unfold crStep; rw [if_pos (.inr (.inr (by rw [Int.toNat_natCast]; exact h3)))]
        rw [show (M, k, d).1.getD m false = true from h3] at hcm
        clear h3
        go_wp2
        go_roundw
        case rel => exact ⟨j + 1, by omega, by go_num, by rw [HS.out], by rw [HS.out]; exact HI.out⟩
        case measure => simp [intOf]; omega
      · have HPJ : Hid (P[m]? = some P[m]) := Lib.hid (List.getElem?_eq_getElem hmP)
        have HW : Hid (P[m].1 < n ∧ P[m].2.length = 128) := Lib.hid (HOK.out _ (List.getElem_mem hmP))
        have HS : Hid (crAll P D (keep.take (j + 1)) = (M.set m true, k + 1, lay d P[m].1 P[m].2)) := by
          show _ = _
          rw [HN.out]; unfold crStep
          rw [if_neg (by rw [Int.toNat_natCast]; rintro (h | h | h); exact h1 h; exact h2 h; exact h3 h), Int.toNat_natCast, List.getD_eq_getElem?_getD, HPJ.out]
          rfl
        rw [show (M, k, d).1.getD m false = false by simpa using h3] at hcm
        obtain ⟨b1, c1, he, hr⟩ := HI.out.dsk.at HPJ.out
        cases he
        generalize P[m] = p at *
        have HR := Lib.hid hr
        clear hr h3
        go_wp2_with (refine wpList_load_mid rfl 79 _ rfl b1 (m * 129) rfl _ _ HR.out Try.underlying79 rfl (by rw [wcells_length HW.out.2]; exact infoWrSize) ?_)
        refine (diskPerform HI.out.dsk p HW.out).mono ?_
        rintro e w2 ⟨rfl, hd2, ho2⟩
        have HI2 := Lib.hid (HI.out.perform hd2 ho2 f2)
        clear hd2 ho2 HR hcm hzm c2 hd
        have hcm := HI2.out.cell (m := m) (by rw [HCO.out.marks]; exact hmP)
        have hzm := frozen_of_row _ _ m _ _ HI2.out.marks
        have HI3 := Lib.hid (HI2.out.mark m (k + 1) (by rw [Hmb.out]; exact Nat.le_refl _))
        clear HI
        go_wp2
        go_roundw
        case rel => exact ⟨j + 1, by omega, by go_num, by rw [HS.out]; go_num, by rw [HS.out]; exact HI3.out⟩
        case measure => simp [intOf]; omega
    · obtain rfl : j = keep.length := by omega
      rw [List.take_of_length_le (Nat.le_refl _)] at hin ⊢
      have HI := Lib.hid hin
      clear hin
      go_wp2_with fail
      refine (diskLose HI.out.dsk).mono ?_
      rintro e w2 ⟨rfl, hd2, ho2⟩
      have HD2 := Lib.hid hd2
      have HO2 := Lib.hid (HI.out.only.trans ho2 (fun i _ hi => by rcases hi with e | e; exact e ▸ f3; exact e ▸ f1))
      clear hd2 ho2 HI
      obtain ⟨-, -, -, c3⟩ := HD2.out.cells
      have z3 := HD2.out.free 3
      have HD3 := Lib.hid (HD2.out.setLeft (-1) (by decide))
      have HO3 := Lib.hid (HO2.out.setCell (p := ⟨g, 3, none⟩) (fun _ => f1) (.int .i64 (-1)))
      go_wp2
      go_ret
      exact ⟨rfl, ⟨gd, gl, cd, cl, _, HD3.out, .inl f1, .inl f2, .inl f3, fun k hk => by cases hk⟩, HO3.out⟩

set_option maxRecDepth 100000 in
set_option maxHeartbeats 1000000 in
/-- the sectors from s on, m of them; the result is new memory -/
theorem diskReadN {q : Int} {w : World} {n g : Nat} {F : Nat → Prop} {D L : List UInt8} {P : List Wr} (hD : Dvc q w n g F D L P) (hq : q ≠ 0) (s m : Nat) (hs : s + m ≤ n) :
    Calls Try.prog 40 #[.pointer (some ⟨g, 0, none⟩), .int .i64 (s : Int), .int .i64 (m : Int)] w fun e w' =>
      ∃ a c, e = .returned (.tuple #[.slice a (128 * m) c, .int .i64 0]) ∧ Rd w' (.slice a (128 * m) c) (secs L s m) ∧ DvcTo (nextQ q) w n g F D L P w' ∧
        (0 < m → ∃ k, blk (.slice a (128 * m) c) = some k ∧ w.heap.size ≤ k ∧ Dvc (nextQ q) w' n g (fun i => (F i ∨ w.heap.size ≤ i) ∧ i ≠ k) D L P) := by
  obtain ⟨gd, gl, cd, cl, vp, h0, f1, f2, f3, f4⟩ := hD
  have hfew := h0.few
  have HH : Hid (Calls Try.prog 54 #[.pointer (some ⟨g, 0, none⟩), .int .i64 (s : Int), .int .i64 (m : Int)] w fun e w' => e = .returned (.bool true) ∧ w = w') := by
    have := diskHasN h0 (s : Int) (m : Int) (by omega)
    rw [show decide (0 ≤ (s : Int) ∧ 0 ≤ (m : Int) ∧ (m : Int) ≤ (n : Int) - (s : Int)) = true by simp; omega] at this
    exact Lib.hid this
  have HX : Hid (Calls Try.prog 55 #[.pointer (some ⟨g, 0, none⟩)] w fun e w' => e = .returned (.bool true) ∧ Dsk (nextQ q) w' n g gd gl cd cl vp D L P ∧ Only (fun k => k = g) w w') := by
    have := diskCall h0
    rw [show decide (q ≠ 0) = true by simpa using hq] at this
    exact Lib.hid this
  clear h0 hq
  go_enter Try.func40, Try.ntmps40
  go_wp2_with fail
  refine HH.out.mono ?_
  rintro e w1 ⟨rfl, rfl⟩
  go_wp2_with fail
  refine HX.out.mono ?_
  rintro e w1 ⟨rfl, hd1, ho1⟩
  obtain ⟨-, c1, -, -⟩ := hd1.cells
  have hcap := hd1.capL
  have hlen := hd1.lenL
  have HD1 := Lib.hid hd1
  have HO1 := Lib.hid ho1
  have HPI := Lib.hid (diskPieceN w1 gl 0 (128 * n) cl s m (by omega) (by omega))
  have hsl : (secs L s m).length = 128 * m := secs_length (by omega)
  have hrp : Rd w1 (.slice (pieceAt gl 0 cl s) (128 * m) (cl - 128 * s)) (secs L s m) := by
    by_cases hm : 0 < m
    · rw [pieceAt_pos (m := m) (by omega) hm, Nat.zero_add]
      exact hd1.rowL.rdSecs hsl (by omega) (by omega) (by omega)
    · obtain rfl : m = 0 := by omega
      obtain ⟨ad, had⟩ : ∃ ad, pieceAt gl 0 cl s = some ad := by unfold pieceAt; split <;> exact ⟨_, rfl⟩
      rw [had]
      exact ⟨some ad, _, _, rfl, hsl, by omega, by omega, (fun h => by cases h), fun _ _ i u hu => by rw [show secs L s 0 = [] from List.eq_nil_of_length_eq_zero hsl] at hu; simp at hu⟩
  have HC := Lib.hid (bytesCloneAny w1 _ (secs L s m) hrp (by omega))
  have HSL := Lib.hid hsl
  clear HH HX hd1 ho1 hrp hsl hlen
  generalize cl - 128 * s = t1 at *
  generalize pieceAt gl 0 cl s = A1 at *
  generalize 128 * n = t2 at c1 HPI
  go_wp2_with fail
  refine HPI.out.mono ?_
  rintro e w2 ⟨rfl, rfl⟩
  go_wp2_with fail
  refine HC.out.mono ?_
  rintro e w2 ⟨a2, c2, rfl, r2, N2, b2⟩
  rw [HSL.out] at r2 b2 ⊢
  have HR := Lib.hid r2
  have HN := Lib.hid N2
  have HB := Lib.hid b2
  clear r2 N2 b2
  generalize hM : 128 * m = M at *
  have HM := Lib.hid hM
  clear hM
  go_wp2
  go_ret2
  have hM := HM.out
  subst hM
  have hg1 : Only F w w1 := HO1.out.mono (fun i _ hi => by rw [show i = g from hi]; exact f1)
  have hd2 := HD1.out.new HN.out
  refine ⟨a2, c2, rfl, HR.out, ⟨⟨gd, gl, cd, cl, vp, hd2, .inl f1, .inl f2, .inl f3, fun k hk => .inl (f4 k hk)⟩, hg1.trans (HN.out.only (F := F)) (fun _ _ h => h)⟩, fun hm => ?_⟩
  obtain ⟨k, hk, hk2⟩ := HB.out (by intro e; have := HSL.out; rw [e] at this; simp at this; omega)
  have hsz := hg1.size
  refine ⟨k, hk, by omega, ?_⟩
  have hv : Dvc (nextQ q) w1 n g (fun i => (F i ∨ w.heap.size ≤ i) ∧ i ≠ k) D L P :=
    Dvc.narrow (F := fun i => F i) ⟨gd, gl, cd, cl, vp, HD1.out, f1, f2, f3, f4⟩ (fun i hi hF => ⟨.inl hF, by omega⟩)
  exact hv.new HN.out

/-- one sector, no limit -/
theorem diskRead {w : World} {n g : Nat} {F : Nat → Prop} {D L : List UInt8} {P : List Wr} (hD : Dev w n g F D L P) (s : Nat) (hs : s < n) :
    Calls Try.prog 40 #[.pointer (some ⟨g, 0, none⟩), .int .i64 (s : Int), .int .i64 1] w fun e w' => ∃ a c, e = .returned (.tuple #[.slice a 128 c, .int .i64 0]) ∧ Rd w' (.slice a 128 c) (sec L s) ∧ DevTo w n g F D L P w' :=
  (diskReadN hD (by decide) s 1 (by omega)).mono fun e w' h => by
    obtain ⟨a, c, h1, h2, h3, -⟩ := h
    exact ⟨a, c, h1, h2, h3⟩

/-- sectors that there aren't -/
theorem diskReadRange {q : Int} {w : World} {n g : Nat} {F : Nat → Prop} {D L : List UInt8} {P : List Wr} (hD : Dvc q w n g F D L P) (a m : Int) (ha : a ≤ 9223372036854775807) (h : ¬ (0 ≤ a ∧ 0 ≤ m ∧ m ≤ (n : Int) - a)) :
    Calls Try.prog 40 #[.pointer (some ⟨g, 0, none⟩), .int .i64 a, .int .i64 m] w fun e w' => e = .returned (.tuple #[.slice none 0 0, .int .i64 20]) ∧ w = w' := by
  obtain ⟨gd, gl, cd, cl, vp, h0, -⟩ := hD
  have HH := Lib.hid (diskHasN h0 a m ha)
  rw [show decide (0 ≤ a ∧ 0 ≤ m ∧ m ≤ (n : Int) - a) = false by simpa using h] at HH
  clear h0 h
  go_enter Try.func40, Try.ntmps40
  go_wp2_with fail
  refine HH.out.mono ?_
  rintro e w1 ⟨rfl, rfl⟩
  go_wp2
  go_ret2
  exact ⟨rfl, rfl⟩

/-- the power is off -/
theorem diskReadOff {w : World} {n g : Nat} {F : Nat → Prop} {D L : List UInt8} {P : List Wr} (hD : Dvc 0 w n g F D L P) (s m : Nat) (hs : s + m ≤ n) :
    Calls Try.prog 40 #[.pointer (some ⟨g, 0, none⟩), .int .i64 (s : Int), .int .i64 (m : Int)] w fun e w' => e = .returned (.tuple #[.slice none 0 0, .int .i64 22]) ∧ DvcTo 0 w n g F D L P w' := by
  obtain ⟨gd, gl, cd, cl, vp, h0, f1, f2, f3, f4⟩ := hD
  have hfew := h0.few
  have HH := Lib.hid (diskHasN h0 (s : Int) (m : Int) (by omega))
  rw [show decide (0 ≤ (s : Int) ∧ 0 ≤ (m : Int) ∧ (m : Int) ≤ (n : Int) - (s : Int)) = true by simp; omega] at HH
  have HX : Hid (Calls Try.prog 55 #[.pointer (some ⟨g, 0, none⟩)] w fun e w' => e = .returned (.bool false) ∧ Dsk 0 w' n g gd gl cd cl vp D L P ∧ Only (fun k => k = g) w w') := Lib.hid (diskCall h0)
  clear h0
  go_enter Try.func40, Try.ntmps40
  go_wp2_with fail
  refine HH.out.mono ?_
  rintro e w1 ⟨rfl, rfl⟩
  go_wp2_with fail
  refine HX.out.mono ?_
  rintro e w1 ⟨rfl, hd1, ho1⟩
  have HD1 := Lib.hid hd1
  have HO1 := Lib.hid ho1
  clear hd1 ho1
  go_wp2
  go_ret2
  exact ⟨rfl, ⟨gd, gl, cd, cl, vp, HD1.out, .inl f1, .inl f2, .inl f3, fun k hk => .inl (f4 k hk)⟩, HO1.out.mono (fun i _ hi => by rw [show i = g from hi]; exact f1)⟩

end Go.Proofs.Ytnekcdpfphgpbaa

namespace Go.Proofs.Ytnekcdpfphgpbaa
set_option linter.unusedVariables false
set_option linter.unusedSimpArgs false
open Go.RowKit

/-- a new block is none of a disk's -/
theorem Dvc.avoid {q : Int} {w w' : World} {n g : Nat} {F : Nat → Prop} {D L : List UInt8} {P : List Wr} (h : Dvc q w n g F D L P) (hn : New w w') : Dvc q w' n g (fun k => F k ∧ k ≠ w.heap.size) D L P :=
  (h.narrow (G := fun k => F k ∧ k ≠ w.heap.size) (fun k hk hF => ⟨hF, by omega⟩)).new hn

/-- behind a call on a disk whose blocks are at least B -/
theorem DvcTo.above {q : Int} {w w' : World} {n g : Nat} {F G : Nat → Prop} {D L : List UInt8} {P : List Wr} (h : DvcTo q w n g F D L P w') (hF : ∀ k, F k → G k) (hG : ∀ k, w.heap.size ≤ k → G k) : Dvc q w' n g G D L P :=
  h.1.narrow (fun k _ hk => by rcases hk with hk | hk; exact hF k hk; exact hG k hk)

theorem DvcTo.grow {q : Int} {W w w' : World} {n g : Nat} {F : Nat → Prop} {D L : List UInt8} {P : List Wr} (h : DvcTo q w n g F D L P w') (hn : New W w) (hF : ∀ k, F k → W.heap.size ≤ k) : New W w' :=
  Below.trans hn (h.2.below hn.size hF)


theorem devSize {q : Int} {w : World} {n g : Nat} {F : Nat → Prop} {D L : List UInt8} {P : List Wr} (h : Dvc q w n g F D L P) :
    Calls Try.prog 36 #[.pointer (some ⟨g, 0, none⟩)] w fun e w' => e = .returned (.int .i64 (n : Int)) ∧ w = w' := by
  obtain ⟨gd, gl, cd, cl, vp, h0, -⟩ := h
  exact diskSize h0

theorem devImage {q : Int} {w : World} {n g : Nat} {F : Nat → Prop} {D L : List UInt8} {P : List Wr} (h : Dvc q w n g F D L P) : Calls Try.prog 20 #[.pointer (some ⟨g, 0, none⟩)] w (CopyTo w L) := by
  obtain ⟨gd, gl, cd, cl, vp, h0, -⟩ := h
  exact diskImage h0

theorem Dvc.lens {q : Int} {w : World} {n g : Nat} {F : Nat → Prop} {D L : List UInt8} {P : List Wr} (h : Dvc q w n g F D L P) : D.length = 128 * n ∧ L.length = 128 * n ∧ OkW n P := by
  obtain ⟨gd, gl, cd, cl, vp, h0, -⟩ := h
  exact ⟨h0.lenD, h0.lenL, h0.ok⟩

/-- string(b) -/
def Str10 (x : Value) (a : List UInt8) (w : World) : Prop := (convert 37 9 x).run Try.prog w = .ok (.string (bstr a)) w

theorem str10 {w : World} {x : Value} {a : List UInt8} (h : Rd w x a) : Str10 x a w := run_str (P := Try.prog) Try.underlying37 Try.underlying5 Try.underlying9 h

end Go.Proofs.Ytnekcdpfphgpbaa
