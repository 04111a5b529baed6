/-
  The reader of package wire: one contract a function.
  The reader of package wire: numbers and texts.
  Plain mathematics of package wire: what is written is read back; what is cut off is too short.
-/
import Derived.Test.YtliojldkdmaofaaDoorPenA
namespace Go.Proofs.YtliojldkdmaofaaDoor
set_option linter.unusedVariables false
set_option linter.unusedSimpArgs false
open Go.RowKit

/-- The reader at block p, over memory in block d: what is left, and its error. -/
def Eye (w : World) (p : Nat) (d : Option Nat) (r : List UInt8) (err : Int) : Prop :=
  ∃ v, w.heap[p]? = some (.cells #[v, .int .i64 err] 999999 (0, 0)) ∧ Rd w v r ∧ (r ≠ [] → blk v = d)

theorem Eye.cells {w : World} {p : Nat} {d : Option Nat} {r : List UInt8} {err : Int} (h : Eye w p d r err) :
    ∃ a n c, w.cell? ⟨p, 0, none⟩ = some (.slice a n c) ∧ w.cell? ⟨p, 1, none⟩ = some (.int .i64 err) ∧ w.frozen? ⟨p, 0, none⟩ = false ∧ w.frozen? ⟨p, 1, none⟩ = false ∧ p < w.heap.size ∧
      Hid (w.heap[p]? = some (.cells #[.slice a n c, .int .i64 err] 999999 (0, 0))) ∧ Hid (Rd w (.slice a n c) r) ∧ Hid (r ≠ [] → blk (.slice a n c) = d) ∧ Hid (r.length = n) ∧ n ≤ c ∧ c ≤ 9223372036854775807 := by
  obtain ⟨v, hp, hr, hd⟩ := h
  have hr' := hr
  obtain ⟨a, n, c, rfl, h1, h2, h3, h4, h5⟩ := hr'
  exact ⟨a, n, c, by rw [cell_of_row w p 0 _ _ _ hp]; rfl, by rw [cell_of_row w p 1 _ _ _ hp]; rfl, by simp [World.frozen?, hp], by simp [World.frozen?, hp], lt_of_block hp, hp, hr, hd, h1, h2, h3⟩

/-- What the reader reads does not lie in the reader's own block. -/
theorem eye_ne {w : World} {p : Nat} {v : Value} {r : List UInt8} {a : Option Addr} {n c : Nat} {err : Int} (hp : w.heap[p]? = some (.cells #[.slice a n c, .int .i64 err] 999999 (0, 0))) (hr : Rd w v r) (hne : r ≠ []) : blk v ≠ some p := by
  intro e
  obtain ⟨a', n', c', rfl, h1, h2, h3, h4, h5⟩ := hr
  cases a' with
  | none => simp [blk] at e
  | some ad =>
    simp [blk] at e
    cases r with
    | nil => exact hne rfl
    | cons x r =>
      have hx := h5 ad rfl 0 x rfl
      have h0 : ad.add 0 = ad := by simp [Addr.add]
      rw [h0] at hx
      unfold World.cell? at hx
      rw [e, hp] at hx
      simp only at hx
      split at hx
      · cases hx
      · match hoff : ad.off, hx with
        | 0, hx => simp at hx
        | 1, hx => simp at hx
        | k + 2, hx => simp at hx

/-- a store into the reader's block leaves what is read -/
theorem rd_set {w : World} {p o : Nat} {v u : Value} {r : List UInt8} (hr : Rd w v r) (hne : r ≠ [] → blk v ≠ some p) : Rd (w.setCell ⟨p, o, none⟩ u) v r :=
  hr.of_block fun k hk hn => Below.heap_setCell _ _ _ _ (fun e => hne hn (by rw [hk, e]))

def EyeTo (w : World) (p : Nat) (d : Option Nat) (r : List UInt8) (err : Int) (w' : World) : Prop := Eye w' p d r err ∧ Only (fun k => k = p) w w'

theorem eyeSetErr {w : World} {p : Nat} {d : Option Nat} {r : List UInt8} {err x : Int} (h : Eye w p d r err) : EyeTo w p d r x (w.setCell ⟨p, 1, none⟩ (.int .i64 x)) := by
  obtain ⟨v, hp, hr, hd⟩ := h
  obtain ⟨a, n, c, e⟩ : ∃ a n c, v = .slice a n c := by obtain ⟨a, n, c, e, _⟩ := hr; exact ⟨a, n, c, e⟩
  subst e
  exact ⟨⟨_, two_setCell1 hp, rd_set hr (fun hn => eye_ne hp hr hn), hd⟩, (Only.refl (fun k => k = p) w).setCell (p := ⟨p, 1, none⟩) (fun _ => rfl) _⟩

theorem eyeSetRest {w : World} {p : Nat} {d : Option Nat} {r r' : List UInt8} {err : Int} {v' : Value} (h : Eye w p d r err) (hr' : Rd w v' r') (hd' : r' ≠ [] → blk v' = d) : EyeTo w p d r' err (w.setCell ⟨p, 0, none⟩ v') := by
  obtain ⟨v, hp, hr, hd⟩ := h
  obtain ⟨a, n, c, e⟩ : ∃ a n c, v = .slice a n c := by obtain ⟨a, n, c, e, _⟩ := hr; exact ⟨a, n, c, e⟩
  subst e
  exact ⟨⟨v', two_setCell0 hp, rd_set hr' (fun hn => eye_ne hp hr' hn), hd'⟩, (Only.refl (fun k => k = p) w).setCell (p := ⟨p, 0, none⟩) (fun _ => rfl) _⟩

theorem EyeTo.refl {w : World} {p : Nat} {d : Option Nat} {r : List UInt8} {err : Int} (h : Eye w p d r err) : EyeTo w p d r err w := ⟨h, Only.refl _ _⟩

theorem EyeTo.trans {w w1 w2 : World} {p : Nat} {d : Option Nat} {r1 r2 : List UInt8} {e1 e2 : Int} (h : EyeTo w p d r1 e1 w1) (k : EyeTo w1 p d r2 e2 w2) : EyeTo w p d r2 e2 w2 :=
  ⟨k.1, h.2.trans k.2 (fun _ _ h => h)⟩

/-- a reader behind what leaves its blocks alone -/
theorem Eye.only {F : Nat → Prop} {w w' : World} {p : Nat} {d : Option Nat} {r : List UInt8} {err : Int} (h : Eye w p d r err) (ho : Only F w w') (hp : ¬ F p) (hd : ∀ k, d = some k → ¬ F k) : Eye w' p d r err := by
  obtain ⟨v, hp', hr, hd'⟩ := h
  refine ⟨v, (ho.block p (lt_of_block hp') hp).trans hp', hr.of_block fun k hk hn => ho.block k (hr.lt hk hn) (hd k (by rw [← hd' hn]; exact hk)), hd'⟩

theorem Eye.new {w w' : World} {p : Nat} {d : Option Nat} {r : List UInt8} {err : Int} (h : Eye w p d r err) (ho : New w w') : Eye w' p d r err := by
  obtain ⟨v, hp', hr, hd'⟩ := h
  exact ⟨v, (ho.block p (lt_of_block hp')).trans hp', hr.new ho, hd'⟩



def eEnd (r : List UInt8) (err : Int) : Int := if err = 0 ∧ r ≠ [] then 13 else err


def eFail (err x : Int) : Int := if err = 0 then x else err



/-- taking so many bytes: what is taken, what is left, the error -/
def eTake (n : Int) (r : List UInt8) (err : Int) : List UInt8 × List UInt8 × Int :=
  if err ≠ 0 then ([], r, err) else if n < 0 then ([], r, 2) else if (r.length : Int) < n then ([], r, 10) else (r.take n.toNat, r.drop n.toNat, 0)

/-- what 'take' leaves: bytes of the reader's own memory -/
def TakeTo (w : World) (p : Nat) (d : Option Nat) (t r : List UInt8) (err : Int) (e : Ending) (w' : World) : Prop :=
  ∃ a n c, e = .returned (.slice a n c) ∧ Rd w' (.slice a n c) t ∧ (t ≠ [] → blk (.slice a n c) = d) ∧ EyeTo w p d r err w'

theorem TakeTo.none {w w' : World} {p : Nat} {d : Option Nat} {r : List UInt8} {err : Int} (h : EyeTo w p d r err w') : TakeTo w p d [] r err (.returned (.slice .none 0 0)) w' :=
  ⟨_, _, _, rfl, Rd.nil _, fun h => absurd rfl h, h⟩






end Go.Proofs.YtliojldkdmaofaaDoor

namespace Go.Proofs.YtliojldkdmaofaaDoor
set_option linter.unusedVariables false
set_option linter.unusedSimpArgs false
open Go.RowKit

/-- the number of these bytes, the most significant first -/
def val (l : List UInt8) : Nat := l.foldl (fun n b => n * 256 + b.toNat) 0

theorem val_snoc (l : List UInt8) (b : UInt8) : val (l ++ [b]) = val l * 256 + b.toNat := by simp [val, List.foldl_append]

theorem val_lt (l : List UInt8) : val l < 256 ^ l.length := by
  suffices h : ∀ (l : List UInt8) (a m : Nat), a < 256 ^ m → l.foldl (fun n b => n * 256 + b.toNat) a < 256 ^ (m + l.length) by simpa [val] using h l 0 0 (by decide)
  intro l
  induction l with
  | nil => intro a m h; simpa using h
  | cons b r ih =>
    intro a m h
    simp only [List.foldl_cons, List.length_cons]
    have hb : b.toNat < 256 := b.toNat_lt
    have := ih (a * 256 + b.toNat) (m + 1) (by rw [Nat.pow_succ]; omega)
    rw [show m + (r.length + 1) = m + 1 + r.length by omega]
    exact this

theorem val_lt8 (l : List UInt8) (k : Nat) (hk : l.length ≤ k) (hk8 : k ≤ 7) : val l < 72057594037927936 := by
  have h := val_lt l
  have : 256 ^ l.length ≤ 256 ^ 7 := Nat.pow_le_pow_right (by decide) (by omega)
  omega

theorem or_byte (v : Nat) (b : UInt8) (hv : v < 72057594037927936) : bits .or .u64 ((v : Int) * 256) (IntKind.u64.wrap (b.toNat : Int)) = ((v * 256 + b.toNat : Nat) : Int) := by
  have hb : b.toNat < 256 := b.toNat_lt
  have e1 : IntKind.u64.wrap (b.toNat : Int) = (b.toNat : Int) := by rw [IntKind.wrap_u64]; omega
  have e2 : ((v : Int) * 256) = ((v * 256 : Nat) : Int) := by omega
  rw [e1, e2, bits_or_u64_nat _ _ (by omega) (by omega)]
  congr 1
  rw [Nat.mul_comm]
  exact (Nat.two_pow_add_eq_or_of_lt (i := 8) (by simpa using hb) v).symm

theorem eTake_len (n : Int) (r : List UInt8) (err : Int) (k : Nat) (h : n ≤ k) : (eTake n r err).1.length ≤ k := by
  unfold eTake
  split
  · simp
  · split
    · simp
    · split
      · simp
      · simp; omega


theorem val_lt64 (l : List UInt8) (k : Nat) (hk : l.length ≤ k) : val l < 256 ^ k :=
  Nat.lt_of_lt_of_le (val_lt l) (Nat.pow_le_pow_right (by decide) hk)

/-- what is read as a number -/
def eNum (size : Nat) (r : List UInt8) (err : Int) : Nat := val (eTake size r err).1

theorem eNum_lt (size : Nat) (r : List UInt8) (err : Int) : eNum size r err < 256 ^ size :=
  val_lt64 _ _ (eTake_len size r err size (Int.le_refl _))

def NumTo (w : World) (p : Nat) (d : Option Nat) (size : Nat) (r : List UInt8) (err : Int) (k : IntKind) (e : Ending) (w' : World) : Prop :=
  e = .returned (.int k (eNum size r err)) ∧ EyeTo w p d (eTake size r err).2.1 (eTake size r err).2.2 w'






/-- what a read of bytes leaves: a copy in new memory -/
def RawTo (w : World) (p : Nat) (d : Option Nat) (t r : List UInt8) (err : Int) (e : Ending) (w' : World) : Prop :=
  ∃ a n c, e = .returned (.slice a n c) ∧ Rd w' (.slice a n c) t ∧ (t ≠ [] → w'.ownsRow w.heap.size 5 1 (.slice a n c) t.length (t.map bv)) ∧ EyeTo w p d r err w'

theorem own_base {w : World} {base base' : Nat} {e : TypeId} {size : Nat} {v : Value} {n : Nat} {xs : List Value} (h : w.ownsRow base e size v n xs) (hb : base' ≤ base) : w.ownsRow base' e size v n xs := by
  refine ⟨h.1, ?_⟩
  rcases h.2 with hn | ⟨g, cap, cur, e1, e2, rest⟩
  · exact .inl hn
  · exact .inr ⟨g, cap, cur, e1, Nat.le_trans hb e2, rest⟩

theorem eTake_len_r (n : Int) (r : List UInt8) (err : Int) : (eTake n r err).1.length ≤ r.length := by
  unfold eTake
  split
  · simp
  · split
    · simp
    · split
      · simp
      · simp; omega

theorem EyeTo.new {w w1 w2 : World} {p : Nat} {d : Option Nat} {r : List UInt8} {err : Int} (h : EyeTo w p d r err w1) (hn : New w1 w2) : EyeTo w p d r err w2 :=
  ⟨h.1.new hn, h.2.trans (New.only (F := fun _ => False) hn) (fun _ _ h => h.elim)⟩

theorem New.eye {w w1 w2 : World} {p : Nat} {d : Option Nat} {r : List UInt8} {err : Int} (h : New w w1) (k : EyeTo w1 p d r err w2) (hp : w.heap.size ≤ p) : New w w2 :=
  Below.trans h (k.2.below h.size (fun j hj => by subst hj; exact hp))


/-- a text behind its length: what is read, what is left, the error -/
def eText (size : Nat) (most : Int) (r : List UInt8) (err : Int) : List UInt8 × List UInt8 × Int :=
  let t := eTake size r err
  let e2 := if most < (val t.1 : Int) then eFail t.2.2 11 else t.2.2
  let u := eTake (val t.1) t.2.1 e2
  if u.2.2 = 0 then u else ([], r, u.2.2)

theorem eTake_bad (n : Int) (r : List UInt8) (err : Int) (h : (eTake n r err).2.2 ≠ 0) : (eTake n r err).1 = [] ∧ (eTake n r err).2.1 = r := by
  revert h
  unfold eTake
  split
  · simp
  · split
    · simp
    · split
      · simp
      · simp

/-- giving the length back -/
theorem eyeBack {w w3 : World} {p : Nat} {d : Option Nat} {r r3 : List UInt8} {err3 : Int} {v : Value} (hr : Rd w v r) (hd : r ≠ [] → blk v = d) (hne : r ≠ [] → blk v ≠ some p) (h : EyeTo w p d r3 err3 w3) : EyeTo w p d r err3 (w3.setCell ⟨p, 0, none⟩ v) := by
  refine h.trans (eyeSetRest h.1 ?_ hd)
  exact hr.of_block fun k hk hn => h.2.block k (hr.lt hk hn) (fun e => hne hn (by rw [hk, e]))




end Go.Proofs.YtliojldkdmaofaaDoor

namespace Go.Proofs.YtliojldkdmaofaaDoor
set_option linter.unusedVariables false
set_option linter.unusedSimpArgs false
open Go.RowKit

theorem val_cons (b : UInt8) (l : List UInt8) : val (b :: l) = b.toNat * 256 ^ l.length + val l := by
  suffices h : ∀ (l : List UInt8) (a : Nat), l.foldl (fun n b => n * 256 + b.toNat) a = a * 256 ^ l.length + val l by
    have := h l b.toNat
    simpa [val] using this
  intro l
  induction l with
  | nil => intro a; simp [val]
  | cons c r ih =>
    intro a
    simp only [List.foldl_cons, List.length_cons, val]
    rw [ih, ih, Nat.pow_succ, Nat.add_mul]
    simp only [Nat.zero_mul, Nat.zero_add, Nat.mul_assoc, Nat.mul_comm 256, Nat.add_assoc]

theorem val_be (size n : Nat) : val (be size n) = n % 256 ^ size := by
  induction size with
  | zero => simp [be, val, Nat.mod_one]
  | succ k ih =>
    rw [be, val_cons, ih, be_length, UInt8.toNat_ofNat']
    have h1 : n % 256 ^ (k + 1) = n % 256 ^ k + 256 ^ k * (n / 256 ^ k % 256) := by
      rw [Nat.pow_succ, Nat.mod_mul]
    rw [h1, Nat.mul_comm]
    simp only [Nat.reducePow]
    omega

theorem val_be_lt (size n : Nat) (h : n < 256 ^ size) : val (be size n) = n := by rw [val_be, Nat.mod_eq_of_lt h]

theorem eTake_err (n : Int) (r : List UInt8) (err : Int) (h : err ≠ 0) : eTake n r err = ([], r, err) := by simp [eTake, h]

theorem eTake_ok (k : Nat) (r : List UInt8) (h : k ≤ r.length) : eTake k r 0 = (r.take k, r.drop k, 0) := by
  unfold eTake
  rw [if_neg (by simp), if_neg (by omega), if_neg (by omega)]
  simp

theorem eTake_short (k : Nat) (r : List UInt8) (h : r.length < k) : eTake k r 0 = ([], r, 10) := by
  unfold eTake
  rw [if_neg (by simp), if_neg (by omega), if_pos (by omega)]

theorem eText_err (size : Nat) (most : Int) (r : List UInt8) (err : Int) (h : err ≠ 0) : eText size most r err = ([], r, err) := by
  have hf : eFail err 11 = err := by simp [eFail, h]
  simp only [eText, eTake_err _ _ _ h, hf, ite_self]

theorem eTake_join (a b : List UInt8) : eTake a.length (a ++ b) 0 = (a, b, 0) := by rw [eTake_ok _ _ (by simp)]; simp

theorem eText_ok (size : Nat) (most : Int) (l rest : List UInt8) (hl : l.length < 256 ^ size) (hm : (l.length : Int) ≤ most) : eText size most (be size l.length ++ (l ++ rest)) 0 = (l, rest, 0) := by
  have h1 : eTake size (be size l.length ++ (l ++ rest)) 0 = (be size l.length, l ++ rest, 0) := by
    have := eTake_join (be size l.length) (l ++ rest)
    rwa [be_length] at this
  simp only [eText, h1, val_be_lt size _ hl]
  rw [if_neg (show ¬ most < (l.length : Int) by omega), eTake_join]
  simp

/-- a text that is cut off -/
theorem eText_cut (size : Nat) (most : Int) (l rest : List UInt8) (k : Nat) (hl : l.length < 256 ^ size) (hm : (l.length : Int) ≤ most) (hk : k < size + l.length) : (eText size most ((be size l.length ++ (l ++ rest)).take k) 0).2.2 = 10 := by
  by_cases h1 : k < size
  · have hlen : ((be size l.length ++ (l ++ rest)).take k).length < size := by rw [List.length_take]; omega
    simp only [eText, eTake_short _ _ hlen]
    have hv : val [] = 0 := rfl
    rw [hv, if_neg (show ¬ most < ((0 : Nat) : Int) by omega), eTake_err _ _ _ (by decide)]
    simp
  · have h2 : (be size l.length ++ (l ++ rest)).take k = be size l.length ++ (l ++ rest).take (k - size) := by
      rw [List.take_append, List.take_of_length_le (by rw [be_length]; omega), be_length]
    have h3 : eTake size (be size l.length ++ (l ++ rest).take (k - size)) 0 = (be size l.length, (l ++ rest).take (k - size), 0) := by
      have := eTake_join (be size l.length) ((l ++ rest).take (k - size))
      rwa [be_length] at this
    rw [h2]
    simp only [eText, h3, val_be_lt size _ hl]
    rw [if_neg (show ¬ most < (l.length : Int) by omega), eTake_short _ _ (by rw [List.length_take]; omega)]
    simp

/-- a text behind which something is left, cut off -/
theorem eText_past (size : Nat) (most : Int) (l rest : List UInt8) (k : Nat) (hl : l.length < 256 ^ size) (hm : (l.length : Int) ≤ most) (hk : size + l.length ≤ k) : eText size most ((be size l.length ++ (l ++ rest)).take k) 0 = (l, rest.take (k - size - l.length), 0) := by
  have h2 : (be size l.length ++ (l ++ rest)).take k = be size l.length ++ (l ++ rest.take (k - size - l.length)) := by
    rw [List.take_append, List.take_of_length_le (by rw [be_length]; omega), be_length, List.take_append, List.take_of_length_le (i := k - size) (by omega)]
  rw [h2, eText_ok size most l _ hl hm]

/-- what is written by Short, Long and U32, cut off: too short -/
theorem cuts (a b : List UInt8) (k : Nat) (ha : a.length ≤ 255) (hb : b.length ≤ 700) (hk : k < a.length + b.length + 7) :
    ∀ t1 t2, t1 = eText 1 255 ((be 1 a.length ++ (a ++ (be 2 b.length ++ (b ++ be 4 7)))).take k) 0 → t2 = eText 2 65535 t1.2.1 t1.2.2 → (eTake (4 : Nat) t2.2.1 t2.2.2).2.2 = 10 := by
  rintro t1 t2 rfl rfl
  by_cases h1 : k < 1 + a.length
  · have e := eText_cut 1 255 a (be 2 b.length ++ (b ++ be 4 7)) k (by omega) (by omega) h1
    rw [e, eText_err _ _ _ _ (by decide)]
    simp only
    rw [eTake_err _ _ _ (by decide)]
  · rw [eText_past 1 255 a _ k (by omega) (by omega) (by omega)]
    simp only
    by_cases h2 : k - 1 - a.length < 2 + b.length
    · have e := eText_cut 2 65535 b (be 4 7) (k - 1 - a.length) (by omega) (by omega) h2
      rw [e, eTake_err _ _ _ (by decide)]
    · rw [eText_past 2 65535 b _ _ (by omega) (by omega) (by omega)]
      simp only
      rw [eTake_short _ _ (by rw [List.length_take]; omega)]

theorem eTake_rest (n : Int) (r : List UInt8) (err : Int) : (eTake n r err).2.1.length ≤ r.length := by
  unfold eTake
  split
  · simp
  · split
    · simp
    · split
      · simp
      · simp

theorem eText_rest (size : Nat) (most : Int) (r : List UInt8) (err : Int) : (eText size most r err).2.1.length ≤ r.length := by
  simp only [eText]
  generalize (if most < (val (eTake size r err).1 : Int) then eFail (eTake size r err).2.2 11 else (eTake size r err).2.2) = e2
  split
  · exact Nat.le_trans (eTake_rest _ _ _) (eTake_rest _ _ _)
  · exact Nat.le_refl _

theorem eNum_ok (size n : Nat) (rest : List UInt8) (h : n < 256 ^ size) : eNum size (be size n ++ rest) 0 = n ∧ eTake size (be size n ++ rest) 0 = (be size n, rest, 0) := by
  have h1 : eTake size (be size n ++ rest) 0 = (be size n, rest, 0) := by
    have := eTake_join (be size n) rest
    rwa [be_length] at this
  refine ⟨?_, h1⟩
  unfold eNum
  rw [h1]
  exact val_be_lt size n h

theorem be_low (size m x y : Nat) (h : size ≤ m) : be size (x * 256 ^ m + y) = be size y := by
  induction size with
  | zero => rfl
  | succ k ih =>
    have e : x * 256 ^ m = 256 ^ k * (x * 256 ^ (m - k - 1) * 256) := by
      rw [show x * 256 ^ m = x * 256 ^ (k + ((m - k - 1) + 1)) by congr 2; omega, Nat.pow_add, Nat.pow_succ]
      rw [← Nat.mul_assoc, Nat.mul_comm x, Nat.mul_assoc, Nat.mul_assoc]
    rw [be, be, ih (by omega)]
    congr 1
    apply UInt8.toNat_inj.1
    rw [UInt8.toNat_ofNat', UInt8.toNat_ofNat', e, Nat.mul_add_div (Nat.pow_pos (by decide))]
    omega

theorem be_val (m : List UInt8) : be m.length (val m) = m := by
  induction m with
  | nil => rfl
  | cons b r ih =>
    have hlt := val_lt r
    rw [List.length_cons, be, val_cons, be_low _ _ _ _ (Nat.le_refl _), ih]
    congr 1
    rw [Nat.mul_comm, Nat.mul_add_div (Nat.pow_pos (by decide)), Nat.div_eq_of_lt hlt, Nat.add_zero]
    exact UInt8.ofNat_toNat

end Go.Proofs.YtliojldkdmaofaaDoor
