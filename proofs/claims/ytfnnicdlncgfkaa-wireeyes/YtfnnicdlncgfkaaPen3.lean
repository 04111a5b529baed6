/-
  The writer of package wire: New, Bytes; 'fresh'.
-/
import Derived.Test.YtfnnicdlncgfkaaPen2
namespace Go.Proofs.Ytfnnicdlncgfkaa
set_option linter.unusedVariables false
set_option linter.unusedSimpArgs false
open Go.RowKit

set_option maxHeartbeats 400000 in
theorem penNew (w : World) : Calls Try.prog 9 #[] w fun e w' => e = .returned (.pointer (some ⟨w.heap.size, 0, none⟩)) ∧ Pen w' w.heap.size none (some []) ∧ New w w' ∧ w'.heap.size = w.heap.size + 1 := by
  go_enter Try.func9, Try.ntmps9
  go_wp2
  go_ret
  refine ⟨rfl, ⟨.slice none 0 0, [], heap_alloc_new w _, World.ownsRow_nil _ _ _ _, rfl, fun l h => by cases h; rfl⟩, (Below.refl _ _).alloc (Nat.le_refl _) _, by simp⟩

/-- a copy in new memory -/
def Fresh (w : World) (l : List UInt8) (v : Value) (w' : World) : Prop :=
  Rd w' v l ∧ New w w' ∧ (l ≠ [] → w'.ownsRow w.heap.size 5 1 v l.length (l.map bv))

def FreshTo (w : World) (l : List UInt8) (e : Ending) (w' : World) : Prop := ∃ a n c, e = .returned (.slice a n c) ∧ Fresh w l (.slice a n c) w'

set_option maxHeartbeats 400000 in
theorem fresh_any (w : World) (x : Value) (l : List UInt8) (hx : Rd w x l) (hb : l.length ≤ 140737488355328) : Calls Try.prog 41 #[x] w (FreshTo w l) := by
  obtain ⟨i0, hi0, hz0, hz1, hz2⟩ := info_parts infoByte
  have hx' := hx
  obtain ⟨a, n, c, rfl, h1, h2, h3, h4, h5⟩ := hx'
  have HX := Lib.hid hx
  clear h1 h5 h4 hx
  unfold maxLen at h3
  go_enter Try.func41, Try.ntmps41
  go_wp2_with (at_builtin; (refine wpList_append_copy rfl (.tmp 4) (.tmp 5) 28 rfl 5 i0 _ Try.underlying28 hi0 hz0 hz1 hz2 rfl _ rfl _ l rfl HX.out hb ?_))
  intro v' w1 hr hn ho
  obtain ⟨av, nv, cv, hv⟩ : ∃ a n c, v' = .slice a n c := by obtain ⟨a, n, c, e, _⟩ := hr; exact ⟨a, n, c, e⟩
  rw [hv] at hr ho ⊢
  have HR := Lib.hid hr
  have HO := Lib.hid ho
  clear hr ho
  go_wp2
  go_ret
  exact ⟨av, nv, cv, rfl, HR.out, hn, HO.out⟩

def BytesTo (w : World) (s : Option (List UInt8)) (e : Ending) (w' : World) : Prop :=
  ∃ a n c, e = .returned (.tuple #[.slice a n c, .bool s.isSome]) ∧ Fresh w (s.getD []) (.slice a n c) w'

set_option maxHeartbeats 400000 in
theorem penBytes (w : World) (p : Nat) (g : Option Nat) (s : Option (List UInt8)) (h : Pen w p g s) (hb : Fit s 0) :
    Calls Try.prog 22 #[.pointer (some ⟨p, 0, none⟩)] w (BytesTo w s) := by
  obtain ⟨v, out, hc0, hc1, hfz, _, hlp, hown, hg, hne, HL, HP⟩ := h.cells
  cases s with
  | none =>
    simp only [Option.isNone_none] at hc1
    go_enter Try.func22, Try.ntmps22
    go_wp2
    go_ret2
    exact ⟨none, 0, 0, rfl, Rd.nil _, Below.refl _ _, fun h => absurd rfl h⟩
  | some m =>
    obtain rfl := HL.out _ rfl
    simp only [Option.isNone_some] at hc1
    have hr := Lib.hid (Rd.of_own hown)
    have hb1 := hb _ rfl
    clear hg
    go_enter Try.func22, Try.ntmps22
    go_wp2_with fail
    refine (fresh_any w v out hr.out hb1).mono ?_
    rintro e w1 ⟨a, n, c, rfl, hf⟩
    go_wp2
    go_ret2
    exact ⟨a, n, c, rfl, hf⟩

theorem Pen.lt {w : World} {p : Nat} {g : Option Nat} {s : Option (List UInt8)} (h : Pen w p g s) : p < w.heap.size ∧ ∀ k, g = some k → k < w.heap.size := by
  obtain ⟨v, out, hp, hown, hg, hl⟩ := h
  exact ⟨lt_of_block hp, fun k hk => (hown.lt k (by rw [hg]; exact hk)).2⟩

theorem Pen.only {F : Nat → Prop} {w w' : World} {p : Nat} {g : Option Nat} {s : Option (List UInt8)} (h : Pen w p g s) (ho : Only F w w') (hp : ¬ F p) (hg : ∀ k, g = some k → ¬ F k) : Pen w' p g s := by
  have hlt := h.lt
  obtain ⟨v, out, hpb, hown, hgb, hl⟩ := h
  refine ⟨v, out, (ho.block p hlt.1 hp).trans hpb, ⟨hown.1, ?_⟩, hgb, hl⟩
  rcases hown.2 with hn | ⟨q, cap, cur, e1, e2, e3, rest⟩
  · exact .inl hn
  · have hq : g = some q := by rw [← hgb, e1]; rfl
    exact .inr ⟨q, cap, cur, e1, e2, (ho.block q (hlt.2 q hq) (hg q hq)).trans e3, rest⟩

theorem Pen.new {w w' : World} {p : Nat} {g : Option Nat} {s : Option (List UInt8)} (h : Pen w p g s) (ho : New w w') : Pen w' p g s :=
  h.only (New.only (F := fun _ => False) ho) (fun h => h) (fun _ _ h => h)

/-- A writer that was made behind w0: w: the world now. -/
def Pend (w0 : World) (p : Nat) (s : Option (List UInt8)) (w : World) : Prop := New w0 w ∧ w0.heap.size ≤ p ∧ ∃ g, Pen w p g s ∧ ∀ k, g = some k → w0.heap.size ≤ k

theorem Pend.start {w0 w : World} (hp : Pen w w0.heap.size none (some [])) (hn : New w0 w) : Pend w0 w0.heap.size (some []) w := ⟨hn, Nat.le_refl _, none, hp, by simp⟩

theorem Pend.later {w0 w w' : World} {p : Nat} {s : Option (List UInt8)} (h : Pend w0 p s w) (hn : New w w') : Pend w0 p s w' := by
  obtain ⟨h1, h2, g, h3, h4⟩ := h
  exact ⟨New.trans h1 hn, h2, g, h3.new hn, h4⟩

theorem Pend.step {w0 w w' : World} {p : Nat} {g : Option Nat} {s : Option (List UInt8)} (h1 : New w0 w) (h2 : w0.heap.size ≤ p) (h4 : ∀ k, g = some k → w0.heap.size ≤ k) (k : PenIn w p g s w') : Pend w0 p s w' := by
  obtain ⟨ho, g', hp, hg⟩ := k
  refine ⟨Below.trans h1 (ho.below h1.size ?_), h2, g', hp, ?_⟩
  · rintro k (rfl | e)
    · exact h2
    · exact h4 k e.symm
  · rintro k rfl
    rcases hg with e | ⟨j, e, hj⟩
    · exact h4 k e.symm
    · cases e; have := h1.size; omega

/-- bytes that were there before the writer -/
theorem Pend.apart {w0 : World} {p : Nat} {g : Option Nat} {x : Value} {l : List UInt8} (hx : Rd w0 x l) (h2 : w0.heap.size ≤ p) (h4 : ∀ k, g = some k → w0.heap.size ≤ k) : l ≠ [] → blk x ≠ some p ∧ (blk x ≠ none → blk x ≠ g) := by
  intro hne
  refine ⟨fun e => ?_, fun hn e => ?_⟩
  · have := hx.lt e hne; omega
  · cases hb : blk x with
    | none => exact hn hb
    | some k => have := hx.lt hb hne; have := h4 k (by rw [← e, hb]); omega

def PendTo (w0 : World) (p : Nat) (s : Option (List UInt8)) (e : Ending) (w' : World) : Prop := e = .returned (.tuple #[]) ∧ Pend w0 p s w'

theorem pendU8 {w0 w : World} {p : Nat} {s : Option (List UInt8)} (h : Pend w0 p s w) (n : Int) (hn : -9223372036854775808 ≤ n) (hn' : n ≤ 9223372036854775807) (hb : Fit s 8) :
    Calls Try.prog 11 #[.pointer (some ⟨p, 0, none⟩), .int .i64 n] w (PendTo w0 p (wU 1 n s)) := by
  obtain ⟨h1, h2, g, h3, h4⟩ := h
  exact (penU8 w p g s n h3 hn hn' hb).mono fun e w' h => ⟨h.1, Pend.step h1 h2 h4 h.2⟩

theorem pendU16 {w0 w : World} {p : Nat} {s : Option (List UInt8)} (h : Pend w0 p s w) (n : Int) (hn : -9223372036854775808 ≤ n) (hn' : n ≤ 9223372036854775807) (hb : Fit s 8) :
    Calls Try.prog 12 #[.pointer (some ⟨p, 0, none⟩), .int .i64 n] w (PendTo w0 p (wU 2 n s)) := by
  obtain ⟨h1, h2, g, h3, h4⟩ := h
  exact (penU16 w p g s n h3 hn hn' hb).mono fun e w' h => ⟨h.1, Pend.step h1 h2 h4 h.2⟩

theorem pendU32 {w0 w : World} {p : Nat} {s : Option (List UInt8)} (h : Pend w0 p s w) (n : Int) (hn : -9223372036854775808 ≤ n) (hn' : n ≤ 9223372036854775807) (hb : Fit s 8) :
    Calls Try.prog 13 #[.pointer (some ⟨p, 0, none⟩), .int .i64 n] w (PendTo w0 p (wU 4 n s)) := by
  obtain ⟨h1, h2, g, h3, h4⟩ := h
  exact (penU32 w p g s n h3 hn hn' hb).mono fun e w' h => ⟨h.1, Pend.step h1 h2 h4 h.2⟩

theorem pendU64 {w0 w : World} {p : Nat} {s : Option (List UInt8)} (h : Pend w0 p s w) (n : Int) (hn : 0 ≤ n) (hn' : n < 18446744073709551616) (hb : Fit s 8) :
    Calls Try.prog 14 #[.pointer (some ⟨p, 0, none⟩), .int .u64 n] w (PendTo w0 p (s.map (· ++ be 8 n.toNat))) := by
  obtain ⟨h1, h2, g, h3, h4⟩ := h
  exact (penU64 w p g s n h3 hn hn' hb).mono fun e w' h => ⟨h.1, Pend.step h1 h2 h4 h.2⟩

theorem pendRaw {w0 w : World} {p : Nat} {s : Option (List UInt8)} (h : Pend w0 p s w) (x : Value) (l : List UInt8) (hx : Rd w x l) (hb : Fit s l.length) :
    Calls Try.prog 15 #[.pointer (some ⟨p, 0, none⟩), x] w (PendTo w0 p (s.map (· ++ l))) := by
  obtain ⟨h1, h2, g, h3, h4⟩ := h
  exact (penRaw w p g s x l h3 hx hb).mono fun e w' h => ⟨h.1, Pend.step h1 h2 h4 h.2⟩

theorem pendShort {w0 w : World} {p : Nat} {s : Option (List UInt8)} (h : Pend w0 p s w) (x : Value) (l : List UInt8) (hx : Rd w0 x l) (hb : Fit s (l.length + 8)) :
    Calls Try.prog 16 #[.pointer (some ⟨p, 0, none⟩), x] w (PendTo w0 p (wText 1 l s)) := by
  obtain ⟨h1, h2, g, h3, h4⟩ := h
  exact (penShort w p g s x l h3 (hx.new h1) (Pend.apart hx h2 h4) hb).mono fun e w' h => ⟨h.1, Pend.step h1 h2 h4 h.2⟩

theorem pendLong {w0 w : World} {p : Nat} {s : Option (List UInt8)} (h : Pend w0 p s w) (x : Value) (l : List UInt8) (hx : Rd w0 x l) (hb : Fit s (l.length + 8)) :
    Calls Try.prog 17 #[.pointer (some ⟨p, 0, none⟩), x] w (PendTo w0 p (wText 2 l s)) := by
  obtain ⟨h1, h2, g, h3, h4⟩ := h
  exact (penLong w p g s x l h3 (hx.new h1) (Pend.apart hx h2 h4) hb).mono fun e w' h => ⟨h.1, Pend.step h1 h2 h4 h.2⟩

/-- the same of bytes that were made behind v, when the writer was there -/
theorem pendShortNew {w0 v w : World} {p : Nat} {s : Option (List UInt8)} (h : Pend w0 p s v) (hv : New v w) (x : Value) (l : List UInt8) (hx : Rd w x l) (hd : l ≠ [] → ∀ k, blk x = some k → v.heap.size ≤ k) (hb : Fit s (l.length + 8)) :
    Calls Try.prog 16 #[.pointer (some ⟨p, 0, none⟩), x] w (PendTo w0 p (wText 1 l s)) := by
  obtain ⟨h1, h2, g, h3, h4⟩ := h
  refine (penShort w p g s x l (h3.new hv) hx (fun hne => ⟨fun e => ?_, fun hn e => ?_⟩) hb).mono fun e w' h => ⟨h.1, Pend.step (New.trans h1 hv) h2 h4 h.2⟩
  · have := hd hne p e; have := h3.lt.1; omega
  · cases hbx : blk x with
    | none => exact hn hbx
    | some k => have := hd hne k hbx; have := h3.lt.2 k (by rw [← e, hbx]); omega

/-- the same of bytes that were made behind v, when the writer was there -/
theorem pendLongNew {w0 v w : World} {p : Nat} {s : Option (List UInt8)} (h : Pend w0 p s v) (hv : New v w) (x : Value) (l : List UInt8) (hx : Rd w x l) (hd : l ≠ [] → ∀ k, blk x = some k → v.heap.size ≤ k) (hb : Fit s (l.length + 8)) :
    Calls Try.prog 17 #[.pointer (some ⟨p, 0, none⟩), x] w (PendTo w0 p (wText 2 l s)) := by
  obtain ⟨h1, h2, g, h3, h4⟩ := h
  refine (penLong w p g s x l (h3.new hv) hx (fun hne => ⟨fun e => ?_, fun hn e => ?_⟩) hb).mono fun e w' h => ⟨h.1, Pend.step (New.trans h1 hv) h2 h4 h.2⟩
  · have := hd hne p e; have := h3.lt.1; omega
  · cases hbx : blk x with
    | none => exact hn hbx
    | some k => have := hd hne k hbx; have := h3.lt.2 k (by rw [← e, hbx]); omega

theorem pendBytes {w0 w : World} {p : Nat} {s : Option (List UInt8)} (h : Pend w0 p s w) (hb : Fit s 0) :
    Calls Try.prog 22 #[.pointer (some ⟨p, 0, none⟩)] w fun e w' => BytesTo w s e w' ∧ Pend w0 p s w' := by
  have h' := h
  obtain ⟨h1, h2, g, h3, h4⟩ := h'
  exact (penBytes w p g s h3 hb).mono fun e w' hh => ⟨hh, h.later (by obtain ⟨a, n, c, _, hf⟩ := hh; exact hf.2.1)⟩

end Go.Proofs.Ytfnnicdlncgfkaa
