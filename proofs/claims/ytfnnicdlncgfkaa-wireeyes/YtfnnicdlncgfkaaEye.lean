/-
  The reader of package wire: one contract a function.
-/
import Derived.Test.YtfnnicdlncgfkaaPen3
namespace Go.Proofs.Ytfnnicdlncgfkaa
set_option linter.unusedVariables false
set_option linter.unusedSimpArgs false
open Go.RowKit

/-- The reader at block p, over memory in block d: what is left, and its error. -/
def Eye (w : World) (p : Nat) (d : Option Nat) (r : List UInt8) (err : Int) : Prop :=
  ∃ v, w.heap[p]? = some (.cells #[v, .int .i64 err] 66 (0, 0)) ∧ Rd w v r ∧ (r ≠ [] → blk v = d)

theorem Eye.cells {w : World} {p : Nat} {d : Option Nat} {r : List UInt8} {err : Int} (h : Eye w p d r err) :
    ∃ a n c, w.cell? ⟨p, 0, none⟩ = some (.slice a n c) ∧ w.cell? ⟨p, 1, none⟩ = some (.int .i64 err) ∧ w.frozen? ⟨p, 0, none⟩ = false ∧ w.frozen? ⟨p, 1, none⟩ = false ∧ p < w.heap.size ∧
      Hid (w.heap[p]? = some (.cells #[.slice a n c, .int .i64 err] 66 (0, 0))) ∧ Hid (Rd w (.slice a n c) r) ∧ Hid (r ≠ [] → blk (.slice a n c) = d) ∧ Hid (r.length = n) ∧ n ≤ c ∧ c ≤ 9223372036854775807 := by
  obtain ⟨v, hp, hr, hd⟩ := h
  have hr' := hr
  obtain ⟨a, n, c, rfl, h1, h2, h3, h4, h5⟩ := hr'
  exact ⟨a, n, c, by rw [cell_of_row w p 0 _ _ _ hp]; rfl, by rw [cell_of_row w p 1 _ _ _ hp]; rfl, by simp [World.frozen?, hp], by simp [World.frozen?, hp], lt_of_block hp, hp, hr, hd, h1, h2, h3⟩

/-- What the reader reads does not lie in the reader's own block. -/
theorem eye_ne {w : World} {p : Nat} {v : Value} {r : List UInt8} {a : Option Addr} {n c : Nat} {err : Int} (hp : w.heap[p]? = some (.cells #[.slice a n c, .int .i64 err] 66 (0, 0))) (hr : Rd w v r) (hne : r ≠ []) : blk v ≠ some p := by
  intro e
  obtain ⟨a', n', c', rfl, h1, h2, h3, h4, h5⟩ := hr
  cases a' with
  | none => simp [blk] at e
  | some ad =>
    simp [blk] at e
    cases r with
    | nil => exact hne rfl
    | cons x r =>
      have hx := h5 ad rfl 0 x rfl
      have h0 : ad.add 0 = ad := by simp [Addr.add]
      rw [h0] at hx
      unfold World.cell? at hx
      rw [e, hp] at hx
      simp only at hx
      split at hx
      · cases hx
      · match hoff : ad.off, hx with
        | 0, hx => simp at hx
        | 1, hx => simp at hx
        | k + 2, hx => simp at hx

/-- a store into the reader's block leaves what is read -/
theorem rd_set {w : World} {p o : Nat} {v u : Value} {r : List UInt8} (hr : Rd w v r) (hne : r ≠ [] → blk v ≠ some p) : Rd (w.setCell ⟨p, o, none⟩ u) v r :=
  hr.of_block fun k hk hn => Below.heap_setCell _ _ _ _ (fun e => hne hn (by rw [hk, e]))

def EyeTo (w : World) (p : Nat) (d : Option Nat) (r : List UInt8) (err : Int) (w' : World) : Prop := Eye w' p d r err ∧ Only (fun k => k = p) w w'

theorem eyeSetErr {w : World} {p : Nat} {d : Option Nat} {r : List UInt8} {err x : Int} (h : Eye w p d r err) : EyeTo w p d r x (w.setCell ⟨p, 1, none⟩ (.int .i64 x)) := by
  obtain ⟨v, hp, hr, hd⟩ := h
  obtain ⟨a, n, c, e⟩ : ∃ a n c, v = .slice a n c := by obtain ⟨a, n, c, e, _⟩ := hr; exact ⟨a, n, c, e⟩
  subst e
  exact ⟨⟨_, two_setCell1 hp, rd_set hr (fun hn => eye_ne hp hr hn), hd⟩, (Only.refl (fun k => k = p) w).setCell (p := ⟨p, 1, none⟩) (fun _ => rfl) _⟩

theorem eyeSetRest {w : World} {p : Nat} {d : Option Nat} {r r' : List UInt8} {err : Int} {v' : Value} (h : Eye w p d r err) (hr' : Rd w v' r') (hd' : r' ≠ [] → blk v' = d) : EyeTo w p d r' err (w.setCell ⟨p, 0, none⟩ v') := by
  obtain ⟨v, hp, hr, hd⟩ := h
  obtain ⟨a, n, c, e⟩ : ∃ a n c, v = .slice a n c := by obtain ⟨a, n, c, e, _⟩ := hr; exact ⟨a, n, c, e⟩
  subst e
  exact ⟨⟨v', two_setCell0 hp, rd_set hr' (fun hn => eye_ne hp hr' hn), hd'⟩, (Only.refl (fun k => k = p) w).setCell (p := ⟨p, 0, none⟩) (fun _ => rfl) _⟩

theorem EyeTo.refl {w : World} {p : Nat} {d : Option Nat} {r : List UInt8} {err : Int} (h : Eye w p d r err) : EyeTo w p d r err w := ⟨h, Only.refl _ _⟩

theorem EyeTo.trans {w w1 w2 : World} {p : Nat} {d : Option Nat} {r1 r2 : List UInt8} {e1 e2 : Int} (h : EyeTo w p d r1 e1 w1) (k : EyeTo w1 p d r2 e2 w2) : EyeTo w p d r2 e2 w2 :=
  ⟨k.1, h.2.trans k.2 (fun _ _ h => h)⟩

/-- a reader behind what leaves its blocks alone -/
theorem Eye.only {F : Nat → Prop} {w w' : World} {p : Nat} {d : Option Nat} {r : List UInt8} {err : Int} (h : Eye w p d r err) (ho : Only F w w') (hp : ¬ F p) (hd : ∀ k, d = some k → ¬ F k) : Eye w' p d r err := by
  obtain ⟨v, hp', hr, hd'⟩ := h
  refine ⟨v, (ho.block p (lt_of_block hp') hp).trans hp', hr.of_block fun k hk hn => ho.block k (hr.lt hk hn) (hd k (by rw [← hd' hn]; exact hk)), hd'⟩

theorem Eye.new {w w' : World} {p : Nat} {d : Option Nat} {r : List UInt8} {err : Int} (h : Eye w p d r err) (ho : New w w') : Eye w' p d r err := by
  obtain ⟨v, hp', hr, hd'⟩ := h
  exact ⟨v, (ho.block p (lt_of_block hp')).trans hp', hr.new ho, hd'⟩

set_option maxHeartbeats 400000 in
theorem eyeErr (w : World) (p : Nat) (d : Option Nat) (r : List UInt8) (err : Int) (h : Eye w p d r err) :
    Calls Try.prog 34 #[.pointer (some ⟨p, 0, none⟩)] w fun e w' => e = .returned (.int .i64 err) ∧ w = w' := by
  obtain ⟨a, n, c, hc0, hc1, _⟩ := h.cells
  go_enter Try.func34, Try.ntmps34
  go_wp2
  go_ret
  exact ⟨rfl, rfl⟩

set_option maxHeartbeats 400000 in
theorem eyeLeft (w : World) (p : Nat) (d : Option Nat) (r : List UInt8) (err : Int) (h : Eye w p d r err) :
    Calls Try.prog 35 #[.pointer (some ⟨p, 0, none⟩)] w fun e w' => e = .returned (.int .i64 (r.length : Int)) ∧ w = w' := by
  obtain ⟨a, n, c, hc0, hc1, _, _, _, _, _, _, HN, _⟩ := h.cells
  go_enter Try.func35, Try.ntmps35
  go_wp2
  go_ret
  exact ⟨by rw [HN.out]; rfl, rfl⟩

def eEnd (r : List UInt8) (err : Int) : Int := if err = 0 ∧ r ≠ [] then 13 else err

set_option maxHeartbeats 400000 in
theorem eyeEnd (w : World) (p : Nat) (d : Option Nat) (r : List UInt8) (err : Int) (h : Eye w p d r err) :
    Calls Try.prog 36 #[.pointer (some ⟨p, 0, none⟩)] w fun e w' => e = .returned (.int .i64 (eEnd r err)) ∧ w = w' := by
  obtain ⟨a, n, c, hc0, hc1, _, _, _, _, _, _, HN, _⟩ := h.cells
  by_cases h0 : err = 0
  · subst h0
    by_cases hr : r = []
    · have hn : n = 0 := by rw [← HN.out, hr]; rfl
      subst hn
      have e : eEnd r 0 = 0 := by simp [eEnd, hr]
      rw [e]
      go_enter Try.func36, Try.ntmps36
      go_wp2
      go_ret
      exact ⟨rfl, rfl⟩
    · have hn : 0 < n := by rw [← HN.out]; exact List.length_pos_iff.2 hr
      have e : eEnd r 0 = 13 := by simp [eEnd, hr]
      rw [e]
      go_enter Try.func36, Try.ntmps36
      go_wp2
      go_ret
      exact ⟨rfl, rfl⟩
  · have e : eEnd r err = err := by simp [eEnd, h0]
    have hb : (err == 0) = false := by simpa using h0
    rw [e]
    go_enter Try.func36, Try.ntmps36
    go_wp2
    go_ret
    exact ⟨rfl, rfl⟩

def eFail (err x : Int) : Int := if err = 0 then x else err

set_option maxHeartbeats 400000 in
theorem eyeFail (w : World) (p : Nat) (d : Option Nat) (r : List UInt8) (err x : Int) (h : Eye w p d r err) :
    Calls Try.prog 38 #[.pointer (some ⟨p, 0, none⟩), .int .i64 x] w fun e w' => e = .returned (.tuple #[]) ∧ EyeTo w p d r (eFail err x) w' := by
  obtain ⟨a, n, c, hc0, hc1, _, hfz, _⟩ := h.cells
  by_cases h0 : err = 0
  · subst h0
    go_enter Try.func38, Try.ntmps38
    go_wp2
    go_end0
    exact ⟨rfl, by simpa [eFail] using eyeSetErr h⟩
  · have hb : (err == 0) = false := by simpa using h0
    have e : eFail err x = err := by simp [eFail, h0]
    rw [e]
    go_enter Try.func38, Try.ntmps38
    go_wp2
    go_end0
    exact ⟨rfl, EyeTo.refl h⟩

set_option maxHeartbeats 400000 in
theorem eyeOpen (w : World) (x : Value) (l : List UInt8) (hx : Rd w x l) (hb : l.length ≤ 140737488355328) :
    Calls Try.prog 23 #[x] w fun e w' => ∃ p d, e = .returned (.pointer (some ⟨p, 0, none⟩)) ∧ w.heap.size ≤ p ∧ Eye w' p d l 0 ∧ (∀ k, d = some k → w.heap.size ≤ k ∧ k < w'.heap.size) ∧ New w w' := by
  go_enter Try.func23, Try.ntmps23
  go_wp2_with fail
  refine (fresh_any w x l hx hb).mono ?_
  rintro e w1 ⟨a, n, c, rfl, hr, hn, ho⟩
  go_wp2
  go_ret
  refine ⟨w1.heap.size, if l = [] then none else blk (.slice a n c), rfl, hn.size, ⟨_, heap_alloc_new w1 _, hr.new ((Below.refl _ _).alloc (Nat.le_refl _) _), fun h => by rw [if_neg h]⟩, ?_, New.trans hn ((Below.refl _ _).alloc (Nat.le_refl _) _)⟩
  intro k hk
  split at hk
  · cases hk
  · rename_i h
    rw [blk_own] at hk
    have := (ho h).lt k hk
    exact ⟨this.1, by simp; omega⟩

/-- taking so many bytes: what is taken, what is left, the error -/
def eTake (n : Int) (r : List UInt8) (err : Int) : List UInt8 × List UInt8 × Int :=
  if err ≠ 0 then ([], r, err) else if n < 0 then ([], r, 2) else if (r.length : Int) < n then ([], r, 10) else (r.take n.toNat, r.drop n.toNat, 0)

/-- what 'take' leaves: bytes of the reader's own memory -/
def TakeTo (w : World) (p : Nat) (d : Option Nat) (t r : List UInt8) (err : Int) (e : Ending) (w' : World) : Prop :=
  ∃ a n c, e = .returned (.slice a n c) ∧ Rd w' (.slice a n c) t ∧ (t ≠ [] → blk (.slice a n c) = d) ∧ EyeTo w p d r err w'

theorem TakeTo.none {w w' : World} {p : Nat} {d : Option Nat} {r : List UInt8} {err : Int} (h : EyeTo w p d r err w') : TakeTo w p d [] r err (.returned (.slice .none 0 0)) w' :=
  ⟨_, _, _, rfl, Rd.nil _, fun h => absurd rfl h, h⟩

set_option maxHeartbeats 400000 in
theorem eyeTake_err (w : World) (p : Nat) (d : Option Nat) (r : List UInt8) (err n : Int) (h : Eye w p d r err) (h0 : err ≠ 0) :
    Calls Try.prog 43 #[.pointer (some ⟨p, 0, none⟩), .int .i64 n] w (TakeTo w p d [] r err) := by
  obtain ⟨a, m, c, hc0, hc1, _, hfz, _, HP, HR, HD, HN, hmc, hc⟩ := h.cells
  have hb : (err != 0) = true := by simpa using h0
  have hf : eFail err 2 = err := by simp [eFail, h0]
  have hf' : eFail err 10 = err := by simp [eFail, h0]
  by_cases hn : n < 0
  · go_enter Try.func43, Try.ntmps43
    go_wp2_with fail
    refine (eyeFail w p d r err 2 h).mono ?_
    rintro e w1 ⟨rfl, he⟩
    rw [hf] at he
    obtain ⟨a1, m1, c1, _, hc11, _⟩ := he.1.cells
    go_wp2
    go_ret
    exact TakeTo.none he
  · by_cases hm : (m : Int) < n
    · go_enter Try.func43, Try.ntmps43
      go_wp2_with fail
      refine (eyeFail w p d r err 10 h).mono ?_
      rintro e w1 ⟨rfl, he⟩
      rw [hf'] at he
      obtain ⟨a1, m1, c1, _, hc11, _⟩ := he.1.cells
      go_wp2
      go_ret
      exact TakeTo.none he
    · go_enter Try.func43, Try.ntmps43
      go_wp2
      go_ret
      exact TakeTo.none (EyeTo.refl h)

set_option maxHeartbeats 400000 in
theorem eyeTake_ok (w : World) (p : Nat) (d : Option Nat) (r : List UInt8) (k : Nat) (h : Eye w p d r 0) (hk : k ≤ r.length) :
    Calls Try.prog 43 #[.pointer (some ⟨p, 0, none⟩), .int .i64 k] w (TakeTo w p d (r.take k) (r.drop k) 0) := by
  obtain ⟨a, m, c, hc0, hc1, hfz, _, _, HP, HR, HD, HN, hmc, hc⟩ := h.cells
  have hkm : k ≤ m := by rw [← HN.out]; exact hk
  by_cases hck : c = k
  · obtain rfl : k = m := by omega
    obtain rfl : k = c := hck.symm
    have hz : r.drop k = [] := List.drop_of_length_le (by rw [HN.out]; exact Nat.le_refl _)
    rw [hz]
    go_enter Try.func43, Try.ntmps43
    go_wp2
    go_ret
    have ht := eyeSetRest (r' := []) (v' := .slice a 0 0) h ⟨a, 0, 0, rfl, rfl, Nat.le_refl _, by simp [maxLen], fun _ => ⟨rfl, rfl⟩, by simp⟩ (fun h => absurd rfl h)
    exact ⟨a, k, k, rfl, rd_set (HR.out.cut (Nat.le_refl _) (Nat.le_refl _) (Nat.le_refl _)) (fun hn => eye_ne HP.out (HR.out.cut (Nat.le_refl _) (Nat.le_refl _) (Nat.le_refl _)) hn), (fun hn => HD.out (fun e => hn (by rw [e]; simp))), by simpa using ht⟩
  · go_enter Try.func43, Try.ntmps43
    go_wp2
    go_ret
    have ht := eyeSetRest (r' := r.drop k) (v' := .slice (a.map (fun x => x.add k)) (m - k) (c - k)) h (HR.out.rest hkm) (fun hn => by rw [blk_rest a _ _ m c]; exact HD.out (fun e => hn (by rw [e]; simp)))
    have hcut : Rd w (.slice a k c) (r.take k) := HR.out.cut hkm (by omega) (Nat.le_refl _)
    exact ⟨a, k, c, rfl, rd_set hcut (fun hn => eye_ne HP.out hcut hn), (fun hn => by rw [blk_slice a k c m c]; exact HD.out (fun e => hn (by rw [e]; simp))), ht⟩

set_option maxHeartbeats 400000 in
theorem eyeTake_neg (w : World) (p : Nat) (d : Option Nat) (r : List UInt8) (n : Int) (h : Eye w p d r 0) (hn : n < 0) :
    Calls Try.prog 43 #[.pointer (some ⟨p, 0, none⟩), .int .i64 n] w (TakeTo w p d [] r 2) := by
  go_enter Try.func43, Try.ntmps43
  go_wp2_with fail
  refine (eyeFail w p d r 0 2 h).mono ?_
  rintro e w1 ⟨rfl, he⟩
  have he' : EyeTo w p d r 2 w1 := he
  obtain ⟨a1, m1, c1, _, hc11, _⟩ := he'.1.cells
  clear he
  go_wp2
  go_ret
  exact TakeTo.none he'

set_option maxHeartbeats 400000 in
theorem eyeTake_short (w : World) (p : Nat) (d : Option Nat) (r : List UInt8) (n : Int) (h : Eye w p d r 0) (hn : (r.length : Int) < n) :
    Calls Try.prog 43 #[.pointer (some ⟨p, 0, none⟩), .int .i64 n] w (TakeTo w p d [] r 10) := by
  obtain ⟨a, m, c, hc0, hc1, hfz, _, _, HP, HR, HD, HN, hmc, hc⟩ := h.cells
  have hm : (m : Int) < n := by rw [← HN.out]; exact hn
  clear hn
  go_enter Try.func43, Try.ntmps43
  go_wp2_with fail
  refine (eyeFail w p d r 0 10 h).mono ?_
  rintro e w1 ⟨rfl, he⟩
  have he' : EyeTo w p d r 10 w1 := he
  obtain ⟨a1, m1, c1, _, hc11, _⟩ := he'.1.cells
  clear he
  go_wp2
  go_ret
  exact TakeTo.none he'

/-- 'take', whatever the reader and the number -/
theorem eyeTake (w : World) (p : Nat) (d : Option Nat) (r : List UInt8) (err n : Int) (h : Eye w p d r err) :
    Calls Try.prog 43 #[.pointer (some ⟨p, 0, none⟩), .int .i64 n] w (TakeTo w p d (eTake n r err).1 (eTake n r err).2.1 (eTake n r err).2.2) := by
  unfold eTake
  by_cases h0 : err ≠ 0
  · rw [if_pos h0]; exact eyeTake_err w p d r err n h h0
  · rw [if_neg h0]
    obtain rfl : err = 0 := Decidable.not_not.1 h0
    by_cases h1 : n < 0
    · rw [if_pos h1]; exact eyeTake_neg w p d r n h h1
    · rw [if_neg h1]
      by_cases h2 : (r.length : Int) < n
      · rw [if_pos h2]; exact eyeTake_short w p d r n h h2
      · rw [if_neg h2]
        obtain ⟨k, rfl⟩ := Int.eq_ofNat_of_zero_le (Int.not_lt.1 h1)
        exact eyeTake_ok w p d r k h (by omega)

end Go.Proofs.Ytfnnicdlncgfkaa
