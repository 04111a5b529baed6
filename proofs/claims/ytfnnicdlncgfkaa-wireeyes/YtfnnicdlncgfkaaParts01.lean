/-
  The argument '[]Part' of layer 1's statements.
-/
import Derived.Test.YtfnnicdlncgfkaaOpen
import Derived.Test.YtfnnicdlncgfkaaLaw01
namespace Go.Proofs.Ytfnnicdlncgfkaa
set_option linter.unusedVariables false
set_option linter.unusedSimpArgs false
open Go.ChangeShapes Go.WideShapes Go.ChangeAt Go.RowKit

structure PartD where
  kind : Int
  n : Int
  b : List UInt8

def RdPart (w : World) (cs : List Value) (d : PartD) : Prop :=
  ∃ a m c, cs = [.int .i64 d.kind, .int .i64 d.n, .slice a m c] ∧ Rd w (.slice a m c) d.b ∧ (-9223372036854775808 ≤ d.kind ∧ d.kind ≤ 9223372036854775807) ∧ (-9223372036854775808 ≤ d.n ∧ d.n ≤ 9223372036854775807)

def RdParts (w : World) (v : Value) (l : List PartD) : Prop :=
  ∃ css, RdN w 3 v css ∧ css.length = l.length ∧ ∀ (i : Nat) cs d, css[i]? = some cs → l[i]? = some d → RdPart w cs d

theorem RdParts.new {w w' : World} {v : Value} {l : List PartD} (h : RdParts w v l) (ho : New w w') : RdParts w' v l := by
  obtain ⟨css, h1, h2, h3⟩ := h
  refine ⟨css, h1.new ho, h2, fun i cs d hc hd => ?_⟩
  obtain ⟨a, m, c, e, hr, hk, hn⟩ := h3 i cs d hc hd
  exact ⟨a, m, c, e, hr.new ho, hk, hn⟩

/-- one element, as a walk reads it -/
theorem RdParts.at {w : World} {a : Option Addr} {n c : Nat} {l : List PartD} (h : RdParts w (.slice a n c) l) {k : Nat} {d : PartD} (hd : l[k]? = some d) :
    ∃ b off a' m' c', a = some ⟨b, off, none⟩ ∧ w.cell? ⟨b, off + k * 3, none⟩ = some (.int .i64 d.kind) ∧ w.cell? ⟨b, off + k * 3 + 1, none⟩ = some (.int .i64 d.n) ∧ w.cell? ⟨b, off + k * 3 + 2, none⟩ = some (.slice a' m' c') ∧
      Rd w (.slice a' m' c') d.b ∧ (-9223372036854775808 ≤ d.kind ∧ d.kind ≤ 9223372036854775807) ∧ (-9223372036854775808 ≤ d.n ∧ d.n ≤ 9223372036854775807) := by
  obtain ⟨css, h1, h2, h3⟩ := h
  have hk : k < l.length := (List.getElem?_eq_some_iff.1 hd).1
  have hlen : css.length = n := by obtain ⟨_, _, _, e, h, _⟩ := h1; cases e; exact h
  have hcs : css[k]? = some (css[k]'(by omega)) := List.getElem?_eq_getElem (by omega)
  obtain ⟨b, off, rfl, hcell⟩ := h1.cell (fun x hx => by
    obtain ⟨i, hi, e⟩ := List.getElem_of_mem hx
    obtain ⟨a', m', c', e', _⟩ := h3 i x (l[i]'(by omega)) (by rw [← e]; exact List.getElem?_eq_getElem hi) (List.getElem?_eq_getElem (by omega))
    rw [e']; simp) (by omega)
  obtain ⟨a', m', c', e', hr, hk', hn'⟩ := h3 k _ d hcs hd
  rw [e'] at hcs
  exact ⟨b, off, a', m', c', rfl, hcell k _ hcs 0 _ rfl, hcell k _ hcs 1 _ rfl, hcell k _ hcs 2 _ rfl, hr, hk', hn'⟩

theorem RdParts.len {w : World} {a : Option Addr} {n c : Nat} {l : List PartD} (h : RdParts w (.slice a n c) l) : l.length = n ∧ n ≤ c ∧ c ≤ 9223372036854775807 := by
  obtain ⟨css, h1, h2, h3⟩ := h
  obtain ⟨_, _, _, e, h, h', h'', _⟩ := h1
  cases e
  exact ⟨by omega, h', h''⟩

theorem part_of_trod {H : Type} {enc : TypeId × Value → H} {W : World} {base fuel : Nat} {spare : Nat → Bool} {held : Bool} {cs : List Value} {x : DataW H × List MemPlace} (hl : cs.length = 3)
    (h : DataW.trod enc Try.prog W base spare held fuel 30 cs = some x) : ∃ d, RdPart W cs d := by
  match cs, hl with
  | [c0, c1, c2], _ =>
    obtain ⟨y0, y1, y2, n, _, _, h0, h1, h2⟩ := Deep.trod_struct3 Try.underlying30 h
    obtain ⟨k, rfl, hk⟩ := int_of_trod Try.underlying3 (v := c0) h0
    obtain ⟨m, rfl, hm⟩ := int_of_trod Try.underlying3 (v := c1) h1
    obtain ⟨l, hr⟩ := rd_of_trod (v := c2) h2
    have hr' := hr
    obtain ⟨a, m', c, rfl, _⟩ := hr'
    exact ⟨⟨k, m, l⟩, a, m', c, rfl, hr, wf_i64_lt hk, wf_i64_lt hm⟩

theorem parts_open {H : Type} {enc : TypeId × Value → H} {W : World} {base : Nat} {spare : Nat → Bool} {held : Bool} {a : Option Addr} {n c : Nat} {d : DataW H} {p : List MemPlace} (h : DataW.Trod enc Try.prog W base spare held 22 (.slice a n c) d p) : ∃ l, RdParts W (.slice a n c) l := by
  obtain ⟨fuel, hf⟩ := h
  obtain ⟨css, m, h1, h2⟩ := rdn_of_trod (v := .slice a n c) Try.underlying22 (e := 30) (size := 3) (by kernel_rfl) hf
  have : ∀ css : List (List Value), (∀ cs ∈ css, cs.length = 3 ∧ ∃ y, DataW.trod enc Try.prog W base spare held m 30 cs = some y) → ∃ l : List PartD, css.length = l.length ∧ ∀ (i : Nat) cs d, css[i]? = some cs → l[i]? = some d → RdPart W cs d := by
    intro css
    induction css with
    | nil => exact fun _ => ⟨[], rfl, fun i cs d h => by simp at h⟩
    | cons cs r ih =>
      intro hh
      obtain ⟨l, hl, hi⟩ := ih (fun x hx => hh x (by simp [hx]))
      obtain ⟨h3, y, hy⟩ := hh cs (by simp)
      obtain ⟨d, hd⟩ := part_of_trod h3 hy
      refine ⟨d :: l, by simp [hl], fun i cs' d' hc hd' => ?_⟩
      cases i with
      | zero => simp at hc hd'; subst hc hd'; exact hd
      | succ i => exact hi i cs' d' (by simpa using hc) (by simpa using hd')
  obtain ⟨l, hl, hi⟩ := this css h2
  exact ⟨l, css, h1, hl, hi⟩

/-- small: are they few, and short? -/
def smallB (l : List PartD) (most : Nat) : Bool := decide (l.length ≤ most) && l.all fun d => decide (d.b.length ≤ 700)

set_option maxHeartbeats 400000 in
theorem small01 (w : World) (v : Value) (l : List PartD) (most : Nat) (h : RdParts w v l) (hm : most ≤ 100) :
    Calls Try.prog 8 #[v, .int .i64 most] w fun e w' => e = .returned (.bool (smallB l most)) ∧ w = w' := by
  obtain ⟨a, n, c, rfl⟩ : ∃ a n c, v = .slice a n c := by obtain ⟨_, ⟨a, n, c, e, _⟩, _⟩ := h; exact ⟨a, n, c, e⟩
  obtain ⟨hn, hnc, hc⟩ := h.len
  subst hn
  by_cases h1 : l.length ≤ most
  · go_enter Try.func8, Try.ntmps8
    go_wp2
    go_loop [5] (fun i => ∃ k : Nat, k ≤ l.length ∧ i = .int .i64 k ∧ Hid ((l.take k).all (fun d => decide (d.b.length ≤ 700)) = true)) (fun i => l.length - (intOf i).toNat)
    case atStart => exact ⟨0, Nat.zero_le _, rfl, rfl⟩
    case round =>
      obtain ⟨k, hk, rfl, HA⟩ := hrel
      by_cases hlt : k < l.length
      · obtain ⟨b, off, a', m', c', rfl, hc0, hc1, hc2, hr, _, _⟩ := h.at (List.getElem?_eq_getElem hlt)
        have HR := Lib.hid hr.len
        clear hr
        by_cases h7 : m' ≤ 700
        · go_wp2
          go_round
          case rel =>
            refine ⟨k + 1, by omega, by go_num, ?_⟩
            show _ = true
            rw [List.take_succ_eq_append_getElem hlt, List.all_append, HA.out]
            simp [HR.out, h7]
          case measure => simp [intOf]; omega
        · have e : smallB l most = false := by
            unfold smallB
            rw [Bool.and_eq_false_iff]
            right
            rw [List.all_eq_false]
            exact ⟨l[k], List.getElem_mem hlt, by rw [HR.out]; simpa using h7⟩
          have E := Lib.hid e
          clear e
          go_wp2
          go_ret
          exact ⟨by rw [E.out]; rfl, rfl⟩
      · obtain rfl : k = l.length := by omega
        have e : smallB l most = true := by
          unfold smallB
          have := HA.out
          rw [List.take_length] at this
          rw [this]
          simpa using h1
        have E := Lib.hid e
        clear e
        go_wp2
        go_ret
        exact ⟨by rw [E.out]; rfl, rfl⟩
  · have e : smallB l most = false := by unfold smallB; simp [h1]
    rw [e]
    clear e
    go_enter Try.func8, Try.ntmps8
    go_wp2
    go_ret
    exact ⟨rfl, rfl⟩

/-- how many bytes, by the kind -/
def szOf (k : Nat) : Nat := [1, 2, 4, 8, 0, 1, 2].getD k 0

set_option maxHeartbeats 400000 in
theorem size01 (w : World) (k : Nat) (hk : k < 7) :
    Calls Try.prog 19 #[.int .i64 k] w fun e w' => e = .returned (.int .i64 (szOf k)) ∧ New w w' := by
  rcases (show k = 0 ∨ k = 1 ∨ k = 2 ∨ k = 3 ∨ k = 4 ∨ k = 5 ∨ k = 6 by omega) with rfl | rfl | rfl | rfl | rfl | rfl | rfl
  all_goals
    go_enter Try.func19, Try.ntmps19
    go_wp2
    go_ret
    exact ⟨rfl, (Below.refl _ _).alloc (Nat.le_refl _) _⟩

end Go.Proofs.Ytfnnicdlncgfkaa
