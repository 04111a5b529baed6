/-
  The argument '[]Act' of layer 15's statements.
-/
import Derived.Test.YtijkmpcgkhijgaaGreatDoorOpen
import Derived.Test.YtijkmpcgkhijgaaGreatDoorBase
namespace Go.Proofs.YtijkmpcgkhijgaaGreatDoor
set_option linter.unusedVariables false
set_option linter.unusedSimpArgs false
open Go.ChangeShapes Go.WideShapes Go.ChangeAt Go.RowKit

/-- an act: its kind, N, B, and the slice Keep as the argument holds it (its length) -/
structure ActL where
  kind : Int
  n : Int
  b : Int
  ka : Option Addr
  kn : Nat
  kc : Nat

def ActL.cells (x : ActL) : List Value := [.int .i64 x.kind, .int .i64 x.n, .int .u8 x.b, .slice x.ka x.kn x.kc]
def ActL.val (x : ActL) : Value := .agg x.cells.toArray
def ActL.wf (x : ActL) : Prop := (-9223372036854775808 ≤ x.kind ∧ x.kind ≤ 9223372036854775807) ∧ (-9223372036854775808 ≤ x.n ∧ x.n ≤ 9223372036854775807) ∧ (0 ≤ x.b ∧ x.b ≤ 255) ∧ x.kn ≤ 9223372036854775807

/-- acts as an argument holds them -/
def RdAct (w : World) (v : Value) (l : List ActL) : Prop := RdN w 4 v (l.map ActL.cells) ∧ ∀ x ∈ l, x.wf

theorem RdAct.new {w w' : World} {v : Value} {l : List ActL} (h : RdAct w v l) (hn : New w w') : RdAct w' v l := ⟨h.1.new hn, h.2⟩

theorem trod_struct4 {H : Type} {enc : TypeId × Value → H} {w : World} {base : Nat} {spare : Nat → Bool} {held : Bool} {P : Program} {t : TypeId} {f0 f1 f2 f3 : Field} {fuel : Nat} {cs : List Value} {x : DataW H × List MemPlace} (ht : P.underlying t = some (.struct #[f0, f1, f2, f3])) (h : DataW.trod enc P w base spare held fuel t cs = some x) :
    ∃ y0 y1 y2 y3 n, x.1 = .agg [y0.1, y1.1, y2.1, y3.1] ∧ DataW.trod enc P w base spare held n f0.type ((cs.drop f0.offset).take (P.cellsOf f0.type)) = some y0 ∧ DataW.trod enc P w base spare held n f1.type ((cs.drop f1.offset).take (P.cellsOf f1.type)) = some y1 ∧ DataW.trod enc P w base spare held n f2.type ((cs.drop f2.offset).take (P.cellsOf f2.type)) = some y2 ∧ DataW.trod enc P w base spare held n f3.type ((cs.drop f3.offset).take (P.cellsOf f3.type)) = some y3 := by
  obtain ⟨xs, n, _, rfl, hl, hlen, hf⟩ := DataW.trod_struct ht h
  match xs, hlen with
  | [y0, y1, y2, y3], _ => exact ⟨y0, y1, y2, y3, n, by simp, by simpa using hf 0 f0 rfl, by simpa using hf 1 f1 rfl, by simpa using hf 2 f2 rfl, by simpa using hf 3 f3 rfl⟩

theorem slice_of_trod {H : Type} {enc : TypeId × Value → H} {W : World} {base fuel : Nat} {spare : Nat → Bool} {held : Bool} {v : Value} {x : DataW H × List MemPlace} (h : DataW.trod enc Tryz.prog W base spare held fuel 23 [v] = some x) : ∃ a n c, v = .slice a n c ∧ n ≤ 9223372036854775807 := by
  rcases Deep.open_slice Tryz.underlying23 h with ⟨hcs, _⟩ | ⟨a, len, cap, m, n, D, Pl, hcs, _, hl, hm, hmm, _, hx⟩
  · cases hcs; exact ⟨none, 0, 0, rfl, by omega⟩
  · cases hcs; exact ⟨_, _, _, rfl, by unfold maxLen at hm; omega⟩

theorem act_of_trod {H : Type} {enc : TypeId × Value → H} {W : World} {base fuel : Nat} {spare : Nat → Bool} {held : Bool} {cs : List Value} {x : DataW H × List MemPlace} (hl : cs.length = 4)
    (h : DataW.trod enc Tryz.prog W base spare held fuel 38 cs = some x) : ∃ d : ActL, cs = d.cells ∧ d.wf := by
  have ci : Tryz.prog.cellsOf 3 = 1 := by kernel_rfl
  have cu : Tryz.prog.cellsOf 5 = 1 := by kernel_rfl
  have cs' : Tryz.prog.cellsOf 23 = 1 := by kernel_rfl
  match cs, hl with
  | [c0, c1, c2, c3], _ =>
    obtain ⟨y0, y1, y2, y3, n, -, h0, h1, h2, h3⟩ := trod_struct4 Tryz.underlying38 h
    dsimp only at h0 h1 h2 h3
    rw [ci] at h0 h1
    rw [cu] at h2
    rw [cs'] at h3
    simp only [List.drop_zero, List.drop_succ_cons, List.take_succ_cons, List.take_zero] at h0 h1 h2 h3
    obtain ⟨k0, rfl, w0⟩ := int_of_trod Tryz.underlying3 (v := c0) h0
    obtain ⟨k1, rfl, w1⟩ := int_of_trod Tryz.underlying3 (v := c1) h1
    obtain ⟨k2, rfl, w2⟩ := int_of_trod Tryz.underlying5 (v := c2) h2
    obtain ⟨a, m, c, rfl, hm⟩ := slice_of_trod h3
    exact ⟨⟨k0, k1, k2, a, m, c⟩, rfl, wf_i64_lt w0, wf_i64_lt w1, wf_u8_lt w2, hm⟩

theorem acts_open {H : Type} {enc : TypeId × Value → H} {W : World} {base : Nat} {spare : Nat → Bool} {held : Bool} {a : Option Addr} {n c : Nat} {d : DataW H} {p : List MemPlace} (h : DataW.Trod enc Tryz.prog W base spare held 22 (.slice a n c) d p) : ∃ l, RdAct W (.slice a n c) l := by
  obtain ⟨fuel, hf⟩ := h
  obtain ⟨css, m, h1, h2⟩ := rdn_of_trod (v := .slice a n c) Tryz.underlying22 (e := 38) (size := 4) (by kernel_rfl) hf
  have : ∀ css : List (List Value), (∀ cs ∈ css, cs.length = 4 ∧ ∃ y, DataW.trod enc Tryz.prog W base spare held m 38 cs = some y) → ∃ l : List ActL, css = l.map ActL.cells ∧ ∀ x ∈ l, x.wf := by
    intro css
    induction css with
    | nil => exact fun _ => ⟨[], rfl, fun x hx => by cases hx⟩
    | cons cs r ih =>
      intro hh
      obtain ⟨l, hl, hi⟩ := ih (fun x hx => hh x (by simp [hx]))
      obtain ⟨h3, y, hy⟩ := hh cs (by simp)
      obtain ⟨d, hd, hw⟩ := act_of_trod h3 hy
      refine ⟨d :: l, by rw [hd, hl]; rfl, fun x hx => ?_⟩
      rcases List.mem_cons.1 hx with rfl | hx
      · exact hw
      · exact hi x hx
  obtain ⟨l, hl, hi⟩ := this css h2
  exact ⟨l, by rw [← hl]; exact h1, hi⟩

end Go.Proofs.YtijkmpcgkhijgaaGreatDoor
