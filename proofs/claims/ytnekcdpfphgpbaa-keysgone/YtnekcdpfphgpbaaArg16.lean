/-
  The argument '[]Act' of layer 16's statements.
-/
import Derived.Test.YtnekcdpfphgpbaaOpen
import Derived.Test.YtnekcdpfphgpbaaBase
namespace Go.Proofs.Ytnekcdpfphgpbaa
set_option linter.unusedVariables false
set_option linter.unusedSimpArgs false
open Go.ChangeShapes Go.WideShapes Go.ChangeAt Go.RowKit

/-- an act: its kind, bucket, B, and the slices Key and Keep as the argument holds them -/
structure ActK where
  kind : Int
  n : Int
  b : Int
  ya : Option Addr
  yn : Nat
  yc : Nat
  ka : Option Addr
  kn : Nat
  kc : Nat

def ActK.cells (x : ActK) : List Value := [.int .i64 x.kind, .int .i64 x.n, .int .u8 x.b, .slice x.ya x.yn x.yc, .slice x.ka x.kn x.kc]
def ActK.val (x : ActK) : Value := .agg x.cells.toArray
def ActK.wf (x : ActK) : Prop := (-9223372036854775808 ≤ x.kind ∧ x.kind ≤ 9223372036854775807) ∧ (-9223372036854775808 ≤ x.n ∧ x.n ≤ 9223372036854775807) ∧ (0 ≤ x.b ∧ x.b ≤ 255) ∧ x.yn ≤ 9223372036854775807 ∧ x.kn ≤ 9223372036854775807

/-- acts as an argument holds them -/
def RdActK (w : World) (v : Value) (l : List ActK) : Prop := RdN w 5 v (l.map ActK.cells) ∧ ∀ x ∈ l, x.wf

theorem RdActK.new {w w' : World} {v : Value} {l : List ActK} (h : RdActK w v l) (hn : New w w') : RdActK w' v l := ⟨h.1.new hn, h.2⟩

theorem RdActK.len {w : World} {a : Option Addr} {n c : Nat} {l : List ActK} (h : RdActK w (.slice a n c) l) : n = l.length ∧ l.length ≤ 9223372036854775807 := by
  obtain ⟨a', n', c', e, h1, h2, h3, h4, h5⟩ := h.1
  cases e
  rw [List.length_map] at h1
  unfold maxLen at h3
  omega

theorem RdActK.at {w : World} {a : Option Addr} {n c : Nat} {l : List ActK} (h : RdActK w (.slice a n c) l) {i : Nat} {x : ActK} (hx : l[i]? = some x) :
    ∃ b off, a = some ⟨b, off, none⟩ ∧ w.cell? ⟨b, off + i * 5, none⟩ = some (.int .i64 x.kind) ∧ w.cell? ⟨b, off + i * 5 + 1, none⟩ = some (.int .i64 x.n) ∧ w.cell? ⟨b, off + i * 5 + 2, none⟩ = some (.int .u8 x.b) ∧ w.cell? ⟨b, off + i * 5 + 3, none⟩ = some (.slice x.ya x.yn x.yc) ∧ w.cell? ⟨b, off + i * 5 + 4, none⟩ = some (.slice x.ka x.kn x.kc) := by
  have hn : 0 < n := by
    rw [h.len.1]
    obtain ⟨h1, -⟩ := List.getElem?_eq_some_iff.1 hx
    omega
  obtain ⟨b, off, rfl, hc⟩ := h.1.cell (fun y hy => by obtain ⟨z, -, rfl⟩ := List.mem_map.1 hy; unfold ActK.cells; simp) hn
  have hy : (l.map ActK.cells)[i]? = some x.cells := by rw [List.getElem?_map, hx]; rfl
  exact ⟨b, off, rfl, hc i _ hy 0 _ rfl, hc i _ hy 1 _ rfl, hc i _ hy 2 _ rfl, hc i _ hy 3 _ rfl, hc i _ hy 4 _ rfl⟩

theorem trod_struct5k {H : Type} {enc : TypeId × Value → H} {w : World} {base : Nat} {spare : Nat → Bool} {held : Bool} {P : Program} {t : TypeId} {f0 f1 f2 f3 f4 : Field} {fuel : Nat} {cs : List Value} {x : DataW H × List MemPlace} (ht : P.underlying t = some (.struct #[f0, f1, f2, f3, f4])) (h : DataW.trod enc P w base spare held fuel t cs = some x) :
    ∃ y0 y1 y2 y3 y4 n, DataW.trod enc P w base spare held n f0.type ((cs.drop f0.offset).take (P.cellsOf f0.type)) = some y0 ∧ DataW.trod enc P w base spare held n f1.type ((cs.drop f1.offset).take (P.cellsOf f1.type)) = some y1 ∧ DataW.trod enc P w base spare held n f2.type ((cs.drop f2.offset).take (P.cellsOf f2.type)) = some y2 ∧ DataW.trod enc P w base spare held n f3.type ((cs.drop f3.offset).take (P.cellsOf f3.type)) = some y3 ∧ DataW.trod enc P w base spare held n f4.type ((cs.drop f4.offset).take (P.cellsOf f4.type)) = some y4 := by
  obtain ⟨xs, n, _, rfl, hl, hlen, hf⟩ := DataW.trod_struct ht h
  match xs, hlen with
  | [y0, y1, y2, y3, y4], _ => exact ⟨y0, y1, y2, y3, y4, n, by simpa using hf 0 f0 rfl, by simpa using hf 1 f1 rfl, by simpa using hf 2 f2 rfl, by simpa using hf 3 f3 rfl, by simpa using hf 4 f4 rfl⟩

/-- a slice's own value, whatever it holds -/
theorem slice_of_trodK {H : Type} {enc : TypeId × Value → H} {W : World} {base fuel : Nat} {spare : Nat → Bool} {held : Bool} {v : Value} {t e : TypeId} (ht : Try.prog.underlying t = some (.slice e)) {x : DataW H × List MemPlace} (h : DataW.trod enc Try.prog W base spare held fuel t [v] = some x) : ∃ a n c, v = .slice a n c ∧ n ≤ 9223372036854775807 := by
  rcases Deep.open_slice ht h with ⟨hcs, _⟩ | ⟨a, len, cap, m, n, D, Pl, hcs, _, hl, hm, hmm, _, hx⟩
  · cases hcs; exact ⟨none, 0, 0, rfl, by omega⟩
  · cases hcs; exact ⟨_, _, _, rfl, by unfold maxLen at hm; omega⟩

theorem actk_of_trod {H : Type} {enc : TypeId × Value → H} {W : World} {base fuel : Nat} {spare : Nat → Bool} {held : Bool} {cs : List Value} {x : DataW H × List MemPlace} (hl : cs.length = 5)
    (h : DataW.trod enc Try.prog W base spare held fuel 39 cs = some x) : ∃ d : ActK, cs = d.cells ∧ d.wf := by
  have ci : Try.prog.cellsOf 3 = 1 := by kernel_rfl
  have cu : Try.prog.cellsOf 5 = 1 := by kernel_rfl
  have cb : Try.prog.cellsOf 37 = 1 := by kernel_rfl
  have cs' : Try.prog.cellsOf 23 = 1 := by kernel_rfl
  match cs, hl with
  | [c0, c1, c2, c3, c4], _ =>
    obtain ⟨y0, y1, y2, y3, y4, n, h0, h1, h2, h3, h4⟩ := trod_struct5k Try.underlying39 h
    dsimp only at h0 h1 h2 h3 h4
    rw [ci] at h0 h1
    rw [cu] at h2
    rw [cb] at h3
    rw [cs'] at h4
    simp only [List.drop_zero, List.drop_succ_cons, List.take_succ_cons, List.take_zero] at h0 h1 h2 h3 h4
    obtain ⟨k0, rfl, w0⟩ := int_of_trod Try.underlying3 (v := c0) h0
    obtain ⟨k1, rfl, w1⟩ := int_of_trod Try.underlying3 (v := c1) h1
    obtain ⟨k2, rfl, w2⟩ := int_of_trod Try.underlying5 (v := c2) h2
    obtain ⟨a, m, c, rfl, hm⟩ := slice_of_trodK Try.underlying37 h3
    obtain ⟨a', m', c', rfl, hm'⟩ := slice_of_trodK Try.underlying23 h4
    exact ⟨⟨k0, k1, k2, a, m, c, a', m', c'⟩, rfl, wf_i64_lt w0, wf_i64_lt w1, wf_u8_lt w2, hm, hm'⟩

theorem actks_open {H : Type} {enc : TypeId × Value → H} {W : World} {base : Nat} {spare : Nat → Bool} {held : Bool} {a : Option Addr} {n c : Nat} {d : DataW H} {p : List MemPlace} (h : DataW.Trod enc Try.prog W base spare held 22 (.slice a n c) d p) : ∃ l, RdActK W (.slice a n c) l := by
  obtain ⟨fuel, hf⟩ := h
  obtain ⟨css, m, h1, h2⟩ := rdn_of_trod (v := .slice a n c) Try.underlying22 (e := 39) (size := 5) (by kernel_rfl) hf
  have : ∀ css : List (List Value), (∀ cs ∈ css, cs.length = 5 ∧ ∃ y, DataW.trod enc Try.prog W base spare held m 39 cs = some y) → ∃ l : List ActK, css = l.map ActK.cells ∧ ∀ x ∈ l, x.wf := by
    intro css
    induction css with
    | nil => exact fun _ => ⟨[], rfl, fun x hx => by cases hx⟩
    | cons cs r ih =>
      intro hh
      obtain ⟨l, hl, hi⟩ := ih (fun x hx => hh x (by simp [hx]))
      obtain ⟨h3, y, hy⟩ := hh cs (by simp)
      obtain ⟨d, hd, hw⟩ := actk_of_trod h3 hy
      refine ⟨d :: l, by rw [hd, hl]; rfl, fun x hx => ?_⟩
      rcases List.mem_cons.1 hx with rfl | hx
      · exact hw
      · exact hi x hx
  obtain ⟨l, hl, hi⟩ := this css h2
  exact ⟨l, by rw [← hl]; exact h1, hi⟩

end Go.Proofs.Ytnekcdpfphgpbaa
