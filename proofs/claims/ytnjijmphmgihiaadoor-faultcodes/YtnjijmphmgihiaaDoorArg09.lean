/-
  The argument '[]Link' of layer 9's statements; the laws as the frames call them.
-/
import Derived.Test.YtnjijmphmgihiaaDoorOpen
import Derived.Test.YtnjijmphmgihiaaDoorPlaces09
import Derived.Test.YtnjijmphmgihiaaDoorNil09
import Derived.Test.YtnjijmphmgihiaaDoorTexts09
namespace Go.Proofs.YtnjijmphmgihiaaDoor
set_option linter.unusedVariables false
set_option linter.unusedSimpArgs false
open Go.ChangeShapes Go.WideShapes Go.ChangeAt Go.RowKit

theorem bstr_of (s : ByteArray) : s = bstr s.data.toList := by cases s; simp [bstr]

theorem cellsStr9 : Tryd.prog.cellsOf 9 = 1 := by kernel_rfl
theorem cellsInt9 : Tryd.prog.cellsOf 3 = 1 := by kernel_rfl

theorem link_of_trod {H : Type} {enc : TypeId × Value → H} {W : World} {base fuel : Nat} {spare : Nat → Bool} {held : Bool} {cs : List Value} {x : DataW H × List MemPlace} (hl : cs.length = 2)
    (h : DataW.trod enc Tryd.prog W base spare held fuel 36 cs = some x) : ∃ d : List UInt8 × Int, cs = [.string (bstr d.1), .int .i64 d.2] ∧ (-9223372036854775808 ≤ d.2 ∧ d.2 ≤ 9223372036854775807) := by
  match cs, hl with
  | [c0, c1], _ =>
    obtain ⟨y0, y1, n, _, _, h0, h1⟩ := trod_struct2 Tryd.underlying36 h
    dsimp only at h0 h1
    rw [cellsStr9] at h0
    rw [cellsInt9] at h1
    simp only [List.drop_zero, List.drop_succ_cons, List.take_succ_cons, List.take_zero] at h0 h1
    obtain ⟨s, e0, _, _⟩ := DataW.trod_string (cs := [c0]) Tryd.underlying9 h0
    obtain ⟨k, rfl, hk⟩ := int_of_trod Tryd.underlying3 (v := c1) h1
    cases e0
    exact ⟨(s.data.toList, k), by rw [← bstr_of], wf_i64_lt hk⟩

theorem links_open {H : Type} {enc : TypeId × Value → H} {W : World} {base : Nat} {spare : Nat → Bool} {held : Bool} {a : Option Addr} {n c : Nat} {d : DataW H} {p : List MemPlace} (h : DataW.Trod enc Tryd.prog W base spare held 22 (.slice a n c) d p) : ∃ l, RdLk W (.slice a n c) l := by
  obtain ⟨fuel, hf⟩ := h
  obtain ⟨css, m, h1, h2⟩ := rdn_of_trod (v := .slice a n c) Tryd.underlying22 (e := 36) (size := 2) (by kernel_rfl) hf
  have : ∀ css : List (List Value), (∀ cs ∈ css, cs.length = 2 ∧ ∃ y, DataW.trod enc Tryd.prog W base spare held m 36 cs = some y) → ∃ l : List (List UInt8 × Int), css.length = l.length ∧ ∀ (i : Nat) cs d, css[i]? = some cs → l[i]? = some d → cs = [.string (bstr d.1), .int .i64 d.2] ∧ (-9223372036854775808 ≤ d.2 ∧ d.2 ≤ 9223372036854775807) := by
    intro css
    induction css with
    | nil => exact fun _ => ⟨[], rfl, fun i cs d h => by simp at h⟩
    | cons cs r ih =>
      intro hh
      obtain ⟨l, hl, hi⟩ := ih (fun x hx => hh x (by simp [hx]))
      obtain ⟨h3, y, hy⟩ := hh cs (by simp)
      obtain ⟨d, hd⟩ := link_of_trod h3 hy
      refine ⟨d :: l, by simp [hl], fun i cs' d' hc hd' => ?_⟩
      cases i with
      | zero => simp at hc hd'; subst hc hd'; exact hd
      | succ i => exact hi i cs' d' (by simpa using hc) (by simpa using hd')
  obtain ⟨l, hl, hi⟩ := this css h2
  exact ⟨l, css, h1, hl, hi⟩

theorem codesLaw (w : World) (v : Value) (l : List (List UInt8 × Int)) (hv : RdLk w v l) (n : Int) (wn : (Lit.int .i64 n).wf = true) (o : Int) (wo : (Lit.int .i64 o).wf = true) (hL : Laid9 w) :
    Calls Tryd.prog 3 #[v, .int .i64 n, .int .i64 o] w fun e w' => e = .returned (.bool true) ∧ New w w' := codesWalk w v l n o hv hL

theorem placesLaw (w : World) (v : Value) (l : List (List UInt8 × Int)) (hv : RdLk w v l) (s : ByteArray) (ws : s.size ≤ maxLen) (hL : Laid9 w) :
    Calls Tryd.prog 4 #[v, .string s] w fun e w' => e = .returned (.bool true) ∧ New w w' := by
  rw [bstr_of s]; exact placesWalk w v l _ hv hL

theorem textsLaw (w : World) (v : Value) (l : List (List UInt8 × Int)) (hv : RdLk w v l) (n : Int) (wn : (Lit.int .i64 n).wf = true) (hL : Laid9 w) :
    Calls Tryd.prog 5 #[v, .int .i64 n] w fun e w' => e = .returned (.bool true) ∧ New w w' := textsWalk w v l n hv (wf_i64_lt wn).1 (wf_i64_lt wn).2 hL

theorem nilLaw (w : World) (s : ByteArray) (ws : s.size ≤ maxLen) (n : Int) (wn : (Lit.int .i64 n).wf = true) (hL : Laid9 w) :
    Calls Tryd.prog 6 #[.string s, .int .i64 n] w fun e w' => e = .returned (.bool true) ∧ New w w' := by
  rw [bstr_of s]; exact nilWalk w _ n (wf_i64_lt wn).1 (wf_i64_lt wn).2 hL

end Go.Proofs.YtnjijmphmgihiaaDoor
