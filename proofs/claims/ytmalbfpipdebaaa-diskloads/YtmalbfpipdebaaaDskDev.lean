/-
  A disk as a caller has it; string(b).
-/
import Derived.Test.YtmalbfpipdebaaaDskFns
namespace Go.Proofs.Ytmalbfpipdebaaa
set_option linter.unusedVariables false
set_option linter.unusedSimpArgs false
open Go.RowKit

/-- a new block is none of a disk's -/
theorem Dvc.avoid {q : Int} {w w' : World} {n g : Nat} {F : Nat → Prop} {D L : List UInt8} {P : List Wr} (h : Dvc q w n g F D L P) (hn : New w w') : Dvc q w' n g (fun k => F k ∧ k ≠ w.heap.size) D L P :=
  (h.narrow (G := fun k => F k ∧ k ≠ w.heap.size) (fun k hk hF => ⟨hF, by omega⟩)).new hn

/-- behind a call on a disk whose blocks are at least B -/
theorem DvcTo.above {q : Int} {w w' : World} {n g : Nat} {F G : Nat → Prop} {D L : List UInt8} {P : List Wr} (h : DvcTo q w n g F D L P w') (hF : ∀ k, F k → G k) (hG : ∀ k, w.heap.size ≤ k → G k) : Dvc q w' n g G D L P :=
  h.1.narrow (fun k _ hk => by rcases hk with hk | hk; exact hF k hk; exact hG k hk)

theorem DvcTo.grow {q : Int} {W w w' : World} {n g : Nat} {F : Nat → Prop} {D L : List UInt8} {P : List Wr} (h : DvcTo q w n g F D L P w') (hn : New W w) (hF : ∀ k, F k → W.heap.size ≤ k) : New W w' :=
  Below.trans hn (h.2.below hn.size hF)

theorem devWaiting {q : Int} {w : World} {n g : Nat} {F : Nat → Prop} {D L : List UInt8} {P : List Wr} (h : Dvc q w n g F D L P) :
    Calls Try.prog 10 #[.pointer (some ⟨g, 0, none⟩)] w fun e w' => e = .returned (.int .i64 (P.length : Int)) ∧ w = w' := by
  obtain ⟨gd, gl, cd, cl, vp, h0, -⟩ := h
  exact diskWaiting h0

theorem devSize {q : Int} {w : World} {n g : Nat} {F : Nat → Prop} {D L : List UInt8} {P : List Wr} (h : Dvc q w n g F D L P) :
    Calls Try.prog 8 #[.pointer (some ⟨g, 0, none⟩)] w fun e w' => e = .returned (.int .i64 (n : Int)) ∧ w = w' := by
  obtain ⟨gd, gl, cd, cl, vp, h0, -⟩ := h
  exact diskSize h0

theorem devImage {q : Int} {w : World} {n g : Nat} {F : Nat → Prop} {D L : List UInt8} {P : List Wr} (h : Dvc q w n g F D L P) : Calls Try.prog 9 #[.pointer (some ⟨g, 0, none⟩)] w (CopyTo w L) := by
  obtain ⟨gd, gl, cd, cl, vp, h0, -⟩ := h
  exact diskImage h0

theorem Dvc.lens {q : Int} {w : World} {n g : Nat} {F : Nat → Prop} {D L : List UInt8} {P : List Wr} (h : Dvc q w n g F D L P) : D.length = 128 * n ∧ L.length = 128 * n ∧ OkW n P := by
  obtain ⟨gd, gl, cd, cl, vp, h0, -⟩ := h
  exact ⟨h0.lenD, h0.lenL, h0.ok⟩

/-- string(b) -/
def Str10 (x : Value) (a : List UInt8) (w : World) : Prop := (convert 22 9 x).run Try.prog w = .ok (.string (bstr a)) w

theorem str10 {w : World} {x : Value} {a : List UInt8} (h : Rd w x a) : Str10 x a w := run_str (P := Try.prog) Try.underlying22 Try.underlying5 Try.underlying9 h

end Go.Proofs.Ytmalbfpipdebaaa
