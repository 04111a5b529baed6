/-
  A range over a function whose iterator writes memory of its own between two rounds, over any program: the rounds are counted; the iterator may turn whatever was laid since the loop began, but the loop's own two blocks; a round may turn the blocks E and lay new ones.
-/
import Derived.RangeFuncNested
import Derived.RangeFuncBound
import Derived.RangeFuncCalls
import Derived.RangeFuncLeaves
import Derived.Test.YtoooemlcackepaaDoorMem
namespace Go.Proofs.YtoooemlcackepaaDoor
set_option linter.unusedVariables false
set_option linter.unusedSimpArgs false
open Go.RowKit

/-- how a round's body is left: it goes on -/
def idxPost (E : Nat → Prop) (I : Nat → World → Prop) (k : Nat) (W : World) : Exit → Act → World → Prop
  | .normal, _, W' => Only E W W' ∧ I (k + 1) W'
  | _, _, _ => False

/-- the iterator's contract: N rounds, round k at args k -/
def SeqIdx (F : Fence) (n : Nat) (P : Program) (gf : Nat) (lb : Array Value) (args : Nat → Array Value) (N : Nat) (E : Nat → Prop) (w : World) : Prop :=
  ∀ (l : Nat) (J : Nat → World → Prop) (W : World), Below w.heap.size w W → w.heap.size ≤ l → l < W.heap.size → (∀ k A B, J k A → Below W.heap.size A B → J k B) →
    (∀ k W1, k < N → J k W1 → W.heap.size ≤ W1.heap.size → YieldAt F (n - 1) P l (args k) W1 fun e W' => e = .returned (.bool true) ∧ J (k + 1) W' ∧ Only (fun i => E i ∨ i = l) W1 W') →
    J 0 W → CallsIn F n P gf (#[.func (.yield l) #[] #[]] ++ lb) W fun e W' => (∃ v, e = .returned v) ∧ J N W'

theorem only_putObj (F : Nat → Prop) (W : World) (l : Nat) (o : Obj) (h : F l) : Only F W (W.putObj l o) :=
  Only.grown (Only.refl F W) (grownBy_putObj' W l o) (fun k e _ => by cases e; exact h)

theorem below_putObj (B : Nat) (W : World) (l : Nat) (o : Obj) (h : B ≤ l) (hl : l < W.heap.size) : Below B W (W.putObj l o) :=
  (Below.refl B W).grown (grownBy_putObj' W l o) (by omega) (fun k e => by cases e; exact h)

variable {F : Fence} {n : Nat} {P : Program}

theorem wpIn_range_idx {g : Operand} {ps : Array Tmp} {assign body : Code} {Q : Exit → Act → World → Prop} {a : Act} {w : World}
    (hro : F.round = none) (h1 : 1 ≤ n) {gf : Nat} {lb : Array Value} (hg : a.eval g = .func (.func gf) #[] lb) (hFg : F.fn gf) (eg : ∀ args w, (callFunc gf args).run P w = .ok (.enter gf args) w)
    (args : Nat → Array Value) (N : Nat) (E : Nat → Prop) (hE : ∀ i, E i → i < w.heap.size) (hseq : SeqIdx F (n - 1) P gf lb args N E w) (hps : ∀ k, (args k).size = ps.size)
    (I : Nat → World → Prop) (hI : ∀ k A B, I k A → Below w.heap.size A B → I k B) (h0 : I 0 w) (X : Nat → Act → World → Prop) (hX : ∀ k a A l r o, X k a A → A.heap[l]? = some (.loop r) → X k a (A.putObj l o))
    (hassign : ∀ (l k : Nat) (W : World) (K : Act → World → Prop), I k W → k < N → (∀ a₁ W₁, New W W₁ → X k a₁ W₁ → K a₁ W₁) →
      assign.wpIn (F.inRound l) (n - 1 - 1) P (Exit.then K (fun _ _ _ => False)) { tmps := (ps.zip (args k)).foldl (fun t (p, v) => t.setIfInBounds p v) a.tmps, defers := [] } W)
    (hbody : ∀ (l k : Nat) (a₁ : Act) (W : World), I k W → X k a₁ W → k < N → body.wpIn (F.inRound l) (n - 1 - 1) P (idxPost E I k W) a₁ W)
    (hdone : ∀ (D : Nat) (W : World), w.heap.size ≤ D → I N W → W.heap[D]? = some (.deferred (some [])) → Q .normal { a with defers := { target := .collected D, args := #[] } :: a.defers } W) :
    (Code.rangeFunc g ps assign body).wpIn F n P Q a w := by
  refine wpIn_rangeFunc ?_
  intro fn hfn
  rw [hro]
  obtain ⟨rec, hrec⟩ : ∃ rec : LoopState → Option Code → Loop, rec = fun st pe => { state := st, pending := pe, fn, tmps := a.tmps, params := ps, assign, body, defers := w.heap.size } := ⟨_, rfl⟩
  obtain ⟨W1, hW1⟩ : ∃ W1, (w.alloc (.deferred (some []))).alloc (.loop (rec .ready none)) = W1 := ⟨_, rfl⟩
  have hs1 : W1.heap.size = w.heap.size + 2 := by rw [← hW1]; simp
  have hL1 : W1.heap[w.heap.size + 1]? = some (.loop (rec .ready none)) := by
    rw [← hW1]; have := World.alloc_heap_new (w.alloc (.deferred (some []))) (.loop (rec .ready none)); rwa [World.size_alloc] at this
  have hK1 : W1.heap[w.heap.size]? = some (.deferred (some [])) := by
    rw [← hW1]; exact (Below.heap_alloc _ _ _ (by simp)).trans (World.alloc_heap_new w _)
  have hb1 : Below w.heap.size w W1 := by
    rw [← hW1]; exact ((Below.refl _ w).alloc (Nat.le_refl _) _).alloc (by simp) _
  refine ⟨w.heap.size + 1, [{ target := .collected w.heap.size, args := #[] }], W1, { target := .fn (.func gf) lb, args := #[.func (.yield (w.heap.size + 1)) #[] #[]] }, W1, gf,
    #[.func (.yield (w.heap.size + 1)) #[] #[]] ++ lb, W1, ?_, ?_, ?_, ?_, fun _ => h1, ?_⟩
  · rw [← hW1, hrec]; exact run_enterLoop_outer _ _ _ _ _
  · simp only [resolve, hg]
    simp [go_sem]
  · intro f' hf'; simp [Target.leads] at hf'; subst hf'; exact hFg
  · simp [invoke, go_sem, eg]
  · refine (hseq (w.heap.size + 1)
      (fun k W => I k W ∧ W.heap[w.heap.size + 1]? = some (.loop (rec .ready none)) ∧ W.heap[w.heap.size]? = some (.deferred (some [])))
      W1 hb1 (by omega) (by omega)
      (fun k A B hJ hB => ⟨hI k A B hJ.1 (hB.mono (by omega)), (hB.block _ (by omega)).trans hJ.2.1, (hB.block _ (by omega)).trans hJ.2.2⟩)
      ?_ ⟨hI 0 w W1 h0 hb1, hL1, hK1⟩).mono ?_
    · rintro k W hk ⟨hi, hl, hd⟩ hsz
      have hy := run_yield (P := P) (args := args k) hl (by rw [hrec]; exact hps k)
      rw [hrec] at hy
      have hltW : w.heap.size + 1 < W.heap.size := (Array.getElem?_eq_some_iff.1 hl).1
      refine ⟨fn, _, assign, body, hy, roundIn_of_wpIn hfn (hassign _ k W _ hi hk (fun a₁ Wa hnew hx => ?_))⟩
      have hl' := (hnew.block _ hltW).trans hl
      have hd' := (hnew.block _ (by omega)).trans hd
      have hlt : w.heap.size + 1 < Wa.heap.size := (Array.getElem?_eq_some_iff.1 hl').1
      refine ⟨_, run_beginRound hl' (by rw [hrec]), ?_⟩
      have hl2 : (Wa.putObj (w.heap.size + 1) (.loop { rec .ready none with state := .busy })).heap[w.heap.size + 1]? = some (.loop { rec .ready none with state := .busy }) := World.putObj_heap_same hlt
      have hd2 : (Wa.putObj (w.heap.size + 1) (.loop { rec .ready none with state := .busy })).heap[w.heap.size]? = some (.deferred (some [])) := (World.putObj_heap_other (by omega)).trans hd'
      refine wpIn_mono (hbody _ k a₁ _ (hI k Wa _ (hI k W _ hi (hnew.mono (by omega))) (below_putObj _ _ _ _ (by omega) hlt)) (hX _ _ _ _ _ _ hx hl') hk) ?_
      rintro e a3 W3 hp
      cases e with
      | normal =>
        obtain ⟨ho3, hi3⟩ := hp
        have hl3 := (ho3.block (w.heap.size + 1) (by rw [World.putObj_size]; exact hlt) (fun h => by have := hE _ h; omega)).trans hl2
        have hd3 := (ho3.block w.heap.size (by rw [World.putObj_size]; omega) (fun h => by have := hE _ h; omega)).trans hd2
        have hr := run_endRound (P := P) none hl3
        have hlt3 : w.heap.size + 1 < W3.heap.size := (Array.getElem?_eq_some_iff.1 hl3).1
        refine ⟨_, _, hr, rfl, ⟨hI _ W3 _ hi3 (below_putObj _ _ _ _ (by omega) hlt3), ?_, (World.putObj_heap_other (by omega)).trans hd3⟩, ?_⟩
        · rw [World.putObj_heap_same hlt3, hrec]; rfl
        · exact (((New.only (F := fun i => E i ∨ i = w.heap.size + 1) hnew).trans (only_putObj (fun i => E i ∨ i = w.heap.size + 1) Wa _ _ (.inr rfl)) (fun _ _ h => h)).trans (ho3.mono (G := fun i => E i ∨ i = w.heap.size + 1) (fun _ _ h => .inl h)) (fun _ _ h => h)).trans (only_putObj _ W3 _ _ (.inr rfl)) (fun _ _ h => h)
      | ret => exact hp.elim
      | exit id => exact hp.elim
      | goto t => exact hp.elim
      | panic ch => exact hp.elim
      | outgrown => exact hp.elim
    · rintro e W2 ⟨⟨v, rfl⟩, hi, hl, hd⟩
      have hlt2 : w.heap.size + 1 < W2.heap.size := (Array.getElem?_eq_some_iff.1 hl).1
      exact ⟨none, _, by have := run_endLoop (P := P) hl (by rw [hrec]; simp); rw [hrec] at this; exact this, hdone _ _ (Nat.le_refl _) (hI _ W2 _ hi (below_putObj _ _ _ _ (by omega) hlt2)) ((World.putObj_heap_other (by omega)).trans hd)⟩

end Go.Proofs.YtoooemlcackepaaDoor
