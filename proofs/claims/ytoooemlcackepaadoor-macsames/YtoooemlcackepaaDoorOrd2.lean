/-
  A region that draws its order, walked along a tree of plans: where two operations that write may come up, both are walked. Over any program.
-/
import Derived.Test.YtoooemlcackepaaDoorOrd
namespace Go.Proofs.YtoooemlcackepaaDoor
set_option linter.unusedVariables false
set_option linter.unusedSimpArgs false
open Go.RowKit

inductive Pl where
  | nil : Pl
  | take (i : Nat) (p : Pl) : Pl
  | only (i : Nat) (p : Pl) : Pl
  | two (i j : Nat) (p q : Pl) : Pl

def Pl.len : Pl → Nat
  | .nil => 0
  | .take _ p => p.len + 1
  | .only _ p => p.len + 1
  | .two _ _ p _ => p.len + 1

def plFrom (ops : Array Oper) : Pl → Array Bool → Bool
  | .nil, l => (Region.ready .any ops l).isEmpty
  | .take i p, l => (Region.free .any ops l i && (Region.ready .any ops l).contains i) && plFrom ops p (l.setIfInBounds i true)
  | .only i p, l => Region.ready .any ops l == [i] && plFrom ops p (l.setIfInBounds i true)
  | .two i j p q, l => (Region.ready .any ops l == [i, j] && decide (p.len = q.len)) && (plFrom ops p (l.setIfInBounds i true) && plFrom ops q (l.setIfInBounds j true))

def plB (ops : Array Oper) (pl : Pl) : Bool := Region.noSelect ops && decide (pl.len = ops.size) && plFrom ops pl (Array.replicate ops.size false)

def wpOrdT (P : Program) (ops : Array Oper) (Q : Exit → Act → World → Prop) (S : World → Prop) (pl : Pl) (l : Array Bool) (a : Act) (w : World) : Prop :=
  Region.noSelect ops = true → plFrom ops pl l = true → S w → wpAnyH P .any ops (NoPanic Q) S pl.len l a w

section
variable {P : Program} {ops : Array Oper} {Q : Exit → Act → World → Prop} {S : World → Prop} {pl p q : Pl} {l : Array Bool} {i j : Nat} {a : Act} {w : World}

theorem region_ordT {id : Nat} (S : World → Prop) (pl : Pl) (hp : plB ops pl = true) (hm : P.follows .mixedOrders = true) (hS : S w.drew) (h : ∀ l, wpOrdT P ops Q S pl l a w.drew) : (Code.region id ops true).wp P Q a w := by
  unfold plB at hp
  simp only [Bool.and_eq_true, decide_eq_true_eq] at hp
  refine wp_region_noPanic (wp_region_held_drew hm hS (fun _ => ?_))
  have := h _ hp.1.1 hp.2 hS
  rw [hp.1.2] at this
  exact this

theorem ordT_done (h : Q .normal a w) : wpOrdT P ops Q S .nil l a w := fun _ hp _ => by
  simp only [plFrom, List.isEmpty_iff] at hp
  exact wpAnyH_done hp (NoPanic.normal h) _

theorem ordT_take {o : Oper} {v : Value} (ho : ops[i]? = some o) (hw : Region.wanted o (yielded ops a.tmps) = true) (hy : ∀ w, S w → (execOp a.eval o).run P w = .ok (.value v) w) (h : ∀ l, wpOrdT P ops Q S pl l (a.put o.dst v) w) : wpOrdT P ops Q S (.take i pl) l a w := fun hs hp hS => by
  simp only [plFrom, Bool.and_eq_true] at hp
  exact wpAnyH_take ho hs hp.1.1 hp.1.2 (fun _ _ _ h => h) (.inl ⟨hw, hy⟩) hS (h _ hs hp.2 hS)

theorem ordT_skip {o : Oper} (ho : ops[i]? = some o) (hw : Region.wanted o (yielded ops a.tmps) = false) (h : ∀ l, wpOrdT P ops Q S pl l (a.put o.dst undef) w) : wpOrdT P ops Q S (.take i pl) l a w := fun hs hp hS => by
  simp only [plFrom, Bool.and_eq_true] at hp
  exact wpAnyH_take ho hs hp.1.1 hp.1.2 (fun _ _ _ h => h) (.inr ⟨hw, rfl⟩) hS (h _ hs hp.2 hS)

theorem ordT_only {o : Oper} (ho : ops[i]? = some o) (hw : Region.wanted o (yielded ops a.tmps) = true)
    (h : ∀ K : Act → World → Prop, Shut (∀ a w, S w → (∀ l, wpOrdT P ops Q S pl l a w) → K a w) → Oper.wp P o a w K (NoPanic Q)) : wpOrdT P ops Q S (.only i pl) l a w := fun hs hp hS => by
  simp only [plFrom, Bool.and_eq_true, beq_iff_eq] at hp
  refine wpAnyH_ready hp.1 (by simp) (AllReadyH.cons ho (fun K hK => ?_) AllReadyH.nil)
  rw [if_pos hw]
  exact h K (fun a w hS' hW => hK a w hS' (fun _ => hW _ hs hp.2 hS'))

theorem ordT_two {o o' : Oper} (ho : ops[i]? = some o) (hw : Region.wanted o (yielded ops a.tmps) = true) (ho' : ops[j]? = some o') (hw' : Region.wanted o' (yielded ops a.tmps) = true)
    (h : ∀ K : Act → World → Prop, Shut (∀ a w, S w → (∀ l, wpOrdT P ops Q S p l a w) → K a w) → Oper.wp P o a w K (NoPanic Q))
    (h' : ∀ K : Act → World → Prop, Shut (∀ a w, S w → (∀ l, wpOrdT P ops Q S q l a w) → K a w) → Oper.wp P o' a w K (NoPanic Q)) : wpOrdT P ops Q S (.two i j p q) l a w := fun hs hp hS => by
  simp only [plFrom, Bool.and_eq_true, beq_iff_eq, decide_eq_true_eq] at hp
  refine wpAnyH_ready hp.1.1 (by simp) (AllReadyH.cons ho (fun K hK => ?_) (AllReadyH.cons ho' (fun K hK => ?_) AllReadyH.nil))
  · rw [if_pos hw]
    exact h K (fun a w hS' hW => hK a w hS' (fun _ => hW _ hs hp.2.1 hS'))
  · rw [if_pos hw']
    exact h' K (fun a w hS' hW => hK a w hS' (fun _ => by have := hW _ hs hp.2.2 hS'; rwa [← hp.1.2] at this))
end

end Go.Proofs.YtoooemlcackepaaDoor
