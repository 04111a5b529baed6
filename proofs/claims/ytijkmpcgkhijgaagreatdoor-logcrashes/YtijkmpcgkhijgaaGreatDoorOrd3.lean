/-
  A region that draws its order, walked along a tree of plans: where up to three operations that write may come up, each is walked. Over any program.
-/
import Derived.Test.YtijkmpcgkhijgaaGreatDoorBase
namespace Go.Proofs.YtijkmpcgkhijgaaGreatDoor
set_option linter.unusedVariables false
set_option linter.unusedSimpArgs false
open Go.RowKit

inductive Pl3 where
  | nil : Pl3
  | take (i : Nat) (p : Pl3) : Pl3
  | only (i : Nat) (p : Pl3) : Pl3
  | two (i j : Nat) (p q : Pl3) : Pl3
  | three (i j k : Nat) (p q r : Pl3) : Pl3

def Pl3.len : Pl3 → Nat
  | .nil => 0
  | .take _ p => p.len + 1
  | .only _ p => p.len + 1
  | .two _ _ p _ => p.len + 1
  | .three _ _ _ p _ _ => p.len + 1

def plFrom3 (ops : Array Oper) : Pl3 → Array Bool → Bool
  | .nil, l => (Region.ready .any ops l).isEmpty
  | .take i p, l => (Region.free .any ops l i && (Region.ready .any ops l).contains i) && plFrom3 ops p (l.setIfInBounds i true)
  | .only i p, l => Region.ready .any ops l == [i] && plFrom3 ops p (l.setIfInBounds i true)
  | .two i j p q, l => (Region.ready .any ops l == [i, j] && decide (p.len = q.len)) && (plFrom3 ops p (l.setIfInBounds i true) && plFrom3 ops q (l.setIfInBounds j true))
  | .three i j k p q r, l => ((Region.ready .any ops l == [i, j, k] && decide (p.len = q.len)) && decide (p.len = r.len)) && ((plFrom3 ops p (l.setIfInBounds i true) && plFrom3 ops q (l.setIfInBounds j true)) && plFrom3 ops r (l.setIfInBounds k true))

def plB3 (ops : Array Oper) (pl : Pl3) : Bool := Region.noSelect ops && decide (pl.len = ops.size) && plFrom3 ops pl (Array.replicate ops.size false)

def wpOrd3 (P : Program) (ops : Array Oper) (Q : Exit → Act → World → Prop) (S : World → Prop) (pl : Pl3) (l : Array Bool) (a : Act) (w : World) : Prop :=
  Region.noSelect ops = true → plFrom3 ops pl l = true → S w → wpAnyH P .any ops (NoPanic Q) S pl.len l a w

section
variable {P : Program} {ops : Array Oper} {Q : Exit → Act → World → Prop} {S : World → Prop} {pl p q r : Pl3} {l : Array Bool} {i j k : Nat} {a : Act} {w : World}

theorem region_ord3 {id : Nat} (S : World → Prop) (pl : Pl3) (hp : plB3 ops pl = true) (hm : P.follows .mixedOrders = true) (hS : S w.drew) (h : ∀ l, wpOrd3 P ops Q S pl l a w.drew) : (Code.region id ops true).wp P Q a w := by
  unfold plB3 at hp
  simp only [Bool.and_eq_true, decide_eq_true_eq] at hp
  refine wp_region_noPanic (wp_region_held_drew hm hS (fun _ => ?_))
  have := h _ hp.1.1 hp.2 hS
  rw [hp.1.2] at this
  exact this

theorem ord3_done (h : Q .normal a w) : wpOrd3 P ops Q S .nil l a w := fun _ hp _ => by
  simp only [plFrom3, List.isEmpty_iff] at hp
  exact wpAnyH_done hp (NoPanic.normal h) _

theorem ord3_take {o : Oper} {v : Value} (ho : ops[i]? = some o) (hw : Region.wanted o (yielded ops a.tmps) = true) (hy : ∀ w, S w → (execOp a.eval o).run P w = .ok (.value v) w) (h : ∀ l, wpOrd3 P ops Q S pl l (a.put o.dst v) w) : wpOrd3 P ops Q S (.take i pl) l a w := fun hs hp hS => by
  simp only [plFrom3, Bool.and_eq_true] at hp
  exact wpAnyH_take ho hs hp.1.1 hp.1.2 (fun _ _ _ h => h) (.inl ⟨hw, hy⟩) hS (h _ hs hp.2 hS)

theorem ord3_skip {o : Oper} (ho : ops[i]? = some o) (hw : Region.wanted o (yielded ops a.tmps) = false) (h : ∀ l, wpOrd3 P ops Q S pl l (a.put o.dst undef) w) : wpOrd3 P ops Q S (.take i pl) l a w := fun hs hp hS => by
  simp only [plFrom3, Bool.and_eq_true] at hp
  exact wpAnyH_take ho hs hp.1.1 hp.1.2 (fun _ _ _ h => h) (.inr ⟨hw, rfl⟩) hS (h _ hs hp.2 hS)

theorem ord3_only {o : Oper} (ho : ops[i]? = some o) (hw : Region.wanted o (yielded ops a.tmps) = true)
    (h : ∀ K : Act → World → Prop, Shut (∀ a w, S w → (∀ l, wpOrd3 P ops Q S pl l a w) → K a w) → Oper.wp P o a w K (NoPanic Q)) : wpOrd3 P ops Q S (.only i pl) l a w := fun hs hp hS => by
  simp only [plFrom3, Bool.and_eq_true, beq_iff_eq] at hp
  refine wpAnyH_ready hp.1 (by simp) (AllReadyH.cons ho (fun K hK => ?_) AllReadyH.nil)
  rw [if_pos hw]
  exact h K (fun a w hS' hW => hK a w hS' (fun _ => hW _ hs hp.2 hS'))

theorem ord3_two {o o' : Oper} (ho : ops[i]? = some o) (hw : Region.wanted o (yielded ops a.tmps) = true) (ho' : ops[j]? = some o') (hw' : Region.wanted o' (yielded ops a.tmps) = true)
    (h : ∀ K : Act → World → Prop, Shut (∀ a w, S w → (∀ l, wpOrd3 P ops Q S p l a w) → K a w) → Oper.wp P o a w K (NoPanic Q))
    (h' : ∀ K : Act → World → Prop, Shut (∀ a w, S w → (∀ l, wpOrd3 P ops Q S q l a w) → K a w) → Oper.wp P o' a w K (NoPanic Q)) : wpOrd3 P ops Q S (.two i j p q) l a w := fun hs hp hS => by
  simp only [plFrom3, Bool.and_eq_true, beq_iff_eq, decide_eq_true_eq] at hp
  refine wpAnyH_ready hp.1.1 (by simp) (AllReadyH.cons ho (fun K hK => ?_) (AllReadyH.cons ho' (fun K hK => ?_) AllReadyH.nil))
  · rw [if_pos hw]
    exact h K (fun a w hS' hW => hK a w hS' (fun _ => hW _ hs hp.2.1 hS'))
  · rw [if_pos hw']
    exact h' K (fun a w hS' hW => hK a w hS' (fun _ => by have := hW _ hs hp.2.2 hS'; rwa [← hp.1.2] at this))
theorem ord3_three {o o' o'' : Oper} (ho : ops[i]? = some o) (hw : Region.wanted o (yielded ops a.tmps) = true) (ho' : ops[j]? = some o') (hw' : Region.wanted o' (yielded ops a.tmps) = true) (ho'' : ops[k]? = some o'') (hw'' : Region.wanted o'' (yielded ops a.tmps) = true)
    (h : ∀ K : Act → World → Prop, Shut (∀ a w, S w → (∀ l, wpOrd3 P ops Q S p l a w) → K a w) → Oper.wp P o a w K (NoPanic Q))
    (h' : ∀ K : Act → World → Prop, Shut (∀ a w, S w → (∀ l, wpOrd3 P ops Q S q l a w) → K a w) → Oper.wp P o' a w K (NoPanic Q))
    (h'' : ∀ K : Act → World → Prop, Shut (∀ a w, S w → (∀ l, wpOrd3 P ops Q S r l a w) → K a w) → Oper.wp P o'' a w K (NoPanic Q)) : wpOrd3 P ops Q S (.three i j k p q r) l a w := fun hs hp hS => by
  simp only [plFrom3, Bool.and_eq_true, beq_iff_eq, decide_eq_true_eq] at hp
  refine wpAnyH_ready hp.1.1.1 (by simp) (AllReadyH.cons ho (fun K hK => ?_) (AllReadyH.cons ho' (fun K hK => ?_) (AllReadyH.cons ho'' (fun K hK => ?_) AllReadyH.nil)))
  · rw [if_pos hw]
    exact h K (fun a w hS' hW => hK a w hS' (fun _ => hW _ hs hp.2.1.1 hS'))
  · rw [if_pos hw']
    exact h' K (fun a w hS' hW => hK a w hS' (fun _ => by have := hW _ hs hp.2.1.2 hS'; rwa [← hp.1.1.2] at this))
  · rw [if_pos hw'']
    exact h'' K (fun a w hS' hW => hK a w hS' (fun _ => by have := hW _ hs hp.2.2 hS'; rwa [← hp.1.2] at this))
end

end Go.Proofs.YtijkmpcgkhijgaaGreatDoor
