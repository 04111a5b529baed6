/-
  A region that draws its order, walked in ONE order, given as a plan: over any program. 'S': what every world meets that the region comes to, and what its loads need. An operation that only yields may be taken whenever it may come up; any other must be the only one that may come up.
-/
import Derived.Deep.RegionHeld3
import Derived.WalkKit
namespace Go.Proofs.YtoooemlcackepaaDoor
set_option linter.unusedVariables false
set_option linter.unusedSimpArgs false
open Go.RowKit

/-- a plan: the operations' numbers in their order; true: it may be taken now; false: no other may come up now -/
def planFrom (ops : Array Oper) : List (Nat × Bool) → Array Bool → Bool
  | [], l => (Region.ready .any ops l).isEmpty
  | (i, f) :: pl, l => (if f then Region.free .any ops l i && (Region.ready .any ops l).contains i else Region.ready .any ops l == [i]) && planFrom ops pl (l.setIfInBounds i true)

def planB (ops : Array Oper) (pl : List (Nat × Bool)) : Bool := Region.noSelect ops && decide (pl.length = ops.size) && planFrom ops pl (Array.replicate ops.size false)

/-- what is left of the plan, in state a and world w; l: what has come up -/
def wpOrd (P : Program) (ops : Array Oper) (Q : Exit → Act → World → Prop) (S : World → Prop) (pl : List (Nat × Bool)) (l : Array Bool) (a : Act) (w : World) : Prop :=
  Region.noSelect ops = true → planFrom ops pl l = true → S w → wpAnyH P .any ops (NoPanic Q) S pl.length l a w

section
variable {P : Program} {ops : Array Oper} {Q : Exit → Act → World → Prop} {S : World → Prop} {pl : List (Nat × Bool)} {l : Array Bool} {i : Nat} {a : Act} {w : World}

theorem region_ord {id : Nat} (S : World → Prop) (pl : List (Nat × Bool)) (hp : planB ops pl = true) (hm : P.follows .mixedOrders = true) (hS : S w.drew) (h : ∀ l, wpOrd P ops Q S pl l a w.drew) : (Code.region id ops true).wp P Q a w := by
  unfold planB at hp
  simp only [Bool.and_eq_true, decide_eq_true_eq] at hp
  refine wp_region_noPanic (wp_region_held_drew hm hS (fun _ => ?_))
  have := h _ hp.1.1 hp.2 hS
  rw [hp.1.2] at this
  exact this

theorem ord_done (h : Q .normal a w) : wpOrd P ops Q S [] l a w := fun _ hp _ => by
  simp only [planFrom, List.isEmpty_iff] at hp
  exact wpAnyH_done hp (NoPanic.normal h) _

theorem ord_take {o : Oper} {v : Value} (ho : ops[i]? = some o) (hw : Region.wanted o (yielded ops a.tmps) = true) (hy : ∀ w, S w → (execOp a.eval o).run P w = .ok (.value v) w) (h : ∀ l, wpOrd P ops Q S pl l (a.put o.dst v) w) : wpOrd P ops Q S ((i, true) :: pl) l a w := fun hs hp hS => by
  simp only [planFrom, if_true, Bool.and_eq_true] at hp
  exact wpAnyH_take ho hs hp.1.1 hp.1.2 (fun _ _ _ h => h) (.inl ⟨hw, hy⟩) hS (h _ hs hp.2 hS)

theorem ord_skip {o : Oper} (ho : ops[i]? = some o) (hw : Region.wanted o (yielded ops a.tmps) = false) (h : ∀ l, wpOrd P ops Q S pl l (a.put o.dst undef) w) : wpOrd P ops Q S ((i, true) :: pl) l a w := fun hs hp hS => by
  simp only [planFrom, if_true, Bool.and_eq_true] at hp
  exact wpAnyH_take ho hs hp.1.1 hp.1.2 (fun _ _ _ h => h) (.inr ⟨hw, rfl⟩) hS (h _ hs hp.2 hS)

theorem ord_pass {o : Oper} (ho : ops[i]? = some o) (hw : Region.wanted o (yielded ops a.tmps) = false) (h : ∀ l, wpOrd P ops Q S pl l (a.put o.dst undef) w) : wpOrd P ops Q S ((i, false) :: pl) l a w := fun hs hp hS => by
  simp only [planFrom, Bool.false_eq_true, if_false, Bool.and_eq_true, beq_iff_eq] at hp
  refine wpAnyH_ready hp.1 (by simp) (AllReadyH.cons ho (fun K hK => ?_) AllReadyH.nil)
  rw [if_neg (by rw [hw]; simp)]
  exact hK _ _ hS (fun _ => h _ hs hp.2 hS)

/-- any other operation: a call, an allocation, a store -/
theorem ord_only {o : Oper} (ho : ops[i]? = some o) (hw : Region.wanted o (yielded ops a.tmps) = true)
    (h : ∀ K : Act → World → Prop, Shut (∀ a w, S w → (∀ l, wpOrd P ops Q S pl l a w) → K a w) → Oper.wp P o a w K (NoPanic Q)) : wpOrd P ops Q S ((i, false) :: pl) l a w := fun hs hp hS => by
  simp only [planFrom, Bool.false_eq_true, if_false, Bool.and_eq_true, beq_iff_eq] at hp
  refine wpAnyH_ready hp.1 (by simp) (AllReadyH.cons ho (fun K hK => ?_) AllReadyH.nil)
  rw [if_pos hw]
  exact h K (fun a w hS' hW => hK a w hS' (fun _ => hW _ hs hp.2 hS'))
end

end Go.Proofs.YtoooemlcackepaaDoor
