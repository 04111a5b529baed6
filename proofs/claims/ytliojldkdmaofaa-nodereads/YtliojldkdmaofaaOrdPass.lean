/-
  A region that draws its order, along a tree: an operation whose guard does not want it, where no other is ready. Over any program.
-/
import Derived.Test.YtliojldkdmaofaaBase
namespace Go.Proofs.Ytliojldkdmaofaa
set_option linter.unusedVariables false
set_option linter.unusedSimpArgs false
open Go.RowKit

theorem ordT_pass {P : Program} {ops : Array Oper} {Q : Exit → Act → World → Prop} {S : World → Prop} {pl : Pl} {l : Array Bool} {i : Nat} {a : Act} {w : World} {o : Oper} (ho : ops[i]? = some o) (hw : Region.wanted o (yielded ops a.tmps) = false) (h : ∀ l, wpOrdT P ops Q S pl l (a.put o.dst undef) w) : wpOrdT P ops Q S (.only i pl) l a w := fun hs hp hS => by
  simp only [plFrom, Bool.and_eq_true, beq_iff_eq] at hp
  refine wpAnyH_ready hp.1 (by simp) (AllReadyH.cons ho (fun K hK => ?_) AllReadyH.nil)
  rw [if_neg (by rw [hw]; simp)]
  exact hK _ _ hS (fun _ => h _ hs hp.2 hS)

end Go.Proofs.Ytliojldkdmaofaa
