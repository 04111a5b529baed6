/-
  Reading a record: what is kept meanwhile.
-/
import Derived.Test.YtjekbolfaakmbaaDoorRec9
import Derived.Test.YtjekbolfaakmbaaDoorBase
import Derived.Deep.Cut
namespace Go.Proofs.YtjekbolfaakmbaaDoor
set_option linter.unusedVariables false
set_option linter.unusedSimpArgs false
open Go.RowKit

/-- a slice that was read, apart from the blocks that are written -/
def Sl (w : World) (g p : Nat) (v : Value) (l : List UInt8) : Prop := Rd w v l ∧ ∀ k, blk v = some k → l ≠ [] → ¬ (k = g ∨ k = p)

theorem Sl.only {w w' : World} {g p : Nat} {v : Value} {l : List UInt8} (h : Sl w g p v l) (ho : Only (fun k => k = g ∨ k = p) w w') : Sl w' g p v l := ⟨h.1.only ho h.2, h.2⟩

theorem New.trans' {w w3 wr : World} {g p : Nat} (h : New w w3) (ho : Only (fun k => k = g ∨ k = p) w3 wr) (hg : w.heap.size ≤ g) (hp : w.heap.size ≤ p) : New w wr :=
  Below.trans h (ho.below h.size (fun k hk => by rcases hk with e | e <;> omega))

theorem New.putAt {w wr : World} {g0 : Nat} (h : New w wr) (hg : w.heap.size ≤ g0) (a b c d e f i j k : Value) : New w (put9 wr g0 a b c d e f i j k) :=
  Below.trans h ((put9_only wr g0 a b c d e f i j k).below h.size (fun k hk => by omega))

theorem rErr_eq (l : List UInt8) : rErr l = eEnd (rs9 l).1 (rs9 l).2 := by rw [rErr]

/-- what Read returns -/
def ReadTo12 (w : World) (l : List UInt8) (e : Ending) (w' : World) : Prop := ∃ v : RecV, e = .returned (.tuple #[v.val (rOut l), .int .i64 (rOutErr l)]) ∧ RecR w' v (rOut l) ∧ New w w'

end Go.Proofs.YtjekbolfaakmbaaDoor
