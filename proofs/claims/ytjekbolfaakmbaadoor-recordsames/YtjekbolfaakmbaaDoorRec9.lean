/-
  A struct of nine cells: kept in a block of its own, a cell written, the whole written.
-/
import Derived.Test.YtjekbolfaakmbaaDoorBase
import Derived.Test.YtjekbolfaakmbaaDoorRecSpec
namespace Go.Proofs.YtjekbolfaakmbaaDoor
set_option linter.unusedVariables false
set_option linter.unusedSimpArgs false
open Go.RowKit

/-- a block of nine cells -/
def At9 (w : World) (g : Nat) (t : TypeId) (a b c d e f h i j : Value) : Prop := w.heap[g]? = some (.cells #[a, b, c, d, e, f, h, i, j] t)

theorem At9.lt {w : World} {g : Nat} {t : TypeId} {a b c d e f h i j : Value} (k : At9 w g t a b c d e f h i j) : g < w.heap.size := lt_of_block k

theorem At9.new {w w' : World} {g : Nat} {t : TypeId} {a b c d e f h i j : Value} (k : At9 w g t a b c d e f h i j) (hn : New w w') : At9 w' g t a b c d e f h i j := (hn.block _ (lt_of_block k)).trans k

theorem At9.only {F : Nat → Prop} {w w' : World} {g : Nat} {t : TypeId} {a b c d e f h i j : Value} (k : At9 w g t a b c d e f h i j) (hn : Only F w w') (hg : ¬ F g) : At9 w' g t a b c d e f h i j := (hn.block g (lt_of_block k) hg).trans k

theorem At9.made (w : World) (t : TypeId) (a b c d e f h i j : Value) : At9 (w.alloc (.cells #[a, b, c, d, e, f, h, i, j] t)) w.heap.size t a b c d e f h i j := heap_alloc_new w _

theorem At9.cells {w : World} {g : Nat} {t : TypeId} {a b c d e f h i j : Value} (k : At9 w g t a b c d e f h i j) :
    w.cell? ⟨g, 0, none⟩ = some a ∧ w.cell? ⟨g, 1, none⟩ = some b ∧ w.cell? ⟨g, 2, none⟩ = some c ∧ w.cell? ⟨g, 3, none⟩ = some d ∧ w.cell? ⟨g, 4, none⟩ = some e ∧ w.cell? ⟨g, 5, none⟩ = some f ∧ w.cell? ⟨g, 6, none⟩ = some h ∧ w.cell? ⟨g, 7, none⟩ = some i ∧ w.cell? ⟨g, 8, none⟩ = some j :=
  ⟨by rw [cell_of_row w g 0 _ _ _ k]; rfl, by rw [cell_of_row w g 1 _ _ _ k]; rfl, by rw [cell_of_row w g 2 _ _ _ k]; rfl, by rw [cell_of_row w g 3 _ _ _ k]; rfl, by rw [cell_of_row w g 4 _ _ _ k]; rfl, by rw [cell_of_row w g 5 _ _ _ k]; rfl, by rw [cell_of_row w g 6 _ _ _ k]; rfl, by rw [cell_of_row w g 7 _ _ _ k]; rfl, by rw [cell_of_row w g 8 _ _ _ k]; rfl⟩

theorem At9.frozen {w : World} {g : Nat} {t : TypeId} {a b c d e f h i j : Value} (k : At9 w g t a b c d e f h i j) :
    w.frozen? ⟨g, 0, none⟩ = false ∧ w.frozen? ⟨g, 1, none⟩ = false ∧ w.frozen? ⟨g, 2, none⟩ = false ∧ w.frozen? ⟨g, 3, none⟩ = false ∧ w.frozen? ⟨g, 4, none⟩ = false ∧ w.frozen? ⟨g, 5, none⟩ = false ∧ w.frozen? ⟨g, 6, none⟩ = false ∧ w.frozen? ⟨g, 7, none⟩ = false ∧ w.frozen? ⟨g, 8, none⟩ = false :=
  ⟨frozen_of_row w g 0 _ _ k, frozen_of_row w g 1 _ _ k, frozen_of_row w g 2 _ _ k, frozen_of_row w g 3 _ _ k, frozen_of_row w g 4 _ _ k, frozen_of_row w g 5 _ _ k, frozen_of_row w g 6 _ _ k, frozen_of_row w g 7 _ _ k, frozen_of_row w g 8 _ _ k⟩

theorem At9.set0 {w : World} {g : Nat} {t : TypeId} {a b c d e f h i j : Value} (k : At9 w g t a b c d e f h i j) (u : Value) : At9 (w.setCell ⟨g, 0, none⟩ u) g t u b c d e f h i j := by
  unfold At9
  rw [heap_setCell_same _ _ _ _ _ _ k]
  rfl

theorem At9.set1 {w : World} {g : Nat} {t : TypeId} {a b c d e f h i j : Value} (k : At9 w g t a b c d e f h i j) (u : Value) : At9 (w.setCell ⟨g, 1, none⟩ u) g t a u c d e f h i j := by
  unfold At9
  rw [heap_setCell_same _ _ _ _ _ _ k]
  rfl

theorem At9.set2 {w : World} {g : Nat} {t : TypeId} {a b c d e f h i j : Value} (k : At9 w g t a b c d e f h i j) (u : Value) : At9 (w.setCell ⟨g, 2, none⟩ u) g t a b u d e f h i j := by
  unfold At9
  rw [heap_setCell_same _ _ _ _ _ _ k]
  rfl

theorem At9.set3 {w : World} {g : Nat} {t : TypeId} {a b c d e f h i j : Value} (k : At9 w g t a b c d e f h i j) (u : Value) : At9 (w.setCell ⟨g, 3, none⟩ u) g t a b c u e f h i j := by
  unfold At9
  rw [heap_setCell_same _ _ _ _ _ _ k]
  rfl

theorem At9.set4 {w : World} {g : Nat} {t : TypeId} {a b c d e f h i j : Value} (k : At9 w g t a b c d e f h i j) (u : Value) : At9 (w.setCell ⟨g, 4, none⟩ u) g t a b c d u f h i j := by
  unfold At9
  rw [heap_setCell_same _ _ _ _ _ _ k]
  rfl

theorem At9.set5 {w : World} {g : Nat} {t : TypeId} {a b c d e f h i j : Value} (k : At9 w g t a b c d e f h i j) (u : Value) : At9 (w.setCell ⟨g, 5, none⟩ u) g t a b c d e u h i j := by
  unfold At9
  rw [heap_setCell_same _ _ _ _ _ _ k]
  rfl

theorem At9.set6 {w : World} {g : Nat} {t : TypeId} {a b c d e f h i j : Value} (k : At9 w g t a b c d e f h i j) (u : Value) : At9 (w.setCell ⟨g, 6, none⟩ u) g t a b c d e f u i j := by
  unfold At9
  rw [heap_setCell_same _ _ _ _ _ _ k]
  rfl

theorem At9.set7 {w : World} {g : Nat} {t : TypeId} {a b c d e f h i j : Value} (k : At9 w g t a b c d e f h i j) (u : Value) : At9 (w.setCell ⟨g, 7, none⟩ u) g t a b c d e f h u j := by
  unfold At9
  rw [heap_setCell_same _ _ _ _ _ _ k]
  rfl

theorem At9.set8 {w : World} {g : Nat} {t : TypeId} {a b c d e f h i j : Value} (k : At9 w g t a b c d e f h i j) (u : Value) : At9 (w.setCell ⟨g, 8, none⟩ u) g t a b c d e f h i u := by
  unfold At9
  rw [heap_setCell_same _ _ _ _ _ _ k]
  rfl

/-- all nine cells written -/
def put9 (w : World) (g : Nat) (a b c d e f h i j : Value) : World :=
  ((((((((w.setCell ⟨g, 0, none⟩ a).setCell ⟨g, 1, none⟩ b).setCell ⟨g, 2, none⟩ c).setCell ⟨g, 3, none⟩ d).setCell ⟨g, 4, none⟩ e).setCell ⟨g, 5, none⟩ f).setCell ⟨g, 6, none⟩ h).setCell ⟨g, 7, none⟩ i).setCell ⟨g, 8, none⟩ j

theorem At9.put {w : World} {g : Nat} {t : TypeId} {a b c d e f h i j : Value} (k : At9 w g t a b c d e f h i j) (a' b' c' d' e' f' h' i' j' : Value) : At9 (put9 w g a' b' c' d' e' f' h' i' j') g t a' b' c' d' e' f' h' i' j' :=
  ((((((((k.set0 a').set1 b').set2 c').set3 d').set4 e').set5 f').set6 h').set7 i').set8 j'

theorem put9_only (w : World) (g : Nat) (a b c d e f h i j : Value) : Only (fun k => k = g) w (put9 w g a b c d e f h i j) :=
  (((((((((Only.refl (fun k => k = g) w).setCell (p := ⟨g, 0, none⟩) (fun _ => rfl) _).setCell (p := ⟨g, 1, none⟩) (fun _ => rfl) _).setCell (p := ⟨g, 2, none⟩) (fun _ => rfl) _).setCell (p := ⟨g, 3, none⟩) (fun _ => rfl) _).setCell (p := ⟨g, 4, none⟩) (fun _ => rfl) _).setCell (p := ⟨g, 5, none⟩) (fun _ => rfl) _).setCell (p := ⟨g, 6, none⟩) (fun _ => rfl) _).setCell (p := ⟨g, 7, none⟩) (fun _ => rfl) _).setCell (p := ⟨g, 8, none⟩) (fun _ => rfl) _

theorem set_only (w : World) (g o : Nat) (u : Value) : Only (fun k => k = g) w (w.setCell ⟨g, o, none⟩ u) := (Only.refl (fun k => k = g) w).setCell (p := ⟨g, o, none⟩) (fun _ => rfl) _

/-- the nine values of a record, and what they read as -/
structure RecV where
  g : Value
  y : Value
  tr : Value
  sc : Value
  wr : Value

/-- the value of a record: its numbers, its five slices -/
def RecV.val (v : RecV) (r : RecL) : Value := .agg #[.int .i64 r.kind, v.g, .int .i64 r.epoch, .int .i64 r.time, .int .i64 r.bucket, v.y, v.tr, v.sc, v.wr]

/-- its slices read as the fields -/
structure RecR (w : World) (v : RecV) (r : RecL) : Prop where
  g : Rd w v.g r.group
  y : Rd w v.y r.body
  tr : Rd w v.tr r.tree
  sc : Rd w v.sc r.script
  wr : Rd w v.wr r.wrapped

theorem RecR.new {w w' : World} {v : RecV} {r : RecL} (h : RecR w v r) (hn : New w w') : RecR w' v r := ⟨h.g.new hn, h.y.new hn, h.tr.new hn, h.sc.new hn, h.wr.new hn⟩

/-- two records are alike -/
def rSame (r s : RecL) : Bool := decide (r.kind = s.kind ∧ r.epoch = s.epoch ∧ r.time = s.time ∧ r.bucket = s.bucket ∧ r.group = s.group ∧ r.body = s.body ∧ r.tree = s.tree ∧ r.script = s.script ∧ r.wrapped = s.wrapped)

theorem rSame_eq (r s : RecL) : rSame r s = ((r.kind == s.kind) && ((r.epoch == s.epoch) && ((r.time == s.time) && ((r.bucket == s.bucket) && (((bstr r.group).toList == (bstr s.group).toList) && (((bstr r.body).toList == (bstr s.body).toList) && (((bstr r.tree).toList == (bstr s.tree).toList) && (((bstr r.script).toList == (bstr s.script).toList) && ((bstr r.wrapped).toList == (bstr s.wrapped).toList))))))))) := by
  simp only [bstr_list]
  rw [Bool.eq_iff_iff]
  simp only [rSame, Bool.and_eq_true, beq_iff_eq, decide_eq_true_eq]

theorem rSame_self (r : RecL) : rSame r r = true := by simp [rSame]

/-- a record in block g, that reads as r -/
structure InBlk (w : World) (g : Nat) (v : RecV) (r : RecL) : Prop where
  at_ : At9 w g 24 (.int .i64 r.kind) v.g (.int .i64 r.epoch) (.int .i64 r.time) (.int .i64 r.bucket) v.y v.tr v.sc v.wr
  rd : RecR w v r

theorem InBlk.new {w w' : World} {g : Nat} {v : RecV} {r : RecL} (h : InBlk w g v r) (hn : New w w') : InBlk w' g v r := ⟨h.at_.new hn, h.rd.new hn⟩

end Go.Proofs.YtjekbolfaakmbaaDoor
