/-
  keys: slots in memory, the table's object.
-/
import Derived.Test.YtnekcdpfphgpbaaKeyApi
import Derived.Test.YtnekcdpfphgpbaaCellN
import Derived.Test.YtnekcdpfphgpbaaSetRow
import Derived.Deep.MidRow
namespace Go.Proofs.Ytnekcdpfphgpbaa
set_option linter.unusedVariables false
set_option linter.unusedSimpArgs false
set_option maxRecDepth 100000
open Go.RowKit

/-- the cells of a slot -/
def sB (s : KSlot) : Nat := match s with | none => 0 | some p => p.1
def sK (s : KSlot) : List UInt8 := match s with | none => List.replicate 32 0 | some p => p.2
def sCells (s : KSlot) : List Value := .bool s.isSome :: .int .i64 (sB s : Int) :: (sK s).map bv

theorem sK_length {s : KSlot} (h : s.ok) : (sK s).length = 32 := by
  cases s with
  | none => exact List.length_replicate
  | some p => exact (h p rfl).2

theorem sB_le {s : KSlot} (h : s.ok) : sB s ≤ 1099511627776 := by
  cases s with
  | none => exact Nat.zero_le _
  | some p => exact (h p rfl).1

theorem sCells_length {s : KSlot} (h : s.ok) : (sCells s).length = 34 := by
  unfold sCells; rw [List.length_cons, List.length_cons, List.length_map, sK_length h]

theorem sCells_one (s : KSlot) : ∀ v ∈ sCells s, v.oneCell' = true := by
  intro v hv
  unfold sCells at hv
  rcases List.mem_cons.1 hv with rfl | hv
  · rfl
  · rcases List.mem_cons.1 hv with rfl | hv
    · rfl
    · obtain ⟨b, -, rfl⟩ := List.mem_map.1 hv; rfl

theorem kHas_eq (b : Nat) (s : KSlot) : kHas b s = (s.isSome && ((sB s : Int) == (b : Int))) := by
  cases s with
  | none => rfl
  | some p =>
    show decide (p.1 = b) = (true && ((p.1 : Int) == (b : Int)))
    rw [Bool.true_and, Bool.eq_iff_iff, decide_eq_true_eq, beq_iff_eq]
    omega

def lCells (L : List KSlot) : List Value := L.flatMap sCells

theorem lCells_nil : lCells [] = [] := rfl
theorem lCells_cons (s : KSlot) (L : List KSlot) : lCells (s :: L) = sCells s ++ lCells L := rfl

theorem lCells_length {L : List KSlot} (h : ∀ s ∈ L, s.ok) : (lCells L).length = 34 * L.length := by
  induction L with
  | nil => rfl
  | cons s r ih =>
    rw [lCells_cons, List.length_append, ih (fun x hx => h x (List.mem_cons_of_mem _ hx)), sCells_length (h s (List.mem_cons_self ..)), List.length_cons]
    omega

theorem lCells_get {L : List KSlot} (h : ∀ s ∈ L, s.ok) : ∀ {i : Nat} {s : KSlot}, L[i]? = some s → ∀ j, j < 34 → (lCells L)[i * 34 + j]? = (sCells s)[j]? := by
  induction L with
  | nil => intro i s hi; simp at hi
  | cons x r ih =>
    intro i s hi j hj
    have hx := sCells_length (h x (List.mem_cons_self ..))
    rw [lCells_cons]
    cases i with
    | zero =>
      rw [List.getElem?_cons_zero] at hi
      cases hi
      rw [Nat.zero_mul, Nat.zero_add, List.getElem?_append_left (by omega)]
    | succ i =>
      rw [List.getElem?_cons_succ] at hi
      rw [List.getElem?_append_right (by omega), hx, show (i + 1) * 34 + j - 34 = i * 34 + j by omega]
      exact ih (fun y hy => h y (List.mem_cons_of_mem _ hy)) hi j hj

theorem set_ok {L : List KSlot} (h : ∀ s ∈ L, s.ok) {s : KSlot} (hs : s.ok) (i : Nat) : ∀ x ∈ L.set i s, x.ok := fun x hx => by
  rcases List.mem_or_eq_of_mem_set hx with h1 | rfl
  · exact h x h1
  · exact hs

section
variable {w : World} {sl i : Nat} {t : TypeId} {L : List KSlot} {s s' : KSlot}

theorem slot_range (k : AtN w sl t (lCells L)) (h : ∀ s ∈ L, s.ok) (hi : L[i]? = some s) : w.rangeAt sl (i * 34) (sCells s) := fun j v hv => by
  have hs := h s (List.mem_of_getElem? hi)
  have hj : j < 34 := by rw [← sCells_length hs]; exact (List.getElem?_eq_some_iff.1 hv).1
  exact k.cell _ ((lCells_get h hi j hj).trans hv)

theorem slot_there (k : AtN w sl t (lCells L)) (h : ∀ s ∈ L, s.ok) (hi : i < L.length) : w.there sl (i * 34) 34 := fun j hj => by
  have hs := h _ (List.getElem_mem hi)
  have hg := lCells_get h (List.getElem?_eq_getElem hi) j hj
  have h34 : j < (sCells L[i]).length := by rw [sCells_length hs]; exact hj
  rw [List.getElem?_eq_getElem h34] at hg
  exact ⟨by rw [k.cell _ hg]; rfl, k.frozen _⟩

theorem slot_set (k : AtN w sl t (lCells L)) (h : ∀ s ∈ L, s.ok) (hi : i < L.length) (hs : s'.ok) : AtN (w.setCells sl (i * 34) (sCells s')) sl t (lCells (L.set i s')) ∧ Only (fun k => k = sl) w (w.setCells sl (i * 34) (sCells s')) := by
  have hl := lCells_length h
  have hs34 := sCells_length hs
  obtain ⟨⟨ys, h2, h3, h4⟩, h5⟩ := setCells_row sl t (sCells s') (i * 34) w _ k (by omega)
  refine ⟨?_, h5⟩
  unfold AtN
  rw [h2]
  congr 3
  have hok' := set_ok h hs i
  have hl' := lCells_length hok'
  rw [List.length_set] at hl'
  apply List.ext_getElem?
  intro m
  rw [h4, hs34]
  by_cases hm : m < 34 * L.length
  · have hq : m / 34 < L.length := by omega
    have e : m = m / 34 * 34 + m % 34 := by omega
    have hj : m % 34 < 34 := Nat.mod_lt _ (by decide)
    generalize m / 34 = q at *
    generalize m % 34 = j at *
    subst e
    by_cases hqi : q = i
    · subst hqi
      rw [if_pos (by omega), lCells_get hok' (i := q) (s := s') (by rw [List.getElem?_set_self hq]) j hj, show q * 34 + j - q * 34 = j by omega]
    · rw [if_neg (by omega), lCells_get hok' (i := q) (s := L[q]) (by rw [List.getElem?_set_ne (fun e => hqi e.symm), List.getElem?_eq_getElem hq]) j hj, lCells_get h (List.getElem?_eq_getElem hq) j hj]
  · rw [if_neg (by omega), List.getElem?_eq_none (by omega), List.getElem?_eq_none (by omega)]
end

/-- a table's object: its block p, that of its slots -/
structure KTab (w : World) (F : Nat → Prop) (p sl g frm : Nat) (L : List KSlot) (dead : Bool) : Prop where
  at_ : At4 w p 63 (.pointer (some ⟨g, 0, none⟩)) (.int .i64 (frm : Int)) (.slice (some ⟨sl, 0, none⟩) L.length L.length) (.bool dead)
  slots : AtN w sl 71 (lCells L)
  ok : ∀ s ∈ L, s.ok
  ne : p ≠ sl
  fp : F p
  fs : F sl
  few : L.length ≤ 64

def KMk : KObj := fun w F p g frm L dead => ∃ sl, KTab w F p sl g frm L dead

section
variable {w w' : World} {F G : Nat → Prop} {p sl g frm : Nat} {L : List KSlot} {dead : Bool}

theorem KTab.only (h : KTab w F p sl g frm L dead) (ho : Only G w w') (hG : ∀ k, F k → ¬ G k) : KTab w' F p sl g frm L dead :=
  ⟨h.at_.only ho (hG _ h.fp), h.slots.only ho (hG _ h.fs), h.ok, h.ne, h.fp, h.fs, h.few⟩

theorem KTab.new (h : KTab w F p sl g frm L dead) (hn : New w w') : KTab w' F p sl g frm L dead :=
  ⟨h.at_.new hn, h.slots.new hn, h.ok, h.ne, h.fp, h.fs, h.few⟩

theorem KTab.narrow (h : KTab w F p sl g frm L dead) (hF : ∀ k, k < w.heap.size → F k → G k) : KTab w G p sl g frm L dead :=
  ⟨h.at_, h.slots, h.ok, h.ne, hF _ h.at_.lt h.fp, hF _ h.slots.lt h.fs, h.few⟩

theorem KTab.len (h : KTab w F p sl g frm L dead) : (lCells L).length = 34 * L.length := lCells_length h.ok

/-- a slot written -/
theorem KTab.put (h : KTab w F p sl g frm L dead) {i : Nat} (hi : i < L.length) {s : KSlot} (hs : s.ok) : KTab (w.setCells sl (i * 34) (sCells s)) F p sl g frm (L.set i s) dead := by
  obtain ⟨h1, h2⟩ := slot_set h.slots h.ok hi hs
  exact ⟨by rw [List.length_set]; exact h.at_.only h2 h.ne, h1, set_ok h.ok hs i, h.ne, h.fp, h.fs, by rw [List.length_set]; exact h.few⟩

/-- it is dead -/
theorem KTab.dies (h : KTab w F p sl g frm L dead) : KTab (w.setCell ⟨p, 3, none⟩ (.bool true)) F p sl g frm L true :=
  ⟨h.at_.set3 _, h.slots.only (only_cell w p 3 _) (fun e => h.ne e.symm), h.ok, h.ne, h.fp, h.fs, h.few⟩
end

end Go.Proofs.Ytnekcdpfphgpbaa
