/-
  Layer 18, pure: levels, children, parents, siblings, paths.
-/
import Derived.Test.YtalpifocahnfjaaDoorBase
namespace Go.Proofs.YtalpifocahnfjaaDoor
set_option linter.unusedVariables false
set_option linter.unusedSimpArgs false
set_option maxRecDepth 100000

/-- how many of the lowest bits are 1 -/
def lvF : Nat → Nat → Nat
  | 0, _ => 0
  | f + 1, n => if n % 2 = 1 then lvF f (n / 2) + 1 else 0
def lv (n : Nat) : Nat := lvF 6 n

def shFits (n : Int) : Bool := n == 1 || n == 2 || n == 4 || n == 8 || n == 16 || n == 32
def shWidth (n : Int) : Int := if shFits n then 2 * n - 1 else 0

/-- is it a node at all? -/
def shNode (node : Int) : Prop := 0 ≤ node ∧ node ≤ 62
instance (n : Int) : Decidable (shNode n) := by unfold shNode; infer_instance

def shLevel (node : Int) : Int := if shNode node then (lv node.toNat : Int) else 0
def shKid (node : Int) : Bool := shLevel node != 0
def shLeft (node : Int) : Int := if shKid node then node - 2 ^ (lv node.toNat - 1) else 0
def shRight (node : Int) : Int := if shKid node then node + 2 ^ (lv node.toNat - 1) else 0

def up (n : Nat) : Nat := if n / 2 ^ (lv n + 1) % 2 = 0 then n + 2 ^ lv n else n - 2 ^ lv n
def sib (n : Nat) : Nat := if n / 2 ^ (lv n + 1) % 2 = 0 then n + 2 ^ (lv n + 1) else n - 2 ^ (lv n + 1)
def lo (n : Nat) : Nat := (n - (2 ^ lv n - 1)) / 2
def hi (n : Nat) : Nat := (n + (2 ^ lv n - 1)) / 2

/-- does the node have a parent in the tree? -/
def shUp (node leaves : Int) : Prop := shFits leaves = true ∧ 0 ≤ node ∧ node ≤ 2 * leaves - 2 ∧ node ≠ leaves - 1
instance (n l : Int) : Decidable (shUp n l) := by unfold shUp; infer_instance
def shAbove (node leaves : Int) : Int := if shUp node leaves then (up node.toNat : Int) else 0
def shBeside (node leaves : Int) : Int := if shUp node leaves then (sib node.toNat : Int) else 0

def shFirst (node : Int) : Int := if shNode node then (lo node.toNat : Int) else 0
def shLast (node : Int) : Int := if shNode node then (hi node.toNat : Int) else -1

def pathF (leaves : Nat) : Nat → Nat → List Nat
  | 0, _ => []
  | f + 1, n => if n + 1 = leaves then [] else up n :: pathF leaves f (up n)
def pathL (leaf leaves : Nat) : List Nat := pathF leaves 6 (2 * leaf)

def shLeaf (leaf leaves : Int) : Prop := shFits leaves = true ∧ 0 ≤ leaf ∧ leaf < leaves
instance (n l : Int) : Decidable (shLeaf n l) := by unfold shLeaf; infer_instance
def shPath (leaf leaves : Int) : List Int := if shLeaf leaf leaves then (pathL leaf.toNat leaves.toNat).map (fun n : Nat => (n : Int)) else []

/-- the way down from the root of the interval -/
def wayF : Nat → Nat → Nat → Nat → List Nat
  | 0, _, _, _ => []
  | f + 1, a, b, n => (a + b) / 2 :: (if n = (a + b) / 2 then [] else if n < (a + b) / 2 then wayF f a ((a + b) / 2 - 1) n else wayF f ((a + b) / 2 + 1) b n)

theorem wayF_length : ∀ f a b n, (wayF f a b n).length ≤ f := by
  intro f
  induction f with
  | zero => intro a b n; exact Nat.le_refl _
  | succ f ih =>
    intro a b n
    unfold wayF
    rw [List.length_cons]
    split
    · simp
    · split
      · exact Nat.succ_le_succ (ih _ _ _)
      · exact Nat.succ_le_succ (ih _ _ _)

/-- the sizes of trees -/
def fitsL : List Nat := [1, 2, 4, 8, 16, 32]
theorem fits_mem {n : Int} (h : shFits n = true) : ∃ m ∈ fitsL, n = (m : Int) := by
  unfold shFits at h
  simp only [Bool.or_eq_true, beq_iff_eq] at h
  rcases h with ((((h | h) | h) | h) | h) | h <;> subst h
  · exact ⟨1, by decide, rfl⟩
  · exact ⟨2, by decide, rfl⟩
  · exact ⟨4, by decide, rfl⟩
  · exact ⟨8, by decide, rfl⟩
  · exact ⟨16, by decide, rfl⟩
  · exact ⟨32, by decide, rfl⟩
theorem fits_of {m : Nat} (h : m ∈ fitsL) : shFits (m : Int) = true := by
  have : ∀ m ∈ fitsL, shFits (m : Int) = true := by decide
  exact this m h
theorem fits_le {m : Nat} (h : m ∈ fitsL) : 1 ≤ m ∧ m ≤ 32 := by
  have : ∀ m ∈ fitsL, 1 ≤ m ∧ m ≤ 32 := by decide
  exact this m h

theorem lv_le : ∀ n, n < 63 → lv n ≤ 5 := by decide +kernel
theorem kid_facts : ∀ n, n < 63 → 0 < lv n → 2 ^ (lv n - 1) ≤ n ∧ n + 2 ^ (lv n - 1) ≤ 62 ∧ lv (n - 2 ^ (lv n - 1)) + 1 = lv n ∧ lv (n + 2 ^ (lv n - 1)) + 1 = lv n ∧
    lo (n - 2 ^ (lv n - 1)) = lo n ∧ hi (n + 2 ^ (lv n - 1)) = hi n := by decide +kernel
theorem leaf_facts : ∀ n, n < 63 → lv n = 0 → lo n = n / 2 ∧ hi n = n / 2 := by decide +kernel
theorem way_up : ∀ m ∈ fitsL, ∀ n, n < 2 * m - 1 → n + 1 ≠ m → 2 ≤ (wayF 6 0 (2 * m - 2) n).length ∧ (wayF 6 0 (2 * m - 2) n)[(wayF 6 0 (2 * m - 2) n).length - 2]? = some (up n) := by decide +kernel
theorem way_path : ∀ m ∈ fitsL, ∀ l, l < m → ((wayF 6 0 (2 * m - 2) (2 * l)).take ((wayF 6 0 (2 * m - 2) (2 * l)).length - 1)).reverse = pathL l m ∧ 1 ≤ (wayF 6 0 (2 * m - 2) (2 * l)).length := by decide +kernel
theorem up_facts : ∀ m ∈ fitsL, ∀ n, n < 2 * m - 1 → n + 1 ≠ m → up n < 2 * m - 1 ∧ 0 < lv (up n) ∧ sib n < 2 * m - 1 ∧
    ((up n - 2 ^ (lv (up n) - 1) = n ∧ up n + 2 ^ (lv (up n) - 1) = sib n) ∨ (up n - 2 ^ (lv (up n) - 1) ≠ n ∧ up n - 2 ^ (lv (up n) - 1) = sib n)) := by decide +kernel

/-- one more at each of c places from a on -/
def bump (l : List Nat) (a : Nat) : Nat → List Nat
  | 0 => l
  | c + 1 => (bump l a c).set (a + c) ((bump l a c).getD (a + c) 0 + 1)
/-- the node behind i steps -/
def nodeAt (leaf leaves i : Nat) : Nat := if i = 0 then 2 * leaf else (pathL leaf leaves).getD (i - 1) 0
/-- how often each leaf was seen behind i steps -/
def seenL (leaf leaves : Nat) : Nat → List Nat
  | 0 => (List.replicate leaves 0).set leaf 1
  | i + 1 => bump (seenL leaf leaves i) (lo (sib (nodeAt leaf leaves i))) (hi (sib (nodeAt leaf leaves i)) + 1 - lo (sib (nodeAt leaf leaves i)))

theorem path_facts : ∀ m ∈ fitsL, ∀ l, l < m → (pathL l m).length ≤ 5 ∧ seenL l m (pathL l m).length = List.replicate m 1 ∧ nodeAt l m (pathL l m).length + 1 = m := by decide +kernel
theorem step_facts : ∀ m ∈ fitsL, ∀ l, l < m → ∀ i, i < (pathL l m).length → nodeAt l m i < 2 * m - 1 ∧ nodeAt l m i + 1 ≠ m ∧ hi (sib (nodeAt l m i)) < m ∧ lo (sib (nodeAt l m i)) ≤ hi (sib (nodeAt l m i)) ∧ sib (nodeAt l m i) ≤ 62 := by decide +kernel

theorem bump_length (l : List Nat) (a : Nat) : ∀ c, (bump l a c).length = l.length := by
  intro c
  induction c with
  | zero => rfl
  | succ c ih => unfold bump; rw [List.length_set, ih]
theorem seenL_length (leaf leaves : Nat) : ∀ i, (seenL leaf leaves i).length = leaves := by
  intro i
  induction i with
  | zero => unfold seenL; rw [List.length_set, List.length_replicate]
  | succ i ih => unfold seenL; rw [bump_length, ih]

theorem nodeAt_step {m l i : Nat} (h : i < (pathL l m).length) : (pathL l m)[i]? = some (nodeAt l m (i + 1)) := by
  unfold nodeAt
  rw [if_neg (by omega), Nat.add_sub_cancel, List.getD_eq_getElem?_getD, List.getElem?_eq_getElem h]
  rfl

end Go.Proofs.YtalpifocahnfjaaDoor
