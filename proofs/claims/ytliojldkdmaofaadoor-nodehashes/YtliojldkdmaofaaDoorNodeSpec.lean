/-
  Layer 19, pure: nodes, valid ones, their encodings, and reading them.
-/
import Derived.Test.YtliojldkdmaofaaDoorEyeA
import Derived.Test.YtliojldkdmaofaaDoorPowRight
namespace Go.Proofs.YtliojldkdmaofaaDoor
set_option linter.unusedVariables false
set_option linter.unusedSimpArgs false
set_option maxRecDepth 100000
open Go.RowKit

structure NodeL where
  kind : Int
  name : List UInt8
  key : Nat
  parent : List UInt8
  unm : List Int
deriving DecidableEq

def NodeL.zero : NodeL := ⟨0, [], 0, [], []⟩

/-- is the i-th number right, and greater than the one ahead of it? -/
def incrAt (l : List Int) (i : Nat) : Prop := (0 ≤ l.getD i 0 ∧ l.getD i 0 ≤ 31) ∧ (0 < i → l.getD (i - 1) 0 < l.getD i 0)
instance (l : List Int) (i : Nat) : Decidable (incrAt l i) := by unfold incrAt; infer_instance
/-- strictly increasing, from 0 to 31 -/
def incr (l : List Int) : Prop := ∀ i, i < l.length → incrAt l i
instance (l : List Int) : Decidable (incr l) := by unfold incr; infer_instance

/-- is the node valid? -/
def nOk (N : NodeL) : Prop :=
  (N.kind = 0 ∧ N.name = [] ∧ N.key = 0 ∧ N.parent = [] ∧ N.unm = []) ∨
  (N.kind = 1 ∧ rightP N.key = true ∧ (N.parent.length = 0 ∨ N.parent.length = 32) ∧ 1 ≤ N.name.length ∧ N.name.length ≤ 16 ∧ N.unm = []) ∨
  (N.kind = 2 ∧ rightP N.key = true ∧ (N.parent.length = 0 ∨ N.parent.length = 32) ∧ N.name = [] ∧ incr N.unm)

instance (N : NodeL) : Decidable (nOk N) := by unfold nOk; infer_instance

theorem zero_ok : nOk NodeL.zero := .inl ⟨rfl, rfl, rfl, rfl, rfl⟩

def nTail (N : NodeL) : List UInt8 := be 8 N.key ++ (be 1 N.parent.length ++ N.parent)
def nUnm (l : List Int) : List UInt8 := l.flatMap fun x => be 1 x.toNat
/-- the encoding of a valid node -/
def nEnc (N : NodeL) : List UInt8 :=
  if N.kind = 0 then [0] else if N.kind = 1 then [1] ++ ((be 1 N.name.length ++ N.name) ++ nTail N) else [2] ++ (nTail N ++ (be 1 N.unm.length ++ nUnm N.unm))

theorem incr_length {l : List Int} (h : incr l) : l.length ≤ 32 := by
  have key : ∀ i, i < l.length → (i : Int) ≤ l.getD i 0 := by
    intro i
    induction i with
    | zero => intro hi; exact (h 0 hi).1.1
    | succ i ih =>
      intro hi
      have h1 := ih (by omega)
      have h2 := (h (i + 1) hi).2 (by omega)
      rw [Nat.add_sub_cancel] at h2
      omega
  rcases Nat.lt_or_ge 32 l.length with hl | hl
  · have h1 := key 32 hl
    have h2 := (h 32 hl).1.2
    omega
  · exact hl

theorem nUnm_length (l : List Int) : (nUnm l).length = l.length := by
  unfold nUnm
  induction l with
  | nil => rfl
  | cons x r ih => rw [List.flatMap_cons, List.length_append, ih, be_length, List.length_cons]; omega

theorem nEnc_length {N : NodeL} (h : nOk N) : (nEnc N).length ≤ 100 := by
  unfold nEnc nTail
  rcases h with ⟨h0, -⟩ | ⟨h0, -, h2, h3, h4, -⟩ | ⟨h0, -, h2, h3, h4⟩
  · rw [if_pos h0]; simp
  · rw [if_neg (by omega), if_pos h0]
    simp only [List.length_append, be_length, List.length_cons, List.length_nil]
    rcases h2 with h | h <;> omega
  · rw [if_neg (by omega), if_neg (by omega)]
    have := incr_length h4
    simp only [List.length_append, be_length, List.length_cons, List.length_nil, nUnm_length]
    rcases h2 with h | h <;> omega

/-- what is left, and the error -/
abbrev RS := List UInt8 × Int
def rNum (n : Nat) (s : RS) : Nat × RS := (eNum n s.1 s.2, (eTake n s.1 s.2).2)
def rText (most : Int) (s : RS) : List UInt8 × RS := ((eText 1 most s.1 s.2).1, (eText 1 most s.1 s.2).2)

/-- so many numbers of one byte each -/
def rUnm : Nat → RS → List Int × RS
  | 0, s => ([], s)
  | n + 1, s => let t := rUnm n s; (t.1 ++ [((rNum 1 t.2).1 : Int)], (rNum 1 t.2).2)

/-- the fields, in order -/
def rNode (s : RS) : NodeL × RS :=
  let k := rNum 1 s
  let nm := if k.1 = 1 then rText 16 k.2 else ([], k.2)
  let ky := if k.1 = 1 ∨ k.1 = 2 then rNum 8 nm.2 else (0, nm.2)
  let pa := if k.1 = 1 ∨ k.1 = 2 then rText 32 ky.2 else ([], ky.2)
  let c := if k.1 = 2 then rNum 1 pa.2 else (0, pa.2)
  let u := rUnm c.1 c.2
  (⟨(k.1 : Int), nm.1, ky.1, pa.1, u.1⟩, u.2)

def rErr19 (s : RS) : Int := if (rNode s).2.2 = 0 ∧ ¬ nOk (rNode s).1 then 12 else (rNode s).2.2
def rGot (s : RS) : NodeL := if rErr19 s = 0 then (rNode s).1 else NodeL.zero

end Go.Proofs.YtliojldkdmaofaaDoor
