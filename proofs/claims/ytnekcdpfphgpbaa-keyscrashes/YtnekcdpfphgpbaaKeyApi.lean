/-
  Layer 16: what the statements' walks want of the program's table: its object, and the contracts of its functions. (A structure of facts, to be proved of the code that landed.)
-/
import Derived.Test.YtnekcdpfphgpbaaKeySpec
import Derived.Test.YtnekcdpfphgpbaaDskA
namespace Go.Proofs.Ytnekcdpfphgpbaa
set_option linter.unusedVariables false
set_option linter.unusedSimpArgs false
set_option maxRecDepth 100000
open Go.RowKit

/-- the key of a bucket -/
def kGetK (L : List KSlot) (b : Nat) : Option (List UInt8) := (kFind L b).bind fun i => (L[i]?).bind fun s => s.map (·.2)

/-- a table's object at p, on the disk g, its own blocks in F -/
abbrev KObj := World → (Nat → Prop) → Nat → Nat → Nat → List KSlot → Bool → Prop

/-- the table and its disk side by side, all their blocks in H -/
def KD (KM : KObj) (q : Int) (w : World) (H : Nat → Prop) (p g frm : Nat) (L : List KSlot) (dead : Bool) (n : Nat) (D I : List UInt8) (P : List Wr) : Prop :=
  ∃ F G, KM w F p g frm L dead ∧ Dvc q w n g G D I P ∧ (∀ k, F k → ¬ G k) ∧ (∀ k, F k → H k) ∧ (∀ k, G k → H k)

def KDTo (KM : KObj) (q : Int) (w : World) (H : Nat → Prop) (p g frm : Nat) (L : List KSlot) (dead : Bool) (n : Nat) (D I : List UInt8) (P : List Wr) (w' : World) : Prop :=
  KD KM q w' (fun k => H k ∨ w.heap.size ≤ k) p g frm L dead n D I P ∧ Only H w w'

structure KeyApi (KM : KObj) : Prop where
  only : ∀ {w w' : World} {F G : Nat → Prop} {p g frm : Nat} {L : List KSlot} {dead : Bool}, KM w F p g frm L dead → Only G w w' → (∀ k, F k → ¬ G k) → KM w' F p g frm L dead
  narrow : ∀ {w : World} {F G : Nat → Prop} {p g frm : Nat} {L : List KSlot} {dead : Bool}, KM w F p g frm L dead → (∀ k, k < w.heap.size → F k → G k) → KM w G p g frm L dead
  open_ : ∀ {w : World} {n g : Nat} {F : Nat → Prop} {D : List UInt8}, Dvc (-1) w n g F D D [] → ∀ frm slots : Nat, 1 ≤ slots → slots ≤ 64 → frm + 2 * slots ≤ n →
    Calls Try.prog 8 #[.pointer (some ⟨g, 0, none⟩), .int .i64 (frm : Int), .int .i64 (slots : Int)] w fun e w' => ∃ p D', e = .returned (.tuple #[.pointer (some ⟨p, 0, none⟩), .nilIface]) ∧ KDTo KM (-1) w F p g frm (kOpenT D frm slots) false n D' D' [] w' ∧ KOn frm (kOpenT D frm slots) D'
  put : ∀ {q : Int} {w : World} {H : Nat → Prop} {p g frm n : Nat} {L : List KSlot} {D : List UInt8}, KD KM q w H p g frm L false n D D [] → KOk L → KOn frm L D → L.length ≤ 64 → frm + 2 * L.length ≤ n →
    ∀ (b : Nat) (x : Value) (k : List UInt8), b ≤ 1099511627776 → k.length = 32 → Rd w x k → (∀ j, blk x = some j → ¬ H j) → kFind L b = none → ∀ i, i < L.length → L.findIdx? (·.isNone) = some i →
    Calls Try.prog 12 #[.pointer (some ⟨p, 0, none⟩), .int .i64 (b : Int), x] w fun e w' =>
      (e = .returned .nilIface ∧ ∃ q' D', (q = -1 → q' = -1) ∧ KDTo KM q' w H p g frm (L.set i (some (b, k))) false n D' D' [] w' ∧ KOn frm (L.set i (some (b, k))) D') ∨
      (q ≠ -1 ∧ (∃ y, e = .returned (.iface 102 y)) ∧ ∃ q' L2 D' P', KDTo KM q' w H p g frm L2 true n D' (layAll D' P') P' w' ∧ KHalf n frm i L (some (b, k)) D' P')
  putNo : ∀ {w : World} {F : Nat → Prop} {p g frm : Nat} {L : List KSlot}, KM w F p g frm L false → ∀ (b : Nat) (x : Value) (k : List UInt8), b ≤ 1099511627776 → k.length = 32 → Rd w x k → (kFind L b ≠ none ∨ L.findIdx? (·.isNone) = none) → L.length ≤ 64 →
    Calls Try.prog 12 #[.pointer (some ⟨p, 0, none⟩), .int .i64 (b : Int), x] w fun e w' => (∃ y, e = .returned (.iface 102 y)) ∧ New w w'
  shred : ∀ {q : Int} {w : World} {H : Nat → Prop} {p g frm n : Nat} {L : List KSlot} {D : List UInt8}, KD KM q w H p g frm L false n D D [] → KOk L → KOn frm L D → L.length ≤ 64 → frm + 2 * L.length ≤ n →
    ∀ (b : Nat), b ≤ 1099511627776 → ∀ i, i < L.length → kFind L b = some i →
    Calls Try.prog 11 #[.pointer (some ⟨p, 0, none⟩), .int .i64 (b : Int)] w fun e w' =>
      (e = .returned .nilIface ∧ ∃ q' D', (q = -1 → q' = -1) ∧ KDTo KM q' w H p g frm (L.set i none) false n D' D' [] w' ∧ KOn frm (L.set i none) D') ∨
      (q ≠ -1 ∧ (∃ y, e = .returned (.iface 102 y)) ∧ ∃ q' L2 D' P', KDTo KM q' w H p g frm L2 true n D' (layAll D' P') P' w' ∧ KHalf n frm i L none D' P')
  shredNo : ∀ {w : World} {F : Nat → Prop} {p g frm : Nat} {L : List KSlot}, KM w F p g frm L false → ∀ (b : Nat), b ≤ 1099511627776 → kFind L b = none → L.length ≤ 64 →
    Calls Try.prog 11 #[.pointer (some ⟨p, 0, none⟩), .int .i64 (b : Int)] w fun e w' => (∃ y, e = .returned (.iface 102 y)) ∧ New w w'
  get : ∀ {w : World} {F : Nat → Prop} {p g frm : Nat} {L : List KSlot} {dead : Bool}, KM w F p g frm L dead → KOk L → L.length ≤ 64 → ∀ (b : Nat), b ≤ 1099511627776 →
    Calls Try.prog 15 #[.pointer (some ⟨p, 0, none⟩), .int .i64 (b : Int)] w fun e w' => New w w' ∧ ∃ v, e = .returned (.tuple #[v, .bool (kGetK L b).isSome]) ∧ (∃ a n c, v = .slice a n c) ∧ (∀ k, kGetK L b = some k → Rd w' v k) ∧ ∀ j, blk v = some j → w.heap.size ≤ j

section
variable {KM : KObj} {q : Int} {w w' : World} {H H' G : Nat → Prop} {p g frm n : Nat} {L : List KSlot} {dead : Bool} {D I : List UInt8} {P : List Wr}

theorem KD.only (A : KeyApi KM) (h : KD KM q w H p g frm L dead n D I P) (ho : Only G w w') (hG : ∀ k, H k → ¬ G k) : KD KM q w' H p g frm L dead n D I P := by
  obtain ⟨F, G', h1, h2, h3, h4, h5⟩ := h
  exact ⟨F, G', A.only h1 ho (fun k hk => hG k (h4 k hk)), h2.only ho (fun k hk => hG k (h5 k hk)), h3, h4, h5⟩

theorem KD.new (A : KeyApi KM) (h : KD KM q w H p g frm L dead n D I P) (hn : New w w') : KD KM q w' H p g frm L dead n D I P :=
  h.only A (New.only (F := fun _ => False) hn) (fun _ _ f => f)

theorem KD.narrow (A : KeyApi KM) (h : KD KM q w H p g frm L dead n D I P) (hH : ∀ k, k < w.heap.size → H k → H' k) : KD KM q w H' p g frm L dead n D I P := by
  obtain ⟨F, G', h1, h2, h3, h4, h5⟩ := h
  exact ⟨fun k => F k ∧ k < w.heap.size, fun k => G' k ∧ k < w.heap.size, A.narrow h1 (fun k hk hf => ⟨hf, hk⟩), h2.narrow (fun k hk hf => ⟨hf, hk⟩), fun k hk hg => h3 k hk.1 hg.1, fun k hk => hH k hk.2 (h4 k hk.1), fun k hk => hH k hk.2 (h5 k hk.1)⟩

theorem KD.dvc (h : KD KM q w H p g frm L dead n D I P) : Dvc q w n g H D I P := by
  obtain ⟨F, G', h1, h2, h3, h4, h5⟩ := h
  exact h2.narrow (fun k _ hk => h5 k hk)

/-- behind a call on the disk alone -/
theorem KD.onDisk {q' : Int} {D' I' : List UInt8} {P' : List Wr} (A : KeyApi KM) (h : KM w G p g frm L dead) (hd : ∀ k, G k → ¬ H k) (hG : ∀ k, G k → H' k) (hH : ∀ k, H k → H' k) (ht : DvcTo q' w n g H D' I' P' w') : KDTo KM q' w H' p g frm L dead n D' I' P' w' :=
  ⟨⟨fun k => G k ∧ k < w.heap.size, fun k => H k ∨ w.heap.size ≤ k, A.only (A.narrow h (fun k hk hf => ⟨hf, hk⟩)) ht.2 (fun k hk => hd k hk.1), ht.1, fun k hk hg => hg.elim (hd k hk.1) (fun h => by omega), fun k hk => .inl (hG k hk.1), fun k hk => hk.elim (fun h => .inl (hH k h)) .inr⟩, ht.2.mono (fun k _ hk => hH k hk)⟩
end

end Go.Proofs.Ytnekcdpfphgpbaa
