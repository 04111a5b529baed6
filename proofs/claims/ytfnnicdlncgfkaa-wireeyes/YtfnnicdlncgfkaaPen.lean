/-
  The writer of package wire: one contract a function.
-/
import Derived.Test.YtfnnicdlncgfkaaProg
import Derived.Test.YtfnnicdlncgfkaaMem
import Derived.Deep.RegionHeld3
import Derived.Deep.DrawnRows
import Derived.Deep.RegionLaw
import Derived.KernelRfl
namespace Go.Proofs.Ytfnnicdlncgfkaa
set_option linter.unusedVariables false
set_option linter.unusedSimpArgs false
open Go.RowKit
attribute [local go_sem ↓] Go.wp_at_zero Go.wp_at_succ

theorem infoByte : (Try.prog.info? 5).map (fun i => (i.zero, i.size, i.bytes)) = some (some (.int .u8 0), 1, 1) := by kernel_rfl

/-- The writer at block p, its row in block g: s: what was appended; none: it is bad. -/
def Pen (w : World) (p : Nat) (g : Option Nat) (s : Option (List UInt8)) : Prop :=
  ∃ v out, w.heap[p]? = some (.cells #[v, .bool s.isNone] 60 (0, 0)) ∧ w.ownsRow 0 5 1 v out.length (out.map bv) ∧ v.ownBlock = g ∧ ∀ l, s = some l → out = l

/-- in the midst of a call on a writer -/
def PenIn (w : World) (p : Nat) (g : Option Nat) (s : Option (List UInt8)) (wr : World) : Prop :=
  Only (fun k => k = p ∨ some k = g) w wr ∧ ∃ g', Pen wr p g' s ∧ (g' = g ∨ ∃ k, g' = some k ∧ w.heap.size ≤ k)

/-- what a call on a writer leaves -/
def PenTo (w : World) (p : Nat) (g : Option Nat) (s : Option (List UInt8)) (e : Ending) (w' : World) : Prop :=
  e = .returned (.tuple #[]) ∧ PenIn w p g s w'

/-- a number in so many bytes, the most significant first -/
def be : Nat → Nat → List UInt8
  | 0, _ => []
  | k + 1, n => UInt8.ofNat (n / 256 ^ k) :: be k n

theorem be_length (size n : Nat) : (be size n).length = size := by
  induction size with
  | zero => rfl
  | succ k ih => simp [be, ih]

theorem be_get (size n k : Nat) (h : k < size) : (be size n)[k]? = some (UInt8.ofNat (n / 256 ^ (size - 1 - k))) := by
  induction size generalizing k with
  | zero => omega
  | succ m ih =>
    cases k with
    | zero => simp [be]
    | succ k => simp only [be, List.getElem?_cons_succ]; rw [ih k (by omega)]; congr 4; omega

theorem be_take (size n k : Nat) (h : k < size) : (be size n).take (k + 1) = (be size n).take k ++ [UInt8.ofNat (n / 256 ^ (size - 1 - k))] := by
  rw [List.take_add_one, be_get size n k h]; rfl

theorem byte_of (n : Int) (size k : Nat) (hn : 0 ≤ n) (hk : k < size) :
    IntKind.u8.wrap (n / 2 ^ (8 * ((size : Int) - 1) - 8 * (k : Int)).toNat) = ((UInt8.ofNat (n.toNat / 256 ^ (size - 1 - k))).toNat : Int) := by
  obtain ⟨m, rfl⟩ := Int.eq_ofNat_of_zero_le hn
  have e : (8 * ((size : Int) - 1) - 8 * (k : Int)).toNat = 8 * (size - 1 - k) := by omega
  rw [e, Int.toNat_natCast, IntKind.wrap_u8, show (256 : Nat) = 2 ^ 8 from rfl, ← Nat.pow_mul, UInt8.toNat_ofNat']
  show _ = ((m / 2 ^ (8 * (size - 1 - k)) % 256 : Nat) : Int)
  rw [Int.natCast_emod, Int.natCast_ediv, Int.natCast_pow]
  rfl

theorem two_setCell0 {w : World} {b : Nat} {v0 v1 u : Value} {t : TypeId} (h : w.heap[b]? = some (.cells #[v0, v1] t (0, 0))) : (w.setCell ⟨b, 0, none⟩ u).heap[b]? = some (.cells #[u, v1] t (0, 0)) := by
  have hlt := lt_of_block h
  have h' : w.heap[b] = .cells #[v0, v1] t (0, 0) := by simpa [Array.getElem?_eq_getElem hlt] using h
  show (w.heap.modify b _)[b]? = _
  rw [Array.getElem?_eq_getElem (by simpa using hlt), Array.getElem_modify_self, h']
  rfl

theorem two_setCell1 {w : World} {b : Nat} {v0 v1 u : Value} {t : TypeId} (h : w.heap[b]? = some (.cells #[v0, v1] t (0, 0))) : (w.setCell ⟨b, 1, none⟩ u).heap[b]? = some (.cells #[v0, u] t (0, 0)) := by
  have hlt := lt_of_block h
  have h' : w.heap[b] = .cells #[v0, v1] t (0, 0) := by simpa [Array.getElem?_eq_getElem hlt] using h
  show (w.heap.modify b _)[b]? = _
  rw [Array.getElem?_eq_getElem (by simpa using hlt), Array.getElem_modify_self, h']
  rfl

/-- An owned row lies in no block of another element type. -/
theorem own_ne {w : World} {base : Nat} {e t : TypeId} {size : Nat} {v : Value} {n : Nat} {xs : List Value} {p : Nat} {c : Array Value} (h : w.ownsRow base e size v n xs) (hp : w.heap[p]? = some (.cells c t (0, 0))) (het : e ≠ t) : v.ownBlock ≠ some p := by
  intro e'
  rcases h.2 with ⟨rfl, _⟩ | ⟨q, cap, cur, rfl, _, hq, _⟩
  · simp [Value.ownBlock] at e'
  · simp [Value.ownBlock] at e'; subst e'; rw [hp] at hq; simp at hq; exact het hq.2.symm

/-- the facts of a writer that a walk wants -/
theorem Pen.cells {w : World} {p : Nat} {g : Option Nat} {s : Option (List UInt8)} (h : Pen w p g s) :
    ∃ v out, w.cell? ⟨p, 0, none⟩ = some v ∧ w.cell? ⟨p, 1, none⟩ = some (.bool s.isNone) ∧ w.frozen? ⟨p, 0, none⟩ = false ∧ w.frozen? ⟨p, 1, none⟩ = false ∧ p < w.heap.size ∧
      w.ownsRow 0 5 1 v out.length (out.map bv) ∧ v.ownBlock = g ∧ v.ownBlock ≠ some p ∧ Hid (∀ l, s = some l → out = l) ∧ Hid (w.heap[p]? = some (.cells #[v, .bool s.isNone] 60 (0, 0))) := by
  obtain ⟨v, out, hp, hown, hg, hl⟩ := h
  exact ⟨v, out, by rw [cell_of_row w p 0 _ _ _ hp]; rfl, by rw [cell_of_row w p 1 _ _ _ hp]; rfl, by simp [World.frozen?, hp], by simp [World.frozen?, hp], lt_of_block hp, hown, hg, own_ne hown hp (by decide), hl, hp⟩

/-- Behind an append onto the writer's row and the store of the new slice. -/
theorem penPut {w wr wa w1 : World} {p : Nat} {g g' : Option Nat} {v v' : Value} {m : List UInt8} (ho : Only (fun k => k = p ∨ some k = g) w wr) (hp : wr.heap[p]? = some (.cells #[v, .bool false] 60 (0, 0)))
    (hv : v.ownBlock = g') (hg' : g' = g ∨ ∃ k, g' = some k ∧ w.heap.size ≤ k) (hx : New wr wa) (hgrow : wa.grownBy w1 v.ownBlock) (hown1 : w1.ownsRow 0 5 1 v' m.length (m.map bv))
    (hat : v'.ownBlock = v.ownBlock ∨ ∃ k, v'.ownBlock = some k ∧ wr.heap.size ≤ k) (hne : v.ownBlock ≠ some p) : PenIn w p g (some m) (w1.setCell ⟨p, 0, none⟩ v') := by
  have hlt := lt_of_block hp
  have hpa : wa.heap[p]? = some (.cells #[v, .bool false] 60 (0, 0)) := (hx.block p hlt).trans hp
  have hp1 : w1.heap[p]? = some (.cells #[v, .bool false] 60 (0, 0)) := (hgrow.block p (lt_of_block hpa) (Ne.symm hne)).trans hpa
  refine ⟨?_, v'.ownBlock, ⟨v', m, two_setCell0 hp1, ownsRow_setCell_other hown1 (own_ne hown1 hp1 (by decide)) _, rfl, fun l h => by cases h; rfl⟩, ?_⟩
  · refine Only.setCell (Only.grown (Only.trans ho (New.only (F := fun _ => False) hx) (fun _ _ h => h.elim)) hgrow (fun k hk hlt => ?_)) (fun _ => .inl rfl) _
    rw [hv] at hk
    rcases hg' with e | ⟨j, e, hj⟩
    · right; rw [← e, hk]
    · rw [hk] at e; cases e; omega
  · rcases hat with e | ⟨k, e, hk⟩
    · rw [e, hv]; exact hg'
    · exact .inr ⟨k, e, Nat.le_trans ho.size hk⟩

theorem keep2 {wa w1 : World} {row : Option Nat} {p : Nat} {v : Value} (hg : wa.grownBy w1 row) (hlt : p < wa.heap.size) (hne : row ≠ some p) (h : wa.cell? ⟨p, 0, none⟩ = some v ∧ wa.frozen? ⟨p, 0, none⟩ = false) :
    w1.cell? ⟨p, 0, none⟩ = some v ∧ w1.frozen? ⟨p, 0, none⟩ = false := by
  rw [hg.cell_far _ hlt (Ne.symm hne), hg.frozen_far _ hlt (Ne.symm hne)]
  exact h

theorem keepA {w : World} {o : Obj} {p : Nat} {v : Value} (hlt : p < w.heap.size) (h1 : w.cell? ⟨p, 0, none⟩ = some v) (h2 : w.frozen? ⟨p, 0, none⟩ = false) :
    (w.alloc o).drew.cell? ⟨p, 0, none⟩ = some v ∧ (w.alloc o).drew.frozen? ⟨p, 0, none⟩ = false :=
  ⟨(World.cell?_alloc_lt w o ⟨p, 0, none⟩ hlt).trans h1, (World.frozen?_alloc_old w o ⟨p, 0, none⟩ (Nat.ne_of_lt hlt)).trans h2⟩

theorem new_alloc_drew (w : World) (o : Obj) : New w (w.alloc o).drew := ((Below.refl _ _).alloc (Nat.le_refl _) o).drew

set_option maxHeartbeats 400000 in
set_option maxRecDepth 100000 in
theorem penNumber (w : World) (p : Nat) (g : Option Nat) (l : List UInt8) (n : Int) (size : Nat) (h : Pen w p g (some l)) (hn : 0 ≤ n) (_hn' : n < 18446744073709551616) (hs : size ≤ 8) (hb : l.length + 8 ≤ 140737488355328) :
    Calls Try.prog 40 #[.pointer (some ⟨p, 0, none⟩), .int .u64 n, .int .i64 size] w (PenTo w p g (some (l ++ be size n.toNat))) := by
  have hc1 : w.cell? ⟨p, 1, none⟩ = some (.bool false) := by
    obtain ⟨v, out, hp, hown, hg, hl⟩ := h
    rw [cell_of_row w p 1 _ _ _ hp]; rfl
  go_enter Try.func40, Try.ntmps40
  go_wp2
  go_loopw [6] (fun i wr => ∃ k : Nat, k ≤ size ∧ i = .int .i64 (8 * ((size : Int) - 1) - 8 * k) ∧ PenIn w p g (some (l ++ (be size n.toNat).take k)) wr) (fun i _ => (intOf i + 8).toNat)
  case atStart => exact ⟨0, Nat.zero_le _, by go_num, by simpa using ⟨Only.refl _ _, g, h, .inl rfl⟩⟩
  case round =>
    obtain ⟨k, hk, rfl, hin⟩ := hrel
    by_cases hlt : k < size
    · obtain ⟨ho, g', hpen, hg'⟩ := hin
      obtain ⟨v, out, hc0, _, hfz, _, hlp, hown, hg, hne, HL, HP⟩ := hpen.cells
      have h0 : (0 : Int) ≤ 8 * ((size : Int) - 1) - 8 * k := by omega
      have hlen : out.length ≤ l.length + k := by rw [HL.out _ rfl]; simp; omega
      have HX := Lib.hid (byte_of n size k hn hlt)
      obtain ⟨i0, hi0, hz0, hz1, hz2⟩ := info_parts infoByte
      have HG := Lib.hid hg'
      have HGG := Lib.hid hg
      clear hc1 hpen hg' hg
      go_wp2
      go_region_law
        ((refine step_append_lies _ (by rfl) _ _ _ (by rfl) 0 5 i0 _ 1 1 Try.underlying28 hi0 hz0 hz1 hz2 rfl (by omega) v _ _ (by rfl) ((hown.alloc _).drew) ⟨wr.heap.size, 0, none⟩ 1 1 [.int .u8 (IntKind.u8.wrap (n / 2 ^ (8 * ((size : Int) - 1) - 8 * (k : Int)).toNat))] (by rfl) (by rfl) (World.news_of_block (cs := #[.int .u8 (IntKind.u8.wrap (n / 2 ^ (8 * ((size : Int) - 1) - 8 * (k : Int)).toNat))]) (t := 5) (fr := (0, 0)) (heap_alloc_new wr _)) (by simp [Value.oneCell']) (by omega) (by unfold maxLen; omega) (by omega) (by simp) (wr.heap.size + 1) (by simp) ?_; intro gg cap w1 hown1 hgrow hat hglt; obtain ⟨hk0, hk1⟩ := keep2 hgrow (by simp; omega) hne (keepA hlp hc0 hfz)))
      all_goals go_wp2
      all_goals
        go_roundw
        case rel =>
          refine ⟨k + 1, by omega, by go_num, ?_⟩
          rw [be_take _ _ _ hlt, ← List.append_assoc, ← HL.out _ rfl]
          refine penPut (wr := wr) (v := v) ho HP.out HGG.out HG.out (new_alloc_drew _ _) hgrow ?_ ?_ hne
          · rw [HX.out] at hown1; simpa only [List.length_append, List.length_cons, List.length_nil, List.map_append, List.map_cons, List.map_nil, Nat.zero_add] using hown1
          · rcases hat with e | e
            · exact .inl e.symm
            · exact .inr ⟨gg, rfl, by omega⟩
        case measure => simp [intOf]; omega
    · obtain rfl : k = size := by omega
      rw [List.take_of_length_le (by rw [be_length]; exact Nat.le_refl _)] at hin
      go_wp2
      go_end0
      exact ⟨rfl, hin⟩

set_option maxHeartbeats 400000 in
theorem penNumberBad (w : World) (p : Nat) (g : Option Nat) (n size : Int) (h : Pen w p g none) :
    Calls Try.prog 40 #[.pointer (some ⟨p, 0, none⟩), .int .u64 n, .int .i64 size] w (PenTo w p g none) := by
  have hc1 : w.cell? ⟨p, 1, none⟩ = some (.bool true) := by
    obtain ⟨v, out, hp, hown, hg, hl⟩ := h
    rw [cell_of_row w p 1 _ _ _ hp]; rfl
  go_enter Try.func40, Try.ntmps40
  go_wp2
  go_end0
  exact ⟨rfl, Only.refl _ _, g, h, .inl rfl⟩

end Go.Proofs.Ytfnnicdlncgfkaa
