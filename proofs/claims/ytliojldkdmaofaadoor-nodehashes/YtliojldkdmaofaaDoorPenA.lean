/-
  The writer of package wire: one contract a function.
  The writer of package wire, its other functions.
  The writer of package wire: New, Bytes; 'fresh'.
  What the writer writes where it fits.
-/
import Derived.Test.YtliojldkdmaofaaDoorProg
import Derived.Test.YtliojldkdmaofaaDoorBase
import Derived.Deep.RegionHeld3
import Derived.Deep.DrawnRows
import Derived.Deep.RegionLaw
import Derived.KernelRfl
namespace Go.Proofs.YtliojldkdmaofaaDoor
set_option linter.unusedVariables false
set_option linter.unusedSimpArgs false
open Go.RowKit
attribute [local go_sem ↓] Go.wp_at_zero Go.wp_at_succ

theorem infoByte : (Tryd.prog.info? 5).map (fun i => (i.zero, i.size, i.bytes)) = some (some (.int .u8 0), 1, 1) := by kernel_rfl

/-- The writer at block p, its row in block g: s: what was appended; none: it is bad. -/
def Pen (w : World) (p : Nat) (g : Option Nat) (s : Option (List UInt8)) : Prop :=
  ∃ v out, w.heap[p]? = some (.cells #[v, .bool s.isNone] 58 (0, 0)) ∧ w.ownsRow 0 5 1 v out.length (out.map bv) ∧ v.ownBlock = g ∧ ∀ l, s = some l → out = l

/-- in the midst of a call on a writer -/
def PenIn (w : World) (p : Nat) (g : Option Nat) (s : Option (List UInt8)) (wr : World) : Prop :=
  Only (fun k => k = p ∨ some k = g) w wr ∧ ∃ g', Pen wr p g' s ∧ (g' = g ∨ ∃ k, g' = some k ∧ w.heap.size ≤ k)

/-- what a call on a writer leaves -/
def PenTo (w : World) (p : Nat) (g : Option Nat) (s : Option (List UInt8)) (e : Ending) (w' : World) : Prop :=
  e = .returned (.tuple #[]) ∧ PenIn w p g s w'

/-- a number in so many bytes, the most significant first -/
def be : Nat → Nat → List UInt8
  | 0, _ => []
  | k + 1, n => UInt8.ofNat (n / 256 ^ k) :: be k n

theorem be_length (size n : Nat) : (be size n).length = size := by
  induction size with
  | zero => rfl
  | succ k ih => simp [be, ih]

theorem be_get (size n k : Nat) (h : k < size) : (be size n)[k]? = some (UInt8.ofNat (n / 256 ^ (size - 1 - k))) := by
  induction size generalizing k with
  | zero => omega
  | succ m ih =>
    cases k with
    | zero => simp [be]
    | succ k => simp only [be, List.getElem?_cons_succ]; rw [ih k (by omega)]; congr 4; omega

theorem be_take (size n k : Nat) (h : k < size) : (be size n).take (k + 1) = (be size n).take k ++ [UInt8.ofNat (n / 256 ^ (size - 1 - k))] := by
  rw [List.take_add_one, be_get size n k h]; rfl

theorem byte_of (n : Int) (size k : Nat) (hn : 0 ≤ n) (hk : k < size) :
    IntKind.u8.wrap (n / 2 ^ (8 * ((size : Int) - 1) - 8 * (k : Int)).toNat) = ((UInt8.ofNat (n.toNat / 256 ^ (size - 1 - k))).toNat : Int) := by
  obtain ⟨m, rfl⟩ := Int.eq_ofNat_of_zero_le hn
  have e : (8 * ((size : Int) - 1) - 8 * (k : Int)).toNat = 8 * (size - 1 - k) := by omega
  rw [e, Int.toNat_natCast, IntKind.wrap_u8, show (256 : Nat) = 2 ^ 8 from rfl, ← Nat.pow_mul, UInt8.toNat_ofNat']
  show _ = ((m / 2 ^ (8 * (size - 1 - k)) % 256 : Nat) : Int)
  rw [Int.natCast_emod, Int.natCast_ediv, Int.natCast_pow]
  rfl

theorem two_setCell0 {w : World} {b : Nat} {v0 v1 u : Value} {t : TypeId} (h : w.heap[b]? = some (.cells #[v0, v1] t (0, 0))) : (w.setCell ⟨b, 0, none⟩ u).heap[b]? = some (.cells #[u, v1] t (0, 0)) := by
  have hlt := lt_of_block h
  have h' : w.heap[b] = .cells #[v0, v1] t (0, 0) := by simpa [Array.getElem?_eq_getElem hlt] using h
  show (w.heap.modify b _)[b]? = _
  rw [Array.getElem?_eq_getElem (by simpa using hlt), Array.getElem_modify_self, h']
  rfl

theorem two_setCell1 {w : World} {b : Nat} {v0 v1 u : Value} {t : TypeId} (h : w.heap[b]? = some (.cells #[v0, v1] t (0, 0))) : (w.setCell ⟨b, 1, none⟩ u).heap[b]? = some (.cells #[v0, u] t (0, 0)) := by
  have hlt := lt_of_block h
  have h' : w.heap[b] = .cells #[v0, v1] t (0, 0) := by simpa [Array.getElem?_eq_getElem hlt] using h
  show (w.heap.modify b _)[b]? = _
  rw [Array.getElem?_eq_getElem (by simpa using hlt), Array.getElem_modify_self, h']
  rfl

/-- An owned row lies in no block of another element type. -/
theorem own_ne {w : World} {base : Nat} {e t : TypeId} {size : Nat} {v : Value} {n : Nat} {xs : List Value} {p : Nat} {c : Array Value} (h : w.ownsRow base e size v n xs) (hp : w.heap[p]? = some (.cells c t (0, 0))) (het : e ≠ t) : v.ownBlock ≠ some p := by
  intro e'
  rcases h.2 with ⟨rfl, _⟩ | ⟨q, cap, cur, rfl, _, hq, _⟩
  · simp [Value.ownBlock] at e'
  · simp [Value.ownBlock] at e'; subst e'; rw [hp] at hq; simp at hq; exact het hq.2.symm

/-- the facts of a writer that a walk wants -/
theorem Pen.cells {w : World} {p : Nat} {g : Option Nat} {s : Option (List UInt8)} (h : Pen w p g s) :
    ∃ v out, w.cell? ⟨p, 0, none⟩ = some v ∧ w.cell? ⟨p, 1, none⟩ = some (.bool s.isNone) ∧ w.frozen? ⟨p, 0, none⟩ = false ∧ w.frozen? ⟨p, 1, none⟩ = false ∧ p < w.heap.size ∧
      w.ownsRow 0 5 1 v out.length (out.map bv) ∧ v.ownBlock = g ∧ v.ownBlock ≠ some p ∧ Hid (∀ l, s = some l → out = l) ∧ Hid (w.heap[p]? = some (.cells #[v, .bool s.isNone] 58 (0, 0))) := by
  obtain ⟨v, out, hp, hown, hg, hl⟩ := h
  exact ⟨v, out, by rw [cell_of_row w p 0 _ _ _ hp]; rfl, by rw [cell_of_row w p 1 _ _ _ hp]; rfl, by simp [World.frozen?, hp], by simp [World.frozen?, hp], lt_of_block hp, hown, hg, own_ne hown hp (by decide), hl, hp⟩

/-- Behind an append onto the writer's row and the store of the new slice. -/
theorem penPut {w wr wa w1 : World} {p : Nat} {g g' : Option Nat} {v v' : Value} {m : List UInt8} (ho : Only (fun k => k = p ∨ some k = g) w wr) (hp : wr.heap[p]? = some (.cells #[v, .bool false] 58 (0, 0)))
    (hv : v.ownBlock = g') (hg' : g' = g ∨ ∃ k, g' = some k ∧ w.heap.size ≤ k) (hx : New wr wa) (hgrow : wa.grownBy w1 v.ownBlock) (hown1 : w1.ownsRow 0 5 1 v' m.length (m.map bv))
    (hat : v'.ownBlock = v.ownBlock ∨ ∃ k, v'.ownBlock = some k ∧ wr.heap.size ≤ k) (hne : v.ownBlock ≠ some p) : PenIn w p g (some m) (w1.setCell ⟨p, 0, none⟩ v') := by
  have hlt := lt_of_block hp
  have hpa : wa.heap[p]? = some (.cells #[v, .bool false] 58 (0, 0)) := (hx.block p hlt).trans hp
  have hp1 : w1.heap[p]? = some (.cells #[v, .bool false] 58 (0, 0)) := (hgrow.block p (lt_of_block hpa) (Ne.symm hne)).trans hpa
  refine ⟨?_, v'.ownBlock, ⟨v', m, two_setCell0 hp1, ownsRow_setCell_other hown1 (own_ne hown1 hp1 (by decide)) _, rfl, fun l h => by cases h; rfl⟩, ?_⟩
  · refine Only.setCell (Only.grown (Only.trans ho (New.only (F := fun _ => False) hx) (fun _ _ h => h.elim)) hgrow (fun k hk hlt => ?_)) (fun _ => .inl rfl) _
    rw [hv] at hk
    rcases hg' with e | ⟨j, e, hj⟩
    · right; rw [← e, hk]
    · rw [hk] at e; cases e; omega
  · rcases hat with e | ⟨k, e, hk⟩
    · rw [e, hv]; exact hg'
    · exact .inr ⟨k, e, Nat.le_trans ho.size hk⟩

theorem keep2 {wa w1 : World} {row : Option Nat} {p : Nat} {v : Value} (hg : wa.grownBy w1 row) (hlt : p < wa.heap.size) (hne : row ≠ some p) (h : wa.cell? ⟨p, 0, none⟩ = some v ∧ wa.frozen? ⟨p, 0, none⟩ = false) :
    w1.cell? ⟨p, 0, none⟩ = some v ∧ w1.frozen? ⟨p, 0, none⟩ = false := by
  rw [hg.cell_far _ hlt (Ne.symm hne), hg.frozen_far _ hlt (Ne.symm hne)]
  exact h

theorem keepA {w : World} {o : Obj} {p : Nat} {v : Value} (hlt : p < w.heap.size) (h1 : w.cell? ⟨p, 0, none⟩ = some v) (h2 : w.frozen? ⟨p, 0, none⟩ = false) :
    (w.alloc o).drew.cell? ⟨p, 0, none⟩ = some v ∧ (w.alloc o).drew.frozen? ⟨p, 0, none⟩ = false :=
  ⟨(World.cell?_alloc_lt w o ⟨p, 0, none⟩ hlt).trans h1, (World.frozen?_alloc_old w o ⟨p, 0, none⟩ (Nat.ne_of_lt hlt)).trans h2⟩

theorem new_alloc_drew (w : World) (o : Obj) : New w (w.alloc o).drew := ((Below.refl _ _).alloc (Nat.le_refl _) o).drew

set_option maxHeartbeats 400000 in
set_option maxRecDepth 100000 in
theorem penNumber (w : World) (p : Nat) (g : Option Nat) (l : List UInt8) (n : Int) (size : Nat) (h : Pen w p g (some l)) (hn : 0 ≤ n) (_hn' : n < 18446744073709551616) (hs : size ≤ 8) (hb : l.length + 8 ≤ 140737488355328) :
    Calls Tryd.prog 51 #[.pointer (some ⟨p, 0, none⟩), .int .u64 n, .int .i64 size] w (PenTo w p g (some (l ++ be size n.toNat))) := by
  have hc1 : w.cell? ⟨p, 1, none⟩ = some (.bool false) := by
    obtain ⟨v, out, hp, hown, hg, hl⟩ := h
    rw [cell_of_row w p 1 _ _ _ hp]; rfl
  go_enter Tryd.func51, Tryd.ntmps51
  go_wp2
  go_loopw [6] (fun i wr => ∃ k : Nat, k ≤ size ∧ i = .int .i64 (8 * ((size : Int) - 1) - 8 * k) ∧ PenIn w p g (some (l ++ (be size n.toNat).take k)) wr) (fun i _ => (intOf i + 8).toNat)
  case atStart => exact ⟨0, Nat.zero_le _, by go_num, by simpa using ⟨Only.refl _ _, g, h, .inl rfl⟩⟩
  case round =>
    obtain ⟨k, hk, rfl, hin⟩ := hrel
    by_cases hlt : k < size
    · obtain ⟨ho, g', hpen, hg'⟩ := hin
      obtain ⟨v, out, hc0, _, hfz, _, hlp, hown, hg, hne, HL, HP⟩ := hpen.cells
      have h0 : (0 : Int) ≤ 8 * ((size : Int) - 1) - 8 * k := by omega
      have hlen : out.length ≤ l.length + k := by rw [HL.out _ rfl]; simp; omega
      have HX := Lib.hid (byte_of n size k hn hlt)
      obtain ⟨i0, hi0, hz0, hz1, hz2⟩ := info_parts infoByte
      have HG := Lib.hid hg'
      have HGG := Lib.hid hg
      clear hc1 hpen hg' hg
      go_wp2
      go_region_law
        ((refine step_append_lies _ (by rfl) _ _ _ (by rfl) 0 5 i0 _ 1 1 Tryd.underlying22 hi0 hz0 hz1 hz2 rfl (by omega) v _ _ (by rfl) ((hown.alloc _).drew) ⟨wr.heap.size, 0, none⟩ 1 1 [.int .u8 (IntKind.u8.wrap (n / 2 ^ (8 * ((size : Int) - 1) - 8 * (k : Int)).toNat))] (by rfl) (by rfl) (World.news_of_block (cs := #[.int .u8 (IntKind.u8.wrap (n / 2 ^ (8 * ((size : Int) - 1) - 8 * (k : Int)).toNat))]) (t := 5) (fr := (0, 0)) (heap_alloc_new wr _)) (by simp [Value.oneCell']) (by omega) (by unfold maxLen; omega) (by omega) (by simp) (wr.heap.size + 1) (by simp) ?_; intro gg cap w1 hown1 hgrow hat hglt; obtain ⟨hk0, hk1⟩ := keep2 hgrow (by simp; omega) hne (keepA hlp hc0 hfz)))
      all_goals go_wp2
      all_goals
        go_roundw
        case rel =>
          refine ⟨k + 1, by omega, by go_num, ?_⟩
          rw [be_take _ _ _ hlt, ← List.append_assoc, ← HL.out _ rfl]
          refine penPut (wr := wr) (v := v) ho HP.out HGG.out HG.out (new_alloc_drew _ _) hgrow ?_ ?_ hne
          · rw [HX.out] at hown1; simpa only [List.length_append, List.length_cons, List.length_nil, List.map_append, List.map_cons, List.map_nil, Nat.zero_add] using hown1
          · rcases hat with e | e
            · exact .inl e.symm
            · exact .inr ⟨gg, rfl, by omega⟩
        case measure => simp [intOf]; omega
    · obtain rfl : k = size := by omega
      rw [List.take_of_length_le (by rw [be_length]; exact Nat.le_refl _)] at hin
      go_wp2
      go_end0
      exact ⟨rfl, hin⟩

set_option maxHeartbeats 400000 in
theorem penNumberBad (w : World) (p : Nat) (g : Option Nat) (n size : Int) (h : Pen w p g none) :
    Calls Tryd.prog 51 #[.pointer (some ⟨p, 0, none⟩), .int .u64 n, .int .i64 size] w (PenTo w p g none) := by
  have hc1 : w.cell? ⟨p, 1, none⟩ = some (.bool true) := by
    obtain ⟨v, out, hp, hown, hg, hl⟩ := h
    rw [cell_of_row w p 1 _ _ _ hp]; rfl
  go_enter Tryd.func51, Tryd.ntmps51
  go_wp2
  go_end0
  exact ⟨rfl, Only.refl _ _, g, h, .inl rfl⟩

end Go.Proofs.YtliojldkdmaofaaDoor

namespace Go.Proofs.YtliojldkdmaofaaDoor
set_option linter.unusedVariables false
set_option linter.unusedSimpArgs false
open Go.RowKit

/-- a bounded text -/
def Fit (s : Option (List UInt8)) (k : Nat) : Prop := ∀ l, s = some l → l.length + k ≤ 140737488355328

theorem penNumberAny (w : World) (p : Nat) (g : Option Nat) (s : Option (List UInt8)) (n : Int) (size : Nat) (h : Pen w p g s) (hn : 0 ≤ n) (hn' : n < 18446744073709551616) (hs : size ≤ 8) (hb : Fit s 8) :
    Calls Tryd.prog 51 #[.pointer (some ⟨p, 0, none⟩), .int .u64 n, .int .i64 size] w (PenTo w p g (s.map (· ++ be size n.toNat))) := by
  cases s with
  | none => exact penNumberBad w p g n size h
  | some l => exact penNumber w p g l n size h hn hn' hs (hb l rfl)

/-- a number in a range, or the writer is bad -/
def wU (size : Nat) (n : Int) (s : Option (List UInt8)) : Option (List UInt8) := if 0 ≤ n ∧ n < 256 ^ size then s.map (· ++ be size n.toNat) else none

theorem penFail {w : World} {p : Nat} {g : Option Nat} {s : Option (List UInt8)} (h : Pen w p g s) : PenIn w p g none (w.setCell ⟨p, 1, none⟩ (.bool true)) := by
  obtain ⟨v, out, hp, hown, hg, hl⟩ := h
  exact ⟨(Only.refl _ _).setCell (fun _ => .inl rfl) _, g, ⟨v, out, two_setCell1 hp, ownsRow_setCell_other hown (own_ne hown hp (by decide)) _, hg, (fun l h => by cases h)⟩, .inl rfl⟩

theorem pow_8 (size : Nat) : (256 : Int) ^ size = 2 ^ (8 * size) := by rw [Int.pow_mul]; rfl

set_option maxHeartbeats 400000 in
theorem penRanged (w : World) (p : Nat) (g : Option Nat) (s : Option (List UInt8)) (n : Int) (size : Nat) (h : Pen w p g s) (hn : -9223372036854775808 ≤ n) (hn' : n ≤ 9223372036854775807) (hs : size ≤ 4) (hb : Fit s 8) :
    Calls Tryd.prog 35 #[.pointer (some ⟨p, 0, none⟩), .int .i64 n, .int .i64 size] w (PenTo w p g (wU size n s)) := by
  obtain ⟨v, out, _, hc1, _, hfz, hlp, _, _, _, _, _⟩ := h.cells
  by_cases h0 : n < 0
  · have e : wU size n s = none := by unfold wU; rw [if_neg (by omega)]
    rw [e]
    go_enter Tryd.func35, Tryd.ntmps35
    go_wp2
    go_end0
    exact ⟨rfl, penFail h⟩
  · by_cases h1 : n < 2 ^ (8 * size)
    · have e : wU size n s = s.map (· ++ be size n.toNat) := by unfold wU; rw [if_pos ⟨by omega, by rw [pow_8]; exact h1⟩]
      have hz : (n / 2 ^ (8 * size) != 0) = false := by
        rw [bne_eq_false_iff_eq]
        exact Int.ediv_eq_zero_of_lt (by omega) h1
      rw [e]
      clear h1 e
      go_enter Tryd.func35, Tryd.ntmps35
      go_wp2_with fail
      refine (penNumberAny w p g s n size h (by omega) (by omega) (by omega) hb).mono ?_
      rintro e w' ⟨rfl, hw⟩
      go_wp2
      go_end0
      exact ⟨rfl, hw⟩
    · have e : wU size n s = none := by unfold wU; rw [if_neg (by rw [pow_8]; exact fun hh => h1 hh.2)]
      have hz : (n / 2 ^ (8 * size) != 0) = true := by
        rw [bne_iff_ne]
        intro hh
        have hp : (0 : Int) < 2 ^ (8 * size) := Int.pow_pos (by decide)
        have := Int.lt_ediv_add_one_mul_self n hp
        rw [hh] at this
        omega
      rw [e]
      clear h1 e
      go_enter Tryd.func35, Tryd.ntmps35
      go_wp2
      go_end0
      exact ⟨rfl, penFail h⟩

theorem PenIn.trans {w w1 w2 : World} {p : Nat} {g g1 : Option Nat} {s1 s2 : Option (List UInt8)} (h : Only (fun k => k = p ∨ some k = g) w w1) (hg : g1 = g ∨ ∃ k, g1 = some k ∧ w.heap.size ≤ k) (k : PenIn w1 p g1 s2 w2) (_ : Pen w1 p g1 s1) : PenIn w p g s2 w2 := by
  obtain ⟨ho, g2, hp, hg2⟩ := k
  refine ⟨h.trans ho ?_, g2, hp, ?_⟩
  · rintro i hi (e | e)
    · exact .inl e
    · rcases hg with r | ⟨j, r, hj⟩
      · exact .inr (by rw [← r, e])
      · rw [r] at e; cases e; omega
  · rcases hg2 with r | ⟨j, r, hj⟩
    · rw [r]; exact hg
    · exact .inr ⟨j, r, Nat.le_trans h.size hj⟩

set_option maxHeartbeats 400000 in
theorem penU8 (w : World) (p : Nat) (g : Option Nat) (s : Option (List UInt8)) (n : Int) (h : Pen w p g s) (hn : -9223372036854775808 ≤ n) (hn' : n ≤ 9223372036854775807) (hb : Fit s 8) :
    Calls Tryd.prog 33 #[.pointer (some ⟨p, 0, none⟩), .int .i64 n] w (PenTo w p g (wU 1 n s)) := by
  go_enter Tryd.func33, Tryd.ntmps33
  go_wp2_with fail
  refine (penRanged w p g s n 1 h hn hn' (by omega) hb).mono ?_
  rintro e w' ⟨rfl, hw⟩
  go_wp2
  go_end0
  exact ⟨rfl, hw⟩


set_option maxHeartbeats 400000 in
theorem penU32 (w : World) (p : Nat) (g : Option Nat) (s : Option (List UInt8)) (n : Int) (h : Pen w p g s) (hn : -9223372036854775808 ≤ n) (hn' : n ≤ 9223372036854775807) (hb : Fit s 8) :
    Calls Tryd.prog 18 #[.pointer (some ⟨p, 0, none⟩), .int .i64 n] w (PenTo w p g (wU 4 n s)) := by
  go_enter Tryd.func18, Tryd.ntmps18
  go_wp2_with fail
  refine (penRanged w p g s n 4 h hn hn' (by omega) hb).mono ?_
  rintro e w' ⟨rfl, hw⟩
  go_wp2
  go_end0
  exact ⟨rfl, hw⟩

set_option maxHeartbeats 400000 in
theorem penU64 (w : World) (p : Nat) (g : Option Nat) (s : Option (List UInt8)) (n : Int) (h : Pen w p g s) (hn : 0 ≤ n) (hn' : n < 18446744073709551616) (hb : Fit s 8) :
    Calls Tryd.prog 41 #[.pointer (some ⟨p, 0, none⟩), .int .u64 n] w (PenTo w p g (s.map (· ++ be 8 n.toNat))) := by
  go_enter Tryd.func41, Tryd.ntmps41
  go_wp2_with fail
  refine (penNumberAny w p g s n 8 h hn hn' (by omega) hb).mono ?_
  rintro e w' ⟨rfl, hw⟩
  go_wp2
  go_end0
  exact ⟨rfl, hw⟩

theorem own_slice {w : World} {base : Nat} {e : TypeId} {size : Nat} {v : Value} {n : Nat} {xs : List Value} (h : w.ownsRow base e size v n xs) : ∃ a m c, v = .slice a m c := by
  rcases h.2 with ⟨rfl, _⟩ | ⟨q, cap, cur, rfl, _⟩
  · exact ⟨_, _, _, rfl⟩
  · exact ⟨_, _, _, rfl⟩

set_option maxHeartbeats 400000 in
theorem penRaw (w : World) (p : Nat) (g : Option Nat) (s : Option (List UInt8)) (x : Value) (l : List UInt8) (h : Pen w p g s) (hx : Rd w x l) (hb : Fit s l.length) :
    Calls Tryd.prog 21 #[.pointer (some ⟨p, 0, none⟩), x] w (PenTo w p g (s.map (· ++ l))) := by
  obtain ⟨v, out, hc0, hc1, hfz, _, hlp, hown, hg, hne, HL, HP⟩ := h.cells
  obtain ⟨i0, hi0, hz0, hz1, hz2⟩ := info_parts infoByte
  cases s with
  | none =>
    simp only [Option.isNone_none] at hc1
    go_enter Tryd.func21, Tryd.ntmps21
    go_wp2
    go_end0
    exact ⟨rfl, Only.refl _ _, g, h, .inl rfl⟩
  | some m =>
    obtain rfl := HL.out _ rfl
    simp only [Option.isNone_some] at hc1
    have hb1 := hb _ rfl
    have HG := Lib.hid hg
    clear hg
    go_enter Tryd.func21, Tryd.ntmps21
    go_wp2_with (at_builtin; refine wpList_append_bytes rfl (.tmp 13) (.tmp 14) 22 rfl 0 5 i0 _ Tryd.underlying22 hi0 hz0 hz1 hz2 rfl v _ _ rfl hown x l rfl hx hb1 (Nat.zero_le _) ?_)
    intro v' w1 hown1 hgrow hat
    obtain ⟨hk0, hk1⟩ := keep2 hgrow hlp hne ⟨hc0, hfz⟩
    obtain ⟨av, nv, cv, hv'⟩ := own_slice hown1
    rw [hv']
    go_wp2
    go_end0
    refine ⟨rfl, ?_⟩
    rw [← hv']
    exact penPut (wr := w) (v := v) (Only.refl _ _) HP.out HG.out (.inl rfl) (Below.refl _ _) hgrow (by simpa using hown1) (by rcases hat with e | e; exact .inl e; exact .inr ⟨_, e, Nat.le_refl _⟩) hne

theorem be_one_len (m : Option (List UInt8)) (size : Nat) (n : Int) (k j : Nat) (h : Fit m k) (hj : size + j ≤ k) : Fit (wU size n m) j := by
  intro l hl
  unfold wU at hl
  split at hl
  · cases m with
    | none => cases hl
    | some x => cases hl; have := h x rfl; simp [be_length]; omega
  · cases hl

/-- a text behind its length, or the writer is bad -/
def wText (size : Nat) (l : List UInt8) (s : Option (List UInt8)) : Option (List UInt8) := (wU size l.length s).map (· ++ l)

set_option maxHeartbeats 400000 in
theorem penShort (w : World) (p : Nat) (g : Option Nat) (s : Option (List UInt8)) (x : Value) (l : List UInt8) (h : Pen w p g s) (hx : Rd w x l) (hd : l ≠ [] → blk x ≠ some p ∧ (blk x ≠ none → blk x ≠ g)) (hb : Fit s (l.length + 8)) :
    Calls Tryd.prog 36 #[.pointer (some ⟨p, 0, none⟩), x] w (PenTo w p g (wText 1 l s)) := by
  have hx' := hx
  obtain ⟨a, n, c, rfl, h1, h2, h3, h4, h5⟩ := hx'
  have hn : (n : Int) ≤ 9223372036854775807 := by unfold maxLen at h3; omega
  have HX := Lib.hid hx
  have HN := Lib.hid h1
  clear h1 h5 h4 hx h3
  go_enter Tryd.func36, Tryd.ntmps36
  go_wp2_with fail
  refine (penU8 w p g s n h (by omega) (by omega) (fun m hm => by have := hb m hm; omega)).mono ?_
  rintro e w1 ⟨rfl, ho, g1, hp1, hg1⟩
  have hr1 : Rd w1 (.slice a n c) l := HX.out.only ho (by
    rintro k hk hne (e | e)
    · subst e; exact (hd hne).1 hk
    · exact (hd hne).2 (by rw [hk]; simp) (by rw [hk, e]))
  have HR := Lib.hid hr1
  have HG := Lib.hid hg1
  clear hr1 hg1
  go_wp2_with fail
  refine (penRaw w1 p g1 _ _ l hp1 HR.out (be_one_len s 1 n (l.length + 8) l.length hb (by omega))).mono ?_
  rintro e w2 ⟨rfl, hw⟩
  go_wp2
  go_end0
  refine ⟨rfl, ?_⟩
  have := PenIn.trans ho HG.out hw hp1
  unfold wText
  rw [HN.out]
  exact this


end Go.Proofs.YtliojldkdmaofaaDoor

namespace Go.Proofs.YtliojldkdmaofaaDoor
set_option linter.unusedVariables false
set_option linter.unusedSimpArgs false
open Go.RowKit

set_option maxHeartbeats 400000 in
theorem penNew (w : World) : Calls Tryd.prog 31 #[] w fun e w' => e = .returned (.pointer (some ⟨w.heap.size, 0, none⟩)) ∧ Pen w' w.heap.size none (some []) ∧ New w w' ∧ w'.heap.size = w.heap.size + 1 := by
  go_enter Tryd.func31, Tryd.ntmps31
  go_wp2
  go_ret
  refine ⟨rfl, ⟨.slice none 0 0, [], heap_alloc_new w _, World.ownsRow_nil _ _ _ _, rfl, fun l h => by cases h; rfl⟩, (Below.refl _ _).alloc (Nat.le_refl _) _, by simp⟩

/-- a copy in new memory -/
def Fresh (w : World) (l : List UInt8) (v : Value) (w' : World) : Prop :=
  Rd w' v l ∧ New w w' ∧ (l ≠ [] → w'.ownsRow w.heap.size 5 1 v l.length (l.map bv))

def FreshTo (w : World) (l : List UInt8) (e : Ending) (w' : World) : Prop := ∃ a n c, e = .returned (.slice a n c) ∧ Fresh w l (.slice a n c) w'

set_option maxHeartbeats 400000 in
theorem fresh_any (w : World) (x : Value) (l : List UInt8) (hx : Rd w x l) (hb : l.length ≤ 140737488355328) : Calls Tryd.prog 46 #[x] w (FreshTo w l) := by
  obtain ⟨i0, hi0, hz0, hz1, hz2⟩ := info_parts infoByte
  have hx' := hx
  obtain ⟨a, n, c, rfl, h1, h2, h3, h4, h5⟩ := hx'
  have HX := Lib.hid hx
  clear h1 h5 h4 hx
  unfold maxLen at h3
  go_enter Tryd.func46, Tryd.ntmps46
  go_wp2_with (at_builtin; (refine wpList_append_copy rfl (.tmp 4) (.tmp 5) 22 rfl 5 i0 _ Tryd.underlying22 hi0 hz0 hz1 hz2 rfl _ rfl _ l rfl HX.out hb ?_))
  intro v' w1 hr hn ho
  obtain ⟨av, nv, cv, hv⟩ : ∃ a n c, v' = .slice a n c := by obtain ⟨a, n, c, e, _⟩ := hr; exact ⟨a, n, c, e⟩
  rw [hv] at hr ho ⊢
  have HR := Lib.hid hr
  have HO := Lib.hid ho
  clear hr ho
  go_wp2
  go_ret
  exact ⟨av, nv, cv, rfl, HR.out, hn, HO.out⟩

def BytesTo (w : World) (s : Option (List UInt8)) (e : Ending) (w' : World) : Prop :=
  ∃ a n c, e = .returned (.tuple #[.slice a n c, .bool s.isSome]) ∧ Fresh w (s.getD []) (.slice a n c) w'

set_option maxHeartbeats 400000 in
theorem penBytes (w : World) (p : Nat) (g : Option Nat) (s : Option (List UInt8)) (h : Pen w p g s) (hb : Fit s 0) :
    Calls Tryd.prog 32 #[.pointer (some ⟨p, 0, none⟩)] w (BytesTo w s) := by
  obtain ⟨v, out, hc0, hc1, hfz, _, hlp, hown, hg, hne, HL, HP⟩ := h.cells
  cases s with
  | none =>
    simp only [Option.isNone_none] at hc1
    go_enter Tryd.func32, Tryd.ntmps32
    go_wp2
    go_ret2
    exact ⟨none, 0, 0, rfl, Rd.nil _, Below.refl _ _, fun h => absurd rfl h⟩
  | some m =>
    obtain rfl := HL.out _ rfl
    simp only [Option.isNone_some] at hc1
    have hr := Lib.hid (Rd.of_own hown)
    have hb1 := hb _ rfl
    clear hg
    go_enter Tryd.func32, Tryd.ntmps32
    go_wp2_with fail
    refine (fresh_any w v out hr.out hb1).mono ?_
    rintro e w1 ⟨a, n, c, rfl, hf⟩
    go_wp2
    go_ret2
    exact ⟨a, n, c, rfl, hf⟩

theorem Pen.lt {w : World} {p : Nat} {g : Option Nat} {s : Option (List UInt8)} (h : Pen w p g s) : p < w.heap.size ∧ ∀ k, g = some k → k < w.heap.size := by
  obtain ⟨v, out, hp, hown, hg, hl⟩ := h
  exact ⟨lt_of_block hp, fun k hk => (hown.lt k (by rw [hg]; exact hk)).2⟩

theorem Pen.only {F : Nat → Prop} {w w' : World} {p : Nat} {g : Option Nat} {s : Option (List UInt8)} (h : Pen w p g s) (ho : Only F w w') (hp : ¬ F p) (hg : ∀ k, g = some k → ¬ F k) : Pen w' p g s := by
  have hlt := h.lt
  obtain ⟨v, out, hpb, hown, hgb, hl⟩ := h
  refine ⟨v, out, (ho.block p hlt.1 hp).trans hpb, ⟨hown.1, ?_⟩, hgb, hl⟩
  rcases hown.2 with hn | ⟨q, cap, cur, e1, e2, e3, rest⟩
  · exact .inl hn
  · have hq : g = some q := by rw [← hgb, e1]; rfl
    exact .inr ⟨q, cap, cur, e1, e2, (ho.block q (hlt.2 q hq) (hg q hq)).trans e3, rest⟩

theorem Pen.new {w w' : World} {p : Nat} {g : Option Nat} {s : Option (List UInt8)} (h : Pen w p g s) (ho : New w w') : Pen w' p g s :=
  h.only (New.only (F := fun _ => False) ho) (fun h => h) (fun _ _ h => h)

/-- A writer that was made behind w0: w: the world now. -/
def Pend (w0 : World) (p : Nat) (s : Option (List UInt8)) (w : World) : Prop := New w0 w ∧ w0.heap.size ≤ p ∧ ∃ g, Pen w p g s ∧ ∀ k, g = some k → w0.heap.size ≤ k

theorem Pend.start {w0 w : World} (hp : Pen w w0.heap.size none (some [])) (hn : New w0 w) : Pend w0 w0.heap.size (some []) w := ⟨hn, Nat.le_refl _, none, hp, by simp⟩

theorem Pend.later {w0 w w' : World} {p : Nat} {s : Option (List UInt8)} (h : Pend w0 p s w) (hn : New w w') : Pend w0 p s w' := by
  obtain ⟨h1, h2, g, h3, h4⟩ := h
  exact ⟨New.trans h1 hn, h2, g, h3.new hn, h4⟩

theorem Pend.step {w0 w w' : World} {p : Nat} {g : Option Nat} {s : Option (List UInt8)} (h1 : New w0 w) (h2 : w0.heap.size ≤ p) (h4 : ∀ k, g = some k → w0.heap.size ≤ k) (k : PenIn w p g s w') : Pend w0 p s w' := by
  obtain ⟨ho, g', hp, hg⟩ := k
  refine ⟨Below.trans h1 (ho.below h1.size ?_), h2, g', hp, ?_⟩
  · rintro k (rfl | e)
    · exact h2
    · exact h4 k e.symm
  · rintro k rfl
    rcases hg with e | ⟨j, e, hj⟩
    · exact h4 k e.symm
    · cases e; have := h1.size; omega

/-- bytes that were there before the writer -/
theorem Pend.apart {w0 : World} {p : Nat} {g : Option Nat} {x : Value} {l : List UInt8} (hx : Rd w0 x l) (h2 : w0.heap.size ≤ p) (h4 : ∀ k, g = some k → w0.heap.size ≤ k) : l ≠ [] → blk x ≠ some p ∧ (blk x ≠ none → blk x ≠ g) := by
  intro hne
  refine ⟨fun e => ?_, fun hn e => ?_⟩
  · have := hx.lt e hne; omega
  · cases hb : blk x with
    | none => exact hn hb
    | some k => have := hx.lt hb hne; have := h4 k (by rw [← e, hb]); omega

def PendTo (w0 : World) (p : Nat) (s : Option (List UInt8)) (e : Ending) (w' : World) : Prop := e = .returned (.tuple #[]) ∧ Pend w0 p s w'

theorem pendU8 {w0 w : World} {p : Nat} {s : Option (List UInt8)} (h : Pend w0 p s w) (n : Int) (hn : -9223372036854775808 ≤ n) (hn' : n ≤ 9223372036854775807) (hb : Fit s 8) :
    Calls Tryd.prog 33 #[.pointer (some ⟨p, 0, none⟩), .int .i64 n] w (PendTo w0 p (wU 1 n s)) := by
  obtain ⟨h1, h2, g, h3, h4⟩ := h
  exact (penU8 w p g s n h3 hn hn' hb).mono fun e w' h => ⟨h.1, Pend.step h1 h2 h4 h.2⟩


theorem pendU32 {w0 w : World} {p : Nat} {s : Option (List UInt8)} (h : Pend w0 p s w) (n : Int) (hn : -9223372036854775808 ≤ n) (hn' : n ≤ 9223372036854775807) (hb : Fit s 8) :
    Calls Tryd.prog 18 #[.pointer (some ⟨p, 0, none⟩), .int .i64 n] w (PendTo w0 p (wU 4 n s)) := by
  obtain ⟨h1, h2, g, h3, h4⟩ := h
  exact (penU32 w p g s n h3 hn hn' hb).mono fun e w' h => ⟨h.1, Pend.step h1 h2 h4 h.2⟩

theorem pendU64 {w0 w : World} {p : Nat} {s : Option (List UInt8)} (h : Pend w0 p s w) (n : Int) (hn : 0 ≤ n) (hn' : n < 18446744073709551616) (hb : Fit s 8) :
    Calls Tryd.prog 41 #[.pointer (some ⟨p, 0, none⟩), .int .u64 n] w (PendTo w0 p (s.map (· ++ be 8 n.toNat))) := by
  obtain ⟨h1, h2, g, h3, h4⟩ := h
  exact (penU64 w p g s n h3 hn hn' hb).mono fun e w' h => ⟨h.1, Pend.step h1 h2 h4 h.2⟩

theorem pendRaw {w0 w : World} {p : Nat} {s : Option (List UInt8)} (h : Pend w0 p s w) (x : Value) (l : List UInt8) (hx : Rd w x l) (hb : Fit s l.length) :
    Calls Tryd.prog 21 #[.pointer (some ⟨p, 0, none⟩), x] w (PendTo w0 p (s.map (· ++ l))) := by
  obtain ⟨h1, h2, g, h3, h4⟩ := h
  exact (penRaw w p g s x l h3 hx hb).mono fun e w' h => ⟨h.1, Pend.step h1 h2 h4 h.2⟩

theorem pendShort {w0 w : World} {p : Nat} {s : Option (List UInt8)} (h : Pend w0 p s w) (x : Value) (l : List UInt8) (hx : Rd w0 x l) (hb : Fit s (l.length + 8)) :
    Calls Tryd.prog 36 #[.pointer (some ⟨p, 0, none⟩), x] w (PendTo w0 p (wText 1 l s)) := by
  obtain ⟨h1, h2, g, h3, h4⟩ := h
  exact (penShort w p g s x l h3 (hx.new h1) (Pend.apart hx h2 h4) hb).mono fun e w' h => ⟨h.1, Pend.step h1 h2 h4 h.2⟩


/-- the same of bytes that were made behind v, when the writer was there -/
theorem pendShortNew {w0 v w : World} {p : Nat} {s : Option (List UInt8)} (h : Pend w0 p s v) (hv : New v w) (x : Value) (l : List UInt8) (hx : Rd w x l) (hd : l ≠ [] → ∀ k, blk x = some k → v.heap.size ≤ k) (hb : Fit s (l.length + 8)) :
    Calls Tryd.prog 36 #[.pointer (some ⟨p, 0, none⟩), x] w (PendTo w0 p (wText 1 l s)) := by
  obtain ⟨h1, h2, g, h3, h4⟩ := h
  refine (penShort w p g s x l (h3.new hv) hx (fun hne => ⟨fun e => ?_, fun hn e => ?_⟩) hb).mono fun e w' h => ⟨h.1, Pend.step (New.trans h1 hv) h2 h4 h.2⟩
  · have := hd hne p e; have := h3.lt.1; omega
  · cases hbx : blk x with
    | none => exact hn hbx
    | some k => have := hd hne k hbx; have := h3.lt.2 k (by rw [← e, hbx]); omega


theorem pendBytes {w0 w : World} {p : Nat} {s : Option (List UInt8)} (h : Pend w0 p s w) (hb : Fit s 0) :
    Calls Tryd.prog 32 #[.pointer (some ⟨p, 0, none⟩)] w fun e w' => BytesTo w s e w' ∧ Pend w0 p s w' := by
  have h' := h
  obtain ⟨h1, h2, g, h3, h4⟩ := h'
  exact (penBytes w p g s h3 hb).mono fun e w' hh => ⟨hh, h.later (by obtain ⟨a, n, c, _, hf⟩ := hh; exact hf.2.1)⟩

end Go.Proofs.YtliojldkdmaofaaDoor

namespace Go.Proofs.YtliojldkdmaofaaDoor
set_option linter.unusedVariables false
set_option linter.unusedSimpArgs false
open Go.RowKit

theorem wU_in (size n : Nat) (l : List UInt8) (h : n < 256 ^ size) : wU size n (some l) = some (l ++ be size n) := by
  unfold wU
  rw [if_pos ⟨by omega, by have := Int.ofNat_lt.2 h; rwa [Int.natCast_pow] at this⟩]
  simp

theorem wText_in (size : Nat) (l m : List UInt8) (h : l.length < 256 ^ size) : wText size l (some m) = some (m ++ (be size l.length ++ l)) := by
  unfold wText
  rw [wU_in _ _ _ h]
  simp

end Go.Proofs.YtliojldkdmaofaaDoor
