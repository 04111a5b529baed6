/-
  A disk in memory: its block of four cells, its two rows of bytes, its row of writes.
-/
import Derived.Test.YtmalbfpipdebaaaProg
import Derived.Test.YtmalbfpipdebaaaBase
import Derived.Test.YtmalbfpipdebaaaDskSpec
import Derived.Deep.RegionHeld3
import Derived.Deep.DrawnRows
import Derived.Deep.MidRow
import Derived.Deep.Cut
import Derived.Maps.AppendAt
import Derived.KernelRfl
namespace Go.Proofs.Ytmalbfpipdebaaa
set_option linter.unusedVariables false
set_option linter.unusedSimpArgs false
open Go.RowKit

theorem infoB10 : (Try.prog.info? 5).map (fun i => (i.zero, i.size, i.bytes)) = some (some (.int .u8 0), 1, 1) := by kernel_rfl

/-- block g holds the bytes l from its head on -/
def RowB (w : World) (g : Nat) (l : List UInt8) : Prop := ∃ cs : List Value, w.heap[g]? = some (.cells (l.map bv ++ cs).toArray 5 (0, 0))

theorem RowB.lt {w : World} {g : Nat} {l : List UInt8} (h : RowB w g l) : g < w.heap.size := by obtain ⟨cs, h⟩ := h; exact lt_of_block h

theorem RowB.same {w w' : World} {g : Nat} {l : List UInt8} (h : RowB w g l) (e : w'.heap[g]? = w.heap[g]?) : RowB w' g l := by obtain ⟨cs, h⟩ := h; exact ⟨cs, e.trans h⟩

/-- a row as a slice of all its bytes -/
theorem RowB.rd {w : World} {g : Nat} {l : List UInt8} (h : RowB w g l) {c : Nat} (hl : l.length ≤ c) (hc : c ≤ maxLen) : Rd w (.slice (some ⟨g, 0, none⟩) l.length c) l := by
  obtain ⟨cs, hg⟩ := h
  refine ⟨_, _, _, rfl, rfl, hl, hc, (fun h => by cases h), fun ad had i u hu => ?_⟩
  cases had
  have hi : i < l.length := (List.getElem?_eq_some_iff.1 hu).1
  rw [Addr.add_mid, Nat.zero_add, cell_of_row _ _ _ _ _ _ hg, List.getElem?_toArray, List.getElem?_append_left (by rw [List.length_map]; exact hi), List.getElem?_map, hu]
  rfl

/-- one of its sectors -/
theorem RowB.rdSec {w : World} {g : Nat} {l : List UInt8} (h : RowB w g l) {s c : Nat} (hs : 128 * s + 128 ≤ l.length) (hl : 128 ≤ c) (hc : c ≤ maxLen) : Rd w (.slice (some ⟨g, 128 * s, none⟩) 128 c) (sec l s) := by
  obtain ⟨cs, hg⟩ := h
  refine ⟨_, _, _, rfl, sec_length hs, hl, hc, (fun h => by cases h), fun ad had i u hu => ?_⟩
  cases had
  rw [sec_get] at hu
  split at hu
  · rename_i hi
    rw [Addr.add_mid, cell_of_row _ _ _ _ _ _ hg, List.getElem?_toArray, List.getElem?_append_left (by rw [List.length_map]; omega), List.getElem?_map, hu]
    rfl
  · cases hu

/-- m sectors of it -/
theorem RowB.rdSecs {w : World} {g : Nat} {l : List UInt8} (h : RowB w g l) {s m c : Nat} (hsl : (secs l s m).length = 128 * m) (hs : 128 * s + 128 * m ≤ l.length) (hl : 128 * m ≤ c) (hc : c ≤ maxLen) : Rd w (.slice (some ⟨g, 128 * s, none⟩) (128 * m) c) (secs l s m) := by
  obtain ⟨cs, hg⟩ := h
  refine ⟨_, _, _, rfl, hsl, hl, hc, (fun h => by cases h), fun ad had i u hu => ?_⟩
  cases had
  unfold secs at hu
  rw [List.getElem?_take] at hu
  split at hu
  · rename_i hi
    rw [List.getElem?_drop] at hu
    rw [Addr.add_mid, cell_of_row _ _ _ _ _ _ hg, List.getElem?_toArray, List.getElem?_append_left (by rw [List.length_map]; omega), List.getElem?_map, hu]
    rfl
  · cases hu

/-- copy(b[128*s:128*s+128], x) of 128 bytes -/
theorem run_copy_sec {w : World} {g : Nat} {l b : List UInt8} {s cd cs : Nat} {a : Option Addr} (hg : RowB w g l) (hs : 128 * s + 128 ≤ l.length) (hb : b.length = 128) (hx : Rd w (.slice a 128 cs) b) :
    ∃ w', (Builtin.copy_ #[22, 22] 3 #[.slice (some ⟨g, 128 * s, none⟩) 128 cd, .slice a 128 cs]).run Try.prog w = .ok (.int .i64 128) w' ∧ RowB w' g (lay l s b) ∧ Only (fun k => k = g) w w' := by
  obtain ⟨sp, hg⟩ := hg
  obtain ⟨a', n', c', e, h1, h2, h3, h4, h5⟩ := hx
  cases e
  cases a with
  | none => have := (h4 rfl).1; omega
  | some ad =>
    have hr := run_copy_row (P := Try.prog) w 22 22 3 5 g (128 * s) 128 cd ad 128 cs _ _ (b.map bv) Try.underlying22 (by kernel_rfl) hg (by rw [List.length_map, hb]; rfl)
      (fun j v hj => by
        rw [List.getElem?_map] at hj
        cases hbb : b[j]? with
        | none => rw [hbb] at hj; cases hj
        | some x => rw [hbb] at hj; cases hj; exact h5 ad rfl j x hbb)
      (by simp; omega) (oneCell_bv b)
    rw [List.length_map, hb] at hr
    refine ⟨_, hr, ⟨sp, ?_⟩, ⟨rfl, rfl, rfl, by simp, fun k _ hk => setRow_other w g k _ hk⟩⟩
    rw [setRow_heap _ _ _ _ _ _ hg]
    congr 3
    simp only [List.toList_toArray]
    unfold lay
    rw [List.map_append, List.map_append, List.map_take, List.map_drop, hb, List.take_append_of_le_length (by rw [List.length_map]; omega), List.drop_append_of_le_length (by rw [List.length_map]; omega)]
    simp

/-- copy(b[128*s:128*s+len(x)], x) -/
theorem run_copy_any {w : World} {g : Nat} {l b : List UInt8} {s cd cs m : Nat} {a : Option Addr} (hg : RowB w g l) (hs : 128 * s + m ≤ l.length) (hb : b.length = m) (hm : 0 < m) (hx : Rd w (.slice a m cs) b) :
    ∃ w', (Builtin.copy_ #[22, 22] 3 #[.slice (some ⟨g, 128 * s, none⟩) m cd, .slice a m cs]).run Try.prog w = .ok (.int .i64 (m : Int)) w' ∧ RowB w' g (lay l s b) ∧ Only (fun k => k = g) w w' := by
  obtain ⟨sp, hg⟩ := hg
  obtain ⟨a', n', c', e, h1, h2, h3, h4, h5⟩ := hx
  cases e
  cases a with
  | none => have := (h4 rfl).1; omega
  | some ad =>
    have hr := run_copy_row (P := Try.prog) w 22 22 3 5 g (128 * s) m cd ad m cs _ _ (b.map bv) Try.underlying22 (by kernel_rfl) hg (by rw [List.length_map, hb]; exact (Nat.min_self m).symm)
      (fun j v hj => by
        rw [List.getElem?_map] at hj
        cases hbb : b[j]? with
        | none => rw [hbb] at hj; cases hj
        | some x => rw [hbb] at hj; cases hj; exact h5 ad rfl j x hbb)
      (by simp; omega) (oneCell_bv b)
    rw [List.length_map, hb] at hr
    refine ⟨_, hr, ⟨sp, ?_⟩, ⟨rfl, rfl, rfl, by simp, fun k _ hk => setRow_other w g k _ hk⟩⟩
    rw [setRow_heap _ _ _ _ _ _ hg]
    congr 3
    simp only [List.toList_toArray]
    unfold lay
    rw [List.map_append, List.map_append, List.map_take, List.map_drop, hb, List.take_append_of_le_length (by rw [List.length_map]; omega), List.drop_append_of_le_length (by rw [List.length_map]; omega)]
    simp

/-- sector j of an argument, as a range of cells -/
theorem rd_range {w : World} {gb ob n c : Nat} {b : List UInt8} (h : Rd w (.slice (some ⟨gb, ob, none⟩) n c) b) (j : Nat) : w.rangeAt gb (ob + 128 * j) ((sec b j).map bv) := by
  obtain ⟨a', n', c', e, h1, h2, h3, h4, h5⟩ := h
  cases e
  intro i v hv
  rw [List.getElem?_map, sec_get] at hv
  split at hv
  · cases hb : b[128 * j + i]? with
    | none => rw [hb] at hv; cases hv
    | some x =>
      rw [hb] at hv
      cases hv
      have := h5 _ rfl _ x hb
      rwa [Addr.add_mid, ← Nat.add_assoc] at this
  · cases hv

theorem range_same {w w' : World} {g o : Nat} {cs : List Value} (h : w.rangeAt g o cs) (e : w'.heap[g]? = w.heap[g]?) : w'.rangeAt g o cs := fun j v hv => by
  rw [World.cell?_of_block (w := w) (show w'.heap[g]? = w.heap[g]? from e)]
  exact h j v hv

/-- a write's cells -/
def wcells (p : Wr) : List Value := .int .i64 (p.1 : Int) :: p.2.map bv

theorem wcells_length {p : Wr} (h : p.2.length = 128) : (wcells p).length = 129 := by simp [wcells, h]

theorem wcells_one (p : Wr) : ∀ v ∈ wcells p, v.oneCell' = true := by
  intro v hv
  rcases List.mem_cons.1 hv with rfl | hv
  · rfl
  · exact oneCell_bv _ v hv

def pcells (P : List Wr) : List Value := P.flatMap wcells

theorem pcells_snoc (P : List Wr) (p : Wr) : pcells (P ++ [p]) = pcells P ++ wcells p := by simp [pcells]

theorem pcells_get {P : List Wr} {n : Nat} (hok : OkW n P) : ∀ {j : Nat} {p : Wr}, P[j]? = some p → ∀ i v, (wcells p)[i]? = some v → (pcells P)[j * 129 + i]? = some v := by
  induction P with
  | nil => intro j p h; simp at h
  | cons q P ih =>
    intro j p h i v hv
    have hq := wcells_length (hok q (by simp)).2
    show (wcells q ++ pcells P)[_]? = _
    cases j with
    | zero =>
      cases h
      rw [List.getElem?_append_left (by rw [Nat.zero_mul, Nat.zero_add]; exact (List.getElem?_eq_some_iff.1 hv).1), Nat.zero_mul, Nat.zero_add]
      exact hv
    | succ j =>
      have h' : P[j]? = some p := by simpa using h
      rw [List.getElem?_append_right (by omega), hq, show (j + 1) * 129 + i - 129 = j * 129 + i by omega]
      exact ih (fun q hq => hok q (by simp [hq])) h' i v hv

/-- The disk at block g: rows gd and gl, writes vp. -/
structure Dsk q (w : World) (n g gd gl cd cl : Nat) (vp : Value) (D L : List UInt8) (P : List Wr) : Prop where
  blk : w.heap[g]? = some (.cells #[.slice (some ⟨gd, 0, none⟩) (128 * n) cd, .slice (some ⟨gl, 0, none⟩) (128 * n) cl, vp, .int .i64 q] 46 (0, 0))
  rowD : RowB w gd D
  rowL : RowB w gl L
  lenD : D.length = 128 * n
  lenL : L.length = 128 * n
  capD : 128 * n ≤ cd ∧ cd ≤ maxLen
  capL : 128 * n ≤ cl ∧ cl ≤ maxLen
  pend : w.ownsRow 0 51 129 vp P.length (pcells P)
  ok : OkW n P
  ne : gd ≠ gl
  few : 1 ≤ n ∧ n ≤ 65536
  left : -9223372036854775808 ≤ q ∧ q ≤ 9223372036854775807

theorem own_ne10 {w : World} {base : Nat} {e t : TypeId} {size : Nat} {v : Value} {n : Nat} {xs : List Value} {p : Nat} {c : Array Value} (h : w.ownsRow base e size v n xs) (hp : w.heap[p]? = some (.cells c t (0, 0))) (het : e ≠ t) : Go.Proofs.Ytmalbfpipdebaaa.blk v ≠ some p := by
  intro e'
  rcases h.2 with ⟨rfl, _⟩ | ⟨q, cap, cur, rfl, _, hq, _⟩
  · simp [Go.Proofs.Ytmalbfpipdebaaa.blk] at e'
  · simp [Go.Proofs.Ytmalbfpipdebaaa.blk] at e'; subst e'; rw [hp] at hq; simp at hq; exact het hq.2.symm

section
variable {q : Int} {w : World} {n g gd gl cd cl : Nat} {vp : Value} {D L : List UInt8} {P : List Wr}

theorem Dsk.cells (h : Dsk q w n g gd gl cd cl vp D L P) : w.cell? ⟨g, 0, none⟩ = some (.slice (some ⟨gd, 0, none⟩) (128 * n) cd) ∧ w.cell? ⟨g, 1, none⟩ = some (.slice (some ⟨gl, 0, none⟩) (128 * n) cl) ∧ w.cell? ⟨g, 2, none⟩ = some vp ∧ w.cell? ⟨g, 3, none⟩ = some (.int .i64 q) :=
  ⟨by rw [cell_of_row w g 0 _ _ _ h.blk]; rfl, by rw [cell_of_row w g 1 _ _ _ h.blk]; rfl, by rw [cell_of_row w g 2 _ _ _ h.blk]; rfl, by rw [cell_of_row w g 3 _ _ _ h.blk]; rfl⟩

theorem Dsk.free (h : Dsk q w n g gd gl cd cl vp D L P) (i : Nat) : w.frozen? ⟨g, i, none⟩ = false := frozen_of_row _ _ i _ _ h.blk

/-- nothing of a disk lies in another part of it -/
theorem Dsk.apart (h : Dsk q w n g gd gl cd cl vp D L P) : g ≠ gd ∧ g ≠ gl ∧ Go.Proofs.Ytmalbfpipdebaaa.blk vp ≠ some g ∧ Go.Proofs.Ytmalbfpipdebaaa.blk vp ≠ some gd ∧ Go.Proofs.Ytmalbfpipdebaaa.blk vp ≠ some gl := by
  obtain ⟨c1, h1⟩ := h.rowD
  obtain ⟨c2, h2⟩ := h.rowL
  have hb := h.blk
  refine ⟨?_, ?_, own_ne10 h.pend hb (by decide), own_ne10 h.pend h1 (by decide), own_ne10 h.pend h2 (by decide)⟩
  · rintro rfl; rw [hb] at h1; simp at h1
  · rintro rfl; rw [hb] at h2; simp at h2

theorem own_same {w w' : World} {base : Nat} {e : TypeId} {size : Nat} {v : Value} {n : Nat} {xs : List Value} (h : w.ownsRow base e size v n xs) (hb : ∀ k, Go.Proofs.Ytmalbfpipdebaaa.blk v = some k → k < w.heap.size → w'.heap[k]? = w.heap[k]?) : w'.ownsRow base e size v n xs := by
  refine ⟨h.1, ?_⟩
  rcases h.2 with h0 | ⟨g, cap, cur, rfl, hb1, e3, rest⟩
  · exact .inl h0
  · exact .inr ⟨g, cap, cur, rfl, hb1, (hb g rfl (lt_of_block e3)).trans e3, rest⟩

/-- a disk none of whose blocks was touched -/
theorem Dsk.only {F : Nat → Prop} {w' : World} (h : Dsk q w n g gd gl cd cl vp D L P) (ho : Only F w w') (h1 : ¬ F g) (h2 : ¬ F gd) (h3 : ¬ F gl) (h4 : ∀ k, Go.Proofs.Ytmalbfpipdebaaa.blk vp = some k → ¬ F k) : Dsk q w' n g gd gl cd cl vp D L P :=
  ⟨(ho.block _ (lt_of_block h.blk) h1).trans h.blk, h.rowD.same (ho.block _ h.rowD.lt h2), h.rowL.same (ho.block _ h.rowL.lt h3), h.lenD, h.lenL, h.capD, h.capL,
    own_same h.pend (fun k hk hlt => ho.block _ hlt (h4 k hk)), h.ok, h.ne, h.few, h.left⟩

theorem Dsk.new {w' : World} (h : Dsk q w n g gd gl cd cl vp D L P) (ho : New w w') : Dsk q w' n g gd gl cd cl vp D L P :=
  h.only (ho.only (F := fun _ => False)) (fun f => f) (fun f => f) (fun f => f) (fun _ _ f => f)

theorem Dsk.drew (h : Dsk q w n g gd gl cd cl vp D L P) : Dsk q w.drew n g gd gl cd cl vp D L P := h.new ((Below.refl _ _).drew)

/-- the durable row is another one -/
theorem Dsk.setD {w' : World} {D' : List UInt8} (h : Dsk q w n g gd gl cd cl vp D L P) (ho : Only (fun k => k = gd) w w') (hr : RowB w' gd D') (hl : D'.length = 128 * n) : Dsk q w' n g gd gl cd cl vp D' L P := by
  obtain ⟨h1, h2, h3, h4, h5⟩ := h.apart
  exact ⟨(ho.block _ (lt_of_block h.blk) h1).trans h.blk, hr, h.rowL.same (ho.block _ h.rowL.lt (fun e => h.ne e.symm)), hl, h.lenL, h.capD, h.capL,
    own_same h.pend (fun k hk hlt => ho.block _ hlt (fun e => h4 (by rw [hk, e]))), h.ok, h.ne, h.few, h.left⟩

theorem Dsk.setL {w' : World} {L' : List UInt8} (h : Dsk q w n g gd gl cd cl vp D L P) (ho : Only (fun k => k = gl) w w') (hr : RowB w' gl L') (hl : L'.length = 128 * n) : Dsk q w' n g gd gl cd cl vp D L' P := by
  obtain ⟨h1, h2, h3, h4, h5⟩ := h.apart
  exact ⟨(ho.block _ (lt_of_block h.blk) h2).trans h.blk, h.rowD.same (ho.block _ h.rowD.lt h.ne), hr, h.lenD, hl, h.capD, h.capL,
    own_same h.pend (fun k hk hlt => ho.block _ hlt (fun e => h5 (by rw [hk, e]))), h.ok, h.ne, h.few, h.left⟩

/-- no write waits any more -/
theorem Dsk.setNil (h : Dsk q w n g gd gl cd cl vp D L P) : Dsk q (w.setCell ⟨g, 2, none⟩ (.slice none 0 0)) n g gd gl cd cl (.slice none 0 0) D L [] := by
  obtain ⟨h1, h2, h3, h4, h5⟩ := h.apart
  exact ⟨by rw [heap_setCell_same _ _ _ _ _ _ h.blk]; rfl, h.rowD.same (heap_setCell_other _ _ _ _ (fun e => h1 e.symm)), h.rowL.same (heap_setCell_other _ _ _ _ (fun e => h2 e.symm)), h.lenD, h.lenL, h.capD, h.capL,
    World.ownsRow_nil _ _ _ _, (fun p hp => by simp at hp), h.ne, h.few, h.left⟩

theorem Dsk.setLeft (h : Dsk q w n g gd gl cd cl vp D L P) (r : Int) (hr : -9223372036854775808 ≤ r ∧ r ≤ 9223372036854775807) : Dsk r (w.setCell ⟨g, 3, none⟩ (.int .i64 r)) n g gd gl cd cl vp D L P := by
  obtain ⟨h1, h2, h3, h4, h5⟩ := h.apart
  exact ⟨by rw [heap_setCell_same _ _ _ _ _ _ h.blk]; rfl, h.rowD.same (heap_setCell_other _ _ _ _ (fun e => h1 e.symm)), h.rowL.same (heap_setCell_other _ _ _ _ (fun e => h2 e.symm)), h.lenD, h.lenL, h.capD, h.capL,
    own_same h.pend (fun k hk hlt => heap_setCell_other _ _ _ _ (fun e => h3 (by rw [hk, e]))), h.ok, h.ne, h.few, hr⟩

/-- one write more waits: behind append's world w' -/
theorem Dsk.setPend {w' : World} {vp' : Value} {p : Wr} (h : Dsk q w n g gd gl cd cl vp D L P) (ho : Only (fun k => Go.Proofs.Ytmalbfpipdebaaa.blk vp = some k) w w') (hown : w'.ownsRow 0 51 129 vp' (P.length + 1) (pcells P ++ wcells p))
    (hp : p.1 < n ∧ p.2.length = 128) (hne : Go.Proofs.Ytmalbfpipdebaaa.blk vp' = Go.Proofs.Ytmalbfpipdebaaa.blk vp ∨ ∀ k, Go.Proofs.Ytmalbfpipdebaaa.blk vp' = some k → w.heap.size ≤ k) : Dsk q (w'.setCell ⟨g, 2, none⟩ vp') n g gd gl cd cl vp' D L (P ++ [p]) := by
  obtain ⟨h1, h2, h3, h4, h5⟩ := h.apart
  have hb := (ho.block _ (lt_of_block h.blk) h3).trans h.blk
  have hv : Go.Proofs.Ytmalbfpipdebaaa.blk vp' ≠ some g := by
    rcases hne with e | e
    · rw [e]; exact h3
    · intro e'; have := e _ e'; have := lt_of_block h.blk; omega
  refine ⟨by rw [heap_setCell_same _ _ _ _ _ _ hb]; rfl, ?_, ?_, h.lenD, h.lenL, h.capD, h.capL, ?_, ?_, h.ne, h.few, h.left⟩
  · exact (h.rowD.same (ho.block _ h.rowD.lt h4)).same (heap_setCell_other _ _ _ _ (fun e => h1 e.symm))
  · exact (h.rowL.same (ho.block _ h.rowL.lt h5)).same (heap_setCell_other _ _ _ _ (fun e => h2 e.symm))
  · rw [pcells_snoc, List.length_append, List.length_singleton]
    exact own_same hown (fun k hk hlt => heap_setCell_other _ _ _ _ (fun e => hv (by rw [hk, e])))
  · intro q hq
    rcases List.mem_append.1 hq with hq | hq
    · exact h.ok q hq
    · obtain rfl := List.mem_singleton.1 hq; exact hp

/-- the row of the writes: write j's cells -/
theorem Dsk.at (h : Dsk q w n g gd gl cd cl vp D L P) {j : Nat} {p : Wr} (hj : P[j]? = some p) : ∃ b c, vp = .slice (some ⟨b, 0, none⟩) P.length c ∧ w.rangeAt b (j * 129) (wcells p) := by
  have hlt : j < P.length := (List.getElem?_eq_some_iff.1 hj).1
  rcases h.pend.2 with ⟨-, h0⟩ | ⟨b, cap, cur, e, -, hg, -, -, -, -⟩
  · omega
  · refine ⟨b, cap, e, fun i v hv => ?_⟩
    have := h.pend.cells (g := b) (by rw [e]; rfl) _ v (pcells_get h.ok hj i v hv)
    rwa [Addr.add_mid, Nat.zero_add] at this

theorem Dsk.lenP (h : Dsk q w n g gd gl cd cl vp D L P) : P.length ≤ 9223372036854775807 := by
  rcases h.pend.2 with ⟨e, h0⟩ | ⟨b, cap, cur, e, -, -, h1, h2, -⟩
  · omega
  · unfold maxLen at h2; omega

theorem Dsk.vp_slice (h : Dsk q w n g gd gl cd cl vp D L P) : ∃ a c, vp = .slice a P.length c := by
  rcases h.pend.2 with ⟨e, h0⟩ | ⟨b, cap, cur, e, -⟩
  · exact ⟨none, 0, by rw [e, h0]⟩
  · exact ⟨_, _, e⟩
end

/-- The disk behind the pointer to block g; F: where its blocks may lie. -/
def Dvc (q : Int) (w : World) (n g : Nat) (F : Nat → Prop) (D L : List UInt8) (P : List Wr) : Prop :=
  ∃ gd gl cd cl vp, Dsk q w n g gd gl cd cl vp D L P ∧ F g ∧ F gd ∧ F gl ∧ ∀ k, blk vp = some k → F k

/-- what a call on a disk leaves -/
def DvcTo (q : Int) (w : World) (n g : Nat) (F : Nat → Prop) (D L : List UInt8) (P : List Wr) (w' : World) : Prop :=
  Dvc q w' n g (fun k => F k ∨ w.heap.size ≤ k) D L P ∧ Only F w w'

/-- the same, with no limit of calls -/
abbrev Dev (w : World) (n g : Nat) (F : Nat → Prop) (D L : List UInt8) (P : List Wr) : Prop := Dvc (-1) w n g F D L P
abbrev DevTo (w : World) (n g : Nat) (F : Nat → Prop) (D L : List UInt8) (P : List Wr) (w' : World) : Prop := DvcTo (-1) w n g F D L P w'

section
variable {q : Int} {w : World} {n g : Nat} {F : Nat → Prop} {D L : List UInt8} {P : List Wr}

theorem Dvc.narrow {G : Nat → Prop} (h : Dvc q w n g F D L P) (hG : ∀ k, k < w.heap.size → F k → G k) : Dvc q w n g G D L P := by
  obtain ⟨gd, gl, cd, cl, vp, h0, h1, h2, h3, h4⟩ := h
  refine ⟨gd, gl, cd, cl, vp, h0, hG _ (lt_of_block h0.blk) h1, hG _ h0.rowD.lt h2, hG _ h0.rowL.lt h3, fun k hk => ?_⟩
  rcases h0.pend.2 with ⟨e, -⟩ | ⟨b, cap, cur, e, -, hg, -⟩
  · rw [e] at hk; simp [blk] at hk
  · have hk' := hk
    rw [e] at hk'; simp [blk] at hk'; subst hk'
    exact hG _ (lt_of_block hg) (h4 _ hk)

theorem Dvc.only {G : Nat → Prop} {w' : World} (h : Dvc q w n g F D L P) (ho : Only G w w') (hG : ∀ k, F k → ¬ G k) : Dvc q w' n g F D L P := by
  obtain ⟨gd, gl, cd, cl, vp, h0, h1, h2, h3, h4⟩ := h
  exact ⟨gd, gl, cd, cl, vp, h0.only ho (hG _ h1) (hG _ h2) (hG _ h3) (fun k hk => hG _ (h4 k hk)), h1, h2, h3, h4⟩

theorem Dvc.new {w' : World} (h : Dvc q w n g F D L P) (ho : New w w') : Dvc q w' n g F D L P := by
  obtain ⟨gd, gl, cd, cl, vp, h0, h1⟩ := h
  exact ⟨gd, gl, cd, cl, vp, h0.new ho, h1⟩
end

end Go.Proofs.Ytmalbfpipdebaaa
