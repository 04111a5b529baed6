/-
  sha.right, engrosserref02.right: a word turned right.
  SHA-256 as a plain function over lists: what both the program and the reference compute.
  sha.expanded: the words of a block.
  sha.mixed: the hash after one more block.
  sha.padding, sha.padded.
  sha.padded.
-/
import Derived.Test.YtliojldkdmaofaaDoorProg
import Derived.Test.YtliojldkdmaofaaDoorBase
import Derived.KernelRfl
import Derived.Deep.QuietTactic
import Derived.BigQuiet
import Derived.IntWalk
import Derived.StillTailTactics
import Derived.Laws.Rows
import Derived.Laws.Slices
import Derived.Deep.Cut
import Derived.Laws.CopyOwn
import Derived.Laws.MakeOwn
import Derived.OwnWalk
namespace Go.Proofs.YtliojldkdmaofaaDoor
set_option linter.unusedVariables false
set_option linter.unusedSimpArgs false
open Go.RowKit

theorem and31 (n : Nat) (h1 : 1 ≤ n) (h2 : n ≤ 31) : bits .and .u64 (IntKind.u64.wrap (-(n : Int))) 31 = ((32 - n : Nat) : Int) := by
  have h : n = 1 ∨ n = 2 ∨ n = 3 ∨ n = 4 ∨ n = 5 ∨ n = 6 ∨ n = 7 ∨ n = 8 ∨ n = 9 ∨ n = 10 ∨ n = 11 ∨ n = 12 ∨ n = 13 ∨ n = 14 ∨ n = 15 ∨ n = 16 ∨ n = 17 ∨ n = 18 ∨ n = 19 ∨ n = 20 ∨ n = 21 ∨ n = 22 ∨ n = 23 ∨ n = 24 ∨ n = 25 ∨ n = 26 ∨ n = 27 ∨ n = 28 ∨ n = 29 ∨ n = 30 ∨ n = 31 := by omega
  rcases h with rfl | rfl | rfl | rfl | rfl | rfl | rfl | rfl | rfl | rfl | rfl | rfl | rfl | rfl | rfl | rfl | rfl | rfl | rfl | rfl | rfl | rfl | rfl | rfl | rfl | rfl | rfl | rfl | rfl | rfl | rfl <;> (clear h1 h2; decide)

theorem shl_of (x : UInt32) (m : Nat) (h : m ≤ 32) : IntKind.u32.wrap ((x.toNat : Int) * 2 ^ m) = ((x.toNat * 2 ^ m % 4294967296 : Nat) : Int) := by
  rw [IntKind.wrap_u32', Int.natCast_emod, Int.natCast_mul, Int.natCast_pow]
  rfl

theorem shr_of (x : UInt32) (m : Nat) : (x.toNat : Int) / 2 ^ m = ((x.toNat / 2 ^ m : Nat) : Int) := by
  rw [Int.natCast_ediv, Int.natCast_pow]
  rfl

theorem rot_of (x : UInt32) (n : Nat) : bits .or .u32 ((x.toNat / 2 ^ n : Nat) : Int) ((x.toNat * 2 ^ (32 - n) % 4294967296 : Nat) : Int) = ((rotr x n).toNat : Int) := by
  rw [u32_or_nat _ _ (Nat.lt_of_le_of_lt (Nat.div_le_self _ _) (u32_lt x)) (Nat.mod_lt _ (by decide)), rotr_toNat]

theorem rot_of' (x : UInt32) (n : Nat) : bits .or .u32 ((x.toNat * 2 ^ (32 - n) % 4294967296 : Nat) : Int) ((x.toNat / 2 ^ n : Nat) : Int) = ((rotr x n).toNat : Int) := by
  rw [u32_or_nat _ _ (Nat.mod_lt _ (by decide)) (Nat.lt_of_le_of_lt (Nat.div_le_self _ _) (u32_lt x)), rotr_toNat, Nat.or_comm]

theorem ret_u32 {a b : Int} (h : a = b) : Ending.returned (.int .u32 a) = .returned (.int .u32 b) := by rw [h]

set_option maxHeartbeats 400000 in
theorem rotateLeft32 (w : World) (x : UInt32) (n : Nat) (h1 : 1 ≤ n) (h2 : n ≤ 31) :
    Calls Tryd.prog 58 #[wv x, .int .i64 (-(n : Int))] w fun e w' => e = .returned (wv (rotr x n)) ∧ w = w' := by
  have hb := and31 n h1 h2
  have HR := Lib.hid (rot_of' x n)
  have HN : Hid (n = 32 - (32 - n)) := by show _ = _; omega
  have hm : 32 - n ≤ 31 := by omega
  have hm' : 1 ≤ 32 - n := by omega
  rw [HN.out] at HR
  rw [show 32 - (32 - (32 - n)) = 32 - n by omega] at HR
  generalize 32 - n = m at hb HR hm hm' HN
  go_enter Tryd.func58, Tryd.ntmps58
  go_wp2
  go_ret
  refine ⟨ret_u32 ?_, rfl⟩
  rw [HN.out, ← HR.out, Int.natCast_ediv, Int.natCast_emod, Int.natCast_mul, Int.natCast_pow, Int.natCast_pow]
  rfl

set_option maxHeartbeats 400000 in
theorem shaRight (w : World) (x : UInt32) (n : Nat) (h1 : 1 ≤ n) (h2 : n ≤ 31) :
    Calls Tryd.prog 57 #[wv x, .int .i64 n] w fun e w' => e = .returned (wv (rotr x n)) ∧ w = w' := by
  go_enter Tryd.func57, Tryd.ntmps57
  go_wp2_with fail
  refine (rotateLeft32 w x n h1 h2).mono ?_
  rintro e w' ⟨rfl, rfl⟩
  go_wp2
  go_ret
  exact ⟨rfl, rfl⟩

/-- the same, at an integer -/
theorem shaRightI (w : World) (x : UInt32) (n : Int) (h1 : 1 ≤ n) (h2 : n ≤ 31) :
    Calls Tryd.prog 57 #[wv x, .int .i64 n] w fun e w' => e = .returned (wv (rotr x n.toNat)) ∧ w = w' := by
  have h := shaRight w x n.toNat (by omega) (by omega)
  rwa [Int.toNat_of_nonneg (by omega)] at h

set_option maxHeartbeats 400000 in
theorem refRight (w : World) (x : UInt32) (n : Nat) (h1 : 1 ≤ n) (h2 : n ≤ 31) :
    Calls Tryd.prog 45 #[wv x, .int .i64 n] w fun e w' => e = .returned (wv (rotr x n)) ∧ ∃ k, w' = w.drewN k := by
  have HR := Lib.hid (rot_of x n)
  have h3 : (n : Int) ≤ 32 := by omega
  have h4 : 0 ≤ 32 - (n : Int) := by omega
  have h5 : (32 - (n : Int)).toNat = 32 - n := by omega
  have h6 : (32 - n) ≤ 32 := by omega
  have h7 : IntKind.i64.wrap (32 - (n : Int)) = 32 - (n : Int) := IntWalk.i64_in _ (by omega)
  go_enter Tryd.func45, Tryd.ntmps45
  go_wp2_with fail
  go_quiet (fail)
  go_wp2
  go_ret
  refine ⟨ret_u32 ?_, _, rfl⟩
  rw [← HR.out, Int.natCast_ediv, Int.natCast_emod, Int.natCast_mul, Int.natCast_pow, Int.natCast_pow]
  rfl

/-- the same, at an integer -/
theorem refRightI (w : World) (x : UInt32) (n : Int) (h1 : 1 ≤ n) (h2 : n ≤ 31) :
    Calls Tryd.prog 45 #[wv x, .int .i64 n] w fun e w' => e = .returned (wv (rotr x n.toNat)) ∧ ∃ k, w' = w.drewN k := by
  have h := refRight w x n.toNat (by omega) (by omega)
  rwa [Int.toNat_of_nonneg (by omega)] at h

end Go.Proofs.YtliojldkdmaofaaDoor

namespace Go.Proofs.YtliojldkdmaofaaDoor
set_option linter.unusedVariables false
set_option linter.unusedSimpArgs false

/-- four bytes as a word -/
def word4 (a b c d : UInt8) : UInt32 := UInt32.ofNat (((a.toNat * 16777216 ||| b.toNat * 65536) ||| c.toNat * 256) ||| d.toNat)

def s0 (x : UInt32) : UInt32 := wxor (wxor (rotr x 7) (rotr x 18)) (shr x 3)
def s1 (x : UInt32) : UInt32 := wxor (wxor (rotr x 17) (rotr x 19)) (shr x 10)
def S0 (x : UInt32) : UInt32 := wxor (wxor (rotr x 2) (rotr x 13)) (rotr x 22)
def S1 (x : UInt32) : UInt32 := wxor (wxor (rotr x 6) (rotr x 11)) (rotr x 25)

/-- the first t words of a block -/
def head16 (b : List UInt8) : Nat → List UInt32
  | 0 => []
  | t + 1 => head16 b t ++ [word4 (b.getD (4 * t) 0) (b.getD (4 * t + 1) 0) (b.getD (4 * t + 2) 0) (b.getD (4 * t + 3) 0)]

/-- the word behind ws, which has t + 16 words -/
def nextW (ws : List UInt32) (t : Nat) : UInt32 := wadd (wadd (wadd (s1 (ws.getD (t + 14) 0)) (ws.getD (t + 9) 0)) (s0 (ws.getD (t + 1) 0))) (ws.getD t 0)

/-- the first 16 + t words -/
def ext (b : List UInt8) : Nat → List UInt32
  | 0 => head16 b 16
  | t + 1 => ext b t ++ [nextW (ext b t) t]

theorem head16_succ (b : List UInt8) (t : Nat) : head16 b (t + 1) = head16 b t ++ [word4 (b.getD (4 * t) 0) (b.getD (4 * t + 1) 0) (b.getD (4 * t + 2) 0) (b.getD (4 * t + 3) 0)] := rfl

theorem head16_length (b : List UInt8) (t : Nat) : (head16 b t).length = t := by
  induction t with
  | zero => rfl
  | succ t ih => simp [head16, ih]

theorem ext_length (b : List UInt8) (t : Nat) : (ext b t).length = 16 + t := by
  induction t with
  | zero => exact head16_length b 16
  | succ t ih => simp [ext, ih]; omega

/-- eight words -/
structure H8 where
  a : UInt32
  b : UInt32
  c : UInt32
  d : UInt32
  e : UInt32
  f : UInt32
  g : UInt32
  h : UInt32

def H8.t1 (s : H8) (k w : UInt32) : UInt32 := wadd (wadd (wadd (wadd s.h (S1 s.e)) (wxor (wand s.e s.f) (wand (wnot s.e) s.g))) k) w
def H8.t2 (s : H8) : UInt32 := wadd (S0 s.a) (wxor (wxor (wand s.a s.b) (wand s.a s.c)) (wand s.b s.c))

def H8.rnd (s : H8) (k w : UInt32) : H8 := ⟨wadd (s.t1 k w) s.t2, s.a, s.b, s.c, wadd s.d (s.t1 k w), s.e, s.f, s.g⟩

def H8.add (s t : H8) : H8 := ⟨wadd s.a t.a, wadd s.b t.b, wadd s.c t.c, wadd s.d t.d, wadd s.e t.e, wadd s.f t.f, wadd s.g t.g, wadd s.h t.h⟩

def H8.list (s : H8) : List UInt32 := [s.a, s.b, s.c, s.d, s.e, s.f, s.g, s.h]

def kTab : List UInt32 := [1116352408, 1899447441, 3049323471, 3921009573, 961987163, 1508970993, 2453635748, 2870763221, 3624381080, 310598401, 607225278, 1426881987, 1925078388, 2162078206, 2614888103, 3248222580, 3835390401, 4022224774, 264347078, 604807628, 770255983, 1249150122, 1555081692, 1996064986, 2554220882, 2821834349, 2952996808, 3210313671, 3336571891, 3584528711, 113926993, 338241895, 666307205, 773529912, 1294757372, 1396182291, 1695183700, 1986661051, 2177026350, 2456956037, 2730485921, 2820302411, 3259730800, 3345764771, 3516065817, 3600352804, 4094571909, 275423344, 430227734, 506948616, 659060556, 883997877, 958139571, 1322822218, 1537002063, 1747873779, 1955562222, 2024104815, 2227730452, 2361852424, 2428436474, 2756734187, 3204031479, 3329325298]

def h0 : H8 := ⟨1779033703, 3144134277, 1013904242, 2773480762, 1359893119, 2600822924, 528734635, 1541459225⟩

/-- behind n rounds -/
def H8.rounds (s : H8) (ws : List UInt32) : Nat → H8
  | 0 => s
  | n + 1 => (s.rounds ws n).rnd (kTab.getD n 0) (ws.getD n 0)

/-- behind one more block -/
def H8.mix (s : H8) (b : List UInt8) : H8 := s.add (s.rounds (ext b 48) 64)

/-- the block number k -/
def chunk (l : List UInt8) (k : Nat) : List UInt8 := (l.drop (64 * k)).take 64

/-- the hash behind k blocks -/
def hashTo (l : List UInt8) : Nat → H8
  | 0 => h0
  | k + 1 => (hashTo l k).mix (chunk l k)

theorem hashTo_succ (l : List UInt8) (k : Nat) : hashTo l (k + 1) = (hashTo l k).add ((hashTo l k).rounds (ext (chunk l k) 48) 64) := rfl

/-- a word's bytes -/
def wbytes (x : UInt32) : List UInt8 := [UInt8.ofNat (x.toNat / 16777216), UInt8.ofNat (x.toNat / 65536), UInt8.ofNat (x.toNat / 256), UInt8.ofNat x.toNat]

/-- words' bytes -/
def wsbytes (ws : List UInt32) : List UInt8 := ws.flatMap wbytes

def be64 (n : Nat) : List UInt8 := [UInt8.ofNat (n / 2 ^ 56), UInt8.ofNat (n / 2 ^ 48), UInt8.ofNat (n / 2 ^ 40), UInt8.ofNat (n / 2 ^ 32), UInt8.ofNat (n / 2 ^ 24), UInt8.ofNat (n / 2 ^ 16), UInt8.ofNat (n / 2 ^ 8), UInt8.ofNat n]

/-- what follows n bytes -/
def padOf (n : Nat) : List UInt8 := 128 :: List.replicate (63 - (n + 8) % 64) 0 ++ be64 (8 * n)

def sha256 (l : List UInt8) : List UInt8 := wsbytes (hashTo (l ++ padOf l.length) ((l ++ padOf l.length).length / 64)).list

theorem wsbytes_length (ws : List UInt32) : (wsbytes ws).length = 4 * ws.length := by
  induction ws with
  | nil => rfl
  | cons x r ih => simp [wsbytes, wbytes] at ih ⊢; omega

theorem sha256_length (l : List UInt8) : (sha256 l).length = 32 := by
  unfold sha256; rw [wsbytes_length]; rfl

theorem padOf_length (n : Nat) : (padOf n).length = 72 - (n + 8) % 64 := by
  unfold padOf; simp [be64]; omega

theorem padded_mod (l : List UInt8) : (l ++ padOf l.length).length % 64 = 0 := by
  rw [List.length_append, padOf_length]; omega

theorem chunk_length (l : List UInt8) (k : Nat) (h : 64 * k + 64 ≤ l.length) : (chunk l k).length = 64 := by
  unfold chunk; simp; omega

theorem chunk_getD (l : List UInt8) (k i : Nat) (hi : i < 64) : (chunk l k).getD i 0 = l.getD (64 * k + i) 0 := by
  unfold chunk
  simp only [List.getD_eq_getElem?_getD, List.getElem?_take, List.getElem?_drop, if_pos hi]

/-- the document's example -/
theorem sha256_abc : sha256 [97, 98, 99] = [186, 120, 22, 191, 143, 1, 207, 234, 65, 65, 64, 222, 93, 174, 34, 35, 176, 3, 97, 163, 150, 23, 122, 156, 180, 16, 255, 97, 242, 0, 21, 173] := by
  decide +kernel

end Go.Proofs.YtliojldkdmaofaaDoor

namespace Go.Proofs.YtliojldkdmaofaaDoor
set_option linter.unusedVariables false
set_option linter.unusedSimpArgs false
open Go.RowKit

/-- 64 words, of which the first are ws, as cells -/
def row64 (ws : List UInt32) : Array Value := ((ws ++ List.replicate (64 - ws.length) 0).map wv).toArray

theorem row64_get (ws : List UInt32) (i : Nat) (h : i < ws.length) : (row64 ws)[i]? = some (wv (ws.getD i 0)) := by
  unfold row64
  rw [List.getElem?_toArray, List.getElem?_map, List.getElem?_append_left h, List.getD_eq_getElem?_getD, List.getElem?_eq_getElem h]
  rfl

theorem row64_set (ws : List UInt32) (x : UInt32) (h : ws.length < 64) : (row64 ws).setIfInBounds ws.length (wv x) = row64 (ws ++ [x]) := by
  unfold row64
  obtain ⟨m, hm⟩ : ∃ m, 64 - ws.length = m + 1 := ⟨63 - ws.length, by omega⟩
  rw [hm, show 64 - (ws ++ [x]).length = m by simp; omega]
  simp [List.replicate_succ, List.map_append, List.set_append]

theorem row64_full (ws : List UInt32) (h : ws.length = 64) : row64 ws = (ws.map wv).toArray := by
  unfold row64; rw [h]; simp

theorem arr64 : Tryd.prog.underlying 75 = some (.array (Tryd.prog.arrayLen 75) (Tryd.prog.elem 75)) := by kernel_rfl
theorem arr64_len : Tryd.prog.arrayLen 75 = 64 := by kernel_rfl
theorem arr64_size (w : World) : (sizeOf (Tryd.prog.elem 75)).run Tryd.prog w = .ok 1 w := by kernel_rfl

/-- block[l:h] of an array behind a pointer -/
theorem run_slice64 (wx : World) (p l h : Nat) (hl : l ≤ h) (hh : h ≤ 64) (hl' : l < 64) :
    (Instr.sliceAt 75 (.pointer (some ⟨p, 0, none⟩)) (some (.int .i64 (l : Int))) (some (.int .i64 (h : Int))) none).run Tryd.prog wx = .ok (.slice (some ⟨p, l, none⟩) (h - l) (64 - l)) wx := by
  rw [run_sliceAt_array_lh wx _ _ arr64 .i64 .i64 _ _ (by omega) (by omega) (by rw [arr64_len]; omega), arr64_size, arr64_len]
  simp only [Result.andThen_ok, slicedAt, Int.toNat_natCast, Nat.mul_one]
  rw [if_neg (by omega), Addr.add_lit, Nat.zero_add]

theorem row64_zero (ws : List UInt32) (i : Nat) (h : ws.length ≤ i) (h' : i < 64) : (row64 ws)[i]? = some (wv 0) := by
  unfold row64
  rw [List.getElem?_toArray, List.getElem?_map, List.getElem?_append_right h, List.getElem?_replicate, if_pos (by omega)]
  rfl

structure ExpIn (w : World) (b : List UInt8) (ws : List UInt32) (wr : World) : Prop where
  blk : wr.heap[w.heap.size]? = some (.cells (b.map bv).toArray 75)
  res : wr.heap[w.heap.size + 1]? = some (.cells (row64 []) 77)
  words : wr.heap[w.heap.size + 1 + 1]? = some (.cells (row64 ws) 77)
  new : New w wr

theorem ExpIn.drew {w : World} {b : List UInt8} {ws : List UInt32} {wr : World} (h : ExpIn w b ws wr) : ExpIn w b ws wr.drew := ⟨h.blk, h.res, h.words, h.new.drew⟩

theorem ExpIn.drewN {w : World} {b : List UInt8} {ws : List UInt32} {wr : World} {n : Nat} (h : ExpIn w b ws wr) : ExpIn w b ws (wr.drewN n) := by
  exact ⟨h.blk, h.res, h.words, below_drewN h.new n⟩

theorem ExpIn.put {w : World} {b : List UInt8} {ws : List UInt32} {wr : World} (h : ExpIn w b ws wr) {x : UInt32} {t : Nat} (ht : ws.length = t) (hlt : t < 64) : ExpIn w b (ws ++ [x]) (wr.setCell ⟨w.heap.size + 1 + 1, t, none⟩ (wv x)) := by
  subst ht
  refine ⟨?_, ?_, ?_, ?_⟩
  · rw [heap_setCell_other _ _ _ _ (by show _ ≠ w.heap.size + 1 + 1; omega)]; exact h.blk
  · rw [heap_setCell_other _ _ _ _ (by show _ ≠ w.heap.size + 1 + 1; omega)]; exact h.res
  · rw [heap_setCell_same _ _ _ _ _ _ h.words, row64_set _ _ hlt]
  · exact h.new.setCell (by show w.heap.size ≤ w.heap.size + 1 + 1; omega) _

theorem ExpIn.cell {w : World} {b : List UInt8} {ws : List UInt32} {wr : World} (h : ExpIn w b ws wr) {i : Nat} (hi : i < ws.length) : wr.cell? ⟨w.heap.size + 1 + 1, i, none⟩ = some (wv (ws.getD i 0)) := by
  rw [cell_of_row _ _ _ _ _ _ h.words]
  exact row64_get ws i hi

theorem allOne (ws : List UInt32) : ((ws.map wv).toArray).all (·.oneCell') = true := by
  simp [Value.oneCell']

theorem u8_u32 (x : UInt8) : IntKind.u32.wrap (x.toNat : Int) = (x.toNat : Int) := by
  rw [IntKind.wrap_u32']; have := x.toNat_lt; omega

theorem u8_shl (x : UInt8) (m : Nat) (h : m ≤ 16777216) : IntKind.u32.wrap ((x.toNat : Int) * (m : Int)) = ((x.toNat * m : Nat) : Int) := by
  rw [IntKind.wrap_u32', ← Int.natCast_mul]
  have h1 := x.toNat_lt
  have h2 : x.toNat * m ≤ 255 * 16777216 := Nat.mul_le_mul (by omega) h
  omega

theorem word4_of (a b c d : UInt8) : bits .or .u32 (bits .or .u32 (bits .or .u32 (IntKind.u32.wrap (IntKind.u32.wrap (a.toNat : Int) * 16777216)) (IntKind.u32.wrap (IntKind.u32.wrap (b.toNat : Int) * 65536))) (IntKind.u32.wrap (IntKind.u32.wrap (c.toNat : Int) * 256))) (IntKind.u32.wrap (d.toNat : Int)) = ((word4 a b c d).toNat : Int) := by
  have ha := a.toNat_lt
  have hb := b.toNat_lt
  have hc := c.toNat_lt
  have hd := d.toNat_lt
  rw [u8_u32, u8_u32, u8_u32, u8_u32]
  rw [show (16777216 : Int) = ((16777216 : Nat) : Int) from rfl, show (65536 : Int) = ((65536 : Nat) : Int) from rfl, show (256 : Int) = ((256 : Nat) : Int) from rfl]
  rw [u8_shl a _ (by decide), u8_shl b _ (by decide), u8_shl c _ (by decide)]
  have l1 : a.toNat * 16777216 ||| b.toNat * 65536 < 2 ^ 32 := Nat.or_lt_two_pow (by omega) (by omega)
  have l2 : (a.toNat * 16777216 ||| b.toNat * 65536) ||| c.toNat * 256 < 2 ^ 32 := Nat.or_lt_two_pow l1 (by omega)
  have l3 : ((a.toNat * 16777216 ||| b.toNat * 65536) ||| c.toNat * 256) ||| d.toNat < 2 ^ 32 := Nat.or_lt_two_pow l2 (by omega)
  rw [u32_or_nat _ _ (by omega) (by omega), u32_or_nat _ _ (by omega) (by omega), u32_or_nat _ _ (by omega) (by omega)]
  unfold word4
  rw [UInt32.toNat_ofNat_of_lt' l3]

theorem word4_of' (a b c d : UInt8) : bits .or .u32 (bits .or .u32 (bits .or .u32 ((a.toNat : Int) % 4294967296 * 16777216 % 4294967296) ((b.toNat : Int) % 4294967296 * 65536 % 4294967296)) ((c.toNat : Int) % 4294967296 * 256 % 4294967296)) ((d.toNat : Int) % 4294967296) = ((word4 a b c d).toNat : Int) := by
  have h := word4_of a b c d
  simpa only [IntKind.wrap_u32'] using h

attribute [local go_sem] u32_bxor u32_add u32_add' shr3_of shr10_of

set_option maxRecDepth 100000 in
set_option maxHeartbeats 400000 in
theorem shaExpanded (w : World) (b : List UInt8) (hb : Hid (b.length = 64)) :
    Calls Tryd.prog 50 #[.agg (b.map bv).toArray] w fun e w' => e = .returned (.agg ((ext b 48).map wv).toArray) ∧ New w w' := by
  go_enter Tryd.func50, Tryd.ntmps50
  go_wp2
  go_loopw [11] (fun i wr => ∃ t : Nat, t ≤ 16 ∧ i = .int .i64 t ∧ ExpIn w b (head16 b t) wr) (fun i _ => 16 - (intOf i).toNat)
  case atStart =>
    refine ⟨0, by omega, rfl, ⟨?_, ?_, ?_, ?_⟩⟩
    · exact alloc3_0 _ _ _ _
    · exact alloc3_1 _ _ _ _
    · exact alloc3_2 _ _ _ _
    · exact (((Below.refl _ _).alloc (Nat.le_refl _) _).alloc (by simp) _).alloc (by simp; omega) _
  case round =>
    obtain ⟨t, ht, rfl, hin⟩ := hrel
    by_cases hlt : t < 16
    · have hsl := fun wx => run_slice64 wx w.heap.size (4 * t) (4 * t + 4) (by omega) (by omega) (by omega)
      rw [show ((4 * t : Nat) : Int) = 4 * (t : Int) by omega, show ((4 * t + 4 : Nat) : Int) = 4 * (t : Int) + 4 by omega, show 4 * t + 4 - 4 * t = 4 by omega] at hsl
      have hl : t ≤ (head16 b t).length := by rw [head16_length]; exact Nat.le_refl _
      have hc0 : wr.cell? ⟨w.heap.size, 4 * t, none⟩ = some (bv (b.getD (4 * t) 0)) := byte_cell hin.blk (by rw [hb.out]; omega)
      have hc1 : wr.cell? ⟨w.heap.size, 4 * t + 1, none⟩ = some (bv (b.getD (4 * t + 1) 0)) := byte_cell hin.blk (by rw [hb.out]; omega)
      have hc2 : wr.cell? ⟨w.heap.size, 4 * t + 2, none⟩ = some (bv (b.getD (4 * t + 2) 0)) := byte_cell hin.blk (by rw [hb.out]; omega)
      have hc3 : wr.cell? ⟨w.heap.size, 4 * t + 3, none⟩ = some (bv (b.getD (4 * t + 3) 0)) := byte_cell hin.blk (by rw [hb.out]; omega)
      have hfz := frozen_of_row wr (w.heap.size + 1 + 1) t _ _ hin.words
      have hcw : wr.cell? ⟨w.heap.size + 1 + 1, t, none⟩ = some (wv 0) := by
        rw [cell_of_row _ _ _ _ _ _ hin.words]
        exact row64_zero _ _ (by rw [head16_length]; exact Nat.le_refl _) (by omega)
      obtain ⟨x0, HX0⟩ : ∃ x, Hid (b.getD (4 * t) 0 = x) := ⟨_, rfl⟩
      rw [HX0.out] at hc0
      obtain ⟨x1, HX1⟩ : ∃ x, Hid (b.getD (4 * t + 1) 0 = x) := ⟨_, rfl⟩
      rw [HX1.out] at hc1
      obtain ⟨x2, HX2⟩ : ∃ x, Hid (b.getD (4 * t + 2) 0 = x) := ⟨_, rfl⟩
      rw [HX2.out] at hc2
      obtain ⟨x3, HX3⟩ : ∃ x, Hid (b.getD (4 * t + 3) 0 = x) := ⟨_, rfl⟩
      rw [HX3.out] at hc3
      have h64 : (t : Int) < 64 := by omega
      go_wp2
      refine wp_region_still_tail 24 (by kernel_rfl) (by kernel_rfl) ?_
      simp only [List.take_succ_cons, List.take_zero, List.drop_succ_cons, List.drop_zero]
      change wpStill _ _ wr.drew (fun a' => wpList _ _ _ _ a' wr.drew) _ _
      obtain ⟨wd, hwd⟩ : ∃ wd, wr.drew = wd := ⟨_, rfl⟩
      have hd0 : wd.cell? ⟨w.heap.size, 4 * t, none⟩ = some (bv x0) := by rw [← hwd]; exact hc0
      have hd1 : wd.cell? ⟨w.heap.size, 4 * t + 1, none⟩ = some (bv x1) := by rw [← hwd]; exact hc1
      have hd2 : wd.cell? ⟨w.heap.size, 4 * t + 2, none⟩ = some (bv x2) := by rw [← hwd]; exact hc2
      have hd3 : wd.cell? ⟨w.heap.size, 4 * t + 3, none⟩ = some (bv x3) := by rw [← hwd]; exact hc3
      have hdf : wd.frozen? ⟨w.heap.size + 1 + 1, t, none⟩ = false := by rw [← hwd]; exact hfz
      have hdw : wd.cell? ⟨w.heap.size + 1 + 1, t, none⟩ = some (wv 0) := by rw [← hwd]; exact hcw
      have hde : ExpIn w b (head16 b t) wd := by rw [← hwd]; exact hin.drew
      rw [hwd]
      clear hc0 hc1 hc2 hc3 hfz hcw hin hwd
      repeat still_step
      refine wpStill_nil ?_
      go_wp2
      go_roundw
      case rel =>
        refine ⟨t + 1, by omega, by go_num, ?_⟩
        rw [word4_of']
        unfold head16
        rw [HX0.out, HX1.out, HX2.out, HX3.out]
        exact hde.put (head16_length b t) (by omega)
      case measure => simp [intOf]; omega
    · obtain rfl : t = 16 := by omega
      rw [show ((16 : Nat) : Int) = 16 from rfl]
      go_wp2
      go_loopw [6] (fun i wr => ∃ t : Nat, 16 ≤ t ∧ t ≤ 64 ∧ i = .int .i64 t ∧ ExpIn w b (ext b (t - 16)) wr) (fun i _ => 64 - (intOf i).toNat)
      case atStart => exact ⟨16, by omega, by omega, rfl, hin⟩
      case round =>
        clear hin hlt ht
        obtain ⟨t, h16, ht, rfl, hin⟩ := hrel
        by_cases hlt : t < 64
        · have hl := ext_length b (t - 16)
          have hc15 : wr.cell? ⟨w.heap.size + 1 + 1, t - 15, none⟩ = some (wv ((ext b (t - 16)).getD (t - 15) 0)) := hin.cell (by omega)
          have hc2 : wr.cell? ⟨w.heap.size + 1 + 1, t - 2, none⟩ = some (wv ((ext b (t - 16)).getD (t - 2) 0)) := hin.cell (by omega)
          have hc7 : wr.cell? ⟨w.heap.size + 1 + 1, t - 7, none⟩ = some (wv ((ext b (t - 16)).getD (t - 7) 0)) := hin.cell (by omega)
          have hc16 : wr.cell? ⟨w.heap.size + 1 + 1, t - 16, none⟩ = some (wv ((ext b (t - 16)).getD (t - 16) 0)) := hin.cell (by omega)
          clear hl
          obtain ⟨x15, HX15⟩ : ∃ x, Hid ((ext b (t - 16)).getD (t - 15) 0 = x) := ⟨_, rfl⟩
          rw [HX15.out] at hc15
          obtain ⟨x2, HX2⟩ : ∃ x, Hid ((ext b (t - 16)).getD (t - 2) 0 = x) := ⟨_, rfl⟩
          rw [HX2.out] at hc2
          obtain ⟨x7, HX7⟩ : ∃ x, Hid ((ext b (t - 16)).getD (t - 7) 0 = x) := ⟨_, rfl⟩
          rw [HX7.out] at hc7
          obtain ⟨x16, HX16⟩ : ∃ x, Hid ((ext b (t - 16)).getD (t - 16) 0 = x) := ⟨_, rfl⟩
          rw [HX16.out] at hc16
          have hlt64 : (t : Int) < 64 := by omega
          go_wp2
          go_quiet (fail)
          go_wp2_with (go_at_call 57; refine (shaRightI _ _ _ (by decide) (by decide)).mono ?_; rintro e w' ⟨rfl, rfl⟩)
          refine wp_region_still_tail 15 (by kernel_rfl) (by kernel_rfl) ?_
          simp only [List.take_succ_cons, List.take_zero, List.drop_succ_cons, List.drop_zero]
          change wpStill _ _ (wr.drewN nq).drew (fun a' => wpList _ _ _ _ a' (wr.drewN nq).drew) _ _
          have hdc7 : (wr.drewN nq).drew.cell? ⟨w.heap.size + 1 + 1, t - 7, none⟩ = some (wv x7) := hc7
          have hdc16 : (wr.drewN nq).drew.cell? ⟨w.heap.size + 1 + 1, t - 16, none⟩ = some (wv x16) := hc16
          have hde : ExpIn w b (ext b (t - 16)) (wr.drewN nq).drew := hin.drewN.drew
          generalize (wr.drewN nq).drew = wd at hdc7 hdc16 hde
          clear hc15 hc2 hc7 hc16 hin
          have hdf : wd.frozen? ⟨w.heap.size + 1 + 1, t, none⟩ = false := frozen_of_row _ _ _ _ _ hde.words
          have hdw : wd.cell? ⟨w.heap.size + 1 + 1, t, none⟩ = some (wv 0) := by
            rw [cell_of_row _ _ _ _ _ _ hde.words]
            exact row64_zero _ _ (by rw [ext_length]; omega) (by omega)
          have i1 : IntKind.i64.wrap ((t : Int) - 7) = (t : Int) - 7 := IntWalk.i64_in _ (by omega)
          have i2 : IntKind.i64.wrap ((t : Int) - 16) = (t : Int) - 16 := IntWalk.i64_in _ (by omega)
          have i3 : 0 ≤ (t : Int) - 7 := by omega
          have i4 : 0 ≤ (t : Int) - 16 := by omega
          have i5 : ((t : Int) - 7).toNat = t - 7 := by omega
          have i6 : ((t : Int) - 16).toNat = t - 16 := by omega
          have i7 : (t : Int) - 7 < 64 := by omega
          have i8 : (t : Int) - 16 < 64 := by omega
          have j3 : 7 ≤ (t : Int) := by omega
          have j4 : 16 ≤ (t : Int) := by omega
          have j7 : (t : Int) < 64 + 7 := by omega
          have j8 : (t : Int) < 64 + 16 := by omega
          repeat still_step
          refine wpStill_nil ?_
          clear i1 i2 i3 i4 i5 i6 i7 i8 j3 j4 j7 j8
          go_wp2
          go_roundw
          case rel =>
            refine ⟨t + 1, by omega, by omega, by go_num, ?_⟩
            rw [show t + 1 - 16 = t - 16 + 1 by omega]
            unfold ext nextW s0 s1
            rw [show t - 16 + 14 = t - 2 by omega, show t - 16 + 9 = t - 7 by omega, show t - 16 + 1 = t - 15 by omega, HX15.out, HX2.out, HX7.out, HX16.out]
            exact hde.put (by rw [ext_length]; omega) (by omega)
          case measure => simp [intOf]; omega
        · obtain rfl : t = 64 := by omega
          have hw := hin.words
          rw [row64_full _ (by rw [ext_length])] at hw
          have hlen : ((ext b 48).map wv).toArray.size = 64 := by simp [ext_length]
          have HN := Lib.hid hin.new
          have HR := Lib.hid hin.res
          clear hin
          go_upto_region 15 with fail
          refine wp_region_lit ?_
          refine wpList_load_row rfl 77 _ rfl (w.heap.size + 1 + 1) rfl _ _ _ _ hw Tryd.underlying77 rfl (by rw [hlen]; kernel_rfl) ?_
          refine wpList_store_row rfl 77 _ _ rfl (w.heap.size + 1) ((ext b 48).map wv).toArray rfl rfl _ _ HR.out (by rw [hlen]; kernel_rfl) (by rw [hlen]; rfl) (allOne _) ?_
          go_wp2
          refine bodyPost_ret (v := .agg ((ext b 48).map wv).toArray) (results_cell_row rfl _ _ (w.heap.size + 1) _ _ _ _ rfl (setRow_heap _ _ _ _ _ _ HR.out) Tryd.underlying77 rfl (by rw [hlen]; kernel_rfl)) rfl ⟨rfl, ?_⟩
          exact below_setRow HN.out (by show w.heap.size ≤ w.heap.size + 1; omega) _

end Go.Proofs.YtliojldkdmaofaaDoor

namespace Go.Proofs.YtliojldkdmaofaaDoor
set_option linter.unusedVariables false
set_option linter.unusedSimpArgs false
open Go.RowKit

attribute [local go_sem] u32_bxor u32_band u32_bnot u32_add u32_add' shr3_of shr10_of

def hagg (s : H8) : Value := .agg (s.list.map wv).toArray

/-- the table of constants lies where the program laid it -/
def KTab (w : World) : Prop := ∀ i, i < 64 → w.cell? ⟨1, i, none⟩ = some (wv (kTab.getD i 0))

theorem KTab.new {w w' : World} (h : KTab w) (hn : New w w') : KTab w' := fun i hi => by
  have h1 := h i hi
  exact (hn.cell (p := ⟨1, i, none⟩) (World.block_lt_of_cell? w _ h1)).trans h1

/-- arr[t] of an array value of 64 words -/
theorem run_index64 (ws : List UInt32) (hw : ws.length = 64) (t : Nat) (ht : t < 64) (wx : World) :
    (Instr.index 77 (.agg (ws.map wv).toArray) (.int .i64 (t : Int))).run Tryd.prog wx = .ok (wv (ws.getD t 0)) wx := by
  have hu : Tryd.prog.underlying 77 = some (.array 64 62) := by kernel_rfl
  have hs : (sizeOf 62).run Tryd.prog wx = .ok 1 wx := by kernel_rfl
  have ha : (isAgg 62).run Tryd.prog wx = .ok false wx := by kernel_rfl
  have hg : ws[t]? = some (ws.getD t 0) := by
    rw [List.getD_eq_getElem?_getD, List.getElem?_eq_getElem (by omega)]; rfl
  have h0 : (0 : Int) ≤ t ∧ (t : Int) < (64 : Nat) := ⟨by omega, by omega⟩
  have hp : (part 62 (ws.map wv).toArray t).run Tryd.prog wx = .ok (wv (ws.getD t 0)) wx := by
    unfold part
    rw [Sem.run_bind, ha]
    simp only [Result.andThen_ok, Bool.false_eq_true, if_false, List.getElem?_toArray, List.getElem?_map, hg, Option.map_some, Sem.run_pure]
  unfold Instr.index
  rw [Sem.run_bind]
  simp only [asIntOf, Sem.run_pure, Result.andThen_ok]
  rw [Sem.run_bind, run_underlying hu]
  simp only [Result.andThen_ok, if_pos h0]
  rw [Sem.run_bind, hs]
  simp only [Result.andThen_ok, Int.toNat_natCast, Nat.mul_one]
  exact hp

structure MixIn (w : World) (s : H8) (ws : List UInt32) (wr : World) : Prop where
  hash : wr.heap[w.heap.size]? = some (.cells (s.list.map wv).toArray 70)
  words : wr.heap[w.heap.size + 1]? = some (.cells (ws.map wv).toArray 77)
  res : wr.heap[w.heap.size + 1 + 1]? = some (.cells #[wv 0, wv 0, wv 0, wv 0, wv 0, wv 0, wv 0, wv 0] 70)
  new : New w wr

theorem MixIn.drewN {w : World} {s : H8} {ws : List UInt32} {wr : World} (h : MixIn w s ws wr) (n : Nat) : MixIn w s ws (wr.drewN n) :=
  ⟨h.hash, h.words, h.res, below_drewN h.new n⟩

theorem MixIn.cell {w : World} {s : H8} {ws : List UInt32} {wr : World} (h : MixIn w s ws wr) (i : Nat) (x : UInt32) (hx : s.list[i]? = some x) : wr.cell? ⟨w.heap.size, i, none⟩ = some (wv x) := by
  rw [cell_of_row _ _ _ _ _ _ h.hash, List.getElem?_toArray, List.getElem?_map, hx]; rfl

theorem zero8 {w : World} {p : Nat} {t : TypeId} (h : w.heap[p]? = some (.cells #[wv 0, wv 0, wv 0, wv 0, wv 0, wv 0, wv 0, wv 0] t)) (i : Nat) (hi : i < 8) : w.cell? ⟨p, i, none⟩ = some (wv 0) := by
  rw [cell_of_row _ _ _ _ _ _ h]
  have h8 : i = 0 ∨ i = 1 ∨ i = 2 ∨ i = 3 ∨ i = 4 ∨ i = 5 ∨ i = 6 ∨ i = 7 := by omega
  rcases h8 with rfl | rfl | rfl | rfl | rfl | rfl | rfl | rfl <;> rfl

theorem set8 {w : World} {p : Nat} {t : TypeId} {z0 z1 z2 z3 z4 z5 z6 z7 : Value} (h : w.heap[p]? = some (.cells #[z0, z1, z2, z3, z4, z5, z6, z7] t)) (a b c d e f g i : Value) :
    ((((((((w.setCell ⟨p, 0, none⟩ a).setCell ⟨p, 1, none⟩ b).setCell ⟨p, 2, none⟩ c).setCell ⟨p, 3, none⟩ d).setCell ⟨p, 4, none⟩ e).setCell ⟨p, 5, none⟩ f).setCell ⟨p, 6, none⟩ g).setCell ⟨p, 7, none⟩ i).heap[p]? = some (.cells #[a, b, c, d, e, f, g, i] t) := by
  have h0 : (w.setCell ⟨p, 0, none⟩ a).heap[p]? = some (.cells #[a, z1, z2, z3, z4, z5, z6, z7] t) := heap_setCell_same _ _ 0 _ _ _ h
  generalize w.setCell ⟨p, 0, none⟩ a = w0 at h0 ⊢
  have h1 : (w0.setCell ⟨p, 1, none⟩ b).heap[p]? = some (.cells #[a, b, z2, z3, z4, z5, z6, z7] t) := heap_setCell_same _ _ 1 _ _ _ h0
  generalize w0.setCell ⟨p, 1, none⟩ b = w1 at h1 ⊢
  have h2 : (w1.setCell ⟨p, 2, none⟩ c).heap[p]? = some (.cells #[a, b, c, z3, z4, z5, z6, z7] t) := heap_setCell_same _ _ 2 _ _ _ h1
  generalize w1.setCell ⟨p, 2, none⟩ c = w2 at h2 ⊢
  have h3 : (w2.setCell ⟨p, 3, none⟩ d).heap[p]? = some (.cells #[a, b, c, d, z4, z5, z6, z7] t) := heap_setCell_same _ _ 3 _ _ _ h2
  generalize w2.setCell ⟨p, 3, none⟩ d = w3 at h3 ⊢
  have h4 : (w3.setCell ⟨p, 4, none⟩ e).heap[p]? = some (.cells #[a, b, c, d, e, z5, z6, z7] t) := heap_setCell_same _ _ 4 _ _ _ h3
  generalize w3.setCell ⟨p, 4, none⟩ e = w4 at h4 ⊢
  have h5 : (w4.setCell ⟨p, 5, none⟩ f).heap[p]? = some (.cells #[a, b, c, d, e, f, z6, z7] t) := heap_setCell_same _ _ 5 _ _ _ h4
  generalize w4.setCell ⟨p, 5, none⟩ f = w5 at h5 ⊢
  have h6 : (w5.setCell ⟨p, 6, none⟩ g).heap[p]? = some (.cells #[a, b, c, d, e, f, g, z7] t) := heap_setCell_same _ _ 6 _ _ _ h5
  generalize w5.setCell ⟨p, 6, none⟩ g = w6 at h6 ⊢
  exact heap_setCell_same _ _ 7 _ _ _ h6

set_option maxRecDepth 100000 in
set_option maxHeartbeats 400000 in
theorem shaMixed (w : World) (s : H8) (ws : List UInt32) (hw : Hid (ws.length = 64)) (hk : Hid (KTab w)) :
    Calls Tryd.prog 49 #[hagg s, .agg (ws.map wv).toArray] w fun e w' => e = .returned (hagg (s.add (s.rounds ws 64))) ∧ New w w' := by
  have hag : hagg s = .agg #[wv s.a, wv s.b, wv s.c, wv s.d, wv s.e, wv s.f, wv s.g, wv s.h] := rfl
  rw [hag]
  clear hag
  go_enter Tryd.func49, Tryd.ntmps49
  go_wp2
  generalize hwm : World.alloc _ _ = wm
  have hin : MixIn w s ws wm := by
    rw [← hwm]
    exact ⟨alloc3_0 _ _ _ _, alloc3_1 _ _ _ _, alloc3_2 _ _ _ _, (((Below.refl _ _).alloc (Nat.le_refl _) _).alloc (by simp) _).alloc (by simp; omega) _⟩
  clear hwm
  have c0 := hin.cell 0 s.a rfl
  have c1 := hin.cell 1 s.b rfl
  have c2 := hin.cell 2 s.c rfl
  have c3 := hin.cell 3 s.d rfl
  have c4 := hin.cell 4 s.e rfl
  have c5 := hin.cell 5 s.f rfl
  have c6 := hin.cell 6 s.g rfl
  have c7 := hin.cell 7 s.h rfl
  go_quiet (fail)
  go_wp2
  go_quiet (fail)
  go_upto_region 3 with fail
  generalize hwn : World.drewN _ _ = wn
  have hin : MixIn w s ws wn := by
    rw [← hwn]
    exact (hin.drewN _).drewN _
  clear hwn c0 c1 c2 c3 c4 c5 c6 c7
  refine wp_region_lit ?_
  have hlen : (ws.map wv).toArray.size = 64 := by simp [hw.out]
  refine wpList_load_row rfl 77 _ rfl (w.heap.size + 1) rfl _ _ _ _ hin.words Tryd.underlying77 rfl (by rw [hlen]; kernel_rfl) ?_
  clear hlen
  have HI := Lib.hid hin
  have HK := Lib.hid (hk.out.new hin.new)
  clear hin hk
  go_wp2
  go_loop [5, 6, 7, 8, 9, 10, 11, 12, 36] (fun a b c d e f g h i => ∃ t : Nat, t ≤ 64 ∧ i = .int .i64 t ∧ a = wv (s.rounds ws t).a ∧ b = wv (s.rounds ws t).b ∧ c = wv (s.rounds ws t).c ∧ d = wv (s.rounds ws t).d ∧ e = wv (s.rounds ws t).e ∧ f = wv (s.rounds ws t).f ∧ g = wv (s.rounds ws t).g ∧ h = wv (s.rounds ws t).h) (fun _ _ _ _ _ _ _ _ i => 64 - (intOf i).toNat)
  case atStart => exact ⟨0, by omega, rfl, rfl, rfl, rfl, rfl, rfl, rfl, rfl, rfl⟩
  case round =>
    obtain ⟨t, ht, rfl, rfl, rfl, rfl, rfl, rfl, rfl, rfl, rfl⟩ := hrel
    by_cases hlt : t < 64
    · have hix := run_index64 ws hw.out t hlt
      have hkc := HK.out t hlt
      have h64 : (t : Int) < 64 := by omega
      have HR : Hid (s.rounds ws (t + 1) = (s.rounds ws t).rnd (kTab.getD t 0) (ws.getD t 0)) := rfl
      generalize ws.getD t 0 = x at hix HR
      generalize kTab.getD t 0 = k at hkc HR
      generalize s.rounds ws t = r at HR ⊢
      go_wp2_with (go_at_call 57; refine (shaRightI _ _ _ (by decide) (by decide)).mono ?_; rintro e w' ⟨rfl, rfl⟩)
      go_round
      case rel => exact ⟨t + 1, by omega, by go_num, by rw [HR.out]; rfl, by rw [HR.out]; rfl, by rw [HR.out]; rfl, by rw [HR.out]; rfl, by rw [HR.out]; rfl, by rw [HR.out]; rfl, by rw [HR.out]; rfl, by rw [HR.out]; rfl⟩
      case measure => simp [intOf]; omega
    · obtain rfl : t = 64 := by omega
      have c0 := HI.out.cell 0 s.a rfl
      have c1 := HI.out.cell 1 s.b rfl
      have c2 := HI.out.cell 2 s.c rfl
      have c3 := HI.out.cell 3 s.d rfl
      have c4 := HI.out.cell 4 s.e rfl
      have c5 := HI.out.cell 5 s.f rfl
      have c6 := HI.out.cell 6 s.g rfl
      have c7 := HI.out.cell 7 s.h rfl
      obtain ⟨r, HR⟩ : ∃ r, Hid (s.rounds ws 64 = r) := ⟨_, rfl⟩
      rw [HR.out]
      have hres := HI.out.res
      have d0 := zero8 hres 0 (by decide)
      have e0 := frozen_of_row _ _ 0 _ _ hres
      have d1 := zero8 hres 1 (by decide)
      have e1 := frozen_of_row _ _ 1 _ _ hres
      have d2 := zero8 hres 2 (by decide)
      have e2 := frozen_of_row _ _ 2 _ _ hres
      have d3 := zero8 hres 3 (by decide)
      have e3 := frozen_of_row _ _ 3 _ _ hres
      have d4 := zero8 hres 4 (by decide)
      have e4 := frozen_of_row _ _ 4 _ _ hres
      have d5 := zero8 hres 5 (by decide)
      have e5 := frozen_of_row _ _ 5 _ _ hres
      have d6 := zero8 hres 6 (by decide)
      have e6 := frozen_of_row _ _ 6 _ _ hres
      have d7 := zero8 hres 7 (by decide)
      have e7 := frozen_of_row _ _ 7 _ _ hres
      clear hres
      go_wp2
      refine bodyPost_ret (v := hagg (s.add r)) (results_cell_row rfl _ _ (w.heap.size + 1 + 1) _ _ _ _ rfl (set8 HI.out.res _ _ _ _ _ _ _ _) Tryd.underlying70 rfl (by kernel_rfl)) rfl ⟨by rw [HR.out], ?_⟩
      have hle : w.heap.size ≤ w.heap.size + 1 + 1 := by omega
      exact (((((((HI.out.new.setCell (p := ⟨w.heap.size + 1 + 1, 0, none⟩) hle _).setCell (p := ⟨w.heap.size + 1 + 1, 1, none⟩) hle _).setCell (p := ⟨w.heap.size + 1 + 1, 2, none⟩) hle _).setCell (p := ⟨w.heap.size + 1 + 1, 3, none⟩) hle _).setCell (p := ⟨w.heap.size + 1 + 1, 4, none⟩) hle _).setCell (p := ⟨w.heap.size + 1 + 1, 5, none⟩) hle _).setCell (p := ⟨w.heap.size + 1 + 1, 6, none⟩) hle _).setCell (p := ⟨w.heap.size + 1 + 1, 7, none⟩) hle _

end Go.Proofs.YtliojldkdmaofaaDoor

namespace Go.Proofs.YtliojldkdmaofaaDoor
set_option linter.unusedVariables false
set_option linter.unusedSimpArgs false
open Go.RowKit

theorem infoByte : (Tryd.prog.info? 5).map (fun i => (i.zero, i.size, i.bytes)) = some (some (.int .u8 0), 1, 1) := by kernel_rfl

/-- make([]byte, l, c) -/
theorem run_make_bytes (l c : Int) (h0 : 0 ≤ l) (hlc : l ≤ c) (hc : c ≤ 281474976710656) (wx : World) :
    (Instr.makeSlice 22 (.int .i64 l) (.int .i64 c)).run Tryd.prog wx = .ok (.slice (some ⟨wx.heap.size, 0, none⟩) l.toNat c.toNat) (wx.alloc (.cells (List.replicate c.toNat (bv 0)).toArray 5)) := by
  obtain ⟨i0, hi0, hz0, hz1, hz2⟩ := info_parts infoByte
  have h := run_make (P := Tryd.prog) wx 22 5 i0 _ Tryd.underlying22 hi0 hz0 .i64 .i64 l c h0 hlc (by rw [hz2]; omega) (by omega)
  rw [h, hz1, Nat.mul_one]
  have e : madeCells (Value.int .u8 0).cells c.toNat = (List.replicate c.toNat (bv 0)).toArray := by
    apply Array.ext
    · simp [size_madeCells]
    · intro i h1 h2
      simp [madeCells, Value.cells, Nat.mod_one]
  rw [e]

structure PadIn (w : World) (n z k : Nat) (v : Value) (wr : World) : Prop where
  own : wr.ownsRow w.heap.size 5 1 v (128 :: List.replicate z 0 ++ (be64 (8 * n)).take k).length ((128 :: List.replicate z 0 ++ (be64 (8 * n)).take k).map bv)
  new : New w wr

/-- a new row of bytes, returned -/
def OwnRet (w : World) (l : List UInt8) (e : Ending) (w' : World) : Prop := ∃ v, e = .returned v ∧ w'.ownsRow w.heap.size 5 1 v l.length (l.map bv) ∧ New w w'

theorem rd_one (w : World) {m : Int} {b : UInt8} (h : m = (b.toNat : Int)) : Rd (w.alloc (.cells #[.int .u8 m] 5)) (.slice (some ⟨w.heap.size, 0, none⟩) 1 1) [b] := by
  subst h
  exact Rd.made w [b] 5 (0, 0) (by simp)

theorem byte_div (m : Nat) (d : Nat) : (8 * (m : Int)) / 2 ^ d % 256 = ((UInt8.ofNat (8 * m / 2 ^ d)).toNat : Int) := by
  rw [UInt8.toNat_ofNat']
  show _ = ((8 * m / 2 ^ d % 256 : Nat) : Int)
  rw [Int.natCast_emod, Int.natCast_ediv, Int.natCast_pow, Int.natCast_mul]
  rfl

theorem be64_get (m k : Nat) (h : k < 8) : (be64 m)[k]? = some (UInt8.ofNat (m / 2 ^ (56 - 8 * k))) := by
  have h8 : k = 0 ∨ k = 1 ∨ k = 2 ∨ k = 3 ∨ k = 4 ∨ k = 5 ∨ k = 6 ∨ k = 7 := by omega
  rcases h8 with rfl | rfl | rfl | rfl | rfl | rfl | rfl | rfl <;> simp [be64]

theorem be64_take (m k : Nat) (h : k < 8) : (be64 m).take (k + 1) = (be64 m).take k ++ [UInt8.ofNat (m / 2 ^ (56 - 8 * k))] := by
  rw [List.take_add_one, be64_get m k h]; rfl

theorem PadIn.next {w : World} {n z k : Nat} {v : Value} {wr : World} {o : Obj} {L : List UInt8} (h : PadIn w n z k v wr) (hL : (128 :: List.replicate z 0 ++ (be64 (8 * n)).take k : List UInt8) = L) (hk : k < 8) {v' : Value} {w' : World}
    (hown : w'.ownsRow w.heap.size 5 1 v' (L.length + 1) (L.map bv ++ [bv (UInt8.ofNat (8 * n / 2 ^ (56 - 8 * k)))]))
    (hg : (wr.alloc o).grownBy w' v.ownBlock) : PadIn w n z (k + 1) v' w' := by
  refine ⟨?_, ?_⟩
  · rw [be64_take _ _ hk, ← List.append_assoc, hL, List.map_append, List.length_append]
    exact hown
  · refine Below.grown (h.new.alloc h.new.size _) hg (by have := h.new.size; simp; omega) (fun j hj => ?_)
    rcases h.own.2 with ⟨rfl, _⟩ | ⟨g, cap, cur, rfl, hb, _⟩
    · simp [Value.ownBlock] at hj
    · simp [Value.ownBlock] at hj; omega

theorem padEnd {w : World} {n z : Nat} {v : Value} {wr : World} (hz : z = 63 - (n + 8) % 64) (h : PadIn w n z 8 v wr) : OwnRet w (padOf n) (.returned v) wr := by
  subst hz
  exact ⟨v, rfl, h.own, h.new⟩

theorem padStart (w : World) (n z : Nat) (hz : z ≤ 63) : PadIn w n z 0 (.slice (some ⟨w.heap.size, 0, none⟩) (1 + z) (1 + z + 8)) (w.alloc (.cells ((Array.replicate (1 + z + 8) (bv 0)).setIfInBounds 0 (.int .u8 128)) 5)) := by
  refine ⟨?_, (Below.refl _ _).alloc (Nat.le_refl _) _⟩
  have hl : (128 :: List.replicate z 0 ++ (be64 (8 * n)).take 0 : List UInt8).length = 1 + z := by simp; omega
  rw [hl]
  refine ⟨by rw [List.length_map, hl, Nat.mul_one], .inr ⟨w.heap.size, 1 + z + 8, _, rfl, Nat.le_refl _, heap_alloc_new _ _, by omega, ?_, by simp, ?_⟩⟩
  · unfold maxLen; omega
  · rw [Nat.mul_one, show 1 + z + 8 = (z + 8) + 1 by omega, Nat.add_comm 1 z]
    have e : (Array.replicate (z + 8 + 1) (bv 0)) = (bv 0 :: List.replicate (z + 8) (bv 0)).toArray := by rw [← List.replicate_succ]; simp
    rw [e, List.setIfInBounds_toArray, List.set_cons_zero]
    simp [List.take_replicate]

set_option maxRecDepth 100000 in
set_option maxHeartbeats 400000 in
theorem shaPadding (w : World) (n : Nat) (hn : n ≤ 1152921504606846976) :
    Calls Tryd.prog 56 #[.int .i64 n] w (OwnRet w (padOf n)) := by
  obtain ⟨z, HZ, hz, hz'⟩ : ∃ z : Nat, Hid (z = 63 - (n + 8) % 64) ∧ 63 - ((n : Int) + 8) % 64 = (z : Int) ∧ z ≤ 63 := ⟨63 - (n + 8) % 64, rfl, by omega, by omega⟩
  have hmk := run_make_bytes (1 + (z : Int)) (1 + (z : Int) + 8) (by omega) (by omega) (by omega)
  go_enter Tryd.func56, Tryd.ntmps56
  go_wp2
  obtain ⟨i0, hi0, hz0, hz1, hz2⟩ := info_parts infoByte
  clear hmk hz
  go_loopw [4, 6] (fun v i wr => ∃ k : Nat, k ≤ 8 ∧ i = .int .i64 (56 - 8 * (k : Int)) ∧ PadIn w n z k v wr) (fun _ i _ => (intOf i + 8).toNat)
  case atStart => exact ⟨0, by omega, by go_num, padStart w n z hz'⟩
  case round =>
    obtain ⟨k, hk, rfl, hin⟩ := hrel
    by_cases hlt : k < 8
    · have h0 : (0 : Int) ≤ 56 - 8 * (k : Int) := by omega
      have hlen : (128 :: List.replicate z 0 ++ (be64 (8 * n)).take k).length ≤ 72 := by simp [be64]; omega
      have HI := Lib.hid hin
      have hsz := hin.new.size
      have hown := hin.own
      obtain ⟨L, HL⟩ : ∃ L, Hid ((128 :: List.replicate z 0 ++ (be64 (8 * n)).take k : List UInt8) = L) := ⟨_, Lib.hid rfl⟩
      rw [HL.out] at hown hlen
      clear hin
      go_wp2_with (at_builtin; refine wpList_append_bytes rfl _ _ 22 rfl w.heap.size 5 i0 _ Tryd.underlying22 hi0 hz0 hz1 hz2 rfl _ _ _ rfl (hown.alloc _) _ [UInt8.ofNat (8 * n / 2 ^ (56 - 8 * k))] rfl (rd_one _ (byte_div _ _)) ?_ ?_ ?_)
      · simp only [List.length_cons, List.length_nil]; omega
      · simp; omega
      · intro v' w' hown' hgrow hat
        have HO := Lib.hid hown'
        clear hown' hat
        go_wp2
        go_roundw
        case rel =>
          refine ⟨k + 1, by omega, by go_num, ?_⟩
          exact HI.out.next HL.out hlt HO.out hgrow
        case measure => simp [intOf]; omega
    · obtain rfl : k = 8 := by omega
      go_wp2
      go_ret
      exact padEnd HZ.out hin

end Go.Proofs.YtliojldkdmaofaaDoor

namespace Go.Proofs.YtliojldkdmaofaaDoor
set_option linter.unusedVariables false
set_option linter.unusedSimpArgs false
open Go.RowKit

theorem infoBytes : (Tryd.prog.info? 22).map (fun i => (i.zero, i.size, i.bytes)) = some (some (.slice none 0 0), 1, 24) := by kernel_rfl

/-- the parts and the padding -/
def PaddedRet (w : World) (ps : List (Value × List UInt8)) (e : Ending) (w' : World) : Prop :=
  ∃ v' pv, e = .returned v' ∧ RdL w' v' (ps ++ [(pv, padOf (allOf ps).length)]) ∧ New w w' ∧ (∀ k, blk v' = some k → w.heap.size ≤ k) ∧ ∀ k, blk pv = some k → w.heap.size ≤ k

set_option maxRecDepth 100000 in
set_option maxHeartbeats 400000 in
theorem shaPadded (w : World) (v : Value) (ps : List (Value × List UInt8)) (hv : RdL w v ps) (hn : (allOf ps).length ≤ 1152921504606846976) (hps : ps.length ≤ 1000000) :
    Calls Tryd.prog 48 #[v] w (PaddedRet w ps) := by
  obtain ⟨hv1, hv2⟩ := hv
  have hv1' := hv1
  obtain ⟨a, n, c, rfl, hl, hnc, hcm, _, _⟩ := hv1'
  rw [List.length_map] at hl
  have HL := Lib.hid hl
  have HV1 := Lib.hid hv1
  have HV2 := Lib.hid hv2
  have hn1 : n ≤ 1000000 := by omega
  unfold maxLen at hcm
  clear hl hv1 hv2
  go_enter Tryd.func48, Tryd.ntmps48
  go_wp2
  go_loop [3, 8] (fun s i => ∃ k : Nat, k ≤ n ∧ i = .int .i64 k ∧ s = .int .i64 ((allOf (ps.take k)).length : Nat)) (fun _ i => n - (intOf i).toNat)
  case atStart => exact ⟨0, Nat.zero_le _, rfl, rfl⟩
  case round =>
    obtain ⟨k, hk, rfl, rfl⟩ := hrel
    by_cases hlt : k < n
    · obtain ⟨b, off, rfl, hcell⟩ := HV1.out.cell (by omega)
      obtain ⟨p, hp⟩ : ∃ p, ps[k]? = some p := ⟨_, List.getElem?_eq_getElem (by rw [HL.out]; exact hlt)⟩
      have hck := hcell k p.1 (by rw [List.getElem?_map, hp]; rfl)
      clear hcell
      obtain ⟨ap, np, cp, ep, hpl, _⟩ := HV2.out p (List.mem_of_getElem? hp)
      have HT := Lib.hid (allOf_take ps k p hp)
      have hle := allOf_take_le ps (k + 1)
      rw [HT.out, List.length_append, hpl] at hle
      have HPL := Lib.hid hpl
      rw [ep] at hck
      clear hpl hp ep
      obtain ⟨m, HM⟩ : ∃ m, Hid ((allOf (ps.take k)).length = m) := ⟨_, Lib.hid rfl⟩
      rw [HM.out] at hle ⊢
      go_wp2
      go_round
      case rel => exact ⟨k + 1, by omega, by go_num, by rw [HT.out, List.length_append, HM.out, HPL.out]; go_num⟩
      case measure => simp [intOf]; omega
    · obtain rfl : k = n := by omega
      have hE : allOf (ps.take k) = allOf ps := by rw [List.take_of_length_le (by rw [HL.out]; exact Nat.le_refl _)]
      rw [hE]
      clear hE
      obtain ⟨m, HM⟩ : ∃ m, Hid ((allOf ps).length = m) := ⟨_, Lib.hid rfl⟩
      rw [HM.out] at hn ⊢
      go_wp2
      refine region_ord (fun _ => True) [(0, true), (1, true), (2, true), (3, true), (4, true), (5, true), (6, true), (7, false), (8, false), (9, false), (10, true)] (by kernel_rfl) (by kernel_rfl) trivial (fun _ => ?_)
      iterate 7 (apply ord_take; (simp only [List.getElem?_toArray, List.getElem?_cons_succ, List.getElem?_cons_zero]; rfl); rfl; (intro w hSw; (try dsimp only at hSw); go_simp; try with_reducible rfl); intro _; try simp only [Act.put, List.setIfInBounds_toArray, List.set_cons_zero, List.set_cons_succ])
      (apply ord_only; (simp only [List.getElem?_toArray, List.getElem?_cons_succ, List.getElem?_cons_zero]; rfl); rfl; intro K hK)
      go_simp
      refine (shaPadding _ m hn).mono ?_
      rintro e w1 ⟨pv, rfl, hown, hnew⟩
      have hrd := Rd.of_own hown
      have hrd' := hrd
      obtain ⟨ap, np, cp, rfl, _⟩ := hrd'
      have HRD := Lib.hid hrd
      have HFP := Lib.hid (own_from hown)
      clear hown hrd
      refine hK.out _ _ trivial (fun _ => ?_)
      clear hK K
      try simp only [Act.put, List.setIfInBounds_toArray, List.set_cons_zero, List.set_cons_succ]
      (apply ord_only; (simp only [List.getElem?_toArray, List.getElem?_cons_succ, List.getElem?_cons_zero]; rfl); rfl; intro K hK)
      go_simp
      refine hK.out _ _ trivial (fun _ => ?_)
      clear hK K
      try simp only [Act.put, List.setIfInBounds_toArray, List.set_cons_zero, List.set_cons_succ]
      (apply ord_only; (simp only [List.getElem?_toArray, List.getElem?_cons_succ, List.getElem?_cons_zero]; rfl); rfl; intro K hK)
      obtain ⟨i0, hi0, hz0, hz1, hz2⟩ := info_parts infoBytes
      have hn2 : New w (w1.alloc (.cells #[.slice ap np cp] 22)) := (New.trans (Below.refl _ _).drew hnew).alloc (New.trans (Below.refl _ _).drew hnew).size _
      obtain ⟨v', w2, hr, hrv, hn3, hfr⟩ := run_append_one (P := Tryd.prog) (w1.alloc (.cells #[.slice ap np cp] 22)) 69 69 22 i0 _ 24 Tryd.underlying69 hi0 hz0 hz1 hz2 rfl a k c (ps.map (·.1)) (HV1.out.new hn2) ⟨w1.heap.size, 0, none⟩ (.slice ap np cp) (by rw [cell_of_row _ _ _ _ _ _ (heap_alloc_new _ _)]; rfl) rfl (by omega) (by omega)
      refine oper_append (.tmp 22) (.tmp 25) 69 rfl _ _ rfl rfl hr (hK.out _ _ trivial (fun _ => ?_))
      clear hK K hr
      try simp only [Act.put, List.setIfInBounds_toArray, List.set_cons_zero, List.set_cons_succ]
      iterate 1 (apply ord_take; (simp only [List.getElem?_toArray, List.getElem?_cons_succ, List.getElem?_cons_zero]; rfl); rfl; (intro w hSw; (try dsimp only at hSw); go_simp; try with_reducible rfl); intro _; try simp only [Act.put, List.setIfInBounds_toArray, List.set_cons_zero, List.set_cons_succ])
      apply ord_done
      go_wp2
      go_ret
      refine ⟨v', .slice ap np cp, rfl, ⟨?_, ?_⟩, New.trans hn2 hn3, fun j hj => Nat.le_trans hn2.size (hfr j hj), fun j hj => HFP.out j hj⟩
      · simpa using hrv
      · intro p hp
        rcases List.mem_append.1 hp with h | h
        · exact (HV2.out p h).new (New.trans hn2 hn3)
        · rw [List.mem_singleton.1 h, HM.out]
          exact (HRD.out.new ((Below.refl _ _).alloc (Nat.le_refl _) _)).new hn3

end Go.Proofs.YtliojldkdmaofaaDoor
