/-
  The reference's Mul of layer 5.
  The reference's Box of layer 5.
  The reference's tables of layer 5, as plain lists.
  The reference's Boxes of layer 5.
  The reference's Ints and Text of layer 5.
  The reference's Keys of layer 5.
  The reference's Block of layer 5.
  Different blocks have different encryptions.
  The reference's round keys and blocks are the program's.
  The reference's One of layer 5: a block by a key.
-/
import Derived.Test.YtgfljldegodpgaaDoorAesA
import Derived.Test.YtgfljldegodpgaaDoorBase
import Derived.Test.YtgfljldegodpgaaDoorProg
import Derived.Test.YtgfljldegodpgaaDoorRefHex
import Derived.KernelRfl
import Derived.Deep.QuietTactic
import Derived.BigQuiet
import Derived.IntWalk
import Derived.StillTailTactics
import Derived.Laws.Rows
import Derived.Laws.Slices
import Derived.Deep.Cut
import Derived.Laws.MakeOwn
import Derived.OwnWalk
import Derived.Deep.OwnRows
import Derived.Maps.AppendAt
namespace Go.Proofs.YtgfljldegodpgaaDoor
set_option linter.unusedVariables false
set_option linter.unusedSimpArgs false
open Go.RowKit

theorem i64_xor_nat (a b : Nat) (ha : a < 9223372036854775808) (hb : b < 9223372036854775808) : bits .xor .i64 (a : Int) (b : Int) = ((a ^^^ b : Nat) : Int) := by
  have hx : a ^^^ b < 2 ^ 63 := Nat.xor_lt_two_pow (by omega) (by omega)
  show IntKind.i64.wrap ((BitVec.ofInt 64 (a : Int) ^^^ BitVec.ofInt 64 (b : Int)).toNat : Int) = _
  rw [BitVec.toNat_xor, ofInt_u64 a (by omega), ofInt_u64 b (by omega)]
  exact IntWalk.i64_in _ (by omega)

/-- a byte as an int -/
abbrev iv (b : UInt8) : Value := .int .i64 (b.toNat : Int)

theorem i64_bxor (x y : UInt8) : bits .xor .i64 (x.toNat : Int) (y.toNat : Int) = ((bxor x y).toNat : Int) := by
  have h1 := u8_lt x
  have h2 := u8_lt y
  unfold bxor; rw [i64_xor_nat _ _ (by omega) (by omega), UInt8.toNat_xor]

/-- the product, not yet reduced -/
def pTo (a b : Nat) : Nat → Nat
  | 0 => 0
  | k + 1 => if b / 2 ^ k % 2 = 1 then pTo a b k ^^^ (a * 2 ^ k) else pTo a b k

/-- reduced, j steps -/
def rTo (p : Nat) : Nat → Nat
  | 0 => p
  | j + 1 => if rTo p j / 2 ^ (14 - j) % 2 = 1 then rTo p j ^^^ (283 * 2 ^ (6 - j)) else rTo p j

theorem pTo_lt (a b : Nat) (ha : a < 256) (k : Nat) (hk : k ≤ 8) : pTo a b k < 2 ^ 16 := by
  induction k with
  | zero => exact Nat.two_pow_pos 16
  | succ k ih =>
    unfold pTo
    have h1 := ih (by omega)
    split
    · refine Nat.xor_lt_two_pow h1 ?_
      have : 2 ^ k ≤ 2 ^ 7 := Nat.pow_le_pow_right (by decide) (by omega)
      calc a * 2 ^ k ≤ 255 * 2 ^ 7 := Nat.mul_le_mul (by omega) this
        _ < 2 ^ 16 := by decide
    · exact h1

theorem rTo_lt (p : Nat) (hp : p < 2 ^ 16) (j : Nat) : rTo p j < 2 ^ 16 := by
  induction j with
  | zero => exact hp
  | succ j ih =>
    unfold rTo
    split
    · refine Nat.xor_lt_two_pow ih ?_
      have : 2 ^ (6 - j) ≤ 2 ^ 6 := Nat.pow_le_pow_right (by decide) (by omega)
      calc 283 * 2 ^ (6 - j) ≤ 283 * 2 ^ 6 := Nat.mul_le_mul (Nat.le_refl _) this
        _ < 2 ^ 16 := by decide
    · exact ih

theorem nat_xor4 (a b c d : Nat) : (a ^^^ b) ^^^ (c ^^^ d) = (a ^^^ c) ^^^ (b ^^^ d) := by
  rw [Nat.xor_assoc, Nat.xor_assoc, ← Nat.xor_assoc b, Nat.xor_comm b c, Nat.xor_assoc c]

theorem rTo_xor (x y : Nat) (j : Nat) : rTo (x ^^^ y) j = rTo x j ^^^ rTo y j := by
  induction j with
  | zero => rfl
  | succ j ih =>
    unfold rTo
    rw [ih, bit_xor]
    have e2 := Nat.mod_two_eq_zero_or_one (rTo x j / 2 ^ (14 - j))
    have e3 := Nat.mod_two_eq_zero_or_one (rTo y j / 2 ^ (14 - j))
    rcases e2 with e2 | e2 <;> rcases e3 with e3 | e3 <;> rw [e2, e3] <;> simp only [Nat.add_zero, Nat.zero_add, Nat.reduceAdd, Nat.reduceMod, if_true, if_false, Nat.zero_ne_one, reduceCtorEq]
    · rw [Nat.xor_assoc]
    · rw [Nat.xor_assoc, Nat.xor_comm (rTo y j), ← Nat.xor_assoc]
    · rw [nat_xor4, Nat.xor_self, Nat.xor_zero]

theorem rTo_dbls : ∀ a, a < 256 → ∀ i, i < 8 → rTo (a * 2 ^ i) 7 = (dbls (UInt8.ofNat a) i).toNat := by decide +kernel

theorem rTo_pTo (a b : UInt8) (k : Nat) (hk : k ≤ 8) : rTo (pTo a.toNat b.toNat k) 7 = (mulTo a b k).toNat := by
  induction k with
  | zero => show rTo 0 7 = (0 : UInt8).toNat; decide
  | succ k ih =>
    unfold pTo mulTo
    split
    · rw [rTo_xor, ih (by omega), rTo_dbls _ (u8_lt a) k (by omega), UInt8.ofNat_toNat]
      unfold bxor; rw [UInt8.toNat_xor]
    · exact ih (by omega)

theorem refMul_eq (a b : UInt8) : rTo (pTo a.toNat b.toNat 8) 7 = (gmul a b).toNat := rTo_pTo a b 8 (Nat.le_refl _)

set_option maxRecDepth 100000 in
set_option maxHeartbeats 1000000 in
theorem refMul5 (w : World) (a b : UInt8) : Calls Tryd.prog 69 #[iv a, iv b] w fun e w' => e = .returned (iv (gmul a b)) ∧ w = w' := by
  have ha := u8_lt a
  have hb := u8_lt b
  have HG := Lib.hid (refMul_eq a b)
  have HPL := Lib.hid (fun k hk => pTo_lt a.toNat b.toNat ha k hk)
  unfold iv at *
  generalize gmul a b = g at *
  generalize a.toNat = x at *
  generalize b.toNat = y at *
  go_enter Tryd.func69, Tryd.ntmps69
  go_wp2
  go_loop [5, 6] (fun p i => ∃ k : Nat, k ≤ 8 ∧ i = .int .i64 k ∧ p = .int .i64 (pTo x y k : Nat)) (fun _ i => 8 - (intOf i).toNat)
  case atStart => exact ⟨0, by omega, rfl, rfl⟩
  case round =>
    obtain ⟨k, hk, rfl, rfl⟩ := hrel
    by_cases hlt : k < 8
    · have h8 : (k : Int) < 8 := by omega
      have hp := HPL.out k hk
      have hq : x * 2 ^ k < 2 ^ 16 := by
        have : 2 ^ k ≤ 2 ^ 7 := Nat.pow_le_pow_right (by decide) (by omega)
        calc x * 2 ^ k ≤ 255 * 2 ^ 7 := Nat.mul_le_mul (by omega) this
          _ < 2 ^ 16 := by decide
      have HS : Hid (pTo x y (k + 1) = if y / 2 ^ k % 2 = 1 then pTo x y k ^^^ (x * 2 ^ k) else pTo x y k) := Lib.hid rfl
      have hx := i64_xor_nat (pTo x y k) (x * 2 ^ k) (by omega) (by omega)
      have hw : IntKind.i64.wrap ((x : Int) * 2 ^ k) = ((x * 2 ^ k : Nat) : Int) := by
        rw [Int.natCast_mul, Int.natCast_pow]
        refine IntWalk.i64_in _ ?_
        have e : ((x * 2 ^ k : Nat) : Int) = (x : Int) * 2 ^ k := by rw [Int.natCast_mul, Int.natCast_pow]; rfl
        omega
      have hd : (y : Int) / 2 ^ k % 2 = ((y / 2 ^ k % 2 : Nat) : Int) := by
        rw [Int.natCast_emod, Int.natCast_ediv, Int.natCast_pow]; rfl
      have hd0 : 0 ≤ (y : Int) / 2 ^ k := Int.ediv_nonneg (by omega) (by exact Int.le_of_lt (Int.pow_pos (by decide)))
      by_cases hbit : y / 2 ^ k % 2 = 1
      · rw [if_pos hbit] at HS
        rw [hbit] at hd
        clear hbit
        generalize pTo x y k = p at *
        generalize x * 2 ^ k = s at *
        go_wp2
        go_round
        case rel => exact ⟨k + 1, by omega, by go_num, by rw [HS.out]⟩
        case measure => simp [intOf]; omega
      · rw [if_neg hbit] at HS
        rw [show y / 2 ^ k % 2 = 0 by omega] at hd
        clear hbit hx hw hq
        generalize pTo x y k = p at *
        go_wp2
        go_round
        case rel => exact ⟨k + 1, by omega, by go_num, by rw [HS.out]⟩
        case measure => simp [intOf]; omega
    · obtain rfl : k = 8 := by omega
      rw [show ((8 : Nat) : Int) = 8 from rfl]
      have HP0 := Lib.hid (HPL.out 8 hk)
      clear hlt HPL
      generalize pTo x y 8 = P at *
      go_wp2
      go_loop [5, 7] (fun p i => ∃ j : Nat, j ≤ 7 ∧ i = .int .i64 ((14 - j : Nat) : Int) ∧ p = .int .i64 (rTo P j : Nat)) (fun _ i => (intOf i).toNat)
      case atStart => exact ⟨0, by omega, rfl, rfl⟩
      case round =>
        obtain ⟨j, hj, rfl, rfl⟩ := hrel
        have hp := rTo_lt P HP0.out j
        by_cases hlt : j < 7
        · have HS : Hid (rTo P (j + 1) = if rTo P j / 2 ^ (14 - j) % 2 = 1 then rTo P j ^^^ (283 * 2 ^ (6 - j)) else rTo P j) := Lib.hid rfl
          obtain ⟨m, Hm⟩ : ∃ m, Hid (14 - j = m) := ⟨_, Lib.hid rfl⟩
          have hm8 : 8 ≤ m := by rw [← Hm.out]; omega
          have hm14 : m ≤ 14 := by rw [← Hm.out]; omega
          rw [Hm.out, show 6 - j = m - 8 by have := Hm.out; omega] at HS
          rw [Hm.out]
          have hq : 283 * 2 ^ (m - 8) < 2 ^ 16 := by
            have : 2 ^ (m - 8) ≤ 2 ^ 6 := Nat.pow_le_pow_right (by decide) (by omega)
            calc 283 * 2 ^ (m - 8) ≤ 283 * 2 ^ 6 := Nat.mul_le_mul (Nat.le_refl _) this
              _ < 2 ^ 16 := by decide
          have hx := i64_xor_nat (rTo P j) (283 * 2 ^ (m - 8)) (by omega) (by omega)
          have hw : IntKind.i64.wrap (283 * 2 ^ (m - 8)) = ((283 * 2 ^ (m - 8) : Nat) : Int) := by
            have e : ((283 * 2 ^ (m - 8) : Nat) : Int) = 283 * 2 ^ (m - 8) := by rw [Int.natCast_mul, Int.natCast_pow]; rfl
            rw [e]
            refine IntWalk.i64_in _ ?_
            omega
          have hmt : ((m : Int) - 8).toNat = m - 8 := by omega
          have hm0 : 0 ≤ (m : Int) - 8 := by omega
          have hd : (rTo P j : Int) / 2 ^ m % 2 = ((rTo P j / 2 ^ m % 2 : Nat) : Int) := by
            rw [Int.natCast_emod, Int.natCast_ediv, Int.natCast_pow]; rfl
          have hd0 : 0 ≤ (rTo P j : Int) / 2 ^ m := Int.ediv_nonneg (by omega) (by exact Int.le_of_lt (Int.pow_pos (by decide)))
          by_cases hbit : rTo P j / 2 ^ m % 2 = 1
          · rw [if_pos hbit] at HS
            rw [hbit] at hd
            clear hbit
            generalize rTo P j = p at *
            generalize 283 * 2 ^ (m - 8) = s at *
            go_wp2
            go_round
            case rel => exact ⟨j + 1, by omega, by rw [show 14 - (j + 1) = m - 1 by have := Hm.out; omega]; go_num, by rw [HS.out]⟩
            case measure => simp [intOf]; omega
          · rw [if_neg hbit] at HS
            rw [show rTo P j / 2 ^ m % 2 = 0 by omega] at hd
            clear hbit hx hw hq
            generalize rTo P j = p at *
            go_wp2
            go_round
            case rel => exact ⟨j + 1, by omega, by rw [show 14 - (j + 1) = m - 1 by have := Hm.out; omega]; go_num, by rw [HS.out]⟩
            case measure => simp [intOf]; omega
        · obtain rfl : j = 7 := by omega
          rw [show ((14 - 7 : Nat) : Int) = 7 from rfl, HG.out]
          go_wp2
          go_ret
          exact ⟨rfl, rfl⟩

end Go.Proofs.YtgfljldegodpgaaDoor

namespace Go.Proofs.YtgfljldegodpgaaDoor
set_option linter.unusedVariables false
set_option linter.unusedSimpArgs false
open Go.RowKit

/-- the inverse, as far as it is found below i -/
def invTo (c : UInt8) (i : Nat) : UInt8 := if c ≠ 0 ∧ (ginv c).toNat < i then ginv c else 0

theorem invTo_1 (c : UInt8) : invTo c 1 = 0 := by
  unfold invTo
  rw [if_neg]
  rintro ⟨h1, h2⟩
  exact ginv_ne c h1 (UInt8.toNat_inj.1 (by show _ = 0; omega))

theorem invTo_succ (c : UInt8) (i : Nat) (hi : i < 256) : invTo c (i + 1) = if gmul c (UInt8.ofNat i) = 1 then UInt8.ofNat i else invTo c i := by
  unfold invTo
  by_cases h : c = 0
  · subst h
    rw [gmul_0', if_neg (by simp), if_neg (by decide), if_neg (by simp)]
  · have e : UInt8.ofNat i = ginv c ↔ (ginv c).toNat = i := by
      constructor
      · intro e; rw [← e, UInt8.toNat_ofNat']; omega
      · intro e; rw [← e, UInt8.ofNat_toNat]
    have hb := (gmul_eq_1 c (UInt8.ofNat i) h).trans e
    by_cases e2 : (ginv c).toNat = i
    · rw [if_pos ⟨h, by omega⟩, if_pos (hb.2 e2), e.2 e2]
    · rw [if_neg (fun x => e2 (hb.1 x))]
      by_cases e3 : (ginv c).toNat < i
      · rw [if_pos ⟨h, by omega⟩, if_pos ⟨h, e3⟩]
      · rw [if_neg (fun x => by have := x.2; omega), if_neg (fun x => e3 x.2)]

theorem invTo_256 (c : UInt8) : invTo c 256 = ginv c := by
  unfold invTo
  by_cases h : c = 0
  · rw [if_neg (by simp [h]), h, ginv_0]
  · rw [if_pos ⟨h, u8_lt _⟩]

/-- a bit of the S-box value -/
def bitTo (v i : Nat) : Nat → Nat
  | 0 => 99 / 2 ^ i % 2
  | k + 1 => if k = 0 ∨ 4 ≤ k then bitTo v i k ^^^ (v / 2 ^ ((i + k) % 8) % 2) else bitTo v i k

def outTo (v : Nat) : Nat → Nat
  | 0 => 0
  | i + 1 => outTo v i + bitTo v i 8 * 2 ^ i

theorem bitTo_lt (v i k : Nat) : bitTo v i k < 2 := by
  induction k with
  | zero => exact Nat.mod_lt _ (by decide)
  | succ k ih =>
    unfold bitTo
    split
    · exact Nat.xor_lt_two_pow (n := 1) ih (Nat.mod_lt _ (by decide))
    · exact ih

theorem outTo_lt (v i : Nat) : outTo v i < 2 ^ i := by
  induction i with
  | zero => exact Nat.two_pow_pos 0
  | succ i ih =>
    unfold outTo
    have h1 := bitTo_lt v i 8
    have h2 : bitTo v i 8 * 2 ^ i ≤ 1 * 2 ^ i := Nat.mul_le_mul (by omega) (Nat.le_refl _)
    rw [Nat.pow_succ]
    omega

theorem outTo_box (c : UInt8) : outTo (ginv c).toNat 8 = (gbox c).toNat := by
  refine forall_u8 (P := fun c => outTo (ginv c).toNat 8 = (gbox c).toNat) ?_ c
  decide +kernel


end Go.Proofs.YtgfljldegodpgaaDoor

namespace Go.Proofs.YtgfljldegodpgaaDoor
set_option linter.unusedVariables false
set_option linter.unusedSimpArgs false

def logTab : List UInt8 := [0, 0, 25, 1, 50, 2, 26, 198, 75, 199, 27, 104, 51, 238, 223, 3, 100, 4, 224, 14, 52, 141, 129, 239, 76, 113, 8, 200, 248, 105, 28, 193, 125, 194, 29, 181, 249, 185, 39, 106, 77, 228, 166, 114, 154, 201, 9, 120, 101, 47, 138, 5, 33, 15, 225, 36, 18, 240, 130, 69, 53, 147, 218, 142, 150, 143, 219, 189, 54, 208, 206, 148, 19, 92, 210, 241, 64, 70, 131, 56, 102, 221, 253, 48, 191, 6, 139, 98, 179, 37, 226, 152, 34, 136, 145, 16, 126, 110, 72, 195, 163, 182, 30, 66, 58, 107, 40, 84, 250, 133, 61, 186, 43, 121, 10, 21, 155, 159, 94, 202, 78, 212, 172, 229, 243, 115, 167, 87, 175, 88, 168, 80, 244, 234, 214, 116, 79, 174, 233, 213, 231, 230, 173, 232, 44, 215, 117, 122, 235, 22, 11, 245, 89, 203, 95, 176, 156, 169, 81, 160, 127, 12, 246, 111, 23, 196, 73, 236, 216, 67, 31, 45, 164, 118, 123, 183, 204, 187, 62, 90, 251, 96, 177, 134, 59, 82, 161, 108, 170, 85, 41, 157, 151, 178, 135, 144, 97, 190, 220, 252, 188, 149, 207, 205, 55, 63, 91, 209, 83, 57, 132, 60, 65, 162, 109, 71, 20, 42, 158, 93, 86, 242, 211, 171, 68, 17, 146, 217, 35, 32, 46, 137, 180, 124, 184, 38, 119, 153, 227, 165, 103, 74, 237, 222, 197, 49, 254, 24, 13, 99, 140, 128, 192, 247, 112, 7]

def logTo : Nat → List UInt8
  | 0 => List.replicate 256 0
  | i + 1 => (logTo i).set (pow3 i).toNat (UInt8.ofNat i)

theorem logTo_length (i : Nat) : (logTo i).length = 256 := by
  induction i with
  | zero => exact List.length_replicate
  | succ i ih => unfold logTo; rw [List.length_set, ih]

theorem logTo_all : logTo 255 = logTab := by decide +kernel
theorem logTab_lt : ∀ c, c < 256 → (logTab.getD c 0).toNat ≤ 254 := by decide +kernel
theorem logTab_inv : ∀ c, c < 256 → c ≠ 0 → pow3 ((255 - (logTab.getD c 0).toNat) % 255) = ginv (UInt8.ofNat c) := by decide +kernel

/-- turned left, one bit at a time -/
def rots (b : UInt8) : Nat → UInt8
  | 0 => b
  | k + 1 => UInt8.ofNat (((rots b k).toNat * 2 + (rots b k).toNat / 128) % 256)

def yTo (b : UInt8) : Nat → UInt8
  | 0 => bxor 99 b
  | k + 1 => bxor (yTo b k) (rots b (k + 1))

theorem yTo_box (c : UInt8) : yTo (ginv c) 4 = gbox c := by
  refine forall_u8 (P := fun c => yTo (ginv c) 4 = gbox c) ?_ c
  decide +kernel

theorem boxes_all : fillTo (fun n => gbox (UInt8.ofNat n)) (List.replicate 256 0) 256 = boxTab := by decide +kernel

end Go.Proofs.YtgfljldegodpgaaDoor

namespace Go.Proofs.YtgfljldegodpgaaDoor
set_option linter.unusedVariables false
set_option linter.unusedSimpArgs false
open Go.RowKit

theorem infoInt : (Tryd.prog.info? 3).map (fun i => (i.zero, i.size, i.bytes)) = some (some (.int .i64 0), 1, 8) := by kernel_rfl

/-- make([]int, n) -/
theorem run_make_ints (n : Nat) (hn : n ≤ 1000000) (wx : World) :
    (Instr.makeSlice 68 (.int .i64 (n : Int)) (.int .i64 (n : Int))).run Tryd.prog wx = .ok (.slice (some ⟨wx.heap.size, 0, none⟩) n n) (wx.alloc (.cells ((List.replicate n (0 : UInt8)).map iv).toArray 3)) := by
  have h := run_make_row' (P := Tryd.prog) 68 3 (.int .i64 0) 8 Tryd.underlying68 infoInt rfl .i64 .i64 n (by omega) (by omega) wx
  rw [h]
  have e : madeCells #[Value.int .i64 0] n = ((List.replicate n (0 : UInt8)).map iv).toArray := by
    apply Array.ext
    · simp [size_madeCells]
    · intro i h1 h2
      simp [madeCells, Nat.mod_one]
  rw [e]

theorem int_cell {wr : World} {p : Nat} {b : List UInt8} {i : Nat} {t : TypeId} (h : wr.heap[p]? = some (.cells (b.map iv).toArray t)) (hi : i < b.length) : wr.cell? ⟨p, i, none⟩ = some (iv (b.getD i 0)) := by
  rw [cell_of_row _ _ _ _ _ _ h, List.getElem?_toArray, List.getElem?_map, List.getD_eq_getElem?_getD, List.getElem?_eq_getElem hi]
  rfl

structure ExpIn5 (w : World) (i : Nat) (wr : World) : Prop where
  exp : wr.heap[w.heap.size]? = some (.cells ((fillTo pow3 (List.replicate 256 0) i).map iv).toArray 3)
  log : wr.heap[w.heap.size + 1]? = some (.cells ((logTo i).map iv).toArray 3)
  size : wr.heap.size = w.heap.size + 1 + 1
  new : New w wr

theorem ExpIn5.put {w : World} {i : Nat} {wr : World} (h : ExpIn5 w i wr) : ExpIn5 w (i + 1) ((wr.setCell ⟨w.heap.size, i, none⟩ (iv (pow3 i))).setCell ⟨w.heap.size + 1, (pow3 i).toNat, none⟩ (iv (UInt8.ofNat i))) := by
  have h1 : (wr.setCell ⟨w.heap.size, i, none⟩ (iv (pow3 i))).heap[w.heap.size + 1]? = some (.cells ((logTo i).map iv).toArray 3) := by
    rw [heap_setCell_other _ _ _ _ (by show _ ≠ w.heap.size; omega)]; exact h.log
  refine ⟨?_, ?_, by simpa using h.size, (h.new.setCell (Nat.le_refl _) _).setCell (by show w.heap.size ≤ w.heap.size + 1; omega) _⟩
  · rw [heap_setCell_other _ _ _ _ (by show _ ≠ w.heap.size + 1; omega), heap_setCell_same _ _ _ _ _ _ h.exp, List.setIfInBounds_toArray, ← List.map_set]; rfl
  · rw [heap_setCell_same _ _ _ _ _ _ h1, List.setIfInBounds_toArray, ← List.map_set]; rfl

structure OutIn5 (w : World) (E : List UInt8) (i : Nat) (wr : World) : Prop where
  exp : wr.heap[w.heap.size]? = some (.cells (E.map iv).toArray 3)
  log : wr.heap[w.heap.size + 1]? = some (.cells (logTab.map iv).toArray 3)
  out : wr.heap[w.heap.size + 1 + 1]? = some (.cells ((fillTo (fun n => gbox (UInt8.ofNat n)) (List.replicate 256 0) i).map iv).toArray 3)
  new : New w wr

theorem OutIn5.put {w : World} {E : List UInt8} {i : Nat} {wr : World} (h : OutIn5 w E i wr) : OutIn5 w E (i + 1) (wr.setCell ⟨w.heap.size + 1 + 1, i, none⟩ (iv (gbox (UInt8.ofNat i)))) := by
  refine ⟨?_, ?_, ?_, h.new.setCell (by show w.heap.size ≤ w.heap.size + 1 + 1; omega) _⟩
  · rw [heap_setCell_other _ _ _ _ (by show _ ≠ w.heap.size + 1 + 1; omega)]; exact h.exp
  · rw [heap_setCell_other _ _ _ _ (by show _ ≠ w.heap.size + 1 + 1; omega)]; exact h.log
  · rw [heap_setCell_same _ _ _ _ _ _ h.out, List.setIfInBounds_toArray, ← List.map_set]; rfl

attribute [local go_sem] i64_bxor

set_option maxRecDepth 100000 in
set_option maxHeartbeats 1000000 in
theorem refBoxes5 (w : World) : Calls Tryd.prog 49 #[] w fun e w' => ∃ g, e = .returned (.slice (some ⟨g, 0, none⟩) 256 256) ∧ w.heap.size ≤ g ∧ w'.heap[g]? = some (.cells (boxTab.map iv).toArray 3) ∧ New w w' := by
  have mk := fun wx => run_make_ints 256 (by decide) wx
  rw [show ((256 : Nat) : Int) = 256 from rfl] at mk
  have HZ : Hid ((List.replicate 256 (0 : UInt8)).length = 256) := Lib.hid List.length_replicate
  obtain ⟨Z, HZE⟩ : ∃ Z, Hid (List.replicate 256 (0 : UInt8) = Z) := ⟨_, Lib.hid rfl⟩
  rw [HZE.out] at mk HZ
  go_enter Tryd.func49, Tryd.ntmps49
  go_upto_region 3 with fail
  generalize hw1 : World.alloc (World.alloc w _) _ = w1
  have hin : ExpIn5 w 0 w1 := by
    rw [← hw1, ← HZE.out]
    exact ⟨heap_alloc2_old _ _ _, heap_alloc2_new _ _ _, by simp, ((Below.refl _ _).alloc (Nat.le_refl _) _).alloc (by simp) _⟩
  clear hw1
  have HI0 := Lib.hid hin
  clear hin
  go_wp2
  go_loopw [3, 4] (fun x i wr => ∃ k : Nat, k ≤ 255 ∧ i = .int .i64 k ∧ x = iv (pow3 k) ∧ ExpIn5 w k wr) (fun _ i _ => 255 - (intOf i).toNat)
  case atStart => exact ⟨0, by omega, rfl, rfl, HI0.out⟩
  case round =>
    clear HI0
    obtain ⟨k, hk, rfl, rfl, hin⟩ := hrel
    by_cases hlt : k < 255
    · have hc1 := int_cell (i := k) hin.exp (by rw [fillTo_length, List.length_replicate]; omega)
      have hf1 := frozen_of_row _ _ k _ _ hin.exp
      have hx := u8_lt (pow3 k)
      have hc2 := int_cell (i := (pow3 k).toNat) hin.log (by rw [logTo_length]; exact hx)
      have hf2 := frozen_of_row _ _ (pow3 k).toNat _ _ hin.log
      have HP := Lib.hid hin.put
      have HS := Lib.hid (pow3_gmul k hlt)
      have h8 : (k : Int) < 255 := by omega
      have h9 : (k : Int) < 256 := by omega
      have E1 : Hid (((UInt8.ofNat k).toNat : Int) = (k : Int)) := by show _ = _; rw [UInt8.toNat_ofNat']; omega
      clear hin
      generalize UInt8.ofNat k = kk at HP E1
      generalize pow3 k = x at *
      generalize (logTo k).getD x.toNat 0 = z2 at hc2
      generalize List.getD (fillTo _ _ k) k 0 = z1 at hc1
      have h10 : (x.toNat : Int) < 256 := by omega
      go_wp2_with (go_at_call 69; refine (refMul5 _ _ 3).mono ?_; rintro e w' ⟨rfl, rfl⟩)
      go_roundw
      case rel =>
        refine ⟨k + 1, by omega, by go_num, by rw [HS.out], ?_⟩
        have h := HP.out
        unfold iv at h
        rw [E1.out] at h
        exact h
      case measure => simp [intOf]; omega
    · obtain rfl : k = 255 := by omega
      rw [show ((255 : Nat) : Int) = 255 from rfl]
      have hsz := hin.size
      go_upto_region 11 with fail
      generalize hw2 : World.alloc wr _ = w2
      have HPL : Hid (∀ i, i < 255 → (fillTo pow3 (List.replicate 256 0) 255).getD i 0 = pow3 i) := Lib.hid (fun i hi => fillTo_lt _ _ _ _ hi (by rw [List.length_replicate]; omega))
      have HLL : Hid ((fillTo pow3 (List.replicate 256 0) 255).length = 256) := by show _ = _; rw [fillTo_length, List.length_replicate]
      have hin2 : OutIn5 w (fillTo pow3 (List.replicate 256 0) 255) 0 w2 := by
        have hn2 : New wr w2 := by rw [← hw2]; exact (Below.refl _ _).alloc (Nat.le_refl _) _
        have hl := (hn2.block _ (lt_of_block hin.log)).trans hin.log
        rw [logTo_all] at hl
        refine ⟨(hn2.block _ (lt_of_block hin.exp)).trans hin.exp, hl, ?_, New.trans hin.new hn2⟩
        rw [← hw2, ← hsz, ← HZE.out]
        exact heap_alloc_new _ _
      clear hw2 hsz hin mk
      generalize fillTo pow3 (List.replicate 256 0) 255 = E at *
      have HI2 := Lib.hid hin2
      clear hin2
      go_wp2
      go_loopw [6] (fun c wr => ∃ k : Nat, k ≤ 256 ∧ c = .int .i64 k ∧ OutIn5 w E k wr) (fun c _ => 256 - (intOf c).toNat)
      case atStart => exact ⟨0, by omega, rfl, HI2.out⟩
      case round =>
        clear HI2
        obtain ⟨c, hc, rfl, hin⟩ := hrel
        by_cases hlt2 : c < 256
        · have HIN := Lib.hid hin
          have hoc := int_cell (i := c) hin.out (by rw [fillTo_length, List.length_replicate]; exact hlt2)
          have hof := frozen_of_row _ _ c _ _ hin.out
          have HP := Lib.hid hin.put
          have HY := Lib.hid (yTo_box (UInt8.ofNat c))
          have h256 : (c : Int) < 256 := by omega
          generalize List.getD (fillTo _ _ c) c 0 = oz at hoc
          obtain ⟨b, HBE⟩ : ∃ b, Hid (ginv (UInt8.ofNat c) = b) := ⟨_, Lib.hid rfl⟩
          rw [HBE.out] at HY
          by_cases hc0 : c = 0
          · have HB0 : Hid (b = 0) := by show _ = _; rw [← HBE.out, hc0]; exact ginv_0
            have hg : ¬ (0 : Int) < (c : Int) := by omega
            clear HIN hin hc0
            go_wp2
            go_loop [7, 8, 9] (fun v y k => ∃ j : Nat, j ≤ 4 ∧ k = .int .i64 j ∧ v = iv (rots b j) ∧ y = iv (yTo b j)) (fun _ _ k => 4 - (intOf k).toNat)
            case atStart => exact ⟨0, by omega, rfl, by rw [HB0.out]; rfl, by rw [HB0.out]; rfl⟩
            case round =>
              obtain ⟨j, hj, rfl, rfl, rfl⟩ := hrel
              by_cases hlt3 : j < 4
              · have HR : Hid (rots b (j + 1) = UInt8.ofNat (((rots b j).toNat * 2 + (rots b j).toNat / 128) % 256)) := Lib.hid rfl
                have HYS : Hid (yTo b (j + 1) = bxor (yTo b j) (rots b (j + 1))) := Lib.hid rfl
                have hj4 : (j : Int) < 4 := by omega
                have hx := u8_lt (rots b j)
                generalize rots b j = x at *
                have HST : Hid (((x.toNat : Int) * 2 + (x.toNat : Int) / 128) % 256 = ((rots b (j + 1)).toNat : Int)) := by
                  show _ = _
                  rw [HR.out, UInt8.toNat_ofNat']; omega
                generalize yTo b j = y at *
                have hx2 : (x.toNat : Int) < 256 := by omega
                go_wp2
                go_round
                case rel => exact ⟨j + 1, by omega, by go_num, congrArg (Value.int .i64) HST.out, by rw [HYS.out]; exact congrArg (Value.int .i64) (by rw [HST.out, i64_bxor])⟩
                case measure => simp [intOf]; omega
              · obtain rfl : j = 4 := by omega
                rw [show ((4 : Nat) : Int) = 4 from rfl, HY.out]
                generalize gbox (UInt8.ofNat c) = r at *
                go_wp2
                go_roundw
                case rel => exact ⟨c + 1, by omega, by go_num, HP.out⟩
                case measure => simp [intOf]; omega
          · have hg : (0 : Int) < (c : Int) := by omega
            have hcl := int_cell (i := c) hin.log (by show c < 256; exact hlt2)
            have hlt254 := logTab_lt c hlt2
            have HV := Lib.hid (logTab_inv c hlt2 hc0)
            rw [HBE.out] at HV
            have hm : (255 - (logTab.getD c 0).toNat) % 255 < 255 := Nat.mod_lt _ (by decide)
            have hce := int_cell (i := (255 - (logTab.getD c 0).toNat) % 255) hin.exp (by rw [HLL.out]; omega)
            rw [HPL.out _ hm, HV.out] at hce
            clear HV
            generalize logTab.getD c 0 = lc at *
            have H99 : Hid (bits .xor .i64 99 (b.toNat : Int) = ((yTo b 0).toNat : Int)) := Lib.hid (i64_bxor 99 b)
            have h9 : 0 ≤ 255 - (lc.toNat : Int) := by omega
            have h10 : ((255 - (lc.toNat : Int)) % 255).toNat = (255 - lc.toNat) % 255 := by omega
            have h11 : 0 ≤ (255 - (lc.toNat : Int)) % 255 := by omega
            have h12 : (255 - (lc.toNat : Int)) % 255 < 256 := by omega
            have h14 : (-(lc.toNat : Int) % 255).toNat = (255 - lc.toNat) % 255 := by omega
            have h15 : 0 ≤ -(lc.toNat : Int) % 255 := by omega
            have h16 : -(lc.toNat : Int) % 255 < 256 := by omega
            have h17 : (lc.toNat : Int) ≤ 254 := by omega
            generalize (255 - lc.toNat) % 255 = m at *
            clear HIN hin hc0 hm
            go_wp2
            clear h9 h10 h11 h12 h14 h15 h16 h17 hce hcl hlt254
            go_loop [7, 8, 9] (fun v y k => ∃ j : Nat, j ≤ 4 ∧ k = .int .i64 j ∧ v = iv (rots b j) ∧ y = iv (yTo b j)) (fun _ _ k => 4 - (intOf k).toNat)
            case atStart => exact ⟨0, by omega, rfl, rfl, congrArg (Value.int .i64) H99.out⟩
            case round =>
              obtain ⟨j, hj, rfl, rfl, rfl⟩ := hrel
              by_cases hlt3 : j < 4
              · have HR : Hid (rots b (j + 1) = UInt8.ofNat (((rots b j).toNat * 2 + (rots b j).toNat / 128) % 256)) := Lib.hid rfl
                have HYS : Hid (yTo b (j + 1) = bxor (yTo b j) (rots b (j + 1))) := Lib.hid rfl
                have hj4 : (j : Int) < 4 := by omega
                have hx := u8_lt (rots b j)
                generalize rots b j = x at *
                have HST : Hid (((x.toNat : Int) * 2 + (x.toNat : Int) / 128) % 256 = ((rots b (j + 1)).toNat : Int)) := by
                  show _ = _
                  rw [HR.out, UInt8.toNat_ofNat']; omega
                generalize yTo b j = y at *
                have hx2 : (x.toNat : Int) < 256 := by omega
                go_wp2
                go_round
                case rel => exact ⟨j + 1, by omega, by go_num, congrArg (Value.int .i64) HST.out, by rw [HYS.out]; exact congrArg (Value.int .i64) (by rw [HST.out, i64_bxor])⟩
                case measure => simp [intOf]; omega
              · obtain rfl : j = 4 := by omega
                rw [show ((4 : Nat) : Int) = 4 from rfl, HY.out]
                generalize gbox (UInt8.ofNat c) = r at *
                go_wp2
                go_roundw
                case rel => exact ⟨c + 1, by omega, by go_num, HP.out⟩
                case measure => simp [intOf]; omega
        · obtain rfl : c = 256 := by omega
          rw [show ((256 : Nat) : Int) = 256 from rfl]
          have ho := hin.out
          rw [boxes_all] at ho
          have HN := Lib.hid hin.new
          clear hin
          go_wp2
          go_ret
          exact ⟨_, rfl, by omega, ho, HN.out⟩

end Go.Proofs.YtgfljldegodpgaaDoor

namespace Go.Proofs.YtgfljldegodpgaaDoor
set_option linter.unusedVariables false
set_option linter.unusedSimpArgs false
open Go.RowKit

/-- the cells of a slice of ints -/
structure IRd (w : World) (g : Nat) (l : List UInt8) : Prop where
  cell : ∀ i, i < l.length → w.cell? ⟨g, i, none⟩ = some (iv (l.getD i 0))

theorem IRd.new {w w' : World} {g : Nat} {l : List UInt8} (h : IRd w g l) (hn : New w w') : IRd w' g l :=
  ⟨fun i hi => (hn.cell (World.block_lt_of_cell? w _ (h.cell i hi))).trans (h.cell i hi)⟩

theorem IRd.of_row {w : World} {g : Nat} {l : List UInt8} {t : TypeId} (h : w.heap[g]? = some (.cells (l.map iv).toArray t)) : IRd w g l := ⟨fun i hi => int_cell h hi⟩

theorem IRd.of_own {w : World} {base : Nat} {e : TypeId} {v : Value} {l : List UInt8} (h : w.ownsRow base e 1 v l.length (l.map iv)) (h0 : 0 < l.length) : ∃ g c, v = .slice (some ⟨g, 0, none⟩) l.length c ∧ l.length ≤ c ∧ c ≤ maxLen ∧ base ≤ g ∧ g < w.heap.size ∧ IRd w g l := by
  rcases h.2 with ⟨rfl, hz⟩ | ⟨g, cap, cur, rfl, hb, hg, hnc, hcm, hcs, htake⟩
  · omega
  · refine ⟨g, cap, rfl, hnc, hcm, hb, lt_of_block hg, ⟨fun i hi => ?_⟩⟩
    have := h.cells (g := g) rfl i (iv (l.getD i 0)) (by rw [List.getElem?_map, List.getD_eq_getElem?_getD, List.getElem?_eq_getElem hi]; rfl)
    rwa [Addr.add_lit, Nat.zero_add] at this

structure OwnI (w : World) (l : List UInt8) (v : Value) (wr : World) : Prop where
  own : wr.ownsRow w.heap.size 3 1 v l.length (l.map iv)
  new : New w wr

theorem OwnI.next {w : World} {l : List UInt8} {v : Value} {wr : World} {o : Obj} (h : OwnI w l v wr) {q : List UInt8} {v' : Value} {w' : World} (hown : w'.ownsRow w.heap.size 3 1 v' (l.length + q.length) (l.map iv ++ q.map iv)) (hg : (wr.alloc o).grownBy w' v.ownBlock) : OwnI w (l ++ q) v' w' := by
  refine ⟨by rw [List.length_append, List.map_append]; exact hown, Below.grown (h.new.alloc h.new.size o) hg (by have := h.new.size; simp; omega) (fun k hk => (h.own.lt k hk).1)⟩

theorem oneCell_iv (l : List UInt8) : ∀ u ∈ l.map iv, u.oneCell' = true := by
  intro u hu
  obtain ⟨b, _, rfl⟩ := List.mem_map.1 hu
  rfl

set_option maxRecDepth 100000 in
set_option maxHeartbeats 400000 in
theorem refInts5 (w : World) (l : List UInt8) (hl : l.length ≤ 1000) : Calls Tryd.prog 51 #[.string (bstr l)] w fun e w' => ∃ v, e = .returned v ∧ OwnI w l v w' := by
  obtain ⟨i0, hi0, hz0, hz1, hz2⟩ := info_parts infoInt
  have hz : (bstr l).size = l.length := bstr_size l
  go_enter Tryd.func51, Tryd.ntmps51
  go_wp2
  go_loopw [3, 4] (fun v i wr => ∃ k : Nat, k ≤ l.length ∧ i = .int .i64 k ∧ OwnI w (l.take k) v wr) (fun _ i _ => l.length - (intOf i).toNat)
  case atStart => exact ⟨0, Nat.zero_le _, rfl, ⟨World.ownsRow_nil w _ _ 1, Below.refl _ _⟩⟩
  case round =>
    obtain ⟨k, hk, rfl, hin⟩ := hrel
    by_cases hlt : k < l.length
    · obtain ⟨b, hb⟩ : ∃ b, l[k]? = some b := ⟨_, List.getElem?_eq_getElem hlt⟩
      have hix := fun wx => run_index_str wx l k b hb
      have hb1 := b.toNat_lt
      have w1' : IntKind.i64.wrap (b.toNat : Int) = (b.toNat : Int) := IntWalk.i64_in _ (by omega)
      have HT : Hid (l.take (k + 1) = l.take k ++ [b]) := by
        show _ = _
        rw [List.take_add_one, hb]; rfl
      have hL : (l.take k).length ≤ 1000 := by rw [List.length_take]; omega
      have HIN := Lib.hid hin
      have hsz := hin.new.size
      clear hin hb
      generalize l.take k = L at *
      go_wp2_with (at_builtin; refine wpList_append_own_at _ rfl _ _ 68 rfl w.heap.size 3 i0 _ 1 8 Tryd.underlying68 hi0 hz0 hz1 hz2 rfl (by decide) _ _ _ rfl (HIN.out.own.alloc _) ⟨wr.heap.size, 0, none⟩ 1 1 [iv b] rfl rfl (cell_one_new _ _ _) (oneCell_iv [b]) ?_ ?_ ?_ ?_)
      · simp only [maxLen]; omega
      · omega
      · simp; omega
      · intro v' w' hown' hg' _ _
        have HO := Lib.hid (HIN.out.next (q := [b]) hown' hg')
        clear hown' hg'
        go_wp2
        go_roundw
        case rel => exact ⟨k + 1, by omega, by go_num, by rw [HT.out]; exact HO.out⟩
        case measure => simp [intOf]; omega
    · obtain rfl : k = l.length := by omega
      rw [List.take_length] at hin
      go_wp2
      go_ret
      exact ⟨_, rfl, hin⟩

structure OwnT (w : World) (l : List UInt8) (v : Value) (wr : World) : Prop where
  own : wr.ownsRow w.heap.size 5 1 v l.length (l.map bv)
  new : New w wr

theorem OwnT.next {w : World} {l : List UInt8} {v : Value} {wr : World} {o : Obj} (h : OwnT w l v wr) {q : List UInt8} {v' : Value} {w' : World} (hown : w'.ownsRow w.heap.size 5 1 v' (l.length + q.length) (l.map bv ++ q.map bv)) (hg : (wr.alloc o).grownBy w' v.ownBlock) : OwnT w (l ++ q) v' w' := by
  refine ⟨by rw [List.length_append, List.map_append]; exact hown, Below.grown (h.new.alloc h.new.size o) hg (by have := h.new.size; simp; omega) (fun k hk => (h.own.lt k hk).1)⟩

theorem infoByte5 : (Tryd.prog.info? 5).map (fun i => (i.zero, i.size, i.bytes)) = some (some (.int .u8 0), 1, 1) := by kernel_rfl


end Go.Proofs.YtgfljldegodpgaaDoor

namespace Go.Proofs.YtgfljldegodpgaaDoor
set_option linter.unusedVariables false
set_option linter.unusedSimpArgs false
open Go.RowKit

/-- what the word in front gives, at word j + 4 -/
def tOf (W : List UInt8) (j : Nat) (p : UInt8) : List UInt8 :=
  if j % 4 = 0 then [bxor (gbox (W.getD (4 * j + 13) 0)) p, gbox (W.getD (4 * j + 14) 0), gbox (W.getD (4 * j + 15) 0), gbox (W.getD (4 * j + 12) 0)]
  else [W.getD (4 * j + 12) 0, W.getD (4 * j + 13) 0, W.getD (4 * j + 14) 0, W.getD (4 * j + 15) 0]

/-- word j + 4, its first k bytes -/
def wordTo (W t : List UInt8) (j : Nat) : Nat → List UInt8
  | 0 => []
  | k + 1 => wordTo W t j k ++ [bxor (W.getD (4 * j + k) 0) (t.getD k 0)]

/-- the round keys, j + 4 words -/
def wTo (key : List UInt8) : Nat → List UInt8
  | 0 => key
  | j + 1 => wTo key j ++ wordTo (wTo key j) (tOf (wTo key j) j (dbls 1 ((j + 3) / 4))) j 4

theorem wordTo_length (W t : List UInt8) (j k : Nat) : (wordTo W t j k).length = k := by
  induction k with
  | zero => rfl
  | succ k ih => unfold wordTo; rw [List.length_append, ih]; rfl

theorem wTo_length (key : List UInt8) (hk : key.length = 16) (j : Nat) : (wTo key j).length = 16 + 4 * j := by
  induction j with
  | zero => exact hk
  | succ j ih => unfold wTo; rw [List.length_append, ih, wordTo_length]; omega

theorem news_of {w : World} {g off : Nat} {L : List UInt8} (h : ∀ i, i < L.length → w.cell? ⟨g, off + i, none⟩ = some (iv (L.getD i 0))) : ∀ j u, (L.map iv)[j]? = some u → w.cell? ((⟨g, off, none⟩ : Addr).add j) = some u := by
  intro j u hj
  rw [List.getElem?_map] at hj
  cases hb : L[j]? with
  | none => rw [hb] at hj; cases hj
  | some b =>
    rw [hb] at hj
    cases hj
    have hlt : j < L.length := (List.getElem?_eq_some_iff.1 hb).1
    rw [Addr.add_lit, h j hlt, List.getD_eq_getElem?_getD, hb]
    rfl

theorem OwnI.drew {w : World} {l : List UInt8} {v : Value} {wr : World} (h : OwnI w l v wr) : OwnI w l v wr.drew := ⟨h.own, h.new.drew⟩

/-- what is behind is as it was, but for the row -/
theorem OwnI.old {w : World} {l : List UInt8} {v : Value} {wr w' : World} (h : OwnI w l v wr) (hn : New wr w') : OwnI w l v w' := by
  refine ⟨?_, New.trans h.new hn⟩
  refine h.own.kept (row := none) ⟨hn.os, hn.tape, hn.output, hn.size, fun k hk _ => hn.block k hk⟩ ?_
  cases hv : v.ownBlock with
  | none => exact .inl rfl
  | some k => right; simp

theorem run_sliceI (wx : World) (g n cap lo hi : Nat) (hlo : lo < hi) (hhi : hi ≤ cap) : (Instr.slice 68 (.slice (some ⟨g, 0, none⟩) n cap) (some (.int .i64 (lo : Int))) (some (.int .i64 (hi : Int))) none).run Tryd.prog wx = .ok (.slice (some ⟨g, lo, none⟩) (hi - lo) (cap - lo)) wx := by
  have hs : (sizeOf (Tryd.prog.elem 68)).run Tryd.prog wx = .ok 1 wx := by kernel_rfl
  rw [run_slice_lh wx 68 (some ⟨g, 0, none⟩) n cap (by kernel_rfl) .i64 .i64 _ _ (by omega) (by omega) (by omega), hs]
  simp only [Result.andThen_ok, sliced, Int.toNat_natCast, Nat.mul_one, Option.map_some]
  rw [if_neg (by omega), Addr.add_lit, Nat.zero_add]

attribute [local go_sem] i64_bxor

attribute [local go_sem] i64_bxor

attribute [local go_sem] i64_bxor

set_option maxRecDepth 100000 in
set_option maxHeartbeats 2000000 in
theorem refKeys5 (w : World) (gk ck gb : Nat) (key : List UInt8) (hk : IRd w gk key) (hkl : key.length = 16) (hb : IRd w gb boxTab) :
    Calls Tryd.prog 50 #[.slice (some ⟨gk, 0, none⟩) 16 ck, .slice (some ⟨gb, 0, none⟩) 256 256] w fun e w' => ∃ v, e = .returned v ∧ OwnI w (wTo key 40) v w' := by
  obtain ⟨i0, hi0, hz0, hz1, hz2⟩ := info_parts infoInt
  have HK := Lib.hid hk
  have HKL := Lib.hid hkl
  have HB := Lib.hid hb
  clear hk hkl hb
  have N0 : New w (w.alloc (.cells #[] 3)) := (Below.refl _ _).alloc (Nat.le_refl _) _
  go_enter Tryd.func50, Tryd.ntmps50
  go_wp2_with (at_builtin; refine wpList_append_own_at _ rfl _ _ 68 rfl w.heap.size 3 i0 _ 1 8 Tryd.underlying68 hi0 hz0 hz1 hz2 rfl (by decide) _ 0 [] rfl (World.ownsRow_made w #[] 0 (Nat.le_refl _) (Nat.zero_le _) rfl) ⟨gk, 0, none⟩ 16 ck (key.map iv) rfl (by rw [List.length_map, HKL.out]) (news_of (off := 0) (fun i hi => by rw [Nat.zero_add]; exact (HK.out.new N0).cell i hi)) (oneCell_iv key) (by simp [maxLen]) (by decide) N0.size ?_)
  intro v1 w1 hown1 hg1 _ _
  have HI1 : Hid (OwnI w key v1 w1) := by
    refine ⟨?_, Below.grown N0 hg1 N0.size (fun k hk => by simp [Value.ownBlock] at hk; omega)⟩
    rw [HKL.out]
    simpa using hown1
  clear hown1 hg1 N0
  go_wp2
  go_loopw [5, 6, 7] (fun v p i wr => ∃ j : Nat, j ≤ 40 ∧ i = .int .i64 ((j + 4 : Nat) : Int) ∧ p = iv (dbls 1 ((j + 3) / 4)) ∧ OwnI w (wTo key j) v wr) (fun _ _ i _ => 44 - (intOf i).toNat)
  case atStart => exact ⟨0, by omega, rfl, rfl, HI1.out⟩
  case round =>
    clear HI1
    obtain ⟨j, hj, rfl, rfl, hin⟩ := hrel
    by_cases hlt : j < 40
    · have hWL := wTo_length key HKL.out j
      have HS : Hid (wTo key (j + 1) = wTo key j ++ wordTo (wTo key j) (tOf (wTo key j) j (dbls 1 ((j + 3) / 4))) j 4) := Lib.hid rfl
      generalize wTo key j = W at *
      obtain ⟨g, c, rfl, hgc, hcm, hbg, hgl, hrd⟩ := IRd.of_own hin.own (by rw [hWL]; omega)
      obtain ⟨n, hn⟩ : ∃ n, n = W.length := ⟨_, rfl⟩
      rw [← hn] at hgc hin ⊢
      have HN : Hid (n = 16 + 4 * j) := by show _ = _; rw [hn, hWL]
      have HWN := Lib.hid hn.symm
      obtain ⟨m, Hm⟩ : ∃ m, Hid (j + 4 = m) := ⟨_, Lib.hid rfl⟩
      rw [Hm.out]
      have hm44 : (m : Int) < 44 := by rw [← Hm.out]; omega
      have hm4 : 4 ≤ m := by rw [← Hm.out]; omega
      have hmn : 4 * (m : Int) = (n : Int) := by rw [HN.out, ← Hm.out]; omega
      have hn4 : (n : Int) - 4 = ((n - 4 : Nat) : Int) := by have := HN.out; omega
      have hsl := fun wx => run_sliceI wx g n c (n - 4) n (by have := HN.out; omega) hgc
      rw [show n - (n - 4) = 4 by have := HN.out; omega] at hsl
      have HIN := Lib.hid hin
      have HRD := Lib.hid hrd
      have HL4 : Hid (4 ≤ n) := by show _ ≤ _; have := HN.out; omega
      have hn1000 : n ≤ 1000 := by have := HN.out; omega
      clear hin hrd hWL hn
      have N2 : New wr (wr.alloc (.cells #[] 3)) := (Below.refl _ _).alloc (Nat.le_refl _) _
      generalize hq : n - 4 = q at *
      have HL4c : Hid (∀ i, i < 4 → (wr.alloc (.cells #[] 3)).cell? ⟨g, q + i, none⟩ = some (iv (W.getD (q + i) 0))) := Lib.hid (fun i hi => (HRD.out.new N2).cell (q + i) (by rw [HWN.out]; have := HL4.out; omega))
      have HT4 : Hid (∀ i, i < [W.getD q 0, W.getD (q + 1) 0, W.getD (q + 2) 0, W.getD (q + 3) 0].length → (wr.alloc (.cells #[] 3)).cell? ⟨g, q + i, none⟩ = some (iv ([W.getD q 0, W.getD (q + 1) 0, W.getD (q + 2) 0, W.getD (q + 3) 0].getD i 0))) := by
        refine Lib.hid (fun i hi => ?_)
        have h4 : i = 0 ∨ i = 1 ∨ i = 2 ∨ i = 3 := by simp at hi; omega
        rcases h4 with rfl | rfl | rfl | rfl
        · exact HL4c.out 0 (by decide)
        · exact HL4c.out 1 (by decide)
        · exact HL4c.out 2 (by decide)
        · exact HL4c.out 3 (by decide)
      have HTO : Hid (∀ p, tOf W j p = if j % 4 = 0 then [bxor (gbox (W.getD (q + 1) 0)) p, gbox (W.getD (q + 2) 0), gbox (W.getD (q + 3) 0), gbox (W.getD q 0)] else [W.getD q 0, W.getD (q + 1) 0, W.getD (q + 2) 0, W.getD (q + 3) 0]) := by
        refine Lib.hid (fun p => ?_)
        have e : 4 * j + 12 = q := by have := HN.out; omega
        unfold tOf
        rw [show 4 * j + 13 = q + 1 by omega, show 4 * j + 14 = q + 2 by omega, show 4 * j + 15 = q + 3 by omega, e]
      clear HL4c
      generalize W.getD q 0 = x0 at *
      generalize W.getD (q + 1) 0 = x1 at *
      generalize W.getD (q + 2) 0 = x2 at *
      generalize W.getD (q + 3) 0 = x3 at *
      go_wp2_with (at_builtin; refine wpList_append_own_at _ rfl _ _ 68 rfl wr.heap.size 3 i0 _ 1 8 Tryd.underlying68 hi0 hz0 hz1 hz2 rfl (by decide) _ 0 [] rfl (World.ownsRow_made wr #[] 0 (Nat.le_refl _) (Nat.zero_le _) rfl) ⟨g, q, none⟩ 4 (c - q) ([x0, x1, x2, x3].map iv) rfl rfl (news_of HT4.out) (oneCell_iv [x0, x1, x2, x3]) (by simp [maxLen]) (by decide) N2.size ?_)
      intro v2 w2 hown2 hg2 _ _
      have hN2 : New wr w2 := Below.grown N2 hg2 N2.size (fun k hk => by simp [Value.ownBlock] at hk; omega)
      obtain ⟨gt, ct, rfl, hct, hctm, hgtb, hgtl, hrt⟩ := IRd.of_own (l := [x0, x1, x2, x3]) hown2 (by simp)
      have hne : gt ≠ g := by omega
      have HGL2 := Lib.hid (Nat.lt_of_lt_of_le hgl hN2.size)
      have HO2 := Lib.hid (HIN.out.old hN2)
      have HB2 := Lib.hid (HB.out.new (New.trans HIN.out.new hN2))
      have HRT := Lib.hid hrt
      have HGT := Lib.hid hgtl
      clear hown2 hg2 HT4 HIN hrt hsl HRD N2 hN2 hgtb hgtl hq
      rw [show ([x0, x1, x2, x3] : List UInt8).length = 4 from rfl] at hct ⊢
      by_cases hj4 : j % 4 = 0
      · have HPN : Hid (dbls 1 ((j + 1 + 3) / 4) = dbl (dbls 1 ((j + 3) / 4))) := by show _ = _; rw [show (j + 1 + 3) / 4 = (j + 3) / 4 + 1 by omega]; rfl
        rw [HTO.out, if_pos hj4] at HS
        generalize dbls 1 ((j + 3) / 4) = P at *
        have hmm : (((m : Int) % 4) == 0) = true := by rw [beq_iff_eq, ← Hm.out]; omega
        have hm0 : (0 : Int) ≤ m := by omega
        clear HTO
        have l0 := u8_lt x0
        have l1 := u8_lt x1
        have l2 := u8_lt x2
        have l3 := u8_lt x3
        have b0 : w2.drew.cell? ⟨gb, x0.toNat, none⟩ = some (iv (gbox x0)) := HB2.out.cell x0.toNat (by rw [boxTab_length]; exact l0)
        have b1 : w2.drew.cell? ⟨gb, x1.toNat, none⟩ = some (iv (gbox x1)) := HB2.out.cell x1.toNat (by rw [boxTab_length]; exact l1)
        have b2 : w2.drew.cell? ⟨gb, x2.toNat, none⟩ = some (iv (gbox x2)) := HB2.out.cell x2.toNat (by rw [boxTab_length]; exact l2)
        have b3 : w2.drew.cell? ⟨gb, x3.toNat, none⟩ = some (iv (gbox x3)) := HB2.out.cell x3.toNat (by rw [boxTab_length]; exact l3)
        have t0 : w2.drew.cell? ⟨gt, 0, none⟩ = some (iv x0) := HRT.out.cell 0 (by simp)
        have t1 : w2.drew.cell? ⟨gt, 1, none⟩ = some (iv x1) := HRT.out.cell 1 (by simp)
        have t2 : w2.drew.cell? ⟨gt, 2, none⟩ = some (iv x2) := HRT.out.cell 2 (by simp)
        have t3 : w2.drew.cell? ⟨gt, 3, none⟩ = some (iv x3) := HRT.out.cell 3 (by simp)
        have l0' : (x0.toNat : Int) < 256 := by omega
        have l1' : (x1.toNat : Int) < 256 := by omega
        have l2' : (x2.toNat : Int) < 256 := by omega
        have l3' : (x3.toNat : Int) < 256 := by omega
        generalize gbox x0 = z0 at *
        generalize gbox x1 = z1 at *
        generalize gbox x2 = z2 at *
        generalize gbox x3 = z3 at *
        have HO3 := Lib.hid HO2.out.drew
        clear HB2 HRT HO2
        go_wp2
        refine wp_region_still_tail 26 (by kernel_rfl) (by kernel_rfl) ?_
        simp only [List.take_succ_cons, List.take_zero, List.drop_succ_cons, List.drop_zero]
        change wpStill _ _ w2.drew (fun a' => wpList _ _ _ _ a' w2.drew) _ _
        have hdz : w2.drew.heap.size = w2.heap.size := rfl
        have HGD : Hid (g < w2.drew.heap.size) := by show _ < _; rw [hdz]; exact HGL2.out
        clear hdz HGT hne
        generalize w2.drew = wd at *
        repeat still_step
        refine wpStill_nil ?_
        clear b0 b1 b2 b3 t0 t1 t2 t3 l0' l1' l2' l3' l0 l1 l2 l3
        go_wp2_with (go_at_call 69; refine (refMul5 _ _ 2).mono ?_; rintro e w' ⟨rfl, rfl⟩)
        rw [gmul_2]
        have hne : wd.heap.size ≠ g := by have := HGD.out; omega
        have Nb : New wd (wd.alloc (.cells #[.int .i64 ((bxor z1 P).toNat : Int), iv z2, iv z3, iv z0] 3)) := (Below.refl _ _).alloc (Nat.le_refl _) _
        have HO0 := Lib.hid (HO3.out.old Nb)
        have HT0 : Hid (IRd (wd.alloc (.cells #[.int .i64 ((bxor z1 P).toNat : Int), iv z2, iv z3, iv z0] 3)) wd.heap.size [bxor z1 P, z2, z3, z0]) := Lib.hid (IRd.of_row (heap_alloc_new wd (.cells ([bxor z1 P, z2, z3, z0].map iv).toArray 3)))
        have HGT : Hid (wd.heap.size < (wd.alloc (.cells #[.int .i64 ((bxor z1 P).toNat : Int), iv z2, iv z3, iv z0] 3)).heap.size) := by show _ < _; simp
        have HTL : Hid ([bxor z1 P, z2, z3, z0].length = 4) := Lib.hid rfl
        generalize [bxor z1 P, z2, z3, z0] = T at *
        clear Nb HO3 HGD
        obtain ⟨gt', Hgt'⟩ : ∃ gt', Hid (wd.heap.size = gt') := ⟨_, Lib.hid rfl⟩
        rw [Hgt'.out] at HT0 HGT hne ⊢
        generalize wd.alloc _ = wi at *
        clear hct
        have hxx : True := trivial
        generalize gt' = gt at *
        go_loopw [5, 9] (fun v k wr => ∃ i : Nat, i ≤ 4 ∧ k = .int .i64 i ∧ OwnI w (W ++ wordTo W T j i) v wr ∧ IRd wr gt T ∧ gt < wr.heap.size ∧ v.ownBlock ≠ some gt) (fun _ k _ => 4 - (intOf k).toNat)
        case atStart => exact ⟨0, by omega, rfl, by rw [wordTo, List.append_nil]; exact HO0.out, HT0.out, HGT.out, by simp [Value.ownBlock]; exact fun h => hne h.symm⟩
        case round =>
          clear HO0 HT0 HGT
          obtain ⟨i, hi, rfl, hin, hrt, hgt, hnb⟩ := hrel
          by_cases hlti : i < 4
          · have hLL : (W ++ wordTo W T j i).length = n + i := by rw [List.length_append, HWN.out, wordTo_length]
            obtain ⟨g2, c2, rfl, hgc2, hcm2, hbg2, hgl2, hrd2⟩ := IRd.of_own hin.own (by rw [hLL]; have := HN.out; omega)
            have HSW : Hid (W ++ wordTo W T j (i + 1) = W ++ wordTo W T j i ++ [bxor (W.getD (4 * j + i) 0) (T.getD i 0)]) := by show _ = _; rw [wordTo, List.append_assoc]
            have hc1 := hrd2.cell (4 * j + i) (by rw [hLL, HN.out]; omega)
            rw [show (W ++ wordTo W T j i).getD (4 * j + i) 0 = W.getD (4 * j + i) 0 by rw [List.getD_eq_getElem?_getD, List.getElem?_append_left (by rw [HWN.out, HN.out]; omega), ← List.getD_eq_getElem?_getD]] at hc1
            have hc2 := hrt.cell i (by rw [HTL.out]; exact hlti)
            rw [hLL] at hgc2 hin ⊢
            have hi4 : (i : Int) < 4 := by omega
            obtain ⟨b4, Hb4⟩ : ∃ b4, Hid (4 * j = b4) := ⟨_, Lib.hid rfl⟩
            rw [Hb4.out] at hc1 HSW
            have a1 : IntKind.i64.wrap (n : Int) = (n : Int) := IntWalk.i64_in _ (by omega)
            have a2 : IntKind.i64.wrap ((n : Int) - 16) = (b4 : Int) := by rw [show (n : Int) - 16 = (b4 : Int) by rw [HN.out, ← Hb4.out]; omega]; exact IntWalk.i64_in _ (by have := Hb4.out; omega)
            have a3 : IntKind.i64.wrap ((b4 : Int) + (i : Int)) = ((b4 + i : Nat) : Int) := by rw [show (b4 : Int) + (i : Int) = ((b4 + i : Nat) : Int) by omega]; exact IntWalk.i64_in _ (by have := Hb4.out; omega)
            have a4 : b4 + i < n + i := by rw [HN.out, ← Hb4.out]; omega
            have HIN2 := Lib.hid hin.drew
            have HRT2 := Lib.hid hrt
            have HXI : Hid ((W ++ wordTo W T j i)[b4 + i]? = some (W.getD (b4 + i) 0)) := by
              show _ = _
              rw [List.getElem?_append_left (by rw [HWN.out, HN.out, ← Hb4.out]; omega), List.getD_eq_getElem?_getD, List.getElem?_eq_getElem (by rw [HWN.out, HN.out, ← Hb4.out]; omega)]; rfl
            generalize W ++ wordTo W T j i = V at *
            generalize W.getD (b4 + i) 0 = x at *
            generalize T.getD i 0 = y at *
            generalize b4 + i = ix at *
            have a5 : (ix : Int) < ((n + i : Nat) : Int) := by omega
            obtain ⟨nn, HNN⟩ : ∃ nn, Hid (n + i = nn) := ⟨_, Lib.hid rfl⟩
            rw [HNN.out] at a4 a5 HIN2 hLL ⊢
            have hnn : nn ≤ 1000 := by rw [← HNN.out]; omega
            have HLL := Lib.hid hLL
            have hsz2 : w.heap.size ≤ wr.heap.size := hin.new.size
            have hg2t : gt ≠ g2 := fun e => hnb (by rw [e]; rfl)
            clear hin hrt hrd2 hLL
            have hd1 : wr.drew.cell? ⟨g2, ix, none⟩ = some (iv x) := hc1
            have hd2 : wr.drew.cell? ⟨gt, i, none⟩ = some (iv y) := hc2
            clear hc1 hc2
            go_wp2
            have hdz : wr.drew.heap.size = wr.heap.size := rfl
            have HRT3 : Hid (IRd wr.drew gt T) := Lib.hid ⟨fun i hi => HRT2.out.cell i hi⟩
            rw [← hdz] at hsz2 hgt hgl2
            clear hdz HRT2
            have HD : Hid (wr.drew.cell? ⟨g2, ix, none⟩ = some (iv x) ∧ wr.drew.cell? ⟨gt, i, none⟩ = some (iv y)) := Lib.hid ⟨hd1, hd2⟩
            clear hd1 hd2
            refine region_ord (fun w' => w'.cell? ⟨g2, ix, none⟩ = some (iv x) ∧ w'.cell? ⟨gt, i, none⟩ = some (iv y)) [(0, true), (1, true), (2, true), (3, true), (4, true), (5, true), (6, true), (7, true), (8, true), (9, true), (10, true), (11, true), (12, true), (13, true), (14, false), (15, false), (16, true)] (by kernel_rfl) (by kernel_rfl) HD.out (fun _ => ?_)
            generalize wr.drew = wd at *
            iterate 14 (apply ord_take; (simp only [List.getElem?_toArray, List.getElem?_cons_succ, List.getElem?_cons_zero]; rfl); rfl; (intro w hSw; (try dsimp only at hSw); go_simp; try with_reducible rfl); intro _; try simp only [Act.put, List.setIfInBounds_toArray, List.set_cons_zero, List.set_cons_succ])
            (apply ord_only; (simp only [List.getElem?_toArray, List.getElem?_cons_succ, List.getElem?_cons_zero]; rfl); rfl; intro K hK)
            go_simp
            have Na : New wd (wd.alloc (.cells #[.int .i64 ((bxor x y).toNat : Int)] 3)) := (Below.refl _ _).alloc (Nat.le_refl _) _
            refine hK.out _ _ (⟨(Na.cell (p := ⟨g2, ix, none⟩) hgl2).trans HD.out.1, (Na.cell (p := ⟨gt, i, none⟩) hgt).trans HD.out.2⟩) (fun _ => ?_)
            clear hK K
            try simp only [Act.put, List.setIfInBounds_toArray, List.set_cons_zero, List.set_cons_succ]
            (apply ord_only; (simp only [List.getElem?_toArray, List.getElem?_cons_succ, List.getElem?_cons_zero]; rfl); rfl; intro K hK)
            have hown3 : (wd.alloc (.cells #[.int .i64 ((bxor x y).toNat : Int)] 3)).ownsRow w.heap.size 3 1 (.slice (some ⟨g2, 0, none⟩) nn c2) nn (V.map iv) := by
              have := HIN2.out.own
              rw [HLL.out] at this
              exact this.alloc _
            obtain ⟨v3, w3, hr3, ho3, hgr3, hob3, hkp3⟩ := run_append_keep (P := Tryd.prog) (wd.alloc (.cells #[.int .i64 ((bxor x y).toNat : Int)] 3)) w.heap.size 68 68 3 i0 _ 8 Tryd.underlying68 hi0 hz0 hz1 hz2 rfl g2 nn c2 (V.map iv) hown3 ⟨wd.heap.size, 0, none⟩ 1 1 [iv (bxor x y)] rfl (cell_one_new _ _ _) (oneCell_iv [bxor x y]) (by simp only [maxLen]; omega) (by omega) (by simp; omega)
            refine oper_append2 (.tmp 62) (.tmp 76) 68 68 rfl _ _ rfl rfl hr3 ?_
            have hct3 : w3.cell? ⟨gt, i, none⟩ = some (iv y) := (World.cell?_of_block (hgr3.block gt (Nat.lt_of_lt_of_le hgt Na.size) (by simpa using hg2t))).trans ((Na.cell (p := ⟨gt, i, none⟩) hgt).trans HD.out.2)
            have hcg3 : w3.cell? ⟨g2, ix, none⟩ = some (iv x) := hkp3 ix (iv x) (by rw [List.getElem?_map, HXI.out]; rfl)
            have HO3 : Hid (OwnI w (V ++ [bxor x y]) v3 w3) := by
              refine Lib.hid (HIN2.out.next (q := [bxor x y]) (o := .cells #[.int .i64 ((bxor x y).toNat : Int)] 3) ?_ hgr3)
              rw [HLL.out]
              exact ho3
            have HRT4 : Hid (IRd w3 gt T) := Lib.hid ⟨fun i hi => (World.cell?_of_block (hgr3.block gt (Nat.lt_of_lt_of_le hgt Na.size) (by simpa using hg2t))).trans ((HRT3.out.new Na).cell i hi)⟩
            have hgt3 : gt < w3.heap.size := Nat.lt_of_lt_of_le hgt (Nat.le_trans Na.size hgr3.size)
            have hnb3 : v3.ownBlock ≠ some gt := by
              rcases hob3 with h | h
              · rw [h]; simpa using fun e => hg2t e.symm
              · rw [h]; simp; omega
            clear hr3 ho3 hgr3 hob3 hkp3 hown3
            refine hK.out _ _ (⟨hcg3, hct3⟩) (fun _ => ?_)
            clear hK K
            try simp only [Act.put, List.setIfInBounds_toArray, List.set_cons_zero, List.set_cons_succ]
            iterate 1 (apply ord_take; (simp only [List.getElem?_toArray, List.getElem?_cons_succ, List.getElem?_cons_zero]; rfl); rfl; (intro w hSw; (try dsimp only at hSw); go_simp; try with_reducible rfl); intro _; try simp only [Act.put, List.setIfInBounds_toArray, List.set_cons_zero, List.set_cons_succ])
            apply ord_done
            clear a1 a2 a3 HD Na hct3 hcg3
            go_wp2
            go_roundw
            case rel => exact ⟨i + 1, by omega, by go_num, by rw [HSW.out]; exact HO3.out, HRT4.out, hgt3, hnb3⟩
            case measure => simp [intOf]; omega
          · obtain rfl : i = 4 := by omega
            rw [show ((4 : Nat) : Int) = 4 from rfl]
            rw [← HS.out] at hin
            go_wp2
            go_roundw
            case rel => exact ⟨j + 1, by omega, by rw [← Hm.out]; go_num, by rw [HPN.out], hin⟩
            case measure => simp [intOf]; omega
      · have HPN : Hid (dbls 1 ((j + 1 + 3) / 4) = dbls 1 ((j + 3) / 4)) := by show _ = _; rw [show (j + 1 + 3) / 4 = (j + 3) / 4 by omega]
        rw [HTO.out, if_neg hj4] at HS
        generalize dbls 1 ((j + 3) / 4) = P at *
        have hmm : (((m : Int) % 4) == 0) = false := by rw [beq_eq_false_iff_ne, ← Hm.out]; omega
        have hm0 : (0 : Int) ≤ m := by omega
        have HTL : Hid ([x0, x1, x2, x3].length = 4) := Lib.hid rfl
        clear HTO HB2
        generalize [x0, x1, x2, x3] = T at *
        go_wp2
        have HT0 := HRT
        have HO0 := HO2
        clear HRT HO2
        go_loopw [5, 9] (fun v k wr => ∃ i : Nat, i ≤ 4 ∧ k = .int .i64 i ∧ OwnI w (W ++ wordTo W T j i) v wr ∧ IRd wr gt T ∧ gt < wr.heap.size ∧ v.ownBlock ≠ some gt) (fun _ k _ => 4 - (intOf k).toNat)
        case atStart => exact ⟨0, by omega, rfl, by rw [wordTo, List.append_nil]; exact HO0.out, HT0.out, HGT.out, by simp [Value.ownBlock]; exact fun h => hne h.symm⟩
        case round =>
          clear HO0 HT0 HGT
          obtain ⟨i, hi, rfl, hin, hrt, hgt, hnb⟩ := hrel
          by_cases hlti : i < 4
          · have hLL : (W ++ wordTo W T j i).length = n + i := by rw [List.length_append, HWN.out, wordTo_length]
            obtain ⟨g2, c2, rfl, hgc2, hcm2, hbg2, hgl2, hrd2⟩ := IRd.of_own hin.own (by rw [hLL]; have := HN.out; omega)
            have HSW : Hid (W ++ wordTo W T j (i + 1) = W ++ wordTo W T j i ++ [bxor (W.getD (4 * j + i) 0) (T.getD i 0)]) := by show _ = _; rw [wordTo, List.append_assoc]
            have hc1 := hrd2.cell (4 * j + i) (by rw [hLL, HN.out]; omega)
            rw [show (W ++ wordTo W T j i).getD (4 * j + i) 0 = W.getD (4 * j + i) 0 by rw [List.getD_eq_getElem?_getD, List.getElem?_append_left (by rw [HWN.out, HN.out]; omega), ← List.getD_eq_getElem?_getD]] at hc1
            have hc2 := hrt.cell i (by rw [HTL.out]; exact hlti)
            rw [hLL] at hgc2 hin ⊢
            have hi4 : (i : Int) < 4 := by omega
            obtain ⟨b4, Hb4⟩ : ∃ b4, Hid (4 * j = b4) := ⟨_, Lib.hid rfl⟩
            rw [Hb4.out] at hc1 HSW
            have a1 : IntKind.i64.wrap (n : Int) = (n : Int) := IntWalk.i64_in _ (by omega)
            have a2 : IntKind.i64.wrap ((n : Int) - 16) = (b4 : Int) := by rw [show (n : Int) - 16 = (b4 : Int) by rw [HN.out, ← Hb4.out]; omega]; exact IntWalk.i64_in _ (by have := Hb4.out; omega)
            have a3 : IntKind.i64.wrap ((b4 : Int) + (i : Int)) = ((b4 + i : Nat) : Int) := by rw [show (b4 : Int) + (i : Int) = ((b4 + i : Nat) : Int) by omega]; exact IntWalk.i64_in _ (by have := Hb4.out; omega)
            have a4 : b4 + i < n + i := by rw [HN.out, ← Hb4.out]; omega
            have HIN2 := Lib.hid hin.drew
            have HRT2 := Lib.hid hrt
            have HXI : Hid ((W ++ wordTo W T j i)[b4 + i]? = some (W.getD (b4 + i) 0)) := by
              show _ = _
              rw [List.getElem?_append_left (by rw [HWN.out, HN.out, ← Hb4.out]; omega), List.getD_eq_getElem?_getD, List.getElem?_eq_getElem (by rw [HWN.out, HN.out, ← Hb4.out]; omega)]; rfl
            generalize W ++ wordTo W T j i = V at *
            generalize W.getD (b4 + i) 0 = x at *
            generalize T.getD i 0 = y at *
            generalize b4 + i = ix at *
            have a5 : (ix : Int) < ((n + i : Nat) : Int) := by omega
            obtain ⟨nn, HNN⟩ : ∃ nn, Hid (n + i = nn) := ⟨_, Lib.hid rfl⟩
            rw [HNN.out] at a4 a5 HIN2 hLL ⊢
            have hnn : nn ≤ 1000 := by rw [← HNN.out]; omega
            have HLL := Lib.hid hLL
            have hsz2 : w.heap.size ≤ wr.heap.size := hin.new.size
            have hg2t : gt ≠ g2 := fun e => hnb (by rw [e]; rfl)
            clear hin hrt hrd2 hLL
            have hd1 : wr.drew.cell? ⟨g2, ix, none⟩ = some (iv x) := hc1
            have hd2 : wr.drew.cell? ⟨gt, i, none⟩ = some (iv y) := hc2
            clear hc1 hc2
            go_wp2
            have hdz : wr.drew.heap.size = wr.heap.size := rfl
            have HRT3 : Hid (IRd wr.drew gt T) := Lib.hid ⟨fun i hi => HRT2.out.cell i hi⟩
            rw [← hdz] at hsz2 hgt hgl2
            clear hdz HRT2
            have HD : Hid (wr.drew.cell? ⟨g2, ix, none⟩ = some (iv x) ∧ wr.drew.cell? ⟨gt, i, none⟩ = some (iv y)) := Lib.hid ⟨hd1, hd2⟩
            clear hd1 hd2
            refine region_ord (fun w' => w'.cell? ⟨g2, ix, none⟩ = some (iv x) ∧ w'.cell? ⟨gt, i, none⟩ = some (iv y)) [(0, true), (1, true), (2, true), (3, true), (4, true), (5, true), (6, true), (7, true), (8, true), (9, true), (10, true), (11, true), (12, true), (13, true), (14, false), (15, false), (16, true)] (by kernel_rfl) (by kernel_rfl) HD.out (fun _ => ?_)
            generalize wr.drew = wd at *
            iterate 14 (apply ord_take; (simp only [List.getElem?_toArray, List.getElem?_cons_succ, List.getElem?_cons_zero]; rfl); rfl; (intro w hSw; (try dsimp only at hSw); go_simp; try with_reducible rfl); intro _; try simp only [Act.put, List.setIfInBounds_toArray, List.set_cons_zero, List.set_cons_succ])
            (apply ord_only; (simp only [List.getElem?_toArray, List.getElem?_cons_succ, List.getElem?_cons_zero]; rfl); rfl; intro K hK)
            go_simp
            have Na : New wd (wd.alloc (.cells #[.int .i64 ((bxor x y).toNat : Int)] 3)) := (Below.refl _ _).alloc (Nat.le_refl _) _
            refine hK.out _ _ (⟨(Na.cell (p := ⟨g2, ix, none⟩) hgl2).trans HD.out.1, (Na.cell (p := ⟨gt, i, none⟩) hgt).trans HD.out.2⟩) (fun _ => ?_)
            clear hK K
            try simp only [Act.put, List.setIfInBounds_toArray, List.set_cons_zero, List.set_cons_succ]
            (apply ord_only; (simp only [List.getElem?_toArray, List.getElem?_cons_succ, List.getElem?_cons_zero]; rfl); rfl; intro K hK)
            have hown3 : (wd.alloc (.cells #[.int .i64 ((bxor x y).toNat : Int)] 3)).ownsRow w.heap.size 3 1 (.slice (some ⟨g2, 0, none⟩) nn c2) nn (V.map iv) := by
              have := HIN2.out.own
              rw [HLL.out] at this
              exact this.alloc _
            obtain ⟨v3, w3, hr3, ho3, hgr3, hob3, hkp3⟩ := run_append_keep (P := Tryd.prog) (wd.alloc (.cells #[.int .i64 ((bxor x y).toNat : Int)] 3)) w.heap.size 68 68 3 i0 _ 8 Tryd.underlying68 hi0 hz0 hz1 hz2 rfl g2 nn c2 (V.map iv) hown3 ⟨wd.heap.size, 0, none⟩ 1 1 [iv (bxor x y)] rfl (cell_one_new _ _ _) (oneCell_iv [bxor x y]) (by simp only [maxLen]; omega) (by omega) (by simp; omega)
            refine oper_append2 (.tmp 62) (.tmp 76) 68 68 rfl _ _ rfl rfl hr3 ?_
            have hct3 : w3.cell? ⟨gt, i, none⟩ = some (iv y) := (World.cell?_of_block (hgr3.block gt (Nat.lt_of_lt_of_le hgt Na.size) (by simpa using hg2t))).trans ((Na.cell (p := ⟨gt, i, none⟩) hgt).trans HD.out.2)
            have hcg3 : w3.cell? ⟨g2, ix, none⟩ = some (iv x) := hkp3 ix (iv x) (by rw [List.getElem?_map, HXI.out]; rfl)
            have HO3 : Hid (OwnI w (V ++ [bxor x y]) v3 w3) := by
              refine Lib.hid (HIN2.out.next (q := [bxor x y]) (o := .cells #[.int .i64 ((bxor x y).toNat : Int)] 3) ?_ hgr3)
              rw [HLL.out]
              exact ho3
            have HRT4 : Hid (IRd w3 gt T) := Lib.hid ⟨fun i hi => (World.cell?_of_block (hgr3.block gt (Nat.lt_of_lt_of_le hgt Na.size) (by simpa using hg2t))).trans ((HRT3.out.new Na).cell i hi)⟩
            have hgt3 : gt < w3.heap.size := Nat.lt_of_lt_of_le hgt (Nat.le_trans Na.size hgr3.size)
            have hnb3 : v3.ownBlock ≠ some gt := by
              rcases hob3 with h | h
              · rw [h]; simpa using fun e => hg2t e.symm
              · rw [h]; simp; omega
            clear hr3 ho3 hgr3 hob3 hkp3 hown3
            refine hK.out _ _ (⟨hcg3, hct3⟩) (fun _ => ?_)
            clear hK K
            try simp only [Act.put, List.setIfInBounds_toArray, List.set_cons_zero, List.set_cons_succ]
            iterate 1 (apply ord_take; (simp only [List.getElem?_toArray, List.getElem?_cons_succ, List.getElem?_cons_zero]; rfl); rfl; (intro w hSw; (try dsimp only at hSw); go_simp; try with_reducible rfl); intro _; try simp only [Act.put, List.setIfInBounds_toArray, List.set_cons_zero, List.set_cons_succ])
            apply ord_done
            clear a1 a2 a3 HD Na hct3 hcg3
            go_wp2
            go_roundw
            case rel => exact ⟨i + 1, by omega, by go_num, by rw [HSW.out]; exact HO3.out, HRT4.out, hgt3, hnb3⟩
            case measure => simp [intOf]; omega
          · obtain rfl : i = 4 := by omega
            rw [show ((4 : Nat) : Int) = 4 from rfl]
            rw [← HS.out] at hin
            go_wp2
            go_roundw
            case rel => exact ⟨j + 1, by omega, by rw [← Hm.out]; go_num, by rw [HPN.out], hin⟩
            case measure => simp [intOf]; omega
    · obtain rfl : j = 40 := by omega
      rw [show ((40 + 4 : Nat) : Int) = 44 from rfl]
      go_wp2
      go_ret
      exact ⟨_, rfl, hin⟩

end Go.Proofs.YtgfljldegodpgaaDoor

namespace Go.Proofs.YtgfljldegodpgaaDoor
set_option linter.unusedVariables false
set_option linter.unusedSimpArgs false
open Go.RowKit

def zero16 : List UInt8 := List.replicate 16 0
def mrow : List UInt8 := [2, 3, 1, 1]

/-- a byte replaced, its row turned -/
def sAt (B : List UInt8) (n : Nat) : UInt8 := gbox (B.getD (4 * ((n / 4 + n % 4) % 4) + n % 4) 0)
def sOf (B : List UInt8) : List UInt8 := fillTo (sAt B) zero16 16

/-- a column's product, k parts of it -/
def xTo (S : List UInt8) (c row : Nat) : Nat → UInt8
  | 0 => 0
  | k + 1 => bxor (xTo S c row k) (gmul (S.getD (4 * c + k) 0) (mrow.getD ((k + 4 - row) % 4) 0))

def bAt (S Wl : List UInt8) (r n : Nat) : UInt8 := bxor (if r < 10 then xTo S (n / 4) (n % 4) 4 else S.getD n 0) (Wl.getD (16 * r + n) 0)

/-- the reference's block behind r rounds -/
def refEnc (Wl b : List UInt8) : Nat → List UInt8
  | 0 => fillTo (fun n => bxor (b.getD n 0) (Wl.getD n 0)) zero16 16
  | r + 1 => fillTo (bAt (sOf (refEnc Wl b r)) Wl (r + 1)) (refEnc Wl b r) 16

theorem refEnc_length (Wl b : List UInt8) (r : Nat) : (refEnc Wl b r).length = 16 := by
  induction r with
  | zero => unfold refEnc; rw [fillTo_length]; rfl
  | succ r ih => unfold refEnc; rw [fillTo_length, ih]

theorem sOf_length (B : List UInt8) : (sOf B).length = 16 := fillTo_length _ _ _

/-- the block and the matrix's row -/
structure R0 (w : World) (B : List UInt8) (wr : World) : Prop where
  b : wr.heap[w.heap.size]? = some (.cells (B.map iv).toArray 3)
  m : wr.heap[w.heap.size + 1]? = some (.cells (mrow.map iv).toArray 3)
  new : New w wr

/-- and the block of a round -/
structure R1 (w : World) (gs : Nat) (B S : List UInt8) (wr : World) : Prop where
  b : wr.heap[w.heap.size]? = some (.cells (B.map iv).toArray 3)
  m : wr.heap[w.heap.size + 1]? = some (.cells (mrow.map iv).toArray 3)
  s : wr.heap[gs]? = some (.cells (S.map iv).toArray 3)
  far : w.heap.size + 1 < gs
  new : New w wr

section
variable {w wr : World} {gs : Nat} {B S : List UInt8}

theorem R1.setB (h : R1 w gs B S wr) (i : Nat) (x : UInt8) : R1 w gs (B.set i x) S (wr.setCell ⟨w.heap.size, i, none⟩ (iv x)) := by
  have hf := h.far
  refine ⟨?_, ?_, ?_, hf, h.new.setCell (Nat.le_refl _) _⟩
  · rw [heap_setCell_same _ _ _ _ _ _ h.b, List.setIfInBounds_toArray, ← List.map_set]
  · rw [heap_setCell_other _ _ _ _ (by show _ ≠ w.heap.size; omega)]; exact h.m
  · rw [heap_setCell_other _ _ _ _ (by show _ ≠ w.heap.size; omega)]; exact h.s

theorem R1.setS (h : R1 w gs B S wr) (i : Nat) (x : UInt8) : R1 w gs B (S.set i x) (wr.setCell ⟨gs, i, none⟩ (iv x)) := by
  have hf := h.far
  refine ⟨?_, ?_, ?_, hf, h.new.setCell (by show w.heap.size ≤ gs; omega) _⟩
  · rw [heap_setCell_other _ _ _ _ (by show _ ≠ gs; omega)]; exact h.b
  · rw [heap_setCell_other _ _ _ _ (by show _ ≠ gs; omega)]; exact h.m
  · rw [heap_setCell_same _ _ _ _ _ _ h.s, List.setIfInBounds_toArray, ← List.map_set]

theorem R1.drew (h : R1 w gs B S wr) : R1 w gs B S wr.drew := ⟨h.b, h.m, h.s, h.far, h.new.drew⟩
end

/-- the first block, being made -/
structure RA (w : World) (B : List UInt8) (wr : World) : Prop where
  b : wr.heap[w.heap.size]? = some (.cells (B.map iv).toArray 3)
  size : wr.heap.size = w.heap.size + 1
  new : New w wr

theorem RA.setB {w wr : World} {B : List UInt8} (h : RA w B wr) (i : Nat) (x : UInt8) : RA w (B.set i x) (wr.setCell ⟨w.heap.size, i, none⟩ (iv x)) := by
  refine ⟨?_, by simpa using h.size, h.new.setCell (Nat.le_refl _) _⟩
  rw [heap_setCell_same _ _ _ _ _ _ h.b, List.setIfInBounds_toArray, ← List.map_set]

theorem RA.drew {w wr : World} {B : List UInt8} (h : RA w B wr) : RA w B wr.drew := ⟨h.b, h.size, h.new.drew⟩

attribute [local go_sem] i64_bxor

set_option maxRecDepth 100000 in
set_option maxHeartbeats 4000000 in
theorem refBlock5 (w : World) (gw cw gb gB cB : Nat) (Wl b : List UInt8) (hw : IRd w gw Wl) (hwl : Wl.length = 176) (hbx : IRd w gb boxTab) (hb : IRd w gB b) (hbl : b.length = 16) :
    Calls Tryd.prog 53 #[.slice (some ⟨gw, 0, none⟩) 176 cw, .slice (some ⟨gb, 0, none⟩) 256 256, .slice (some ⟨gB, 0, none⟩) 16 cB] w fun e w' => ∃ g, e = .returned (.slice (some ⟨g, 0, none⟩) 16 16) ∧ w.heap.size ≤ g ∧ w'.heap[g]? = some (.cells ((refEnc Wl b 10).map iv).toArray 3) ∧ New w w' := by
  have HW := Lib.hid hw
  have HWL := Lib.hid hwl
  have HBX := Lib.hid hbx
  have HB := Lib.hid hb
  have HBL := Lib.hid hbl
  clear hw hwl hbx hb hbl
  have mk := fun wx => run_make_ints 16 (by decide) wx
  rw [show ((16 : Nat) : Int) = 16 from rfl, show List.replicate 16 (0 : UInt8) = zero16 from rfl] at mk
  have HZL : Hid (zero16.length = 16) := Lib.hid rfl
  obtain ⟨Z, HZE⟩ : ∃ Z, Hid (zero16 = Z) := ⟨_, Lib.hid rfl⟩
  rw [HZE.out] at mk HZL
  go_enter Tryd.func53, Tryd.ntmps53
  go_upto_region 2 with fail
  have HI0 : Hid (RA w Z (w.alloc (.cells (Z.map iv).toArray 3))) := Lib.hid ⟨heap_alloc_new _ _, by simp, (Below.refl _ _).alloc (Nat.le_refl _) _⟩
  generalize w.alloc _ = w1 at *
  go_wp2
  go_loopw [8] (fun i wr => ∃ j : Nat, j ≤ 16 ∧ i = .int .i64 j ∧ RA w (fillTo (fun n => bxor (b.getD n 0) (Wl.getD n 0)) Z j) wr) (fun i _ => 16 - (intOf i).toNat)
  case atStart => exact ⟨0, by omega, rfl, HI0.out⟩
  case round =>
    clear HI0
    obtain ⟨j, hj, rfl, hin⟩ := hrel
    by_cases hlt : j < 16
    · have hd := hin.drew
      have hc0 := int_cell (i := j) hd.b (by rw [fillTo_length, HZL.out]; exact hlt)
      have hf := frozen_of_row _ _ j _ _ hd.b
      have hc1 := (HB.out.new hd.new).cell j (by rw [HBL.out]; exact hlt)
      have hc2 := (HW.out.new hd.new).cell j (by rw [HWL.out]; omega)
      have HP := Lib.hid (hd.setB j (bxor (b.getD j 0) (Wl.getD j 0)))
      have HF : Hid (fillTo (fun n => bxor (b.getD n 0) (Wl.getD n 0)) Z (j + 1) = (fillTo (fun n => bxor (b.getD n 0) (Wl.getD n 0)) Z j).set j (bxor (b.getD j 0) (Wl.getD j 0))) := Lib.hid rfl
      generalize List.getD (fillTo _ Z j) j 0 = z at hc0
      generalize b.getD j 0 = x at hc1 HP HF
      generalize Wl.getD j 0 = y at hc2 HP HF
      have h16 : (j : Int) < 16 := by omega
      have h176 : (j : Int) < 176 := by omega
      clear hin hd mk
      go_wp2
      refine wp_region_still_tail 12 (by kernel_rfl) (by kernel_rfl) ?_
      simp only [List.take_succ_cons, List.take_zero, List.drop_succ_cons, List.drop_zero]
      change wpStill _ _ wr.drew (fun a' => wpList _ _ _ _ a' wr.drew) _ _
      generalize wr.drew = wd at *
      repeat still_step
      refine wpStill_nil ?_
      go_wp2
      go_roundw
      case rel =>
        refine ⟨j + 1, by omega, by go_num, ?_⟩
        rw [HF.out]
        exact HP.out
      case measure => simp [intOf]; omega
    · obtain rfl : j = 16 := by omega
      rw [show ((16 : Nat) : Int) = 16 from rfl]
      have HE0 : Hid (fillTo (fun n => bxor (b.getD n 0) (Wl.getD n 0)) Z 16 = refEnc Wl b 0) := by show _ = _; rw [← HZE.out]; rfl
      rw [HE0.out] at hin
      have hsz := hin.size
      go_upto_region 7 with fail
      have HI1 : Hid (R0 w (refEnc Wl b 0) (wr.alloc (.cells #[.int .i64 2, .int .i64 3, .int .i64 1, .int .i64 1] 3))) := by
        have Nm : New wr (wr.alloc (.cells #[.int .i64 2, .int .i64 3, .int .i64 1, .int .i64 1] 3)) := (Below.refl _ _).alloc (Nat.le_refl _) _
        refine Lib.hid ⟨(Nm.block _ (lt_of_block hin.b)).trans hin.b, ?_, New.trans hin.new Nm⟩
        rw [← hsz]
        exact heap_alloc_new _ _
      clear hin hsz HE0
      generalize wr.alloc _ = w2 at *
      go_wp2
      go_loopw [10] (fun r wr => ∃ j : Nat, j ≤ 10 ∧ r = .int .i64 ((j + 1 : Nat) : Int) ∧ R0 w (refEnc Wl b j) wr) (fun r _ => 11 - (intOf r).toNat)
      case atStart => exact ⟨0, by omega, rfl, HI1.out⟩
      case round =>
        clear HI1
        obtain ⟨r, hr, rfl, hin⟩ := hrel
        by_cases hltr : r < 10
        · have HBL2 := Lib.hid (refEnc_length Wl b r)
          have HES : Hid (refEnc Wl b (r + 1) = fillTo (bAt (sOf (refEnc Wl b r)) Wl (r + 1)) (refEnc Wl b r) 16) := Lib.hid rfl
          generalize refEnc Wl b r = B at *
          obtain ⟨rr, Hrr⟩ : ∃ rr, Hid (r + 1 = rr) := ⟨_, Lib.hid rfl⟩
          rw [Hrr.out] at HES ⊢
          have hrr10 : (rr : Int) ≤ 10 := by rw [← Hrr.out]; omega
          have hrr1 : 1 ≤ rr := by rw [← Hrr.out]; omega
          have HI2 : Hid (R1 w wr.heap.size B Z (wr.alloc (.cells (Z.map iv).toArray 3))) := by
            have Nm : New wr (wr.alloc (.cells (Z.map iv).toArray 3)) := (Below.refl _ _).alloc (Nat.le_refl _) _
            exact Lib.hid ⟨(Nm.block _ (lt_of_block hin.b)).trans hin.b, (Nm.block _ (lt_of_block hin.m)).trans hin.m, heap_alloc_new _ _, lt_of_block hin.m, New.trans hin.new Nm⟩
          clear hin
          go_upto_region 11 with fail
          generalize wr.alloc _ = w3 at *
          generalize wr.heap.size = gs at *
          clear mk
          go_wp2
          go_loopw [12] (fun c wr => ∃ j : Nat, j ≤ 4 ∧ c = .int .i64 j ∧ R1 w gs B (fillTo (sAt B) Z (4 * j)) wr) (fun c _ => 4 - (intOf c).toNat)
          case atStart => exact ⟨0, by omega, rfl, HI2.out⟩
          case round =>
            clear HI2
            obtain ⟨c, hc, rfl, hin⟩ := hrel
            by_cases hltc : c < 4
            · have hc4 : (c : Int) < 4 := by omega
              have HI3 := Lib.hid hin
              clear hin
              go_wp2
              go_loopw [13] (fun x wr => ∃ j : Nat, j ≤ 4 ∧ x = .int .i64 j ∧ R1 w gs B (fillTo (sAt B) Z (4 * c + j)) wr) (fun x _ => 4 - (intOf x).toNat)
              case atStart => exact ⟨0, by omega, rfl, HI3.out⟩
              case round =>
                clear HI3
                obtain ⟨row, hrow, rfl, hin⟩ := hrel
                by_cases hltw : row < 4
                · have hrow4 : (row : Int) < 4 := by omega
                  have HSA : Hid (sAt B (4 * c + row) = gbox (B.getD (4 * ((c + row) % 4) + row) 0)) := by
                    show _ = _
                    unfold sAt
                    rw [show (4 * c + row) / 4 = c by omega, show (4 * c + row) % 4 = row by omega]
                  have HF : Hid (fillTo (sAt B) Z (4 * c + (row + 1)) = (fillTo (sAt B) Z (4 * c + row)).set (4 * c + row) (sAt B (4 * c + row))) := Lib.hid rfl
                  obtain ⟨u, Hu⟩ : ∃ u, Hid ((c + row) % 4 = u) := ⟨_, Lib.hid rfl⟩
                  have hu4 : u < 4 := by rw [← Hu.out]; exact Nat.mod_lt _ (by decide)
                  rw [Hu.out] at HSA
                  have e1 : ((c : Int) + (row : Int)) % 4 = (u : Int) := by rw [← Hu.out]; omega
                  obtain ⟨v, Hv⟩ : ∃ v, Hid (4 * u + row = v) := ⟨_, Lib.hid rfl⟩
                  rw [Hv.out] at HSA
                  have e2 : 4 * (u : Int) + (row : Int) = (v : Int) := by rw [← Hv.out]; omega
                  have hv16 : v < 16 := by rw [← Hv.out]; omega
                  obtain ⟨n, Hn⟩ : ∃ n, Hid (4 * c + row = n) := ⟨_, Lib.hid rfl⟩
                  have e3 : 4 * (c : Int) + (row : Int) = (n : Int) := by rw [← Hn.out]; omega
                  have hn16 : n < 16 := by rw [← Hn.out]; omega
                  rw [Hn.out] at HSA HF hin
                  have hc1 := int_cell (i := v) hin.b (by rw [HBL2.out]; exact hv16)
                  have hx := u8_lt (B.getD v 0)
                  have hc2 : wr.cell? ⟨gb, (B.getD v 0).toNat, none⟩ = some (iv (gbox (B.getD v 0))) := (HBX.out.new hin.new).cell (B.getD v 0).toNat (by rw [boxTab_length]; exact hx)
                  have hc3 := int_cell (i := n) hin.s (by rw [fillTo_length, HZL.out]; exact hn16)
                  have hf := frozen_of_row _ _ n _ _ hin.s
                  have HP := Lib.hid (hin.setS n (sAt B n))
                  rw [← HF.out, HSA.out] at HP
                  generalize List.getD (fillTo _ Z n) n 0 = z at hc3
                  generalize B.getD v 0 = x at *
                  generalize gbox x = y at *
                  have hx' : (x.toNat : Int) < 256 := by omega
                  have hv' : (v : Int) < 16 := by omega
                  have hn' : (n : Int) < 16 := by omega
                  clear hin
                  go_wp2
                  go_roundw
                  case rel => exact ⟨row + 1, by omega, by go_num, HP.out⟩
                  case measure => simp [intOf]; omega
                · obtain rfl : row = 4 := by omega
                  rw [show ((4 : Nat) : Int) = 4 from rfl]
                  rw [show 4 * c + 4 = 4 * (c + 1) by omega] at hin
                  go_wp2
                  go_roundw
                  case rel => exact ⟨c + 1, by omega, by go_num, hin⟩
                  case measure => simp [intOf]; omega
            · obtain rfl : c = 4 := by omega
              rw [show ((4 : Nat) : Int) = 4 from rfl]
              have HSO : Hid (fillTo (sAt B) Z (4 * 4) = sOf B) := by show _ = _; rw [← HZE.out]; rfl
              rw [HSO.out] at hin
              have HSL := Lib.hid (sOf_length B)
              generalize sOf B = S at *
              have HI4 : Hid (R1 w gs (fillTo (bAt S Wl rr) B 0) S wr) := Lib.hid hin
              clear hin HSO
              go_wp2
              go_loopw [14] (fun c wr => ∃ j : Nat, j ≤ 4 ∧ c = .int .i64 j ∧ R1 w gs (fillTo (bAt S Wl rr) B (4 * j)) S wr) (fun c _ => 4 - (intOf c).toNat)
              case atStart => exact ⟨0, by omega, rfl, HI4.out⟩
              case round =>
                clear HI4
                obtain ⟨c, hc, rfl, hin⟩ := hrel
                by_cases hltc : c < 4
                · have hc4 : (c : Int) < 4 := by omega
                  have HI5 := Lib.hid hin
                  clear hin
                  go_wp2
                  go_loopw [15] (fun x wr => ∃ j : Nat, j ≤ 4 ∧ x = .int .i64 j ∧ R1 w gs (fillTo (bAt S Wl rr) B (4 * c + j)) S wr) (fun x _ => 4 - (intOf x).toNat)
                  case atStart => exact ⟨0, by omega, rfl, HI5.out⟩
                  case round =>
                    clear HI5
                    obtain ⟨row, hrow, rfl, hin⟩ := hrel
                    by_cases hltw : row < 4
                    · have hrow4 : (row : Int) < 4 := by omega
                      have HBA : Hid (bAt S Wl rr (4 * c + row) = bxor (if rr < 10 then xTo S c row 4 else S.getD (4 * c + row) 0) (Wl.getD (16 * rr + (4 * c + row)) 0)) := by
                        show _ = _
                        unfold bAt
                        rw [show (4 * c + row) / 4 = c by omega, show (4 * c + row) % 4 = row by omega]
                      have HF : Hid (fillTo (bAt S Wl rr) B (4 * c + (row + 1)) = (fillTo (bAt S Wl rr) B (4 * c + row)).set (4 * c + row) (bAt S Wl rr (4 * c + row))) := Lib.hid rfl
                      have HXS : Hid (∀ k, xTo S c row (k + 1) = bxor (xTo S c row k) (gmul (S.getD (4 * c + k) 0) (mrow.getD ((k + 4 - row) % 4) 0))) := Lib.hid (fun _ => rfl)
                      obtain ⟨c4, Hc4⟩ : ∃ c4, Hid (4 * c = c4) := ⟨_, Lib.hid rfl⟩
                      have e5 : 4 * (c : Int) = (c4 : Int) := by rw [← Hc4.out]; omega
                      have hc412 : c4 ≤ 12 := by rw [← Hc4.out]; omega
                      rw [Hc4.out] at HBA HF hin HXS
                      obtain ⟨n, Hn⟩ : ∃ n, Hid (c4 + row = n) := ⟨_, Lib.hid rfl⟩
                      have e3 : (c4 : Int) + (row : Int) = (n : Int) := by rw [← Hn.out]; omega
                      have hn16 : n < 16 := by rw [← Hn.out]; omega
                      rw [Hn.out] at HBA HF hin
                      obtain ⟨r16, Hr16⟩ : ∃ x, Hid (16 * rr = x) := ⟨_, Lib.hid rfl⟩
                      have e6 : 16 * (rr : Int) = (r16 : Int) := by rw [← Hr16.out]; omega
                      have hr160 : r16 ≤ 160 := by rw [← Hr16.out]; omega
                      obtain ⟨p1, Hp1⟩ : ∃ x, Hid (r16 + c4 = x) := ⟨_, Lib.hid rfl⟩
                      have e7 : (r16 : Int) + (c4 : Int) = (p1 : Int) := by rw [← Hp1.out]; omega
                      obtain ⟨q, Hq⟩ : ∃ x, Hid (p1 + row = x) := ⟨_, Lib.hid rfl⟩
                      have e8 : (p1 : Int) + (row : Int) = (q : Int) := by rw [← Hq.out]; omega
                      have hq176 : q < 176 := by have h1 := Hq.out; have h2 := Hp1.out; have h3 := Hn.out; omega
                      rw [show 16 * rr + n = q by have h1 := Hq.out; have h2 := Hp1.out; have h3 := Hn.out; have h4 := Hr16.out; omega] at HBA
                      have hcs := int_cell (i := n) hin.s (by rw [HSL.out]; exact hn16)
                      have HC2 := Lib.hid ((HW.out.new hin.new).cell q (by rw [HWL.out]; exact hq176))
                      obtain ⟨y, HYQ⟩ : ∃ y, Hid (Wl.getD q 0 = y) := ⟨_, Lib.hid rfl⟩
                      rw [HYQ.out] at HBA HC2
                      have hn' : (n : Int) < 16 := by omega
                      have hq' : (q : Int) < 176 := by omega
                      have HIN := Lib.hid hin
                      generalize hFB : fillTo (bAt S Wl rr) B n = F at *
                      have HFL : Hid (F.length = 16) := by show _ = _; rw [← hFB, fillTo_length, HBL2.out]
                      clear hin hFB
                      by_cases hr10 : rr < 10
                      · have hr10' : (rr : Int) < 10 := by omega
                        rw [if_pos hr10] at HBA
                        generalize S.getD n 0 = sn at hcs
                        go_wp2
                        go_loopw [16, 17] (fun x k wr => ∃ j : Nat, j ≤ 4 ∧ k = .int .i64 j ∧ x = iv (xTo S c row j) ∧ R1 w gs F S wr) (fun _ k _ => 4 - (intOf k).toNat)
                        case atStart => exact ⟨0, by omega, rfl, rfl, HIN.out⟩
                        case round =>
                          clear hcs HC2 HIN
                          obtain ⟨k, hk, rfl, rfl, hin⟩ := hrel
                          by_cases hltk : k < 4
                          · have hk4 : (k : Int) < 4 := by omega
                            have HX1 := Lib.hid (HXS.out k)
                            obtain ⟨nk, Hnk⟩ : ∃ x, Hid (c4 + k = x) := ⟨_, Lib.hid rfl⟩
                            have e9 : (c4 : Int) + (k : Int) = (nk : Int) := by rw [← Hnk.out]; omega
                            have hnk16 : nk < 16 := by rw [← Hnk.out]; omega
                            obtain ⟨u4, Hu4⟩ : ∃ x, Hid (k + 4 - row = x) := ⟨_, Lib.hid rfl⟩
                            have e11 : (k : Int) - (row : Int) + 4 = (u4 : Int) := by rw [← Hu4.out]; omega
                            obtain ⟨u, Hu⟩ : ∃ x, Hid (u4 % 4 = x) := ⟨_, Lib.hid rfl⟩
                            have e12 : (u4 : Int).tmod 4 = (u : Int) := by rw [Int.tmod_eq_emod_of_nonneg (by omega), ← Hu.out]; omega
                            have hu4 : u < 4 := by rw [← Hu.out]; exact Nat.mod_lt _ (by decide)
                            rw [Hnk.out, Hu4.out, Hu.out] at HX1
                            have hd := hin.drew
                            have hc1 := int_cell (i := nk) hd.s (by rw [HSL.out]; exact hnk16)
                            have hc2 := int_cell (i := u) hd.m (by show u < 4; exact hu4)
                            generalize S.getD nk 0 = sx at *
                            generalize mrow.getD u 0 = my at *
                            have v1 : IntKind.i64.wrap (c4 : Int) = (c4 : Int) := IntWalk.i64_in _ (by omega)
                            have v2 : IntKind.i64.wrap (nk : Int) = (nk : Int) := IntWalk.i64_in _ (by omega)
                            have v3 : IntKind.i64.wrap ((k : Int) - (row : Int)) = (k : Int) - (row : Int) := IntWalk.i64_in _ (by omega)
                            have hu47 : u4 ≤ 7 := by rw [← Hu4.out]; omega
                            have v4 : IntKind.i64.wrap (u4 : Int) = (u4 : Int) := IntWalk.i64_in _ (by omega)
                            have hu' : (u : Int) < 4 := by omega
                            have hnk' : (nk : Int) < 16 := by omega
                            have HD := Lib.hid hd
                            generalize xTo S c row k = xx at *
                            clear hin hd
                            go_wp2
                            refine region_ord (fun w' => w'.cell? ⟨gs, nk, none⟩ = some (iv sx) ∧ w'.cell? ⟨w.heap.size + 1, u, none⟩ = some (iv my)) [(0, true), (1, true), (2, true), (3, true), (4, true), (5, true), (6, true), (7, true), (8, true), (9, true), (10, true), (11, true), (12, true), (13, true), (14, true), (15, true), (16, false), (17, true), (18, true)] (by kernel_rfl) (by kernel_rfl) ⟨hc1, hc2⟩ (fun _ => ?_)
                            generalize wr.drew = wd at *
                            iterate 16 (apply ord_take; (simp only [List.getElem?_toArray, List.getElem?_cons_succ, List.getElem?_cons_zero]; rfl); rfl; (intro w hSw; (try dsimp only at hSw); go_simp; try with_reducible rfl); intro _; try simp only [Act.put, List.setIfInBounds_toArray, List.set_cons_zero, List.set_cons_succ])
                            (apply ord_only; (simp only [List.getElem?_toArray, List.getElem?_cons_succ, List.getElem?_cons_zero]; rfl); rfl; intro K hK)
                            go_simp
                            refine (refMul5 wd sx my).mono ?_
                            rintro e w' ⟨rfl, rfl⟩
                            refine hK.out _ _ (⟨hc1, hc2⟩) (fun _ => ?_)
                            clear hK K
                            try simp only [Act.put, List.setIfInBounds_toArray, List.set_cons_zero, List.set_cons_succ]
                            iterate 2 (apply ord_take; (simp only [List.getElem?_toArray, List.getElem?_cons_succ, List.getElem?_cons_zero]; rfl); rfl; (intro w hSw; (try dsimp only at hSw); go_simp; try with_reducible rfl); intro _; try simp only [Act.put, List.setIfInBounds_toArray, List.set_cons_zero, List.set_cons_succ])
                            apply ord_done
                            clear v1 v2 v3 v4 e11 e12 hc1 hc2
                            go_wp2
                            go_roundw
                            case rel => exact ⟨k + 1, by omega, by go_num, by rw [HX1.out], HD.out⟩
                            case measure => simp [intOf]; omega
                          · obtain rfl : k = 4 := by omega
                            rw [show ((4 : Nat) : Int) = 4 from rfl]
                            have hcw : wr.cell? ⟨gw, q, none⟩ = some (iv y) := by rw [← HYQ.out]; exact (HW.out.new hin.new).cell q (by rw [HWL.out]; exact hq176)
                            have hcb := int_cell (i := n) hin.b (by rw [HFL.out]; exact hn16)
                            have hf := frozen_of_row _ _ n _ _ hin.b
                            have HP := Lib.hid (hin.setB n (bAt S Wl rr n))
                            rw [← HF.out, HBA.out] at HP
                            generalize xTo S c row 4 = xx at *
                            generalize F.getD n 0 = z at hcb
                            clear hin
                            go_wp2
                            go_roundw
                            case rel => exact ⟨row + 1, by omega, by go_num, by rw [Hc4.out]; exact HP.out⟩
                            case measure => simp [intOf]; omega
                      · have hr10' : ¬ (rr : Int) < 10 := by omega
                        rw [if_neg hr10] at HBA
                        have hcw := HC2.out
                        have hcb := int_cell (i := n) HIN.out.b (by rw [HFL.out]; exact hn16)
                        have hf := frozen_of_row _ _ n _ _ HIN.out.b
                        have HP := Lib.hid (HIN.out.setB n (bAt S Wl rr n))
                        rw [← HF.out, HBA.out] at HP
                        generalize S.getD n 0 = sn at *
                        generalize F.getD n 0 = z at hcb
                        clear HIN HC2
                        go_wp2
                        go_roundw
                        case rel => exact ⟨row + 1, by omega, by go_num, by rw [Hc4.out]; exact HP.out⟩
                        case measure => simp [intOf]; omega
                    · obtain rfl : row = 4 := by omega
                      rw [show ((4 : Nat) : Int) = 4 from rfl]
                      rw [show 4 * c + 4 = 4 * (c + 1) by omega] at hin
                      go_wp2
                      go_roundw
                      case rel => exact ⟨c + 1, by omega, by go_num, hin⟩
                      case measure => simp [intOf]; omega
                · obtain rfl : c = 4 := by omega
                  rw [show ((4 : Nat) : Int) = 4 from rfl]
                  rw [show 4 * 4 = 16 from rfl, ← HES.out] at hin
                  have HR0 : Hid (R0 w (refEnc Wl b (r + 1)) wr) := by rw [Hrr.out]; exact Lib.hid ⟨hin.b, hin.m, hin.new⟩
                  clear hin
                  go_wp2
                  go_roundw
                  case rel => exact ⟨r + 1, by omega, by rw [← Hrr.out]; go_num, HR0.out⟩
                  case measure => simp [intOf]; omega
        · obtain rfl : r = 10 := by omega
          rw [show ((10 + 1 : Nat) : Int) = 11 from rfl]
          have hb := hin.b
          have HN := Lib.hid hin.new
          clear hin
          go_wp2
          go_ret
          exact ⟨_, rfl, Nat.le_refl _, hb, HN.out⟩

end Go.Proofs.YtgfljldegodpgaaDoor

namespace Go.Proofs.YtgfljldegodpgaaDoor
set_option linter.unusedVariables false
set_option linter.unusedSimpArgs false

theorem ext16 (a b : List UInt8) (ha : a.length = 16) (hb : b.length = 16) (h : ∀ i, i < 16 → a.getD i 0 = b.getD i 0) : a = b := by
  apply List.ext_getElem (by omega)
  intro i h1 h2
  have := h i (by omega)
  rwa [List.getD_eq_getElem?_getD, List.getD_eq_getElem?_getD, List.getElem?_eq_getElem h1, List.getElem?_eq_getElem h2] at this

theorem fill_inj {f g : Nat → UInt8} {l m : List UInt8} (hl : l.length = 16) (hm : m.length = 16) (h : fillTo f l 16 = fillTo g m 16) (i : Nat) (hi : i < 16) : f i = g i := by
  rw [← fillTo_lt f l 16 i hi (by omega), ← fillTo_lt g m 16 i hi (by omega), h]

theorem addB_inj (a b k : List UInt8) (ha : a.length = 16) (hb : b.length = 16) (h : addB a k = addB b k) : a = b :=
  ext16 a b ha hb fun i hi => bxor_inj _ _ _ (fill_inj ha hb h i hi)

theorem repB_inj (a b : List UInt8) (ha : a.length = 16) (hb : b.length = 16) (h : repB a = repB b) : a = b :=
  ext16 a b ha hb fun i hi => (gbox_inj _ _).1 (fill_inj ha hb h i hi)

theorem rot_onto : ∀ j, j < 16 → ∃ i, i < 16 ∧ (i + 4 * (i % 4)) % 16 = j := by
  intro j hj
  exact ⟨(j + 12 * (j % 4)) % 16, by omega, by omega⟩

theorem rotB_inj (a b : List UInt8) (ha : a.length = 16) (hb : b.length = 16) (h : rotB a = rotB b) : a = b :=
  ext16 a b ha hb fun j hj => by
    obtain ⟨i, hi, rfl⟩ := rot_onto j hj
    exact fill_inj rfl rfl h i hi

/-- the products by 9, 11, 13, 14 -/
def m9 (x : UInt8) : UInt8 := bxor (dbl (dbl (dbl x))) x
def m11 (x : UInt8) : UInt8 := bxor (dbl (dbl (dbl x))) (bxor (dbl x) x)
def m13 (x : UInt8) : UInt8 := bxor (dbl (dbl (dbl x))) (bxor (dbl (dbl x)) x)
def m14 (x : UInt8) : UInt8 := bxor (dbl (dbl (dbl x))) (bxor (dbl (dbl x)) (dbl x))
def un4 (p q r s : UInt8) : UInt8 := bxor (m14 p) (bxor (m11 q) (bxor (m13 r) (m9 s)))

theorem un4_mix (a b c d : UInt8) : un4 (mix4 a b c d) (mix4 b c d a) (mix4 c d a b) (mix4 d a b c) = a := by
  unfold un4 m14 m11 m13 m9 mix4
  simp only [dbl_xor]
  generalize dbl (dbl (dbl (dbl a))) = a4
  generalize dbl (dbl (dbl a)) = a3
  generalize dbl (dbl a) = a2
  generalize dbl a = a1
  generalize dbl (dbl (dbl (dbl b))) = b4
  generalize dbl (dbl (dbl b)) = b3
  generalize dbl (dbl b) = b2
  generalize dbl b = b1
  generalize dbl (dbl (dbl (dbl c))) = c4
  generalize dbl (dbl (dbl c)) = c3
  generalize dbl (dbl c) = c2
  generalize dbl c = c1
  generalize dbl (dbl (dbl (dbl d))) = d4
  generalize dbl (dbl (dbl d)) = d3
  generalize dbl (dbl d) = d2
  generalize dbl d = d1
  simp only [bxor_assoc, bxor_comm, bxor_left_comm, bxor_self, bxor_cancel, bxor_0, bxor_0']

theorem mixB_inj (a b : List UInt8) (ha : a.length = 16) (hb : b.length = 16) (h : mixB a = mixB b) : a = b := by
  have hm : ∀ i, i < 16 → mixAt a i = mixAt b i := fun i hi => fill_inj rfl rfl h i hi
  have key : ∀ (l : List UInt8) (i : Nat), i < 16 → l.getD i 0 = un4 (mixAt l i) (mixAt l (i - i % 4 + (i % 4 + 1) % 4)) (mixAt l (i - i % 4 + (i % 4 + 2) % 4)) (mixAt l (i - i % 4 + (i % 4 + 3) % 4)) := by
    intro l i hi
    have h16 : i = 0 ∨ i = 1 ∨ i = 2 ∨ i = 3 ∨ i = 4 ∨ i = 5 ∨ i = 6 ∨ i = 7 ∨ i = 8 ∨ i = 9 ∨ i = 10 ∨ i = 11 ∨ i = 12 ∨ i = 13 ∨ i = 14 ∨ i = 15 := by omega
    rcases h16 with rfl | rfl | rfl | rfl | rfl | rfl | rfl | rfl | rfl | rfl | rfl | rfl | rfl | rfl | rfl | rfl <;> exact (un4_mix _ _ _ _).symm
  refine ext16 a b ha hb fun i hi => ?_
  rw [key a i hi, key b i hi, hm i hi, hm _ (by omega), hm _ (by omega), hm _ (by omega)]

theorem enc_inj (key a b : List UInt8) (ha : a.length = 16) (hb : b.length = 16) (r : Nat) (h : enc key a r = enc key b r) : a = b := by
  induction r with
  | zero => exact addB_inj a b key ha hb h
  | succ r ih =>
    unfold enc at h
    have la : (repB (enc key a r)).length = 16 := by rw [repB_length, enc_length key a ha]
    have lb : (repB (enc key b r)).length = 16 := by rw [repB_length, enc_length key b hb]
    have h1 : rotB (repB (enc key a r)) = rotB (repB (enc key b r)) := by
      by_cases h9 : r < 9
      · rw [if_pos h9, if_pos h9] at h
        exact mixB_inj _ _ (rotB_length _) (rotB_length _) (addB_inj _ _ _ (mixB_length _) (mixB_length _) h)
      · rw [if_neg h9, if_neg h9] at h
        exact addB_inj _ _ _ (rotB_length _) (rotB_length _) h
    exact ih (repB_inj _ _ (enc_length key a ha r) (enc_length key b hb r) (rotB_inj _ _ la lb h1))

end Go.Proofs.YtgfljldegodpgaaDoor

namespace Go.Proofs.YtgfljldegodpgaaDoor
set_option linter.unusedVariables false
set_option linter.unusedSimpArgs false

theorem getD_app (F L : List UInt8) (n m : Nat) (h : n = F.length + m) : (F ++ L).getD n 0 = L.getD m 0 := by
  subst h
  rw [List.getD_eq_getElem?_getD, List.getElem?_append_right (by omega), Nat.add_sub_cancel_left, ← List.getD_eq_getElem?_getD]

theorem getD_left (F L : List UInt8) (n : Nat) (h : n < F.length) : (F ++ L).getD n 0 = F.getD n 0 := by
  rw [List.getD_eq_getElem?_getD, List.getElem?_append_left h, ← List.getD_eq_getElem?_getD]

theorem tOf_shift (F L : List UInt8) (r i : Nat) (hF : F.length = 16 * r) (p : UInt8) : tOf (F ++ L) (4 * r + i) p = tOf L i p := by
  unfold tOf
  rw [show (4 * r + i) % 4 = i % 4 by omega, getD_app F L (4 * (4 * r + i) + 12) (4 * i + 12) (by omega), getD_app F L (4 * (4 * r + i) + 13) (4 * i + 13) (by omega), getD_app F L (4 * (4 * r + i) + 14) (4 * i + 14) (by omega), getD_app F L (4 * (4 * r + i) + 15) (4 * i + 15) (by omega)]

theorem wordTo_shift (F L t : List UInt8) (r i : Nat) (hF : F.length = 16 * r) (k : Nat) : wordTo (F ++ L) t (4 * r + i) k = wordTo L t i k := by
  induction k with
  | zero => rfl
  | succ k ih => unfold wordTo; rw [ih, getD_app F L (4 * (4 * r + i) + k) (4 * i + k) (by omega)]

theorem wTo_shift (key F L : List UInt8) (r i : Nat) (hF : F.length = 16 * r) (h : wTo key (4 * r + i) = F ++ L) :
    wTo key (4 * r + i + 1) = F ++ (L ++ wordTo L (tOf L i (dbls 1 ((4 * r + i + 3) / 4))) i 4) := by
  rw [wTo, h, tOf_shift F L r i hF, wordTo_shift F L _ r i hF, List.append_assoc]

theorem list16 (l : List UInt8) (h : l.length = 16) : ∃ a0 a1 a2 a3 a4 a5 a6 a7 a8 a9 a10 a11 a12 a13 a14 a15, l = [a0, a1, a2, a3, a4, a5, a6, a7, a8, a9, a10, a11, a12, a13, a14, a15] := by
  match l, h with
  | [a0, a1, a2, a3, a4, a5, a6, a7, a8, a9, a10, a11, a12, a13, a14, a15], _ => exact ⟨_, _, _, _, _, _, _, _, _, _, _, _, _, _, _, _, rfl⟩

theorem word0 (a0 a1 a2 a3 a4 a5 a6 a7 a8 a9 a10 a11 a12 a13 a14 a15 P : UInt8) : wordTo [a0, a1, a2, a3, a4, a5, a6, a7, a8, a9, a10, a11, a12, a13, a14, a15] (tOf [a0, a1, a2, a3, a4, a5, a6, a7, a8, a9, a10, a11, a12, a13, a14, a15] 0 P) 0 4 = [bxor a0 (bxor (gbox a13) P), bxor a1 (gbox a14), bxor a2 (gbox a15), bxor a3 (gbox a12)] := by kernel_rfl

theorem word1 (a0 a1 a2 a3 a4 a5 a6 a7 a8 a9 a10 a11 a12 a13 a14 a15 b0 b1 b2 b3 P : UInt8) : wordTo [a0, a1, a2, a3, a4, a5, a6, a7, a8, a9, a10, a11, a12, a13, a14, a15, b0, b1, b2, b3] (tOf [a0, a1, a2, a3, a4, a5, a6, a7, a8, a9, a10, a11, a12, a13, a14, a15, b0, b1, b2, b3] 1 P) 1 4 = [bxor a4 b0, bxor a5 b1, bxor a6 b2, bxor a7 b3] := by kernel_rfl

theorem word2 (a0 a1 a2 a3 a4 a5 a6 a7 a8 a9 a10 a11 a12 a13 a14 a15 b0 b1 b2 b3 b4 b5 b6 b7 P : UInt8) : wordTo [a0, a1, a2, a3, a4, a5, a6, a7, a8, a9, a10, a11, a12, a13, a14, a15, b0, b1, b2, b3, b4, b5, b6, b7] (tOf [a0, a1, a2, a3, a4, a5, a6, a7, a8, a9, a10, a11, a12, a13, a14, a15, b0, b1, b2, b3, b4, b5, b6, b7] 2 P) 2 4 = [bxor a8 b4, bxor a9 b5, bxor a10 b6, bxor a11 b7] := by kernel_rfl

theorem word3 (a0 a1 a2 a3 a4 a5 a6 a7 a8 a9 a10 a11 a12 a13 a14 a15 b0 b1 b2 b3 b4 b5 b6 b7 b8 b9 b10 b11 P : UInt8) : wordTo [a0, a1, a2, a3, a4, a5, a6, a7, a8, a9, a10, a11, a12, a13, a14, a15, b0, b1, b2, b3, b4, b5, b6, b7, b8, b9, b10, b11] (tOf [a0, a1, a2, a3, a4, a5, a6, a7, a8, a9, a10, a11, a12, a13, a14, a15, b0, b1, b2, b3, b4, b5, b6, b7, b8, b9, b10, b11] 3 P) 3 4 = [bxor a12 b8, bxor a13 b9, bxor a14 b10, bxor a15 b11] := by kernel_rfl

theorem nextK_at (a0 a1 a2 a3 a4 a5 a6 a7 a8 a9 a10 a11 a12 a13 a14 a15 P : UInt8) : nextK [a0, a1, a2, a3, a4, a5, a6, a7, a8, a9, a10, a11, a12, a13, a14, a15] P = (fun n0 n1 n2 n3 => (fun n4 n5 n6 n7 => (fun n8 n9 n10 n11 => [n0, n1, n2, n3, n4, n5, n6, n7, n8, n9, n10, n11, bxor a12 n8, bxor a13 n9, bxor a14 n10, bxor a15 n11]) (bxor a8 n4) (bxor a9 n5) (bxor a10 n6) (bxor a11 n7)) (bxor a4 n0) (bxor a5 n1) (bxor a6 n2) (bxor a7 n3)) (bxor (bxor a0 P) (gbox a13)) (bxor a1 (gbox a14)) (bxor a2 (gbox a15)) (bxor a3 (gbox a12)) := by kernel_rfl

theorem words4 (K : List UInt8) (h : K.length = 16) (P P1 P2 P3 : UInt8) (L1 L2 L3 : List UInt8) (h1 : L1 = K ++ wordTo K (tOf K 0 P) 0 4) (h2 : L2 = L1 ++ wordTo L1 (tOf L1 1 P1) 1 4) (h3 : L3 = L2 ++ wordTo L2 (tOf L2 2 P2) 2 4) :
    L3 ++ wordTo L3 (tOf L3 3 P3) 3 4 = K ++ nextK K P := by
  obtain ⟨a0, a1, a2, a3, a4, a5, a6, a7, a8, a9, a10, a11, a12, a13, a14, a15, rfl⟩ := list16 K h
  have e : bxor a0 (bxor (gbox a13) P) = bxor (bxor a0 P) (gbox a13) := by
    rw [bxor_assoc, bxor_comm P]
  rw [word0, e] at h1
  rw [nextK_at]
  simp only
  generalize bxor (bxor a0 P) (gbox a13) = n0 at *
  generalize bxor a1 (gbox a14) = n1 at *
  generalize bxor a2 (gbox a15) = n2 at *
  generalize bxor a3 (gbox a12) = n3 at *
  simp only [List.cons_append, List.nil_append] at h1
  subst h1
  rw [word1] at h2
  generalize bxor a4 n0 = n4 at *
  generalize bxor a5 n1 = n5 at *
  generalize bxor a6 n2 = n6 at *
  generalize bxor a7 n3 = n7 at *
  simp only [List.cons_append, List.nil_append] at h2
  subst h2
  rw [word2] at h3
  generalize bxor a8 n4 = n8 at *
  generalize bxor a9 n5 = n9 at *
  generalize bxor a10 n6 = n10 at *
  generalize bxor a11 n7 = n11 at *
  simp only [List.cons_append, List.nil_append] at h3
  subst h3
  rw [word3]
  rfl

theorem wTo_next (key F : List UInt8) (r : Nat) (hk : key.length = 16) (hF : F.length = 16 * r) (h : wTo key (4 * r) = F ++ rk key r) : wTo key (4 * (r + 1)) = F ++ (rk key r ++ rk key (r + 1)) := by
  have h1 := wTo_shift key F _ r 0 hF h
  have h2 := wTo_shift key F _ r 1 hF h1
  have h3 := wTo_shift key F _ r 2 hF h2
  have h4 := wTo_shift key F _ r 3 hF h3
  rw [show 4 * (r + 1) = 4 * r + 3 + 1 by omega, h4]
  have hw := words4 (rk key r) (by rw [rk_length, hk]) (dbls 1 ((4 * r + 0 + 3) / 4)) (dbls 1 ((4 * r + 1 + 3) / 4)) (dbls 1 ((4 * r + 2 + 3) / 4)) (dbls 1 ((4 * r + 3 + 3) / 4)) _ _ _ rfl rfl rfl
  rw [hw, show (4 * r + 0 + 3) / 4 = r by omega]
  rfl

theorem wTo_flat (key : List UInt8) (hk : key.length = 16) (r : Nat) : ∃ F, wTo key (4 * r) = F ++ rk key r ∧ F.length = 16 * r ∧ ∀ s, s < r → ∀ n, n < 16 → F.getD (16 * s + n) 0 = (rk key s).getD n 0 := by
  induction r with
  | zero => exact ⟨[], rfl, rfl, fun s hs => by omega⟩
  | succ r ih =>
    obtain ⟨F, h1, h2, h3⟩ := ih
    refine ⟨F ++ rk key r, by rw [wTo_next key F r hk h2 h1, List.append_assoc], by rw [List.length_append, h2, rk_length, hk]; omega, fun s hs n hn => ?_⟩
    by_cases e : s = r
    · subst e
      exact getD_app F _ _ n (by omega)
    · rw [getD_left F _ _ (by omega)]
      exact h3 s (by omega) n hn

theorem wTo_get (key : List UInt8) (hk : key.length = 16) (s n : Nat) (hs : s ≤ 10) (hn : n < 16) : (wTo key 40).getD (16 * s + n) 0 = (rk key s).getD n 0 := by
  obtain ⟨F, h1, h2, h3⟩ := wTo_flat key hk 10
  rw [show 4 * 10 = 40 from rfl] at h1
  rw [h1]
  by_cases e : s = 10
  · subst e
    exact getD_app F _ _ n (by omega)
  · rw [getD_left F _ _ (by omega)]
    exact h3 s (by omega) n hn

theorem sOf_eq (B : List UInt8) (hB : B.length = 16) : sOf B = rotB (repB B) := by
  refine ext16 _ _ (sOf_length B) (rotB_length _) fun i hi => ?_
  unfold sOf rotB
  rw [fillTo_lt _ zero16 _ _ hi hi, fillTo_lt _ zeros16 _ _ hi hi]
  unfold repB
  rw [fillTo_lt _ _ _ _ (Nat.mod_lt _ (by decide)) (by rw [hB]; exact Nat.mod_lt _ (by decide))]
  unfold sAt
  rw [show 4 * ((i / 4 + i % 4) % 4) + i % 4 = (i + 4 * (i % 4)) % 16 by omega]

theorem mixAt_at (S : List UInt8) (c row : Nat) (hr : row < 4) : mixAt S (4 * c + row) = mix4 (S.getD (4 * c + row) 0) (S.getD (4 * c + (row + 1) % 4) 0) (S.getD (4 * c + (row + 2) % 4) 0) (S.getD (4 * c + (row + 3) % 4) 0) := by
  unfold mixAt
  rw [show (4 * c + row) % 4 = row by omega, show 4 * c + row - row = 4 * c by omega]

theorem xTo_mix (S : List UInt8) (c row : Nat) (hr : row < 4) : xTo S c row 4 = mixAt S (4 * c + row) := by
  rw [mixAt_at S c row hr]
  have h4 : row = 0 ∨ row = 1 ∨ row = 2 ∨ row = 3 := by omega
  rcases h4 with rfl | rfl | rfl | rfl
  · show bxor (bxor (bxor (bxor 0 (gmul (S.getD (4 * c + 0) 0) 2)) (gmul (S.getD (4 * c + 1) 0) 3)) (gmul (S.getD (4 * c + 2) 0) 1)) (gmul (S.getD (4 * c + 3) 0) 1) = mix4 (S.getD (4 * c + 0) 0) (S.getD (4 * c + 1) 0) (S.getD (4 * c + 2) 0) (S.getD (4 * c + 3) 0)
    rw [gmul_1, gmul_1, gmul_2, gmul_3, bxor_0']
    unfold mix4
    simp only [bxor_assoc, bxor_comm, bxor_left_comm]
  · show bxor (bxor (bxor (bxor 0 (gmul (S.getD (4 * c + 0) 0) 1)) (gmul (S.getD (4 * c + 1) 0) 2)) (gmul (S.getD (4 * c + 2) 0) 3)) (gmul (S.getD (4 * c + 3) 0) 1) = mix4 (S.getD (4 * c + 1) 0) (S.getD (4 * c + 2) 0) (S.getD (4 * c + 3) 0) (S.getD (4 * c + 0) 0)
    rw [gmul_1, gmul_1, gmul_2, gmul_3, bxor_0']
    unfold mix4
    simp only [bxor_assoc, bxor_comm, bxor_left_comm]
  · show bxor (bxor (bxor (bxor 0 (gmul (S.getD (4 * c + 0) 0) 1)) (gmul (S.getD (4 * c + 1) 0) 1)) (gmul (S.getD (4 * c + 2) 0) 2)) (gmul (S.getD (4 * c + 3) 0) 3) = mix4 (S.getD (4 * c + 2) 0) (S.getD (4 * c + 3) 0) (S.getD (4 * c + 0) 0) (S.getD (4 * c + 1) 0)
    rw [gmul_1, gmul_1, gmul_2, gmul_3, bxor_0']
    unfold mix4
    simp only [bxor_assoc, bxor_comm, bxor_left_comm]
  · show bxor (bxor (bxor (bxor 0 (gmul (S.getD (4 * c + 0) 0) 3)) (gmul (S.getD (4 * c + 1) 0) 1)) (gmul (S.getD (4 * c + 2) 0) 1)) (gmul (S.getD (4 * c + 3) 0) 2) = mix4 (S.getD (4 * c + 3) 0) (S.getD (4 * c + 0) 0) (S.getD (4 * c + 1) 0) (S.getD (4 * c + 2) 0)
    rw [gmul_1, gmul_1, gmul_2, gmul_3, bxor_0']
    unfold mix4
    simp only [bxor_assoc, bxor_comm, bxor_left_comm]

theorem refEnc_eq (key b : List UInt8) (hk : key.length = 16) (hb : b.length = 16) (r : Nat) (hr : r ≤ 10) : refEnc (wTo key 40) b r = enc key b r := by
  induction r with
  | zero =>
    refine ext16 _ _ (refEnc_length _ _ _) (enc_length key b hb 0) fun i hi => ?_
    unfold refEnc enc addB
    rw [fillTo_lt _ zero16 _ _ hi hi, fillTo_lt _ b _ _ hi (by omega)]
    have h := wTo_get key hk 0 i (by omega) hi
    rw [Nat.mul_zero, Nat.zero_add] at h
    rw [h]
    rfl
  | succ r ih =>
    have ih := ih (by omega)
    have hl := enc_length key b hb r
    refine ext16 _ _ (refEnc_length _ _ _) (enc_length key b hb (r + 1)) fun i hi => ?_
    unfold refEnc enc
    rw [ih, sOf_eq _ hl]
    generalize enc key b r = B at *
    generalize hS : rotB (repB B) = S
    have hSl : S.length = 16 := by rw [← hS]; exact rotB_length _
    unfold addB
    rw [fillTo_lt _ _ _ _ hi (by omega), fillTo_lt _ _ _ _ hi (by split; rw [mixB_length]; exact hi; omega)]
    unfold bAt
    rw [wTo_get key hk (r + 1) i (by omega) hi]
    congr 1
    by_cases h9 : r < 9
    · rw [if_pos h9, if_pos (by omega), xTo_mix S _ _ (Nat.mod_lt _ (by decide)), show 4 * (i / 4) + i % 4 = i by omega]
      unfold mixB
      rw [fillTo_lt _ zeros16 _ _ hi hi]
    · rw [if_neg h9, if_neg (by omega)]

end Go.Proofs.YtgfljldegodpgaaDoor

namespace Go.Proofs.YtgfljldegodpgaaDoor
set_option linter.unusedVariables false
set_option linter.unusedSimpArgs false
open Go.RowKit


end Go.Proofs.YtgfljldegodpgaaDoor
