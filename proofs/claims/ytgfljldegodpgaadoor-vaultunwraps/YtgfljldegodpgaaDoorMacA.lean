/-
  HMAC-SHA-256 as a plain function over lists: what both the program and the reference compute.
  mac.Same.
  mac.masked.
  mac.padded.
  mac.Tag.
  mac.Tag of one part and of two, as a caller writes it.
-/
import Derived.Test.YtgfljldegodpgaaDoorShaA
import Derived.Test.YtgfljldegodpgaaDoorBase
import Derived.Test.YtgfljldegodpgaaDoorProg
import Derived.Test.YtgfljldegodpgaaDoorShaB
import Derived.KernelRfl
import Derived.Deep.QuietTactic
import Derived.BigQuiet
import Derived.IntWalk
import Derived.Laws.Rows
namespace Go.Proofs.YtgfljldegodpgaaDoor
set_option linter.unusedVariables false
set_option linter.unusedSimpArgs false
open Go.RowKit

/-- zeros behind, up to 64 bytes -/
def pad64 (k : List UInt8) : List UInt8 := k ++ List.replicate (64 - k.length) 0

/-- a long key counts as its digest -/
def keyOf (k : List UInt8) : List UInt8 := if 64 < k.length then sha256 k else k

/-- each byte xored -/
def maskB (x : UInt8) (l : List UInt8) : List UInt8 := l.map fun b => bxor b x

def hmac (k m : List UInt8) : List UInt8 := sha256 (maskB 92 (pad64 (keyOf k)) ++ sha256 (maskB 54 (pad64 (keyOf k)) ++ m))

theorem keyOf_length (k : List UInt8) : (keyOf k).length ≤ 64 := by
  unfold keyOf
  split
  · rw [sha256_length]; omega
  · omega

theorem pad64_length (k : List UInt8) (h : k.length ≤ 64) : (pad64 k).length = 64 := by simp [pad64]; omega

theorem maskB_length (x : UInt8) (l : List UInt8) : (maskB x l).length = l.length := by simp [maskB]

theorem hmac_length (k m : List UInt8) : (hmac k m).length = 32 := sha256_length _

/-- zeros behind a short key change nothing -/
theorem pad64_zeros (k : List UInt8) (n : Nat) (h : k.length + n ≤ 64) : pad64 (k ++ List.replicate n 0) = pad64 k := by
  unfold pad64
  rw [List.append_assoc, List.replicate_append_replicate]
  congr 2
  simp; omega

theorem hmac_zeros (k m : List UInt8) (n : Nat) (h : k.length + n ≤ 64) : hmac (k ++ List.replicate n 0) m = hmac k m := by
  have e1 : keyOf (k ++ List.replicate n 0) = k ++ List.replicate n 0 := by unfold keyOf; rw [if_neg (by simp; omega)]
  have e2 : keyOf k = k := by unfold keyOf; rw [if_neg (by omega)]
  unfold hmac
  rw [e1, e2, pad64_zeros k n h]

/-- a long key counts as its digest -/
theorem hmac_long (k m : List UInt8) (h : 64 < k.length) : hmac (sha256 k) m = hmac k m := by
  have e1 : keyOf (sha256 k) = sha256 k := by unfold keyOf; rw [if_neg (by rw [sha256_length]; omega)]
  have e2 : keyOf k = sha256 k := by unfold keyOf; rw [if_pos h]
  unfold hmac
  rw [e1, e2]

/-- the document's example -/
theorem hmac_jefe : hmac [74, 101, 102, 101] [119, 104, 97, 116, 32, 100, 111, 32, 121, 97, 32, 119, 97, 110, 116, 32, 102, 111, 114, 32, 110, 111, 116, 104, 105, 110, 103, 63] = [91, 220, 193, 70, 191, 96, 117, 78, 106, 4, 36, 38, 8, 149, 117, 199, 90, 0, 63, 8, 157, 39, 57, 131, 157, 236, 88, 185, 100, 236, 56, 67] := by
  decide +kernel

/-- the differences of two texts, or-ed together, up to k -/
def diffTo (a b : List UInt8) : Nat → UInt8
  | 0 => 0
  | k + 1 => bor (diffTo a b k) (bxor (a.getD k 0) (b.getD k 0))

theorem bor_zero (x y : UInt8) : bor x y = 0 ↔ x = 0 ∧ y = 0 := by
  unfold bor
  constructor
  · intro h
    have h' : x.toNat ||| y.toNat = 0 := by rw [← UInt8.toNat_or, h]; rfl
    have h1 := Nat.or_eq_zero_iff.1 h'
    exact ⟨UInt8.toNat_inj.1 h1.1, UInt8.toNat_inj.1 h1.2⟩
  · rintro ⟨rfl, rfl⟩; rfl

theorem bxor_zero (x y : UInt8) : bxor x y = 0 ↔ x = y := by
  unfold bxor; exact UInt8.xor_eq_zero_iff

theorem diffTo_zero (a b : List UInt8) (k : Nat) : diffTo a b k = 0 ↔ ∀ i, i < k → a.getD i 0 = b.getD i 0 := by
  induction k with
  | zero => simp [diffTo]
  | succ k ih =>
    unfold diffTo
    rw [bor_zero, ih, bxor_zero]
    constructor
    · rintro ⟨h1, h2⟩ i hi
      rcases Nat.lt_succ_iff_lt_or_eq.1 hi with h | h
      · exact h1 i h
      · subst h; exact h2
    · intro h
      exact ⟨fun i hi => h i (by omega), h k (by omega)⟩

theorem diffTo_all (a b : List UInt8) (hl : a.length = b.length) : diffTo a b a.length = 0 ↔ a = b := by
  rw [diffTo_zero]
  constructor
  · intro h
    apply List.ext_getElem hl
    intro i h1 h2
    have := h i h1
    rwa [List.getD_eq_getElem?_getD, List.getD_eq_getElem?_getD, List.getElem?_eq_getElem h1, List.getElem?_eq_getElem h2] at this
  · rintro rfl i _; rfl

end Go.Proofs.YtgfljldegodpgaaDoor

namespace Go.Proofs.YtgfljldegodpgaaDoor
set_option linter.unusedVariables false
set_option linter.unusedSimpArgs false
open Go.RowKit

/-- a byte of a slice, at the address as a walk has it -/
theorem Rd.cellAt {w : World} {a : Option Addr} {n c : Nat} {l : List UInt8} (h : Rd w (.slice a n c) l) (hn : 0 < n) :
    ∃ b off, a = some ⟨b, off, none⟩ ∧ ∀ i, i < n → w.cell? ⟨b, off + i, none⟩ = some (bv (l.getD i 0)) := by
  obtain ⟨a', n', c', e, h1, h2, h3, h4, h5⟩ := h
  cases e
  cases a with
  | none => have := (h4 rfl).1; omega
  | some ad =>
    obtain ⟨b, off, spot⟩ := ad
    have hs : spot = none := by
      cases l with
      | nil => simp at h1; omega
      | cons x r =>
        have := h5 _ rfl 0 x rfl
        simp only [Addr.add, if_pos] at this
        unfold World.cell? at this
        split at this
        · cases spot with
          | none => rfl
          | some _ => simp at this
        · cases this
    subst hs
    refine ⟨b, off, rfl, fun i hi => ?_⟩
    have hg : l[i]? = some (l.getD i 0) := by
      rw [List.getD_eq_getElem?_getD, List.getElem?_eq_getElem (by omega)]; rfl
    have := h5 _ rfl i _ hg
    rwa [Addr.add_lit] at this

attribute [local go_sem] u8_bxor u8_bor

set_option maxRecDepth 100000 in
set_option maxHeartbeats 400000 in
theorem macSame (w : World) (x y : Value) (a b : List UInt8) (hx : Rd w x a) (hy : Rd w y b) :
    Calls Tryd.prog 37 #[x, y] w fun e w' => e = .returned (.bool (decide (a = b))) ∧ New w w' := by
  have hx' := hx
  have hy' := hy
  obtain ⟨ax, nx, cx, rfl, hxl, hxc, hxm, _, _⟩ := hx'
  obtain ⟨ay, ny, cy, rfl, hyl, hyc, hym, _, _⟩ := hy'
  have HX := Lib.hid hx
  have HY := Lib.hid hy
  have HXL := Lib.hid hxl
  have HYL := Lib.hid hyl
  unfold maxLen at hxm hym
  clear hx hy hxl hyl
  by_cases hn : nx = ny
  · subst hn
    have HE : Hid ((diffTo a b nx = 0) ↔ a = b) := by
      show _ ↔ _
      have := diffTo_all a b (by rw [HXL.out, HYL.out])
      rwa [HXL.out] at this
    go_enter Tryd.func37, Tryd.ntmps37
    go_wp2
    go_loopw [5, 14] (fun d i wr => ∃ k : Nat, k ≤ nx ∧ i = .int .i64 k ∧ d = bv (diffTo a b k) ∧ New w wr) (fun _ i _ => nx - (intOf i).toNat)
    case atStart => exact ⟨0, Nat.zero_le _, rfl, rfl, Below.refl _ _⟩
    case round =>
      obtain ⟨k, hk, rfl, rfl, hnw⟩ := hrel
      by_cases hlt : k < nx
      · obtain ⟨b1, o1, rfl, hc1⟩ := (HX.out.new hnw).cellAt (by omega)
        obtain ⟨b2, o2, rfl, hc2⟩ := (HY.out.new hnw).cellAt (by omega)
        have hd1 := hc1 k hlt
        have hd2 := hc2 k hlt
        clear hc1 hc2
        have HD : Hid (diffTo a b (k + 1) = bor (diffTo a b k) (bxor (a.getD k 0) (b.getD k 0))) := Lib.hid rfl
        generalize a.getD k 0 = p at *
        generalize b.getD k 0 = q at *
        generalize diffTo a b k = d at *
        go_wp2
        go_quiet (fail)
        go_wp2
        go_roundw
        case rel => exact ⟨k + 1, by omega, by go_num, by rw [HD.out], below_drewN hnw _⟩
        case measure => simp [intOf]; omega
      · obtain rfl : k = nx := by omega
        have hdz : (((diffTo a b k).toNat : Int) == 0) = decide (a = b) := by
          rw [Bool.eq_iff_iff, beq_iff_eq, decide_eq_true_eq, ← HE.out]
          constructor
          · intro h; exact UInt8.toNat_inj.1 (by simpa using h)
          · intro h; rw [h]; rfl
        go_wp2
        go_ret
        exact ⟨rfl, hnw⟩
  · have hne : a ≠ b := by
      rintro rfl
      exact hn (by rw [← HXL.out, ← HYL.out])
    have hd : decide (a = b) = false := by simpa using hne
    have hn2 : ((nx : Int) != (ny : Int)) = true := by simp; omega
    rw [hd]
    go_enter Tryd.func37, Tryd.ntmps37
    go_wp2
    go_ret
    exact ⟨rfl, Below.refl _ _⟩

end Go.Proofs.YtgfljldegodpgaaDoor

namespace Go.Proofs.YtgfljldegodpgaaDoor
set_option linter.unusedVariables false
set_option linter.unusedSimpArgs false
open Go.RowKit

/-- the first j bytes are xored -/
def maskTo (x : UInt8) (b : List UInt8) (j : Nat) : List UInt8 := maskB x (b.take j) ++ b.drop j

theorem maskTo_length (x : UInt8) (b : List UInt8) (j : Nat) : (maskTo x b j).length = b.length := by
  simp [maskTo, maskB]; omega

theorem maskTo_get (x : UInt8) (b : List UInt8) (j : Nat) (h : j < b.length) : (maskTo x b j).getD j 0 = b.getD j 0 := by
  unfold maskTo
  have e : (maskB x (b.take j)).length = j := by simp [maskB]; omega
  rw [List.getD_eq_getElem?_getD, List.getElem?_append_right (by omega), e, Nat.sub_self, List.getElem?_drop, List.getD_eq_getElem?_getD, Nat.add_zero]

theorem maskTo_set (x : UInt8) (b : List UInt8) (j : Nat) (h : j < b.length) : (maskTo x b j).set j (bxor (b.getD j 0) x) = maskTo x b (j + 1) := by
  unfold maskTo
  have e : (maskB x (b.take j)).length = j := by simp [maskB]; omega
  rw [List.set_append_right _ _ (by omega), e, Nat.sub_self, List.drop_eq_getElem_cons h, List.set_cons_zero, List.take_add_one, List.getElem?_eq_getElem h, List.getD_eq_getElem?_getD, List.getElem?_eq_getElem h]
  simp only [maskB, List.map_append, Option.toList_some, List.map_cons, List.map_nil, List.append_assoc, List.cons_append, List.nil_append, Option.getD_some]

structure MaskIn (w : World) (x : UInt8) (b : List UInt8) (j : Nat) (wr : World) : Prop where
  row : wr.heap[w.heap.size]? = some (.cells ((maskTo x b j).map bv).toArray 87)
  new : New w wr

theorem MaskIn.put {w : World} {x : UInt8} {b : List UInt8} {j : Nat} {wr : World} (h : MaskIn w x b j wr) (hj : j < b.length) : MaskIn w x b (j + 1) (wr.setCell ⟨w.heap.size, j, none⟩ (bv (bxor (b.getD j 0) x))) := by
  refine ⟨?_, h.new.setCell (Nat.le_refl _) _⟩
  rw [heap_setCell_same _ _ _ _ _ _ h.row, List.setIfInBounds_toArray, ← List.map_set, maskTo_set x b j hj]

theorem arr64_all (wx : World) (p : Nat) : (Instr.sliceAt 87 (.pointer (some ⟨p, 0, none⟩)) none none none).run Tryd.prog wx = .ok (.slice (some ⟨p, 0, none⟩) 64 64) wx := by
  rw [run_sliceAt_array_all wx _ _ arr64, arr64_size, arr64_len]
  simp only [Result.andThen_ok, slicedAt]
  rfl

attribute [local go_sem] u8_bxor

set_option maxRecDepth 100000 in
set_option maxHeartbeats 400000 in
theorem macMasked (w : World) (b : List UInt8) (hb : Hid (b.length = 64)) (x : UInt8) :
    Calls Tryd.prog 67 #[.agg (b.map bv).toArray, bv x] w fun e w' => e = .returned (.slice (some ⟨w.heap.size, 0, none⟩) 64 64) ∧ Rd w' (.slice (some ⟨w.heap.size, 0, none⟩) 64 64) (maskB x b) ∧ New w w' := by
  go_enter Tryd.func67, Tryd.ntmps67
  go_wp2
  go_loopw [6] (fun i wr => ∃ j : Nat, j ≤ 64 ∧ i = .int .i64 j ∧ MaskIn w x b j wr) (fun i _ => 64 - (intOf i).toNat)
  case atStart =>
    refine ⟨0, by omega, rfl, ⟨?_, (Below.refl _ _).alloc (Nat.le_refl _) _⟩⟩
    rw [heap_alloc_new]; simp [maskTo, maskB]
  case round =>
    obtain ⟨j, hj, rfl, hin⟩ := hrel
    by_cases hlt : j < 64
    · have hlt' : j < b.length := by rw [hb.out]; exact hlt
      have hc : wr.cell? ⟨w.heap.size, j, none⟩ = some (bv (b.getD j 0)) := by
        have := byte_cell hin.row (i := j) (by rw [maskTo_length]; exact hlt')
        rwa [maskTo_get x b j hlt'] at this
      have hf := frozen_of_row wr w.heap.size j _ _ hin.row
      have HP := Lib.hid (hin.put hlt')
      have h64 : (j : Int) < 64 := by omega
      generalize b.getD j 0 = p at *
      clear hin hlt'
      go_wp2
      go_roundw
      case rel => exact ⟨j + 1, by omega, by go_num, HP.out⟩
      case measure => simp [intOf]; omega
    · obtain rfl : j = 64 := by omega
      have hr := rd_of_row hin.row (by rw [maskTo_length, hb.out]; decide)
      rw [maskTo_length, hb.out] at hr
      have e : maskTo x b 64 = maskB x b := by unfold maskTo; rw [List.take_of_length_le (by rw [hb.out]; exact Nat.le_refl _), List.drop_eq_nil_of_le (by rw [hb.out]; exact Nat.le_refl _), List.append_nil]
      rw [e] at hr
      have hsl := fun wx => arr64_all wx w.heap.size
      have HN := Lib.hid hin.new
      have HR := Lib.hid hr
      clear hr hin
      rw [show ((64 : Nat) : Int) = 64 from rfl]
      go_wp2
      go_ret
      exact ⟨rfl, HR.out, HN.out⟩

end Go.Proofs.YtgfljldegodpgaaDoor

namespace Go.Proofs.YtgfljldegodpgaaDoor
set_option linter.unusedVariables false
set_option linter.unusedSimpArgs false
open Go.RowKit

theorem splice_pad (l : List UInt8) : splice (List.replicate 64 (bv 0)) 0 (l.map bv) = (pad64 l).map bv := by
  unfold splice pad64
  rw [List.take_zero, List.nil_append, Nat.zero_add, List.length_map, List.drop_replicate, List.map_append, List.map_replicate]

theorem copy_src {w : World} {a : Option Addr} {n c : Nat} {l : List UInt8} (h : Rd w (.slice a n c) l) {d : Option Addr} {g : Nat} (hd : d = some ⟨g, 0, none⟩ := by rfl) : 0 < (l.map bv).length → d = some ⟨g, 0, none⟩ ∧ ∃ ad, a = some ad ∧ ∀ j v, (l.map bv)[j]? = some v → w.cell? (ad.add j) = some v := by
  intro h0
  obtain ⟨a', n', c', e, h1, h2, h3, h4, h5⟩ := h
  cases e
  rw [List.length_map] at h0
  refine ⟨hd, ?_⟩
  cases a with
  | none => have := (h4 rfl).1; omega
  | some ad =>
    refine ⟨ad, rfl, fun j v hj => ?_⟩
    rw [List.getElem?_map] at hj
    cases hb : l[j]? with
    | none => rw [hb] at hj; cases hj
    | some b => rw [hb] at hj; cases hj; exact h5 ad rfl j b hb

/-- copy(block[:], key) -/
theorem run_copy_key {w : World} {g : Nat} {a : Option Addr} {n c : Nat} {l : List UInt8} (hg : w.heap[g]? = some (.cells ((List.replicate 64 (bv 0))).toArray 87)) (h : Rd w (.slice a n c) l) (hl : l.length = n) (h64 : n ≤ 64) :
    ∃ w', (Builtin.copy_ #[22, 22] 3 #[.slice (some ⟨g, 0, none⟩) 64 64, .slice a n c]).run Tryd.prog w = .ok (.int .i64 n) w' ∧ w'.heap[g]? = some (.cells ((pad64 l).map bv).toArray 87) ∧ Below g w w' := by
  by_cases h0 : n = 0
  · subst h0
    obtain rfl : l = [] := List.eq_nil_of_length_eq_zero hl
    exact ⟨w, run_copy_none (P := Tryd.prog) w 22 22 3 5 _ _ 64 64 0 c Tryd.underlying22 (by kernel_rfl) (by simp), by rw [hg]; simp [pad64], Below.refl _ _⟩
  · obtain ⟨_, ad, rfl, hc⟩ := copy_src h (d := some ⟨g, 0, none⟩) (g := g) rfl (by rw [List.length_map]; omega)
    have hr := run_copy_row (P := Tryd.prog) w 22 22 3 5 g 0 64 64 ad n c _ _ (l.map bv) Tryd.underlying22 (by kernel_rfl) hg (by rw [List.length_map, hl]; exact (Nat.min_eq_left h64).symm) hc (by rw [List.length_map, hl]; simpa using h64) (oneCell_bv l)
    rw [List.length_map, hl] at hr
    refine ⟨_, hr, ?_, below_setRow (Below.refl _ _) (Nat.le_refl _) _⟩
    rw [setRow_heap _ _ _ _ _ _ hg]
    have e := splice_pad l
    unfold splice at e
    rw [List.length_map, hl] at e
    rw [← e]
    simp

set_option maxRecDepth 100000 in
set_option maxHeartbeats 1000000 in
theorem macPadded (w : World) (v : Value) (l : List UInt8) (hv : Rd w v l) (hl : l.length ≤ 1099511627776) (hL : Laid w) :
    Calls Tryd.prog 66 #[v] w fun e w' => e = .returned (.agg ((pad64 (keyOf l)).map bv).toArray) ∧ New w w' := by
  have hv' := hv
  obtain ⟨a, n, c, rfl, hvl, hvc, hvm, _, _⟩ := hv'
  have HV := Lib.hid hv
  have HVL := Lib.hid hvl
  have HL := Lib.hid hL
  unfold maxLen at hvm
  have hn : n ≤ 1099511627776 := by omega
  clear hv hvl hL hl
  by_cases h64 : 64 < n
  · have hd : decide ((64 : Int) < (n : Int)) = true := by simp; omega
    have HK : Hid (keyOf l = sha256 l) := by show _ = _; unfold keyOf; rw [if_pos (by rw [HVL.out]; exact h64)]
    go_enter Tryd.func66, Tryd.ntmps66
    go_wp2_with fail
    generalize hw1 : World.alloc w _ = w1
    have hg1 : w1.heap[w.heap.size]? = some (.cells ((List.replicate 64 (bv 0))).toArray 87) := by rw [← hw1]; exact heap_alloc_new _ _
    have hn1 : New w w1 := by rw [← hw1]; exact (Below.refl _ _).alloc (Nat.le_refl _) _
    have hs1 : w1.heap.size = w.heap.size + 1 := by rw [← hw1]; simp
    clear hw1
    refine (sum1 w1 _ _ l hs1.symm (HV.out.new hn1) (by rw [HVL.out]; exact hn) (HL.out.new hn1)).mono ?_
    rintro e w2 ⟨a2, n2, c2, rfl, r2, rfl, N2⟩
    have HR2 := Lib.hid r2
    have HL2 := Lib.hid (r2.len)
    have HB1 := Lib.hid ((N2.block _ (lt_of_block hg1)).trans hg1)
    have HN2 := Lib.hid (New.trans hn1 N2)
    clear r2 hg1
    go_upto_region 4 with fail
    generalize hw3 : World.alloc w2 _ = w3
    have hg3 : w3.heap[w2.heap.size]? = some (.cells ((List.replicate 64 (bv 0))).toArray 87) := by rw [← hw3]; exact heap_alloc_new _ _
    have hn3 : New w2 w3 := by rw [← hw3]; exact (Below.refl _ _).alloc (Nat.le_refl _) _
    have hr3 := HR2.out.new hn3
    have hsl := fun wx => arr64_all wx w2.heap.size
    clear hw3
    obtain ⟨w4, hcp, hg5, hn4⟩ := run_copy_key hg3 hr3 HL2.out (by omega)
    clear hg3 hr3
    have hlen : ((pad64 (sha256 l)).map bv).toArray.size = 64 := by rw [List.size_toArray, List.length_map, pad64_length _ (by rw [HL2.out]; omega)]
    have hb1 : w4.heap[w.heap.size]? = some (.cells ((List.replicate 64 (bv 0))).toArray 87) := by
      have h1 := HB1.out
      have hlt := lt_of_block h1
      exact ((hn4.block _ hlt).trans (hn3.block _ hlt)).trans h1
    go_upto_region 5 with fail
    clear hcp hsl
    refine wp_region_lit ?_
    refine wpList_load_row rfl 87 _ rfl w2.heap.size rfl _ _ _ _ hg5 Tryd.underlying87 rfl (by rw [hlen]; kernel_rfl) ?_
    refine wpList_store_row rfl 87 _ _ rfl w.heap.size ((pad64 (sha256 l)).map bv).toArray rfl rfl _ _ hb1 (by rw [hlen]; kernel_rfl) (by rw [hlen]; rfl) (allOneB _) ?_
    go_wp2
    refine bodyPost_ret (v := .agg ((pad64 (sha256 l)).map bv).toArray) (results_cell_row rfl _ _ w.heap.size _ _ _ _ rfl (setRow_heap _ _ _ _ _ _ hb1) Tryd.underlying87 rfl (by rw [hlen]; kernel_rfl)) rfl ⟨by rw [HK.out], ?_⟩
    exact below_setRow (New.trans HN2.out (Below.trans hn3 hn4)) (Nat.le_refl _) _
  · have hd : decide ((64 : Int) < (n : Int)) = false := by simp; omega
    have HK : Hid (keyOf l = l) := by show _ = _; unfold keyOf; rw [if_neg (by rw [HVL.out]; exact h64)]
    go_enter Tryd.func66, Tryd.ntmps66
    go_upto_region 3 with fail
    generalize hw1 : World.alloc w _ = w1
    have hg1 : w1.heap[w.heap.size]? = some (.cells ((List.replicate 64 (bv 0))).toArray 87) := by rw [← hw1]; exact heap_alloc_new _ _
    have hn1 : New w w1 := by rw [← hw1]; exact (Below.refl _ _).alloc (Nat.le_refl _) _
    clear hw1
    have HR2 := Lib.hid (HV.out.new hn1)
    have HL2 := HVL
    have HB1 := Lib.hid hg1
    have HN2 := Lib.hid hn1
    clear hg1
    go_upto_region 4 with fail
    generalize hw3 : World.alloc w1 _ = w3
    have hg3 : w3.heap[w1.heap.size]? = some (.cells ((List.replicate 64 (bv 0))).toArray 87) := by rw [← hw3]; exact heap_alloc_new _ _
    have hn3 : New w1 w3 := by rw [← hw3]; exact (Below.refl _ _).alloc (Nat.le_refl _) _
    have hr3 := HR2.out.new hn3
    have hsl := fun wx => arr64_all wx w1.heap.size
    clear hw3
    obtain ⟨w4, hcp, hg5, hn4⟩ := run_copy_key hg3 hr3 HL2.out (by omega)
    clear hg3 hr3
    have hlen : ((pad64 l).map bv).toArray.size = 64 := by rw [List.size_toArray, List.length_map, pad64_length _ (by rw [HL2.out]; omega)]
    have hb1 : w4.heap[w.heap.size]? = some (.cells ((List.replicate 64 (bv 0))).toArray 87) := by
      have h1 := HB1.out
      have hlt := lt_of_block h1
      exact ((hn4.block _ hlt).trans (hn3.block _ hlt)).trans h1
    go_upto_region 5 with fail
    clear hcp hsl
    refine wp_region_lit ?_
    refine wpList_load_row rfl 87 _ rfl w1.heap.size rfl _ _ _ _ hg5 Tryd.underlying87 rfl (by rw [hlen]; kernel_rfl) ?_
    refine wpList_store_row rfl 87 _ _ rfl w.heap.size ((pad64 l).map bv).toArray rfl rfl _ _ hb1 (by rw [hlen]; kernel_rfl) (by rw [hlen]; rfl) (allOneB _) ?_
    go_wp2
    refine bodyPost_ret (v := .agg ((pad64 l).map bv).toArray) (results_cell_row rfl _ _ w.heap.size _ _ _ _ rfl (setRow_heap _ _ _ _ _ _ hb1) Tryd.underlying87 rfl (by rw [hlen]; kernel_rfl)) rfl ⟨by rw [HK.out], ?_⟩
    exact below_setRow (New.trans HN2.out (Below.trans hn3 hn4)) (Nat.le_refl _) _

end Go.Proofs.YtgfljldegodpgaaDoor

namespace Go.Proofs.YtgfljldegodpgaaDoor
set_option linter.unusedVariables false
set_option linter.unusedSimpArgs false
open Go.RowKit

/-- append onto a row of one's own of one-cell elements, whatever the source -/
theorem run_append_vals {P : Program} (w : World) (base : Nat) (t ty e : TypeId) (i : TypeInfo) (z : Value) (bytes : Nat) (ht : P.underlying t = some (.slice e)) (hi : P.info? e = some i) (hz : i.zero = some z)
    (hsize : i.size = 1) (hby : i.bytes = bytes) (hzs : z.cells.size = 1)
    (v : Value) (n : Nat) (xs : List Value) (hown : w.ownsRow base e 1 v n xs) (x : Value) (vs : List Value) (hx : RdV w x vs) (hone : ∀ u ∈ vs, u.oneCell' = true)
    (hbytes : (n + vs.length) * bytes ≤ 140737488355328) (hm : n + vs.length ≤ 140737488355328) (hbase : base ≤ w.heap.size) :
    ∃ v' w', (Builtin.append_ #[t, t] ty #[v, x]).run P w = .ok v' w' ∧ w'.ownsRow base e 1 v' (n + vs.length) (xs ++ vs) ∧ w.grownBy w' v.ownBlock := by
  obtain ⟨a, m, c, rfl, h1, h2, h3, h4, h5⟩ := hx
  cases a with
  | none =>
    obtain ⟨rfl, rfl⟩ := h4 rfl
    obtain rfl : vs = [] := List.eq_nil_of_length_eq_zero h1
    have hrun := run_append_owned_none (P := P) (w := w) base t ty e i 1 ht hi v n xs hown
    exact ⟨v, w, hrun, by simpa using hown, ⟨rfl, rfl, rfl, Nat.le_refl _, fun _ _ _ => rfl⟩⟩
  | some ad =>
    subst h1
    obtain ⟨v', w', hr, r2, r3, _, r5⟩ := run_append_own_at (P := P) w base t ty e i z 1 bytes ht hi hz hsize hby hzs (by omega) v n xs hown ad vs.length c vs (by simp)
      (fun j u hj => h5 ad rfl j u hj) hone (by simp only [maxLen]; omega) (by omega) hbase
    exact ⟨v', w', hr, r2, r3⟩

/-- an append whose run is known -/
theorem wpList_append_ran {P : Program} {w : World} {ops : Array Oper} {rest : List Oper} {o : Oper} {a : Act} {Q : Exit → Act → World → Prop} (hgd : o.guard = none) (s x : Operand) (t : TypeId) (ho : o.op = .call { callee := .builtin .append, args := #[s, x], argTypes := #[t, t] })
    (vs vx : Value) (hs : a.eval s = vs) (hx : a.eval x = vx) {v' : Value} {w' : World} (hr : (Builtin.append_ #[t, t] o.type #[vs, vx]).run P w = .ok v' w') (h : wpList P ops Q rest (a.put o.dst v') w') : wpList P ops Q (o :: rest) a w :=
  wpList_plain hgd fun K hK => oper_append s x t ho vs vx hs hx hr (hK _ _ h)

theorem Rd.oneCell {w : World} {v : Value} {l : List UInt8} (h : Rd w v l) : v.oneCell' = true := by
  obtain ⟨a, n, c, rfl, _⟩ := h; rfl

theorem RdL.oneCell {w : World} {v : Value} {ps : List (Value × List UInt8)} (h : RdL w v ps) : ∀ u ∈ ps.map (·.1), u.oneCell' = true := by
  intro u hu
  obtain ⟨p, hp, rfl⟩ := List.mem_map.1 hu
  exact (h.2 p hp).oneCell

/-- two slices of bytes in a new block -/
theorem RdL.made2 (w : World) (u v : Value) (k l : List UInt8) (e : TypeId) (hu : Rd w u k) (hv : Rd w v l) : RdL (w.alloc (.cells #[u, v] e)) (.slice (some ⟨w.heap.size, 0, none⟩) 2 2) [(u, k), (v, l)] :=
  ⟨RdV.made w [u, v] e (0, 0) (by simp), fun p hp => by
    rcases List.mem_cons.1 hp with rfl | hp
    · exact hu.new ((Below.refl _ _).alloc (Nat.le_refl _) _)
    · rw [List.mem_singleton.1 hp]; exact hv.new ((Below.refl _ _).alloc (Nat.le_refl _) _)⟩

theorem own_base {w : World} {b b' : Nat} {e : TypeId} {size : Nat} {v : Value} {n : Nat} {xs : List Value} (h : w.ownsRow b e size v n xs) (hb : b' ≤ b) : w.ownsRow b' e size v n xs := by
  refine ⟨h.1, ?_⟩
  rcases h.2 with h0 | ⟨g, cap, cur, e1, hb1, rest⟩
  · exact .inl h0
  · exact .inr ⟨g, cap, cur, e1, Nat.le_trans hb hb1, rest⟩

/-- what a grown row leaves -/
theorem new_grown {w w1 w' : World} {e : TypeId} {v : Value} {n : Nat} {xs : List Value} (hn : New w w1) (h : w1.ownsRow w.heap.size e 1 v n xs) (hg : w1.grownBy w' v.ownBlock) : New w w' :=
  Below.grown hn hg hn.size (fun j hj => own_from h j (by rw [blk_own]; exact hj))

set_option maxRecDepth 100000 in
set_option maxHeartbeats 1000000 in
theorem macTag (w : World) (v : Value) (k : List UInt8) (pv : Value) (ps : List (Value × List UInt8)) (hv : Rd w v k) (hk : k.length ≤ 1099511627776) (hp : RdL w pv ps) (hpl : (allOf ps).length ≤ 1099511627776) (hpn : ps.length ≤ 10000) (hL : Laid w) :
    Calls Tryd.prog 48 #[v, pv] w (OwnRet w (hmac k (allOf ps))) := by
  have hp' := hp.1
  obtain ⟨ap, np, cp, rfl, _⟩ := hp'
  have HV := Lib.hid hv
  have HP := Lib.hid hp
  have HL := Lib.hid hL
  clear hv hp hL
  have hlen : ((pad64 (keyOf k)).map bv).toArray.size = 64 := by rw [List.size_toArray, List.length_map, pad64_length _ (keyOf_length k)]
  have HB : Hid ((pad64 (keyOf k)).length = 64) := pad64_length _ (keyOf_length k)
  have HLEN := Lib.hid hlen
  clear hlen
  obtain ⟨B, HBB⟩ : ∃ B, Hid (pad64 (keyOf k) = B) := ⟨_, Lib.hid rfl⟩
  have HM : Hid (hmac k (allOf ps) = sha256 (maskB 92 B ++ sha256 (maskB 54 B ++ allOf ps))) := by show _ = _; unfold hmac; rw [HBB.out]
  have hpad := macPadded w v k HV.out hk HL.out
  rw [HBB.out] at HB HLEN hpad
  have HPAD := Lib.hid hpad
  clear hpad
  go_enter Tryd.func48, Tryd.ntmps48
  go_wp2_with fail
  refine HPAD.out.mono ?_
  rintro e w1 ⟨rfl, N1⟩
  go_upto_region 2 with (refine wpList_store_row rfl 87 _ _ rfl w1.heap.size (B.map bv).toArray rfl rfl _ _ (heap_alloc_new _ _) (by rw [HLEN.out]; kernel_rfl) (by rw [HLEN.out]; rfl) (allOneB _) ?_)
  have hg2 := setRow_heap _ w1.heap.size _ (B.map bv).toArray _ _ (heap_alloc_new w1 (.cells (List.replicate 64 (bv 0)).toArray 87))
  have N2 := New.trans N1 (below_setRow ((Below.refl w1.heap.size w1).alloc (Nat.le_refl _) (.cells (List.replicate 64 (bv 0)).toArray 87)) (Nat.le_refl _) (B.map bv).toArray)
  have hs1 := N1.size
  generalize hw2 : World.setRow _ _ _ = w2
  have HG2 : Hid (w2.heap[w1.heap.size]? = some (.cells (B.map bv).toArray 87)) := by show _ = _; rw [← hw2]; exact hg2
  have HN2 : Hid (New w w2) := by show New w w2; rw [← hw2]; exact N2
  clear hw2 hg2 N2 N1
  refine wp_region_lit ?_
  refine wpList_load_row rfl 87 _ rfl w1.heap.size rfl _ _ _ _ HG2.out Tryd.underlying87 rfl (by rw [HLEN.out]; kernel_rfl) ?_
  go_wp2_with fail
  refine (macMasked w2 B HB 54).mono ?_
  rintro e w3 ⟨rfl, r3, N3⟩
  have N3w := New.trans HN2.out N3
  have hs3 := N3w.size
  obtain ⟨i0, hi0, hz0, hz1, hz2⟩ := info_parts infoBytes
  have hp3 := HP.out.new (N3w.alloc hs3 (.cells #[.slice (some ⟨w2.heap.size, 0, none⟩) 64 64] 22))
  have hown3 : (w3.alloc (.cells #[.slice (some ⟨w2.heap.size, 0, none⟩) 64 64] 22)).ownsRow w3.heap.size 22 1 (.slice (some ⟨w3.heap.size, 0, none⟩) 1 1) 1 [.slice (some ⟨w2.heap.size, 0, none⟩) 64 64] :=
    ⟨rfl, .inr ⟨w3.heap.size, 1, _, rfl, Nat.le_refl _, heap_alloc_new _ _, by omega, by simp [maxLen], rfl, rfl⟩⟩
  obtain ⟨vi, w4, happ, hown4, hgr4⟩ := run_append_vals (P := Tryd.prog) _ w3.heap.size 86 86 22 i0 _ 24 Tryd.underlying86 hi0 hz0 hz1 hz2 rfl _ 1 _ hown3 _ _ hp3.1 hp3.oneCell (by rw [List.length_map]; omega) (by rw [List.length_map]; omega) (by simp)
  have N4 : New w3 w4 := new_grown ((Below.refl _ _).alloc (Nat.le_refl _) _) hown3 hgr4
  have hs4 := N4.size
  have hrl4 : RdL w4 vi ((.slice (some ⟨w2.heap.size, 0, none⟩) 64 64, maskB 54 B) :: ps) := by
    refine ⟨RdV.of_own hown4, fun p hp => ?_⟩
    rcases List.mem_cons.1 hp with rfl | hp
    · exact r3.new N4
    · exact (HP.out.2 p hp).new (New.trans N3w N4)
  have hvi : ∃ ai ni ci, vi = .slice ai ni ci := by have := hrl4.1; obtain ⟨ai, ni, ci, e, _⟩ := this; exact ⟨ai, ni, ci, e⟩
  obtain ⟨ai, ni, ci, rfl⟩ := hvi
  have HG4 : Hid (w4.heap[w1.heap.size]? = some (.cells (B.map bv).toArray 87)) := ((N4.block _ (Nat.lt_of_lt_of_le (lt_of_block HG2.out) N3.size)).trans (N3.block _ (lt_of_block HG2.out))).trans HG2.out
  have HRL := Lib.hid hrl4
  have HN4 := Lib.hid (New.trans N3w N4)
  clear hrl4 hown4 hgr4 hown3 hp3 r3
  have HAPP := Lib.hid happ
  clear happ
  go_upto_region 3 with (at_builtin; refine wpList_append_ran rfl _ _ 86 rfl _ _ rfl rfl HAPP.out ?_)
  refine wp_region_lit ?_
  refine wpList_load_row rfl 87 _ rfl w1.heap.size rfl _ _ _ _ HG4.out Tryd.underlying87 rfl (by rw [HLEN.out]; kernel_rfl) ?_
  go_wp2_with fail
  refine (macMasked w4 B HB 92).mono ?_
  rintro e w5 ⟨rfl, r5, N5⟩
  have HR5 := Lib.hid r5
  have N5w := New.trans HN4.out N5
  clear r5
  go_wp2_with fail
  refine (shaSum w5 _ _ (HRL.out.new N5) ?_ ?_ (HL.out.new N5w)).mono ?_
  · simp [allOf, maskB_length, HB.out] at hpl ⊢; omega
  · simp; omega
  rintro e w6 ⟨vo, rfl, hown6, N6⟩
  have r6 := Rd.of_own hown6
  have r6' := r6
  obtain ⟨ao, no, co, rfl, _⟩ := r6'
  have HR6 := Lib.hid r6
  have HR5' := Lib.hid (HR5.out.new N6)
  have N6w := New.trans N5w N6
  clear r6 hown6 HR5
  go_wp2_with fail
  refine (shaSum _ _ _ (RdL.made2 w6 _ _ _ _ 22 HR5'.out HR6.out) ?_ (by simp) (HL.out.new (N6w.alloc N6w.size _))).mono ?_
  · simp [allOf, maskB_length, HB.out, sha256_length]
  rintro e w7 ⟨vr, rfl, hown7, N7⟩
  have HO7 := Lib.hid hown7
  have HN7 := Lib.hid (New.trans (N6w.alloc N6w.size (.cells #[.slice (some ⟨w4.heap.size, 0, none⟩) 64 64, .slice ao no co] 22)) N7)
  clear hown7
  go_wp2
  go_ret
  refine ⟨vr, rfl, ?_, HN7.out⟩
  have h := HO7.out
  simp only [allOf, List.flatMap_cons, List.flatMap_nil, List.append_nil] at h
  rw [HM.out]
  exact own_base h (by have := N6w.size; simp; omega)

end Go.Proofs.YtgfljldegodpgaaDoor

namespace Go.Proofs.YtgfljldegodpgaaDoor
set_option linter.unusedVariables false
set_option linter.unusedSimpArgs false
open Go.RowKit

/-- mac.Tag(key, v) as a caller writes it -/
theorem tag1 (w : World) (b : Nat) (kv v : Value) (k l : List UInt8) (hb : b = w.heap.size) (hk : Rd w kv k) (hkl : k.length ≤ 1099511627776) (h : Rd w v l) (hl : l.length ≤ 1099511627776) (hL : Laid w) :
    Calls Tryd.prog 48 #[kv, .slice (some ⟨b, 0, none⟩) 1 1] (w.alloc (.cells #[v] 22)) fun e w' => ∃ a n c, e = .returned (.slice a n c) ∧ Rd w' (.slice a n c) (hmac k l) ∧ n = 32 ∧ New w w' := by
  subst hb
  have hn := (Below.refl w.heap.size w).alloc (Nat.le_refl _) (.cells #[v] 22)
  have hs := macTag _ kv k _ _ (hk.new hn) hkl (RdL.made1 w v l 22 h) (by simp [allOf]; omega) (by simp) (hL.new hn)
  refine hs.mono ?_
  rintro e w' ⟨v', rfl, hown, hn'⟩
  have hr := Rd.of_own hown
  simp only [allOf, List.flatMap_cons, List.flatMap_nil, List.append_nil] at hr
  have hr' := hr
  obtain ⟨a, n, c, rfl, h1, _⟩ := hr'
  exact ⟨a, n, c, rfl, hr, by rw [← h1, hmac_length], New.trans hn hn'⟩

/-- mac.Tag(key, u, v) as a caller writes it -/
theorem tag2 (w : World) (b : Nat) (kv u v : Value) (k p q : List UInt8) (hb : b = w.heap.size) (hk : Rd w kv k) (hkl : k.length ≤ 1099511627776) (hu : Rd w u p) (hv : Rd w v q) (hl : p.length + q.length ≤ 1099511627776) (hL : Laid w) :
    Calls Tryd.prog 48 #[kv, .slice (some ⟨b, 0, none⟩) 2 2] (w.alloc (.cells #[u, v] 22)) fun e w' => ∃ a n c, e = .returned (.slice a n c) ∧ Rd w' (.slice a n c) (hmac k (p ++ q)) ∧ n = 32 ∧ New w w' := by
  subst hb
  have hn := (Below.refl w.heap.size w).alloc (Nat.le_refl _) (.cells #[u, v] 22)
  have hs := macTag _ kv k _ _ (hk.new hn) hkl (RdL.made2 w u v p q 22 hu hv) (by simp [allOf]; omega) (by simp) (hL.new hn)
  refine hs.mono ?_
  rintro e w' ⟨v', rfl, hown, hn'⟩
  have hr := Rd.of_own hown
  simp only [allOf, List.flatMap_cons, List.flatMap_nil, List.append_nil] at hr
  have hr' := hr
  obtain ⟨a, n, c, rfl, h1, _⟩ := hr'
  exact ⟨a, n, c, rfl, hr, by rw [← h1, hmac_length], New.trans hn hn'⟩

end Go.Proofs.YtgfljldegodpgaaDoor
