/-
  disk.Load, disk.New.
-/
import Derived.Test.YtmalbfpipdebaaaDskFns
namespace Go.Proofs.Ytmalbfpipdebaaa
set_option linter.unusedVariables false
set_option linter.unusedSimpArgs false
open Go.RowKit

/-- a new disk of n sectors -/
def NewDisk (w : World) (n : Nat) (l : List UInt8) (e : Ending) (w' : World) : Prop :=
  ∃ g, e = .returned (.tuple #[.pointer (some ⟨g, 0, none⟩), .int .i64 0]) ∧ Dev w' n g (fun k => w.heap.size ≤ k) l l [] ∧ New w w'

set_option maxRecDepth 100000 in
set_option maxHeartbeats 1000000 in
theorem diskLoad (w : World) (v : Value) (l : List UInt8) (n : Nat) (h : Rd w v l) (hl : l.length = 128 * n) (hn : 1 ≤ n ∧ n ≤ 65536) : Calls Try.prog 6 #[v] w (NewDisk w n l) := by
  have HV := Lib.hid h
  obtain ⟨a, m, c, rfl, h1, -⟩ := h
  obtain rfl : m = 128 * n := by omega
  have HS : Hid (∀ wx : World, Calls Try.prog 16 #[.slice a (128 * n) c] wx fun e w' => e = .returned (.tuple #[.int .i64 (n : Int), .bool true]) ∧ wx = w') := by
    refine Lib.hid (fun wx => ?_)
    have := diskSectors wx a (128 * n) c (by omega)
    rwa [show 128 * n / 128 = n by omega, show decide (128 * n % 128 = 0) = true by simp] at this
  have HA : Hid (∀ wx : World, Calls Try.prog 17 #[.int .i64 (n : Int)] wx fun e w' => e = .returned (.bool true) ∧ wx = w') := by
    refine Lib.hid (fun wx => ?_)
    have := diskAllowed wx (n : Int)
    rwa [show decide (1 ≤ (n : Int) ∧ (n : Int) ≤ 65536) = true by simp; omega] at this
  have HC : Hid (∀ wx : World, Rd wx (.slice a (128 * n) c) l → Calls Try.prog 18 #[.slice a (128 * n) c] wx (CopyTo wx l)) :=
    Lib.hid (fun wx hr => bytesClone wx _ l hr (by intro e; rw [e] at hl; simp at hl; omega) (by omega))
  have HL := Lib.hid hl
  have HN := Lib.hid hn
  clear hl hn h1
  generalize hq : 128 * n = q at *
  have HQ := Lib.hid hq
  clear hq
  go_enter Try.func6, Try.ntmps6
  go_wp2_with fail
  refine (HS.out w).mono ?_
  rintro e w1 ⟨rfl, rfl⟩
  go_wp2_with fail
  refine (HA.out w).mono ?_
  rintro e w1 ⟨rfl, rfl⟩
  clear HS HA
  go_wp2_with fail
  refine (HC.out w HV.out).mono ?_
  rintro e w1 ⟨g1, c1, rfl, r1, k1, m1, b1, N1⟩
  rw [HL.out] at k1 ⊢
  have R1 := Lib.hid r1
  have K1 := Lib.hid (And.intro k1 m1)
  clear r1 k1 m1
  go_wp2_with fail
  refine (HC.out w1 (HV.out.new N1)).mono ?_
  rintro e w2 ⟨g2, c2, rfl, r2, k2, m2, b2, N2⟩
  rw [HL.out] at k2 ⊢
  have R2 := Lib.hid r2
  have K2 := Lib.hid (And.intro k2 m2)
  have HN1 := Lib.hid N1
  have HN2 := Lib.hid N2
  have B1 := Lib.hid b1
  have B2 := Lib.hid b2
  clear r2 k2 m2 N1 N2 b1 b2 HC
  go_wp2
  go_ret2
  refine ⟨w2.heap.size, rfl, ?_, ?_⟩
  · have hlt1 := R1.out.lt
    have e1 := HN2.out.block _ hlt1
    have s1 := HN1.out.size
    have s2 := HN2.out.size
    have hb2 := B2.out
    have hq := HQ.out
    subst hq
    refine ⟨g1, g2, c1, c2, .slice none 0 0, ⟨?_, (R1.out.same e1).same (heap_alloc_old _ _ (by omega)), R2.out.same (heap_alloc_old _ _ R2.out.lt), HL.out, HL.out, K1.out, K2.out, World.ownsRow_nil _ _ _ _, (fun p hp => by simp at hp), ?_, HN.out, by decide⟩, ?_, B1.out, ?_, ?_⟩
    · exact heap_alloc_new _ _
    · omega
    · show w.heap.size ≤ w2.heap.size; omega
    · show w.heap.size ≤ g2; omega
    · intro k hk; simp [blk] at hk
  · exact (New.trans HN1.out HN2.out).alloc (by have := HN1.out.size; have := HN2.out.size; omega) _

set_option maxRecDepth 100000 in
set_option maxHeartbeats 400000 in
theorem diskLoadBad (w : World) (a : Option Addr) (m c : Nat) (hm : m ≤ 9223372036854775807) (hb : ¬ (m % 128 = 0 ∧ 1 ≤ m / 128 ∧ m / 128 ≤ 65536)) :
    Calls Try.prog 6 #[.slice a m c] w fun e w' => e = .returned (.tuple #[.pointer none, .int .i64 2]) ∧ w = w' := by
  have HS := Lib.hid (diskSectors w a m c hm)
  have HA := Lib.hid (diskAllowed w ((m / 128 : Nat) : Int))
  by_cases h1 : m % 128 = 0
  · have d : decide (1 ≤ ((m / 128 : Nat) : Int) ∧ ((m / 128 : Nat) : Int) ≤ 65536) = false := by
      simp only [decide_eq_false_iff_not]
      intro h
      exact hb ⟨h1, by omega, by omega⟩
    rw [d] at HA
    rw [show decide (m % 128 = 0) = true by simp [h1]] at HS
    generalize m / 128 = q at *
    clear d h1 hb
    go_enter Try.func6, Try.ntmps6
    go_wp2_with fail
    refine HS.out.mono ?_
    rintro e w1 ⟨rfl, rfl⟩
    go_wp2_with fail
    refine HA.out.mono ?_
    rintro e w1 ⟨rfl, rfl⟩
    go_wp2
    go_ret2
    exact ⟨rfl, rfl⟩
  · rw [show decide (m % 128 = 0) = false by simp [h1]] at HS
    clear HA
    generalize m / 128 = q at *
    clear h1 hb
    go_enter Try.func6, Try.ntmps6
    go_wp2_with fail
    refine HS.out.mono ?_
    rintro e w1 ⟨rfl, rfl⟩
    go_wp2
    go_ret2
    exact ⟨rfl, rfl⟩

/-- make([]byte, m) -/
theorem run_make10 (m : Nat) (hm : m ≤ 281474976710656) (wx : World) :
    (Instr.makeSlice 22 (.int .i64 (m : Int)) (.int .i64 (m : Int))).run Try.prog wx = .ok (.slice (some ⟨wx.heap.size, 0, none⟩) m m) (wx.alloc (.cells ((List.replicate m (0 : UInt8)).map bv).toArray 5)) := by
  obtain ⟨i0, hi0, hz0, hz1, hz2⟩ := info_parts infoB10
  have h := run_make (P := Try.prog) wx 22 5 i0 _ Try.underlying22 hi0 hz0 .i64 .i64 (m : Int) (m : Int) (by omega) (by omega) (by rw [hz2]; omega) (by omega)
  rw [h, hz1, Nat.mul_one]
  have e : madeCells (Value.int .u8 0).cells m = ((List.replicate m (0 : UInt8)).map bv).toArray := by
    apply Array.ext
    · simp [size_madeCells]
    · intro i h1 h2
      simp [madeCells, Value.cells, Nat.mod_one]
  simp only [Int.toNat_natCast]
  rw [e]

/-- a row made of bytes reads as them -/
theorem rd_row10 {w : World} {g : Nat} {l : List UInt8} (h : w.heap[g]? = some (.cells (l.map bv).toArray 5 (0, 0))) (hl : l.length ≤ 9223372036854775807) : Rd w (.slice (some ⟨g, 0, none⟩) l.length l.length) l :=
  RowB.rd ⟨[], by rw [List.append_nil]; exact h⟩ (Nat.le_refl _) (by simpa [maxLen] using hl)

def zeros (m : Nat) : List UInt8 := List.replicate m 0

theorem zeros_length (m : Nat) : (zeros m).length = m := by simp [zeros]

set_option maxRecDepth 100000 in
set_option maxHeartbeats 400000 in
theorem diskNew (w : World) (n : Nat) (hn : 1 ≤ n ∧ n ≤ 65536) : Calls Try.prog 7 #[.int .i64 (n : Int)] w (NewDisk w n (zeros (128 * n))) := by
  have HA : Hid (Calls Try.prog 17 #[.int .i64 (n : Int)] w fun e w' => e = .returned (.bool true) ∧ w = w') := by
    have := diskAllowed w (n : Int)
    rw [show decide (1 ≤ (n : Int) ∧ (n : Int) ≤ 65536) = true by simp; omega] at this
    exact Lib.hid this
  have hm : ∀ wx : World, (Instr.makeSlice 22 (.int .i64 ((128 * n : Nat) : Int)) (.int .i64 ((128 * n : Nat) : Int))).run Try.prog wx = .ok (.slice (some ⟨wx.heap.size, 0, none⟩) (128 * n) (128 * n)) (wx.alloc (.cells ((zeros (128 * n)).map bv).toArray 5)) := fun wx => run_make10 (128 * n) (by omega) wx
  have HL := Lib.hid (fun wx v h => diskLoad wx v (zeros (128 * n)) n h (zeros_length _) hn)
  have h1 : (n : Int) * 128 = ((128 * n : Nat) : Int) := by omega
  have hz : Hid ((zeros (128 * n)).length = 128 * n) := Lib.hid (zeros_length _)
  generalize zeros (128 * n) = z at *
  have HQ : Hid (128 * n ≤ 9223372036854775807) := Lib.hid (by omega)
  have h4 : IntKind.i64.wrap ((128 * n : Nat) : Int) = ((128 * n : Nat) : Int) := IntWalk.i64_in _ (by omega)
  generalize 128 * n = q at *
  go_enter Try.func7, Try.ntmps7
  go_wp2_with fail
  refine HA.out.mono ?_
  rintro e w1 ⟨rfl, rfl⟩
  go_wp2_with fail
  generalize hw1 : World.alloc w _ = w1
  have HR : Hid (Rd w1 (.slice (some ⟨w.heap.size, 0, none⟩) q q) z) := by
    have := rd_row10 (w := w1) (g := w.heap.size) (l := z) (by rw [← hw1]; exact heap_alloc_new _ _) (by rw [hz.out]; exact HQ.out)
    rw [hz.out] at this
    exact Lib.hid this
  have HN1 : Hid (New w w1) := by rw [← hw1]; exact Lib.hid ((Below.refl _ _).alloc (Nat.le_refl _) _)
  clear hw1 hm
  refine (HL.out w1 _ HR.out).mono ?_
  rintro e w2 ⟨g, rfl, h2, h3⟩
  have H2 := Lib.hid h2
  have H3 := Lib.hid h3
  clear h2 h3
  go_wp2
  go_ret2
  exact ⟨g, rfl, H2.out.narrow (fun k _ h => Nat.le_trans HN1.out.size h), New.trans HN1.out H3.out⟩

set_option maxRecDepth 100000 in
set_option maxHeartbeats 400000 in
theorem diskNewBad (w : World) (n : Int) (hn : ¬ (1 ≤ n ∧ n ≤ 65536)) :
    Calls Try.prog 7 #[.int .i64 n] w fun e w' => e = .returned (.tuple #[.pointer none, .int .i64 2]) ∧ w = w' := by
  have HA := Lib.hid (diskAllowed w n)
  rw [show decide (1 ≤ n ∧ n ≤ 65536) = false by simpa using hn] at HA
  clear hn
  go_enter Try.func7, Try.ntmps7
  go_wp2_with fail
  refine HA.out.mono ?_
  rintro e w1 ⟨rfl, rfl⟩
  go_wp2
  go_ret2
  exact ⟨rfl, rfl⟩

end Go.Proofs.Ytmalbfpipdebaaa
