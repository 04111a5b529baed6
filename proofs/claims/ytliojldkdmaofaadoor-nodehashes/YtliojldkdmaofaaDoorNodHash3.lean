/-
  node.digest of the three closures; LeafHash, BranchHash, ParentHash.
-/
import Derived.Test.YtliojldkdmaofaaDoorNodHash2
namespace Go.Proofs.YtliojldkdmaofaaDoor
set_option linter.unusedVariables false
set_option linter.unusedSimpArgs false
set_option maxRecDepth 100000
open Go.RowKit

/-- the digest of what a writer holds; none of a bad one's -/
def digO : Option (List UInt8) → List UInt8
  | none => []
  | some l => sha256 l

def DigTo19 (w : World) (s : Option (List UInt8)) (e : Ending) (w' : World) : Prop := ∃ a n c, e = .returned (.slice a n c) ∧ Rd w' (.slice a n c) (digO s) ∧ New w w'

theorem offN_behind19 {w : World} {p : Nat} {g : Option Nat} {u : NodeV} {N : NodeL} (h : NodeR w u N) (hp : w.heap.size ≤ p) (hg : ∀ k, g = some k → w.heap.size ≤ k) : OffN19 p g u N :=
  ⟨fun hne => ⟨fun e => by have := h.nm.lt e hne; omega, fun hn e => by
    cases hb : blk u.nm with
    | none => exact hn hb
    | some k => have h1 := h.nm.lt hb hne; have h2 := hg k (by rw [← e, hb]); omega⟩,
   fun hne => ⟨fun e => by have := h.pa.lt e hne; omega, fun hn e => by
    cases hb : blk u.pa with
    | none => exact hn hb
    | some k => have h1 := h.pa.lt hb hne; have h2 := hg k (by rw [← e, hb]); omega⟩,
   fun hne => ⟨fun e => by have := h.un.lt e (by simpa using hne); omega, fun hn e => by
    cases hb : blk u.un with
    | none => exact hn hb
    | some k => have h1 := h.un.lt hb (by simpa using hne); have h2 := hg k (by rw [← e, hb]); omega⟩⟩

theorem off_behind19 {w : World} {p : Nat} {g : Option Nat} {x : Value} {l : List UInt8} (h : Rd w x l) (hp : w.heap.size ≤ p) (hg : ∀ k, g = some k → w.heap.size ≤ k) : l ≠ [] → Off19 p g x :=
  fun hne => ⟨fun e => by have := h.lt e hne; omega, fun hn e => by
    cases hb : blk x with
    | none => exact hn hb
    | some k => have h1 := h.lt hb hne; have h2 := hg k (by rw [← e, hb]); omega⟩

theorem box_behind19 {w : World} {p b : Nat} {g : Option Nat} (hb : b < w.heap.size) (hp : w.heap.size ≤ p) (hg : ∀ k, g = some k → w.heap.size ≤ k) : ¬ (b = p ∨ some b = g) := by
  rintro (e | e)
  · omega
  · have := hg b e.symm; omega

theorem Bx19.lt {w : World} {b : Nat} {t : TypeId} {v : Value} (h : Bx19 w b t v) : b < w.heap.size := lt_of_block h

/-- what digest is called with: a closure that writes S behind the mark -/
def Writes (w : World) (fn : Nat) (caps : List Value) (m : Nat) (S : Option (List UInt8)) : Prop :=
  ∀ w3 p g, New w w3 → Pen w3 p g (some (be 1 m)) → w.heap.size ≤ p → (∀ k, g = some k → w.heap.size ≤ k) → Calls Tryd.prog fn (Value.pointer (some ⟨p, 0, none⟩) :: caps).toArray w3 (PenTo w3 p g S)

set_option maxHeartbeats 2000000 in
theorem digLeaf (w : World) (b1 b2 : Nat) (S : Option (List UInt8)) (hF : Writes w 15 [.pointer (some ⟨b1, 0, none⟩), .pointer (some ⟨b2, 0, none⟩)] 1 S) (hS : ∀ l, S = some l → l.length ≤ 10000) (hL : Laid w) :
    Calls Tryd.prog 14 #[.int .i64 1, .func (.func 15) #[] #[.pointer (some ⟨b1, 0, none⟩), .pointer (some ⟨b2, 0, none⟩)]] w (DigTo19 w S) := by
  have HF := Lib.hid hF
  have HL := Lib.hid hL
  have HS := Lib.hid hS
  clear hF hL hS
  unfold Writes at HF
  go_enter Tryd.func14, Tryd.ntmps14
  go_wp2_with fail
  refine (penNew w).mono ?_
  rintro _ w1 ⟨rfl, P1, N1, -⟩
  have HP1 := Lib.hid P1
  have HN1 := Lib.hid N1
  clear P1 N1
  have HW := Lib.hid (penU8 w1 w.heap.size none (some []) 1 HP1.out (by omega) (by omega) (by intro l h; cases h; simp))
  rw [show wU 1 1 (some []) = some (be 1 1) from rfl] at HW
  go_wp2_with fail
  refine HW.out.mono ?_
  rintro _ w2 ⟨rfl, ho, g, hp, hg⟩
  have HN2 : Hid (New w w2) := Lib.hid (Below.trans HN1.out (ho.below HN1.out.size (fun k e => by
    rcases e with e | e
    · omega
    · cases e)))
  have HG2 : Hid (∀ k, g = some k → w.heap.size ≤ k) := Lib.hid (fun k hk => by
    rcases hg with e | ⟨j, e, hj⟩
    · rw [e] at hk; cases hk
    · rw [e] at hk; cases hk; exact Nat.le_trans HN1.out.size hj)
  have HC := Lib.hid (HF.out w2 w.heap.size g HN2.out hp (Nat.le_refl _) HG2.out)
  clear ho hp hg HW HP1 HF
  go_wp2_with fail
  refine HC.out.mono ?_
  rintro _ w3 ⟨rfl, ho, g3, hp, hg⟩
  have HN3 : Hid (New w w3) := Lib.hid (Below.trans HN2.out (ho.below HN2.out.size (fun k e => by
    rcases e with e | e
    · omega
    · exact HG2.out k e.symm)))
  have HB := Lib.hid (penBytes w3 w.heap.size g3 S hp (fun l hl => by have := HS.out l hl; omega))
  clear ho hp hg HC HG2 HN2 HN1
  go_wp2_with fail
  refine HB.out.mono ?_
  rintro _ w4 ⟨a, n, c, rfl, hf⟩
  have HR := Lib.hid hf.1
  have HN4 := Lib.hid (New.trans HN3.out hf.2.1)
  clear hf HB HN3
  cases S with
  | none =>
    clear HR
    go_wp2
    go_ret
    exact ⟨none, 0, 0, rfl, Rd.nil _, HN4.out⟩
  | some l =>
    have HD := Lib.hid (sum1 w4 _ _ l rfl HR.out (by have := HS.out l rfl; omega) (HL.out.new HN4.out))
    go_wp2_with fail
    refine HD.out.mono ?_
    rintro _ w5 ⟨a', n', c', rfl, hr, -, n5⟩
    have HR5 := Lib.hid hr
    have HN5 := Lib.hid (New.trans HN4.out n5)
    clear hr n5 HD HR HN4
    go_wp2
    go_ret
    exact ⟨a', n', c', rfl, HR5.out, HN5.out⟩

set_option maxHeartbeats 2000000 in
theorem digBranch (w : World) (b1 b2 b3 : Nat) (S : Option (List UInt8)) (hF : Writes w 20 [.pointer (some ⟨b1, 0, none⟩), .pointer (some ⟨b2, 0, none⟩), .pointer (some ⟨b3, 0, none⟩)] 2 S) (hS : ∀ l, S = some l → l.length ≤ 10000) (hL : Laid w) :
    Calls Tryd.prog 14 #[.int .i64 2, .func (.func 20) #[] #[.pointer (some ⟨b1, 0, none⟩), .pointer (some ⟨b2, 0, none⟩), .pointer (some ⟨b3, 0, none⟩)]] w (DigTo19 w S) := by
  have HF := Lib.hid hF
  have HL := Lib.hid hL
  have HS := Lib.hid hS
  clear hF hL hS
  unfold Writes at HF
  go_enter Tryd.func14, Tryd.ntmps14
  go_wp2_with fail
  refine (penNew w).mono ?_
  rintro _ w1 ⟨rfl, P1, N1, -⟩
  have HP1 := Lib.hid P1
  have HN1 := Lib.hid N1
  clear P1 N1
  have HW := Lib.hid (penU8 w1 w.heap.size none (some []) 2 HP1.out (by omega) (by omega) (by intro l h; cases h; simp))
  rw [show wU 1 2 (some []) = some (be 1 2) from rfl] at HW
  go_wp2_with fail
  refine HW.out.mono ?_
  rintro _ w2 ⟨rfl, ho, g, hp, hg⟩
  have HN2 : Hid (New w w2) := Lib.hid (Below.trans HN1.out (ho.below HN1.out.size (fun k e => by
    rcases e with e | e
    · omega
    · cases e)))
  have HG2 : Hid (∀ k, g = some k → w.heap.size ≤ k) := Lib.hid (fun k hk => by
    rcases hg with e | ⟨j, e, hj⟩
    · rw [e] at hk; cases hk
    · rw [e] at hk; cases hk; exact Nat.le_trans HN1.out.size hj)
  have HC := Lib.hid (HF.out w2 w.heap.size g HN2.out hp (Nat.le_refl _) HG2.out)
  clear ho hp hg HW HP1 HF
  go_wp2_with fail
  refine HC.out.mono ?_
  rintro _ w3 ⟨rfl, ho, g3, hp, hg⟩
  have HN3 : Hid (New w w3) := Lib.hid (Below.trans HN2.out (ho.below HN2.out.size (fun k e => by
    rcases e with e | e
    · omega
    · exact HG2.out k e.symm)))
  have HB := Lib.hid (penBytes w3 w.heap.size g3 S hp (fun l hl => by have := HS.out l hl; omega))
  clear ho hp hg HC HG2 HN2 HN1
  go_wp2_with fail
  refine HB.out.mono ?_
  rintro _ w4 ⟨a, n, c, rfl, hf⟩
  have HR := Lib.hid hf.1
  have HN4 := Lib.hid (New.trans HN3.out hf.2.1)
  clear hf HB HN3
  cases S with
  | none =>
    clear HR
    go_wp2
    go_ret
    exact ⟨none, 0, 0, rfl, Rd.nil _, HN4.out⟩
  | some l =>
    have HD := Lib.hid (sum1 w4 _ _ l rfl HR.out (by have := HS.out l rfl; omega) (HL.out.new HN4.out))
    go_wp2_with fail
    refine HD.out.mono ?_
    rintro _ w5 ⟨a', n', c', rfl, hr, -, n5⟩
    have HR5 := Lib.hid hr
    have HN5 := Lib.hid (New.trans HN4.out n5)
    clear hr n5 HD HR HN4
    go_wp2
    go_ret
    exact ⟨a', n', c', rfl, HR5.out, HN5.out⟩

set_option maxHeartbeats 2000000 in
theorem digParent (w : World) (b1 b2 : Nat) (S : Option (List UInt8)) (hF : Writes w 22 [.pointer (some ⟨b1, 0, none⟩), .pointer (some ⟨b2, 0, none⟩)] 3 S) (hS : ∀ l, S = some l → l.length ≤ 10000) (hL : Laid w) :
    Calls Tryd.prog 14 #[.int .i64 3, .func (.func 22) #[] #[.pointer (some ⟨b1, 0, none⟩), .pointer (some ⟨b2, 0, none⟩)]] w (DigTo19 w S) := by
  have HF := Lib.hid hF
  have HL := Lib.hid hL
  have HS := Lib.hid hS
  clear hF hL hS
  unfold Writes at HF
  go_enter Tryd.func14, Tryd.ntmps14
  go_wp2_with fail
  refine (penNew w).mono ?_
  rintro _ w1 ⟨rfl, P1, N1, -⟩
  have HP1 := Lib.hid P1
  have HN1 := Lib.hid N1
  clear P1 N1
  have HW := Lib.hid (penU8 w1 w.heap.size none (some []) 3 HP1.out (by omega) (by omega) (by intro l h; cases h; simp))
  rw [show wU 1 3 (some []) = some (be 1 3) from rfl] at HW
  go_wp2_with fail
  refine HW.out.mono ?_
  rintro _ w2 ⟨rfl, ho, g, hp, hg⟩
  have HN2 : Hid (New w w2) := Lib.hid (Below.trans HN1.out (ho.below HN1.out.size (fun k e => by
    rcases e with e | e
    · omega
    · cases e)))
  have HG2 : Hid (∀ k, g = some k → w.heap.size ≤ k) := Lib.hid (fun k hk => by
    rcases hg with e | ⟨j, e, hj⟩
    · rw [e] at hk; cases hk
    · rw [e] at hk; cases hk; exact Nat.le_trans HN1.out.size hj)
  have HC := Lib.hid (HF.out w2 w.heap.size g HN2.out hp (Nat.le_refl _) HG2.out)
  clear ho hp hg HW HP1 HF
  go_wp2_with fail
  refine HC.out.mono ?_
  rintro _ w3 ⟨rfl, ho, g3, hp, hg⟩
  have HN3 : Hid (New w w3) := Lib.hid (Below.trans HN2.out (ho.below HN2.out.size (fun k e => by
    rcases e with e | e
    · omega
    · exact HG2.out k e.symm)))
  have HB := Lib.hid (penBytes w3 w.heap.size g3 S hp (fun l hl => by have := HS.out l hl; omega))
  clear ho hp hg HC HG2 HN2 HN1
  go_wp2_with fail
  refine HB.out.mono ?_
  rintro _ w4 ⟨a, n, c, rfl, hf⟩
  have HR := Lib.hid hf.1
  have HN4 := Lib.hid (New.trans HN3.out hf.2.1)
  clear hf HB HN3
  cases S with
  | none =>
    clear HR
    go_wp2
    go_ret
    exact ⟨none, 0, 0, rfl, Rd.nil _, HN4.out⟩
  | some l =>
    have HD := Lib.hid (sum1 w4 _ _ l rfl HR.out (by have := HS.out l rfl; omega) (HL.out.new HN4.out))
    go_wp2_with fail
    refine HD.out.mono ?_
    rintro _ w5 ⟨a', n', c', rfl, hr, -, n5⟩
    have HR5 := Lib.hid hr
    have HN5 := Lib.hid (New.trans HN4.out n5)
    clear hr n5 HD HR HN4
    go_wp2
    go_ret
    exact ⟨a', n', c', rfl, HR5.out, HN5.out⟩

theorem leafS_len {number : Int} {N : NodeL} {l : List UInt8} (h : leafS number N (some (be 1 1)) = some l) : l.length ≤ 10000 := by
  unfold leafS nWrote at h
  split at h
  · split at h
    · rename_i hok
      have := nEnc_length hok
      simp only [Option.map_some, Option.some.injEq] at h
      rw [← h, List.length_append, List.length_append, be_length, be_length]
      omega
    · cases h
  · cases h

theorem branchS_len {N : NodeL} {x y l : List UInt8} (hx : x.length ≤ 1000) (hy : y.length ≤ 1000) (h : branchS N x y (some (be 1 2)) = some l) : l.length ≤ 10000 := by
  unfold branchS nWrote at h
  split at h
  · rename_i hok
    have := nEnc_length hok
    simp only [Option.map_some, Option.some.injEq] at h
    rw [← h, List.length_append, List.length_append, List.length_append, be_length]
    omega
  · cases h

theorem parentS_len {N : NodeL} {x l : List UInt8} (hx : x.length ≤ 1000) (h : parentS N x (some (be 1 3)) = some l) : l.length ≤ 10000 := by
  unfold parentS at h
  split at h
  · rename_i hok
    have := (nOk_lens hok.2).2.1
    simp only [Option.map_some, Option.some.injEq] at h
    rw [← h, List.length_append, List.length_append, be_length, nTail_length19]
    omega
  · cases h

set_option maxHeartbeats 2000000 in
theorem nodLeafHash (w : World) (number : Int) (hn : -9223372036854775808 ≤ number ∧ number ≤ 9223372036854775807) (u : NodeV) (N : NodeL) (hu : NodeR w u N) (hL : Laid w) :
    Calls Tryd.prog 6 #[.int .i64 number, u.val N] w (DigTo19 w (leafS number N (some (be 1 1)))) := by
  have HU := Lib.hid hu
  have HL := Lib.hid hL
  have HNM := Lib.hid hn
  obtain ⟨a1, n1, c1, a2, n2, c2, a3, n3, c3, rfl⟩ := hu.forms
  clear hu hL hn
  obtain ⟨rk, rn, ry, rp, ru⟩ := N
  unfold NodeV.val
  dsimp only
  go_enter Tryd.func6, Tryd.ntmps6
  go_upto_region 1 with fail
  generalize hw1 : World.alloc w _ = w1
  have hz1 : w1.heap.size = w.heap.size + 1 := by rw [← hw1]; simp
  have N1 : New w w1 := by rw [← hw1]; exact (Below.refl _ _).alloc (Nat.le_refl _) _
  have B1 : Bx19 w1 w.heap.size 3 (.int .i64 number) := by rw [← hw1]; exact heap_alloc_new _ _
  clear hw1
  generalize hw2 : World.alloc w1 _ = w2
  have N2 : New w1 w2 := by rw [← hw2]; exact (Below.refl _ _).alloc (Nat.le_refl _) _
  have A2 : At5 w2 (w.heap.size + 1) 26 (.int .i64 rk) (.slice a1 n1 c1) (.int .u64 (ry : Int)) (.slice a2 n2 c2) (.slice a3 n3 c3) := by rw [← hw2, ← hz1]; exact heap_alloc_new _ _
  clear hw2
  have HN2 := Lib.hid (New.trans N1 N2)
  have HB1 := Lib.hid (B1.new N2)
  have HA : Hid (NBlk w2 (w.heap.size + 1) ⟨.slice a1 n1 c1, .slice a2 n2 c2, .slice a3 n3 c3⟩ ⟨rk, rn, ry, rp, ru⟩) := Lib.hid ⟨A2, HU.out.new HN2.out⟩
  clear N1 N2 B1 A2 hz1
  generalize w.heap.size = b1 at *
  generalize b1 + 1 = b2 at *
  have HD := Lib.hid (digLeaf w2 b1 b2 (leafS number ⟨rk, rn, ry, rp, ru⟩ (some (be 1 1))) (fun w3 p g hn hp h1 h2 => leafFn w3 p g _ hp b1 b2 number HNM.out _ _ (HB1.out.new hn) (HA.out.new hn) ((offN_behind19 HA.out.rd h1 h2)) (box_behind19 HB1.out.lt h1 h2) (box_behind19 HA.out.at_.lt h1 h2) (by intro l hl; cases hl; rw [be_length]; omega)) (fun l hl => leafS_len hl) (HL.out.new HN2.out))
  go_wp2_with fail
  refine HD.out.mono ?_
  rintro _ w4 ⟨a, n, c, rfl, hr, n4⟩
  have HR := Lib.hid hr
  have HN4 := Lib.hid (New.trans HN2.out n4)
  clear hr n4 HD HA HB1 HN2
  go_wp2
  go_ret
  exact ⟨a, n, c, rfl, HR.out, HN4.out⟩

set_option maxHeartbeats 2000000 in
theorem nodBranchHash (w : World) (u : NodeV) (N : NodeL) (x y : Value) (l r : List UInt8) (hu : NodeR w u N) (hx : Rd w x l) (hy : Rd w y r) (hlx : l.length ≤ 1000) (hly : r.length ≤ 1000) (hL : Laid w) :
    Calls Tryd.prog 7 #[u.val N, x, y] w (DigTo19 w (branchS N l r (some (be 1 2)))) := by
  have HU := Lib.hid hu
  have HL := Lib.hid hL
  have HX := Lib.hid hx
  have HY := Lib.hid hy
  have HLX := Lib.hid hlx
  have HLY := Lib.hid hly
  obtain ⟨a1, n1, c1, a2, n2, c2, a3, n3, c3, rfl⟩ := hu.forms
  obtain ⟨ax, nx, cx, rfl⟩ : ∃ a n c, x = .slice a n c := by obtain ⟨a, n, c, e, -⟩ := hx; exact ⟨a, n, c, e⟩
  obtain ⟨ay, ny, cy, rfl⟩ : ∃ a n c, y = .slice a n c := by obtain ⟨a, n, c, e, -⟩ := hy; exact ⟨a, n, c, e⟩
  clear hu hL hx hy hlx hly
  obtain ⟨rk, rn, ry, rp, ru⟩ := N
  unfold NodeV.val
  dsimp only
  go_enter Tryd.func7, Tryd.ntmps7
  go_upto_region 1 with fail
  generalize hw1 : World.alloc w _ = w1
  have hz1 : w1.heap.size = w.heap.size + 1 := by rw [← hw1]; simp
  have N1 : New w w1 := by rw [← hw1]; exact (Below.refl _ _).alloc (Nat.le_refl _) _
  have A1 : At5 w1 w.heap.size 26 (.int .i64 rk) (.slice a1 n1 c1) (.int .u64 (ry : Int)) (.slice a2 n2 c2) (.slice a3 n3 c3) := by rw [← hw1]; exact heap_alloc_new _ _
  clear hw1
  generalize hw2 : World.alloc w1 _ = w2
  have hz2 : w2.heap.size = w.heap.size + 1 + 1 := by rw [← hw2]; simp; omega
  have N2 : New w1 w2 := by rw [← hw2]; exact (Below.refl _ _).alloc (Nat.le_refl _) _
  have B2 : Bx19 w2 (w.heap.size + 1) 22 (.slice ax nx cx) := by rw [← hw2, ← hz1]; exact heap_alloc_new _ _
  clear hw2
  generalize hw3 : World.alloc w2 _ = w3
  have N3 : New w2 w3 := by rw [← hw3]; exact (Below.refl _ _).alloc (Nat.le_refl _) _
  have B3 : Bx19 w3 (w.heap.size + 1 + 1) 22 (.slice ay ny cy) := by rw [← hw3, ← hz2]; exact heap_alloc_new _ _
  clear hw3
  have HN3 := Lib.hid (New.trans N1 (New.trans N2 N3))
  have HB2 := Lib.hid (B2.new N3)
  have HB3 := Lib.hid B3
  have HA : Hid (NBlk w3 w.heap.size ⟨.slice a1 n1 c1, .slice a2 n2 c2, .slice a3 n3 c3⟩ ⟨rk, rn, ry, rp, ru⟩) := Lib.hid ⟨A1.new (New.trans N2 N3), HU.out.new HN3.out⟩
  have HX3 := Lib.hid (HX.out.new HN3.out)
  have HY3 := Lib.hid (HY.out.new HN3.out)
  clear N1 N2 N3 B2 B3 A1 hz1 hz2
  try simp only [Nat.add_assoc, Nat.reduceAdd] at *
  generalize w.heap.size = b1 at *
  generalize b1 + 1 = b2 at *
  generalize b1 + 2 = b3 at *
  have HD := Lib.hid (digBranch w3 b1 b2 b3 (branchS ⟨rk, rn, ry, rp, ru⟩ l r (some (be 1 2))) (fun w4 p g hn hp h1 h2 => branchFn w4 p g _ hp b1 b2 b3 _ _ _ _ l r (HA.out.new hn) (HB2.out.new hn) (HB3.out.new hn) (HX3.out.new hn) (HY3.out.new hn) (offN_behind19 HA.out.rd h1 h2) (off_behind19 HX3.out h1 h2) (off_behind19 HY3.out h1 h2) (box_behind19 HA.out.at_.lt h1 h2) (box_behind19 HB2.out.lt h1 h2) (box_behind19 HB3.out.lt h1 h2) (by intro k hk; cases hk; rw [be_length]; have := HLX.out; have := HLY.out; omega)) (fun k hk => branchS_len HLX.out HLY.out hk) (HL.out.new HN3.out))
  go_wp2_with fail
  refine HD.out.mono ?_
  rintro _ w4 ⟨a, n, c, rfl, hr, n4⟩
  have HR := Lib.hid hr
  have HN4 := Lib.hid (New.trans HN3.out n4)
  clear hr n4 HD HA HB2 HB3 HN3
  go_wp2
  go_ret
  exact ⟨a, n, c, rfl, HR.out, HN4.out⟩

set_option maxHeartbeats 2000000 in
theorem nodParentHash (w : World) (u : NodeV) (N : NodeL) (x : Value) (l : List UInt8) (hu : NodeR w u N) (hx : Rd w x l) (hlx : l.length ≤ 1000) (hL : Laid w) :
    Calls Tryd.prog 8 #[u.val N, x] w (DigTo19 w (parentS N l (some (be 1 3)))) := by
  have HU := Lib.hid hu
  have HL := Lib.hid hL
  have HX := Lib.hid hx
  have HLX := Lib.hid hlx
  obtain ⟨a1, n1, c1, a2, n2, c2, a3, n3, c3, rfl⟩ := hu.forms
  obtain ⟨ax, nx, cx, rfl⟩ : ∃ a n c, x = .slice a n c := by obtain ⟨a, n, c, e, -⟩ := hx; exact ⟨a, n, c, e⟩
  clear hu hL hx hlx
  obtain ⟨rk, rn, ry, rp, ru⟩ := N
  unfold NodeV.val
  dsimp only
  go_enter Tryd.func8, Tryd.ntmps8
  go_upto_region 1 with fail
  generalize hw1 : World.alloc w _ = w1
  have hz1 : w1.heap.size = w.heap.size + 1 := by rw [← hw1]; simp
  have N1 : New w w1 := by rw [← hw1]; exact (Below.refl _ _).alloc (Nat.le_refl _) _
  have A1 : At5 w1 w.heap.size 26 (.int .i64 rk) (.slice a1 n1 c1) (.int .u64 (ry : Int)) (.slice a2 n2 c2) (.slice a3 n3 c3) := by rw [← hw1]; exact heap_alloc_new _ _
  clear hw1
  generalize hw2 : World.alloc w1 _ = w2
  have N2 : New w1 w2 := by rw [← hw2]; exact (Below.refl _ _).alloc (Nat.le_refl _) _
  have B2 : Bx19 w2 (w.heap.size + 1) 22 (.slice ax nx cx) := by rw [← hw2, ← hz1]; exact heap_alloc_new _ _
  clear hw2
  have HN2 := Lib.hid (New.trans N1 N2)
  have HB2 := Lib.hid B2
  have HA : Hid (NBlk w2 w.heap.size ⟨.slice a1 n1 c1, .slice a2 n2 c2, .slice a3 n3 c3⟩ ⟨rk, rn, ry, rp, ru⟩) := Lib.hid ⟨A1.new N2, HU.out.new HN2.out⟩
  have HX2 := Lib.hid (HX.out.new HN2.out)
  clear N1 N2 B2 A1 hz1
  generalize w.heap.size = b1 at *
  generalize b1 + 1 = b2 at *
  have HD := Lib.hid (digParent w2 b1 b2 (parentS ⟨rk, rn, ry, rp, ru⟩ l (some (be 1 3))) (fun w4 p g hn hp h1 h2 => parentFn w4 p g _ hp b1 b2 _ _ _ l (HA.out.new hn) (HB2.out.new hn) (HX2.out.new hn) (offN_behind19 HA.out.rd h1 h2) (off_behind19 HX2.out h1 h2) (box_behind19 HA.out.at_.lt h1 h2) (box_behind19 HB2.out.lt h1 h2) (by intro k hk; cases hk; rw [be_length]; have := HLX.out; omega)) (fun k hk => parentS_len HLX.out hk) (HL.out.new HN2.out))
  go_wp2_with fail
  refine HD.out.mono ?_
  rintro _ w4 ⟨a, n, c, rfl, hr, n4⟩
  have HR := Lib.hid hr
  have HN4 := Lib.hid (New.trans HN2.out n4)
  clear hr n4 HD HA HB2 HN2
  go_wp2
  go_ret
  exact ⟨a, n, c, rfl, HR.out, HN4.out⟩

end Go.Proofs.YtliojldkdmaofaaDoor
