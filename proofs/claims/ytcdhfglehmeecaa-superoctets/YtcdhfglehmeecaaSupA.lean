/-
  Layer 14, pure: superblocks, their encodings, the newest of two sectors.
  super: within, Right, home, sectors, Sectors, octets, Octets.
  super: fields, Read, Newest.
  super: Newest.
  super: found, Find, Store: on a disk.
  super: Store.
-/
import Derived.Test.YtcdhfglehmeecaaCrcA
import Derived.Test.YtcdhfglehmeecaaEyeA
import Derived.Test.YtcdhfglehmeecaaDskA
import Derived.Test.YtcdhfglehmeecaaSlZero
import Derived.Test.YtcdhfglehmeecaaCell5
import Derived.Test.YtcdhfglehmeecaaBase
import Derived.Test.YtcdhfglehmeecaaPenA
import Derived.Test.YtcdhfglehmeecaaFltWrap
import Derived.Lib.SlBytesConst
import Derived.Deep.Cut
namespace Go.Proofs.Ytcdhfglehmeecaa
set_option linter.unusedVariables false
set_option linter.unusedSimpArgs false
open Go.RowKit

/-- a superblock's numbers -/
structure SupN where
  gen : Int
  boot : Int
  slots : Int
  segs : Int
  size : Int

def SupN.val (s : SupN) : Value := .agg #[.int .i64 s.gen, .int .i64 s.boot, .int .i64 s.slots, .int .i64 s.segs, .int .i64 s.size]
def SupN.nums (s : SupN) : Prop := (-9223372036854775808 ≤ s.gen ∧ s.gen ≤ 9223372036854775807) ∧ (-9223372036854775808 ≤ s.boot ∧ s.boot ≤ 9223372036854775807) ∧ (-9223372036854775808 ≤ s.slots ∧ s.slots ≤ 9223372036854775807) ∧ (-9223372036854775808 ≤ s.segs ∧ s.segs ≤ 9223372036854775807) ∧ (-9223372036854775808 ≤ s.size ∧ s.size ≤ 9223372036854775807)
def supZero : SupN := ⟨0, 0, 0, 0, 0⟩

def insideS (n lo hi : Int) : Bool := decide (lo ≤ n) && decide (n ≤ hi)
def SupN.okB (s : SupN) : Bool := insideS s.gen 1 1099511627776 && (insideS s.boot 0 1099511627776 && (insideS s.slots 1 64 && (insideS s.segs 1 256 && insideS s.size 2 512)))

theorem SupN.okB_iff (s : SupN) : s.okB = true ↔ (1 ≤ s.gen ∧ s.gen ≤ 1099511627776) ∧ (0 ≤ s.boot ∧ s.boot ≤ 1099511627776) ∧ (1 ≤ s.slots ∧ s.slots ≤ 64) ∧ (1 ≤ s.segs ∧ s.segs ≤ 256) ∧ (2 ≤ s.size ∧ s.size ≤ 512) := by
  simp only [okB, insideS, Bool.and_eq_true, decide_eq_true_eq]

def supRaw (s : SupN) : List UInt8 := [101, 110, 103, 115] ++ be 8 s.gen.toNat ++ be 8 s.boot.toNat ++ be 4 s.slots.toNat ++ be 4 s.segs.toNat ++ be 4 s.size.toNat
theorem supRaw_length (s : SupN) : (supRaw s).length = 32 := by simp [supRaw, be_length]
def supEnc (s : SupN) : List UInt8 := crcWith (supRaw s) ++ List.replicate (128 - (crcWith (supRaw s)).length) 0
theorem supEnc_length (s : SupN) : (supEnc s).length = 128 := by
  unfold supEnc
  rw [List.length_append, List.length_replicate, crcWith_length, supRaw_length]

/-- m bytes from byte k on -/
def sCut (b : List UInt8) (k m : Nat) : List UInt8 := (b.drop k).take m

theorem sCut_at (a m r : List UInt8) (k n : Nat) (ha : a.length = k) (hm : m.length = n) : sCut (a ++ (m ++ r)) k n = m := by
  unfold sCut
  rw [List.drop_left' ha, List.take_left' hm]

theorem sCut_length {b : List UInt8} {k m : Nat} (h : k + m ≤ b.length) : (sCut b k m).length = m := by
  unfold sCut; rw [List.length_take, List.length_drop]; omega

/-- the numbers at a superblock's places -/
def supFld (b : List UInt8) : SupN := ⟨wrap64 (val (sCut b 4 8)), wrap64 (val (sCut b 12 8)), val (sCut b 20 4), val (sCut b 24 4), val (sCut b 28 4)⟩

theorem wrap64_nat (n : Nat) (h : n ≤ 9223372036854775807) : wrap64 (n : Int) = (n : Int) := wrap_small _ (by omega)

theorem supFld_enc {s : SupN} (h : s.okB = true) : supFld (supEnc s) = s := by
  obtain ⟨h1, h2, h3, h4, h5⟩ := (s.okB_iff).1 h
  obtain ⟨g, b, sl, se, si⟩ := s
  dsimp only at h1 h2 h3 h4 h5
  obtain ⟨r, hr⟩ : ∃ r, supEnc ⟨g, b, sl, se, si⟩ = [101, 110, 103, 115] ++ be 8 g.toNat ++ be 8 b.toNat ++ be 4 sl.toNat ++ be 4 se.toNat ++ be 4 si.toNat ++ r := by
    unfold supEnc crcWith supRaw
    exact ⟨_, List.append_assoc _ _ _⟩
  have c1 : sCut (supEnc ⟨g, b, sl, se, si⟩) 4 8 = be 8 g.toNat := by
    rw [hr]; simp only [List.append_assoc]; exact sCut_at _ _ _ 4 8 rfl (be_length _ _)
  have c2 : sCut (supEnc ⟨g, b, sl, se, si⟩) 12 8 = be 8 b.toNat := by
    rw [hr]; rw [show [101, 110, 103, 115] ++ be 8 g.toNat ++ be 8 b.toNat ++ be 4 sl.toNat ++ be 4 se.toNat ++ be 4 si.toNat ++ r = ([101, 110, 103, 115] ++ be 8 g.toNat) ++ (be 8 b.toNat ++ (be 4 sl.toNat ++ be 4 se.toNat ++ be 4 si.toNat ++ r)) by simp only [List.append_assoc]]
    exact sCut_at _ _ _ 12 8 (by simp [be_length]) (be_length _ _)
  have c3 : sCut (supEnc ⟨g, b, sl, se, si⟩) 20 4 = be 4 sl.toNat := by
    rw [hr]; rw [show [101, 110, 103, 115] ++ be 8 g.toNat ++ be 8 b.toNat ++ be 4 sl.toNat ++ be 4 se.toNat ++ be 4 si.toNat ++ r = ([101, 110, 103, 115] ++ be 8 g.toNat ++ be 8 b.toNat) ++ (be 4 sl.toNat ++ (be 4 se.toNat ++ be 4 si.toNat ++ r)) by simp only [List.append_assoc]]
    exact sCut_at _ _ _ 20 4 (by simp [be_length]) (be_length _ _)
  have c4 : sCut (supEnc ⟨g, b, sl, se, si⟩) 24 4 = be 4 se.toNat := by
    rw [hr]; rw [show [101, 110, 103, 115] ++ be 8 g.toNat ++ be 8 b.toNat ++ be 4 sl.toNat ++ be 4 se.toNat ++ be 4 si.toNat ++ r = ([101, 110, 103, 115] ++ be 8 g.toNat ++ be 8 b.toNat ++ be 4 sl.toNat) ++ (be 4 se.toNat ++ (be 4 si.toNat ++ r)) by simp only [List.append_assoc]]
    exact sCut_at _ _ _ 24 4 (by simp [be_length]) (be_length _ _)
  have c5 : sCut (supEnc ⟨g, b, sl, se, si⟩) 28 4 = be 4 si.toNat := by
    rw [hr]; rw [show [101, 110, 103, 115] ++ be 8 g.toNat ++ be 8 b.toNat ++ be 4 sl.toNat ++ be 4 se.toNat ++ be 4 si.toNat ++ r = ([101, 110, 103, 115] ++ be 8 g.toNat ++ be 8 b.toNat ++ be 4 sl.toNat ++ be 4 se.toNat) ++ (be 4 si.toNat ++ r) by simp only [List.append_assoc]]
    exact sCut_at _ _ _ 28 4 (by simp [be_length]) (be_length _ _)
  unfold supFld
  rw [c1, c2, c3, c4, c5, val_be_lt _ _ (by omega), val_be_lt _ _ (by omega), val_be_lt _ _ (by omega), val_be_lt _ _ (by omega), val_be_lt _ _ (by omega), wrap64_nat _ (by omega), wrap64_nat _ (by omega)]
  congr 1 <;> omega

/-- what a sector tells -/
def supRead (b : List UInt8) (place : Int) : Option SupN := if b.length = 128 ∧ (supFld b).okB = true ∧ supEnc (supFld b) = b ∧ (supFld b).gen.tmod 2 = place then some (supFld b) else none

theorem supRead_len {b : List UInt8} {place : Int} (h : b.length ≠ 128) : supRead b place = none := if_neg (fun hh => h hh.1)
theorem supRead_bad {b : List UInt8} {place : Int} (h : (supFld b).okB = false) : supRead b place = none := if_neg (fun hh => by rw [h] at hh; simp at hh)
theorem supRead_off {b : List UInt8} {place : Int} (h : supEnc (supFld b) ≠ b) : supRead b place = none := if_neg (fun hh => h hh.2.2.1)
theorem supRead_place {b : List UInt8} {place : Int} (h : (supFld b).gen.tmod 2 ≠ place) : supRead b place = none := if_neg (fun hh => h hh.2.2.2)
theorem supRead_some {b : List UInt8} {place : Int} {s : SupN} (h : supRead b place = some s) : s = supFld b ∧ s.okB = true := by
  unfold supRead at h
  split at h
  · rename_i hh
    cases h
    exact ⟨rfl, hh.2.1⟩
  · cases h

theorem supRead_enc {s : SupN} (h : s.okB = true) (place : Int) : supRead (supEnc s) place = if s.gen.tmod 2 = place then some s else none := by
  unfold supRead
  rw [supFld_enc h]
  by_cases hp : s.gen.tmod 2 = place
  · rw [if_pos ⟨supEnc_length s, h, rfl, hp⟩, if_pos hp]
  · rw [if_neg (fun hh => hp hh.2.2.2), if_neg hp]

theorem supRead_zero (place : Int) : supRead (List.replicate 128 0) place = none := supRead_bad (by decide +kernel)

/-- the newer one of two -/
def supNewer : Option SupN → Option SupN → Option SupN
  | some s, some t => if s.gen < t.gen then some t else some s
  | none, o => o
  | o, none => o

def supNewest (b : List UInt8) : Option SupN := if 256 ≤ b.length then supNewer (supRead (sec b 0) 0) (supRead (sec b 1) 1) else none

def supGot (o : Option SupN) : SupN := o.getD supZero

/-- the program's round: newest, and one that was read -/
def supStep (n : SupN) (o : Option SupN) : SupN := match o with
  | some s => if n.gen < s.gen then s else n
  | none => n

theorem supGot_ok (o : Option SupN) (h : ∀ s, o = some s → s.okB = true) : (supGot o).okB = o.isSome := by
  cases o with
  | none => decide +kernel
  | some s => exact h s rfl

theorem supStep_zero (o : Option SupN) (h : ∀ s, o = some s → s.okB = true) : supStep supZero o = supGot o := by
  cases o with
  | none => rfl
  | some s =>
    have := ((s.okB_iff).1 (h s rfl)).1.1
    exact if_pos (show (0 : Int) < s.gen by omega)

theorem supStep_two (o p : Option SupN) (ho : ∀ s, o = some s → s.okB = true) (hp : ∀ s, p = some s → s.okB = true) : supStep (supGot o) p = supGot (supNewer o p) := by
  cases o with
  | none => cases p with
    | none => rfl
    | some t => exact supStep_zero (some t) hp
  | some s => cases p with
    | none => rfl
    | some t =>
      show (if s.gen < t.gen then t else s) = supGot (if s.gen < t.gen then some t else some s)
      split <;> rfl

theorem supNewer_ok (o p : Option SupN) (ho : ∀ s, o = some s → s.okB = true) (hp : ∀ s, p = some s → s.okB = true) : ∀ s, supNewer o p = some s → s.okB = true := by
  intro x hx
  cases o with
  | none => exact hp x hx
  | some s => cases p with
    | none => exact ho x hx
    | some t =>
      change (if s.gen < t.gen then some t else some s) = some x at hx
      split at hx
      · cases hx; exact hp _ rfl
      · cases hx; exact ho _ rfl

theorem supNewest_ok {b : List UInt8} : ∀ s, supNewest b = some s → s.okB = true := by
  intro s hs
  unfold supNewest at hs
  split at hs
  · exact supNewer_ok _ _ (fun s h => (supRead_some h).2) (fun s h => (supRead_some h).2) s hs
  · cases hs

def supSectors (s : SupN) : Int := if s.okB = true then 2 + 2 * s.slots + s.segs * s.size else 0

/-- two sectors, one of them a superblock's, the other one's older, or none's -/
theorem supNewest_one {b : List UInt8} {s : SupN} {h : Nat} (hb : 256 ≤ b.length) (hs : s.okB = true) (hh : s.gen.tmod 2 = (h : Int)) (h2 : h < 2) (he : sec b h = supEnc s) (ho : sec b (1 - h) = List.replicate 128 0) : supNewest b = some s := by
  unfold supNewest
  rw [if_pos hb]
  rcases Nat.lt_or_ge h 1 with k | k
  · obtain rfl : h = 0 := by omega
    rw [he, show sec b 1 = List.replicate 128 0 from ho, supRead_zero, supRead_enc hs, if_pos (by simpa using hh)]
    rfl
  · obtain rfl : h = 1 := by omega
    rw [he, show sec b 0 = List.replicate 128 0 from ho, supRead_zero, supRead_enc hs, if_pos (by simpa using hh)]
    rfl

theorem supNewest_two {b : List UInt8} {s t : SupN} {h : Nat} (hb : 256 ≤ b.length) (hs : s.okB = true) (ht : t.okB = true) (hh : s.gen.tmod 2 = (h : Int)) (hk : t.gen.tmod 2 = ((1 - h : Nat) : Int)) (h2 : h < 2) (he : sec b h = supEnc s) (ho : sec b (1 - h) = supEnc t) (hg : s.gen < t.gen) : supNewest b = some t := by
  unfold supNewest
  rw [if_pos hb]
  rcases Nat.lt_or_ge h 1 with k | k
  · obtain rfl : h = 0 := by omega
    rw [he, show sec b 1 = supEnc t from ho, supRead_enc hs, supRead_enc ht, if_pos (by simpa using hh), if_pos (by simpa using hk)]
    exact if_pos hg
  · obtain rfl : h = 1 := by omega
    rw [he, show sec b 0 = supEnc t from ho, supRead_enc hs, supRead_enc ht, if_pos (by simpa using hk), if_pos (by simpa using hh)]
    exact if_neg (by omega)

end Go.Proofs.Ytcdhfglehmeecaa

namespace Go.Proofs.Ytcdhfglehmeecaa
set_option linter.unusedVariables false
set_option linter.unusedSimpArgs false
open Go.RowKit

theorem supWithin (w : World) (n lo hi : Int) : Calls Try.prog 23 #[.int .i64 n, .int .i64 lo, .int .i64 hi] w fun e w' => e = .returned (.bool (insideS n lo hi)) ∧ w = w' := by
  by_cases h0 : lo ≤ n
  · have d0 : decide (lo ≤ n) = true := by simpa using h0
    obtain ⟨b, hb⟩ : ∃ b, decide (n ≤ hi) = b := ⟨_, rfl⟩
    have e : insideS n lo hi = b := by unfold insideS; rw [d0, hb]; rfl
    rw [e]
    clear e h0
    go_enter Try.func23, Try.ntmps23
    go_wp2
    go_ret
    exact ⟨rfl, rfl⟩
  · have d0 : decide (lo ≤ n) = false := by simpa using h0
    have e : insideS n lo hi = false := by unfold insideS; rw [d0]; rfl
    rw [e]
    clear e h0
    go_enter Try.func23, Try.ntmps23
    go_wp2
    go_ret
    exact ⟨rfl, rfl⟩

/-- a value, and new memory alone -/
def NewRet (w : World) (v : Value) (e : Ending) (w' : World) : Prop := e = .returned v ∧ New w w'

set_option maxRecDepth 100000 in
set_option maxHeartbeats 1000000 in
theorem supRight (w : World) (s : SupN) : Calls Try.prog 8 #[s.val] w (NewRet w (.bool s.okB)) := by
  have W1 := Lib.hid fun wx => supWithin wx s.gen 1 1099511627776
  have W2 := Lib.hid fun wx => supWithin wx s.boot 0 1099511627776
  have W3 := Lib.hid fun wx => supWithin wx s.slots 1 64
  have W4 := Lib.hid fun wx => supWithin wx s.segs 1 256
  have W5 := Lib.hid fun wx => supWithin wx s.size 2 512
  unfold SupN.okB SupN.val
  obtain ⟨g, b, sl, se, si⟩ := s
  dsimp only at W1 W2 W3 W4 W5 ⊢
  generalize insideS g 1 1099511627776 = b1 at *
  generalize insideS b 0 1099511627776 = b2 at *
  generalize insideS sl 1 64 = b3 at *
  generalize insideS se 1 256 = b4 at *
  generalize insideS si 2 512 = b5 at *
  go_enter Try.func8, Try.ntmps8
  have N1 : New w (w.alloc (.cells #[.int .i64 g, .int .i64 b, .int .i64 sl, .int .i64 se, .int .i64 si] 23)) := (Below.refl _ _).alloc (Nat.le_refl _) _
  go_wp2_with fail
  refine (W1.out _).mono ?_
  rintro e w2 ⟨rfl, rfl⟩
  cases b1
  · go_wp2
    go_ret
    exact ⟨rfl, N1⟩
  rw [Bool.true_and]
  go_wp2_with fail
  refine (W2.out _).mono ?_
  rintro e w2 ⟨rfl, rfl⟩
  cases b2
  · go_wp2
    go_ret
    exact ⟨rfl, N1⟩
  rw [Bool.true_and]
  go_wp2_with fail
  refine (W3.out _).mono ?_
  rintro e w2 ⟨rfl, rfl⟩
  cases b3
  · go_wp2
    go_ret
    exact ⟨rfl, N1⟩
  rw [Bool.true_and]
  go_wp2_with fail
  refine (W4.out _).mono ?_
  rintro e w2 ⟨rfl, rfl⟩
  cases b4
  · go_wp2
    go_ret
    exact ⟨rfl, N1⟩
  rw [Bool.true_and]
  go_wp2_with fail
  refine (W5.out _).mono ?_
  rintro e w2 ⟨rfl, rfl⟩
  go_wp2
  go_ret
  exact ⟨rfl, N1⟩

theorem supHome (w : World) (s : SupN) : Calls Try.prog 27 #[s.val] w (NewRet w (.int .i64 (s.gen.tmod 2))) := by
  obtain ⟨g, b, sl, se, si⟩ := s
  unfold SupN.val
  dsimp only
  have N1 : New w (w.alloc (.cells #[.int .i64 g, .int .i64 b, .int .i64 sl, .int .i64 se, .int .i64 si] 23)) := (Below.refl _ _).alloc (Nat.le_refl _) _
  go_enter Try.func27, Try.ntmps27
  go_wp2
  go_ret
  exact ⟨rfl, N1⟩

set_option maxRecDepth 100000 in
theorem supSectorsOk (w : World) (s : SupN) (h : s.okB = true) : Calls Try.prog 25 #[s.val] w (NewRet w (.int .i64 (supSectors s))) := by
  obtain ⟨-, -, h3, h4, h5⟩ := (s.okB_iff).1 h
  have HS : Hid (supSectors s = 2 + 2 * s.slots + s.segs * s.size) := Lib.hid (if_pos h)
  clear h
  obtain ⟨g, b, sl, se, si⟩ := s
  dsimp only at h3 h4 h5 HS
  unfold SupN.val
  dsimp only
  obtain ⟨m, hm⟩ : ∃ m, se * si = m := ⟨_, rfl⟩
  have hm1 : 0 ≤ m ∧ m ≤ 131072 := by
    rw [← hm]
    exact ⟨Int.mul_nonneg (by omega) (by omega), Int.le_trans (Int.mul_le_mul (show se ≤ 256 by omega) (show si ≤ 512 by omega) (by omega) (by omega)) (by omega)⟩
  rw [hm] at HS
  have N1 : New w (w.alloc (.cells #[.int .i64 g, .int .i64 b, .int .i64 sl, .int .i64 se, .int .i64 si] 23)) := (Below.refl _ _).alloc (Nat.le_refl _) _
  go_enter Try.func25, Try.ntmps25
  go_wp2
  go_ret
  exact ⟨by rw [HS.out]; rfl, N1⟩

/-- the encoding, in a new row -/
def OctOwn (w : World) (s : SupN) (e : Ending) (w' : World) : Prop := ∃ g, e = .returned (.slice (some ⟨g, 0, none⟩) 128 128) ∧ w.heap.size ≤ g ∧ w'.heap[g]? = some (.cells ((supEnc s).map bv).toArray 5) ∧ New w w'

set_option maxRecDepth 100000 in
set_option maxHeartbeats 1000000 in
theorem supOctetsOk (w : World) (s : SupN) (h : s.okB = true) : Calls Try.prog 22 #[s.val] w (OctOwn w s) := by
  have kc := fun (w : World) (C : Array Value) (n c : Nat) => Lib.run_convert_bytes_const (P := Try.prog) w 25 5 C n c Try.underlying25 Try.underlying5
  obtain ⟨h1, h2, h3, h4, h5⟩ := (s.okB_iff).1 h
  clear h
  obtain ⟨X, HX⟩ : ∃ X, Hid (X = s) := ⟨_, Lib.hid rfl⟩
  obtain ⟨g, b, sl, se, si⟩ := s
  dsimp only at h1 h2 h3 h4 h5
  rw [← HX.out, show X.val = .agg #[.int .i64 g, .int .i64 b, .int .i64 sl, .int .i64 se, .int .i64 si] by rw [HX.out]; rfl]
  have hwg : IntKind.u64.wrap g = g := IntWalk.u64_in _ (by omega)
  have hwb : IntKind.u64.wrap b = b := IntWalk.u64_in _ (by omega)
  go_enter Try.func22, Try.ntmps22
  go_wp2_with fail
  generalize hw0 : World.alloc w _ = w0
  have HA : Hid (At5 w0 w.heap.size 23 (.int .i64 g) (.int .i64 b) (.int .i64 sl) (.int .i64 se) (.int .i64 si)) := Lib.hid (by rw [← hw0]; exact heap_alloc_new _ _)
  have N0 : Hid (New w w0) := Lib.hid (by rw [← hw0]; exact (Below.refl _ _).alloc (Nat.le_refl _) _)
  clear hw0
  obtain ⟨gs, hgs⟩ : ∃ gs, w.heap.size = gs := ⟨_, rfl⟩
  rw [hgs] at HA
  rw [hgs]
  clear hgs
  refine (penNew w0).mono ?_
  rintro e w1 ⟨rfl, hp1, N1, -⟩
  have P1 := Lib.hid (Pend.start hp1 N1)
  clear hp1 N1
  have P2 := Lib.hid (P1.out.later ((Below.refl _ _).alloc (Nat.le_refl _) (.cells (([101, 110, 103, 115] : List UInt8).map bv).toArray 5 (4, 5))))
  have R2 := Rd.made w1 [101, 110, 103, 115] 5 (4, 5) (by decide)
  have HR := Lib.hid (pendRaw P2.out _ _ R2 (fun m h => by cases h; decide))
  clear R2
  go_wp2_with fail
  refine HR.out.mono ?_
  rintro e w3 ⟨rfl, p3⟩
  have P3 := Lib.hid p3
  clear p3 P2 HR P1
  simp only [Option.map_some, List.nil_append] at P3
  obtain ⟨x0, -, -, -, -⟩ := (HA.out.new P3.out.1).cells
  have HU := Lib.hid (pendU64 P3.out g (by omega) (by omega) (fun m h => by cases h; decide))
  go_wp2_with fail
  refine HU.out.mono ?_
  rintro e w4 ⟨rfl, p4⟩
  have P4 := Lib.hid p4
  clear p4 P3 HU x0
  simp only [Option.map_some] at P4
  have hb8 := be_length 8 g.toNat
  obtain ⟨-, x0, -, -, -⟩ := (HA.out.new P4.out.1).cells
  have HU := Lib.hid (pendU64 P4.out b (by omega) (by omega) (fun m h => by cases h; simp [hb8]))
  go_wp2_with fail
  refine HU.out.mono ?_
  rintro e w5 ⟨rfl, p5⟩
  have P5 := Lib.hid p5
  clear p5 P4 HU x0
  simp only [Option.map_some] at P5
  have hc8 := be_length 8 b.toNat
  obtain ⟨-, -, x0, -, -⟩ := (HA.out.new P5.out.1).cells
  obtain ⟨n3, rfl⟩ := Int.eq_ofNat_of_zero_le (show 0 ≤ sl by omega)
  have HU := Lib.hid (pendU32 P5.out (n3 : Int) (by omega) (by omega) (fun m h => by cases h; simp [hb8, hc8]))
  rw [wU_in 4 n3 _ (by omega)] at HU
  go_wp2_with fail
  refine HU.out.mono ?_
  rintro e w6 ⟨rfl, p6⟩
  have P6 := Lib.hid p6
  clear p6 P5 HU x0
  have hd4 := be_length 4 n3
  obtain ⟨-, -, -, x0, -⟩ := (HA.out.new P6.out.1).cells
  obtain ⟨n4, rfl⟩ := Int.eq_ofNat_of_zero_le (show 0 ≤ se by omega)
  have HU := Lib.hid (pendU32 P6.out (n4 : Int) (by omega) (by omega) (fun m h => by cases h; simp [hb8, hc8, hd4]))
  rw [wU_in 4 n4 _ (by omega)] at HU
  go_wp2_with fail
  refine HU.out.mono ?_
  rintro e w7 ⟨rfl, p7⟩
  have P7 := Lib.hid p7
  clear p7 P6 HU x0
  have he4 := be_length 4 n4
  obtain ⟨-, -, -, -, x0⟩ := (HA.out.new P7.out.1).cells
  obtain ⟨n5, rfl⟩ := Int.eq_ofNat_of_zero_le (show 0 ≤ si by omega)
  have HU := Lib.hid (pendU32 P7.out (n5 : Int) (by omega) (by omega) (fun m h => by cases h; simp [hb8, hc8, hd4, he4]))
  rw [wU_in 4 n5 _ (by omega)] at HU
  go_wp2_with fail
  refine HU.out.mono ?_
  rintro e w8 ⟨rfl, p8⟩
  have P8 := Lib.hid p8
  clear p8 P7 HU x0
  have hf4 := be_length 4 n5
  have HB := Lib.hid (pendBytes P8.out (fun m h => by cases h; simp [hb8, hc8, hd4, he4, hf4]))
  have HE : Hid ([101, 110, 103, 115] ++ be 8 g.toNat ++ be 8 b.toNat ++ be 4 n3 ++ be 4 n4 ++ be 4 n5 = supRaw X) := Lib.hid (by rw [HX.out]; unfold supRaw; simp only [Int.toNat_natCast])
  rw [HE.out] at HB
  clear hwg hwb hb8 hc8 hd4 he4 hf4 h1 h2 h3 h4 h5 HE HX
  go_wp2_with fail
  refine HB.out.mono ?_
  rintro e w9 ⟨⟨a, nb, cb, rfl, r7, N7, -⟩, p7⟩
  have R7 := Lib.hid r7
  have N7 := Lib.hid (New.trans N0.out p7.1)
  clear r7 p7 HB P8 N0 HA
  simp only [Option.isSome_some, Option.getD_some] at R7 ⊢
  have hmk : ∀ wx : World, (Instr.makeSlice 25 (.int .i64 128) (.int .i64 128)).run Try.prog wx = .ok (.slice (some ⟨wx.heap.size, 0, none⟩) 128 128) (wx.alloc (.cells (List.replicate 128 (bv 0)).toArray 5)) := fun wx => by
    have := run_make10 128 (by omega) wx
    rwa [List.map_replicate] at this
  go_upto_region 10 with fail
  clear hmk
  generalize hw8 : World.alloc w9 _ = w10
  have N8 : New w9 w10 := by rw [← hw8]; exact (Below.refl _ _).alloc (Nat.le_refl _) _
  have G8 : Hid (w10.heap[w9.heap.size]? = some (.cells (List.replicate 128 (bv 0)).toArray 5)) := Lib.hid (by rw [← hw8]; exact heap_alloc_new _ _)
  have hs8 : w10.heap.size = w9.heap.size + 1 := by rw [← hw8]; simp
  clear hw8
  have HC := Lib.hid (crcWith_calls w10 _ _ (R7.out.new N8) (by rw [supRaw_length]; decide))
  obtain ⟨gb, hgb⟩ : ∃ gb, w9.heap.size = gb := ⟨_, rfl⟩
  have HSZ : Hid (w.heap.size ≤ gb ∧ w10.heap.size = gb + 1) := Lib.hid ⟨by have := N7.out.size; omega, by omega⟩
  rw [hgb] at G8
  have N8w := Lib.hid (New.trans N7.out N8)
  clear hs8 N8
  rw [hgb]
  clear hgb R7 N7
  go_wp2_with fail
  refine HC.out.mono ?_
  rintro e w11 ⟨a9, n9, c9, rfl, r9, N9, -⟩
  have hlen : (crcWith (supRaw X)).length = 36 := by rw [crcWith_length, supRaw_length]
  have hn9 : n9 = 36 := by rw [← r9.len, hlen]
  subst hn9
  have G9 : w11.heap[gb]? = some (.cells (List.replicate 128 (bv 0)).toArray 5) := (N9.block gb (by have := HSZ.out; omega)).trans G8.out
  obtain ⟨w12, hcp, G10, O10⟩ := run_copy_zero G9 r9 hlen (by omega) (by omega)
  have HG : Hid (w12.heap[gb]? = some (.cells ((supEnc X).map bv).toArray 5)) := Lib.hid G10
  have N10 : Hid (New w w12) := Lib.hid (Below.trans (New.trans N8w.out N9) (O10.below (by have := HSZ.out; have := N9.size; have := N8w.out.size; omega) (fun k hk => by subst hk; exact HSZ.out.1)))
  clear G10 O10 G9 r9 N9 hlen G8 HC N8w
  go_wp2
  go_ret
  exact ⟨gb, rfl, HSZ.out.1, HG.out, N10.out⟩

/-- Octets: the encoding in a new row, or none -/
def OctTo (w : World) (s : SupN) (e : Ending) (w' : World) : Prop :=
  New w w' ∧ (s.okB = false → e = .returned (.tuple #[.slice none 0 0, .bool false])) ∧
    (s.okB = true → ∃ g, e = .returned (.tuple #[.slice (some ⟨g, 0, none⟩) 128 128, .bool true]) ∧ w.heap.size ≤ g ∧ w'.heap[g]? = some (.cells ((supEnc s).map bv).toArray 5))

theorem OctTo.no {w w' : World} {s : SupN} {e : Ending} (h : s.okB = false) (hn : New w w') (he : e = .returned (.tuple #[.slice none 0 0, .bool false])) : OctTo w s e w' := ⟨hn, fun _ => he, fun h' => by rw [h] at h'; cases h'⟩
theorem OctTo.yes {w w' : World} {s : SupN} {e : Ending} (h : s.okB = true) (hn : New w w') {g : Nat} (he : e = .returned (.tuple #[.slice (some ⟨g, 0, none⟩) 128 128, .bool true])) (hg : w.heap.size ≤ g) (hr : w'.heap[g]? = some (.cells ((supEnc s).map bv).toArray 5)) : OctTo w s e w' :=
  ⟨hn, fun h' => (by rw [h] at h'; cases h'), fun _ => ⟨g, he, hg, hr⟩⟩

theorem SupN.made (w : World) (s : SupN) : At5 (w.alloc (.cells #[.int .i64 s.gen, .int .i64 s.boot, .int .i64 s.slots, .int .i64 s.segs, .int .i64 s.size] 23)) w.heap.size 23 (.int .i64 s.gen) (.int .i64 s.boot) (.int .i64 s.slots) (.int .i64 s.segs) (.int .i64 s.size) := heap_alloc_new _ _

set_option maxRecDepth 100000 in
theorem ifRightB (w : World) (s : SupN) : Calls Try.prog 21 #[s.val, .func (.func 22) #[] #[]] w (OctTo w s) := by
  have HR := Lib.hid fun wx => supRight wx s
  have HO := Lib.hid fun wx => supOctetsOk wx s
  obtain ⟨o, ho⟩ : ∃ o, s.okB = o := ⟨_, rfl⟩
  rw [ho] at HR HO
  have HOK := Lib.hid ho
  clear ho
  rw [show s.val = .agg #[.int .i64 s.gen, .int .i64 s.boot, .int .i64 s.slots, .int .i64 s.segs, .int .i64 s.size] from rfl] at *
  go_enter Try.func21, Try.ntmps21
  go_upto_region 1 with fail
  generalize hw0 : World.alloc w _ = w0
  have HA : Hid (At5 w0 w.heap.size 23 (.int .i64 s.gen) (.int .i64 s.boot) (.int .i64 s.slots) (.int .i64 s.segs) (.int .i64 s.size)) := Lib.hid (by rw [← hw0]; exact heap_alloc_new _ _)
  have N0 : Hid (New w w0) := Lib.hid (by rw [← hw0]; exact (Below.refl _ _).alloc (Nat.le_refl _) _)
  clear hw0
  obtain ⟨gs, hgs⟩ : ∃ gs, w.heap.size = gs := ⟨_, rfl⟩
  rw [hgs] at HA
  rw [hgs]
  clear hgs
  obtain ⟨x0, x1, x2, x3, x4⟩ := HA.out.cells
  go_wp2_with fail
  refine (HR.out w0).mono ?_
  rintro e w1 ⟨rfl, N1⟩
  have N01 := Lib.hid (New.trans N0.out N1)
  have HA1 := Lib.hid (HA.out.new N1)
  clear HA N1 N0 x0 x1 x2 x3 x4
  cases o
  · go_wp2
    go_ret2
    refine OctTo.no HOK.out N01.out ?_
    rfl
  · obtain ⟨x0, x1, x2, x3, x4⟩ := HA1.out.cells
    go_wp2_with fail
    refine (HO.out w1 (by simp)).mono ?_
    rintro e w2 ⟨gb, rfl, hg, hr, N2⟩
    have HG : Hid (w.heap.size ≤ gb) := Lib.hid (Nat.le_trans N01.out.size hg)
    have HRW := Lib.hid hr
    have N12 := Lib.hid (New.trans N01.out N2)
    clear hg hr N2 x0 x1 x2 x3 x4
    go_wp2
    go_ret2
    refine OctTo.yes HOK.out N12.out (g := gb) ?_ HG.out HRW.out
    rfl

set_option maxRecDepth 100000 in
theorem ifRightI (w : World) (s : SupN) : Calls Try.prog 24 #[s.val, .func (.func 25) #[] #[]] w (NewRet w (.tuple #[.int .i64 (supSectors s), .bool s.okB])) := by
  have HR := Lib.hid fun wx => supRight wx s
  have HO := Lib.hid fun wx => supSectorsOk wx s
  have HZ : Hid (s.okB = true ∨ supSectors s = 0) := Lib.hid (by unfold supSectors; split; exact .inl (by assumption); exact .inr rfl)
  obtain ⟨o, ho⟩ : ∃ o, s.okB = o := ⟨_, rfl⟩
  rw [ho] at HR HO HZ
  rw [ho]
  clear ho
  rw [show s.val = .agg #[.int .i64 s.gen, .int .i64 s.boot, .int .i64 s.slots, .int .i64 s.segs, .int .i64 s.size] from rfl] at *
  go_enter Try.func24, Try.ntmps24
  go_upto_region 1 with fail
  generalize hw0 : World.alloc w _ = w0
  have HA : Hid (At5 w0 w.heap.size 23 (.int .i64 s.gen) (.int .i64 s.boot) (.int .i64 s.slots) (.int .i64 s.segs) (.int .i64 s.size)) := Lib.hid (by rw [← hw0]; exact heap_alloc_new _ _)
  have N0 : Hid (New w w0) := Lib.hid (by rw [← hw0]; exact (Below.refl _ _).alloc (Nat.le_refl _) _)
  clear hw0
  obtain ⟨gs, hgs⟩ : ∃ gs, w.heap.size = gs := ⟨_, rfl⟩
  rw [hgs] at HA
  rw [hgs]
  clear hgs
  obtain ⟨x0, x1, x2, x3, x4⟩ := HA.out.cells
  go_wp2_with fail
  refine (HR.out w0).mono ?_
  rintro e w1 ⟨rfl, N1⟩
  have N01 := Lib.hid (New.trans N0.out N1)
  have HA1 := Lib.hid (HA.out.new N1)
  clear HA N1 N0 x0 x1 x2 x3 x4
  cases o
  · go_wp2
    go_ret2
    rcases HZ.out with h | h
    · cases h
    · rw [h]
      exact ⟨rfl, N01.out⟩
  · obtain ⟨x0, x1, x2, x3, x4⟩ := HA1.out.cells
    obtain ⟨m, hm⟩ : ∃ m, supSectors s = m := ⟨_, rfl⟩
    rw [hm] at HO
    have HM := Lib.hid hm
    clear hm HZ
    go_wp2_with fail
    refine (HO.out w1 (by simp)).mono ?_
    rintro e w2 ⟨rfl, N2⟩
    have N12 := Lib.hid (New.trans N01.out N2)
    clear N2 x0 x1 x2 x3 x4
    go_wp2
    go_ret2
    exact ⟨by rw [HM.out]; rfl, N12.out⟩

set_option maxRecDepth 100000 in
theorem supOctets (w : World) (s : SupN) : Calls Try.prog 7 #[s.val] w (OctTo w s) := by
  have HO := Lib.hid fun wx => ifRightB wx s
  rw [show s.val = .agg #[.int .i64 s.gen, .int .i64 s.boot, .int .i64 s.slots, .int .i64 s.segs, .int .i64 s.size] from rfl] at *
  go_enter Try.func7, Try.ntmps7
  go_upto_region 1 with fail
  generalize hw0 : World.alloc w _ = w0
  have HA : Hid (At5 w0 w.heap.size 23 (.int .i64 s.gen) (.int .i64 s.boot) (.int .i64 s.slots) (.int .i64 s.segs) (.int .i64 s.size)) := Lib.hid (by rw [← hw0]; exact heap_alloc_new _ _)
  have N0 : Hid (New w w0) := Lib.hid (by rw [← hw0]; exact (Below.refl _ _).alloc (Nat.le_refl _) _)
  clear hw0
  obtain ⟨gs, hgs⟩ : ∃ gs, w.heap.size = gs := ⟨_, rfl⟩
  rw [hgs] at HA
  rw [hgs]
  clear hgs
  obtain ⟨x0, x1, x2, x3, x4⟩ := HA.out.cells
  go_wp2_with fail
  refine (HO.out w0).mono ?_
  rintro e w1 ⟨N1, hf, ht⟩
  have N01 := Lib.hid (New.trans N0.out N1)
  have HSZ := Lib.hid N0.out.size
  clear N1 N0 x0 x1 x2 x3 x4 HA HO
  obtain ⟨o, ho⟩ : ∃ o, s.okB = o := ⟨_, rfl⟩
  rw [ho] at hf ht
  have HOK := Lib.hid ho
  clear ho
  cases o
  · obtain rfl := hf rfl
    clear hf ht
    go_wp2
    go_ret2
    refine OctTo.no HOK.out N01.out ?_
    rfl
  · obtain ⟨gb, rfl, hg, hr⟩ := ht rfl
    have HRW := Lib.hid hr
    have HG : Hid (w.heap.size ≤ gb) := Lib.hid (Nat.le_trans HSZ.out hg)
    clear hf ht hg hr
    go_wp2
    go_ret2
    refine OctTo.yes HOK.out N01.out (g := gb) ?_ HG.out HRW.out
    rfl

set_option maxRecDepth 100000 in
theorem supSectorsAt (w : World) (s : SupN) : Calls Try.prog 10 #[s.val] w (NewRet w (.int .i64 (supSectors s))) := by
  have HO := Lib.hid fun wx => ifRightI wx s
  rw [show s.val = .agg #[.int .i64 s.gen, .int .i64 s.boot, .int .i64 s.slots, .int .i64 s.segs, .int .i64 s.size] from rfl] at *
  generalize s.okB = o at *
  obtain ⟨m, hm⟩ : ∃ m, supSectors s = m := ⟨_, rfl⟩
  rw [hm] at HO
  rw [hm]
  clear hm
  go_enter Try.func10, Try.ntmps10
  go_upto_region 1 with fail
  generalize hw0 : World.alloc w _ = w0
  have HA : Hid (At5 w0 w.heap.size 23 (.int .i64 s.gen) (.int .i64 s.boot) (.int .i64 s.slots) (.int .i64 s.segs) (.int .i64 s.size)) := Lib.hid (by rw [← hw0]; exact heap_alloc_new _ _)
  have N0 : Hid (New w w0) := Lib.hid (by rw [← hw0]; exact (Below.refl _ _).alloc (Nat.le_refl _) _)
  clear hw0
  obtain ⟨gs, hgs⟩ : ∃ gs, w.heap.size = gs := ⟨_, rfl⟩
  rw [hgs] at HA
  rw [hgs]
  clear hgs
  obtain ⟨x0, x1, x2, x3, x4⟩ := HA.out.cells
  go_wp2_with fail
  refine (HO.out w0).mono ?_
  rintro e w1 ⟨rfl, N1⟩
  have N01 := Lib.hid (New.trans N0.out N1)
  clear N1 N0 x0 x1 x2 x3 x4 HA HO
  go_wp2
  go_ret
  exact ⟨rfl, N01.out⟩

end Go.Proofs.Ytcdhfglehmeecaa

namespace Go.Proofs.Ytcdhfglehmeecaa
set_option linter.unusedVariables false
set_option linter.unusedSimpArgs false
open Go.RowKit

/-- in the midst of reading: the struct in block g, the reader at block p -/
structure SupSt (w0 w : World) (g p : Nat) (d : Option Nat) (r : List UInt8) : Prop where
  eye : Eye w p d r 0
  only : Only (fun k => k = g ∨ k = p) w0 w
  gp : ¬ g = p
  gd : ∀ k, d = some k → ¬ k = g

theorem SupSt.step {w0 w w' : World} {g p : Nat} {d : Option Nat} {r r' : List UInt8} {e : Int} (h : SupSt w0 w g p d r) (E : EyeTo w p d r' e w') (he : e = 0) : SupSt w0 w' g p d r' := by
  subst he
  exact ⟨E.1, h.only.trans E.2 (fun _ _ e => .inr e), h.gp, h.gd⟩

theorem SupSt.set {w0 w : World} {g p : Nat} {d : Option Nat} {r : List UInt8} (h : SupSt w0 w g p d r) (o : Nat) (u : Value) : SupSt w0 (w.setCell ⟨g, o, none⟩ u) g p d r :=
  ⟨h.eye.only (only_cell w g o u) (fun e => h.gp e.symm) h.gd, h.only.trans (only_cell w g o u) (fun _ _ e => .inl e), h.gp, h.gd⟩

theorem eAt {b : List UInt8} {k m : Nat} (h : k + m ≤ b.length) : eNum m (b.drop k) 0 = val (sCut b k m) ∧ (eTake m (b.drop k) 0).2.1 = b.drop (k + m) ∧ (eTake m (b.drop k) 0).2.2 = 0 := by
  have e := eTake_ok m (b.drop k) (by rw [List.length_drop]; omega)
  unfold eNum
  rw [e]
  exact ⟨rfl, List.drop_drop, rfl⟩

set_option maxRecDepth 100000 in
set_option maxHeartbeats 1000000 in
theorem supFields (w : World) (x : Value) (b : List UInt8) (hx : Rd w x b) (hb : b.length = 128) : Calls Try.prog 26 #[x] w (NewRet w (supFld b).val) := by
  have HX := Lib.hid hx
  have HB : Hid (b.length = 128) := Lib.hid hb
  clear hx hb
  go_enter Try.func26, Try.ntmps26
  go_wp2_with fail
  generalize hw1 : World.alloc w _ = w1
  have HG1 : Hid (At5 w1 w.heap.size 23 (.int .i64 0) (.int .i64 0) (.int .i64 0) (.int .i64 0) (.int .i64 0)) := Lib.hid (by rw [← hw1]; exact heap_alloc_new _ _)
  have N1 : New w w1 := by rw [← hw1]; exact (Below.refl _ _).alloc (Nat.le_refl _) _
  have hz1 : w1.heap.size = w.heap.size + 1 := by rw [← hw1]; simp
  clear hw1
  refine (eyeOpen w1 x b (HX.out.new N1) (by rw [HB.out]; decide)).mono ?_
  rintro _ w2 ⟨p, d, rfl, hp2, E2, hd2, N2⟩
  have HR := Lib.hid (eyeRaw w2 p d b 0 4 E2 (by rw [HB.out]; decide))
  have hpl : p < w2.heap.size := by obtain ⟨v, hv, -⟩ := E2; exact lt_of_block hv
  have hz2 := N2.size
  clear E2
  go_wp2_with fail
  refine HR.out.mono ?_
  rintro _ w3 ⟨ar, nr, cr, rfl, -, -, E3⟩
  rw [show eTake 4 b 0 = (b.take 4, b.drop 4, 0) from eTake_ok 4 b (by rw [HB.out]; decide)] at E3
  dsimp only at E3
  have hz3 := E3.2.size
  clear HR
  go_wp2_with fail
  generalize hw4 : World.alloc w3 _ = wr
  have HC : Hid (At5 wr w3.heap.size 23 (.int .i64 0) (.int .i64 0) (.int .i64 0) (.int .i64 0) (.int .i64 0)) := Lib.hid (by rw [← hw4]; exact heap_alloc_new _ _)
  have N4 : New w3 wr := by rw [← hw4]; exact (Below.refl _ _).alloc (Nat.le_refl _) _
  clear hw4
  obtain ⟨w4, hw4⟩ : ∃ w4, wr = w4 := ⟨_, rfl⟩
  have HG4 : Hid (At5 w4 w.heap.size 23 (.int .i64 0) (.int .i64 0) (.int .i64 0) (.int .i64 0) (.int .i64 0)) := Lib.hid (by rw [← hw4]; exact ((HG1.out.new N2).only E3.2 (by omega)).new N4)
  have NN4 : Hid (New w w4) := by rw [← hw4]; exact Lib.hid (New.trans (Below.trans (New.trans N1 N2) (E3.2.below (by omega) (fun k hk => by omega))) N4)
  have HI : Hid (SupSt w4 wr w3.heap.size p d (b.drop 4)) := Lib.hid ⟨E3.1.new N4, by rw [← hw4]; exact Only.refl _ _, by omega, fun k hk => by have := hd2 k hk; omega⟩
  have HQ : Hid (w.heap.size ≤ w3.heap.size ∧ w.heap.size ≤ p ∧ ¬ (w.heap.size = w3.heap.size ∨ w.heap.size = p)) := Lib.hid (by omega)
  clear hz1 hz2 hz3 hpl hp2 hd2 E3 N1 N2 N4 HG1 hw4 HX
  obtain ⟨g, hg⟩ : ∃ g, w3.heap.size = g := ⟨_, rfl⟩
  rw [hg] at HC HI HQ
  rw [hg]
  clear hg
  obtain ⟨g0, hg⟩ : ∃ g, w.heap.size = g := ⟨_, rfl⟩
  rw [hg] at HG4 HQ
  rw [hg]
  have HB0 : Hid (w.heap.size ≤ g0) := Lib.hid (by omega)
  clear hg
  obtain ⟨n1, K1⟩ : ∃ n, Hid (val (sCut b 4 8) = n) := ⟨_, Lib.hid rfl⟩
  obtain ⟨n2, K2⟩ : ∃ n, Hid (val (sCut b 12 8) = n) := ⟨_, Lib.hid rfl⟩
  obtain ⟨n3, K3⟩ : ∃ n, Hid (val (sCut b 20 4) = n) := ⟨_, Lib.hid rfl⟩
  obtain ⟨n4, K4⟩ : ∃ n, Hid (val (sCut b 24 4) = n) := ⟨_, Lib.hid rfl⟩
  obtain ⟨n5, K5⟩ : ∃ n, Hid (val (sCut b 28 4) = n) := ⟨_, Lib.hid rfl⟩
  refine (eyeU64 wr p d (b.drop 4) 0 HI.out.eye).mono ?_
  rintro _ wn ⟨rfl, E⟩
  obtain ⟨q1, q2, q3⟩ := eAt (b := b) (k := 4) (m := 8) (by rw [HB.out]; decide)
  rw [q1, K1.out]
  rw [q2] at E
  replace HC := Lib.hid (HC.out.only E.2 HI.out.gp)
  replace HI := Lib.hid (HI.out.step E q3)
  clear E q1 q2 q3 wr
  rename World => wr
  obtain ⟨x0, -, -, -, -⟩ := HC.out.cells
  obtain ⟨y0, -, -, -, -⟩ := HC.out.frozen
  go_wp2_with fail
  clear x0 y0
  replace HC := Lib.hid (HC.out.set0 (.int .i64 (wrap64 (n1 : Int))))
  replace HI := Lib.hid (HI.out.set 0 (.int .i64 (wrap64 (n1 : Int))))
  generalize wr.setCell ⟨g, 0, none⟩ (.int .i64 (wrap64 (n1 : Int))) = ws at *
  clear wr
  rename World => wr
  refine (eyeU64 wr p d (b.drop 12) 0 HI.out.eye).mono ?_
  rintro _ wn ⟨rfl, E⟩
  obtain ⟨q1, q2, q3⟩ := eAt (b := b) (k := 12) (m := 8) (by rw [HB.out]; decide)
  rw [q1, K2.out]
  rw [q2] at E
  replace HC := Lib.hid (HC.out.only E.2 HI.out.gp)
  replace HI := Lib.hid (HI.out.step E q3)
  clear E q1 q2 q3 wr
  rename World => wr
  obtain ⟨-, x0, -, -, -⟩ := HC.out.cells
  obtain ⟨-, y0, -, -, -⟩ := HC.out.frozen
  go_wp2_with fail
  clear x0 y0
  replace HC := Lib.hid (HC.out.set1 (.int .i64 (wrap64 (n2 : Int))))
  replace HI := Lib.hid (HI.out.set 1 (.int .i64 (wrap64 (n2 : Int))))
  generalize wr.setCell ⟨g, 1, none⟩ (.int .i64 (wrap64 (n2 : Int))) = ws at *
  clear wr
  rename World => wr
  refine (eyeU32 wr p d (b.drop 20) 0 HI.out.eye).mono ?_
  rintro _ wn ⟨rfl, E⟩
  obtain ⟨q1, q2, q3⟩ := eAt (b := b) (k := 20) (m := 4) (by rw [HB.out]; decide)
  rw [q1, K3.out]
  rw [q2] at E
  replace HC := Lib.hid (HC.out.only E.2 HI.out.gp)
  replace HI := Lib.hid (HI.out.step E q3)
  clear E q1 q2 q3 wr
  rename World => wr
  obtain ⟨-, -, x0, -, -⟩ := HC.out.cells
  obtain ⟨-, -, y0, -, -⟩ := HC.out.frozen
  go_wp2_with fail
  clear x0 y0
  replace HC := Lib.hid (HC.out.set2 (.int .i64 (n3 : Int)))
  replace HI := Lib.hid (HI.out.set 2 (.int .i64 (n3 : Int)))
  generalize wr.setCell ⟨g, 2, none⟩ (.int .i64 (n3 : Int)) = ws at *
  clear wr
  rename World => wr
  refine (eyeU32 wr p d (b.drop 24) 0 HI.out.eye).mono ?_
  rintro _ wn ⟨rfl, E⟩
  obtain ⟨q1, q2, q3⟩ := eAt (b := b) (k := 24) (m := 4) (by rw [HB.out]; decide)
  rw [q1, K4.out]
  rw [q2] at E
  replace HC := Lib.hid (HC.out.only E.2 HI.out.gp)
  replace HI := Lib.hid (HI.out.step E q3)
  clear E q1 q2 q3 wr
  rename World => wr
  obtain ⟨-, -, -, x0, -⟩ := HC.out.cells
  obtain ⟨-, -, -, y0, -⟩ := HC.out.frozen
  go_wp2_with fail
  clear x0 y0
  replace HC := Lib.hid (HC.out.set3 (.int .i64 (n4 : Int)))
  replace HI := Lib.hid (HI.out.set 3 (.int .i64 (n4 : Int)))
  generalize wr.setCell ⟨g, 3, none⟩ (.int .i64 (n4 : Int)) = ws at *
  clear wr
  rename World => wr
  refine (eyeU32 wr p d (b.drop 28) 0 HI.out.eye).mono ?_
  rintro _ wn ⟨rfl, E⟩
  obtain ⟨q1, q2, q3⟩ := eAt (b := b) (k := 28) (m := 4) (by rw [HB.out]; decide)
  rw [q1, K5.out]
  rw [q2] at E
  replace HC := Lib.hid (HC.out.only E.2 HI.out.gp)
  replace HI := Lib.hid (HI.out.step E q3)
  clear E q1 q2 q3 wr
  rename World => wr
  obtain ⟨-, -, -, -, x0⟩ := HC.out.cells
  obtain ⟨-, -, -, -, y0⟩ := HC.out.frozen
  go_upto_region 9 with fail
  clear x0 y0
  replace HC := Lib.hid (HC.out.set4 (.int .i64 (n5 : Int)))
  replace HI := Lib.hid (HI.out.set 4 (.int .i64 (n5 : Int)))
  generalize wr.setCell ⟨g, 4, none⟩ (.int .i64 (n5 : Int)) = ws at *
  clear wr
  rename World => wr
  have HG : Hid (At5 wr g0 23 (.int .i64 0) (.int .i64 0) (.int .i64 0) (.int .i64 0) (.int .i64 0)) := Lib.hid (HG4.out.only HI.out.only HQ.out.2.2)
  have NN : Hid (New w wr) := Lib.hid (Below.trans NN4.out (HI.out.only.below NN4.out.size (fun k hk => by have := HQ.out; have := HB0.out; omega)))
  obtain ⟨x0, x1, x2, x3, x4⟩ := HC.out.cells
  obtain ⟨z0, z1, z2, z3, z4⟩ := HG.out.cells
  obtain ⟨u0, u1, u2, u3, u4⟩ := HG.out.frozen
  go_wp2
  refine bodyPost_ret (results_cell1 rfl _ _ g0 _ _ _ _ rfl (HG.out.put _ _ _ _ _) Try.underlying23 rfl (by kernel_rfl)) rfl ?_
  refine ⟨?_, put5_new NN.out HB0.out _ _ _ _ _⟩
  unfold SupN.val supFld
  dsimp only
  rw [K1.out, K2.out, K3.out, K4.out, K5.out]


set_option maxRecDepth 100000 in
set_option maxHeartbeats 1000000 in
theorem supReadAt (w : World) (x : Value) (b : List UInt8) (place : Int) (hx : Rd w x b) : Calls Try.prog 11 #[x, .int .i64 place] w (NewRet w (.tuple #[(supGot (supRead b place)).val, .bool (supRead b place).isSome])) := by
  have HX := Lib.hid hx
  obtain ⟨a, n, c, rfl, hl, hle, hm, -⟩ := hx
  have HL := Lib.hid hl
  obtain ⟨O, HO⟩ : ∃ O, Hid (supRead b place = O) := ⟨_, Lib.hid rfl⟩
  rw [HO.out]
  clear hl hle hm
  go_enter Try.func11, Try.ntmps11
  go_upto_region 1 with fail
  generalize hw1 : World.alloc w _ = w1
  have HG1 : Hid (At5 w1 w.heap.size 23 (.int .i64 0) (.int .i64 0) (.int .i64 0) (.int .i64 0) (.int .i64 0)) := Lib.hid (by rw [← hw1]; exact heap_alloc_new _ _)
  have N1 : Hid (New w w1) := Lib.hid (by rw [← hw1]; exact (Below.refl _ _).alloc (Nat.le_refl _) _)
  clear hw1
  obtain ⟨g0, hg⟩ : ∃ g, w.heap.size = g := ⟨_, rfl⟩
  rw [hg] at HG1
  rw [hg]
  have HB0 : Hid (w.heap.size ≤ g0) := Lib.hid (by omega)
  clear hg
  by_cases h128 : n = 128
  rotate_left
  · have d : ((n : Int) != 128) = true := by simpa using (show ¬ (n : Int) = 128 by omega)
    have HN : Hid (O = none) := Lib.hid (by rw [← HO.out]; exact supRead_len (by rw [HL.out]; omega))
    clear h128
    obtain ⟨z0, z1, z2, z3, z4⟩ := HG1.out.cells
    obtain ⟨u0, u1, u2, u3, u4⟩ := HG1.out.frozen
    go_wp2
    refine bodyPost_ret (results_cell_tmp rfl _ _ g0 _ _ _ _ rfl (HG1.out.put _ _ _ _ _) Try.underlying23 rfl (by kernel_rfl)) rfl ?_
    exact ⟨by rw [HN.out]; rfl, put5_new N1.out HB0.out _ _ _ _ _⟩
  subst h128
  have HF := Lib.hid (supFields w1 _ b (HX.out.new N1.out) HL.out)
  obtain ⟨X, HXF⟩ : ∃ X, Hid (supFld b = X) := ⟨_, Lib.hid rfl⟩
  rw [HXF.out, show X.val = .agg #[.int .i64 X.gen, .int .i64 X.boot, .int .i64 X.slots, .int .i64 X.segs, .int .i64 X.size] from rfl] at HF
  go_wp2_with fail
  refine HF.out.mono ?_
  rintro _ w2 ⟨rfl, N2⟩
  clear HF
  have HG2 := Lib.hid (HG1.out.new N2)
  have N12 := Lib.hid (New.trans N1.out N2)
  clear HG1 N2 N1
  go_upto_region 4 with fail
  generalize hw1 : World.alloc w2 _ = w3
  have HS : Hid (At5 w3 w2.heap.size 23 (.int .i64 X.gen) (.int .i64 X.boot) (.int .i64 X.slots) (.int .i64 X.segs) (.int .i64 X.size)) := Lib.hid (by rw [← hw1]; exact heap_alloc_new _ _)
  have N3 : New w2 w3 := by rw [← hw1]; exact (Below.refl _ _).alloc (Nat.le_refl _) _
  have HG3 := Lib.hid (HG2.out.new N3)
  have N13 := Lib.hid (New.trans N12.out N3)
  clear hw1 HG2 N3 N12
  obtain ⟨g, hg⟩ : ∃ g, w2.heap.size = g := ⟨_, rfl⟩
  rw [hg] at HS
  rw [hg]
  clear hg
  obtain ⟨x0, x1, x2, x3, x4⟩ := HS.out.cells
  have HOC := Lib.hid (supOctets w3 X)
  rw [show X.val = .agg #[.int .i64 X.gen, .int .i64 X.boot, .int .i64 X.slots, .int .i64 X.segs, .int .i64 X.size] from rfl] at HOC
  go_wp2_with fail
  refine HOC.out.mono ?_
  rintro e w4 ⟨N4, hf, ht⟩
  have HS4 := Lib.hid (HS.out.new N4)
  have HG4 := Lib.hid (HG3.out.new N4)
  have N14 := Lib.hid (New.trans N13.out N4)
  clear HOC HS HG3 N13 N4 x0 x1 x2 x3 x4
  obtain ⟨own, l, kk, HE, HRO, HV⟩ : ∃ (own : Value) (l : List UInt8) (kk : Bool), Hid (e = .returned (.tuple #[own, .bool kk])) ∧ Hid (Rd w4 own l) ∧ Hid (b = l ↔ (X.okB = true ∧ supEnc X = b)) := by
    obtain ⟨o, ho⟩ : ∃ o, X.okB = o := ⟨_, rfl⟩
    cases o
    · exact ⟨_, [], false, Lib.hid (hf ho), Lib.hid (Rd.nil _), Lib.hid ⟨fun h => by have := HL.out; rw [h] at this; simp at this, fun h => by rw [ho] at h; cases h.1⟩⟩
    · obtain ⟨gb, he, -, hr⟩ := ht ho
      have hrd := rd_of_row (w := w4) (g := gb) (l := supEnc X) (t := 5) (fr := (0, 0)) hr (by rw [supEnc_length]; decide)
      rw [supEnc_length] at hrd
      exact ⟨_, supEnc X, true, Lib.hid he, Lib.hid hrd, Lib.hid ⟨fun h => ⟨ho, h.symm⟩, fun h => h.2.symm⟩⟩
  obtain rfl := HE.out
  obtain ⟨ao, no, co, rfl⟩ : ∃ a n c, own = .slice a n c := by obtain ⟨a, n, c, e, -⟩ := HRO.out; exact ⟨a, n, c, e⟩
  clear hf ht HE
  have HH := Lib.hid (supHome w4 X)
  obtain ⟨m, HM⟩ : ∃ m, Hid (X.gen.tmod 2 = m) := ⟨_, Lib.hid rfl⟩
  rw [HM.out] at HH
  rw [show X.val = .agg #[.int .i64 X.gen, .int .i64 X.boot, .int .i64 X.slots, .int .i64 X.segs, .int .i64 X.size] from rfl] at HH
  obtain ⟨x0, x1, x2, x3, x4⟩ := HS4.out.cells
  go_wp2_with fail
  refine HH.out.mono ?_
  rintro _ w5 ⟨rfl, N5⟩
  have HS5 := Lib.hid (HS4.out.new N5)
  have HG5 := Lib.hid (HG4.out.new N5)
  have N15 := Lib.hid (New.trans N14.out N5)
  have HQ := Lib.hid (bytesEq w5 _ _ b l (HX.out.new N15.out) (HRO.out.new N5))
  clear HH HS4 HG4 N14 N5 x0 x1 x2 x3 x4 HRO
  by_cases hp : place = m
  rotate_left
  · have d : (place != m) = true := by simpa using hp
    have HN : Hid (O = none) := Lib.hid (by rw [← HO.out]; exact supRead_place (by rw [HXF.out, HM.out]; exact fun h => hp h.symm))
    clear HQ hp
    obtain ⟨z0, z1, z2, z3, z4⟩ := HG5.out.cells
    obtain ⟨u0, u1, u2, u3, u4⟩ := HG5.out.frozen
    go_wp2
    refine bodyPost_ret (results_cell_tmp rfl _ _ g0 _ _ _ _ rfl (HG5.out.put _ _ _ _ _) Try.underlying23 rfl (by kernel_rfl)) rfl ?_
    exact ⟨by rw [HN.out]; rfl, put5_new N15.out HB0.out _ _ _ _ _⟩
  have d : (place != m) = false := by simpa using hp
  by_cases hb : b = l
  · rw [decide_eq_true hb] at HQ
    have HN : Hid (O = some X) := Lib.hid (by
      obtain ⟨hb1, hb2⟩ := HV.out.1 hb
      rw [← HO.out]
      unfold supRead
      rw [HXF.out]
      exact if_pos ⟨HL.out, hb1, hb2, by rw [HM.out]; exact hp.symm⟩)
    clear hb HV hp
    go_wp2_with fail
    refine HQ.out.mono ?_
    rintro _ w6 ⟨rfl, rfl⟩
    obtain ⟨x0, x1, x2, x3, x4⟩ := HS5.out.cells
    obtain ⟨z0, z1, z2, z3, z4⟩ := HG5.out.cells
    obtain ⟨u0, u1, u2, u3, u4⟩ := HG5.out.frozen
    go_wp2
    refine bodyPost_ret (results_cell_tmp rfl _ _ g0 _ _ _ _ rfl (HG5.out.put _ _ _ _ _) Try.underlying23 rfl (by kernel_rfl)) rfl ?_
    exact ⟨by rw [HN.out]; rfl, put5_new N15.out HB0.out _ _ _ _ _⟩
  · rw [decide_eq_false hb] at HQ
    have HN : Hid (O = none) := Lib.hid (by
      rw [← HO.out]
      refine if_neg (fun h => hb (HV.out.2 ?_))
      rw [← HXF.out]
      exact ⟨h.2.1, h.2.2.1⟩)
    clear hb HV hp
    go_wp2_with fail
    refine HQ.out.mono ?_
    rintro _ w6 ⟨rfl, rfl⟩
    obtain ⟨z0, z1, z2, z3, z4⟩ := HG5.out.cells
    obtain ⟨u0, u1, u2, u3, u4⟩ := HG5.out.frozen
    go_wp2
    refine bodyPost_ret (results_cell_tmp rfl _ _ g0 _ _ _ _ rfl (HG5.out.put _ _ _ _ _) Try.underlying23 rfl (by kernel_rfl)) rfl ?_
    exact ⟨by rw [HN.out]; rfl, put5_new N15.out HB0.out _ _ _ _ _⟩

end Go.Proofs.Ytcdhfglehmeecaa

namespace Go.Proofs.Ytcdhfglehmeecaa
set_option linter.unusedVariables false
set_option linter.unusedSimpArgs false
open Go.RowKit

/-- the newest one of the first j sectors, as the loop has it -/
def supAcc (b : List UInt8) : Nat → SupN
  | 0 => supZero
  | j + 1 => supStep (supAcc b j) (supRead (sec b j) (j : Int))

theorem supAcc_two {b : List UInt8} (h : 256 ≤ b.length) : supAcc b 2 = supGot (supNewest b) ∧ (supAcc b 2).okB = (supNewest b).isSome := by
  have e : supAcc b 2 = supGot (supNewest b) := by
    unfold supNewest
    rw [if_pos h]
    show supStep (supStep supZero (supRead (sec b 0) 0)) (supRead (sec b 1) 1) = _
    rw [supStep_zero _ (fun s h => (supRead_some h).2), supStep_two _ _ (fun s h => (supRead_some h).2) (fun s h => (supRead_some h).2)]
  exact ⟨e, by rw [e]; exact supGot_ok _ supNewest_ok⟩

/-- the five cells of a superblock -/
def NwAt (g : Nat) (N : SupN) (w : World) : Prop := w.cell? ⟨g, 0, none⟩ = some (.int .i64 N.gen) ∧ w.cell? ⟨g, 1, none⟩ = some (.int .i64 N.boot) ∧ w.cell? ⟨g, 2, none⟩ = some (.int .i64 N.slots) ∧ w.cell? ⟨g, 3, none⟩ = some (.int .i64 N.segs) ∧ w.cell? ⟨g, 4, none⟩ = some (.int .i64 N.size)

/-- a superblock in a block of its own -/
def SupB (w : World) (g : Nat) (N : SupN) : Prop := At5 w g 23 (.int .i64 N.gen) (.int .i64 N.boot) (.int .i64 N.slots) (.int .i64 N.segs) (.int .i64 N.size)

theorem SupB.at {w : World} {g : Nat} {N : SupN} (h : SupB w g N) : NwAt g N w := At5.cells h
theorem SupB.lt {w : World} {g : Nat} {N : SupN} (h : SupB w g N) : g < w.heap.size := At5.lt h
theorem SupB.new {w w' : World} {g : Nat} {N : SupN} (h : SupB w g N) (hn : New w w') : SupB w' g N := At5.new h hn
theorem SupB.only {F : Nat → Prop} {w w' : World} {g : Nat} {N : SupN} (h : SupB w g N) (hn : Only F w w') (hg : ¬ F g) : SupB w' g N := At5.only h hn hg
theorem SupB.frozen {w : World} {g : Nat} {N : SupN} (h : SupB w g N) : w.frozen? ⟨g, 0, none⟩ = false ∧ w.frozen? ⟨g, 1, none⟩ = false ∧ w.frozen? ⟨g, 2, none⟩ = false ∧ w.frozen? ⟨g, 3, none⟩ = false ∧ w.frozen? ⟨g, 4, none⟩ = false := At5.frozen h
theorem SupB.put {w : World} {g : Nat} {N : SupN} (h : SupB w g N) (M : SupN) : SupB (put5 w g (.int .i64 M.gen) (.int .i64 M.boot) (.int .i64 M.slots) (.int .i64 M.segs) (.int .i64 M.size)) g M := At5.put h _ _ _ _ _

structure NwIn (w : World) (g2 g4 : Nat) (N : SupN) (wr : World) : Prop where
  res : SupB wr g2 supZero
  cur : SupB wr g4 N
  new : New w wr

theorem SupN.val_eq (X : SupN) : X.val = .agg #[.int .i64 X.gen, .int .i64 X.boot, .int .i64 X.slots, .int .i64 X.segs, .int .i64 X.size] := rfl

set_option maxRecDepth 100000 in
set_option maxHeartbeats 1000000 in
theorem supNewestAt (w : World) (x : Value) (b : List UInt8) (hx : Rd w x b) : Calls Try.prog 13 #[x] w (NewRet w (.tuple #[(supGot (supNewest b)).val, .bool (supNewest b).isSome])) := by
  have HX := Lib.hid hx
  obtain ⟨a, n, c, rfl, hl, hle, hm, -⟩ := hx
  have HL := Lib.hid hl
  have HCp : Hid (n ≤ c ∧ c ≤ 9223372036854775807) := Lib.hid ⟨hle, hm⟩
  obtain ⟨O, HO⟩ : ∃ O, Hid (supNewest b = O) := ⟨_, Lib.hid rfl⟩
  rw [HO.out]
  clear hl hle hm
  go_enter Try.func13, Try.ntmps13
  go_upto_region 1 with fail
  generalize hw1 : World.alloc w _ = w1
  have HG1 : Hid (SupB w1 w.heap.size supZero) := Lib.hid (by rw [← hw1]; exact heap_alloc_new _ _)
  have N1 : Hid (New w w1) := Lib.hid (by rw [← hw1]; exact (Below.refl _ _).alloc (Nat.le_refl _) _)
  clear hw1
  obtain ⟨g2, hg⟩ : ∃ g, w.heap.size = g := ⟨_, rfl⟩
  rw [hg] at HG1
  rw [hg]
  have HB2 : Hid (w.heap.size ≤ g2) := Lib.hid (by omega)
  clear hg
  by_cases h256 : n < 256
  · have d : decide ((n : Int) < 256) = true := by simp; omega
    have HN : Hid (O = none) := Lib.hid (by rw [← HO.out]; exact if_neg (by rw [HL.out]; omega))
    clear h256
    obtain ⟨z0, z1, z2, z3, z4⟩ := HG1.out.at
    obtain ⟨u0, u1, u2, u3, u4⟩ := HG1.out.frozen
    go_wp2
    refine bodyPost_ret (results_cell_tmp rfl _ _ g2 _ _ _ _ rfl (HG1.out.put supZero) Try.underlying23 rfl (by kernel_rfl)) rfl ?_
    exact ⟨by rw [HN.out]; rfl, put5_new N1.out HB2.out _ _ _ _ _⟩
  have d : decide ((n : Int) < 256) = false := by simp; omega
  have H256 : Hid (256 ≤ n) := Lib.hid (by omega)
  have HZ : Hid (supAcc b 2 = supGot O ∧ (supAcc b 2).okB = O.isSome) := Lib.hid (by rw [← HO.out]; exact supAcc_two (by rw [HL.out]; omega))
  clear h256
  go_upto_region 4 with fail
  generalize hw1 : World.alloc w1 _ = w2
  have HIN : Hid (NwIn w g2 w1.heap.size supZero w2) := by
    have N2 : New w1 w2 := by rw [← hw1]; exact (Below.refl _ _).alloc (Nat.le_refl _) _
    exact Lib.hid ⟨HG1.out.new N2, by rw [← hw1]; exact heap_alloc_new _ _, New.trans N1.out N2⟩
  have HB4 : Hid (w.heap.size ≤ w1.heap.size ∧ ¬ g2 = w1.heap.size) := Lib.hid ⟨N1.out.size, by have := HG1.out.lt; omega⟩
  clear hw1 HG1 N1
  obtain ⟨g4, hg⟩ : ∃ g, w1.heap.size = g := ⟨_, rfl⟩
  rw [hg] at HIN HB4
  rw [hg]
  clear hg d
  go_wp2_with fail
  go_loopw [12] (fun i wr => ∃ j : Nat, j ≤ 2 ∧ i = .int .i64 j ∧ NwIn w g2 g4 (supAcc b j) wr) (fun i _ => 2 - (intOf i).toNat)
  case atStart => exact ⟨0, by omega, rfl, HIN.out⟩
  case round =>
    obtain ⟨j, hj, rfl, hin⟩ := hrel
    have HI := Lib.hid hin
    clear hin HIN
    obtain ⟨N, HN⟩ : ∃ N, Hid (supAcc b j = N) := ⟨_, Lib.hid rfl⟩
    rw [HN.out] at HI
    by_cases hj2 : j < 2
    · have d : decide ((j : Int) < 2) = true := by simp; omega
      have h1 : (j : Int) * 128 = ((128 * j : Nat) : Int) := by omega
      have h2 : ((j : Int) + 1) * 128 = ((128 * j + 128 : Nat) : Int) := by omega
      have hjn := H256.out
      have hcp := HCp.out
      have HSl : Hid (∀ wx : World, (Instr.slice 25 (.slice a n c) (some (.int .i64 ((128 * j : Nat) : Int))) (some (.int .i64 ((128 * j + 128 : Nat) : Int))) none).run Try.prog wx = .ok (.slice (a.map (fun x => x.add (128 * j))) 128 (c - 128 * j)) wx) := by
        refine Lib.hid (fun wx => ?_)
        rw [run_slice_lh wx 25 a n c Try.underlying25 .i64 .i64 _ _ (by omega) (by omega) (by omega)]
        have hz : (sizeOf (Try.prog.elem 25)).run Try.prog wx = .ok 1 wx := by kernel_rfl
        rw [hz]
        simp only [Result.andThen_ok, sliced, Nat.mul_one, Int.toNat_natCast]
        rw [if_neg (by omega), show 128 * j + 128 - 128 * j = 128 by omega]
      have HRd : Hid (Rd wr (.slice (a.map (fun x => x.add (128 * j))) 128 (c - 128 * j)) (sec b j)) := by
        refine Lib.hid ?_
        unfold sec
        exact ((HX.out.new HI.out.new).rest (k := 128 * j) (by omega)).cut (by omega) (by omega) (Nat.le_refl _)
      have HRD := Lib.hid (supReadAt wr _ (sec b j) (j : Int) HRd.out)
      obtain ⟨o, Ho⟩ : ∃ o, Hid (supRead (sec b j) (j : Int) = o) := ⟨_, Lib.hid rfl⟩
      rw [Ho.out] at HRD
      have HNx : Hid (supAcc b (j + 1) = supStep N o) := Lib.hid (by show supStep (supAcc b j) _ = _; rw [HN.out, Ho.out])
      have hq : 128 * j + 128 ≤ 1000 := by omega
      generalize (128 * j + 128 : Nat) = q at *
      obtain ⟨p, hp⟩ : ∃ p, 128 * j = p := ⟨_, rfl⟩
      rw [hp] at h1 HSl HRd HRD
      have hp1 : p ≤ 1000 := by omega
      clear hp hjn hcp
      have hsl := HSl.out
      clear HSl HRd
      go_wp2_with fail
      refine HRD.out.mono ?_
      rintro _ w3 ⟨rfl, N3⟩
      have HI3 : Hid (NwIn w g2 g4 N w3) := Lib.hid ⟨HI.out.res.new N3, HI.out.cur.new N3, New.trans HI.out.new N3⟩
      clear hsl HRD HI N3 h1 h2 hq hp1 d
      rw [SupN.val_eq]
      go_upto_region 8 with fail
      generalize hw1 : World.alloc w3 _ = w4
      have HS4 : Hid (SupB w4 w3.heap.size (supGot o)) := Lib.hid (by rw [← hw1]; exact heap_alloc_new _ _)
      have HI4 : Hid (NwIn w g2 g4 N w4) := by
        have N4 : New w3 w4 := by rw [← hw1]; exact (Below.refl _ _).alloc (Nat.le_refl _) _
        exact Lib.hid ⟨HI3.out.res.new N4, HI3.out.cur.new N4, New.trans HI3.out.new N4⟩
      clear hw1 HI3
      obtain ⟨g6, hg⟩ : ∃ g, w3.heap.size = g := ⟨_, rfl⟩
      rw [hg] at HS4
      rw [hg]
      clear hg
      cases o with
      | none =>
        have HR : Hid (supAcc b (j + 1) = N) := Lib.hid (by rw [HNx.out]; rfl)
        clear HNx
        rw [show (none : Option SupN).isSome = false from rfl]
        go_wp2
        go_roundw
        case rel => exact ⟨j + 1, by omega, by go_num, by rw [HR.out]; exact HI4.out⟩
        case measure => simp [intOf] <;> omega
      | some S =>
        rw [show (some S : Option SupN).isSome = true from rfl]
        rw [show supGot (some S) = S from rfl] at *
        obtain ⟨y0, y1, y2, y3, y4⟩ := HS4.out.at
        obtain ⟨x0, x1, x2, x3, x4⟩ := HI4.out.cur.at
        by_cases hgt : N.gen < S.gen
        · have d : decide (N.gen < S.gen) = true := by simpa using hgt
          have HR : Hid (supAcc b (j + 1) = S) := Lib.hid (by rw [HNx.out]; exact if_pos hgt)
          obtain ⟨u0, u1, u2, u3, u4⟩ := HI4.out.cur.frozen
          have HI5 : Hid (NwIn w g2 g4 S (put5 w4 g4 (.int .i64 S.gen) (.int .i64 S.boot) (.int .i64 S.slots) (.int .i64 S.segs) (.int .i64 S.size))) := Lib.hid ⟨HI4.out.res.only (put5_only _ _ _ _ _ _ _) HB4.out.2, HI4.out.cur.put S, put5_new HI4.out.new HB4.out.1 _ _ _ _ _⟩
          unfold put5 at HI5
          clear HNx hgt
          go_wp2
          go_roundw
          case rel => exact ⟨j + 1, by omega, by go_num, by rw [HR.out]; exact HI5.out⟩
          case measure => simp [intOf] <;> omega
        · have d : decide (N.gen < S.gen) = false := by simpa using hgt
          have HR : Hid (supAcc b (j + 1) = N) := Lib.hid (by rw [HNx.out]; exact if_neg hgt)
          clear HNx hgt
          go_wp2
          go_roundw
          case rel => exact ⟨j + 1, by omega, by go_num, by rw [HR.out]; exact HI4.out⟩
          case measure => simp [intOf] <;> omega
    · obtain rfl : j = 2 := by omega
      rw [HN.out] at HZ
      have HR := Lib.hid (fun wx => supRight wx N)
      clear hj hj2
      go_wp2_with fail
      refine region_ord (NwAt g4 N) [(0, true), (1, true), (2, false), (3, false), (4, true)] (by kernel_rfl) (by kernel_rfl) HI.out.cur.at (fun _ => ?_)
      have HI2 : Hid (NwIn w g2 g4 N wr.drew) := Lib.hid ⟨HI.out.res, HI.out.cur, HI.out.new.drew⟩
      clear HI
      generalize wr.drew = w2 at *
      unfold NwAt
      iterate 2 (apply ord_take; (simp only [List.getElem?_toArray, List.getElem?_cons_succ, List.getElem?_cons_zero]; rfl); rfl; (intro w hSw; (try dsimp only at hSw); obtain ⟨q0, q1, q2, q3, q4⟩ := hSw; go_simp; try with_reducible rfl); intro _; try simp only [Act.put, List.setIfInBounds_toArray, List.set_cons_zero, List.set_cons_succ])
      (apply ord_only; (simp only [List.getElem?_toArray, List.getElem?_cons_succ, List.getElem?_cons_zero]; rfl); rfl; intro K hK)
      go_simp
      rw [SupN.val_eq] at HR
      refine (HR.out w2).mono ?_
      rintro _ w3 ⟨rfl, N3⟩
      have HI3 : Hid (NwIn w g2 g4 N w3) := Lib.hid ⟨HI2.out.res.new N3, HI2.out.cur.new N3, New.trans HI2.out.new N3⟩
      clear HI2 N3 HR
      refine hK.out _ _ (HI3.out.cur.at) (fun _ => ?_)
      clear hK K
      try simp only [Act.put, List.setIfInBounds_toArray, List.set_cons_zero, List.set_cons_succ]
      (apply ord_only; (simp only [List.getElem?_toArray, List.getElem?_cons_succ, List.getElem?_cons_zero]; rfl); rfl; intro K hK)
      obtain ⟨z0, z1, z2, z3, z4⟩ := HI3.out.res.at
      obtain ⟨u0, u1, u2, u3, u4⟩ := HI3.out.res.frozen
      go_simp
      have HP : Hid (SupB (put5 w3 g2 (.int .i64 N.gen) (.int .i64 N.boot) (.int .i64 N.slots) (.int .i64 N.segs) (.int .i64 N.size)) g2 N) := Lib.hid (HI3.out.res.put N)
      have HC : Hid (SupB (put5 w3 g2 (.int .i64 N.gen) (.int .i64 N.boot) (.int .i64 N.slots) (.int .i64 N.segs) (.int .i64 N.size)) g4 N) := Lib.hid (HI3.out.cur.only (put5_only _ _ _ _ _ _ _) (fun e => HB4.out.2 e.symm))
      have HNw : Hid (New w (put5 w3 g2 (.int .i64 N.gen) (.int .i64 N.boot) (.int .i64 N.slots) (.int .i64 N.segs) (.int .i64 N.size))) := Lib.hid (put5_new HI3.out.new HB2.out _ _ _ _ _)
      unfold put5 at HP HC HNw
      clear z0 z1 z2 z3 z4 u0 u1 u2 u3 u4
      refine hK.out _ _ (HC.out.at) (fun _ => ?_)
      clear hK K
      try simp only [Act.put, List.setIfInBounds_toArray, List.set_cons_zero, List.set_cons_succ]
      iterate 1 (apply ord_take; (simp only [List.getElem?_toArray, List.getElem?_cons_succ, List.getElem?_cons_zero]; rfl); rfl; (intro w hSw; (try dsimp only at hSw); go_simp; try with_reducible rfl); intro _; try simp only [Act.put, List.setIfInBounds_toArray, List.set_cons_zero, List.set_cons_succ])
      apply ord_done
      go_wp2
      refine bodyPost_ret (results_cell_tmp rfl _ _ g2 _ _ _ _ rfl HP.out Try.underlying23 rfl (by kernel_rfl)) rfl ?_
      exact ⟨by rw [← HZ.out.1, ← HZ.out.2]; rfl, HNw.out⟩

end Go.Proofs.Ytcdhfglehmeecaa

namespace Go.Proofs.Ytcdhfglehmeecaa
set_option linter.unusedVariables false
set_option linter.unusedSimpArgs false
open Go.RowKit

/-- behind a call on a disk new memory is made -/
theorem DvcTo.post {q : Int} {w w1 w2 : World} {n g : Nat} {F : Nat → Prop} {D L : List UInt8} {P : List Wr} (h : DvcTo q w n g F D L P w1) (hn : New w1 w2) : DvcTo q w n g F D L P w2 :=
  ⟨h.1.new hn, h.2.trans (New.only (F := F) hn) (fun _ _ h => h)⟩

theorem SupB.five {w : World} {g : Nat} {N : SupN} (h : At5 w g 23 (.int .i64 N.gen) (.int .i64 N.boot) (.int .i64 N.slots) (.int .i64 N.segs) (.int .i64 N.size)) : SupB w g N := h

set_option maxRecDepth 100000 in
set_option maxHeartbeats 1000000 in
theorem supFound {q : Int} {w : World} {n g : Nat} {F : Nat → Prop} {D L : List UInt8} {P : List Wr} (hD : Dvc q w n g F D L P) (hq : q ≠ 0) (hn : 2 ≤ n) (s : SupN) (hs : supNewest (secs L 0 2) = some s) :
    Calls Try.prog 39 #[.pointer (some ⟨g, 0, none⟩)] w fun e w' => e = .returned (.tuple #[s.val, .int .i64 0]) ∧ DvcTo (nextQ q) w n g F D L P w' := by
  have H0 : Hid (Dvc q w n g (fun k => F k ∧ k < w.heap.size) D L P) := Lib.hid (hD.narrow (fun k hk hF => ⟨hF, hk⟩))
  have HS := Lib.hid hs
  clear hD hs
  go_enter Try.func39, Try.ntmps39
  go_upto_region 1 with fail
  generalize hw1 : World.alloc w _ = w1
  have HG1 : Hid (SupB w1 w.heap.size supZero) := Lib.hid (by rw [← hw1]; exact heap_alloc_new _ _)
  have N1 : Hid (New w w1) := Lib.hid (by rw [← hw1]; exact (Below.refl _ _).alloc (Nat.le_refl _) _)
  clear hw1
  have HB2 : Hid (w.heap.size ≤ w.heap.size ∧ ¬ (F w.heap.size ∧ w.heap.size < w.heap.size)) := Lib.hid ⟨Nat.le_refl _, fun h => by omega⟩
  obtain ⟨g2, hg⟩ : ∃ g, w.heap.size = g := ⟨_, rfl⟩
  have HB2' : Hid (w.heap.size ≤ g2 ∧ ¬ (F g2 ∧ g2 < w.heap.size)) := Lib.hid (by rw [← hg]; exact HB2.out)
  rw [hg] at HG1
  rw [hg]
  clear hg HB2
  have HRd := Lib.hid (diskReadN (H0.out.new N1.out) hq 0 2 (by omega))
  go_wp2_with fail
  refine HRd.out.mono ?_
  rintro _ w2 ⟨a, c, rfl, hr, hd, -⟩
  have HR := Lib.hid hr
  have HG2 : Hid (SupB w2 g2 supZero) := Lib.hid (HG1.out.only hd.2 HB2'.out.2)
  have HD2 : Hid (Dvc (nextQ q) w2 n g (fun k => (F k ∧ k < w.heap.size) ∨ w1.heap.size ≤ k) D L P) := Lib.hid hd.1
  have HO2 : Hid (Only F w w2) := Lib.hid ((New.only N1.out).trans hd.2 (fun k _ h => h.1))
  have HB3 : Hid (¬ ((F g2 ∧ g2 < w.heap.size) ∨ w1.heap.size ≤ g2)) := Lib.hid (fun h => h.elim HB2'.out.2 (fun h => by have := HG1.out.lt; omega))
  have HNw : Hid (Calls Try.prog 13 #[.slice a (128 * 2) c] w2 (NewRet w2 (.tuple #[s.val, .bool true]))) := Lib.hid (by
    have h := supNewestAt w2 _ _ hr
    rw [HS.out] at h
    exact h)
  have hsz := N1.out.size
  have HSZ : Hid (w.heap.size ≤ w1.heap.size) := Lib.hid hsz
  clear hr hd HRd HG1 H0 N1 hsz HR
  go_wp2_with fail
  refine HNw.out.mono ?_
  rintro _ w3 ⟨rfl, N3⟩
  have HG3 := Lib.hid (HG2.out.new N3)
  have HD3 := Lib.hid (HD2.out.new N3)
  have HO3 : Hid (Only F w w3) := Lib.hid (HO2.out.trans (New.only (F := F) N3) (fun _ _ h => h))
  clear HG2 HD2 HO2 HNw N3
  rw [SupN.val_eq]
  go_upto_region 7 with fail
  generalize hw4 : World.alloc w3 _ = w4
  have HS4 : Hid (SupB w4 w3.heap.size s) := Lib.hid (by rw [← hw4]; exact heap_alloc_new _ _)
  have N4 : New w3 w4 := by rw [← hw4]; exact (Below.refl _ _).alloc (Nat.le_refl _) _
  have HG4 := Lib.hid (HG3.out.new N4)
  have HD4 := Lib.hid (HD3.out.new N4)
  have HO4 : Hid (Only F w w4) := Lib.hid (HO3.out.trans (New.only (F := F) N4) (fun _ _ h => h))
  clear HG3 HD3 HO3 N4 hw4
  obtain ⟨g6, hg⟩ : ∃ g, w3.heap.size = g := ⟨_, rfl⟩
  rw [hg] at HS4
  rw [hg]
  clear hg
  obtain ⟨z0, z1, z2, z3, z4⟩ := HG4.out.at
  obtain ⟨u0, u1, u2, u3, u4⟩ := HG4.out.frozen
  obtain ⟨x0, x1, x2, x3, x4⟩ := HS4.out.at
  go_wp2
  refine bodyPost_ret (results_cell_tmp rfl _ _ g2 _ _ _ _ rfl (HG4.out.put s) Try.underlying23 rfl (by kernel_rfl)) rfl ?_
  refine ⟨rfl, ?_, HO4.out.trans (put5_only _ _ _ _ _ _ _) (fun k hk e => by have := HB2'.out.1; omega)⟩
  exact (HD4.out.only (put5_only _ _ _ _ _ _ _) (fun k hk e => HB3.out (by rw [← e]; exact hk))).narrow (fun k _ hk => hk.elim (fun h => .inl h.1) (fun h => .inr (Nat.le_trans HSZ.out h)))

set_option maxRecDepth 100000 in
set_option maxHeartbeats 1000000 in
theorem supFind {q : Int} {w : World} {n g : Nat} {F : Nat → Prop} {D L : List UInt8} {P : List Wr} (hD : Dvc q w n g F D L P) (hq : q ≠ 0) (hn : 2 ≤ n) (s : SupN) (hs : supNewest (secs L 0 2) = some s) :
    Calls Try.prog 20 #[.pointer (some ⟨g, 0, none⟩)] w fun e w' => e = .returned (.tuple #[s.val, .nilIface]) ∧ DvcTo (nextQ q) w n g F D L P w' := by
  have H0 : Hid (Dvc q w n g (fun k => F k ∧ k < w.heap.size) D L P) := Lib.hid (hD.narrow (fun k hk hF => ⟨hF, hk⟩))
  have HS := Lib.hid hs
  clear hD hs
  go_enter Try.func20, Try.ntmps20
  go_upto_region 1 with fail
  generalize hw1 : World.alloc w _ = w1
  have HG1 : Hid (SupB w1 w.heap.size supZero) := Lib.hid (by rw [← hw1]; exact heap_alloc_new _ _)
  have N1 : Hid (New w w1) := Lib.hid (by rw [← hw1]; exact (Below.refl _ _).alloc (Nat.le_refl _) _)
  clear hw1
  have HB2 : Hid (w.heap.size ≤ w.heap.size ∧ ¬ (F w.heap.size ∧ w.heap.size < w.heap.size)) := Lib.hid ⟨Nat.le_refl _, fun h => by omega⟩
  obtain ⟨g2, hg⟩ : ∃ g, w.heap.size = g := ⟨_, rfl⟩
  have HB2' : Hid (w.heap.size ≤ g2 ∧ ¬ (F g2 ∧ g2 < w.heap.size)) := Lib.hid (by rw [← hg]; exact HB2.out)
  rw [hg] at HG1
  rw [hg]
  clear hg HB2
  have HRd := Lib.hid (supFound (H0.out.new N1.out) hq hn s HS.out)
  go_wp2_with fail
  refine HRd.out.mono ?_
  rintro _ w3 ⟨rfl, hd⟩
  have HG3 : Hid (SupB w3 g2 supZero) := Lib.hid (HG1.out.only hd.2 HB2'.out.2)
  have HD3 : Hid (Dvc (nextQ q) w3 n g (fun k => (F k ∧ k < w.heap.size) ∨ w1.heap.size ≤ k) D L P) := Lib.hid hd.1
  have HO3 : Hid (Only F w w3) := Lib.hid ((New.only N1.out).trans hd.2 (fun k _ h => h.1))
  have HB3 : Hid (¬ ((F g2 ∧ g2 < w.heap.size) ∨ w1.heap.size ≤ g2)) := Lib.hid (fun h => h.elim HB2'.out.2 (fun h => by have := HG1.out.lt; omega))
  have HSZ : Hid (w.heap.size ≤ w1.heap.size) := Lib.hid N1.out.size
  clear hd HRd HG1 H0 N1
  rw [SupN.val_eq]
  go_upto_region 2 with fail
  generalize hw4 : World.alloc w3 _ = w4
  have HS4 : Hid (SupB w4 w3.heap.size s) := Lib.hid (by rw [← hw4]; exact heap_alloc_new _ _)
  have N4 : New w3 w4 := by rw [← hw4]; exact (Below.refl _ _).alloc (Nat.le_refl _) _
  have HG4 := Lib.hid (HG3.out.new N4)
  have HD4 := Lib.hid (HD3.out.new N4)
  have HO4 : Hid (Only F w w4) := Lib.hid (HO3.out.trans (New.only (F := F) N4) (fun _ _ h => h))
  have HGS : Hid (¬ w3.heap.size = g2) := Lib.hid (by have := HG3.out.lt; omega)
  clear HG3 HD3 HO3 N4 hw4
  obtain ⟨g6, hg⟩ : ∃ g, w3.heap.size = g := ⟨_, rfl⟩
  rw [hg] at HS4 HGS
  rw [hg]
  clear hg
  refine region_ord (NwAt g6 s) [(0, true), (1, true), (2, false), (3, false), (4, true)] (by kernel_rfl) (by kernel_rfl) HS4.out.at (fun _ => ?_)
  have HS5 : Hid (SupB w4.drew g6 s) := Lib.hid HS4.out
  have HG5 : Hid (SupB w4.drew g2 supZero) := Lib.hid HG4.out
  have ND : New w4 w4.drew := (Below.refl _ _).drew
  have HD5 := Lib.hid (HD4.out.new ND)
  have HO5 : Hid (Only F w w4.drew) := Lib.hid (HO4.out.trans (New.only (F := F) ND) (fun _ _ h => h))
  clear HS4 HG4 HD4 HO4 ND
  generalize w4.drew = w5 at *
  unfold NwAt
  iterate 2 (apply ord_take; (simp only [List.getElem?_toArray, List.getElem?_cons_succ, List.getElem?_cons_zero]; rfl); rfl; (intro w hSw; (try dsimp only at hSw); obtain ⟨q0, q1, q2, q3, q4⟩ := hSw; go_simp; try with_reducible rfl); intro _; try simp only [Act.put, List.setIfInBounds_toArray, List.set_cons_zero, List.set_cons_succ])
  (apply ord_only; (simp only [List.getElem?_toArray, List.getElem?_cons_succ, List.getElem?_cons_zero]; rfl); rfl; intro K hK)
  go_simp
  refine (wrap0 w5 _ _).mono ?_
  rintro _ w6 ⟨rfl, rfl⟩
  refine hK.out _ _ (HS5.out.at) (fun _ => ?_)
  clear hK K
  try simp only [Act.put, List.setIfInBounds_toArray, List.set_cons_zero, List.set_cons_succ]
  (apply ord_only; (simp only [List.getElem?_toArray, List.getElem?_cons_succ, List.getElem?_cons_zero]; rfl); rfl; intro K hK)
  obtain ⟨z0, z1, z2, z3, z4⟩ := HG5.out.at
  obtain ⟨u0, u1, u2, u3, u4⟩ := HG5.out.frozen
  go_simp
  have HP : Hid (SupB (put5 w5 g2 (.int .i64 s.gen) (.int .i64 s.boot) (.int .i64 s.slots) (.int .i64 s.segs) (.int .i64 s.size)) g2 s) := Lib.hid (HG5.out.put s)
  have HC : Hid (SupB (put5 w5 g2 (.int .i64 s.gen) (.int .i64 s.boot) (.int .i64 s.slots) (.int .i64 s.segs) (.int .i64 s.size)) g6 s) := Lib.hid (HS5.out.only (put5_only _ _ _ _ _ _ _) HGS.out)
  have HTo : Hid (DvcTo (nextQ q) w n g F D L P (put5 w5 g2 (.int .i64 s.gen) (.int .i64 s.boot) (.int .i64 s.slots) (.int .i64 s.segs) (.int .i64 s.size))) := Lib.hid
    ⟨(HD5.out.only (put5_only _ _ _ _ _ _ _) (fun k hk e => HB3.out (by rw [← e]; exact hk))).narrow (fun k _ hk => hk.elim (fun h => .inl h.1) (fun h => .inr (Nat.le_trans HSZ.out h))), HO5.out.trans (put5_only _ _ _ _ _ _ _) (fun k hk e => by have := HB2'.out.1; omega)⟩
  unfold put5 at HP HC HTo
  clear z0 z1 z2 z3 z4 u0 u1 u2 u3 u4
  refine hK.out _ _ (HC.out.at) (fun _ => ?_)
  clear hK K
  try simp only [Act.put, List.setIfInBounds_toArray, List.set_cons_zero, List.set_cons_succ]
  iterate 1 (apply ord_take; (simp only [List.getElem?_toArray, List.getElem?_cons_succ, List.getElem?_cons_zero]; rfl); rfl; (intro w hSw; (try dsimp only at hSw); go_simp; try with_reducible rfl); intro _; try simp only [Act.put, List.setIfInBounds_toArray, List.set_cons_zero, List.set_cons_succ])
  apply ord_done
  go_wp2
  refine bodyPost_ret (results_cell_tmp rfl _ _ g2 _ _ _ _ rfl HP.out Try.underlying23 rfl (by kernel_rfl)) rfl ?_
  exact ⟨rfl, HTo.out⟩

end Go.Proofs.Ytcdhfglehmeecaa

namespace Go.Proofs.Ytcdhfglehmeecaa
set_option linter.unusedVariables false
set_option linter.unusedSimpArgs false
open Go.RowKit

def stD (q : Int) (h : Nat) (s : SupN) (D : List UInt8) (P : List Wr) : List UInt8 := if q = 0 then D else if nextQ q = 0 then D else layAll D (P ++ [(h, supEnc s)])
def stL (q : Int) (h : Nat) (s : SupN) (L : List UInt8) : List UInt8 := if q = 0 then L else lay L h (supEnc s)
def stP (q : Int) (h : Nat) (s : SupN) (P : List Wr) : List Wr := if q = 0 then P else if nextQ q = 0 then P ++ [(h, supEnc s)] else []
/-- did both calls find power? -/
def stOk (q : Int) : Bool := decide (q ≠ 0 ∧ nextQ q ≠ 0)

/-- what Store leaves: its error, the disk -/
def StoreTo (q : Int) (w : World) (n g : Nat) (F : Nat → Prop) (D L : List UInt8) (P : List Wr) (h : Nat) (s : SupN) (e : Ending) (w' : World) : Prop :=
  ∃ v, e = .returned v ∧ (stOk q = true → v = .nilIface) ∧ (stOk q = false → ∃ y, v = .iface 105 y) ∧ DvcTo (nextQ (nextQ q)) w n g F (stD q h s D P) (stL q h s L) (stP q h s P) w'

set_option maxRecDepth 100000 in
set_option maxHeartbeats 1000000 in
theorem supStore {q : Int} {w : World} {n g : Nat} {F : Nat → Prop} {D L : List UInt8} {P : List Wr} (hD : Dvc q w n g F D L P) (hn : 2 ≤ n) (s : SupN) (hs : s.okB = true) (h : Nat) (hh : s.gen.tmod 2 = (h : Int)) (h2 : h < 2) (hP : P.length ≤ 1000) :
    Calls Try.prog 17 #[.pointer (some ⟨g, 0, none⟩), s.val] w (StoreTo q w n g F D L P h s) := by
  have H0 : Hid (Dvc q w n g (fun k => F k ∧ k < w.heap.size) D L P) := Lib.hid (hD.narrow (fun k hk hF => ⟨hF, hk⟩))
  have HS := Lib.hid hs
  have HH := Lib.hid hh
  have HP := Lib.hid hP
  have HN := Lib.hid hn
  have H2 := Lib.hid h2
  clear hD hs hh hP hn h2
  rw [SupN.val_eq]
  go_enter Try.func17, Try.ntmps17
  go_upto_region 1 with fail
  generalize hw1 : World.alloc w _ = w1
  have HG1 : Hid (SupB w1 w.heap.size s) := Lib.hid (by rw [← hw1]; exact heap_alloc_new _ _)
  have N1 : Hid (New w w1) := Lib.hid (by rw [← hw1]; exact (Below.refl _ _).alloc (Nat.le_refl _) _)
  clear hw1
  obtain ⟨g3, hg⟩ : ∃ g, w.heap.size = g := ⟨_, rfl⟩
  have HB3 : Hid (w.heap.size ≤ g3) := Lib.hid (by omega)
  rw [hg] at HG1
  rw [hg]
  clear hg
  obtain ⟨x0, x1, x2, x3, x4⟩ := HG1.out.at
  have HOc := Lib.hid (supOctets w1 s)
  rw [SupN.val_eq] at HOc
  go_wp2_with fail
  refine HOc.out.mono ?_
  rintro e w2 ⟨N2, -, ht⟩
  obtain ⟨gb, rfl, hgb, hr⟩ := ht HS.out
  have HR : Hid (Rd w2 (.slice (some ⟨gb, 0, none⟩) 128 128) (supEnc s)) := Lib.hid (by
    have hrd := rd_of_row (w := w2) (g := gb) (l := supEnc s) (t := 5) (fr := (0, 0)) hr (by rw [supEnc_length]; decide)
    rwa [supEnc_length] at hrd)
  have HBb : Hid (w.heap.size ≤ gb ∧ gb < w2.heap.size) := Lib.hid ⟨Nat.le_trans N1.out.size hgb, lt_of_block hr⟩
  have HG2 := Lib.hid (HG1.out.new N2)
  have N12 := Lib.hid (New.trans N1.out N2)
  clear ht hgb hr N2 HG1 N1 HOc x0 x1 x2 x3 x4
  obtain ⟨x0, x1, x2, x3, x4⟩ := HG2.out.at
  have HHm := Lib.hid (supHome w2 s)
  rw [SupN.val_eq, HH.out] at HHm
  go_wp2_with fail
  refine HHm.out.mono ?_
  rintro _ w3 ⟨rfl, N3⟩
  have HG3 := Lib.hid (HG2.out.new N3)
  have HR3 := Lib.hid (HR.out.new N3)
  have HB3b : Hid (g3 < w3.heap.size ∧ gb < w3.heap.size) := Lib.hid ⟨HG3.out.lt, by have := HBb.out; have := N3.size; omega⟩
  have N13 := Lib.hid (New.trans N12.out N3)
  have HD3 := Lib.hid (H0.out.new N13.out)
  clear HG2 HR N12 N3 HHm H0 x0 x1 x2 x3 x4
  by_cases hq : q = 0
  · subst hq
    have HE : Hid (stOk 0 = false ∧ stD 0 h s D P = D ∧ stL 0 h s L = L ∧ stP 0 h s P = P) := Lib.hid ⟨rfl, rfl, rfl, rfl⟩
    have HW : Hid (Calls Try.prog 35 #[.pointer (some ⟨g, 0, none⟩), .int .i64 (h : Int), .slice (some ⟨gb, 0, none⟩) 128 128] w3 fun e w' => e = .returned (.int .i64 22) ∧ DvcTo 0 w3 n g (fun k => F k ∧ k < w.heap.size) D L P w') := Lib.hid (diskWriteOff HD3.out h 1 (by have := HN.out; have := H2.out; omega) (some ⟨gb, 0, none⟩) 128)
    go_wp2_with fail
    refine HW.out.mono ?_
    rintro _ w4 ⟨rfl, hd⟩
    have HG4 : Hid (SupB w4 g3 s) := Lib.hid (HG3.out.only hd.2 (fun h => by have := HB3.out; omega))
    have HTo : Hid (DvcTo (nextQ (nextQ 0)) w n g F D L P w4) := Lib.hid ⟨hd.1.narrow (fun k _ hk => hk.elim (fun h => .inl h.1) (fun h => .inr (Nat.le_trans N13.out.size h))), (New.only N13.out).trans hd.2 (fun k _ h => h.1)⟩
    clear hd HW HG3 HD3 N13 HR3
    obtain ⟨x0, x1, x2, x3, x4⟩ := HG4.out.at
    have HHm := Lib.hid (supHome w4 s)
    rw [SupN.val_eq, HH.out] at HHm
    go_wp2_with fail
    refine HHm.out.mono ?_
    rintro _ w5 ⟨rfl, N5⟩
    have HT5 : Hid (DvcTo (nextQ (nextQ 0)) w n g F D L P w5) := Lib.hid (HTo.out.post N5)
    clear HHm HG4 N5 HTo x0 x1 x2 x3 x4
    go_wp2_with fail
    refine (wrap1 w5 _ _ 22 (by decide)).mono ?_
    rintro _ w6 ⟨rfl, -, N6⟩
    have HT6 : Hid (DvcTo (nextQ (nextQ 0)) w n g F D L P w6) := Lib.hid (HT5.out.post N6)
    clear HT5 N6
    go_wp2
    go_ret
    refine ⟨_, rfl, ?_, fun _ => ⟨_, rfl⟩, ?_⟩
    · intro h; rw [HE.out.1] at h; cases h
    · rw [HE.out.2.1, HE.out.2.2.1, HE.out.2.2.2]; exact HT6.out
  have HW : Hid (Calls Try.prog 35 #[.pointer (some ⟨g, 0, none⟩), .int .i64 (h : Int), .slice (some ⟨gb, 0, none⟩) 128 128] w3 fun e w' => e = .returned (.int .i64 0) ∧ DvcTo (nextQ q) w3 n g (fun k => F k ∧ k < w.heap.size) D (lay L h (supEnc s)) (P ++ [(h, supEnc s)]) w') := Lib.hid (by
    have hx := diskWriteN HD3.out hq h 1 (by have := HN.out; have := H2.out; omega) (by decide) gb 0 128 (supEnc s) HR3.out (fun h => by have := HBb.out; omega) (by have := HP.out; omega)
    rwa [chunks_one h (supEnc_length s)] at hx)
  have HQ := Lib.hid hq
  clear hq
  go_wp2_with fail
  refine HW.out.mono ?_
  rintro _ w4 ⟨rfl, hd⟩
  have HG4 : Hid (SupB w4 g3 s) := Lib.hid (HG3.out.only hd.2 (fun h => by have := HB3.out; omega))
  have HD4 : Hid (Dvc (nextQ q) w4 n g (fun k => (F k ∧ k < w.heap.size) ∨ w3.heap.size ≤ k) D (lay L h (supEnc s)) (P ++ [(h, supEnc s)])) := Lib.hid hd.1
  have HO4 : Hid (Only F w w4) := Lib.hid ((New.only N13.out).trans hd.2 (fun k _ h => h.1))
  have HSZ : Hid (w.heap.size ≤ w3.heap.size) := Lib.hid N13.out.size
  have HF1 : Hid (¬ ((F g3 ∧ g3 < w.heap.size) ∨ w3.heap.size ≤ g3)) := Lib.hid (fun h => by have := HB3.out; have := HB3b.out; rcases h with h | h <;> omega)
  clear hd HW HG3 HD3 N13 HR3
  by_cases hq1 : nextQ q = 0
  · rw [hq1] at HD4
    have HE : Hid (stOk q = false ∧ stD q h s D P = D ∧ stL q h s L = lay L h (supEnc s) ∧ stP q h s P = P ++ [(h, supEnc s)] ∧ nextQ (nextQ q) = 0) := Lib.hid (by
      have hq := HQ.out
      refine ⟨decide_eq_false (fun h => h.2 hq1), ?_, ?_, ?_, by rw [hq1]; rfl⟩
      · unfold stD; rw [if_neg hq, if_pos hq1]
      · unfold stL; rw [if_neg hq]
      · unfold stP; rw [if_neg hq, if_pos hq1])
    have HFl := Lib.hid (diskFlushOff HD4.out)
    clear hq1
    go_wp2_with fail
    refine HFl.out.mono ?_
    rintro _ w5 ⟨rfl, hd⟩
    have HG5 : Hid (SupB w5 g3 s) := Lib.hid (HG4.out.only hd.2 HF1.out)
    have HTo : Hid (DvcTo 0 w n g F D (lay L h (supEnc s)) (P ++ [(h, supEnc s)]) w5) := Lib.hid
      ⟨hd.1.narrow (fun k _ hk => by
          rcases hk with hk | hk
          · rcases hk with hk | hk
            · exact .inl hk.1
            · exact .inr (Nat.le_trans HSZ.out hk)
          · exact .inr (by have := HO4.out.size; omega)),
        HO4.out.trans hd.2 (fun k hk h => by
          rcases h with h | h
          · exact h.1
          · exfalso; have := HSZ.out; omega)⟩
    clear hd HFl HD4 HO4 HG4
    obtain ⟨x0, x1, x2, x3, x4⟩ := HG5.out.at
    have HHm := Lib.hid (supHome w5 s)
    rw [SupN.val_eq, HH.out] at HHm
    go_wp2_with fail
    refine HHm.out.mono ?_
    rintro _ w6 ⟨rfl, N6⟩
    have HT6 := Lib.hid (HTo.out.post N6)
    clear HHm HG5 N6 HTo x0 x1 x2 x3 x4
    go_wp2_with fail
    refine (wrap1 w6 _ _ 22 (by decide)).mono ?_
    rintro _ w7 ⟨rfl, -, N7⟩
    have HT7 := Lib.hid (HT6.out.post N7)
    clear HT6 N7
    go_wp2
    go_ret
    refine ⟨_, rfl, ?_, fun _ => ⟨_, rfl⟩, ?_⟩
    · intro h; rw [HE.out.1] at h; cases h
    · rw [HE.out.2.1, HE.out.2.2.1, HE.out.2.2.2.1, HE.out.2.2.2.2]; exact HT7.out
  · have HE : Hid (stOk q = true ∧ stD q h s D P = layAll D (P ++ [(h, supEnc s)]) ∧ stL q h s L = lay L h (supEnc s) ∧ stP q h s P = []) := Lib.hid (by
      have hq := HQ.out
      refine ⟨decide_eq_true ⟨hq, hq1⟩, ?_, ?_, ?_⟩
      · unfold stD; rw [if_neg hq, if_neg hq1]
      · unfold stL; rw [if_neg hq]
      · unfold stP; rw [if_neg hq, if_neg hq1])
    have HFl := Lib.hid (diskFlushN HD4.out hq1)
    clear hq1
    go_wp2_with fail
    refine HFl.out.mono ?_
    rintro _ w5 ⟨rfl, hd⟩
    have HG5 : Hid (SupB w5 g3 s) := Lib.hid (HG4.out.only hd.2 HF1.out)
    have HTo : Hid (DvcTo (nextQ (nextQ q)) w n g F (layAll D (P ++ [(h, supEnc s)])) (lay L h (supEnc s)) [] w5) := Lib.hid
      ⟨hd.1.narrow (fun k _ hk => by
          rcases hk with hk | hk
          · rcases hk with hk | hk
            · exact .inl hk.1
            · exact .inr (Nat.le_trans HSZ.out hk)
          · exact .inr (by have := HO4.out.size; omega)),
        HO4.out.trans hd.2 (fun k hk h => by
          rcases h with h | h
          · exact h.1
          · exfalso; have := HSZ.out; omega)⟩
    clear hd HFl HD4 HO4 HG4
    obtain ⟨x0, x1, x2, x3, x4⟩ := HG5.out.at
    have HHm := Lib.hid (supHome w5 s)
    rw [SupN.val_eq, HH.out] at HHm
    go_wp2_with fail
    refine HHm.out.mono ?_
    rintro _ w6 ⟨rfl, N6⟩
    have HT6 := Lib.hid (HTo.out.post N6)
    clear HHm HG5 N6 HTo x0 x1 x2 x3 x4
    go_wp2_with fail
    refine (wrap0 w6 _ _).mono ?_
    rintro _ w7 ⟨rfl, rfl⟩
    go_wp2
    go_ret
    refine ⟨_, rfl, fun _ => rfl, ?_, ?_⟩
    · intro h; rw [HE.out.1] at h; cases h
    · rw [HE.out.2.1, HE.out.2.2.1, HE.out.2.2.2]; exact HT6.out

end Go.Proofs.Ytcdhfglehmeecaa
