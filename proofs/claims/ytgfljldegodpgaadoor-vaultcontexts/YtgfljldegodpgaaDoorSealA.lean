/-
  seal: a text's encryption, its tag, as pure functions.
  seal: fit, counted.
  seal.masked.
  seal.tag.
  seal.Seal, seal.Open.
-/
import Derived.Test.YtgfljldegodpgaaDoorAesA
import Derived.Test.YtgfljldegodpgaaDoorMacA
import Derived.Test.YtgfljldegodpgaaDoorEyeA
import Derived.Test.YtgfljldegodpgaaDoorPenA
import Derived.Test.YtgfljldegodpgaaDoorShaA
import Derived.Test.YtgfljldegodpgaaDoorBase
import Derived.Deep.MidRow
namespace Go.Proofs.YtgfljldegodpgaaDoor
set_option linter.unusedVariables false
set_option linter.unusedSimpArgs false
open Go.RowKit

/-- the block of a group -/
def ctrB (nonce : List UInt8) (g : Nat) : List UInt8 := nonce.take 12 ++ be 4 ((val (nonce.drop 12) + g) % 4294967296)

theorem ctrB_length (nonce : List UInt8) (g : Nat) (h : nonce.length = 16) : (ctrB nonce g).length = 16 := by
  unfold ctrB; rw [List.length_append, be_length, List.length_take]; omega

/-- a group's mask -/
def padB (key nonce : List UInt8) (g : Nat) : List UInt8 := enc (key.take 16) (ctrB nonce g) 10

theorem padB_length (key nonce : List UInt8) (g : Nat) (h : nonce.length = 16) : (padB key nonce g).length = 16 := enc_length _ _ (ctrB_length nonce g h) 10

/-- what a byte is xored with -/
def padAt (key nonce : List UInt8) (i : Nat) : UInt8 := (padB key nonce (i / 16)).getD (i % 16) 0

def xAt (key nonce t : List UInt8) (i : Nat) : UInt8 := bxor (t.getD i 0) (padAt key nonce i)

/-- a text encrypted, or decrypted -/
def ctrX (key nonce t : List UInt8) : List UInt8 := fillTo (xAt key nonce t) (List.replicate t.length 0) t.length

theorem ctrX_length (key nonce t : List UInt8) : (ctrX key nonce t).length = t.length := by
  unfold ctrX; rw [fillTo_length, List.length_replicate]

theorem ctrX_get (key nonce t : List UInt8) (i : Nat) (h : i < t.length) : (ctrX key nonce t).getD i 0 = xAt key nonce t i := by
  unfold ctrX; exact fillTo_lt _ _ _ _ h (by rw [List.length_replicate]; exact h)

theorem ext_getD (a b : List UInt8) (hl : a.length = b.length) (h : ∀ i, i < a.length → a.getD i 0 = b.getD i 0) : a = b := by
  apply List.ext_getElem hl
  intro i h1 h2
  have := h i h1
  rwa [List.getD_eq_getElem?_getD, List.getD_eq_getElem?_getD, List.getElem?_eq_getElem h1, List.getElem?_eq_getElem h2] at this

theorem bxor_back (a b : UInt8) : bxor (bxor a b) b = a := by
  unfold bxor; rw [UInt8.xor_assoc, UInt8.xor_self, UInt8.xor_zero]

theorem ctrX_ctrX (key nonce t : List UInt8) : ctrX key nonce (ctrX key nonce t) = t := by
  refine ext_getD _ _ (by rw [ctrX_length, ctrX_length]) fun i hi => ?_
  rw [ctrX_length, ctrX_length] at hi
  rw [ctrX_get _ _ _ _ (by rw [ctrX_length]; exact hi)]
  unfold xAt
  rw [ctrX_get _ _ _ _ hi]
  exact bxor_back _ _

/-- the tag -/
def stag (key nonce beside hidden : List UInt8) : List UInt8 := (hmac (key.drop 16) (be 4 beside.length ++ (beside ++ (nonce ++ hidden)))).take 16

theorem stag_length (key nonce beside hidden : List UInt8) : (stag key nonce beside hidden).length = 16 := by
  unfold stag; rw [List.length_take, hmac_length]; rfl

/-- a sealed text -/
def sealOf (key nonce beside t : List UInt8) : List UInt8 := ctrX key nonce t ++ stag key nonce beside (ctrX key nonce t)

theorem sealOf_length (key nonce beside t : List UInt8) : (sealOf key nonce beside t).length = t.length + 16 := by
  unfold sealOf; rw [List.length_append, ctrX_length, stag_length]

/-- does a sealed text bear its tag? -/
abbrev rightTag (key nonce beside s : List UInt8) : Prop := s.drop (s.length - 16) = stag key nonce beside (s.take (s.length - 16))

/-- opening, by a key and a nonce that are as long as they must be: the error -/
def openErr (key nonce beside s : List UInt8) : Int := if s.length < 16 then 10 else if rightTag key nonce beside s then 0 else 14

/-- .. and the text -/
def openText (key nonce beside s : List UInt8) : List UInt8 := if s.length < 16 then [] else if rightTag key nonce beside s then ctrX key nonce (s.take (s.length - 16)) else []

theorem sealOf_take (key nonce beside t : List UInt8) : (sealOf key nonce beside t).take ((sealOf key nonce beside t).length - 16) = ctrX key nonce t := by
  rw [sealOf_length, Nat.add_sub_cancel]
  unfold sealOf
  rw [List.take_append_of_le_length (by rw [ctrX_length]; exact Nat.le_refl _), List.take_of_length_le (by rw [ctrX_length]; exact Nat.le_refl _)]

theorem sealOf_drop (key nonce beside t : List UInt8) : (sealOf key nonce beside t).drop ((sealOf key nonce beside t).length - 16) = stag key nonce beside (ctrX key nonce t) := by
  rw [sealOf_length, Nat.add_sub_cancel]
  unfold sealOf
  rw [List.drop_append, List.drop_of_length_le (by rw [ctrX_length]; exact Nat.le_refl _), ctrX_length, Nat.sub_self]
  rfl

theorem seal_right (key nonce beside t : List UInt8) : rightTag key nonce beside (sealOf key nonce beside t) := by
  unfold rightTag; rw [sealOf_take, sealOf_drop]

theorem open_seal (key nonce beside t : List UInt8) : openErr key nonce beside (sealOf key nonce beside t) = 0 ∧ openText key nonce beside (sealOf key nonce beside t) = t := by
  have h16 : ¬ (sealOf key nonce beside t).length < 16 := by rw [sealOf_length]; omega
  unfold openErr openText
  rw [if_neg h16, if_neg h16, if_pos (seal_right key nonce beside t), if_pos (seal_right key nonce beside t), sealOf_take, ctrX_ctrX]
  exact ⟨rfl, rfl⟩

end Go.Proofs.YtgfljldegodpgaaDoor

namespace Go.Proofs.YtgfljldegodpgaaDoor
set_option linter.unusedVariables false
set_option linter.unusedSimpArgs false
open Go.RowKit

/-- a slice of bytes, as a range of cells -/
theorem Rd.range {w : World} {a : Option Addr} {n c : Nat} {l : List UInt8} (h : Rd w (.slice a n c) l) (hn : 0 < n) (k : Nat) :
    ∃ b off, a = some ⟨b, off, none⟩ ∧ w.rangeAt b off ((l.take k).map bv) := by
  obtain ⟨b, off, rfl, hc⟩ := h.cellAt hn
  refine ⟨b, off, rfl, fun j v hj => ?_⟩
  rw [List.getElem?_map, List.getElem?_take] at hj
  split at hj
  · cases hb : l[j]? with
    | none => rw [hb] at hj; cases hj
    | some x =>
      rw [hb] at hj
      have hlt : j < l.length := (List.getElem?_eq_some_iff.1 hb).1
      have := hc j (by rw [← h.len]; exact hlt)
      rw [List.getD_eq_getElem?_getD, hb] at this
      cases hj
      exact this
  · cases hj

/-- [16]byte(b): where it points -/
theorem run_arrayAt16 (a : Option Addr) (n c : Nat) (h : 16 ≤ n) (wx : World) : (Instr.arrayAt 64 (.slice a n c)).run Tryd.prog wx = .ok (.pointer a) wx := by
  unfold Instr.arrayAt
  rw [Sem.run_bind, run_underlying (P := Tryd.prog) Tryd.underlying64]
  simp only [Result.andThen_ok]
  rw [if_neg (by omega)]
  rfl

set_option maxHeartbeats 400000 in
theorem sealFit (w : World) (ax ay : Option Addr) (nx cx ny cy : Nat) : Calls Tryd.prog 31 #[.slice ax nx cx, .slice ay ny cy] w fun e w' => e = .returned (.bool (decide (nx = 48 ∧ ny = 16))) ∧ w = w' := by
  by_cases h1 : nx = 48
  · have d1 : ((nx : Int) == 48) = true := by simp; omega
    by_cases h2 : ny = 16
    · have d2 : ((ny : Int) == 16) = true := by simp; omega
      have d3 : decide (nx = 48 ∧ ny = 16) = true := by simp [h1, h2]
      rw [d3]
      clear h1 h2 d3
      go_enter Tryd.func31, Tryd.ntmps31
      go_wp2
      go_ret
      exact ⟨rfl, rfl⟩
    · have d2 : ((ny : Int) == 16) = false := by simp; omega
      have d3 : decide (nx = 48 ∧ ny = 16) = false := by simp [h1, h2]
      rw [d3]
      clear h1 h2 d3
      go_enter Tryd.func31, Tryd.ntmps31
      go_wp2
      go_ret
      exact ⟨rfl, rfl⟩
  · have d1 : ((nx : Int) == 48) = false := by simp; omega
    have d3 : decide (nx = 48 ∧ ny = 16) = false := by simp [h1]
    rw [d3]
    clear h1 d3
    go_enter Tryd.func31, Tryd.ntmps31
    go_wp2
    go_ret
    exact ⟨rfl, rfl⟩

theorem eTake_in (k : Nat) (r : List UInt8) (h : k ≤ r.length) : eTake (k : Int) r 0 = (r.take k, r.drop k, 0) := by
  unfold eTake
  rw [if_neg (by simp), if_neg (by omega), if_neg (by omega)]
  simp

set_option maxRecDepth 100000 in
set_option maxHeartbeats 1000000 in
theorem sealCounted (w : World) (x : Value) (nonce : List UInt8) (g : Nat) (hx : Rd w x nonce) (hl : nonce.length = 16) (hg : g ≤ 1099511627776) :
    Calls Tryd.prog 46 #[x, .int .i64 g] w fun e w' => e = .returned (.agg ((ctrB nonce g).map bv).toArray) ∧ New w w' := by
  have hx' := hx
  obtain ⟨ax, nx, cx, rfl, -⟩ := hx'
  have HX := Lib.hid hx
  have HL := Lib.hid hl
  clear hx hl
  obtain ⟨v, Hv⟩ : ∃ v, Hid (val (nonce.drop 12) = v) := ⟨_, Lib.hid rfl⟩
  have hv4 : v < 4294967296 := by
    rw [← Hv.out]
    exact val_lt64 _ 4 (by rw [List.length_drop, HL.out]; decide)
  obtain ⟨m, hm⟩ : ∃ m : Nat, ((v : Int) + (g : Int)) % 4294967296 = (m : Int) := ⟨(v + g) % 4294967296, by omega⟩
  have hm4 : m < 4294967296 := by omega
  have HC : Hid (ctrB nonce g = nonce.take 12 ++ be 4 m) := by
    show _ = _
    unfold ctrB
    rw [Hv.out, show (v + g) % 4294967296 = m by omega]
  have HCL := Lib.hid (ctrB_length nonce g HL.out)
  have T1 : Hid (eTake 12 nonce 0 = (nonce.take 12, nonce.drop 12, 0)) := eTake_in 12 nonce (by rw [HL.out]; decide)
  have T2 : Hid (eNum 4 (nonce.drop 12) 0 = v) := by
    show _ = _
    unfold eNum
    rw [eTake_in 4 _ (by rw [List.length_drop, HL.out]; decide), List.take_of_length_le (by rw [List.length_drop, HL.out]; decide), Hv.out]
  go_enter Tryd.func46, Tryd.ntmps46
  go_upto_region 1 with fail
  generalize hw1 : World.alloc w _ = w1
  have HROW : Hid (w1.heap[w.heap.size]? = some (.cells (zeros16.map bv).toArray 64)) := by show _ = _; rw [← hw1]; exact heap_alloc_new _ _
  have N1 : New w w1 := by rw [← hw1]; exact (Below.refl _ _).alloc (Nat.le_refl _) _
  clear hw1
  go_wp2_with fail
  refine (eyeOpen w1 _ nonce (HX.out.new N1) (by rw [HL.out]; decide)).mono ?_
  rintro e w2 ⟨p, d, rfl, hp, hE, hd, N2⟩
  have E2 := Lib.hid hE
  have hplt : p < w2.heap.size := by obtain ⟨_, h, _⟩ := hE; exact lt_of_block h
  clear hE
  go_wp2_with fail
  refine (penNew w2).mono ?_
  rintro e w3 ⟨rfl, hq, N3, hsz3⟩
  have P3 := Lib.hid hq
  have E3 := Lib.hid (E2.out.new N3)
  have NW3 : Hid (New w1 w3) := New.trans N2 N3
  have hq1 : w1.heap.size ≤ w2.heap.size := N2.size
  generalize w2.heap.size = q at *
  clear hq E2 N2 N3
  have CR := eyeRaw w3 p d nonce 0 12 E3.out (by rw [HL.out]; decide)
  rw [T1.out] at CR
  have HCR := Lib.hid CR
  clear CR
  go_wp2_with fail
  refine HCR.out.mono ?_
  rintro e w4 ⟨a4, n4, c4, rfl, r4, -, et4⟩
  have P4 : Hid (Pen w4 q none (some [])) := P3.out.only et4.2 (by show ¬ (q = p); omega) (by simp)
  have E4 := Lib.hid et4.1
  have NW4 : Hid (New w1 w4) := NW3.out.eye et4 hp
  have hs4 := et4.2.size
  have R4 := Lib.hid r4
  clear r4 et4 HCR P3 E3 NW3
  go_wp2_with fail
  refine (penRaw w4 q none (some []) _ _ P4.out R4.out (fun l h => by cases h; rw [List.length_take]; simp; omega)).mono ?_
  rintro e w5 ⟨rfl, ho5, g5, hp5, hg5⟩
  have E5 : Hid (Eye w5 p d (nonce.drop 12) 0) := E4.out.only ho5 (by simp; omega) (fun k hk => by have := (hd k hk).2; simp; omega)
  have NW5 : Hid (New w1 w5) := Below.trans NW4.out (ho5.below NW4.out.size (by rintro k (rfl | h); exact hq1; cases h))
  have hgp : ∀ k, g5 = some k → ¬ k = p ∧ w1.heap.size ≤ k := by
    rintro k rfl
    rcases hg5 with h | ⟨j, h, hj⟩
    · cases h
    · cases h; omega
  have P5 := Lib.hid hp5
  have hs5 := ho5.size
  clear hp5 ho5 hg5 P4 E4 R4 NW4
  have CU := eyeU32 w5 p d (nonce.drop 12) 0 E5.out
  unfold NumTo at CU
  rw [T2.out] at CU
  have HCU := Lib.hid CU
  clear CU
  go_wp2_with fail
  refine HCU.out.mono ?_
  rintro e w6 ⟨rfl, et6⟩
  have P6 := Lib.hid (P5.out.only et6.2 (by show ¬ (q = p); omega) (fun k hk => (hgp k hk).1))
  have NW6 : Hid (New w1 w6) := NW5.out.eye et6 hp
  clear et6 HCU P5 E5 NW5
  have HS : Hid (wU 4 (m : Int) (Option.map (· ++ nonce.take 12) (some [])) = some (ctrB nonce g)) := by
    show _ = _
    rw [HC.out, Option.map_some, wU_in 4 m _ (by simpa using hm4)]
    rfl
  go_wp2_with fail
  refine (penU32 w6 q g5 _ (m : Int) P6.out (by omega) (by omega) (fun l h => by cases h; show ([] ++ nonce.take 12).length + 8 ≤ _; rw [List.nil_append, List.length_take]; omega)).mono ?_
  rintro e w7 ⟨rfl, ho7, g7, hp7, hg7⟩
  rw [HS.out] at hp7
  have P7 := Lib.hid hp7
  have NW7 : Hid (New w1 w7) := Below.trans NW6.out (ho7.below NW6.out.size (by rintro k (rfl | h); exact hq1; exact (hgp k h.symm).2))
  clear hp7 ho7 hg7 P6 NW6 HS
  go_wp2_with fail
  refine (penBytes w7 q g7 _ P7.out (fun l h => by cases h; rw [HCL.out]; decide)).mono ?_
  rintro e w8 ⟨a8, n8, c8, rfl, r8, N8, -⟩
  simp only [Option.getD_some, Option.isSome_some] at r8 ⊢
  have hn8 : n8 = 16 := by rw [← r8.len, HCL.out]
  subst hn8
  obtain ⟨b8, o8, rfl, hr8⟩ := r8.range (by decide) 16
  rw [List.take_of_length_le (by rw [HCL.out]; exact Nat.le_refl _)] at hr8
  have NW8 : Hid (New w1 w8) := New.trans NW7.out N8
  have HROW8 : Hid (w8.heap[w.heap.size]? = some (.cells (zeros16.map bv).toArray 64)) := (NW8.out.block _ (lt_of_block HROW.out)).trans HROW.out
  have HRG := Lib.hid hr8
  clear hr8 r8 P7 NW7 HROW N8
  have hat := fun wx => run_arrayAt16 (some ⟨b8, o8, none⟩) 16 c8 (Nat.le_refl _) wx
  obtain ⟨C, HCC⟩ : ∃ C, Hid (ctrB nonce g = C) := ⟨_, Lib.hid rfl⟩
  rw [HCC.out] at HRG HCL
  go_wp2_with (first | refine wpList_load_mid rfl 64 _ rfl b8 o8 rfl _ _ HRG.out Tryd.underlying64 rfl (by rw [List.length_map, HCL.out]; exact info16) ?_ | refine wpList_store_row rfl 64 _ _ rfl w.heap.size (C.map bv).toArray rfl rfl _ _ HROW8.out (by rw [size16 HCL.out]; exact info16) (by rw [size16 HCL.out]; rfl) (allOneB _) ?_)
  refine bodyPost_ret (v := .agg (C.map bv).toArray) (results_cell_row rfl _ _ w.heap.size _ _ _ _ rfl (setRow_heap _ _ _ _ _ _ HROW8.out) Tryd.underlying64 rfl (by rw [size16 HCL.out]; exact info16)) rfl ⟨by rw [HCC.out], below_setRow (New.trans N1 NW8.out) (Nat.le_refl _) _⟩

end Go.Proofs.YtgfljldegodpgaaDoor

namespace Go.Proofs.YtgfljldegodpgaaDoor
set_option linter.unusedVariables false
set_option linter.unusedSimpArgs false
open Go.RowKit

/-- a row of bytes that a call made is its own -/
theorem own_of_row {w : World} {g base : Nat} {l : List UInt8} (h : w.heap[g]? = some (.cells (l.map bv).toArray 5)) (hb : base ≤ g) (hl : l.length ≤ 9223372036854775807) :
    w.ownsRow base 5 1 (.slice (some ⟨g, 0, none⟩) l.length l.length) l.length (l.map bv) :=
  ⟨by simp, .inr ⟨g, l.length, _, rfl, hb, h, Nat.le_refl _, by simpa [maxLen] using hl, by simp, by rw [Nat.mul_one]; exact List.take_of_length_le (by simp)⟩⟩

/-- the mask ahead of byte j -/
def mAt (key nonce : List UInt8) : Nat → List UInt8
  | 0 => zeros16
  | j + 1 => padB key nonce (j / 16)

theorem mAt_length (key nonce : List UInt8) (h : nonce.length = 16) (j : Nat) : (mAt key nonce j).length = 16 := by
  cases j with
  | zero => rfl
  | succ j => exact padB_length key nonce _ h

theorem mAt_same (key nonce : List UInt8) (j : Nat) (h : j % 16 ≠ 0) : mAt key nonce j = mAt key nonce (j + 1) := by
  cases j with
  | zero => exact absurd rfl h
  | succ j => show padB key nonce (j / 16) = padB key nonce ((j + 1) / 16); rw [show (j + 1) / 16 = j / 16 by omega]

/-- the three rows of a call: the key, what is made, the mask -/
structure MskIn (w : World) (K O M : List UInt8) (wr : World) : Prop where
  key : wr.heap[w.heap.size]? = some (.cells (K.map bv).toArray 64)
  out : wr.heap[w.heap.size + 1]? = some (.cells (O.map bv).toArray 5)
  msk : wr.heap[w.heap.size + 1 + 1]? = some (.cells (M.map bv).toArray 64)
  new : New w wr

section
variable {w wr : World} {K O M : List UInt8}
theorem MskIn.next (h : MskIn w K O M wr) {w' : World} (hn : New wr w') : MskIn w K O M w' :=
  ⟨(hn.block _ (lt_of_block h.key)).trans h.key, (hn.block _ (lt_of_block h.out)).trans h.out, (hn.block _ (lt_of_block h.msk)).trans h.msk, New.trans h.new hn⟩
theorem MskIn.drew (h : MskIn w K O M wr) : MskIn w K O M wr.drew := ⟨h.key, h.out, h.msk, h.new.drew⟩
theorem MskIn.setMsk (h : MskIn w K O M wr) (R : List UInt8) : MskIn w K O R (wr.setRow (w.heap.size + 1 + 1) (R.map bv).toArray) :=
  ⟨(setRow_other _ _ _ _ (by omega)).trans h.key, (setRow_other _ _ _ _ (by omega)).trans h.out, setRow_heap _ _ _ _ _ _ h.msk, below_setRow h.new (by omega) _⟩
theorem MskIn.setOut (h : MskIn w K O M wr) (i : Nat) (x : UInt8) : MskIn w K (O.set i x) M (wr.setCell ⟨w.heap.size + 1, i, none⟩ (bv x)) := by
  refine ⟨?_, ?_, ?_, h.new.setCell (by show w.heap.size ≤ w.heap.size + 1; omega) _⟩
  · rw [heap_setCell_other _ _ _ _ (by show _ ≠ w.heap.size + 1; omega)]; exact h.key
  · rw [heap_setCell_same _ _ _ _ _ _ h.out, List.setIfInBounds_toArray, ← List.map_set]
  · rw [heap_setCell_other _ _ _ _ (by show _ ≠ w.heap.size + 1; omega)]; exact h.msk
end

/-- what the load of the region reads -/
def KeyAt (p : Nat) (k : List UInt8) (w' : World) : Prop := (loadVar 64 ⟨p, 0, none⟩).run Tryd.prog w' = .ok (.agg (k.map bv).toArray) w'

theorem keyAt {w : World} {g : Nat} {l : List UInt8} (hl : l.length = 16) (h : w.heap[g]? = some (.cells (l.map bv).toArray 64)) : KeyAt g l w :=
  run_loadVar_row w g 64 64 _ _ _ h Tryd.underlying64 rfl (by rw [size16 hl]; exact info16)

theorem exec_keyAt {a : Act} {o : Oper} {x : Operand} {p : Nat} {l : List UInt8} {w : World} (ho : o.op = .load 64 x) (hx : a.eval x = .pointer (some ⟨p, 0, none⟩)) (h : KeyAt p l w) :
    (execOp a.eval o).run Tryd.prog w = .ok (.value (.agg (l.map bv).toArray)) w := by
  unfold execOp
  unfold KeyAt at h
  simp only [ho, hx, Instr.loadAt, Instr.sureAddr, Sem.run_bind, Sem.run_pure, Result.andThen_ok, h]

attribute [local go_sem] u8_bxor


set_option maxRecDepth 100000 in
set_option maxHeartbeats 2000000 in
theorem sealMasked (w : World) (x y z : Value) (key nonce t : List UInt8) (hx : Rd w x key) (hk : key.length = 48) (hy : Rd w y nonce) (hn : nonce.length = 16) (hz : Rd w z t) (ht : t.length ≤ 1099511627776) :
    Calls Tryd.prog 32 #[x, y, z] w (OwnRet w (ctrX key nonce t)) := by
  have hx' := hx
  have hy' := hy
  have hz' := hz
  obtain ⟨ax, nx, cx, rfl, hax, -⟩ := hx'
  obtain ⟨ay, ny, cy, rfl, -⟩ := hy'
  obtain ⟨az, nz, cz, rfl, haz, hzc, hzm, -, -⟩ := hz'
  obtain rfl : nx = 48 := by omega
  rw [haz] at ht
  unfold maxLen at hzm
  obtain ⟨bk, ok, rfl, hrk⟩ := hx.range (by decide) 16
  have HRK := Lib.hid hrk
  have HK16 : Hid ((key.take 16).length = 16) := by show _ = _; rw [List.length_take, hk]; rfl
  have HY := Lib.hid hy
  have HZ := Lib.hid hz
  have HNL := Lib.hid hn
  have HZL := Lib.hid haz
  clear hx hk hy hz hn hax haz hrk
  have HX : Hid (ctrX key nonce t = fillTo (xAt key nonce t) (List.replicate nz 0) nz) := by show _ = _; unfold ctrX; rw [HZL.out]
  have hat := fun wx => run_arrayAt16 (some ⟨bk, ok, none⟩) 48 cx (by decide) wx
  have hmk := run_make_bytes (nz : Int) (nz : Int) (by omega) (by omega) (by omega)
  simp only [Int.toNat_natCast] at hmk
  obtain ⟨Ky, HKE⟩ : ∃ Ky, Hid (key.take 16 = Ky) := ⟨_, Lib.hid rfl⟩
  rw [HKE.out] at HRK HK16
  go_enter Tryd.func32, Tryd.ntmps32
  go_upto_region 2 with (first | refine wpList_load_mid rfl 64 _ rfl bk ok rfl _ _ HRK.out Tryd.underlying64 rfl (by rw [List.length_map, HK16.out]; exact info16) ?_ | refine wpList_store_row rfl 64 _ _ rfl w.heap.size (Ky.map bv).toArray rfl rfl _ _ (heap_alloc_new _ _) (by rw [size16 HK16.out]; exact info16) (by rw [size16 HK16.out]; rfl) (allOneB _) ?_)
  generalize hw1 : World.setRow _ _ _ = w1
  have hk1 : w1.heap[w.heap.size]? = some (.cells (Ky.map bv).toArray 64) := by rw [← hw1]; exact setRow_heap _ _ _ _ _ _ (heap_alloc_new _ _)
  have hs1 : w1.heap.size = w.heap.size + 1 := by rw [← hw1]; simp
  have N1 : New w w1 := by rw [← hw1]; exact below_setRow ((Below.refl _ _).alloc (Nat.le_refl _) _) (Nat.le_refl _) _
  clear hw1 hat HRK
  go_upto_region 4 with fail
  generalize hw2 : World.alloc (World.alloc w1 _) _ = w2
  have hin : MskIn w Ky (List.replicate nz 0) zeros16 w2 := by
    have e : Array.replicate nz (bv 0) = ((List.replicate nz (0 : UInt8)).map bv).toArray := by simp
    have hb : (w1.alloc (.cells (Array.replicate nz (bv 0)) 5)).heap.size = w.heap.size + 1 + 1 := by simp [hs1]
    rw [← hw2]
    refine ⟨?_, ?_, ?_, (N1.alloc N1.size _).alloc (by rw [hb]; omega) _⟩
    · rw [heap_old _ _ _ (by rw [hb]; omega), heap_old _ _ _ (by omega)]; exact hk1
    · rw [heap_old _ _ _ (by rw [hb]; omega), heap_new _ _ _ hs1.symm, e]
    · rw [heap_new _ _ _ hb.symm]; rfl
  have HI0 := Lib.hid hin
  clear hin hw2 hk1 hs1 N1 hmk
  go_wp2
  go_loopw [20] (fun i wr => ∃ j : Nat, j ≤ nz ∧ i = .int .i64 j ∧ MskIn w Ky (fillTo (xAt key nonce t) (List.replicate nz 0) j) (mAt key nonce j) wr) (fun i _ => nz - (intOf i).toNat)
  case atStart => exact ⟨0, by omega, rfl, HI0.out⟩
  case round =>
    clear HI0
    obtain ⟨j, hj, rfl, hin⟩ := hrel
    by_cases hlt : j < nz
    · have HI := Lib.hid hin
      obtain ⟨b3, o3, rfl, hc3⟩ := (HZ.out.new hin.new).cellAt (by omega)
      have hd3 := hc3 j hlt
      clear hin hc3
      have HF : Hid (fillTo (xAt key nonce t) (List.replicate nz 0) (j + 1) = (fillTo (xAt key nonce t) (List.replicate nz 0) j).set j (bxor (t.getD j 0) ((mAt key nonce (j + 1)).getD (j % 16) 0))) := Lib.hid rfl
      have HFL : Hid ((fillTo (xAt key nonce t) (List.replicate nz 0) j).length = nz) := by show _ = _; rw [fillTo_length, List.length_replicate]
      have HML := Lib.hid (mAt_length key nonce HNL.out (j + 1))
      have HML0 := Lib.hid (mAt_length key nonce HNL.out j)
      obtain ⟨O, HO⟩ : ∃ O, Hid (fillTo (xAt key nonce t) (List.replicate nz 0) j = O) := ⟨_, Lib.hid rfl⟩
      rw [HO.out] at HI HF HFL
      generalize t.getD j 0 = c at hd3 HF
      by_cases h16 : j % 16 = 0
      · have hi16 : (j : Int) % 16 = 0 := by omega
        have hq1 : (j : Int).tdiv 16 = ((j / 16 : Nat) : Int) := by rw [Int.tdiv_eq_ediv_of_nonneg (by omega)]; omega
        have hq2 : IntKind.i64.wrap ((j / 16 : Nat) : Int) = ((j / 16 : Nat) : Int) := IntWalk.i64_in _ (by omega)
        have hG : j / 16 ≤ 1099511627776 := by omega
        have HMS : Hid (mAt key nonce (j + 1) = enc Ky (ctrB nonce (j / 16)) 10) := by
          show padB key nonce (j / 16) = _
          unfold padB
          rw [HKE.out]
        rw [HMS.out] at HF HML
        generalize mAt key nonce j = M0 at HI HML0
        go_upto_region 8 with fail
        generalize j / 16 = G at *
        have HCL := Lib.hid (ctrB_length nonce G HNL.out)
        have HID := Lib.hid HI.out.drew
        clear HI
        refine region_ord (KeyAt w.heap.size Ky) [(0, true), (1, true), (2, true), (3, true), (4, false), (5, false), (6, false)] (by kernel_rfl) (by kernel_rfl) (keyAt HK16.out HID.out.key) (fun _ => ?_)
        generalize wr.drew = wd at *
        (apply ord_take; (simp only [List.getElem?_toArray, List.getElem?_cons_succ, List.getElem?_cons_zero]; rfl); rfl; (intro w hSw; exact exec_keyAt rfl rfl hSw); intro _; try simp only [Act.put, List.setIfInBounds_toArray, List.set_cons_zero, List.set_cons_succ])
        iterate 3 (apply ord_take; (simp only [List.getElem?_toArray, List.getElem?_cons_succ, List.getElem?_cons_zero]; rfl); rfl; (intro w hSw; (try dsimp only at hSw); go_simp; try with_reducible rfl); intro _; try simp only [Act.put, List.setIfInBounds_toArray, List.set_cons_zero, List.set_cons_succ])
        (apply ord_only; (simp only [List.getElem?_toArray, List.getElem?_cons_succ, List.getElem?_cons_zero]; rfl); rfl; intro K hK)
        go_simp
        refine (sealCounted wd _ nonce G (HY.out.new HID.out.new) HNL.out hG).mono ?_
        rintro e w4 ⟨rfl, N4⟩
        have HI4 := Lib.hid (HID.out.next N4)
        clear HID N4
        refine hK.out _ _ (keyAt HK16.out HI4.out.key) (fun _ => ?_)
        clear hK K
        try simp only [Act.put, List.setIfInBounds_toArray, List.set_cons_zero, List.set_cons_succ]
        generalize ctrB nonce G = C at *
        (apply ord_only; (simp only [List.getElem?_toArray, List.getElem?_cons_succ, List.getElem?_cons_zero]; rfl); rfl; intro K hK)
        go_simp
        refine (aesBlock w4 Ky C HK16.out HCL.out).mono ?_
        rintro e w5 ⟨rfl, N5⟩
        have HI5 := Lib.hid (HI4.out.next N5)
        clear HI4 N5
        refine hK.out _ _ (keyAt HK16.out HI5.out.key) (fun _ => ?_)
        clear hK K
        try simp only [Act.put, List.setIfInBounds_toArray, List.set_cons_zero, List.set_cons_succ]
        generalize enc Ky C 10 = M1 at *
        (apply ord_only; (simp only [List.getElem?_toArray, List.getElem?_cons_succ, List.getElem?_cons_zero]; rfl); rfl; intro K hK)
        refine wp_store_row 64 _ _ rfl (w.heap.size + 1 + 1) (M1.map bv).toArray rfl rfl _ _ HI5.out.msk (by rw [size16 HML.out]; exact info16) (by rw [size16 HML0.out, size16 HML.out]) (allOneB _) ?_
        have HI6 := Lib.hid (HI5.out.setMsk M1)
        clear HI5
        refine hK.out _ _ (keyAt HK16.out HI6.out.key) (fun _ => ?_)
        clear hK K
        try simp only [Act.put, List.setIfInBounds_toArray, List.set_cons_zero, List.set_cons_succ]
        generalize w5.setRow (w.heap.size + 1 + 1) (M1.map bv).toArray = w6 at *
        apply ord_done
        rw [h16] at HF
        have hcm := byte_cell HI6.out.msk (i := 0) (by rw [HML.out]; decide)
        generalize M1.getD 0 0 = m at HF hcm
        have hco := byte_cell HI6.out.out (i := j) (by rw [HFL.out]; exact hlt)
        have hfo := frozen_of_row _ _ j _ _ HI6.out.out
        generalize O.getD j 0 = o0 at hco
        have HP := Lib.hid (HI6.out.setOut j (bxor c m))
        clear HI6
        have hjz : (j : Int) < (nz : Int) := by omega
        go_wp2
        go_roundw
        case rel => exact ⟨j + 1, by omega, by go_num, by rw [HF.out, HMS.out]; exact HP.out⟩
        case measure => simp [intOf]; omega
      · obtain ⟨r, Hr⟩ : ∃ r, Hid (j % 16 = r) := ⟨_, Lib.hid rfl⟩
        have hri : (j : Int) % 16 = (r : Int) := by have := Hr.out; omega
        have hr16 : r < 16 := by have := Hr.out; omega
        have hr0 : ¬ r = 0 := by have := Hr.out; omega
        have hr1 : ((r : Int) == 0) = false := by simpa using hr0
        rw [mAt_same key nonce j h16] at HI
        rw [Hr.out] at HF
        clear h16
        obtain ⟨M1, HMS⟩ : ∃ M1, Hid (mAt key nonce (j + 1) = M1) := ⟨_, Lib.hid rfl⟩
        rw [HMS.out] at HI HML HF
        have hcm := byte_cell HI.out.msk (i := r) (by rw [HML.out]; exact hr16)
        generalize M1.getD r 0 = m at HF hcm
        have HI6 := HI
        clear HI
        have hco := byte_cell HI6.out.out (i := j) (by rw [HFL.out]; exact hlt)
        have hfo := frozen_of_row _ _ j _ _ HI6.out.out
        generalize O.getD j 0 = o0 at hco
        have HP := Lib.hid (HI6.out.setOut j (bxor c m))
        clear HI6
        have hjz : (j : Int) < (nz : Int) := by omega
        go_wp2
        go_roundw
        case rel => exact ⟨j + 1, by omega, by go_num, by rw [HF.out, HMS.out]; exact HP.out⟩
        case measure => simp [intOf]; omega
    · obtain rfl : j = nz := by omega
      rw [← HX.out] at hin
      have hown := own_of_row (base := w.heap.size) hin.out (by omega) (by rw [ctrX_length, HZL.out]; omega)
      rw [ctrX_length, HZL.out] at hown
      have HOW := Lib.hid hown
      have HNW := Lib.hid hin.new
      have hxl : (ctrX key nonce t).length = j := by rw [ctrX_length, HZL.out]
      have HXL := Lib.hid hxl
      clear hin hown hxl
      go_wp2
      go_ret
      exact ⟨_, rfl, by rw [HXL.out]; exact HOW.out, HNW.out⟩

end Go.Proofs.YtgfljldegodpgaaDoor

namespace Go.Proofs.YtgfljldegodpgaaDoor
set_option linter.unusedVariables false
set_option linter.unusedSimpArgs false
open Go.RowKit

/-- four slices of bytes in a new block -/
theorem RdL.made4 (w : World) (u v x y : Value) (k l m n : List UInt8) (e : TypeId) (hu : Rd w u k) (hv : Rd w v l) (hx : Rd w x m) (hy : Rd w y n) : RdL (w.alloc (.cells #[u, v, x, y] e)) (.slice (some ⟨w.heap.size, 0, none⟩) 4 4) [(u, k), (v, l), (x, m), (y, n)] :=
  ⟨RdV.made w [u, v, x, y] e (0, 0) (by simp), fun p hp => by
    have N := (Below.refl w.heap.size w).alloc (Nat.le_refl _) (.cells #[u, v, x, y] e)
    simp only [List.mem_cons, List.not_mem_nil, or_false] at hp
    rcases hp with rfl | rfl | rfl | rfl
    · exact hu.new N
    · exact hv.new N
    · exact hx.new N
    · exact hy.new N⟩

/-- mac.Tag(key, u, v, x, y) as a caller writes it -/
theorem tag4 (w : World) (b : Nat) (kv u v x y : Value) (k p q r s : List UInt8) (hb : b = w.heap.size) (hk : Rd w kv k) (hkl : k.length ≤ 1099511627776) (hu : Rd w u p) (hv : Rd w v q) (hx : Rd w x r) (hy : Rd w y s) (hl : (p ++ (q ++ (r ++ s))).length ≤ 1099511627776) (hL : Laid w) :
    Calls Tryd.prog 48 #[kv, .slice (some ⟨b, 0, none⟩) 4 4] (w.alloc (.cells #[u, v, x, y] 22)) fun e w' => ∃ a n c, e = .returned (.slice a n c) ∧ Rd w' (.slice a n c) (hmac k (p ++ (q ++ (r ++ s)))) ∧ n = 32 ∧ New w w' := by
  subst hb
  have hn := (Below.refl w.heap.size w).alloc (Nat.le_refl _) (.cells #[u, v, x, y] 22)
  have hs := macTag _ kv k _ _ (hk.new hn) hkl (RdL.made4 w u v x y p q r s 22 hu hv hx hy) (by simpa [allOf] using hl) (by simp) (hL.new hn)
  refine hs.mono ?_
  rintro e w' ⟨v', rfl, hown, hn'⟩
  have hr := Rd.of_own hown
  simp only [allOf, List.flatMap_cons, List.flatMap_nil, List.append_nil] at hr
  have hr' := hr
  obtain ⟨a, n, c, rfl, h1, _⟩ := hr'
  exact ⟨a, n, c, rfl, hr, by rw [← h1, hmac_length], New.trans hn hn'⟩

set_option maxRecDepth 100000 in
/-- b[:k] -/
theorem run_slice_to (a : Option Addr) (m c k : Nat) (hk : k ≤ m) (hm : m ≤ c) (wx : World) : (Instr.slice 22 (.slice a m c) none (some (.int .i64 (k : Int))) none).run Tryd.prog wx = .ok (.slice a k c) wx := by
  rw [run_slice_h wx 22 a m c Tryd.underlying22 .i64 (k : Int) (by omega) (by omega), show ∀ w, (sizeOf (Tryd.prog.elem 22)).run Tryd.prog w = .ok 1 w from fun w => by kernel_rfl]
  simp only [Result.andThen_ok, sliced, Int.toNat_natCast, Nat.zero_mul, Nat.sub_zero]
  congr 2
  split
  · rfl
  · cases a with
    | none => rfl
    | some x => simp [Addr.add]

set_option maxRecDepth 100000 in
set_option maxHeartbeats 1000000 in
theorem sealTag (w : World) (x y z v : Value) (key nonce beside hidden : List UInt8) (hx : Rd w x key) (hk : key.length = 48) (hy : Rd w y nonce) (hn : nonce.length = 16) (hz : Rd w z beside) (hb : beside.length ≤ 1000000) (hv : Rd w v hidden) (hh : hidden.length ≤ 10000000) (hL : Laid w) :
    Calls Tryd.prog 33 #[x, y, z, v] w fun e w' => ∃ a c, e = .returned (.slice a 16 c) ∧ Rd w' (.slice a 16 c) (stag key nonce beside hidden) ∧ New w w' := by
  have hx' := hx
  have hy' := hy
  have hz' := hz
  have hv' := hv
  obtain ⟨ax, nx, cx, rfl, hax, hxc, -⟩ := hx'
  obtain ⟨ay, ny, cy, rfl, -⟩ := hy'
  obtain ⟨az, nz, cz, rfl, haz, -⟩ := hz'
  obtain ⟨av, nv, cv, rfl, -⟩ := hv'
  obtain rfl : nx = 48 := by omega
  obtain ⟨ak, hsl, -, hrk⟩ := run_slice_from (P := Tryd.prog) (t := 22) Tryd.underlying22 (fun w => by kernel_rfl) ax 48 cx 16 (by decide) hxc
  have HX := Lib.hid (fun w' (h : New w w') => hrk w' key (hx.new h))
  rw [show ((16 : Nat) : Int) = 16 from rfl] at hsl
  have HY := Lib.hid hy
  have HZ := Lib.hid hz
  have HV := Lib.hid hv
  have HL := Lib.hid hL
  have HKL : Hid ((key.drop 16).length = 32) := by show _ = _; rw [List.length_drop, hk]
  have HS : Hid (wU 4 (nz : Int) (some []) = some (be 4 beside.length)) := by
    show _ = _
    rw [← haz, wU_in 4 _ _ (by omega)]
    rfl
  have HLL : Hid ((be 4 beside.length ++ (beside ++ (nonce ++ hidden))).length ≤ 1099511627776) := by
    show _ ≤ _
    simp only [List.length_append, be_length]
    omega
  have HT : Hid (stag key nonce beside hidden = (hmac (key.drop 16) (be 4 beside.length ++ (beside ++ (nonce ++ hidden)))).take 16) := Lib.hid rfl
  have hz1 : nz ≤ 1000000 := by omega
  clear hx hy hz hv hL hk hax hrk hn haz hb hh
  go_enter Tryd.func33, Tryd.ntmps33
  go_wp2_with fail
  refine (penNew w).mono ?_
  rintro e w1 ⟨rfl, hp1, N1, -⟩
  have P1 := Lib.hid (Pend.start hp1 N1)
  clear hp1 N1
  go_wp2_with fail
  refine (pendU32 P1.out (nz : Int) (by omega) (by omega) (fun l h => by cases h; simp)).mono ?_
  rintro e w2 ⟨rfl, p2⟩
  rw [HS.out] at p2
  have P2 := Lib.hid p2
  clear p2 P1
  go_wp2_with fail
  refine (pendBytes P2.out (fun l h => by cases h; rw [be_length]; decide)).mono ?_
  rintro e w3 ⟨⟨a3, n3, c3, rfl, r3, -⟩, p3⟩
  simp only [Option.getD_some, Option.isSome_some] at r3 ⊢
  have R3 := Lib.hid r3
  have N3 : Hid (New w w3) := p3.1
  clear r3 p3 P2
  go_wp2_with fail
  refine (tag4 w3 _ _ _ _ _ _ (key.drop 16) _ _ _ _ rfl (HX.out w3 N3.out) (by rw [HKL.out]; decide) R3.out (HZ.out.new N3.out) (HY.out.new N3.out) (HV.out.new N3.out) HLL.out (HL.out.new N3.out)).mono ?_
  rintro e w4 ⟨a4, n4, c4, rfl, r4, rfl, N4⟩
  have hc4 : 32 ≤ c4 := by obtain ⟨_, _, _, e, -, h, -⟩ := r4; cases e; exact h
  have hsl4 := run_slice_to a4 32 c4 16 (by decide) hc4
  rw [show ((16 : Nat) : Int) = 16 from rfl] at hsl4
  have R4 := Lib.hid (r4.cut (k := 16) (c' := c4) (by decide) (by omega) (Nat.le_refl _))
  rw [← HT.out] at R4
  clear r4
  go_wp2
  go_ret
  exact ⟨_, _, rfl, R4.out, New.trans N3.out N4⟩

end Go.Proofs.YtgfljldegodpgaaDoor

namespace Go.Proofs.YtgfljldegodpgaaDoor
set_option linter.unusedVariables false
set_option linter.unusedSimpArgs false
open Go.RowKit

theorem own_new {w w' : World} {base : Nat} {e : TypeId} {v : Value} {n : Nat} {xs : List Value} (h : w.ownsRow base e 1 v n xs) (hn : New w w') : w'.ownsRow base e 1 v n xs := by
  refine ⟨h.1, ?_⟩
  rcases h.2 with h0 | ⟨g, cap, cur, e1, hb1, e3, rest⟩
  · exact .inl h0
  · exact .inr ⟨g, cap, cur, e1, hb1, (hn.block g (lt_of_block e3)).trans e3, rest⟩

/-- key or nonce does not have its length -/
theorem sealBad (w : World) (x y z v : Value) (key nonce : List UInt8) (hx : Rd w x key) (hy : Rd w y nonce) (hb : ¬ (key.length = 48 ∧ nonce.length = 16)) :
    Calls Tryd.prog 19 #[x, y, z, v] w fun e w' => e = .returned (.tuple #[.slice none 0 0, .int .i64 2]) ∧ w = w' := by
  obtain ⟨ax, nx, cx, rfl, hax, -⟩ := hx
  obtain ⟨ay, ny, cy, rfl, hay, -⟩ := hy
  rw [hax, hay] at hb
  have hd : decide (nx = 48 ∧ ny = 16) = false := by simpa using hb
  have HF := Lib.hid (sealFit w ax ay nx cx ny cy)
  rw [hd] at HF
  clear hd hb hax hay
  go_enter Tryd.func19, Tryd.ntmps19
  go_wp2_with fail
  refine HF.out.mono ?_
  rintro e w1 ⟨rfl, rfl⟩
  go_wp2
  go_ret2
  exact ⟨rfl, rfl⟩

/-- the same, of Open -/
theorem openBad (w : World) (x y z v : Value) (key nonce : List UInt8) (hx : Rd w x key) (hy : Rd w y nonce) (hb : ¬ (key.length = 48 ∧ nonce.length = 16)) :
    Calls Tryd.prog 22 #[x, y, z, v] w fun e w' => e = .returned (.tuple #[.slice none 0 0, .int .i64 2]) ∧ w = w' := by
  obtain ⟨ax, nx, cx, rfl, hax, -⟩ := hx
  obtain ⟨ay, ny, cy, rfl, hay, -⟩ := hy
  rw [hax, hay] at hb
  have hd : decide (nx = 48 ∧ ny = 16) = false := by simpa using hb
  have HF := Lib.hid (sealFit w ax ay nx cx ny cy)
  rw [hd] at HF
  clear hd hb hax hay
  go_enter Tryd.func22, Tryd.ntmps22
  go_wp2_with fail
  refine HF.out.mono ?_
  rintro e w1 ⟨rfl, rfl⟩
  go_wp2
  go_ret2
  exact ⟨rfl, rfl⟩

set_option maxRecDepth 100000 in
set_option maxHeartbeats 1000000 in
theorem sealSeal (w : World) (x y z v : Value) (key nonce beside t : List UInt8) (hx : Rd w x key) (hk : key.length = 48) (hy : Rd w y nonce) (hn : nonce.length = 16) (hz : Rd w z beside) (hb : beside.length ≤ 1000000) (hv : Rd w v t) (ht : t.length ≤ 1000000) (hL : Laid w) :
    Calls Tryd.prog 19 #[x, y, z, v] w fun e w' => ∃ a n c, e = .returned (.tuple #[.slice a n c, .int .i64 0]) ∧ Rd w' (.slice a n c) (sealOf key nonce beside t) ∧ n = t.length + 16 ∧ New w w' ∧ ∀ k, blk (.slice a n c) = some k → w.heap.size ≤ k := by
  have hx' := hx
  have hy' := hy
  have hz' := hz
  have hv' := hv
  obtain ⟨ax, nx, cx, rfl, hax, -⟩ := hx'
  obtain ⟨ay, ny, cy, rfl, hay, -⟩ := hy'
  obtain ⟨az, nz, cz, rfl, -⟩ := hz'
  obtain ⟨av, nv, cv, rfl, -⟩ := hv'
  have HF := Lib.hid (sealFit w ax ay nx cx ny cy)
  rw [show decide (nx = 48 ∧ ny = 16) = true from by simp; omega] at HF
  have HX := Lib.hid hx
  have HY := Lib.hid hy
  have HZ := Lib.hid hz
  have HV := Lib.hid hv
  have HL := Lib.hid hL
  have HK := Lib.hid hk
  have HN := Lib.hid hn
  have HB := Lib.hid hb
  have HT := Lib.hid ht
  obtain ⟨i0, hi0, hz0, hz1, hz2⟩ := info_parts infoByte
  clear hx hy hz hv hL hk hn hb ht hax hay
  go_enter Tryd.func19, Tryd.ntmps19
  go_wp2_with fail
  refine HF.out.mono ?_
  rintro e w1 ⟨rfl, rfl⟩
  clear HF
  go_wp2_with fail
  refine (sealMasked w _ _ _ key nonce t HX.out HK.out HY.out HN.out HV.out (by have := HT.out; omega)).mono ?_
  rintro e w2 ⟨v2, rfl, hown2, N2⟩
  have r2 := Rd.of_own hown2
  have r2' := r2
  obtain ⟨a2, n2, c2, rfl, -⟩ := r2'
  have HO2 := Lib.hid hown2
  have R2 := Lib.hid r2
  clear hown2 r2
  go_wp2_with fail
  refine (sealTag w2 _ _ _ _ key nonce beside _ (HX.out.new N2) HK.out (HY.out.new N2) HN.out (HZ.out.new N2) HB.out R2.out (by rw [ctrX_length]; have := HT.out; omega) (HL.out.new N2)).mono ?_
  rintro e w3 ⟨a3, c3, rfl, r3, N3⟩
  have R3 := Lib.hid r3
  have HSL := Lib.hid (stag_length key nonce beside (ctrX key nonce t))
  have HSE : Hid (sealOf key nonce beside t = ctrX key nonce t ++ stag key nonce beside (ctrX key nonce t)) := Lib.hid rfl
  have HXL := Lib.hid (ctrX_length key nonce t)
  clear r3
  go_wp2_with (at_builtin; refine wpList_append_bytes rfl _ _ 22 rfl w.heap.size 5 i0 _ Tryd.underlying22 hi0 hz0 hz1 hz2 rfl _ _ _ rfl (own_new HO2.out N3) _ _ rfl R3.out ?_ ?_ ?_)
  · rw [HSL.out, HXL.out]; have := HT.out; omega
  · exact (New.trans N2 N3).size
  · intro v' w' hown' hgrow hat
    have N4 : New w w' := new_grown (New.trans N2 N3) (own_new HO2.out N3) hgrow
    rw [← List.map_append, ← List.length_append, ← HSE.out] at hown'
    have r4 := Rd.of_own hown'
    have r4' := r4
    obtain ⟨a4, n4, c4, rfl, hl4, -⟩ := r4'
    have R4 := Lib.hid r4
    rw [sealOf_length] at hl4
    have HL4 := Lib.hid hl4
    have HB4 : Hid (∀ k, blk (.slice a4 n4 c4) = some k → w.heap.size ≤ k) := Lib.hid fun k hk => (hown'.lt k (by rw [← blk_own]; exact hk)).1
    clear r4 hown' hgrow hat hl4
    go_wp2
    go_ret2
    exact ⟨_, _, _, rfl, R4.out, HL4.out.symm, N4, HB4.out⟩

set_option maxRecDepth 100000 in
set_option maxHeartbeats 1000000 in
theorem sealOpen (w : World) (x y z v : Value) (key nonce beside s : List UInt8) (hx : Rd w x key) (hk : key.length = 48) (hy : Rd w y nonce) (hn : nonce.length = 16) (hz : Rd w z beside) (hb : beside.length ≤ 1000000) (hv : Rd w v s) (ht : s.length ≤ 1000000) (hL : Laid w) :
    Calls Tryd.prog 22 #[x, y, z, v] w fun e w' => ∃ a n c, e = .returned (.tuple #[.slice a n c, .int .i64 (openErr key nonce beside s)]) ∧ Rd w' (.slice a n c) (openText key nonce beside s) ∧ New w w' ∧ ∀ k, blk (.slice a n c) = some k → w.heap.size ≤ k := by
  have hx' := hx
  have hy' := hy
  have hz' := hz
  have hv' := hv
  obtain ⟨ax, nx, cx, rfl, hax, -⟩ := hx'
  obtain ⟨ay, ny, cy, rfl, hay, -⟩ := hy'
  obtain ⟨az, nz, cz, rfl, -⟩ := hz'
  obtain ⟨av, nv, cv, rfl, hav, hvc, hvm, -⟩ := hv'
  have HF := Lib.hid (sealFit w ax ay nx cx ny cy)
  rw [show decide (nx = 48 ∧ ny = 16) = true from by simp; omega] at HF
  have HX := Lib.hid hx
  have HY := Lib.hid hy
  have HZ := Lib.hid hz
  have HV := Lib.hid hv
  have HL := Lib.hid hL
  have HK := Lib.hid hk
  have HN := Lib.hid hn
  have HB := Lib.hid hb
  rw [hav] at ht
  have HAV := Lib.hid hav
  clear hx hy hz hv hL hk hn hb hax hay hvm hav
  by_cases h16 : nv < 16
  · have HE : Hid (openErr key nonce beside s = 10) := by show _ = _; unfold openErr; rw [if_pos (by rw [HAV.out]; exact h16)]
    have HX' : Hid (openText key nonce beside s = []) := by show _ = _; unfold openText; rw [if_pos (by rw [HAV.out]; exact h16)]
    rw [HE.out, HX'.out]
    have hd : decide ((nv : Int) - 16 < 0) = true := by simp; omega
    clear HE HX'
    go_enter Tryd.func22, Tryd.ntmps22
    go_wp2_with fail
    refine HF.out.mono ?_
    rintro e w1 ⟨rfl, rfl⟩
    clear HF
    go_wp2
    go_ret2
    exact ⟨_, _, _, rfl, Rd.nil _, Below.refl _ _, fun k hk => by cases hk⟩
  · obtain ⟨m, hm⟩ : ∃ m : Nat, (nv : Int) - 16 = (m : Int) := ⟨nv - 16, by omega⟩
    have hd : decide ((m : Int) < 0) = false := by simp
    have hto := run_slice_to av nv cv m (by omega) hvc
    obtain ⟨asx, hfr, -, hrs⟩ := run_slice_from (P := Tryd.prog) (t := 22) Tryd.underlying22 (fun w => by kernel_rfl) av nv cv m (by omega) hvc
    have HDR := Lib.hid (fun w' (h : New w w') => hrs w' s (HV.out.new h))
    have HTK := Lib.hid (HV.out.cut (k := m) (c' := cv) (by omega) (by omega) (Nat.le_refl _))
    have HSM : Hid (s.length - 16 = m) := by show _ = _; rw [HAV.out]; omega
    have HTL : Hid ((s.take m).length ≤ 1000000) := by show _ ≤ _; rw [List.length_take]; omega
    clear hrs
    go_enter Tryd.func22, Tryd.ntmps22
    go_wp2_with fail
    refine HF.out.mono ?_
    rintro e w1 ⟨rfl, rfl⟩
    clear HF
    go_upto_region 7 with fail
    have N1 : New w w.drew := (Below.refl _ _).drew
    refine region_ord (fun _ => True) [(0, true), (1, true), (2, true), (3, true), (4, true), (5, true), (6, true), (7, false), (8, false), (9, true)] (by kernel_rfl) (by kernel_rfl) trivial (fun _ => ?_)
    generalize w.drew = w1 at *
    iterate 7 (apply ord_take; (simp only [List.getElem?_toArray, List.getElem?_cons_succ, List.getElem?_cons_zero]; rfl); rfl; (intro w hSw; (try dsimp only at hSw); go_simp; try with_reducible rfl); intro _; try simp only [Act.put, List.setIfInBounds_toArray, List.set_cons_zero, List.set_cons_succ])
    (apply ord_only; (simp only [List.getElem?_toArray, List.getElem?_cons_succ, List.getElem?_cons_zero]; rfl); rfl; intro K hK)
    go_simp
    refine (sealTag w1 _ _ _ _ key nonce beside _ (HX.out.new N1) HK.out (HY.out.new N1) HN.out (HZ.out.new N1) HB.out (HTK.out.new N1) (by have := HTL.out; omega) (HL.out.new N1)).mono ?_
    rintro e w2 ⟨a2, c2, rfl, r2, N2⟩
    have R2 := Lib.hid r2
    have NN2 := New.trans N1 N2
    clear r2 N1 N2
    refine hK.out _ _ (trivial) (fun _ => ?_)
    clear hK K
    try simp only [Act.put, List.setIfInBounds_toArray, List.set_cons_zero, List.set_cons_succ]
    (apply ord_only; (simp only [List.getElem?_toArray, List.getElem?_cons_succ, List.getElem?_cons_zero]; rfl); rfl; intro K hK)
    go_simp
    refine (macSame w2 _ _ _ _ (HDR.out w2 NN2) R2.out).mono ?_
    rintro e w3 ⟨rfl, N3⟩
    have NN3 := New.trans NN2 N3
    clear NN2 N3 R2
    refine hK.out _ _ (trivial) (fun _ => ?_)
    clear hK K
    try simp only [Act.put, List.setIfInBounds_toArray, List.set_cons_zero, List.set_cons_succ]
    by_cases hr : rightTag key nonce beside s
    · have HE : Hid (openErr key nonce beside s = 0) := by show _ = _; unfold openErr; rw [if_neg (by rw [HAV.out]; exact h16), if_pos hr]
      have HX' : Hid (openText key nonce beside s = ctrX key nonce (s.take m)) := by show _ = _; unfold openText; rw [if_neg (by rw [HAV.out]; exact h16), if_pos hr, HSM.out]
      have hde : decide (List.drop m s = stag key nonce beside (List.take m s)) = true := by
        unfold rightTag at hr
        rw [HSM.out] at hr
        simpa using hr
      rw [hde]
      clear hr hde
      iterate 1 (apply ord_take; (simp only [List.getElem?_toArray, List.getElem?_cons_succ, List.getElem?_cons_zero]; rfl); rfl; (intro w hSw; (try dsimp only at hSw); go_simp; try with_reducible rfl); intro _; try simp only [Act.put, List.setIfInBounds_toArray, List.set_cons_zero, List.set_cons_succ])
      apply ord_done
      go_wp2_with fail
      refine (sealMasked w3 _ _ _ key nonce _ (HX.out.new NN3) HK.out (HY.out.new NN3) HN.out (HTK.out.new NN3) (by have := HTL.out; omega)).mono ?_
      rintro e w4 ⟨v4, rfl, hown4, N4⟩
      have r4 := Rd.of_own hown4
      have r4' := r4
      obtain ⟨a4, n4, c4, rfl, -⟩ := r4'
      have R4 := Lib.hid r4
      have HB4 : Hid (∀ k, blk (.slice a4 n4 c4) = some k → w.heap.size ≤ k) := Lib.hid fun k hk => Nat.le_trans NN3.size (hown4.lt k (by rw [← blk_own]; exact hk)).1
      clear hown4 r4
      go_wp2
      go_ret2
      exact ⟨a4, n4, c4, by rw [HE.out]; rfl, by rw [HX'.out]; exact R4.out, New.trans NN3 N4, HB4.out⟩
    · have HE : Hid (openErr key nonce beside s = 14) := by show _ = _; unfold openErr; rw [if_neg (by rw [HAV.out]; exact h16), if_neg hr]
      have HX' : Hid (openText key nonce beside s = []) := by show _ = _; unfold openText; rw [if_neg (by rw [HAV.out]; exact h16), if_neg hr]
      have hde : decide (List.drop m s = stag key nonce beside (List.take m s)) = false := by
        unfold rightTag at hr
        rw [HSM.out] at hr
        simpa using hr
      rw [hde]
      clear hr hde
      iterate 1 (apply ord_take; (simp only [List.getElem?_toArray, List.getElem?_cons_succ, List.getElem?_cons_zero]; rfl); rfl; (intro w hSw; (try dsimp only at hSw); go_simp; try with_reducible rfl); intro _; try simp only [Act.put, List.setIfInBounds_toArray, List.set_cons_zero, List.set_cons_succ])
      apply ord_done
      go_wp2
      go_ret2
      exact ⟨none, 0, 0, by rw [HE.out]; rfl, by rw [HX'.out]; exact Rd.nil _, NN3, fun k hk => by cases hk⟩

end Go.Proofs.YtgfljldegodpgaaDoor
