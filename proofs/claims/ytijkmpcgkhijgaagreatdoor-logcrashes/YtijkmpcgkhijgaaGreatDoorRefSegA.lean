/-
  The reference's Head, Frame, Foot of layer 13; its Zero; Texts, Same of lists of texts.
  The reference's Parse of layer 13.
-/
import Derived.Test.YtijkmpcgkhijgaaGreatDoorSlZero
import Derived.Test.YtijkmpcgkhijgaaGreatDoorSegA
import Derived.Test.YtijkmpcgkhijgaaGreatDoorRefCrc
import Derived.Test.YtijkmpcgkhijgaaGreatDoorChain
import Derived.Test.YtijkmpcgkhijgaaGreatDoorBase
import Derived.Test.YtijkmpcgkhijgaaGreatDoorRefTxt
namespace Go.Proofs.YtijkmpcgkhijgaaGreatDoor
set_option linter.unusedVariables false
set_option linter.unusedSimpArgs false
open Go.RowKit

theorem be_ffff : be 4 4294967295 = [255, 255, 255, 255] := by decide

set_option maxRecDepth 100000 in
set_option maxHeartbeats 1000000 in
theorem refFoot13 (w : World) (count : Int) (c : Nat) (ch : List UInt8) (hw : IntKind.u64.wrap count = (c : Int)) (hc : c < 18446744073709551616) (hl : ch.length ≤ 1000) :
    Calls Tryz.prog 86 #[.int .i64 count, .string (bstr ch)] w fun e w' => e = .returned (.string (bstr (sFoot c ch))) ∧ New w w' := by
  have H1 := Lib.hid (refNumber w 4294967295 4 (by omega) (by omega))
  rw [be_ffff] at H1
  have H2 := Lib.hid (fun wx => refNumber wx c 8 hc (by omega))
  have HW := Lib.hid (fun wx => refWith11 wx ([255, 255, 255, 255] ++ be 8 c ++ ch) (by simp [be_length]; omega))
  have z1 : (bstr [255, 255, 255, 255]).size = 4 := bstr_size _
  have z2 : (bstr (be 8 c)).size = 8 := by rw [bstr_size, be_length]
  have j1 : bstr [255, 255, 255, 255] ++ bstr (be 8 c) = bstr ([255, 255, 255, 255] ++ be 8 c) := bstr_append _ _
  have z3 : (bstr ([255, 255, 255, 255] ++ be 8 c)).size = 12 := by rw [bstr_size]; simp [be_length]
  have z4 : (bstr ch).size = ch.length := bstr_size _
  have j2 : bstr ([255, 255, 255, 255] ++ be 8 c) ++ bstr ch = bstr ([255, 255, 255, 255] ++ be 8 c ++ ch) := bstr_append _ _
  have HF : Hid (crcWith ([255, 255, 255, 255] ++ be 8 c ++ ch) = sFoot c ch) := Lib.hid rfl
  rw [HF.out] at HW
  generalize ([255, 255, 255, 255] ++ be 8 c ++ ch) = L2 at *
  generalize ([255, 255, 255, 255] ++ be 8 c) = L1 at *
  generalize be 8 c = L0 at *
  generalize [255, 255, 255, 255] = LF at *
  go_enter Tryz.func86, Tryz.ntmps86
  go_wp2_with fail
  refine H1.out.mono ?_
  rintro e w1 ⟨rfl, n1⟩
  go_wp2_with fail
  refine (H2.out w1).mono ?_
  rintro e w2 ⟨rfl, n2⟩
  go_wp2_with fail
  refine (HW.out w2).mono ?_
  rintro e w3 ⟨rfl, n3⟩
  go_wp2
  go_ret
  exact ⟨rfl, New.trans n1 (New.trans n2 n3)⟩

set_option maxRecDepth 100000 in
set_option maxHeartbeats 1000000 in
theorem refFrame13 (w : World) (ch t : List UInt8) (ht : t.length ≤ 70000) (hl : ch.length ≤ 1000) :
    Calls Tryz.prog 88 #[.string (bstr ch), .string (bstr t)] w fun e w' => e = .returned (.tuple #[.string (bstr (sFrame ch t)), .string (bstr (sNext ch t))]) ∧ New w w' := by
  have HC := Lib.hid (refChain12 w ch t (by omega))
  have HN : Hid (sha256 (ch ++ t) = sNext ch t) := Lib.hid rfl
  rw [HN.out] at HC
  have H1 := Lib.hid (fun wx => refNumber wx t.length 4 (by omega) (by omega))
  have HW := Lib.hid (fun wx => refWith11 wx (be 4 t.length ++ t ++ sNext ch t) (by simp [be_length, sNext_length]; omega))
  have z1 : (bstr (be 4 t.length)).size = 4 := by rw [bstr_size, be_length]
  have z2 : (bstr t).size = t.length := bstr_size _
  have hw : IntKind.u64.wrap (t.length : Int) = (t.length : Int) := IntWalk.u64_in _ (by omega)
  have j1 : bstr (be 4 t.length) ++ bstr t = bstr (be 4 t.length ++ t) := bstr_append _ _
  have z3 : (bstr (be 4 t.length ++ t)).size = 4 + t.length := by rw [bstr_size]; simp [be_length]
  have z4 : (bstr (sNext ch t)).size = 32 := by rw [bstr_size, sNext_length]
  have j2 : bstr (be 4 t.length ++ t) ++ bstr (sNext ch t) = bstr (be 4 t.length ++ t ++ sNext ch t) := bstr_append _ _
  have HF : Hid (crcWith (be 4 t.length ++ t ++ sNext ch t) = sFrame ch t) := Lib.hid rfl
  rw [HF.out] at HW
  generalize (be 4 t.length ++ t ++ sNext ch t) = L2 at *
  generalize (be 4 t.length ++ t) = L1 at *
  generalize be 4 t.length = L0 at *
  generalize sNext ch t = LN at *
  generalize sFrame ch t = LFr at *
  go_enter Tryz.func88, Tryz.ntmps88
  go_wp2_with fail
  refine HC.out.mono ?_
  rintro e w1 ⟨rfl, n1⟩
  go_wp2_with fail
  refine (H1.out w1).mono ?_
  rintro e w2 ⟨rfl, n2⟩
  go_wp2_with fail
  refine (HW.out w2).mono ?_
  rintro e w3 ⟨rfl, n3⟩
  go_wp2
  go_ret2
  exact ⟨rfl, New.trans n1 (New.trans n2 n3)⟩

set_option maxRecDepth 100000 in
set_option maxHeartbeats 1000000 in
theorem refHead13 (w : World) (n c : Nat) (ch : List UInt8) (hn : n < 4294967296) (hc : c < 9223372036854775808) (hl : ch.length = 32) :
    Calls Tryz.prog 85 #[.int .i64 n, .int .i64 c, .string (bstr ch)] w fun e w' => e = .returned (.string (bstr (sHead n c ch))) ∧ New w w' := by
  have H1 := Lib.hid (refNumber w n 4 (by omega) (by omega))
  have H2 := Lib.hid (fun wx => refNumber wx c 8 (by omega) (by omega))
  have HW := Lib.hid (fun wx => refWith11 wx (sHeadRaw n c ch) (by rw [sHeadRaw_length]; omega))
  have hw1 : IntKind.u64.wrap (n : Int) = (n : Int) := IntWalk.u64_in _ (by omega)
  have hw2 : IntKind.u64.wrap (c : Int) = (c : Int) := IntWalk.u64_in _ (by omega)
  have z0 : ({ data := #[101, 110, 103, 114] } : ByteArray).size = 4 := rfl
  have z1 : (bstr (be 4 n)).size = 4 := by rw [bstr_size, be_length]
  have j1 : ({ data := #[101, 110, 103, 114] } : ByteArray) ++ bstr (be 4 n) = bstr ([101, 110, 103, 114] ++ be 4 n) := bstr_append [101, 110, 103, 114] _
  have z2 : (bstr ([101, 110, 103, 114] ++ be 4 n)).size = 8 := by rw [bstr_size]; simp [be_length]
  have z3 : (bstr ch).size = 32 := by rw [bstr_size, hl]
  have j2 : bstr ([101, 110, 103, 114] ++ be 4 n) ++ bstr ch = bstr ([101, 110, 103, 114] ++ be 4 n ++ ch) := bstr_append _ _
  have z4 : (bstr ([101, 110, 103, 114] ++ be 4 n ++ ch)).size = 40 := by rw [bstr_size]; simp [be_length, hl]
  have z5 : (bstr (be 8 c)).size = 8 := by rw [bstr_size, be_length]
  have j3 : bstr ([101, 110, 103, 114] ++ be 4 n ++ ch) ++ bstr (be 8 c) = bstr (sHeadRaw n c ch) := bstr_append _ _
  have z6 : (bstr (crcWith (sHeadRaw n c ch))).size = 52 := by rw [bstr_size, crcWith_length, sHeadRaw_length, hl]
  have j4 : bstr (crcWith (sHeadRaw n c ch)) ++ bstr (List.replicate 76 0) = bstr (sHead n c ch) := by
    rw [bstr_append]; unfold sHead; rw [crcWith_length, sHeadRaw_length, hl]
  have z7 : (bstr (List.replicate 76 0)).size = 76 := by rw [bstr_size]; simp
  have hmk : ∀ wx : World, (Instr.makeSlice 42 (.int .i64 76) (.int .i64 76)).run Tryz.prog wx = .ok (.slice (some ⟨wx.heap.size, 0, none⟩) 76 76) (wx.alloc (.cells (List.replicate 76 (bv 0)).toArray 5)) := fun wx => run_make_bytes 76 76 (by omega) (by omega) (by omega) wx
  have hst := zeroStr 76 (by omega)
  generalize sHead n c ch = L5 at *
  generalize crcWith (sHeadRaw n c ch) = L4 at *
  generalize sHeadRaw n c ch = L3 at *
  generalize be 8 c = M1 at *
  generalize ([101, 110, 103, 114] ++ be 4 n ++ ch) = L2 at *
  generalize ([101, 110, 103, 114] ++ be 4 n) = L1 at *
  generalize be 4 n = L0 at *
  generalize bstr (List.replicate 76 0) = BZ at *
  generalize hR : (List.replicate 76 (bv 0)).toArray = RZ at *
  clear hR
  go_enter Tryz.func85, Tryz.ntmps85
  go_wp2_with fail
  refine H1.out.mono ?_
  rintro e w1 ⟨rfl, n1⟩
  go_wp2_with fail
  refine (H2.out w1).mono ?_
  rintro e w2 ⟨rfl, n2⟩
  go_wp2_with fail
  refine (HW.out w2).mono ?_
  rintro e w3 ⟨rfl, n3⟩
  go_wp2
  go_ret
  exact ⟨rfl, New.trans n1 (New.trans n2 (New.trans n3 ((Below.refl _ _).alloc (Nat.le_refl _) _)))⟩

theorem refZero12 (w : World) : Calls Tryz.prog 45 #[] w fun e w' => e = .returned (.string (bstr (List.replicate 32 0))) ∧ New w w' := by
  have hmk : ∀ wx : World, (Instr.makeSlice 42 (.int .i64 32) (.int .i64 32)).run Tryz.prog wx = .ok (.slice (some ⟨wx.heap.size, 0, none⟩) 32 32) (wx.alloc (.cells (List.replicate 32 (bv 0)).toArray 5)) := fun wx => run_make_bytes 32 32 (by omega) (by omega) (by omega) wx
  have hst := zeroStr 32 (by omega)
  generalize bstr (List.replicate 32 0) = BZ at *
  generalize hR : (List.replicate 32 (bv 0)).toArray = RZ at *
  clear hR
  go_enter Tryz.func45, Tryz.ntmps45
  go_wp2
  go_ret
  exact ⟨rfl, (Below.refl _ _).alloc (Nat.le_refl _) _⟩

end Go.Proofs.YtijkmpcgkhijgaaGreatDoor

namespace Go.Proofs.YtijkmpcgkhijgaaGreatDoor
set_option linter.unusedVariables false
set_option linter.unusedSimpArgs false
open Go.RowKit

/-- what the reference's Parse returns -/
def RParseTo (w : World) (P : SegP) (e : Ending) (w' : World) : Prop :=
  New w w' ∧ ∃ a n c, e = .returned (.tuple #[.agg #[.slice a n c, strV P.ch, .bool P.sealed, .int .i64 (P.used : Int)], .bool P.ok]) ∧ RdV w' (.slice a n c) (P.ts.map strV)

/-- the same, and the texts' row is new -/
def RParseN (w : World) (P : SegP) (e : Ending) (w' : World) : Prop :=
  New w w' ∧ ∃ a n c, e = .returned (.tuple #[.agg #[.slice a n c, strV P.ch, .bool P.sealed, .int .i64 (P.used : Int)], .bool P.ok]) ∧ RdV w' (.slice a n c) (P.ts.map strV) ∧ ∀ k, blk (.slice a n c) = some k → w.heap.size ≤ k

structure RPIn (w0 : World) (q : Nat) (b : List UInt8) (s : SegS) (vt : Value) (wr : World) : Prop where
  new : New w0 wr
  qge : w0.heap.size ≤ q
  at_ : At4 wr q 112 vt (strV s.ch) (.bool false) (.int .i64 (s.used : Int))
  own : wr.ownsRow w0.heap.size 9 1 vt s.ts.length (s.ts.map strV)
  tq : ∀ k, blk vt = some k → k ≠ q ∧ k < wr.heap.size
  len : s.ch.length = 32
  used : s.used ≤ b.length ∧ 41 * s.ts.length ≤ s.used

theorem RPIn.more {w0 w1 w2 : World} {q : Nat} {b : List UInt8} {s : SegS} {vt : Value} (h : RPIn w0 q b s vt w1) (hn : New w1 w2) : RPIn w0 q b s vt w2 :=
  ⟨New.trans h.new hn, h.qge, h.at_.new hn, own_more h.own hn, fun k hk => ⟨(h.tq k hk).1, Nat.lt_of_lt_of_le (h.tq k hk).2 hn.size⟩, h.len, h.used⟩

theorem RPIn.push {w0 wr wa : World} {q : Nat} {b : List UInt8} {s s' : SegS} {vt vt' : Value} {t : List UInt8} (h : RPIn w0 q b s vt wr)
    (hs : sStep b s = some s') (hst : s'.ts = s.ts ++ [t]) (hlen : s'.ch.length = 32)
    (hown : wa.ownsRow w0.heap.size 9 1 vt' (s.ts.length + 1) (s.ts.map strV ++ [strV t])) (ho : Only (fun k => blk vt = some k) wr wa) (hb : blk vt' = blk vt ∨ ∃ k, blk vt' = some k ∧ wr.heap.size ≤ k) (hlt : ∀ k, blk vt' = some k → k < wa.heap.size) :
    RPIn w0 q b s' vt' (((wa.setCell ⟨q, 0, none⟩ vt').setCell ⟨q, 1, none⟩ (strV s'.ch)).setCell ⟨q, 3, none⟩ (.int .i64 (s'.used : Int))) := by
  have hq : q < wr.heap.size := h.at_.lt
  have hvt : ∀ k, blk vt = some k → k ≠ q := fun k hk => (h.tq k hk).1
  have hO : Only (fun k => k = q) wa (((wa.setCell ⟨q, 0, none⟩ vt').setCell ⟨q, 1, none⟩ (strV s'.ch)).setCell ⟨q, 3, none⟩ (.int .i64 (s'.used : Int))) :=
    (((Only.refl (fun k => k = q) wa).setCell (p := ⟨q, 0, none⟩) (fun _ => rfl) vt').setCell (p := ⟨q, 1, none⟩) (fun _ => rfl) _).setCell (p := ⟨q, 3, none⟩) (fun _ => rfl) _
  have hA : At4 wa q 112 vt (strV s.ch) (.bool false) (.int .i64 (s.used : Int)) := h.at_.only ho (fun hk => hvt q hk rfl)
  have hvt' : ∀ k, blk vt' = some k → k ≠ q := fun k hk => by
    rcases hb with e | ⟨j, e, hj⟩
    · exact hvt k (by rw [← e]; exact hk)
    · rw [e] at hk; cases hk; omega
  refine ⟨?_, h.qge, ((hA.set0 _).set1 _).set3 _, ?_, fun k hk => ⟨hvt' k hk, Nat.lt_of_lt_of_le (hlt k hk) hO.size⟩, hlen, ?_⟩
  · refine Below.trans (Below.trans h.new (ho.below h.new.size (fun k hk => own_from h.own k hk))) (hO.below ?_ (fun k hk => by subst hk; exact h.qge))
    exact Nat.le_trans h.new.size ho.size
  · rw [hst, List.map_append, List.length_append]
    exact ownsRow_only hown hO (fun k hk e => hvt' k hk e)
  · have h1 := sStep_lt hs
    have h2 := h.used
    omega

theorem RPIn.out {w0 w2 wr : World} {q g0 : Nat} {b : List UInt8} {s : SegS} {vt : Value} (h : RPIn w2 q b s vt wr) (hn : New w0 w2) (hg : w0.heap.size ≤ g0) (hg2 : g0 < w2.heap.size) {w' : World} (ho : Only (fun k => k = q ∨ k = g0) wr w') :
    New w0 w' ∧ RdV w' vt (s.ts.map strV) ∧ ∀ k, blk vt = some k → w0.heap.size ≤ k := by
  refine ⟨?_, ?_, fun k hk => Nat.le_trans hn.size (own_from h.own k hk)⟩
  · refine Below.trans (Below.trans hn (h.new.mono hn.size)) (ho.below (Nat.le_trans hn.size h.new.size) ?_)
    rintro k (rfl | rfl)
    · exact Nat.le_trans hn.size h.qge
    · exact hg
  · refine (RdV.of_own h.own).only ho ?_
    rintro k hk - (rfl | rfl)
    · exact (h.tq _ hk).1 rfl
    · have := own_from h.own _ hk; omega

/-- 'p.Used' -/
def rUsedAt (w : World) (q : Nat) : Nat := match w.cell? ⟨q, 3, none⟩ with
  | some (.int _ n) => n.toNat
  | _ => 0

theorem RPIn.usedAt {w0 wr : World} {q : Nat} {b : List UInt8} {s : SegS} {vt : Value} (h : RPIn w0 q b s vt wr) : rUsedAt wr q = s.used := by
  unfold rUsedAt; rw [h.at_.cells.2.2.2]; exact Int.toNat_natCast _

def CellsR (q : Nat) (vt vc : Value) (u : Nat) (w : World) : Prop := w.cell? ⟨q, 0, none⟩ = some vt ∧ w.cell? ⟨q, 1, none⟩ = some vc ∧ w.cell? ⟨q, 2, none⟩ = some (.bool false) ∧ w.cell? ⟨q, 3, none⟩ = some (.int .i64 (u : Int))

theorem RPIn.cells {w0 wr : World} {q u : Nat} {b : List UInt8} {s : SegS} {vt : Value} (h : RPIn w0 q b s vt wr) (hu : s.used = u) : CellsR q vt (strV s.ch) u wr := by
  have := h.at_.cells
  rw [hu] at this
  exact this

theorem u64_mod (x : Int) : IntKind.u64.wrap x = x % 18446744073709551616 := rfl

theorem cnt_mod (x : Int) (h : 0 ≤ x) (h' : x < 18446744073709551616) : (wrap64 x) % 18446744073709551616 = x := by
  unfold wrap64
  omega

theorem cnt_wrap (c k : Nat) (h : c + k < 18446744073709551616) : IntKind.u64.wrap (wrap64 ((c : Int) + (k : Int))) = ((c + k : Nat) : Int) := by
  rw [u64_mod, cnt_mod _ (by omega) (by omega)]
  omega

theorem exit_eq {b : List UInt8} {c : Nat} {s : SegS} {x : Bool} (h : sStep b s = none) (e : sSealed b c s = x) : sEnd b c (sAll b s) = ⟨true, s.ts, s.ch, x, if x = true then s.used + 48 else s.used⟩ := by
  rw [sAll_none h]; unfold sEnd; rw [e]

theorem sStep_short {b : List UInt8} {s : SegS} (h : sLen (b.drop s.used) < 1 ∨ 65535 < sLen (b.drop s.used)) : sStep b s = none := by
  unfold sStep; rw [sFirst_none_len (by omega)]; rfl

theorem sStep_end {b : List UInt8} {s : SegS} (h : (b.drop s.used).length < sLen (b.drop s.used) + 40) : sStep b s = none := by
  unfold sStep sFirst; rw [if_neg (by omega)]; rfl

theorem sSealed_short {b : List UInt8} {c : Nat} {s : SegS} (hl : s.ch.length = 32) (h : (b.drop s.used).length < 48) : sSealed b c s = false := by
  refine decide_eq_false fun e => ?_
  have := congrArg List.length e
  rw [List.length_take, sFoot_length _ _ hl] at this
  omega

set_option maxRecDepth 100000 in
set_option maxHeartbeats 2000000 in
theorem refParse13N (w : World) (b ch : List UInt8) (n c : Nat) (hb : b.length ≤ 1000000) (hc : ch.length = 32) (hn : n < 4294967296) (hcn : c < 9223372036854775808) :
    Calls Tryz.prog 73 #[.string (bstr b), .int .i64 n, .int .i64 c, .string (bstr ch)] w (RParseN w (sParse b (n : Int) (c : Int) ch)) := by
  obtain ⟨nb, HB⟩ : ∃ nb, Hid (b.length = nb) := ⟨_, Lib.hid rfl⟩
  have hz : (bstr b).size = nb := by rw [bstr_size]; exact HB.out
  have hnb : nb ≤ 1000000 := by rw [← HB.out]; exact hb
  have HPL : Hid (sPlaced (n : Int) (c : Int) ch) := Lib.hid ⟨by omega, hc, by omega, by omega⟩
  have HHd : Hid (sHeadOf (n : Int) (c : Int) ch = sHead n c ch) := Lib.hid (by unfold sHeadOf; rw [if_pos HPL.out, Int.toNat_natCast, Int.toNat_natCast])
  have HCL := Lib.hid hc
  clear hb hc
  obtain ⟨r, hr⟩ : ∃ r, nb % 128 = r := ⟨_, rfl⟩
  have e1 : (nb : Int).tmod 128 = (r : Int) := by rw [Int.tmod_eq_emod_of_nonneg (by omega)]; omega
  have e1' : (nb : Int) % 128 = (r : Int) := by omega
  have HR0 := Lib.hid hr
  clear hr
  go_enter Tryz.func73, Tryz.ntmps73
  go_upto_region 1 with fail
  generalize hw1 : World.alloc w _ = w1
  have HG1 : Hid (At4 w1 w.heap.size 112 (.slice none 0 0) (strV []) (.bool false) (.int .i64 0)) := Lib.hid (by rw [← hw1]; exact heap_alloc_new _ _)
  have N1 : New w w1 := by rw [← hw1]; exact (Below.refl _ _).alloc (Nat.le_refl _) _
  clear hw1
  have Nd : New w1 w1.drew := (Below.refl _ _).drew
  have N2 := Lib.hid (New.trans N1 Nd)
  have HG2 := Lib.hid (HG1.out.new Nd)
  clear N1 Nd HG1
  by_cases h2 : r = 0
  · subst h2
    rw [Int.natCast_zero] at e1 e1'
    by_cases h1 : nb < 256
    · have h1' : (nb : Int) < 256 := by omega
      have HF : Hid (sParse b (n : Int) (c : Int) ch = ⟨false, [], [], false, 0⟩) := Lib.hid (if_neg (by rw [HB.out]; omega))
      clear h1
      refine region_ord (fun _ => True) [(0, true), (1, true), (2, true), (3, true), (4, true), (5, true), (6, true), (7, true), (8, true), (9, true), (10, true), (11, true), (12, true), (13, true), (14, true), (15, false), (16, true), (17, true)] (by kernel_rfl) (by kernel_rfl) trivial (fun _ => ?_)
      generalize w1.drew = w2 at *
      iterate 10 (apply ord_take; (simp only [List.getElem?_toArray, List.getElem?_cons_succ, List.getElem?_cons_zero]; rfl); rfl; (intro w hSw; (try dsimp only at hSw); go_simp; try with_reducible rfl); intro _; try simp only [Act.put, List.setIfInBounds_toArray, List.set_cons_zero, List.set_cons_succ])
      iterate 5 (apply ord_skip; (simp only [List.getElem?_toArray, List.getElem?_cons_succ, List.getElem?_cons_zero]; rfl); rfl; intro _; try simp only [Act.put, List.setIfInBounds_toArray, List.set_cons_zero, List.set_cons_succ])
      (apply ord_pass; (simp only [List.getElem?_toArray, List.getElem?_cons_succ, List.getElem?_cons_zero]; rfl); rfl; intro _; try simp only [Act.put, List.setIfInBounds_toArray, List.set_cons_zero, List.set_cons_succ])
      (apply ord_skip; (simp only [List.getElem?_toArray, List.getElem?_cons_succ, List.getElem?_cons_zero]; rfl); rfl; intro _; try simp only [Act.put, List.setIfInBounds_toArray, List.set_cons_zero, List.set_cons_succ])
      (apply ord_take; (simp only [List.getElem?_toArray, List.getElem?_cons_succ, List.getElem?_cons_zero]; rfl); rfl; (intro w hSw; (try dsimp only at hSw); go_simp; try with_reducible rfl); intro _; try simp only [Act.put, List.setIfInBounds_toArray, List.set_cons_zero, List.set_cons_succ])
      apply ord_done
      obtain ⟨f0, f1, f2, f3⟩ := HG2.out.frozen
      obtain ⟨g0, g1, g2, g3⟩ := HG2.out.cells
      go_wp2
      refine bodyPost_ret (results_cell_tmp rfl _ _ w.heap.size _ _ _ _ rfl (HG2.out.put _ _ _ _) Tryz.underlying112 rfl (by kernel_rfl)) rfl ?_
      rw [HF.out]
      refine ⟨Below.trans N2.out ((At4.put_only _ _ _ _ _ _).below N2.out.size (fun k hk => by subst hk; exact Nat.le_refl _)), _, _, _, rfl, RdV.nil _, fun k hk => by simp [blk] at hk⟩
    · have h1' : ¬ (nb : Int) < 256 := by omega
      have hb128 : (128 : Int) ≤ (nb : Int) := by omega
      have hto : (bstr b).extract 0 128 = bstr (b.take 128) := bstr_to b 128
      have hq : ((bstr (b.take 128)).toList == (bstr (sHead n c ch)).toList) = decide (b.take 128 = sHead n c ch) := by
        rw [bstr_list, bstr_list]
        rw [Bool.eq_iff_iff]; simp
      have HH := Lib.hid (fun wx => refHead13 wx n c ch hn hcn HCL.out)
      by_cases h3 : b.take 128 = sHead n c ch
      · rw [decide_eq_true h3] at hq
        have HP : Hid (sParse b (n : Int) (c : Int) ch = sEnd b c (sAll b ⟨[], ch, 128⟩)) := Lib.hid (if_pos ⟨by rw [HB.out]; omega, by rw [HB.out]; exact HR0.out, by rw [HHd.out]; exact h3⟩)
        clear h3
        generalize bstr (b.take 128) = B128 at *
        generalize bstr (sHead n c ch) = BHd at *
        refine region_ord (fun _ => True) [(0, true), (1, true), (2, true), (3, true), (4, true), (5, true), (6, true), (7, true), (8, true), (9, true), (10, true), (11, true), (12, true), (13, true), (14, true), (15, false), (16, true), (17, true)] (by kernel_rfl) (by kernel_rfl) trivial (fun _ => ?_)
        generalize w1.drew = wd at *
        iterate 15 (apply ord_take; (simp only [List.getElem?_toArray, List.getElem?_cons_succ, List.getElem?_cons_zero]; rfl); rfl; (intro w hSw; (try dsimp only at hSw); go_simp; try with_reducible rfl); intro _; try simp only [Act.put, List.setIfInBounds_toArray, List.set_cons_zero, List.set_cons_succ])
        (apply ord_only; (simp only [List.getElem?_toArray, List.getElem?_cons_succ, List.getElem?_cons_zero]; rfl); rfl; intro K hK)
        go_simp
        refine (HH.out wd).mono ?_
        rintro e w2 ⟨rfl, M2⟩
        replace N2 := Lib.hid (New.trans N2.out M2)
        replace HG2 := Lib.hid (HG2.out.new M2)
        clear M2 HH
        refine hK.out _ _ (trivial) (fun _ => ?_)
        clear hK K
        try simp only [Act.put, List.setIfInBounds_toArray, List.set_cons_zero, List.set_cons_succ]
        iterate 2 (apply ord_take; (simp only [List.getElem?_toArray, List.getElem?_cons_succ, List.getElem?_cons_zero]; rfl); rfl; (intro w hSw; (try dsimp only at hSw); go_simp; try with_reducible rfl); intro _; try simp only [Act.put, List.setIfInBounds_toArray, List.set_cons_zero, List.set_cons_succ])
        apply ord_done
        go_wp2
        generalize hw4 : World.alloc w2 _ = w4
        have HIN : Hid (RPIn w2 w2.heap.size b ⟨[], ch, 128⟩ (.slice none 0 0) w4) := by
          have N4 : New w2 w4 := by rw [← hw4]; exact (Below.refl _ _).alloc (Nat.le_refl _) _
          exact Lib.hid ⟨N4, Nat.le_refl _, by rw [← hw4]; exact heap_alloc_new _ _, World.ownsRow_nil _ _ _ _, by simp [blk], HCL.out, ⟨show 128 ≤ b.length by rw [HB.out]; omega, by simp⟩⟩
        obtain ⟨q, Hq⟩ : ∃ q, w2.heap.size = q := ⟨_, rfl⟩
        rw [Hq] at HIN
        rw [Hq]
        clear hw4 Hq hto hq e1 e1'
        go_loopw [11, 12, 13, 14, 15] (fun _ _ _ _ _ wr => ∃ s vt, sAll b ⟨[], ch, 128⟩ = sAll b s ∧ RPIn w2 q b s vt wr) (fun _ _ _ _ _ wr => b.length + 1 - rUsedAt wr q)
        case atStart => exact ⟨_, _, rfl, HIN.out⟩
        case round =>
          obtain ⟨s, vt, hs, hin⟩ := hrel
          obtain ⟨at', ct, hvt, hct, -⟩ := ownSl_form hin.own
          obtain ⟨k, Hk⟩ : ∃ k, Hid (s.ts.length = k) := ⟨_, Lib.hid rfl⟩
          rw [Hk.out] at hvt
          subst hvt
          have HS := Lib.hid hs
          have HIr := Lib.hid hin
          have HM := Lib.hid hin.usedAt
          clear hs hin HIN
          obtain ⟨u, Hu⟩ : ∃ u, Hid (s.used = u) := ⟨_, Lib.hid rfl⟩
          have hun : u ≤ nb := by have := HIr.out.used.1; rw [Hu.out, HB.out] at this; exact this
          have hk : k ≤ 1000000 := by have := HIr.out.used.2; rw [Hk.out, Hu.out] at this; omega
          obtain ⟨rest, Hrest⟩ : ∃ rest, Hid (b.drop u = rest) := ⟨_, Lib.hid rfl⟩
          obtain ⟨m, Hl⟩ : ∃ m, Hid (rest.length = m) := ⟨_, Lib.hid rfl⟩
          have hml : m + u = nb := by have := Hl.out; rw [← Hrest.out, List.length_drop, HB.out] at this; omega
          have hui : (u : Int) ≤ (nb : Int) := by omega
          have hx1 : (bstr b).extract u nb = bstr rest := by rw [bstr_from b u nb HB.out, Hrest.out]
          have hzR : (bstr rest).size = m := by rw [bstr_size]; exact Hl.out
          by_cases hm4 : m < 4
          · have hm4' : (m : Int) < 4 := by omega
            have HPZ : Hid (sParse b (n : Int) (c : Int) ch = ⟨true, s.ts, s.ch, false, u⟩) := Lib.hid (by
              rw [HP.out, HS.out, exit_eq (sStep_short (.inl ?_)) (sSealed_short HIr.out.len ?_), Hu.out]
              · rfl
              · rw [Hu.out, Hrest.out, sLen_eq, if_neg (by rw [Hl.out]; omega)]; omega
              · rw [Hu.out, Hrest.out, Hl.out]; omega)
            have HIZ := HIr
            clear hm4
            have HG9 := Lib.hid (HG2.out.new HIZ.out.new)
            obtain ⟨f0, f1, f2, f3⟩ := HG9.out.frozen
            obtain ⟨g0, g1, g2, g3⟩ := HG9.out.cells
            obtain ⟨x0, x1, x2, x3⟩ := HIZ.out.cells Hu.out
            go_wp2
            refine bodyPost_ret (results_cell_tmp rfl _ _ w.heap.size _ _ _ _ rfl (HG9.out.put _ _ _ _) Tryz.underlying112 rfl (by kernel_rfl)) rfl ?_
            rw [HPZ.out]
            obtain ⟨z1, z2, z3⟩ := HIZ.out.out N2.out (Nat.le_refl _) HG2.out.lt ((At4.put_only _ w.heap.size _ _ _ _).mono (G := fun k => k = q ∨ k = w.heap.size) (fun _ _ h => .inr h))
            exact ⟨z1, _, _, _, rfl, z2, z3⟩
          have hm4' : ¬ (m : Int) < 4 := by omega
          have hm4'' : (4 : Int) ≤ (m : Int) := by omega
          obtain ⟨n0, HSL⟩ : ∃ n0, Hid (sLen rest = n0) := ⟨_, Lib.hid rfl⟩
          have HN0 : Hid (val (rest.take 4) = n0) := Lib.hid (by rw [← HSL.out, sLen_eq, if_pos (by rw [Hl.out]; omega)])
          have hn0 : n0 < 4294967296 := by rw [← HSL.out]; exact sLen_lt _
          have hwn : IntKind.i64.wrap (n0 : Int) = (n0 : Int) := IntWalk.i64_in _ (by omega)
          have hx4 : (bstr rest).extract 0 4 = bstr (rest.take 4) := bstr_to rest 4
          have hx48 : (bstr rest).extract 0 48 = bstr (rest.take 48) := bstr_to rest 48
          have hck : c + k < 18446744073709551616 := by clear hwn; omega
          have HFt := Lib.hid (fun wx => refFoot13 wx (wrap64 ((c : Int) + (k : Int))) (c + k) s.ch (cnt_wrap c k hck) hck (by rw [HIr.out.len]; decide))
          clear hck
          obtain ⟨x0, x1, x2, x3⟩ := HIr.out.cells Hu.out
          go_wp2_with fail
          refine (HFt.out wr).mono ?_
          rintro e w5 ⟨rfl, M5⟩
          have HI5 := Lib.hid (HIr.out.more M5)
          clear M5 HFt HIr x0 x1 x2 x3
          by_cases h48 : m < 48
          · have h48' : ¬ (48 : Int) ≤ (m : Int) := by omega
            have HSE : Hid (sSealed b c s = false) := Lib.hid (sSealed_short HI5.out.len (by rw [Hu.out, Hrest.out, Hl.out]; omega))
            clear h48
            have HV := Lib.hid (refValue w5 (rest.take 4) (by rw [List.length_take]; omega))
            rw [HN0.out] at HV
            go_wp2_with fail
            refine HV.out.mono ?_
            rintro e w5' ⟨rfl, rfl⟩
            clear HV
            by_cases hn1 : n0 < 1
            · have hn1' : (n0 : Int) < 1 := by omega
              have HPZ : Hid (sParse b (n : Int) (c : Int) ch = ⟨true, s.ts, s.ch, false, u⟩) := Lib.hid (by rw [HP.out, HS.out, exit_eq (sStep_short (by rw [Hu.out, Hrest.out, HSL.out]; omega)) HSE.out, Hu.out]; rfl)
              have HIZ := HI5
              clear hn1
              have HG9 := Lib.hid (HG2.out.new HIZ.out.new)
              obtain ⟨f0, f1, f2, f3⟩ := HG9.out.frozen
              obtain ⟨g0, g1, g2, g3⟩ := HG9.out.cells
              obtain ⟨x0, x1, x2, x3⟩ := HIZ.out.cells Hu.out
              go_wp2
              refine bodyPost_ret (results_cell_tmp rfl _ _ w.heap.size _ _ _ _ rfl (HG9.out.put _ _ _ _) Tryz.underlying112 rfl (by kernel_rfl)) rfl ?_
              rw [HPZ.out]
              obtain ⟨z1, z2, z3⟩ := HIZ.out.out N2.out (Nat.le_refl _) HG2.out.lt ((At4.put_only _ w.heap.size _ _ _ _).mono (G := fun k => k = q ∨ k = w.heap.size) (fun _ _ h => .inr h))
              exact ⟨z1, _, _, _, rfl, z2, z3⟩
            have hn1' : ¬ (n0 : Int) < 1 := by omega
            by_cases hn2 : 65535 < n0
            · have hn2' : (65535 : Int) < (n0 : Int) := by omega
              have HPZ : Hid (sParse b (n : Int) (c : Int) ch = ⟨true, s.ts, s.ch, false, u⟩) := Lib.hid (by rw [HP.out, HS.out, exit_eq (sStep_short (by rw [Hu.out, Hrest.out, HSL.out]; omega)) HSE.out, Hu.out]; rfl)
              have HIZ := HI5
              clear hn2
              have HG9 := Lib.hid (HG2.out.new HIZ.out.new)
              obtain ⟨f0, f1, f2, f3⟩ := HG9.out.frozen
              obtain ⟨g0, g1, g2, g3⟩ := HG9.out.cells
              obtain ⟨x0, x1, x2, x3⟩ := HIZ.out.cells Hu.out
              go_wp2
              refine bodyPost_ret (results_cell_tmp rfl _ _ w.heap.size _ _ _ _ rfl (HG9.out.put _ _ _ _) Tryz.underlying112 rfl (by kernel_rfl)) rfl ?_
              rw [HPZ.out]
              obtain ⟨z1, z2, z3⟩ := HIZ.out.out N2.out (Nat.le_refl _) HG2.out.lt ((At4.put_only _ w.heap.size _ _ _ _).mono (G := fun k => k = q ∨ k = w.heap.size) (fun _ _ h => .inr h))
              exact ⟨z1, _, _, _, rfl, z2, z3⟩
            have hn2' : ¬ (65535 : Int) < (n0 : Int) := by omega
            by_cases hn3 : m < n0 + 40
            · have hn3' : (m : Int) < (n0 : Int) + 40 := by omega
              have HPZ : Hid (sParse b (n : Int) (c : Int) ch = ⟨true, s.ts, s.ch, false, u⟩) := Lib.hid (by rw [HP.out, HS.out, exit_eq (sStep_end (by rw [Hu.out, Hrest.out, HSL.out, Hl.out]; omega)) HSE.out, Hu.out]; rfl)
              have HIZ := HI5
              clear hn3
              have HG9 := Lib.hid (HG2.out.new HIZ.out.new)
              obtain ⟨f0, f1, f2, f3⟩ := HG9.out.frozen
              obtain ⟨g0, g1, g2, g3⟩ := HG9.out.cells
              obtain ⟨x0, x1, x2, x3⟩ := HIZ.out.cells Hu.out
              go_wp2
              refine bodyPost_ret (results_cell_tmp rfl _ _ w.heap.size _ _ _ _ rfl (HG9.out.put _ _ _ _) Tryz.underlying112 rfl (by kernel_rfl)) rfl ?_
              rw [HPZ.out]
              obtain ⟨z1, z2, z3⟩ := HIZ.out.out N2.out (Nat.le_refl _) HG2.out.lt ((At4.put_only _ w.heap.size _ _ _ _).mono (G := fun k => k = q ∨ k = w.heap.size) (fun _ _ h => .inr h))
              exact ⟨z1, _, _, _, rfl, z2, z3⟩
            have hn3' : ¬ (m : Int) < (n0 : Int) + 40 := by omega
            obtain ⟨t, Ht⟩ : ∃ t, Hid ((rest.drop 4).take n0 = t) := ⟨_, Lib.hid rfl⟩
            have htl : t.length = n0 := by rw [← Ht.out, List.length_take, List.length_drop, Hl.out]; omega
            have HF13 := Lib.hid (fun wx => refFrame13 wx s.ch t (by rw [htl]; omega) (by rw [HI5.out.len]; decide))
            have HT : Hid (t.length = n0 ∧ 1 ≤ n0) := Lib.hid ⟨htl, by omega⟩
            have hxt : (bstr rest).extract 4 (4 + n0) = bstr t := by
              rw [bstr_cut, ← Ht.out]; congr 2; omega
            have hxf : (bstr rest).extract 0 (n0 + 40) = bstr (rest.take (n0 + 40)) := bstr_to rest (n0 + 40)
            have hqf : ((bstr (rest.take (n0 + 40))).toList == (bstr (sFrame s.ch t)).toList) = decide (rest.take (n0 + 40) = sFrame s.ch t) := by
              rw [bstr_list, bstr_list, Bool.eq_iff_iff]; simp
            have HST : Hid (sStep b s = if rest.take (n0 + 40) = sFrame s.ch t then some ⟨s.ts ++ [t], sNext s.ch t, s.used + (t.length + 40)⟩ else none) := by
              refine Lib.hid ?_
              unfold sStep sFirst
              rw [Hu.out, Hrest.out, HSL.out, Ht.out, Hl.out]
              by_cases hq : rest.take (n0 + 40) = sFrame s.ch t
              · rw [if_pos hq, if_pos ⟨by omega, by omega, by omega, hq⟩]; rfl
              · rw [if_neg hq, if_neg (fun hh => hq hh.2.2.2)]; rfl
            clear htl hn1 hn2 hn3
            have N6 : New w5 w5.drew := (Below.refl _ _).drew
            have HI6 := Lib.hid (HI5.out.more N6)
            have HC6 : Hid (CellsR q (.slice at' k ct) (strV s.ch) u w5.drew) := Lib.hid (HI6.out.cells Hu.out)
            clear N6 HI5
            have hni : (n0 : Int) ≤ 65535 := by omega
            obtain ⟨n4, Hn4⟩ : ∃ n4, Hid (4 + n0 = n4) := ⟨_, Lib.hid rfl⟩
            have hwr : IntKind.i64.wrap (4 + (n0 : Int)) = (n4 : Int) := by have := Hn4.out; rw [IntWalk.i64_in _ (by omega)]; omega
            have hi1 : (4 : Int) ≤ (n4 : Int) := by have := Hn4.out; omega
            have hi2 : (n4 : Int) ≤ (m : Int) := by have := Hn4.out; omega
            rw [Hn4.out] at hxt
            go_wp2
            refine region_ord (CellsR q (.slice at' k ct) (strV s.ch) u) [(0, true), (1, true), (2, true), (3, true), (4, true), (5, true), (6, false), (7, true), (8, true), (9, true), (10, true), (11, true)] (by kernel_rfl) (by kernel_rfl) HC6.out (fun _ => ?_)
            generalize w5.drew = w6 at *
            clear HC6
            unfold CellsR
            iterate 6 (apply ord_take; (simp only [List.getElem?_toArray, List.getElem?_cons_succ, List.getElem?_cons_zero]; rfl); rfl; (intro w hSw; (try dsimp only at hSw); go_simp; try with_reducible rfl); intro _; try simp only [Act.put, List.setIfInBounds_toArray, List.set_cons_zero, List.set_cons_succ])
            (apply ord_only; (simp only [List.getElem?_toArray, List.getElem?_cons_succ, List.getElem?_cons_zero]; rfl); rfl; intro K hK)
            go_simp
            refine (HF13.out w6).mono ?_
            rintro e w7 ⟨rfl, N7⟩
            have HI7 := Lib.hid (HI6.out.more N7)
            clear N7 HI6 HF13
            refine hK.out _ _ (HI7.out.cells Hu.out) (fun _ => ?_)
            clear hK K
            try simp only [Act.put, List.setIfInBounds_toArray, List.set_cons_zero, List.set_cons_succ]
            iterate 5 (apply ord_take; (simp only [List.getElem?_toArray, List.getElem?_cons_succ, List.getElem?_cons_zero]; rfl); rfl; (intro w hSw; (try dsimp only at hSw); go_simp; try with_reducible rfl); intro _; try simp only [Act.put, List.setIfInBounds_toArray, List.set_cons_zero, List.set_cons_succ])
            apply ord_done
            by_cases hq : rest.take (n0 + 40) = sFrame s.ch t
            · rw [decide_eq_true hq] at hqf
              have HST2 : Hid (sStep b s = some ⟨s.ts ++ [t], sNext s.ch t, s.used + (t.length + 40)⟩) := Lib.hid (by rw [HST.out, if_pos hq])
              clear hq HST
              generalize bstr (rest.take (n0 + 40)) = BX at *
              generalize bstr (sFrame s.ch t) = BY at *
              have N8 : New w7 w7.drew := (Below.refl _ _).drew
              have HI8 := Lib.hid (HI7.out.more N8)
              clear N8 HI7
              go_wp2
              refine region_ordT (fun _ => True) (.take 0 (.take 2 (.take 3 (.take 4 (.take 5 (.two 1 6 (.only 6 (.only 7 (.take 8 (.only 9 .nil)))) (.only 1 (.only 7 (.take 8 (.only 9 .nil)))))))))) (by kernel_rfl) (by kernel_rfl) trivial (fun _ => ?_)
              generalize w7.drew = w8 at *
              iterate 5 (apply ordT_take; (simp only [List.getElem?_toArray, List.getElem?_cons_succ, List.getElem?_cons_zero]; rfl); rfl; (intro w hSw; (try dsimp only at hSw); go_simp; try with_reducible rfl); intro _; try simp only [Act.put, List.setIfInBounds_toArray, List.set_cons_zero, List.set_cons_succ])
              clear hwr hqf hx1 hx4 hx48 hxf hwn
              obtain ⟨i0, hi0, hz0, hz1, hz2⟩ := info_parts infoStr
              obtain ⟨v', wa, happ, hown', hO', hb', hlt'⟩ := run_append_u (P := Tryz.prog) w2.heap.size w8 28 28 9 i0 _ 16 Tryz.underlying28 hi0 hz0 hz1 hz2 rfl _ s.ts.length (s.ts.map strV) HI8.out.own (.string (bstr t)) rfl (by rw [Hk.out]; omega) (by rw [Hk.out]; omega) HI8.out.new.size
              obtain ⟨a', cap', rfl, -, -⟩ := ownSl_form hown'
              have HAPP := Lib.hid happ
              have HPU := Lib.hid (HI8.out.push HST2.out rfl (sNext_length _ _) hown' hO' hb' hlt')
              have HAa : Hid (At4 wa q 112 (.slice at' k ct) (strV s.ch) (.bool false) (.int .i64 (u : Int))) := by
                refine Lib.hid ?_
                have := HI8.out.at_.only hO' (fun hk => (HI8.out.tq q hk).1 rfl)
                rw [Hu.out] at this
                exact this
              rw [Hk.out] at HAPP HPU
              clear happ hown' hO' hb' hlt' hi0 hz0 hz1 hz2
              (apply ordT_two; (simp only [List.getElem?_toArray, List.getElem?_cons_succ, List.getElem?_cons_zero]; rfl); rfl; (simp only [List.getElem?_toArray, List.getElem?_cons_succ, List.getElem?_cons_zero]; rfl); rfl)
              · intro K hK
                obtain ⟨c0, -⟩ := HI8.out.cells Hu.out
                go_simp
                clear c0
                refine hK.out _ _ (trivial) (fun _ => ?_)
                clear hK K
                try simp only [Act.put, List.setIfInBounds_toArray, List.set_cons_zero, List.set_cons_succ]
                (apply ordT_only; (simp only [List.getElem?_toArray, List.getElem?_cons_succ, List.getElem?_cons_zero]; rfl); rfl; intro K hK)
                go_simp
                refine hK.out _ _ (trivial) (fun _ => ?_)
                clear hK K
                try simp only [Act.put, List.setIfInBounds_toArray, List.set_cons_zero, List.set_cons_succ]
                (apply ordT_only; (simp only [List.getElem?_toArray, List.getElem?_cons_succ, List.getElem?_cons_zero]; rfl); rfl; intro K hK)
                refine oper_append _ _ 28 rfl _ _ rfl rfl HAPP.out ?_
                refine hK.out _ _ (trivial) (fun _ => ?_)
                clear hK K
                try simp only [Act.put, List.setIfInBounds_toArray, List.set_cons_zero, List.set_cons_succ]
                iterate 1 (apply ordT_take; (simp only [List.getElem?_toArray, List.getElem?_cons_succ, List.getElem?_cons_zero]; rfl); rfl; (intro w hSw; (try dsimp only at hSw); go_simp; try with_reducible rfl); intro _; try simp only [Act.put, List.setIfInBounds_toArray, List.set_cons_zero, List.set_cons_succ])
                (apply ordT_only; (simp only [List.getElem?_toArray, List.getElem?_cons_succ, List.getElem?_cons_zero]; rfl); rfl; intro K hK)
                obtain ⟨f0, f1, f2, f3⟩ := HAa.out.frozen
                obtain ⟨y0, y1, y2, y3⟩ := HAa.out.cells
                go_simp
                refine hK.out _ _ (trivial) (fun _ => ?_)
                clear hK K
                try simp only [Act.put, List.setIfInBounds_toArray, List.set_cons_zero, List.set_cons_succ]
                apply ordT_done
                go_wp2
                have hE := HPU.out
                have hcast : (((⟨s.ts ++ [t], sNext s.ch t, s.used + (t.length + 40)⟩ : SegS).used : Nat) : Int) = (u : Int) + ((n0 : Int) + 40) := by
                  show ((s.used + (t.length + 40) : Nat) : Int) = _
                  rw [Hu.out, HT.out.1]
                  omega
                rw [hcast] at hE
                have hlt := sStep_lt HST2.out
                refine ⟨⟨_, _, by rw [HS.out, sAll_some HST2.out], hE⟩, ?_⟩
                rw [hE.usedAt, HM.out]
                omega
              · intro K hK
                go_simp
                refine hK.out _ _ (trivial) (fun _ => ?_)
                clear hK K
                try simp only [Act.put, List.setIfInBounds_toArray, List.set_cons_zero, List.set_cons_succ]
                (apply ordT_only; (simp only [List.getElem?_toArray, List.getElem?_cons_succ, List.getElem?_cons_zero]; rfl); rfl; intro K hK)
                obtain ⟨c0, -⟩ := (HI8.out.more (w2 := w8.alloc (.cells #[.string (bstr t)] 9)) ((Below.refl _ _).alloc (Nat.le_refl _) _)).cells Hu.out
                go_simp
                clear c0
                refine hK.out _ _ (trivial) (fun _ => ?_)
                clear hK K
                try simp only [Act.put, List.setIfInBounds_toArray, List.set_cons_zero, List.set_cons_succ]
                (apply ordT_only; (simp only [List.getElem?_toArray, List.getElem?_cons_succ, List.getElem?_cons_zero]; rfl); rfl; intro K hK)
                refine oper_append _ _ 28 rfl _ _ rfl rfl HAPP.out ?_
                refine hK.out _ _ (trivial) (fun _ => ?_)
                clear hK K
                try simp only [Act.put, List.setIfInBounds_toArray, List.set_cons_zero, List.set_cons_succ]
                iterate 1 (apply ordT_take; (simp only [List.getElem?_toArray, List.getElem?_cons_succ, List.getElem?_cons_zero]; rfl); rfl; (intro w hSw; (try dsimp only at hSw); go_simp; try with_reducible rfl); intro _; try simp only [Act.put, List.setIfInBounds_toArray, List.set_cons_zero, List.set_cons_succ])
                (apply ordT_only; (simp only [List.getElem?_toArray, List.getElem?_cons_succ, List.getElem?_cons_zero]; rfl); rfl; intro K hK)
                obtain ⟨f0, f1, f2, f3⟩ := HAa.out.frozen
                obtain ⟨y0, y1, y2, y3⟩ := HAa.out.cells
                go_simp
                refine hK.out _ _ (trivial) (fun _ => ?_)
                clear hK K
                try simp only [Act.put, List.setIfInBounds_toArray, List.set_cons_zero, List.set_cons_succ]
                apply ordT_done
                go_wp2
                have hE := HPU.out
                have hcast : (((⟨s.ts ++ [t], sNext s.ch t, s.used + (t.length + 40)⟩ : SegS).used : Nat) : Int) = (u : Int) + ((n0 : Int) + 40) := by
                  show ((s.used + (t.length + 40) : Nat) : Int) = _
                  rw [Hu.out, HT.out.1]
                  omega
                rw [hcast] at hE
                have hlt := sStep_lt HST2.out
                refine ⟨⟨_, _, by rw [HS.out, sAll_some HST2.out], hE⟩, ?_⟩
                rw [hE.usedAt, HM.out]
                omega
            · rw [decide_eq_false hq] at hqf
              have HPZ : Hid (sParse b (n : Int) (c : Int) ch = ⟨true, s.ts, s.ch, false, u⟩) := Lib.hid (by rw [HP.out, HS.out, exit_eq (by rw [HST.out, if_neg hq]) HSE.out, Hu.out]; rfl)
              have HIZ := HI7
              clear hq HST
              generalize bstr (rest.take (n0 + 40)) = BX at *
              generalize bstr (sFrame s.ch t) = BY at *
              have HG9 := Lib.hid (HG2.out.new HIZ.out.new)
              obtain ⟨f0, f1, f2, f3⟩ := HG9.out.frozen
              obtain ⟨g0, g1, g2, g3⟩ := HG9.out.cells
              obtain ⟨x0, x1, x2, x3⟩ := HIZ.out.cells Hu.out
              go_wp2
              refine bodyPost_ret (results_cell_tmp rfl _ _ w.heap.size _ _ _ _ rfl (HG9.out.put _ _ _ _) Tryz.underlying112 rfl (by kernel_rfl)) rfl ?_
              rw [HPZ.out]
              obtain ⟨z1, z2, z3⟩ := HIZ.out.out N2.out (Nat.le_refl _) HG2.out.lt ((At4.put_only _ w.heap.size _ _ _ _).mono (G := fun k => k = q ∨ k = w.heap.size) (fun _ _ h => .inr h))
              exact ⟨z1, _, _, _, rfl, z2, z3⟩
          have h48' : (48 : Int) ≤ (m : Int) := by omega
          have hq48 : ((bstr (rest.take 48)).toList == (bstr (sFoot (c + k) s.ch)).toList) = decide (rest.take 48 = sFoot (c + k) s.ch) := by
            rw [bstr_list, bstr_list, Bool.eq_iff_iff]; simp
          by_cases heq : rest.take 48 = sFoot (c + k) s.ch
          · rw [decide_eq_true heq] at hq48
            have HPZ : Hid (sParse b (n : Int) (c : Int) ch = ⟨true, s.ts, s.ch, true, u + 48⟩) := Lib.hid (by
              rw [HP.out, HS.out, exit_eq (x := true) (sStep_foot b s (c + k) s.ch (rest.drop 48) (by rw [Hu.out, Hrest.out, ← heq, List.take_append_drop])) (by unfold sSealed; rw [Hu.out, Hrest.out, Hk.out]; exact decide_eq_true heq), Hu.out]
              rfl)
            clear heq
            generalize bstr (rest.take 48) = B48 at *
            generalize bstr (sFoot (c + k) s.ch) = BF at *
            have HLt : Hid (w.heap.size ≠ q) := Lib.hid (by have := HI5.out.qge; have := HG2.out.lt; omega)
            have HA5 : Hid (At4 w5 q 112 (.slice at' k ct) (strV s.ch) (.bool false) (.int .i64 (u : Int))) := by
              refine Lib.hid ?_
              have := HI5.out.at_
              rw [Hu.out] at this
              exact this
            have HG8 := Lib.hid (HG2.out.new HI5.out.new)
            obtain ⟨f0, f1, f2, f3⟩ := HA5.out.frozen
            obtain ⟨x0, x1, x2, x3⟩ := HA5.out.cells
            go_upto_region 10 with fail
            generalize hw10 : World.setCell w5 _ _ = w10
            have HA10 : Hid (At4 w10 q 112 (.slice at' k ct) (strV s.ch) (.bool true) (.int .i64 (u : Int))) := Lib.hid (by rw [← hw10]; exact HA5.out.set2 _)
            have HO10 : Hid (Only (fun k => k = q) w5 w10) := Lib.hid (by rw [← hw10]; exact only_cell _ _ _ _)
            clear hw10 x0 x1 x2 x3 f0 f1 f2 f3
            obtain ⟨f0, f1, f2, f3⟩ := HA10.out.frozen
            obtain ⟨x0, x1, x2, x3⟩ := HA10.out.cells
            go_upto_region 11 with fail
            generalize hw11 : World.setCell w10 _ _ = w11
            have HA11 : Hid (At4 w11 q 112 (.slice at' k ct) (strV s.ch) (.bool true) (.int .i64 ((u : Int) + 48))) := Lib.hid (by rw [← hw11]; exact HA10.out.set3 _)
            have HO11 : Hid (Only (fun k => k = q) w5 w11) := Lib.hid (by rw [← hw11]; exact HO10.out.setCell (p := ⟨q, 3, none⟩) (fun _ => rfl) _)
            have HG11 := Lib.hid (HG8.out.only HO11.out HLt.out)
            clear hw11 x0 x1 x2 x3 f0 f1 f2 f3 HA10 HO10 HG8 HA5
            obtain ⟨f0, f1, f2, f3⟩ := HG11.out.frozen
            obtain ⟨g0, g1, g2, g3⟩ := HG11.out.cells
            obtain ⟨x0, x1, x2, x3⟩ := HA11.out.cells
            go_wp2
            refine bodyPost_ret (results_cell_tmp rfl _ _ w.heap.size _ _ _ _ rfl (HG11.out.put _ _ _ _) Tryz.underlying112 rfl (by kernel_rfl)) rfl ?_
            rw [HPZ.out]
            obtain ⟨z1, z2, z3⟩ := HI5.out.out N2.out (Nat.le_refl _) HG2.out.lt ((HO11.out.mono (G := fun k => k = q ∨ k = w.heap.size) (fun _ _ h => .inl h)).trans ((At4.put_only w11 w.heap.size (.slice at' k ct) (strV s.ch) (.bool true) (.int .i64 ((u : Int) + 48))).mono (G := fun k => k = q ∨ k = w.heap.size) (fun _ _ h => .inr h)) (fun _ _ h => h))
            exact ⟨z1, _, _, _, rfl, z2, z3⟩
          · rw [decide_eq_false heq] at hq48
            have HSE : Hid (sSealed b c s = false) := Lib.hid (by unfold sSealed; rw [Hu.out, Hrest.out, Hk.out]; exact decide_eq_false heq)
            clear heq
            generalize bstr (rest.take 48) = B48 at *
            generalize bstr (sFoot (c + k) s.ch) = BF at *
            have HV := Lib.hid (refValue w5 (rest.take 4) (by rw [List.length_take]; omega))
            rw [HN0.out] at HV
            go_wp2_with fail
            refine HV.out.mono ?_
            rintro e w5' ⟨rfl, rfl⟩
            clear HV
            by_cases hn1 : n0 < 1
            · have hn1' : (n0 : Int) < 1 := by omega
              have HPZ : Hid (sParse b (n : Int) (c : Int) ch = ⟨true, s.ts, s.ch, false, u⟩) := Lib.hid (by rw [HP.out, HS.out, exit_eq (sStep_short (by rw [Hu.out, Hrest.out, HSL.out]; omega)) HSE.out, Hu.out]; rfl)
              have HIZ := HI5
              clear hn1
              have HG9 := Lib.hid (HG2.out.new HIZ.out.new)
              obtain ⟨f0, f1, f2, f3⟩ := HG9.out.frozen
              obtain ⟨g0, g1, g2, g3⟩ := HG9.out.cells
              obtain ⟨x0, x1, x2, x3⟩ := HIZ.out.cells Hu.out
              go_wp2
              refine bodyPost_ret (results_cell_tmp rfl _ _ w.heap.size _ _ _ _ rfl (HG9.out.put _ _ _ _) Tryz.underlying112 rfl (by kernel_rfl)) rfl ?_
              rw [HPZ.out]
              obtain ⟨z1, z2, z3⟩ := HIZ.out.out N2.out (Nat.le_refl _) HG2.out.lt ((At4.put_only _ w.heap.size _ _ _ _).mono (G := fun k => k = q ∨ k = w.heap.size) (fun _ _ h => .inr h))
              exact ⟨z1, _, _, _, rfl, z2, z3⟩
            have hn1' : ¬ (n0 : Int) < 1 := by omega
            by_cases hn2 : 65535 < n0
            · have hn2' : (65535 : Int) < (n0 : Int) := by omega
              have HPZ : Hid (sParse b (n : Int) (c : Int) ch = ⟨true, s.ts, s.ch, false, u⟩) := Lib.hid (by rw [HP.out, HS.out, exit_eq (sStep_short (by rw [Hu.out, Hrest.out, HSL.out]; omega)) HSE.out, Hu.out]; rfl)
              have HIZ := HI5
              clear hn2
              have HG9 := Lib.hid (HG2.out.new HIZ.out.new)
              obtain ⟨f0, f1, f2, f3⟩ := HG9.out.frozen
              obtain ⟨g0, g1, g2, g3⟩ := HG9.out.cells
              obtain ⟨x0, x1, x2, x3⟩ := HIZ.out.cells Hu.out
              go_wp2
              refine bodyPost_ret (results_cell_tmp rfl _ _ w.heap.size _ _ _ _ rfl (HG9.out.put _ _ _ _) Tryz.underlying112 rfl (by kernel_rfl)) rfl ?_
              rw [HPZ.out]
              obtain ⟨z1, z2, z3⟩ := HIZ.out.out N2.out (Nat.le_refl _) HG2.out.lt ((At4.put_only _ w.heap.size _ _ _ _).mono (G := fun k => k = q ∨ k = w.heap.size) (fun _ _ h => .inr h))
              exact ⟨z1, _, _, _, rfl, z2, z3⟩
            have hn2' : ¬ (65535 : Int) < (n0 : Int) := by omega
            by_cases hn3 : m < n0 + 40
            · have hn3' : (m : Int) < (n0 : Int) + 40 := by omega
              have HPZ : Hid (sParse b (n : Int) (c : Int) ch = ⟨true, s.ts, s.ch, false, u⟩) := Lib.hid (by rw [HP.out, HS.out, exit_eq (sStep_end (by rw [Hu.out, Hrest.out, HSL.out, Hl.out]; omega)) HSE.out, Hu.out]; rfl)
              have HIZ := HI5
              clear hn3
              have HG9 := Lib.hid (HG2.out.new HIZ.out.new)
              obtain ⟨f0, f1, f2, f3⟩ := HG9.out.frozen
              obtain ⟨g0, g1, g2, g3⟩ := HG9.out.cells
              obtain ⟨x0, x1, x2, x3⟩ := HIZ.out.cells Hu.out
              go_wp2
              refine bodyPost_ret (results_cell_tmp rfl _ _ w.heap.size _ _ _ _ rfl (HG9.out.put _ _ _ _) Tryz.underlying112 rfl (by kernel_rfl)) rfl ?_
              rw [HPZ.out]
              obtain ⟨z1, z2, z3⟩ := HIZ.out.out N2.out (Nat.le_refl _) HG2.out.lt ((At4.put_only _ w.heap.size _ _ _ _).mono (G := fun k => k = q ∨ k = w.heap.size) (fun _ _ h => .inr h))
              exact ⟨z1, _, _, _, rfl, z2, z3⟩
            have hn3' : ¬ (m : Int) < (n0 : Int) + 40 := by omega
            obtain ⟨t, Ht⟩ : ∃ t, Hid ((rest.drop 4).take n0 = t) := ⟨_, Lib.hid rfl⟩
            have htl : t.length = n0 := by rw [← Ht.out, List.length_take, List.length_drop, Hl.out]; omega
            have HF13 := Lib.hid (fun wx => refFrame13 wx s.ch t (by rw [htl]; omega) (by rw [HI5.out.len]; decide))
            have HT : Hid (t.length = n0 ∧ 1 ≤ n0) := Lib.hid ⟨htl, by omega⟩
            have hxt : (bstr rest).extract 4 (4 + n0) = bstr t := by
              rw [bstr_cut, ← Ht.out]; congr 2; omega
            have hxf : (bstr rest).extract 0 (n0 + 40) = bstr (rest.take (n0 + 40)) := bstr_to rest (n0 + 40)
            have hqf : ((bstr (rest.take (n0 + 40))).toList == (bstr (sFrame s.ch t)).toList) = decide (rest.take (n0 + 40) = sFrame s.ch t) := by
              rw [bstr_list, bstr_list, Bool.eq_iff_iff]; simp
            have HST : Hid (sStep b s = if rest.take (n0 + 40) = sFrame s.ch t then some ⟨s.ts ++ [t], sNext s.ch t, s.used + (t.length + 40)⟩ else none) := by
              refine Lib.hid ?_
              unfold sStep sFirst
              rw [Hu.out, Hrest.out, HSL.out, Ht.out, Hl.out]
              by_cases hq : rest.take (n0 + 40) = sFrame s.ch t
              · rw [if_pos hq, if_pos ⟨by omega, by omega, by omega, hq⟩]; rfl
              · rw [if_neg hq, if_neg (fun hh => hq hh.2.2.2)]; rfl
            clear htl hn1 hn2 hn3
            have N6 : New w5 w5.drew := (Below.refl _ _).drew
            have HI6 := Lib.hid (HI5.out.more N6)
            have HC6 : Hid (CellsR q (.slice at' k ct) (strV s.ch) u w5.drew) := Lib.hid (HI6.out.cells Hu.out)
            clear N6 HI5
            have hni : (n0 : Int) ≤ 65535 := by omega
            obtain ⟨n4, Hn4⟩ : ∃ n4, Hid (4 + n0 = n4) := ⟨_, Lib.hid rfl⟩
            have hwr : IntKind.i64.wrap (4 + (n0 : Int)) = (n4 : Int) := by have := Hn4.out; rw [IntWalk.i64_in _ (by omega)]; omega
            have hi1 : (4 : Int) ≤ (n4 : Int) := by have := Hn4.out; omega
            have hi2 : (n4 : Int) ≤ (m : Int) := by have := Hn4.out; omega
            rw [Hn4.out] at hxt
            go_wp2
            refine region_ord (CellsR q (.slice at' k ct) (strV s.ch) u) [(0, true), (1, true), (2, true), (3, true), (4, true), (5, true), (6, false), (7, true), (8, true), (9, true), (10, true), (11, true)] (by kernel_rfl) (by kernel_rfl) HC6.out (fun _ => ?_)
            generalize w5.drew = w6 at *
            clear HC6
            unfold CellsR
            iterate 6 (apply ord_take; (simp only [List.getElem?_toArray, List.getElem?_cons_succ, List.getElem?_cons_zero]; rfl); rfl; (intro w hSw; (try dsimp only at hSw); go_simp; try with_reducible rfl); intro _; try simp only [Act.put, List.setIfInBounds_toArray, List.set_cons_zero, List.set_cons_succ])
            (apply ord_only; (simp only [List.getElem?_toArray, List.getElem?_cons_succ, List.getElem?_cons_zero]; rfl); rfl; intro K hK)
            go_simp
            refine (HF13.out w6).mono ?_
            rintro e w7 ⟨rfl, N7⟩
            have HI7 := Lib.hid (HI6.out.more N7)
            clear N7 HI6 HF13
            refine hK.out _ _ (HI7.out.cells Hu.out) (fun _ => ?_)
            clear hK K
            try simp only [Act.put, List.setIfInBounds_toArray, List.set_cons_zero, List.set_cons_succ]
            iterate 5 (apply ord_take; (simp only [List.getElem?_toArray, List.getElem?_cons_succ, List.getElem?_cons_zero]; rfl); rfl; (intro w hSw; (try dsimp only at hSw); go_simp; try with_reducible rfl); intro _; try simp only [Act.put, List.setIfInBounds_toArray, List.set_cons_zero, List.set_cons_succ])
            apply ord_done
            by_cases hq : rest.take (n0 + 40) = sFrame s.ch t
            · rw [decide_eq_true hq] at hqf
              have HST2 : Hid (sStep b s = some ⟨s.ts ++ [t], sNext s.ch t, s.used + (t.length + 40)⟩) := Lib.hid (by rw [HST.out, if_pos hq])
              clear hq HST
              generalize bstr (rest.take (n0 + 40)) = BX at *
              generalize bstr (sFrame s.ch t) = BY at *
              have N8 : New w7 w7.drew := (Below.refl _ _).drew
              have HI8 := Lib.hid (HI7.out.more N8)
              clear N8 HI7
              go_wp2
              refine region_ordT (fun _ => True) (.take 0 (.take 2 (.take 3 (.take 4 (.take 5 (.two 1 6 (.only 6 (.only 7 (.take 8 (.only 9 .nil)))) (.only 1 (.only 7 (.take 8 (.only 9 .nil)))))))))) (by kernel_rfl) (by kernel_rfl) trivial (fun _ => ?_)
              generalize w7.drew = w8 at *
              iterate 5 (apply ordT_take; (simp only [List.getElem?_toArray, List.getElem?_cons_succ, List.getElem?_cons_zero]; rfl); rfl; (intro w hSw; (try dsimp only at hSw); go_simp; try with_reducible rfl); intro _; try simp only [Act.put, List.setIfInBounds_toArray, List.set_cons_zero, List.set_cons_succ])
              clear hwr hqf hx1 hx4 hx48 hxf hwn
              obtain ⟨i0, hi0, hz0, hz1, hz2⟩ := info_parts infoStr
              obtain ⟨v', wa, happ, hown', hO', hb', hlt'⟩ := run_append_u (P := Tryz.prog) w2.heap.size w8 28 28 9 i0 _ 16 Tryz.underlying28 hi0 hz0 hz1 hz2 rfl _ s.ts.length (s.ts.map strV) HI8.out.own (.string (bstr t)) rfl (by rw [Hk.out]; omega) (by rw [Hk.out]; omega) HI8.out.new.size
              obtain ⟨a', cap', rfl, -, -⟩ := ownSl_form hown'
              have HAPP := Lib.hid happ
              have HPU := Lib.hid (HI8.out.push HST2.out rfl (sNext_length _ _) hown' hO' hb' hlt')
              have HAa : Hid (At4 wa q 112 (.slice at' k ct) (strV s.ch) (.bool false) (.int .i64 (u : Int))) := by
                refine Lib.hid ?_
                have := HI8.out.at_.only hO' (fun hk => (HI8.out.tq q hk).1 rfl)
                rw [Hu.out] at this
                exact this
              rw [Hk.out] at HAPP HPU
              clear happ hown' hO' hb' hlt' hi0 hz0 hz1 hz2
              (apply ordT_two; (simp only [List.getElem?_toArray, List.getElem?_cons_succ, List.getElem?_cons_zero]; rfl); rfl; (simp only [List.getElem?_toArray, List.getElem?_cons_succ, List.getElem?_cons_zero]; rfl); rfl)
              · intro K hK
                obtain ⟨c0, -⟩ := HI8.out.cells Hu.out
                go_simp
                clear c0
                refine hK.out _ _ (trivial) (fun _ => ?_)
                clear hK K
                try simp only [Act.put, List.setIfInBounds_toArray, List.set_cons_zero, List.set_cons_succ]
                (apply ordT_only; (simp only [List.getElem?_toArray, List.getElem?_cons_succ, List.getElem?_cons_zero]; rfl); rfl; intro K hK)
                go_simp
                refine hK.out _ _ (trivial) (fun _ => ?_)
                clear hK K
                try simp only [Act.put, List.setIfInBounds_toArray, List.set_cons_zero, List.set_cons_succ]
                (apply ordT_only; (simp only [List.getElem?_toArray, List.getElem?_cons_succ, List.getElem?_cons_zero]; rfl); rfl; intro K hK)
                refine oper_append _ _ 28 rfl _ _ rfl rfl HAPP.out ?_
                refine hK.out _ _ (trivial) (fun _ => ?_)
                clear hK K
                try simp only [Act.put, List.setIfInBounds_toArray, List.set_cons_zero, List.set_cons_succ]
                iterate 1 (apply ordT_take; (simp only [List.getElem?_toArray, List.getElem?_cons_succ, List.getElem?_cons_zero]; rfl); rfl; (intro w hSw; (try dsimp only at hSw); go_simp; try with_reducible rfl); intro _; try simp only [Act.put, List.setIfInBounds_toArray, List.set_cons_zero, List.set_cons_succ])
                (apply ordT_only; (simp only [List.getElem?_toArray, List.getElem?_cons_succ, List.getElem?_cons_zero]; rfl); rfl; intro K hK)
                obtain ⟨f0, f1, f2, f3⟩ := HAa.out.frozen
                obtain ⟨y0, y1, y2, y3⟩ := HAa.out.cells
                go_simp
                refine hK.out _ _ (trivial) (fun _ => ?_)
                clear hK K
                try simp only [Act.put, List.setIfInBounds_toArray, List.set_cons_zero, List.set_cons_succ]
                apply ordT_done
                go_wp2
                have hE := HPU.out
                have hcast : (((⟨s.ts ++ [t], sNext s.ch t, s.used + (t.length + 40)⟩ : SegS).used : Nat) : Int) = (u : Int) + ((n0 : Int) + 40) := by
                  show ((s.used + (t.length + 40) : Nat) : Int) = _
                  rw [Hu.out, HT.out.1]
                  omega
                rw [hcast] at hE
                have hlt := sStep_lt HST2.out
                refine ⟨⟨_, _, by rw [HS.out, sAll_some HST2.out], hE⟩, ?_⟩
                rw [hE.usedAt, HM.out]
                omega
              · intro K hK
                go_simp
                refine hK.out _ _ (trivial) (fun _ => ?_)
                clear hK K
                try simp only [Act.put, List.setIfInBounds_toArray, List.set_cons_zero, List.set_cons_succ]
                (apply ordT_only; (simp only [List.getElem?_toArray, List.getElem?_cons_succ, List.getElem?_cons_zero]; rfl); rfl; intro K hK)
                obtain ⟨c0, -⟩ := (HI8.out.more (w2 := w8.alloc (.cells #[.string (bstr t)] 9)) ((Below.refl _ _).alloc (Nat.le_refl _) _)).cells Hu.out
                go_simp
                clear c0
                refine hK.out _ _ (trivial) (fun _ => ?_)
                clear hK K
                try simp only [Act.put, List.setIfInBounds_toArray, List.set_cons_zero, List.set_cons_succ]
                (apply ordT_only; (simp only [List.getElem?_toArray, List.getElem?_cons_succ, List.getElem?_cons_zero]; rfl); rfl; intro K hK)
                refine oper_append _ _ 28 rfl _ _ rfl rfl HAPP.out ?_
                refine hK.out _ _ (trivial) (fun _ => ?_)
                clear hK K
                try simp only [Act.put, List.setIfInBounds_toArray, List.set_cons_zero, List.set_cons_succ]
                iterate 1 (apply ordT_take; (simp only [List.getElem?_toArray, List.getElem?_cons_succ, List.getElem?_cons_zero]; rfl); rfl; (intro w hSw; (try dsimp only at hSw); go_simp; try with_reducible rfl); intro _; try simp only [Act.put, List.setIfInBounds_toArray, List.set_cons_zero, List.set_cons_succ])
                (apply ordT_only; (simp only [List.getElem?_toArray, List.getElem?_cons_succ, List.getElem?_cons_zero]; rfl); rfl; intro K hK)
                obtain ⟨f0, f1, f2, f3⟩ := HAa.out.frozen
                obtain ⟨y0, y1, y2, y3⟩ := HAa.out.cells
                go_simp
                refine hK.out _ _ (trivial) (fun _ => ?_)
                clear hK K
                try simp only [Act.put, List.setIfInBounds_toArray, List.set_cons_zero, List.set_cons_succ]
                apply ordT_done
                go_wp2
                have hE := HPU.out
                have hcast : (((⟨s.ts ++ [t], sNext s.ch t, s.used + (t.length + 40)⟩ : SegS).used : Nat) : Int) = (u : Int) + ((n0 : Int) + 40) := by
                  show ((s.used + (t.length + 40) : Nat) : Int) = _
                  rw [Hu.out, HT.out.1]
                  omega
                rw [hcast] at hE
                have hlt := sStep_lt HST2.out
                refine ⟨⟨_, _, by rw [HS.out, sAll_some HST2.out], hE⟩, ?_⟩
                rw [hE.usedAt, HM.out]
                omega
            · rw [decide_eq_false hq] at hqf
              have HPZ : Hid (sParse b (n : Int) (c : Int) ch = ⟨true, s.ts, s.ch, false, u⟩) := Lib.hid (by rw [HP.out, HS.out, exit_eq (by rw [HST.out, if_neg hq]) HSE.out, Hu.out]; rfl)
              have HIZ := HI7
              clear hq HST
              generalize bstr (rest.take (n0 + 40)) = BX at *
              generalize bstr (sFrame s.ch t) = BY at *
              have HG9 := Lib.hid (HG2.out.new HIZ.out.new)
              obtain ⟨f0, f1, f2, f3⟩ := HG9.out.frozen
              obtain ⟨g0, g1, g2, g3⟩ := HG9.out.cells
              obtain ⟨x0, x1, x2, x3⟩ := HIZ.out.cells Hu.out
              go_wp2
              refine bodyPost_ret (results_cell_tmp rfl _ _ w.heap.size _ _ _ _ rfl (HG9.out.put _ _ _ _) Tryz.underlying112 rfl (by kernel_rfl)) rfl ?_
              rw [HPZ.out]
              obtain ⟨z1, z2, z3⟩ := HIZ.out.out N2.out (Nat.le_refl _) HG2.out.lt ((At4.put_only _ w.heap.size _ _ _ _).mono (G := fun k => k = q ∨ k = w.heap.size) (fun _ _ h => .inr h))
              exact ⟨z1, _, _, _, rfl, z2, z3⟩
      · rw [decide_eq_false h3] at hq
        have HF : Hid (sParse b (n : Int) (c : Int) ch = ⟨false, [], [], false, 0⟩) := Lib.hid (if_neg (by rintro ⟨-, -, h⟩; rw [HHd.out] at h; exact h3 h))
        clear h3
        generalize bstr (b.take 128) = B128 at *
        generalize bstr (sHead n c ch) = BHd at *
        refine region_ord (fun _ => True) [(0, true), (1, true), (2, true), (3, true), (4, true), (5, true), (6, true), (7, true), (8, true), (9, true), (10, true), (11, true), (12, true), (13, true), (14, true), (15, false), (16, true), (17, true)] (by kernel_rfl) (by kernel_rfl) trivial (fun _ => ?_)
        generalize w1.drew = wd at *
        iterate 15 (apply ord_take; (simp only [List.getElem?_toArray, List.getElem?_cons_succ, List.getElem?_cons_zero]; rfl); rfl; (intro w hSw; (try dsimp only at hSw); go_simp; try with_reducible rfl); intro _; try simp only [Act.put, List.setIfInBounds_toArray, List.set_cons_zero, List.set_cons_succ])
        (apply ord_only; (simp only [List.getElem?_toArray, List.getElem?_cons_succ, List.getElem?_cons_zero]; rfl); rfl; intro K hK)
        go_simp
        refine (HH.out wd).mono ?_
        rintro e w2 ⟨rfl, M2⟩
        replace N2 := Lib.hid (New.trans N2.out M2)
        replace HG2 := Lib.hid (HG2.out.new M2)
        clear M2 HH
        refine hK.out _ _ (trivial) (fun _ => ?_)
        clear hK K
        try simp only [Act.put, List.setIfInBounds_toArray, List.set_cons_zero, List.set_cons_succ]
        iterate 2 (apply ord_take; (simp only [List.getElem?_toArray, List.getElem?_cons_succ, List.getElem?_cons_zero]; rfl); rfl; (intro w hSw; (try dsimp only at hSw); go_simp; try with_reducible rfl); intro _; try simp only [Act.put, List.setIfInBounds_toArray, List.set_cons_zero, List.set_cons_succ])
        apply ord_done
        obtain ⟨f0, f1, f2, f3⟩ := HG2.out.frozen
        obtain ⟨g0, g1, g2, g3⟩ := HG2.out.cells
        go_wp2
        refine bodyPost_ret (results_cell_tmp rfl _ _ w.heap.size _ _ _ _ rfl (HG2.out.put _ _ _ _) Tryz.underlying112 rfl (by kernel_rfl)) rfl ?_
        rw [HF.out]
        refine ⟨Below.trans N2.out ((At4.put_only _ _ _ _ _ _).below N2.out.size (fun k hk => by subst hk; exact Nat.le_refl _)), _, _, _, rfl, RdV.nil _, fun k hk => by simp [blk] at hk⟩
  · have h2' : ((r : Int) != 0) = true := by simp; omega
    have h2'' : ¬ (r : Int) = 0 := by omega
    have HF : Hid (sParse b (n : Int) (c : Int) ch = ⟨false, [], [], false, 0⟩) := Lib.hid (if_neg (by rw [HB.out, HR0.out]; omega))
    clear h2
    refine region_ord (fun _ => True) [(0, true), (1, true), (2, true), (3, true), (4, true), (5, true), (6, true), (7, true), (8, true), (9, true), (10, true), (11, true), (12, true), (13, true), (14, true), (15, false), (16, true), (17, true)] (by kernel_rfl) (by kernel_rfl) trivial (fun _ => ?_)
    generalize w1.drew = w2 at *
    iterate 5 (apply ord_take; (simp only [List.getElem?_toArray, List.getElem?_cons_succ, List.getElem?_cons_zero]; rfl); rfl; (intro w hSw; (try dsimp only at hSw); go_simp; try with_reducible rfl); intro _; try simp only [Act.put, List.setIfInBounds_toArray, List.set_cons_zero, List.set_cons_succ])
    iterate 3 (apply ord_skip; (simp only [List.getElem?_toArray, List.getElem?_cons_succ, List.getElem?_cons_zero]; rfl); rfl; intro _; try simp only [Act.put, List.setIfInBounds_toArray, List.set_cons_zero, List.set_cons_succ])
    iterate 2 (apply ord_take; (simp only [List.getElem?_toArray, List.getElem?_cons_succ, List.getElem?_cons_zero]; rfl); rfl; (intro w hSw; (try dsimp only at hSw); go_simp; try with_reducible rfl); intro _; try simp only [Act.put, List.setIfInBounds_toArray, List.set_cons_zero, List.set_cons_succ])
    iterate 5 (apply ord_skip; (simp only [List.getElem?_toArray, List.getElem?_cons_succ, List.getElem?_cons_zero]; rfl); rfl; intro _; try simp only [Act.put, List.setIfInBounds_toArray, List.set_cons_zero, List.set_cons_succ])
    (apply ord_pass; (simp only [List.getElem?_toArray, List.getElem?_cons_succ, List.getElem?_cons_zero]; rfl); rfl; intro _; try simp only [Act.put, List.setIfInBounds_toArray, List.set_cons_zero, List.set_cons_succ])
    (apply ord_skip; (simp only [List.getElem?_toArray, List.getElem?_cons_succ, List.getElem?_cons_zero]; rfl); rfl; intro _; try simp only [Act.put, List.setIfInBounds_toArray, List.set_cons_zero, List.set_cons_succ])
    (apply ord_take; (simp only [List.getElem?_toArray, List.getElem?_cons_succ, List.getElem?_cons_zero]; rfl); rfl; (intro w hSw; (try dsimp only at hSw); go_simp; try with_reducible rfl); intro _; try simp only [Act.put, List.setIfInBounds_toArray, List.set_cons_zero, List.set_cons_succ])
    apply ord_done
    obtain ⟨f0, f1, f2, f3⟩ := HG2.out.frozen
    obtain ⟨g0, g1, g2, g3⟩ := HG2.out.cells
    go_wp2
    refine bodyPost_ret (results_cell_tmp rfl _ _ w.heap.size _ _ _ _ rfl (HG2.out.put _ _ _ _) Tryz.underlying112 rfl (by kernel_rfl)) rfl ?_
    rw [HF.out]
    refine ⟨Below.trans N2.out ((At4.put_only _ _ _ _ _ _).below N2.out.size (fun k hk => by subst hk; exact Nat.le_refl _)), _, _, _, rfl, RdV.nil _, fun k hk => by simp [blk] at hk⟩

theorem refParse13 (w : World) (b ch : List UInt8) (n c : Nat) (hb : b.length ≤ 1000000) (hc : ch.length = 32) (hn : n < 4294967296) (hcn : c < 9223372036854775808) :
    Calls Tryz.prog 73 #[.string (bstr b), .int .i64 n, .int .i64 c, .string (bstr ch)] w (RParseTo w (sParse b (n : Int) (c : Int) ch)) := by
  refine (refParse13N w b ch n c hb hc hn hcn).mono ?_
  rintro e w' ⟨h1, a, k, c, h2, h3, -⟩
  exact ⟨h1, a, k, c, h2, h3⟩

end Go.Proofs.YtijkmpcgkhijgaaGreatDoor
