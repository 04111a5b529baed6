/-
  The reference's log of layer 15: Begins, end, Told.
  The reference's Told of layer 15.
  The reference's Open of layer 15.
-/
import Derived.Test.YtijkmpcgkhijgaaGreatDoorRefSegA
import Derived.Test.YtijkmpcgkhijgaaGreatDoorRefTxt
import Derived.Test.YtijkmpcgkhijgaaGreatDoorLogP
import Derived.Test.YtijkmpcgkhijgaaGreatDoorCellN
import Derived.Test.YtijkmpcgkhijgaaGreatDoorAppAny
import Derived.Test.YtijkmpcgkhijgaaGreatDoorRefDskA
import Derived.Test.YtijkmpcgkhijgaaGreatDoorBase
import Derived.Test.YtijkmpcgkhijgaaGreatDoorWays
namespace Go.Proofs.YtijkmpcgkhijgaaGreatDoor
set_option linter.unusedVariables false
set_option linter.unusedSimpArgs false
open Go.RowKit

/-- does the list l begin with m? -/
def beginsL (l m : List (List UInt8)) : Bool := decide (l.take m.length = m)

theorem beginsL_no {l m : List (List UInt8)} {k : Nat} (hk : k < m.length) (hkl : k < l.length) (h : l[k] ≠ m[k]) : beginsL l m = false := by
  refine decide_eq_false (fun e => h ?_)
  have h1 : (l.take m.length)[k]? = m[k]? := by rw [e]
  rw [List.getElem?_take, if_pos hk, List.getElem?_eq_getElem hkl, List.getElem?_eq_getElem hk] at h1
  exact Option.some.inj h1

theorem beginsL_short {l m : List (List UInt8)} (h : l.length < m.length) : beginsL l m = false := by
  refine decide_eq_false (fun e => ?_)
  have := congrArg List.length e
  rw [List.length_take] at this
  omega

theorem beginsL_yes {l m : List (List UInt8)} (h : m.length ≤ l.length) (h2 : l.take m.length = m.take m.length) : beginsL l m = true := by
  refine decide_eq_true ?_
  rw [h2, List.take_length]

def TwoStr2 (b1 o1 b2 o2 k : Nat) (S T : ByteArray) (w : World) : Prop := w.cell? ⟨b1, o1 + k, none⟩ = some (.string S) ∧ w.cell? ⟨b2, o2 + k, none⟩ = some (.string T)

set_option maxRecDepth 100000 in
set_option maxHeartbeats 1000000 in
theorem refBegins (w : World) (x y : Value) (l m : List (List UInt8)) (hx : RdV w x (l.map strV)) (hy : RdV w y (m.map strV)) (hl : l.length ≤ 1099511627776) (hm : m.length ≤ 1099511627776) :
    Calls Tryz.prog 23 #[x, y] w fun e w' => e = .returned (.bool (beginsL l m)) ∧ New w w' := by
  have HX := Lib.hid hx
  have HY := Lib.hid hy
  obtain ⟨ax, nx, cx, rfl, hnx, hlex, hmx, -⟩ := hx
  obtain ⟨ay, ny, cy, rfl, hny, hley, hmy, -⟩ := hy
  rw [List.length_map] at hnx hny
  subst hnx hny
  by_cases hs : l.length < m.length
  · have HR : Hid (beginsL l m = false) := Lib.hid (beginsL_short hs)
    go_enter Tryz.func23, Tryz.ntmps23
    go_wp2
    go_ret
    exact ⟨by rw [HR.out]; rfl, Below.refl _ _⟩
  have hlm : m.length ≤ l.length := by omega
  go_enter Tryz.func23, Tryz.ntmps23
  go_wp2
  go_loopw [5] (fun i wr => ∃ k : Nat, k ≤ m.length ∧ i = .int .i64 k ∧ New w wr ∧ l.take k = m.take k) (fun i _ => m.length - (intOf i).toNat)
  case atStart => exact ⟨0, Nat.zero_le _, rfl, Below.refl _ _, rfl⟩
  case round =>
    obtain ⟨k, hk, rfl, hnew, heq⟩ := hrel
    have HEq := Lib.hid heq
    clear heq
    by_cases hlt : k < m.length
    · have hkl : k < l.length := by omega
      have hli : (k : Int) < (m.length : Int) := by omega
      have hli2 : (k : Int) < (l.length : Int) := by omega
      have N1 : New w wr.drew := hnew.drew
      obtain ⟨b1, o1, rfl, hc1⟩ := (HX.out.new N1).cell (by omega)
      obtain ⟨b2, o2, rfl, hc2⟩ := (HY.out.new N1).cell (by omega)
      have g1 := hc1 k (strV l[k]) (by rw [List.getElem?_map, List.getElem?_eq_getElem hkl]; rfl)
      have g2 := hc2 k (strV m[k]) (by rw [List.getElem?_map, List.getElem?_eq_getElem hlt]; rfl)
      have HC : Hid (TwoStr2 b1 o1 b2 o2 k (bstr l[k]) (bstr m[k]) wr.drew) := Lib.hid ⟨g1, g2⟩
      have HN := Lib.hid N1
      have hq : ((bstr l[k]).toList == (bstr m[k]).toList) = decide (l[k] = m[k]) := by
        rw [bstr_list, bstr_list, Bool.eq_iff_iff]; simp
      by_cases he : l[k] = m[k]
      · rw [decide_eq_true he] at hq
        have HE2 : Hid (l.take (k + 1) = m.take (k + 1)) := Lib.hid (by rw [List.take_succ_eq_append_getElem hkl, List.take_succ_eq_append_getElem hlt, HEq.out, he])
        generalize bstr l[k] = S1 at *
        generalize bstr m[k] = S2 at *
        clear hc1 hc2 g1 g2 hnew N1 he HEq
        go_wp2
        refine region_ord (TwoStr2 b1 o1 b2 o2 k S1 S2) [(0, true), (1, true), (2, true), (3, true), (4, true), (5, true), (6, true), (7, true), (8, true)] (by kernel_rfl) (by kernel_rfl) HC.out (fun _ => ?_)
        generalize wr.drew = w1 at *
        unfold TwoStr2
        iterate 9 (apply ord_take; (simp only [List.getElem?_toArray, List.getElem?_cons_succ, List.getElem?_cons_zero]; rfl); rfl; (intro w hSw; (try dsimp only at hSw); go_simp; try with_reducible rfl); intro _; try simp only [Act.put, List.setIfInBounds_toArray, List.set_cons_zero, List.set_cons_succ])
        apply ord_done
        go_wp2
        go_roundw
        case rel => exact ⟨k + 1, by omega, by go_num, HN.out, HE2.out⟩
        case measure => simp [intOf]; omega
      · rw [decide_eq_false he] at hq
        have HR : Hid (beginsL l m = false) := Lib.hid (beginsL_no hlt hkl he)
        generalize bstr l[k] = S1 at *
        generalize bstr m[k] = S2 at *
        clear hc1 hc2 g1 g2 hnew N1 he HEq
        go_wp2
        refine region_ord (TwoStr2 b1 o1 b2 o2 k S1 S2) [(0, true), (1, true), (2, true), (3, true), (4, true), (5, true), (6, true), (7, true), (8, true)] (by kernel_rfl) (by kernel_rfl) HC.out (fun _ => ?_)
        generalize wr.drew = w1 at *
        unfold TwoStr2
        iterate 9 (apply ord_take; (simp only [List.getElem?_toArray, List.getElem?_cons_succ, List.getElem?_cons_zero]; rfl); rfl; (intro w hSw; (try dsimp only at hSw); go_simp; try with_reducible rfl); intro _; try simp only [Act.put, List.setIfInBounds_toArray, List.set_cons_zero, List.set_cons_succ])
        apply ord_done
        go_wp2
        go_ret
        exact ⟨by rw [HR.out]; rfl, HN.out⟩
    · obtain rfl : k = m.length := by omega
      have HR : Hid (beginsL l m = true) := Lib.hid (beginsL_yes hlm HEq.out)
      clear hlt HEq
      go_wp2
      go_ret
      exact ⟨by rw [HR.out]; rfl, hnew⟩

/-- the cells of the reference's log -/
def rlgCells (dv : Value) (frm segs size : Int) (B : List UInt8) (s : LgS) (vT : Value) (clean sure : Int) (dead : Bool) : List Value :=
  [dv, .int .i64 frm, .int .i64 segs, .int .i64 size, strV B, .int .i64 (s.last : Int), .int .i64 (s.used : Int), .int .i64 clean, vT, strV s.ch, .int .i64 sure, .bool s.sealed, .bool dead]

/-- the reference's log in block gl, its texts from b0 on -/
structure RLg (w : World) (b0 gl : Nat) (dv : Value) (frm segs size : Int) (B : List UInt8) (s : LgS) (vT : Value) (clean sure : Int) (dead : Bool) : Prop where
  at_ : AtN w gl 58 (rlgCells dv frm segs size B s vT clean sure dead)
  oT : w.ownsRow b0 9 1 vT s.ts.length (s.ts.map strV)
  ge : b0 ≤ gl

section
variable {w w' : World} {b0 gl : Nat} {dv : Value} {frm segs size : Int} {B : List UInt8} {s : LgS} {vT : Value} {clean sure : Int} {dead : Bool}
theorem RLg.only {F : Nat → Prop} (h : RLg w b0 gl dv frm segs size B s vT clean sure dead) (ho : Only F w w') (hF : ∀ k, b0 ≤ k → ¬ F k) : RLg w' b0 gl dv frm segs size B s vT clean sure dead :=
  ⟨h.at_.only ho (hF _ h.ge), own_moreT h.oT (fun k hk hlt => ho.block k hlt (hF k (own_from h.oT k hk))), h.ge⟩
theorem RLg.new (h : RLg w b0 gl dv frm segs size B s vT clean sure dead) (hn : New w w') : RLg w' b0 gl dv frm segs size B s vT clean sure dead := h.only (New.only (F := fun _ => False) hn) (fun _ _ f => f)
end

/-- what end reads -/
def REnd (gl : Nat) (a b c : Int) (w : World) : Prop := w.cell? ⟨gl, 5, none⟩ = some (.int .i64 a) ∧ w.cell? ⟨gl, 3, none⟩ = some (.int .i64 b) ∧ w.cell? ⟨gl, 6, none⟩ = some (.int .i64 c)

set_option maxRecDepth 100000 in
set_option maxHeartbeats 1000000 in
theorem refEnd15 {w : World} {b0 gl : Nat} {dv : Value} {frm segs : Int} {size : Nat} {B : List UInt8} {s : LgS} {vT : Value} {clean sure : Int} {dead : Bool} (h : RLg w b0 gl dv frm segs (size : Int) B s vT clean sure dead) (hsz : 1 ≤ size) (hb : 128 * size * s.last + s.used ≤ 100000000) :
    Calls Tryz.prog 48 #[.pointer (some ⟨gl, 0, none⟩)] w fun e w' => e = .returned (.int .i64 ((128 * size * s.last + s.used : Nat) : Int)) ∧ New w w' := by
  have HC : Hid (REnd gl s.last size s.used w.drew) := Lib.hid ⟨h.at_.drew.cell 5 rfl, h.at_.drew.cell 3 rfl, h.at_.drew.cell 6 rfl⟩
  obtain ⟨x, hx⟩ : ∃ x, s.last = x := ⟨_, rfl⟩
  obtain ⟨u, hu⟩ : ∃ u, s.used = u := ⟨_, rfl⟩
  rw [hx, hu] at hb HC
  rw [hx, hu]
  obtain ⟨b, hb2⟩ : ∃ b, 128 * size * x = b := ⟨_, rfl⟩
  have hab : x * 128 ≤ b := by
    rw [← hb2, Nat.mul_comm x 128]
    exact Nat.mul_le_mul_right x (Nat.le_mul_of_pos_right 128 hsz)
  have e2 : (x : Int) * 128 * (size : Int) = (b : Int) := by
    rw [← hb2]; push_cast; rw [Int.mul_comm (x : Int) 128, Int.mul_assoc, Int.mul_comm (x : Int), ← Int.mul_assoc]
  rw [hb2] at hb
  rw [hb2]
  obtain ⟨a, ha⟩ : ∃ a, x * 128 = a := ⟨_, rfl⟩
  have e1 : (x : Int) * 128 = (a : Int) := by omega
  rw [e1] at e2
  rw [ha] at hab
  have hw1 : IntKind.i64.wrap ((x : Int) * 128) = (a : Int) := by rw [e1]; exact IntWalk.i64_in _ (by omega)
  have hw2 : IntKind.i64.wrap ((a : Int) * (size : Int)) = (b : Int) := by rw [e2]; exact IntWalk.i64_in _ (by omega)
  have hw3 : IntKind.i64.wrap ((b : Int) + (u : Int)) = ((b + u : Nat) : Int) := by rw [IntWalk.i64_in _ (by omega)]; omega
  clear ha hb2 h hx hu e1 e2 hab
  go_enter Tryz.func48, Tryz.ntmps48
  go_upto_region 1 with fail
  have N1 : New w w.drew := (Below.refl _ _).drew
  refine region_ord (REnd gl x size u) [(0, true), (1, true), (2, true), (3, true), (4, true), (5, true), (6, true), (7, true), (8, true), (9, true), (10, true), (11, true), (12, true), (13, true), (14, true), (15, true)] (by kernel_rfl) (by kernel_rfl) HC.out (fun _ => ?_)
  generalize w.drew = w1 at *
  unfold REnd
  iterate 16 (apply ord_take; (simp only [List.getElem?_toArray, List.getElem?_cons_succ, List.getElem?_cons_zero]; rfl); rfl; (intro w hSw; (try dsimp only at hSw); go_simp; try with_reducible rfl); intro _; try simp only [Act.put, List.setIfInBounds_toArray, List.set_cons_zero, List.set_cons_succ])
  apply ord_done
  go_wp2
  go_ret
  exact ⟨rfl, N1⟩

end Go.Proofs.YtijkmpcgkhijgaaGreatDoor

namespace Go.Proofs.YtijkmpcgkhijgaaGreatDoor
set_option linter.unusedVariables false
set_option linter.unusedSimpArgs false
open Go.RowKit

/-- append(append(e, w...), x...) where e's row is a new one of nothing -/
theorem app_cat {P : Program} (wx : World) (base : Nat) (t ty e : TypeId) (i : TypeInfo) (z : Value) (bytes : Nat) (ht : P.underlying t = some (.slice e)) (hi : P.info? e = some i) (hz : i.zero = some z)
    (hsize : i.size = 1) (hby : i.bytes = bytes) (hzs : z.cells.size = 1) (ve vx vw : Value) (us vs : List Value) (he : wx.ownsRow base e 1 ve 0 []) (hw : RdV wx vw vs) (hvs : ∀ u ∈ vs, u.oneCell' = true) (hx : RdV wx vx us) (hus : ∀ u ∈ us, u.oneCell' = true)
    (hne : ∀ k, blk vx = some k → us ≠ [] → blk ve ≠ some k) (hb : (vs.length + us.length) * bytes ≤ 140737488355328) (hn : vs.length + us.length ≤ 140737488355328) (hbase : base ≤ wx.heap.size) :
    ∃ v1 wa v2 wb, (Builtin.append_ #[t, t] ty #[ve, vw]).run P wx = .ok v1 wa ∧ (Builtin.append_ #[t, t] ty #[v1, vx]).run P wa = .ok v2 wb ∧ wb.ownsRow base e 1 v2 (vs.length + us.length) (vs ++ us) ∧ Below base wx wb ∧ Below base wx wa := by
  have hb' : (0 + vs.length) * bytes ≤ 140737488355328 := by
    rw [Nat.zero_add]; exact Nat.le_trans (Nat.mul_le_mul_right _ (Nat.le_add_right _ _)) hb
  obtain ⟨v1, wa, h1, h2, h3, h4⟩ := run_append_any (P := P) wx base t ty e i z bytes ht hi hz hsize hby hzs ve 0 [] he vw vs hw hvs hb' (by omega) hbase
  rw [Nat.zero_add, List.nil_append] at h2
  have hx' : RdV wa vx us := hx.only h3 (fun k hk hu h => hne k hk hu h)
  obtain ⟨v2, wb, k1, k2, k3, -⟩ := run_append_any (P := P) wa base t ty e i z bytes ht hi hz hsize hby hzs v1 vs.length vs h2 vx us hx' hus hb hn (Nat.le_trans hbase h3.size)
  refine ⟨v1, wa, v2, wb, h1, k1, k2, ?_, h3.below hbase (fun k hk => own_from he k hk)⟩
  exact Below.trans (h3.below hbase (fun k hk => own_from he k hk)) (k3.below (Nat.le_trans hbase h3.size) (fun k hk => own_from h2 k hk))

/-- what region 4 of Told reads -/
def RlC (gl : Nat) (B : ByteArray) (vT vc : Value) (w : World) : Prop := w.cell? ⟨gl, 4, none⟩ = some (.string B) ∧ w.cell? ⟨gl, 8, none⟩ = some vT ∧ w.cell? ⟨gl, 9, none⟩ = some vc
/-- what region 6 of Told reads -/
def RlP (gp : Nat) (v : Value) (w : World) : Prop := w.cell? ⟨gp, 0, none⟩ = some v

theorem one_str15 (l : List (List UInt8)) : ∀ u ∈ l.map strV, u.oneCell' = true := by
  intro u hu; obtain ⟨x, -, rfl⟩ := List.mem_map.1 hu; rfl

theorem own_low15 {w : World} {base base' : Nat} {e : TypeId} {size : Nat} {v : Value} {n : Nat} {xs : List Value} (h : w.ownsRow base e size v n xs) (hb : base' ≤ base) : w.ownsRow base' e size v n xs := by
  refine ⟨h.1, ?_⟩
  rcases h.2 with h0 | ⟨g, cap, cur, e1, h1, rest⟩
  · exact .inl h0
  · exact .inr ⟨g, cap, cur, e1, Nat.le_trans hb h1, rest⟩

set_option maxRecDepth 100000 in
set_option maxHeartbeats 4000000 in
theorem refTold {w : World} {b0 gl : Nat} {dv : Value} {frm : Int} {size n : Nat} {B : List UInt8} {s0 : LgS} {vT : Value} {clean sure : Int} {dead : Bool} (h : RLg w b0 gl dv frm (n : Int) (size : Int) B s0 vT clean sure dead) (hb0 : b0 ≤ w.heap.size) (hB : B.length = 128 * size * n) (hbz : 128 * size * n ≤ 1000000) (hsz : 1 ≤ size) (hc : s0.ch.length = 32) (ht : s0.ts = []) :
    Calls Tryz.prog 47 #[.pointer (some ⟨gl, 0, none⟩)] w fun e w' => e = .returned (.tuple #[]) ∧ ∃ vT', RLg w' b0 gl dv frm (n : Int) (size : Int) B (lgTold B (128 * size) n 0 s0) vT' clean sure dead ∧ Only (fun k => k = gl) w w' := by
  obtain ⟨segs, hsg⟩ : ∃ x, (n : Int) = x := ⟨_, rfl⟩
  obtain ⟨z, hz⟩ : ∃ z, 128 * size = z := ⟨_, rfl⟩
  rw [hz] at hB hbz
  rw [hz]
  have HBl := Lib.hid hB
  have HH := Lib.hid h
  have HB0 := Lib.hid hb0
  have hz1 : 128 * (size : Int) = (z : Int) := by omega
  obtain ⟨nB, hnB⟩ : ∃ nB, B.length = nB := ⟨_, rfl⟩
  have hzB : (bstr B).size = nB := by rw [bstr_size]; exact hnB
  rw [hnB] at hB
  have HI0 : Hid (s0.ch.length = 32 ∧ 41 * s0.ts.length ≤ z * 0) := Lib.hid ⟨hc, by rw [ht]; simp⟩
  have HBn := Lib.hid hB
  have HSG := Lib.hid hsg
  have HBZ := Lib.hid hbz
  have hnn : n ≤ 1000000 := Nat.le_trans (Nat.le_mul_of_pos_left n (by omega)) hbz
  have hnB6 : nB ≤ 1000000 := by omega
  clear h hb0 hnB hz hc ht hB hbz hsg
  go_enter Tryz.func47, Tryz.ntmps47
  go_upto_region 1 with fail
  go_loopw [2] (fun i wr => ∃ (j : Nat) (s : LgS) (vT : Value), j ≤ n ∧ i = .int .i64 j ∧ lgTold B z n 0 s0 = lgTold B z (n - j) j s ∧ (s.ch.length = 32 ∧ 41 * s.ts.length ≤ z * j) ∧ RLg wr b0 gl dv frm segs (size : Int) B s vT clean sure dead ∧ Only (fun k => k = gl) w wr) (fun i _ => n - (intOf i).toNat)
  case atStart => exact ⟨0, s0, _, Nat.zero_le _, rfl, rfl, HI0.out, by rw [← HSG.out]; exact HH.out, Only.refl _ _⟩
  case round =>
    obtain ⟨j, s, vT, hj, rfl, hT, hJ, hin, ho⟩ := hrel
    obtain ⟨aT, cT, rfl, -, -⟩ := ownSl_form hin.oT
    obtain ⟨nT, HnT⟩ : ∃ nT, Hid (s.ts.length = nT) := ⟨_, Lib.hid rfl⟩
    have HLg := Lib.hid hin
    rw [HnT.out] at HLg
    have HOn := Lib.hid ho
    have HJ := Lib.hid hJ
    clear hin ho hJ HH HI0
    have c2 := HLg.out.at_.cell 2 rfl
    rw [← HSG.out] at c2
    by_cases hlt : j < n
    · obtain ⟨m, hm⟩ : ∃ m, n - j = m + 1 := ⟨n - j - 1, by omega⟩
      have HT : Hid (lgTold B z n 0 s0 = lgTold B z (m + 1) j s) := Lib.hid (by rw [hT, hm])
      clear hT
      have hli : (j : Int) < (n : Int) := by omega
      have c3 := HLg.out.at_.cell 3 rfl
      have hzb : z ≤ 1000000 := Nat.le_trans (Nat.le_mul_of_pos_right z (by omega)) HBZ.out
      have hjz : z * (j + 1) ≤ nB := by rw [HBn.out]; exact Nat.mul_le_mul_left z hlt
      obtain ⟨p, hp⟩ : ∃ p, z * j = p := ⟨_, rfl⟩
      obtain ⟨p4, hp4⟩ : ∃ p4, p + z = p4 := ⟨_, rfl⟩
      rw [Nat.mul_succ, hp, hp4] at hjz
      have hpn : p4 ≤ 1000000 := by omega
      have hx : (bstr B).extract p p4 = bstr (lgSeg B z j) := by
        rw [bstr_cut]; unfold lgSeg; rw [hp, show p4 - p = z by omega]
      have hwm : IntKind.i64.wrap ((j : Int) * (z : Int)) = (p : Int) := by rw [Int.mul_comm, show (z : Int) * (j : Int) = (p : Int) by rw [← hp]; simp]; exact IntWalk.i64_in _ (by omega)
      have hwp : IntKind.i64.wrap ((p : Int) + (z : Int)) = (p4 : Int) := by rw [IntWalk.i64_in _ (by omega)]; omega
      have hi1 : (p : Int) ≤ (p4 : Int) := by omega
      have hi2 : (p4 : Int) ≤ (nB : Int) := by omega
      have htl : s.ts.length ≤ 1000000 := by have h1 := HJ.out.2; rw [hp] at h1; omega
      obtain ⟨P, HP⟩ : ∃ P, Hid (sParse (lgSeg B z j) (j : Int) (s.ts.length : Int) s.ch = P) := ⟨_, Lib.hid rfl⟩
      have HPa := Lib.hid (fun wx => refParse13N wx (lgSeg B z j) s.ch j s.ts.length (by rw [lgSeg_length HBl.out hlt]; exact hzb) HJ.out.1 (by omega) (by omega))
      rw [HP.out, HnT.out] at HPa
      have hp0 : p ≤ 1000000 := by omega
      have HMm := Lib.hid hm
      clear hp hp4 hm
      go_upto_region 4 with fail
      have ND : New wr wr.drew := (Below.refl _ _).drew
      refine region_ordT (RlC gl (bstr B) (.slice aT nT cT) (strV s.ch)) (.take 0 (.take 1 (.take 2 (.take 3 (.take 4 (.take 5 (.take 6 (.take 7 (.take 8 (.take 9 (.take 10 (.take 11 (.take 12 (.take 13 (.take 14 (.take 15 (.take 16 (.take 17 (.take 18 (.take 19 (.take 20 (.take 21 (.take 22 (.two 23 27 (.take 24 (.take 25 (.take 26 (.only 27 (.only 28 (.take 29 .nil)))))) (.only 23 (.take 24 (.take 25 (.take 26 (.only 28 (.take 29 .nil)))))))))))))))))))))))))))))) (by kernel_rfl) (by kernel_rfl) ⟨HLg.out.at_.drew.cell 4 rfl, HLg.out.at_.drew.cell 8 rfl, HLg.out.at_.drew.cell 9 rfl⟩ (fun _ => ?_)
      replace HLg := Lib.hid (HLg.out.new ND)
      replace HOn : Hid (Only (fun k => k = gl) w wr.drew) := Lib.hid HOn.out.drew
      clear ND c2 c3
      generalize wr.drew = wd at *
      unfold RlC
      iterate 23 (apply ordT_take; (simp only [List.getElem?_toArray, List.getElem?_cons_succ, List.getElem?_cons_zero]; rfl); rfl; (intro w hSw; (try dsimp only at hSw); go_simp; try with_reducible rfl); intro _; try simp only [Act.put, List.setIfInBounds_toArray, List.set_cons_zero, List.set_cons_succ])
      (apply ordT_two; (simp only [List.getElem?_toArray, List.getElem?_cons_succ, List.getElem?_cons_zero]; rfl); rfl; (simp only [List.getElem?_toArray, List.getElem?_cons_succ, List.getElem?_cons_zero]; rfl); rfl)
      · intro K hK
        go_simp
        refine (HPa.out wd).mono ?_
        rintro _ we ⟨Ne, a, nn, c, rfl, hr, hrn⟩
        replace HLg := Lib.hid (HLg.out.new Ne)
        replace HOn : Hid (Only (fun k => k = gl) w we) := Lib.hid (HOn.out.trans (New.only (F := fun k => k = gl) Ne) (fun _ _ h => h))
        have HRd := Lib.hid hr
        clear hr hrn Ne HPa
        refine hK.out _ _ (⟨HLg.out.at_.cell 4 rfl, HLg.out.at_.cell 8 rfl, HLg.out.at_.cell 9 rfl⟩) (fun _ => ?_)
        clear hK K
        try simp only [Act.put, List.setIfInBounds_toArray, List.set_cons_zero, List.set_cons_succ]
        iterate 3 (apply ordT_take; (simp only [List.getElem?_toArray, List.getElem?_cons_succ, List.getElem?_cons_zero]; rfl); rfl; (intro w hSw; (try dsimp only at hSw); go_simp; try with_reducible rfl); intro _; try simp only [Act.put, List.setIfInBounds_toArray, List.set_cons_zero, List.set_cons_succ])
        (apply ordT_only; (simp only [List.getElem?_toArray, List.getElem?_cons_succ, List.getElem?_cons_zero]; rfl); rfl; intro K hK)
        have Na : New we (we.alloc (.cells #[.slice none 0 0, .string ByteArray.empty, .bool false, .int .i64 0] 112)) := (Below.refl _ _).alloc (Nat.le_refl _) _
        have HLa := Lib.hid (HLg.out.new Na)
        have Nb : New we (we.alloc (.cells #[.slice a nn c, strV P.ch, .bool P.sealed, .int .i64 (P.used : Int)] 112)) := (Below.refl _ _).alloc (Nat.le_refl _) _
        have HLb := Lib.hid (HLg.out.new Nb)
        go_simp
        refine hK.out _ _ (⟨HLa.out.at_.cell 4 rfl, HLa.out.at_.cell 8 rfl, HLa.out.at_.cell 9 rfl⟩) (fun _ => ?_)
        clear hK K
        try simp only [Act.put, List.setIfInBounds_toArray, List.set_cons_zero, List.set_cons_succ]
        (apply ordT_only; (simp only [List.getElem?_toArray, List.getElem?_cons_succ, List.getElem?_cons_zero]; rfl); rfl; intro K hK)
        go_simp
        refine hK.out _ _ (⟨HLb.out.at_.cell 4 rfl, HLb.out.at_.cell 8 rfl, HLb.out.at_.cell 9 rfl⟩) (fun _ => ?_)
        clear hK K
        try simp only [Act.put, List.setIfInBounds_toArray, List.set_cons_zero, List.set_cons_succ]
        iterate 1 (apply ordT_take; (simp only [List.getElem?_toArray, List.getElem?_cons_succ, List.getElem?_cons_zero]; rfl); rfl; (intro w hSw; (try dsimp only at hSw); go_simp; try with_reducible rfl); intro _; try simp only [Act.put, List.setIfInBounds_toArray, List.set_cons_zero, List.set_cons_succ])
        apply ordT_done
        have HAp0 := Lib.hid (At4.made we 112 (.slice a nn c) (strV P.ch) (.bool P.sealed) (.int .i64 (P.used : Int)))
        replace HOn : Hid (Only (fun k => k = gl) w (we.alloc (.cells #[.slice a nn c, strV P.ch, .bool P.sealed, .int .i64 (P.used : Int)] 112))) := Lib.hid (HOn.out.trans (New.only (F := fun k => k = gl) Nb) (fun _ _ h => h))
        replace HRd := Lib.hid (HRd.out.new Nb)
        have Hgp0 : Hid (¬ we.heap.size = gl ∧ we.heap.size < (we.alloc (.cells #[.slice a nn c, strV P.ch, .bool P.sealed, .int .i64 (P.used : Int)] 112)).heap.size) := Lib.hid ⟨by have := HLg.out.at_.lt; omega, by simp⟩
        clear HLa HLg Na Nb
        have HLg := HLb
        clear HLb
        obtain ⟨wN, hwN⟩ : ∃ x, we.alloc (.cells #[.slice a nn c, strV P.ch, .bool P.sealed, .int .i64 (P.used : Int)] 112) = x := ⟨_, rfl⟩
        rw [hwN] at HAp0 HOn HRd Hgp0 HLg
        rw [hwN]
        clear hwN
        obtain ⟨gp, hgp⟩ : ∃ x, we.heap.size = x := ⟨_, rfl⟩
        rw [hgp] at HAp0 Hgp0
        rw [hgp]
        clear hgp
        have HAp := HAp0
        have Hgp := Hgp0
        clear HAp0 Hgp0
        obtain ⟨o, ho⟩ : ∃ o, P.ok = o := ⟨_, rfl⟩
        rw [ho]
        cases o
        ·
          have HF : Hid (lgTold B z n 0 s0 = s) := Lib.hid (by rw [HT.out]; unfold lgTold; rw [HP.out, ho]; rfl)
          clear ho
          go_wp2
          (try simp only [Exit.inBlock, Exit.then])
          refine bodyPost_ret (results_none rfl _ _ _) rfl ?_
          exact ⟨rfl, _, by rw [HF.out, HSG.out]; exact HLg.out, HOn.out⟩
        ·
          have HOK := Lib.hid ho
          clear ho
          go_upto_region 6 with fail
          refine region_ordT (RlP gp (.slice a nn c)) (.take 0 (.take 2 (.take 3 (.take 4 (.take 7 (.take 8 (.two 1 5 (.only 5 (.only 6 (.only 9 (.take 10 (.take 11 (.only 12 .nil)))))) (.only 1 (.only 6 (.only 9 (.take 10 (.take 11 (.only 12 .nil))))))))))))) (by kernel_rfl) (by kernel_rfl) (HAp.out.cells.1) (fun _ => ?_)
          have ND : New wN wN.drew := (Below.refl _ _).drew
          replace HAp := Lib.hid (HAp.out.new ND)
          replace HRd := Lib.hid (HRd.out.new ND)
          replace HLg := Lib.hid (HLg.out.new ND)
          replace HOn : Hid (Only (fun k => k = gl) w wN.drew) := Lib.hid HOn.out.drew
          replace Hgp : Hid (¬ gp = gl ∧ gp < wN.drew.heap.size) := Lib.hid Hgp.out
          clear ND
          generalize wN.drew = wd at *
          have NE : New wd (wd.alloc (.cells #[] 9)) := (Below.refl _ _).alloc (Nat.le_refl _) _
          obtain ⟨i0, hi0, hz0, hz1, hz2⟩ := info_parts infoStr
          have HLE := Lib.hid (HLg.out.new NE)
          have hlus : P.ts.length = nn := by have := HRd.out; obtain ⟨_, _, _, e, h1, -⟩ := this; cases e; rw [List.length_map] at h1; exact h1
          have hfit := sParse_fits HJ.out.1 (show (sParse (lgSeg B z j) (j : Int) (s.ts.length : Int) s.ch).ok = true by rw [HP.out]; exact HOK.out)
          rw [HP.out, lgSeg_length HBl.out hlt] at hfit
          have hbnd : 41 * (s.ts.length + P.ts.length) ≤ z * (j + 1) := by have h1 := HJ.out.2; have h2 := hfit.2.1; rw [Nat.mul_succ]; omega
          have hzn : z * (j + 1) ≤ 1000000 := Nat.le_trans (Nat.mul_le_mul_left z hlt) HBZ.out
          obtain ⟨q1, wqa, q2, wqb, hq6, hq9, hqo, hqb, hqa⟩ := app_cat (P := Tryz.prog) (wd.alloc (.cells #[] 9)) wd.heap.size 28 28 9 i0 _ 16 Tryz.underlying28 hi0 hz0 hz1 hz2 rfl (.slice (some ⟨wd.heap.size, 0, none⟩) 0 0) (.slice a nn c) (.slice aT nT cT) (P.ts.map strV) (s.ts.map strV) (own_empty wd _ _ (Nat.le_refl _)) (RdV.of_own HLE.out.oT) (one_str15 _) (HRd.out.new NE) (one_str15 _) (fun k hk hu e => by have h1 := HRd.out.lt hk hu; simp [blk] at e; omega) (by rw [List.length_map, List.length_map]; omega) (by rw [List.length_map, List.length_map]; omega) NE.size
          obtain ⟨a2, c2, hv2, -, -⟩ := ownSl_form hqo
          obtain ⟨n2, Hn2⟩ : ∃ n2, Hid ((s.ts.map strV).length + (P.ts.map strV).length = n2) := ⟨_, Lib.hid rfl⟩
          rw [Hn2.out] at hv2
          subst hv2
          have HX6 := Lib.hid hq6
          have HX9 := Lib.hid hq9
          have HNb : Hid (New wd wqb) := Lib.hid (Below.trans NE hqb)
          have HLb := Lib.hid (HLg.out.new HNb.out)
          have HApb := Lib.hid (HAp.out.new HNb.out)
          have hw4 : (wqb.setCell ⟨gl, 8, none⟩ (.slice a2 n2 c2)).cell? ⟨gp, 0, none⟩ = some (.slice a nn c) := (At4.only HApb.out (only_cell wqb gl 8 _) Hgp.out.1).cells.1
          have hAE := (HAp.out.new NE).cells.1
          have RlC0 : RlP gp (.slice a nn c) wqa := (HAp.out.new (Below.trans NE hqa)).cells.1
          have RlC1 : RlP gp (.slice a nn c) wqb := HApb.out.cells.1
          have HQ : Hid (wqb.ownsRow b0 9 1 (.slice a2 n2 c2) (lgNext P j s).ts.length ((lgNext P j s).ts.map strV)) := Lib.hid (by
            have h1 := own_low15 hqo (Nat.le_trans HB0.out HOn.out.size)
            rw [List.length_map, List.length_map] at h1
            show wqb.ownsRow b0 9 1 _ (s.ts ++ P.ts).length ((s.ts ++ P.ts).map strV)
            rw [List.length_append, List.map_append]
            exact h1)
          clear hq6 hq9 hqo hqb hi0 hz0 hz1 hz2
          have HL0 := Lib.hid HLg.out
          unfold RlP
          iterate 6 (apply ordT_take; (simp only [List.getElem?_toArray, List.getElem?_cons_succ, List.getElem?_cons_zero]; rfl); rfl; (intro w hSw; (try dsimp only at hSw); go_simp; try with_reducible rfl); intro _; try simp only [Act.put, List.setIfInBounds_toArray, List.set_cons_zero, List.set_cons_succ])
          (apply ordT_two; (simp only [List.getElem?_toArray, List.getElem?_cons_succ, List.getElem?_cons_zero]; rfl); rfl; (simp only [List.getElem?_toArray, List.getElem?_cons_succ, List.getElem?_cons_zero]; rfl); rfl)
          · intro K hK
            go_simp
            refine hK.out _ _ (hAE) (fun _ => ?_)
            clear hK K
            try simp only [Act.put, List.setIfInBounds_toArray, List.set_cons_zero, List.set_cons_succ]
            (apply ordT_only; (simp only [List.getElem?_toArray, List.getElem?_cons_succ, List.getElem?_cons_zero]; rfl); rfl; intro K hK)
            have c8 := HLE.out.at_.cell 8 rfl
            go_simp
            clear c8
            refine hK.out _ _ (hAE) (fun _ => ?_)
            clear hK K
            try simp only [Act.put, List.setIfInBounds_toArray, List.set_cons_zero, List.set_cons_succ]
            (apply ordT_only; (simp only [List.getElem?_toArray, List.getElem?_cons_succ, List.getElem?_cons_zero]; rfl); rfl; intro K hK)
            refine oper_append _ _ 28 rfl _ _ rfl rfl HX6.out ?_
            refine hK.out _ _ (RlC0) (fun _ => ?_)
            clear hK K
            try simp only [Act.put, List.setIfInBounds_toArray, List.set_cons_zero, List.set_cons_succ]
            (apply ordT_only; (simp only [List.getElem?_toArray, List.getElem?_cons_succ, List.getElem?_cons_zero]; rfl); rfl; intro K hK)
            refine oper_append _ _ 28 rfl _ _ rfl rfl HX9.out ?_
            refine hK.out _ _ (RlC1) (fun _ => ?_)
            clear hK K
            try simp only [Act.put, List.setIfInBounds_toArray, List.set_cons_zero, List.set_cons_succ]
            iterate 2 (apply ordT_take; (simp only [List.getElem?_toArray, List.getElem?_cons_succ, List.getElem?_cons_zero]; rfl); rfl; (intro w hSw; (try dsimp only at hSw); go_simp; try with_reducible rfl); intro _; try simp only [Act.put, List.setIfInBounds_toArray, List.set_cons_zero, List.set_cons_succ])
            (apply ordT_only; (simp only [List.getElem?_toArray, List.getElem?_cons_succ, List.getElem?_cons_zero]; rfl); rfl; intro K hK)
            have c8 := HLb.out.at_.cell 8 rfl
            have f8 := HLb.out.at_.frozen 8
            go_simp
            clear c8 f8
            refine hK.out _ _ (hw4) (fun _ => ?_)
            clear hK K
            try simp only [Act.put, List.setIfInBounds_toArray, List.set_cons_zero, List.set_cons_succ]
            apply ordT_done
            have HA0 : Hid (AtN (wqb.setCell ⟨gl, 8, none⟩ (.slice a2 n2 c2)) gl 58 [dv, .int .i64 frm, .int .i64 segs, .int .i64 (size : Int), strV B, .int .i64 (s.last : Int), .int .i64 (s.used : Int), .int .i64 clean, .slice a2 n2 c2, strV s.ch, .int .i64 sure, .bool s.sealed, .bool dead]) := Lib.hid (HLb.out.at_.set 8 (.slice a2 n2 c2))
            have HO0 : Hid (Only (fun k => k = gl) wqb (wqb.setCell ⟨gl, 8, none⟩ (.slice a2 n2 c2))) := Lib.hid (only_cell _ _ _ _)
            have HP0 := Lib.hid (HApb.out.only HO0.out Hgp.out.1)
            generalize wqb.setCell ⟨gl, 8, none⟩ (.slice a2 n2 c2) = wc0 at *
            clear HX6 HX9 hw4 hAE RlC0 RlC1 HLE HL0 HLg HAp
            have c9 := HA0.out.cell 9 rfl
            have f9 := HA0.out.frozen 9
            have y9 := HP0.out.cells.2.1
            go_upto_region 8 with fail
            clear c9 f9 y9
            have HA1 : Hid (AtN (wc0.setCell ⟨gl, 9, none⟩ (strV P.ch)) gl 58 [dv, .int .i64 frm, .int .i64 segs, .int .i64 (size : Int), strV B, .int .i64 (s.last : Int), .int .i64 (s.used : Int), .int .i64 clean, .slice a2 n2 c2, strV P.ch, .int .i64 sure, .bool s.sealed, .bool dead]) := Lib.hid (HA0.out.set 9 (strV P.ch))
            have HO1 : Hid (Only (fun k => k = gl) wqb (wc0.setCell ⟨gl, 9, none⟩ (strV P.ch))) := Lib.hid (HO0.out.trans (only_cell _ _ _ _) (fun _ _ h => h))
            have HP1 := Lib.hid (HApb.out.only HO1.out Hgp.out.1)
            generalize wc0.setCell ⟨gl, 9, none⟩ (strV P.ch) = wc1 at *
            clear HA0 HP0 HO0
            have c9 := HA1.out.cell 5 rfl
            have f9 := HA1.out.frozen 5
            go_upto_region 9 with fail
            clear c9 f9
            have HA2 : Hid (AtN (wc1.setCell ⟨gl, 5, none⟩ (.int .i64 (j : Int))) gl 58 [dv, .int .i64 frm, .int .i64 segs, .int .i64 (size : Int), strV B, .int .i64 (j : Int), .int .i64 (s.used : Int), .int .i64 clean, .slice a2 n2 c2, strV P.ch, .int .i64 sure, .bool s.sealed, .bool dead]) := Lib.hid (HA1.out.set 5 (.int .i64 (j : Int)))
            have HO2 : Hid (Only (fun k => k = gl) wqb (wc1.setCell ⟨gl, 5, none⟩ (.int .i64 (j : Int)))) := Lib.hid (HO1.out.trans (only_cell _ _ _ _) (fun _ _ h => h))
            have HP2 := Lib.hid (HApb.out.only HO2.out Hgp.out.1)
            generalize wc1.setCell ⟨gl, 5, none⟩ (.int .i64 (j : Int)) = wc2 at *
            clear HA1 HP1 HO1
            have c9 := HA2.out.cell 6 rfl
            have f9 := HA2.out.frozen 6
            have y9 := HP2.out.cells.2.2.2
            go_upto_region 10 with fail
            clear c9 f9 y9
            have HA3 : Hid (AtN (wc2.setCell ⟨gl, 6, none⟩ (.int .i64 (P.used : Int))) gl 58 [dv, .int .i64 frm, .int .i64 segs, .int .i64 (size : Int), strV B, .int .i64 (j : Int), .int .i64 (P.used : Int), .int .i64 clean, .slice a2 n2 c2, strV P.ch, .int .i64 sure, .bool s.sealed, .bool dead]) := Lib.hid (HA2.out.set 6 (.int .i64 (P.used : Int)))
            have HO3 : Hid (Only (fun k => k = gl) wqb (wc2.setCell ⟨gl, 6, none⟩ (.int .i64 (P.used : Int)))) := Lib.hid (HO2.out.trans (only_cell _ _ _ _) (fun _ _ h => h))
            have HP3 := Lib.hid (HApb.out.only HO3.out Hgp.out.1)
            generalize wc2.setCell ⟨gl, 6, none⟩ (.int .i64 (P.used : Int)) = wc3 at *
            clear HA2 HP2 HO2
            have c9 := HA3.out.cell 11 rfl
            have f9 := HA3.out.frozen 11
            have y9 := HP3.out.cells.2.2.1
            go_upto_region 11 with fail
            clear c9 f9 y9
            have HA4 : Hid (AtN (wc3.setCell ⟨gl, 11, none⟩ (.bool P.sealed)) gl 58 [dv, .int .i64 frm, .int .i64 segs, .int .i64 (size : Int), strV B, .int .i64 (j : Int), .int .i64 (P.used : Int), .int .i64 clean, .slice a2 n2 c2, strV P.ch, .int .i64 sure, .bool P.sealed, .bool dead]) := Lib.hid (HA3.out.set 11 (.bool P.sealed))
            have HO4 : Hid (Only (fun k => k = gl) wqb (wc3.setCell ⟨gl, 11, none⟩ (.bool P.sealed))) := Lib.hid (HO3.out.trans (only_cell _ _ _ _) (fun _ _ h => h))
            have HP4 := Lib.hid (HApb.out.only HO4.out Hgp.out.1)
            generalize wc3.setCell ⟨gl, 11, none⟩ (.bool P.sealed) = wc4 at *
            clear HA3 HP3 HO3
            have HR : Hid (RLg wc4 b0 gl dv frm segs (size : Int) B (lgNext P j s) (.slice a2 n2 c2) clean sure dead) := Lib.hid ⟨HA4.out, own_moreT HQ.out (fun k hk hl => HO4.out.block k hl (fun e => own_neT HQ.out HLb.out.at_ (by decide) (by rw [hk, e]))), HLb.out.ge⟩
            have HOZ : Hid (Only (fun k => k = gl) w wc4) := Lib.hid ((HOn.out.trans (New.only (F := fun k => k = gl) HNb.out) (fun _ _ h => h)).trans HO4.out (fun _ _ h => h))
            have HFit := Lib.hid hfit
            have HBnd := Lib.hid hbnd
            have y2 := HP4.out.cells.2.2.1
            clear hfit hbnd HLb HApb HNb HQ HA4 HO4 HOn HP4 HRd
            obtain ⟨sl, hsl⟩ : ∃ sl, P.sealed = sl := ⟨_, rfl⟩
            rw [hsl] at y2
            cases sl
            · have HF : Hid (lgTold B z n 0 s0 = lgNext P j s) := Lib.hid (by rw [HT.out]; unfold lgTold; rw [HP.out, if_pos HOK.out, if_neg (by rw [hsl]; decide)])
              clear hsl
              go_wp2
              (try simp only [Exit.inBlock, Exit.then])
              refine bodyPost_ret (results_none rfl _ _ _) rfl ?_
              exact ⟨rfl, _, by rw [HF.out, HSG.out]; exact HR.out, HOZ.out⟩
            · have HF : Hid (lgTold B z n 0 s0 = lgTold B z m (j + 1) (lgNext P j s)) := Lib.hid (by rw [HT.out]; show (if _ then _ else _) = _; rw [HP.out, if_pos HOK.out, if_pos hsl])
              clear hsl
              go_wp2
              go_roundw
              case rel => exact ⟨j + 1, lgNext P j s, _, by omega, by go_num, by rw [HF.out]; have hmm := HMm.out; congr 1; omega, ⟨HFit.out.1, by show 41 * (s.ts ++ P.ts).length ≤ _; rw [List.length_append]; exact HBnd.out⟩, HR.out, HOZ.out⟩
              case measure => simp [intOf]; omega
          · intro K hK
            have c8 := HL0.out.at_.cell 8 rfl
            go_simp
            clear c8
            refine hK.out _ _ (HAp.out.cells.1) (fun _ => ?_)
            clear hK K
            try simp only [Act.put, List.setIfInBounds_toArray, List.set_cons_zero, List.set_cons_succ]
            (apply ordT_only; (simp only [List.getElem?_toArray, List.getElem?_cons_succ, List.getElem?_cons_zero]; rfl); rfl; intro K hK)
            go_simp
            refine hK.out _ _ (hAE) (fun _ => ?_)
            clear hK K
            try simp only [Act.put, List.setIfInBounds_toArray, List.set_cons_zero, List.set_cons_succ]
            (apply ordT_only; (simp only [List.getElem?_toArray, List.getElem?_cons_succ, List.getElem?_cons_zero]; rfl); rfl; intro K hK)
            refine oper_append _ _ 28 rfl _ _ rfl rfl HX6.out ?_
            refine hK.out _ _ (RlC0) (fun _ => ?_)
            clear hK K
            try simp only [Act.put, List.setIfInBounds_toArray, List.set_cons_zero, List.set_cons_succ]
            (apply ordT_only; (simp only [List.getElem?_toArray, List.getElem?_cons_succ, List.getElem?_cons_zero]; rfl); rfl; intro K hK)
            refine oper_append _ _ 28 rfl _ _ rfl rfl HX9.out ?_
            refine hK.out _ _ (RlC1) (fun _ => ?_)
            clear hK K
            try simp only [Act.put, List.setIfInBounds_toArray, List.set_cons_zero, List.set_cons_succ]
            iterate 2 (apply ordT_take; (simp only [List.getElem?_toArray, List.getElem?_cons_succ, List.getElem?_cons_zero]; rfl); rfl; (intro w hSw; (try dsimp only at hSw); go_simp; try with_reducible rfl); intro _; try simp only [Act.put, List.setIfInBounds_toArray, List.set_cons_zero, List.set_cons_succ])
            (apply ordT_only; (simp only [List.getElem?_toArray, List.getElem?_cons_succ, List.getElem?_cons_zero]; rfl); rfl; intro K hK)
            have c8 := HLb.out.at_.cell 8 rfl
            have f8 := HLb.out.at_.frozen 8
            go_simp
            clear c8 f8
            refine hK.out _ _ (hw4) (fun _ => ?_)
            clear hK K
            try simp only [Act.put, List.setIfInBounds_toArray, List.set_cons_zero, List.set_cons_succ]
            apply ordT_done
            have HA0 : Hid (AtN (wqb.setCell ⟨gl, 8, none⟩ (.slice a2 n2 c2)) gl 58 [dv, .int .i64 frm, .int .i64 segs, .int .i64 (size : Int), strV B, .int .i64 (s.last : Int), .int .i64 (s.used : Int), .int .i64 clean, .slice a2 n2 c2, strV s.ch, .int .i64 sure, .bool s.sealed, .bool dead]) := Lib.hid (HLb.out.at_.set 8 (.slice a2 n2 c2))
            have HO0 : Hid (Only (fun k => k = gl) wqb (wqb.setCell ⟨gl, 8, none⟩ (.slice a2 n2 c2))) := Lib.hid (only_cell _ _ _ _)
            have HP0 := Lib.hid (HApb.out.only HO0.out Hgp.out.1)
            generalize wqb.setCell ⟨gl, 8, none⟩ (.slice a2 n2 c2) = wc0 at *
            clear HX6 HX9 hw4 hAE RlC0 RlC1 HLE HL0 HLg HAp
            have c9 := HA0.out.cell 9 rfl
            have f9 := HA0.out.frozen 9
            have y9 := HP0.out.cells.2.1
            go_upto_region 8 with fail
            clear c9 f9 y9
            have HA1 : Hid (AtN (wc0.setCell ⟨gl, 9, none⟩ (strV P.ch)) gl 58 [dv, .int .i64 frm, .int .i64 segs, .int .i64 (size : Int), strV B, .int .i64 (s.last : Int), .int .i64 (s.used : Int), .int .i64 clean, .slice a2 n2 c2, strV P.ch, .int .i64 sure, .bool s.sealed, .bool dead]) := Lib.hid (HA0.out.set 9 (strV P.ch))
            have HO1 : Hid (Only (fun k => k = gl) wqb (wc0.setCell ⟨gl, 9, none⟩ (strV P.ch))) := Lib.hid (HO0.out.trans (only_cell _ _ _ _) (fun _ _ h => h))
            have HP1 := Lib.hid (HApb.out.only HO1.out Hgp.out.1)
            generalize wc0.setCell ⟨gl, 9, none⟩ (strV P.ch) = wc1 at *
            clear HA0 HP0 HO0
            have c9 := HA1.out.cell 5 rfl
            have f9 := HA1.out.frozen 5
            go_upto_region 9 with fail
            clear c9 f9
            have HA2 : Hid (AtN (wc1.setCell ⟨gl, 5, none⟩ (.int .i64 (j : Int))) gl 58 [dv, .int .i64 frm, .int .i64 segs, .int .i64 (size : Int), strV B, .int .i64 (j : Int), .int .i64 (s.used : Int), .int .i64 clean, .slice a2 n2 c2, strV P.ch, .int .i64 sure, .bool s.sealed, .bool dead]) := Lib.hid (HA1.out.set 5 (.int .i64 (j : Int)))
            have HO2 : Hid (Only (fun k => k = gl) wqb (wc1.setCell ⟨gl, 5, none⟩ (.int .i64 (j : Int)))) := Lib.hid (HO1.out.trans (only_cell _ _ _ _) (fun _ _ h => h))
            have HP2 := Lib.hid (HApb.out.only HO2.out Hgp.out.1)
            generalize wc1.setCell ⟨gl, 5, none⟩ (.int .i64 (j : Int)) = wc2 at *
            clear HA1 HP1 HO1
            have c9 := HA2.out.cell 6 rfl
            have f9 := HA2.out.frozen 6
            have y9 := HP2.out.cells.2.2.2
            go_upto_region 10 with fail
            clear c9 f9 y9
            have HA3 : Hid (AtN (wc2.setCell ⟨gl, 6, none⟩ (.int .i64 (P.used : Int))) gl 58 [dv, .int .i64 frm, .int .i64 segs, .int .i64 (size : Int), strV B, .int .i64 (j : Int), .int .i64 (P.used : Int), .int .i64 clean, .slice a2 n2 c2, strV P.ch, .int .i64 sure, .bool s.sealed, .bool dead]) := Lib.hid (HA2.out.set 6 (.int .i64 (P.used : Int)))
            have HO3 : Hid (Only (fun k => k = gl) wqb (wc2.setCell ⟨gl, 6, none⟩ (.int .i64 (P.used : Int)))) := Lib.hid (HO2.out.trans (only_cell _ _ _ _) (fun _ _ h => h))
            have HP3 := Lib.hid (HApb.out.only HO3.out Hgp.out.1)
            generalize wc2.setCell ⟨gl, 6, none⟩ (.int .i64 (P.used : Int)) = wc3 at *
            clear HA2 HP2 HO2
            have c9 := HA3.out.cell 11 rfl
            have f9 := HA3.out.frozen 11
            have y9 := HP3.out.cells.2.2.1
            go_upto_region 11 with fail
            clear c9 f9 y9
            have HA4 : Hid (AtN (wc3.setCell ⟨gl, 11, none⟩ (.bool P.sealed)) gl 58 [dv, .int .i64 frm, .int .i64 segs, .int .i64 (size : Int), strV B, .int .i64 (j : Int), .int .i64 (P.used : Int), .int .i64 clean, .slice a2 n2 c2, strV P.ch, .int .i64 sure, .bool P.sealed, .bool dead]) := Lib.hid (HA3.out.set 11 (.bool P.sealed))
            have HO4 : Hid (Only (fun k => k = gl) wqb (wc3.setCell ⟨gl, 11, none⟩ (.bool P.sealed))) := Lib.hid (HO3.out.trans (only_cell _ _ _ _) (fun _ _ h => h))
            have HP4 := Lib.hid (HApb.out.only HO4.out Hgp.out.1)
            generalize wc3.setCell ⟨gl, 11, none⟩ (.bool P.sealed) = wc4 at *
            clear HA3 HP3 HO3
            have HR : Hid (RLg wc4 b0 gl dv frm segs (size : Int) B (lgNext P j s) (.slice a2 n2 c2) clean sure dead) := Lib.hid ⟨HA4.out, own_moreT HQ.out (fun k hk hl => HO4.out.block k hl (fun e => own_neT HQ.out HLb.out.at_ (by decide) (by rw [hk, e]))), HLb.out.ge⟩
            have HOZ : Hid (Only (fun k => k = gl) w wc4) := Lib.hid ((HOn.out.trans (New.only (F := fun k => k = gl) HNb.out) (fun _ _ h => h)).trans HO4.out (fun _ _ h => h))
            have HFit := Lib.hid hfit
            have HBnd := Lib.hid hbnd
            have y2 := HP4.out.cells.2.2.1
            clear hfit hbnd HLb HApb HNb HQ HA4 HO4 HOn HP4 HRd
            obtain ⟨sl, hsl⟩ : ∃ sl, P.sealed = sl := ⟨_, rfl⟩
            rw [hsl] at y2
            cases sl
            · have HF : Hid (lgTold B z n 0 s0 = lgNext P j s) := Lib.hid (by rw [HT.out]; unfold lgTold; rw [HP.out, if_pos HOK.out, if_neg (by rw [hsl]; decide)])
              clear hsl
              go_wp2
              (try simp only [Exit.inBlock, Exit.then])
              refine bodyPost_ret (results_none rfl _ _ _) rfl ?_
              exact ⟨rfl, _, by rw [HF.out, HSG.out]; exact HR.out, HOZ.out⟩
            · have HF : Hid (lgTold B z n 0 s0 = lgTold B z m (j + 1) (lgNext P j s)) := Lib.hid (by rw [HT.out]; show (if _ then _ else _) = _; rw [HP.out, if_pos HOK.out, if_pos hsl])
              clear hsl
              go_wp2
              go_roundw
              case rel => exact ⟨j + 1, lgNext P j s, _, by omega, by go_num, by rw [HF.out]; have hmm := HMm.out; congr 1; omega, ⟨HFit.out.1, by show 41 * (s.ts ++ P.ts).length ≤ _; rw [List.length_append]; exact HBnd.out⟩, HR.out, HOZ.out⟩
              case measure => simp [intOf]; omega
      · intro K hK
        have Na : New wd (wd.alloc (.cells #[.slice none 0 0, .string ByteArray.empty, .bool false, .int .i64 0] 112)) := (Below.refl _ _).alloc (Nat.le_refl _) _
        have HLa := Lib.hid (HLg.out.new Na)
        have HAz := Lib.hid (At4.made wd 112 (.slice none 0 0) (.string ByteArray.empty) (.bool false) (.int .i64 0))
        have HNa := Lib.hid Na
        have Hgz : Hid (wd.heap.size ≤ wd.heap.size ∧ ¬ wd.heap.size = gl) := Lib.hid ⟨Nat.le_refl _, by have := HLg.out.at_.lt; omega⟩
        clear Na
        go_simp
        refine hK.out _ _ (⟨HLa.out.at_.cell 4 rfl, HLa.out.at_.cell 8 rfl, HLa.out.at_.cell 9 rfl⟩) (fun _ => ?_)
        clear hK K
        try simp only [Act.put, List.setIfInBounds_toArray, List.set_cons_zero, List.set_cons_succ]
        obtain ⟨wz, hwz⟩ : ∃ x, wd.alloc (.cells #[.slice none 0 0, .string ByteArray.empty, .bool false, .int .i64 0] 112) = x := ⟨_, rfl⟩
        rw [hwz] at HLa HAz HNa
        rw [show (wd.alloc (.cells #[.slice none 0 0, .string { data := #[] }, .bool false, .int .i64 0] 112)) = wz from hwz]
        clear hwz
        obtain ⟨gp, hgp⟩ : ∃ x, wd.heap.size = x := ⟨_, rfl⟩
        have HGP := Lib.hid hgp
        rw [hgp] at HAz
        replace Hgz : Hid (wd.heap.size ≤ gp ∧ ¬ gp = gl) := Lib.hid (by have := Hgz.out; omega)
        rw [hgp]
        clear hgp HLa
        (apply ordT_only; (simp only [List.getElem?_toArray, List.getElem?_cons_succ, List.getElem?_cons_zero]; rfl); rfl; intro K hK)
        go_simp
        refine (HPa.out wz).mono ?_
        rintro _ we ⟨Ne, a, nn, c, rfl, hr, hrn⟩
        have HRd := Lib.hid hr
        have HNe : Hid (New wd we) := Lib.hid (New.trans HNa.out Ne)
        have HAe := Lib.hid (HAz.out.new Ne)
        have HLe := Lib.hid (HLg.out.new HNe.out)
        have HSz : Hid (gp < wz.heap.size) := Lib.hid HAz.out.lt
        have HRb : Hid (∀ k, blk (.slice a nn c) = some k → P.ts.map strV ≠ [] → k ≠ gp) := Lib.hid (fun k hk _ => by have := hrn k hk; have := HAz.out.lt; omega)
        clear hr hrn Ne HPa HAz HNa
        refine hK.out _ _ (⟨HLe.out.at_.cell 4 rfl, HLe.out.at_.cell 8 rfl, HLe.out.at_.cell 9 rfl⟩) (fun _ => ?_)
        clear hK K
        try simp only [Act.put, List.setIfInBounds_toArray, List.set_cons_zero, List.set_cons_succ]
        iterate 3 (apply ordT_take; (simp only [List.getElem?_toArray, List.getElem?_cons_succ, List.getElem?_cons_zero]; rfl); rfl; (intro w hSw; (try dsimp only at hSw); go_simp; try with_reducible rfl); intro _; try simp only [Act.put, List.setIfInBounds_toArray, List.set_cons_zero, List.set_cons_succ])
        (apply ordT_only; (simp only [List.getElem?_toArray, List.getElem?_cons_succ, List.getElem?_cons_zero]; rfl); rfl; intro K hK)
        obtain ⟨y0, y1, y2, y3⟩ := HAe.out.cells
        obtain ⟨f0, f1, f2, f3⟩ := HAe.out.frozen
        go_simp
        clear y0 y1 y2 y3 f0 f1 f2 f3
        have hput := At4.put_only we gp (.slice a nn c) (strV P.ch) (.bool P.sealed) (.int .i64 (P.used : Int))
        have HAp := Lib.hid (HAe.out.put (.slice a nn c) (strV P.ch) (.bool P.sealed) (.int .i64 (P.used : Int)))
        have HNp : Hid (New wd ((((we.setCell ⟨gp, 0, none⟩ (.slice a nn c)).setCell ⟨gp, 1, none⟩ (strV P.ch)).setCell ⟨gp, 2, none⟩ (.bool P.sealed)).setCell ⟨gp, 3, none⟩ (.int .i64 (P.used : Int)))) := Lib.hid (Below.trans HNe.out (hput.below HNe.out.size (fun k hk => by have := Hgz.out; omega)))
        replace HRd := Lib.hid (HRd.out.only hput (fun k hk hu e => HRb.out k hk hu e))
        clear hput HAe HLe HNe HRb
        obtain ⟨wN, hwN⟩ : ∃ x, (((we.setCell ⟨gp, 0, none⟩ (.slice a nn c)).setCell ⟨gp, 1, none⟩ (strV P.ch)).setCell ⟨gp, 2, none⟩ (.bool P.sealed)).setCell ⟨gp, 3, none⟩ (.int .i64 (P.used : Int)) = x := ⟨_, rfl⟩
        rw [hwN] at HAp HNp HRd
        rw [hwN]
        clear hwN
        replace HLg := Lib.hid (HLg.out.new HNp.out)
        replace HOn : Hid (Only (fun k => k = gl) w wN) := Lib.hid (HOn.out.trans (New.only (F := fun k => k = gl) HNp.out) (fun _ _ h => h))
        have Hgp : Hid (¬ gp = gl ∧ gp < wN.heap.size) := Lib.hid ⟨Hgz.out.2, HAp.out.lt⟩
        clear HNp HGP HSz Hgz
        refine hK.out _ _ (⟨HLg.out.at_.cell 4 rfl, HLg.out.at_.cell 8 rfl, HLg.out.at_.cell 9 rfl⟩) (fun _ => ?_)
        clear hK K
        try simp only [Act.put, List.setIfInBounds_toArray, List.set_cons_zero, List.set_cons_succ]
        iterate 1 (apply ordT_take; (simp only [List.getElem?_toArray, List.getElem?_cons_succ, List.getElem?_cons_zero]; rfl); rfl; (intro w hSw; (try dsimp only at hSw); go_simp; try with_reducible rfl); intro _; try simp only [Act.put, List.setIfInBounds_toArray, List.set_cons_zero, List.set_cons_succ])
        apply ordT_done
        obtain ⟨o, ho⟩ : ∃ o, P.ok = o := ⟨_, rfl⟩
        rw [ho]
        cases o
        ·
          have HF : Hid (lgTold B z n 0 s0 = s) := Lib.hid (by rw [HT.out]; unfold lgTold; rw [HP.out, ho]; rfl)
          clear ho
          go_wp2
          (try simp only [Exit.inBlock, Exit.then])
          refine bodyPost_ret (results_none rfl _ _ _) rfl ?_
          exact ⟨rfl, _, by rw [HF.out, HSG.out]; exact HLg.out, HOn.out⟩
        ·
          have HOK := Lib.hid ho
          clear ho
          go_upto_region 6 with fail
          refine region_ordT (RlP gp (.slice a nn c)) (.take 0 (.take 2 (.take 3 (.take 4 (.take 7 (.take 8 (.two 1 5 (.only 5 (.only 6 (.only 9 (.take 10 (.take 11 (.only 12 .nil)))))) (.only 1 (.only 6 (.only 9 (.take 10 (.take 11 (.only 12 .nil))))))))))))) (by kernel_rfl) (by kernel_rfl) (HAp.out.cells.1) (fun _ => ?_)
          have ND : New wN wN.drew := (Below.refl _ _).drew
          replace HAp := Lib.hid (HAp.out.new ND)
          replace HRd := Lib.hid (HRd.out.new ND)
          replace HLg := Lib.hid (HLg.out.new ND)
          replace HOn : Hid (Only (fun k => k = gl) w wN.drew) := Lib.hid HOn.out.drew
          replace Hgp : Hid (¬ gp = gl ∧ gp < wN.drew.heap.size) := Lib.hid Hgp.out
          clear ND
          generalize wN.drew = wd at *
          have NE : New wd (wd.alloc (.cells #[] 9)) := (Below.refl _ _).alloc (Nat.le_refl _) _
          obtain ⟨i0, hi0, hz0, hz1, hz2⟩ := info_parts infoStr
          have HLE := Lib.hid (HLg.out.new NE)
          have hlus : P.ts.length = nn := by have := HRd.out; obtain ⟨_, _, _, e, h1, -⟩ := this; cases e; rw [List.length_map] at h1; exact h1
          have hfit := sParse_fits HJ.out.1 (show (sParse (lgSeg B z j) (j : Int) (s.ts.length : Int) s.ch).ok = true by rw [HP.out]; exact HOK.out)
          rw [HP.out, lgSeg_length HBl.out hlt] at hfit
          have hbnd : 41 * (s.ts.length + P.ts.length) ≤ z * (j + 1) := by have h1 := HJ.out.2; have h2 := hfit.2.1; rw [Nat.mul_succ]; omega
          have hzn : z * (j + 1) ≤ 1000000 := Nat.le_trans (Nat.mul_le_mul_left z hlt) HBZ.out
          obtain ⟨q1, wqa, q2, wqb, hq6, hq9, hqo, hqb, hqa⟩ := app_cat (P := Tryz.prog) (wd.alloc (.cells #[] 9)) wd.heap.size 28 28 9 i0 _ 16 Tryz.underlying28 hi0 hz0 hz1 hz2 rfl (.slice (some ⟨wd.heap.size, 0, none⟩) 0 0) (.slice a nn c) (.slice aT nT cT) (P.ts.map strV) (s.ts.map strV) (own_empty wd _ _ (Nat.le_refl _)) (RdV.of_own HLE.out.oT) (one_str15 _) (HRd.out.new NE) (one_str15 _) (fun k hk hu e => by have h1 := HRd.out.lt hk hu; simp [blk] at e; omega) (by rw [List.length_map, List.length_map]; omega) (by rw [List.length_map, List.length_map]; omega) NE.size
          obtain ⟨a2, c2, hv2, -, -⟩ := ownSl_form hqo
          obtain ⟨n2, Hn2⟩ : ∃ n2, Hid ((s.ts.map strV).length + (P.ts.map strV).length = n2) := ⟨_, Lib.hid rfl⟩
          rw [Hn2.out] at hv2
          subst hv2
          have HX6 := Lib.hid hq6
          have HX9 := Lib.hid hq9
          have HNb : Hid (New wd wqb) := Lib.hid (Below.trans NE hqb)
          have HLb := Lib.hid (HLg.out.new HNb.out)
          have HApb := Lib.hid (HAp.out.new HNb.out)
          have hw4 : (wqb.setCell ⟨gl, 8, none⟩ (.slice a2 n2 c2)).cell? ⟨gp, 0, none⟩ = some (.slice a nn c) := (At4.only HApb.out (only_cell wqb gl 8 _) Hgp.out.1).cells.1
          have hAE := (HAp.out.new NE).cells.1
          have RlC0 : RlP gp (.slice a nn c) wqa := (HAp.out.new (Below.trans NE hqa)).cells.1
          have RlC1 : RlP gp (.slice a nn c) wqb := HApb.out.cells.1
          have HQ : Hid (wqb.ownsRow b0 9 1 (.slice a2 n2 c2) (lgNext P j s).ts.length ((lgNext P j s).ts.map strV)) := Lib.hid (by
            have h1 := own_low15 hqo (Nat.le_trans HB0.out HOn.out.size)
            rw [List.length_map, List.length_map] at h1
            show wqb.ownsRow b0 9 1 _ (s.ts ++ P.ts).length ((s.ts ++ P.ts).map strV)
            rw [List.length_append, List.map_append]
            exact h1)
          clear hq6 hq9 hqo hqb hi0 hz0 hz1 hz2
          have HL0 := Lib.hid HLg.out
          unfold RlP
          iterate 6 (apply ordT_take; (simp only [List.getElem?_toArray, List.getElem?_cons_succ, List.getElem?_cons_zero]; rfl); rfl; (intro w hSw; (try dsimp only at hSw); go_simp; try with_reducible rfl); intro _; try simp only [Act.put, List.setIfInBounds_toArray, List.set_cons_zero, List.set_cons_succ])
          (apply ordT_two; (simp only [List.getElem?_toArray, List.getElem?_cons_succ, List.getElem?_cons_zero]; rfl); rfl; (simp only [List.getElem?_toArray, List.getElem?_cons_succ, List.getElem?_cons_zero]; rfl); rfl)
          · intro K hK
            go_simp
            refine hK.out _ _ (hAE) (fun _ => ?_)
            clear hK K
            try simp only [Act.put, List.setIfInBounds_toArray, List.set_cons_zero, List.set_cons_succ]
            (apply ordT_only; (simp only [List.getElem?_toArray, List.getElem?_cons_succ, List.getElem?_cons_zero]; rfl); rfl; intro K hK)
            have c8 := HLE.out.at_.cell 8 rfl
            go_simp
            clear c8
            refine hK.out _ _ (hAE) (fun _ => ?_)
            clear hK K
            try simp only [Act.put, List.setIfInBounds_toArray, List.set_cons_zero, List.set_cons_succ]
            (apply ordT_only; (simp only [List.getElem?_toArray, List.getElem?_cons_succ, List.getElem?_cons_zero]; rfl); rfl; intro K hK)
            refine oper_append _ _ 28 rfl _ _ rfl rfl HX6.out ?_
            refine hK.out _ _ (RlC0) (fun _ => ?_)
            clear hK K
            try simp only [Act.put, List.setIfInBounds_toArray, List.set_cons_zero, List.set_cons_succ]
            (apply ordT_only; (simp only [List.getElem?_toArray, List.getElem?_cons_succ, List.getElem?_cons_zero]; rfl); rfl; intro K hK)
            refine oper_append _ _ 28 rfl _ _ rfl rfl HX9.out ?_
            refine hK.out _ _ (RlC1) (fun _ => ?_)
            clear hK K
            try simp only [Act.put, List.setIfInBounds_toArray, List.set_cons_zero, List.set_cons_succ]
            iterate 2 (apply ordT_take; (simp only [List.getElem?_toArray, List.getElem?_cons_succ, List.getElem?_cons_zero]; rfl); rfl; (intro w hSw; (try dsimp only at hSw); go_simp; try with_reducible rfl); intro _; try simp only [Act.put, List.setIfInBounds_toArray, List.set_cons_zero, List.set_cons_succ])
            (apply ordT_only; (simp only [List.getElem?_toArray, List.getElem?_cons_succ, List.getElem?_cons_zero]; rfl); rfl; intro K hK)
            have c8 := HLb.out.at_.cell 8 rfl
            have f8 := HLb.out.at_.frozen 8
            go_simp
            clear c8 f8
            refine hK.out _ _ (hw4) (fun _ => ?_)
            clear hK K
            try simp only [Act.put, List.setIfInBounds_toArray, List.set_cons_zero, List.set_cons_succ]
            apply ordT_done
            have HA0 : Hid (AtN (wqb.setCell ⟨gl, 8, none⟩ (.slice a2 n2 c2)) gl 58 [dv, .int .i64 frm, .int .i64 segs, .int .i64 (size : Int), strV B, .int .i64 (s.last : Int), .int .i64 (s.used : Int), .int .i64 clean, .slice a2 n2 c2, strV s.ch, .int .i64 sure, .bool s.sealed, .bool dead]) := Lib.hid (HLb.out.at_.set 8 (.slice a2 n2 c2))
            have HO0 : Hid (Only (fun k => k = gl) wqb (wqb.setCell ⟨gl, 8, none⟩ (.slice a2 n2 c2))) := Lib.hid (only_cell _ _ _ _)
            have HP0 := Lib.hid (HApb.out.only HO0.out Hgp.out.1)
            generalize wqb.setCell ⟨gl, 8, none⟩ (.slice a2 n2 c2) = wc0 at *
            clear HX6 HX9 hw4 hAE RlC0 RlC1 HLE HL0 HLg HAp
            have c9 := HA0.out.cell 9 rfl
            have f9 := HA0.out.frozen 9
            have y9 := HP0.out.cells.2.1
            go_upto_region 8 with fail
            clear c9 f9 y9
            have HA1 : Hid (AtN (wc0.setCell ⟨gl, 9, none⟩ (strV P.ch)) gl 58 [dv, .int .i64 frm, .int .i64 segs, .int .i64 (size : Int), strV B, .int .i64 (s.last : Int), .int .i64 (s.used : Int), .int .i64 clean, .slice a2 n2 c2, strV P.ch, .int .i64 sure, .bool s.sealed, .bool dead]) := Lib.hid (HA0.out.set 9 (strV P.ch))
            have HO1 : Hid (Only (fun k => k = gl) wqb (wc0.setCell ⟨gl, 9, none⟩ (strV P.ch))) := Lib.hid (HO0.out.trans (only_cell _ _ _ _) (fun _ _ h => h))
            have HP1 := Lib.hid (HApb.out.only HO1.out Hgp.out.1)
            generalize wc0.setCell ⟨gl, 9, none⟩ (strV P.ch) = wc1 at *
            clear HA0 HP0 HO0
            have c9 := HA1.out.cell 5 rfl
            have f9 := HA1.out.frozen 5
            go_upto_region 9 with fail
            clear c9 f9
            have HA2 : Hid (AtN (wc1.setCell ⟨gl, 5, none⟩ (.int .i64 (j : Int))) gl 58 [dv, .int .i64 frm, .int .i64 segs, .int .i64 (size : Int), strV B, .int .i64 (j : Int), .int .i64 (s.used : Int), .int .i64 clean, .slice a2 n2 c2, strV P.ch, .int .i64 sure, .bool s.sealed, .bool dead]) := Lib.hid (HA1.out.set 5 (.int .i64 (j : Int)))
            have HO2 : Hid (Only (fun k => k = gl) wqb (wc1.setCell ⟨gl, 5, none⟩ (.int .i64 (j : Int)))) := Lib.hid (HO1.out.trans (only_cell _ _ _ _) (fun _ _ h => h))
            have HP2 := Lib.hid (HApb.out.only HO2.out Hgp.out.1)
            generalize wc1.setCell ⟨gl, 5, none⟩ (.int .i64 (j : Int)) = wc2 at *
            clear HA1 HP1 HO1
            have c9 := HA2.out.cell 6 rfl
            have f9 := HA2.out.frozen 6
            have y9 := HP2.out.cells.2.2.2
            go_upto_region 10 with fail
            clear c9 f9 y9
            have HA3 : Hid (AtN (wc2.setCell ⟨gl, 6, none⟩ (.int .i64 (P.used : Int))) gl 58 [dv, .int .i64 frm, .int .i64 segs, .int .i64 (size : Int), strV B, .int .i64 (j : Int), .int .i64 (P.used : Int), .int .i64 clean, .slice a2 n2 c2, strV P.ch, .int .i64 sure, .bool s.sealed, .bool dead]) := Lib.hid (HA2.out.set 6 (.int .i64 (P.used : Int)))
            have HO3 : Hid (Only (fun k => k = gl) wqb (wc2.setCell ⟨gl, 6, none⟩ (.int .i64 (P.used : Int)))) := Lib.hid (HO2.out.trans (only_cell _ _ _ _) (fun _ _ h => h))
            have HP3 := Lib.hid (HApb.out.only HO3.out Hgp.out.1)
            generalize wc2.setCell ⟨gl, 6, none⟩ (.int .i64 (P.used : Int)) = wc3 at *
            clear HA2 HP2 HO2
            have c9 := HA3.out.cell 11 rfl
            have f9 := HA3.out.frozen 11
            have y9 := HP3.out.cells.2.2.1
            go_upto_region 11 with fail
            clear c9 f9 y9
            have HA4 : Hid (AtN (wc3.setCell ⟨gl, 11, none⟩ (.bool P.sealed)) gl 58 [dv, .int .i64 frm, .int .i64 segs, .int .i64 (size : Int), strV B, .int .i64 (j : Int), .int .i64 (P.used : Int), .int .i64 clean, .slice a2 n2 c2, strV P.ch, .int .i64 sure, .bool P.sealed, .bool dead]) := Lib.hid (HA3.out.set 11 (.bool P.sealed))
            have HO4 : Hid (Only (fun k => k = gl) wqb (wc3.setCell ⟨gl, 11, none⟩ (.bool P.sealed))) := Lib.hid (HO3.out.trans (only_cell _ _ _ _) (fun _ _ h => h))
            have HP4 := Lib.hid (HApb.out.only HO4.out Hgp.out.1)
            generalize wc3.setCell ⟨gl, 11, none⟩ (.bool P.sealed) = wc4 at *
            clear HA3 HP3 HO3
            have HR : Hid (RLg wc4 b0 gl dv frm segs (size : Int) B (lgNext P j s) (.slice a2 n2 c2) clean sure dead) := Lib.hid ⟨HA4.out, own_moreT HQ.out (fun k hk hl => HO4.out.block k hl (fun e => own_neT HQ.out HLb.out.at_ (by decide) (by rw [hk, e]))), HLb.out.ge⟩
            have HOZ : Hid (Only (fun k => k = gl) w wc4) := Lib.hid ((HOn.out.trans (New.only (F := fun k => k = gl) HNb.out) (fun _ _ h => h)).trans HO4.out (fun _ _ h => h))
            have HFit := Lib.hid hfit
            have HBnd := Lib.hid hbnd
            have y2 := HP4.out.cells.2.2.1
            clear hfit hbnd HLb HApb HNb HQ HA4 HO4 HOn HP4 HRd
            obtain ⟨sl, hsl⟩ : ∃ sl, P.sealed = sl := ⟨_, rfl⟩
            rw [hsl] at y2
            cases sl
            · have HF : Hid (lgTold B z n 0 s0 = lgNext P j s) := Lib.hid (by rw [HT.out]; unfold lgTold; rw [HP.out, if_pos HOK.out, if_neg (by rw [hsl]; decide)])
              clear hsl
              go_wp2
              (try simp only [Exit.inBlock, Exit.then])
              refine bodyPost_ret (results_none rfl _ _ _) rfl ?_
              exact ⟨rfl, _, by rw [HF.out, HSG.out]; exact HR.out, HOZ.out⟩
            · have HF : Hid (lgTold B z n 0 s0 = lgTold B z m (j + 1) (lgNext P j s)) := Lib.hid (by rw [HT.out]; show (if _ then _ else _) = _; rw [HP.out, if_pos HOK.out, if_pos hsl])
              clear hsl
              go_wp2
              go_roundw
              case rel => exact ⟨j + 1, lgNext P j s, _, by omega, by go_num, by rw [HF.out]; have hmm := HMm.out; congr 1; omega, ⟨HFit.out.1, by show 41 * (s.ts ++ P.ts).length ≤ _; rw [List.length_append]; exact HBnd.out⟩, HR.out, HOZ.out⟩
              case measure => simp [intOf]; omega
          · intro K hK
            have c8 := HL0.out.at_.cell 8 rfl
            go_simp
            clear c8
            refine hK.out _ _ (HAp.out.cells.1) (fun _ => ?_)
            clear hK K
            try simp only [Act.put, List.setIfInBounds_toArray, List.set_cons_zero, List.set_cons_succ]
            (apply ordT_only; (simp only [List.getElem?_toArray, List.getElem?_cons_succ, List.getElem?_cons_zero]; rfl); rfl; intro K hK)
            go_simp
            refine hK.out _ _ (hAE) (fun _ => ?_)
            clear hK K
            try simp only [Act.put, List.setIfInBounds_toArray, List.set_cons_zero, List.set_cons_succ]
            (apply ordT_only; (simp only [List.getElem?_toArray, List.getElem?_cons_succ, List.getElem?_cons_zero]; rfl); rfl; intro K hK)
            refine oper_append _ _ 28 rfl _ _ rfl rfl HX6.out ?_
            refine hK.out _ _ (RlC0) (fun _ => ?_)
            clear hK K
            try simp only [Act.put, List.setIfInBounds_toArray, List.set_cons_zero, List.set_cons_succ]
            (apply ordT_only; (simp only [List.getElem?_toArray, List.getElem?_cons_succ, List.getElem?_cons_zero]; rfl); rfl; intro K hK)
            refine oper_append _ _ 28 rfl _ _ rfl rfl HX9.out ?_
            refine hK.out _ _ (RlC1) (fun _ => ?_)
            clear hK K
            try simp only [Act.put, List.setIfInBounds_toArray, List.set_cons_zero, List.set_cons_succ]
            iterate 2 (apply ordT_take; (simp only [List.getElem?_toArray, List.getElem?_cons_succ, List.getElem?_cons_zero]; rfl); rfl; (intro w hSw; (try dsimp only at hSw); go_simp; try with_reducible rfl); intro _; try simp only [Act.put, List.setIfInBounds_toArray, List.set_cons_zero, List.set_cons_succ])
            (apply ordT_only; (simp only [List.getElem?_toArray, List.getElem?_cons_succ, List.getElem?_cons_zero]; rfl); rfl; intro K hK)
            have c8 := HLb.out.at_.cell 8 rfl
            have f8 := HLb.out.at_.frozen 8
            go_simp
            clear c8 f8
            refine hK.out _ _ (hw4) (fun _ => ?_)
            clear hK K
            try simp only [Act.put, List.setIfInBounds_toArray, List.set_cons_zero, List.set_cons_succ]
            apply ordT_done
            have HA0 : Hid (AtN (wqb.setCell ⟨gl, 8, none⟩ (.slice a2 n2 c2)) gl 58 [dv, .int .i64 frm, .int .i64 segs, .int .i64 (size : Int), strV B, .int .i64 (s.last : Int), .int .i64 (s.used : Int), .int .i64 clean, .slice a2 n2 c2, strV s.ch, .int .i64 sure, .bool s.sealed, .bool dead]) := Lib.hid (HLb.out.at_.set 8 (.slice a2 n2 c2))
            have HO0 : Hid (Only (fun k => k = gl) wqb (wqb.setCell ⟨gl, 8, none⟩ (.slice a2 n2 c2))) := Lib.hid (only_cell _ _ _ _)
            have HP0 := Lib.hid (HApb.out.only HO0.out Hgp.out.1)
            generalize wqb.setCell ⟨gl, 8, none⟩ (.slice a2 n2 c2) = wc0 at *
            clear HX6 HX9 hw4 hAE RlC0 RlC1 HLE HL0 HLg HAp
            have c9 := HA0.out.cell 9 rfl
            have f9 := HA0.out.frozen 9
            have y9 := HP0.out.cells.2.1
            go_upto_region 8 with fail
            clear c9 f9 y9
            have HA1 : Hid (AtN (wc0.setCell ⟨gl, 9, none⟩ (strV P.ch)) gl 58 [dv, .int .i64 frm, .int .i64 segs, .int .i64 (size : Int), strV B, .int .i64 (s.last : Int), .int .i64 (s.used : Int), .int .i64 clean, .slice a2 n2 c2, strV P.ch, .int .i64 sure, .bool s.sealed, .bool dead]) := Lib.hid (HA0.out.set 9 (strV P.ch))
            have HO1 : Hid (Only (fun k => k = gl) wqb (wc0.setCell ⟨gl, 9, none⟩ (strV P.ch))) := Lib.hid (HO0.out.trans (only_cell _ _ _ _) (fun _ _ h => h))
            have HP1 := Lib.hid (HApb.out.only HO1.out Hgp.out.1)
            generalize wc0.setCell ⟨gl, 9, none⟩ (strV P.ch) = wc1 at *
            clear HA0 HP0 HO0
            have c9 := HA1.out.cell 5 rfl
            have f9 := HA1.out.frozen 5
            go_upto_region 9 with fail
            clear c9 f9
            have HA2 : Hid (AtN (wc1.setCell ⟨gl, 5, none⟩ (.int .i64 (j : Int))) gl 58 [dv, .int .i64 frm, .int .i64 segs, .int .i64 (size : Int), strV B, .int .i64 (j : Int), .int .i64 (s.used : Int), .int .i64 clean, .slice a2 n2 c2, strV P.ch, .int .i64 sure, .bool s.sealed, .bool dead]) := Lib.hid (HA1.out.set 5 (.int .i64 (j : Int)))
            have HO2 : Hid (Only (fun k => k = gl) wqb (wc1.setCell ⟨gl, 5, none⟩ (.int .i64 (j : Int)))) := Lib.hid (HO1.out.trans (only_cell _ _ _ _) (fun _ _ h => h))
            have HP2 := Lib.hid (HApb.out.only HO2.out Hgp.out.1)
            generalize wc1.setCell ⟨gl, 5, none⟩ (.int .i64 (j : Int)) = wc2 at *
            clear HA1 HP1 HO1
            have c9 := HA2.out.cell 6 rfl
            have f9 := HA2.out.frozen 6
            have y9 := HP2.out.cells.2.2.2
            go_upto_region 10 with fail
            clear c9 f9 y9
            have HA3 : Hid (AtN (wc2.setCell ⟨gl, 6, none⟩ (.int .i64 (P.used : Int))) gl 58 [dv, .int .i64 frm, .int .i64 segs, .int .i64 (size : Int), strV B, .int .i64 (j : Int), .int .i64 (P.used : Int), .int .i64 clean, .slice a2 n2 c2, strV P.ch, .int .i64 sure, .bool s.sealed, .bool dead]) := Lib.hid (HA2.out.set 6 (.int .i64 (P.used : Int)))
            have HO3 : Hid (Only (fun k => k = gl) wqb (wc2.setCell ⟨gl, 6, none⟩ (.int .i64 (P.used : Int)))) := Lib.hid (HO2.out.trans (only_cell _ _ _ _) (fun _ _ h => h))
            have HP3 := Lib.hid (HApb.out.only HO3.out Hgp.out.1)
            generalize wc2.setCell ⟨gl, 6, none⟩ (.int .i64 (P.used : Int)) = wc3 at *
            clear HA2 HP2 HO2
            have c9 := HA3.out.cell 11 rfl
            have f9 := HA3.out.frozen 11
            have y9 := HP3.out.cells.2.2.1
            go_upto_region 11 with fail
            clear c9 f9 y9
            have HA4 : Hid (AtN (wc3.setCell ⟨gl, 11, none⟩ (.bool P.sealed)) gl 58 [dv, .int .i64 frm, .int .i64 segs, .int .i64 (size : Int), strV B, .int .i64 (j : Int), .int .i64 (P.used : Int), .int .i64 clean, .slice a2 n2 c2, strV P.ch, .int .i64 sure, .bool P.sealed, .bool dead]) := Lib.hid (HA3.out.set 11 (.bool P.sealed))
            have HO4 : Hid (Only (fun k => k = gl) wqb (wc3.setCell ⟨gl, 11, none⟩ (.bool P.sealed))) := Lib.hid (HO3.out.trans (only_cell _ _ _ _) (fun _ _ h => h))
            have HP4 := Lib.hid (HApb.out.only HO4.out Hgp.out.1)
            generalize wc3.setCell ⟨gl, 11, none⟩ (.bool P.sealed) = wc4 at *
            clear HA3 HP3 HO3
            have HR : Hid (RLg wc4 b0 gl dv frm segs (size : Int) B (lgNext P j s) (.slice a2 n2 c2) clean sure dead) := Lib.hid ⟨HA4.out, own_moreT HQ.out (fun k hk hl => HO4.out.block k hl (fun e => own_neT HQ.out HLb.out.at_ (by decide) (by rw [hk, e]))), HLb.out.ge⟩
            have HOZ : Hid (Only (fun k => k = gl) w wc4) := Lib.hid ((HOn.out.trans (New.only (F := fun k => k = gl) HNb.out) (fun _ _ h => h)).trans HO4.out (fun _ _ h => h))
            have HFit := Lib.hid hfit
            have HBnd := Lib.hid hbnd
            have y2 := HP4.out.cells.2.2.1
            clear hfit hbnd HLb HApb HNb HQ HA4 HO4 HOn HP4 HRd
            obtain ⟨sl, hsl⟩ : ∃ sl, P.sealed = sl := ⟨_, rfl⟩
            rw [hsl] at y2
            cases sl
            · have HF : Hid (lgTold B z n 0 s0 = lgNext P j s) := Lib.hid (by rw [HT.out]; unfold lgTold; rw [HP.out, if_pos HOK.out, if_neg (by rw [hsl]; decide)])
              clear hsl
              go_wp2
              (try simp only [Exit.inBlock, Exit.then])
              refine bodyPost_ret (results_none rfl _ _ _) rfl ?_
              exact ⟨rfl, _, by rw [HF.out, HSG.out]; exact HR.out, HOZ.out⟩
            · have HF : Hid (lgTold B z n 0 s0 = lgTold B z m (j + 1) (lgNext P j s)) := Lib.hid (by rw [HT.out]; show (if _ then _ else _) = _; rw [HP.out, if_pos HOK.out, if_pos hsl])
              clear hsl
              go_wp2
              go_roundw
              case rel => exact ⟨j + 1, lgNext P j s, _, by omega, by go_num, by rw [HF.out]; have hmm := HMm.out; congr 1; omega, ⟨HFit.out.1, by show 41 * (s.ts ++ P.ts).length ≤ _; rw [List.length_append]; exact HBnd.out⟩, HR.out, HOZ.out⟩
              case measure => simp [intOf]; omega
    · obtain rfl : j = n := by omega
      have HF : Hid (lgTold B z j 0 s0 = s) := Lib.hid (by rw [hT, Nat.sub_self]; rfl)
      clear hT
      go_wp2
      go_end0
      exact ⟨rfl, _, by rw [HF.out, HSG.out]; exact HLg.out, HOn.out⟩

end Go.Proofs.YtijkmpcgkhijgaaGreatDoor

namespace Go.Proofs.YtijkmpcgkhijgaaGreatDoor
set_option linter.unusedVariables false
set_option linter.unusedSimpArgs false
open Go.RowKit

/-- make([]byte, n), as a string -/
theorem zeroStr15 (n : Nat) (hn : n ≤ 100000000) (wx : World) : (convert 42 9 (.slice (some ⟨wx.heap.size, 0, none⟩) n n)).run Tryz.prog (wx.alloc (.cells (List.replicate n (bv 0)).toArray 5)) = .ok (.string (bstr (List.replicate n 0))) (wx.alloc (.cells (List.replicate n (bv 0)).toArray 5)) := by
  have h := rd_of_row (w := wx.alloc (.cells (List.replicate n (bv 0)).toArray 5)) (g := wx.heap.size) (l := List.replicate n 0) (t := 5) (fr := (0, 0)) (by rw [List.map_replicate]; exact heap_alloc_new _ _) (by simp; omega)
  rw [List.length_replicate] at h
  exact run_str (P := Tryz.prog) Tryz.underlying42 Tryz.underlying5 Tryz.underlying9 h

/-- the region, what it tells, where that ends -/
def roB (S : List (List UInt8)) (frm segs size : Nat) : List UInt8 := seeAll S [] [] frm (segs * size)
def roT (S : List (List UInt8)) (frm segs size : Nat) : LgS := lgTold (roB S frm segs size) (128 * size) segs 0 lgStart
def roE (S : List (List UInt8)) (frm segs size : Nat) : Nat := 128 * size * (roT S frm segs size).last + (roT S frm segs size).used

def ROpenTo (w : World) (g : Nat) (S : List (List UInt8)) (frm segs size : Nat) (e : Ending) (w' : World) : Prop :=
  ∃ gl vT B', e = .returned (.tuple #[.pointer (some ⟨gl, 0, none⟩), .int .i64 0]) ∧ RLg w' w.heap.size gl (.pointer (some ⟨g, 0, none⟩)) frm segs size B' (roT S frm segs size) vT (roE S frm segs size) ((roT S frm segs size).ts.length : Int) false ∧ Only (fun k => k = g) w w'

/-- what region 8 of Open ends in: the same bytes up to the end, zeros behind -/
def zeroed (B : List UInt8) (e : Nat) : List UInt8 := B.take e ++ List.replicate (B.length - e) 0
theorem zeroed_length {B : List UInt8} {e : Nat} (h : e ≤ B.length) : (zeroed B e).length = B.length := by
  unfold zeroed; rw [List.length_append, List.length_take, List.length_replicate]; omega

set_option maxRecDepth 100000 in
set_option maxHeartbeats 4000000 in
theorem refOpen15 {w : World} {b0 g : Nat} {vS vA vW : Value} {S : List (List UInt8)} (h : RDk (-1) w b0 g vS vA vW S [] []) (hb : b0 ≤ w.heap.size) (frm segs size : Nat) (hs : 1 ≤ segs) (hz : 1 ≤ size) (hfit : frm + segs * size ≤ S.length) (hbz : 128 * size * segs ≤ 1000000) (hfr : frm ≤ 100000) (hsl : S.length ≤ 50000) :
    Calls Tryz.prog 22 #[.pointer (some ⟨g, 0, none⟩), .int .i64 (frm : Int), .int .i64 (segs : Int), .int .i64 (size : Int)] w (ROpenTo w g S frm segs size) := by
  obtain ⟨N, hN⟩ : ∃ N, segs * size = N := ⟨_, rfl⟩
  have HNN := Lib.hid hN
  rw [hN] at hfit
  have hN1 : (segs : Int) * (size : Int) = (N : Int) := by rw [← hN]; simp
  have hNb : N ≤ 100000 := by omega
  have HFI := Lib.hid hfit
  obtain ⟨B, HB⟩ : ∃ B, Hid (roB S frm segs size = B) := ⟨_, Lib.hid rfl⟩
  obtain ⟨T, HTT⟩ : ∃ T, Hid (roT S frm segs size = T) := ⟨_, Lib.hid rfl⟩
  obtain ⟨e, HEE⟩ : ∃ e, Hid (roE S frm segs size = e) := ⟨_, Lib.hid rfl⟩
  have hBl : B.length = 128 * size * segs := by
    rw [← HB.out]; unfold roB
    rw [seeAll_length h.lS (fun s hs => by cases hs) rfl (by rw [hN]; exact hfit), Nat.mul_assoc, Nat.mul_comm size]
  have hfits := lgTold_fits hBl segs 0 lgStart (by omega) (by simp [lgStart]) (.inr ⟨rfl, rfl⟩) (by simp [lgStart])
  have hTe : lgTold B (128 * size) segs 0 lgStart = T := by rw [← HTT.out, ← HB.out]; rfl
  rw [hTe, Nat.zero_add] at hfits
  have hEe : 128 * size * T.last + T.used = e := by rw [← HEE.out]; unfold roE; rw [HTT.out]
  rw [hEe] at hfits
  have HTe := Lib.hid hTe
  have HEe := Lib.hid hEe
  have HFT := Lib.hid hfits
  have HBL := Lib.hid hBl
  have HBZ := Lib.hid hbz
  have HSZ : Hid (1 ≤ size) := Lib.hid hz
  have HH := Lib.hid h
  have HB0 := Lib.hid hb
  have HG : Hid (g < w.heap.size) := Lib.hid h.at_.lt
  have HSL := Lib.hid hsl
  have hseg : segs ≤ 1000000 := Nat.le_trans (Nat.le_mul_of_pos_left segs (by omega)) hbz
  have hsiz : size ≤ 1000000 := by
    have h1 : 128 * size ≤ 128 * size * segs := Nat.le_mul_of_pos_right _ (by omega)
    omega
  have heB : e ≤ 1000000 := by have := hfits.2.1; omega
  obtain ⟨nB, hnB⟩ : ∃ nB, B.length = nB := ⟨_, rfl⟩
  have HNB := Lib.hid hnB
  have hnBb : nB ≤ 1000000 := by omega
  have hen : e ≤ nB := by have := hfits.2.1; omega
  have HNB2 : Hid (nB = 128 * N) := Lib.hid (by rw [← hnB, hBl, ← hN, Nat.mul_assoc, Nat.mul_comm size])
  have hzB : (bstr B).size = nB := by rw [bstr_size]; exact hnB
  have hzB2 : (bstr (zeroed B e)).size = nB := by rw [bstr_size, zeroed_length (by omega)]; exact hnB
  obtain ⟨r, hr⟩ : ∃ r, nB - e = r := ⟨_, rfl⟩
  have hrw : IntKind.i64.wrap ((nB : Int) - (e : Int)) = (r : Int) := by rw [IntWalk.i64_in _ (by omega)]; omega
  have hrb : r ≤ 1000000 := by omega
  have hx1 : (bstr B).extract 0 e = bstr (B.take e) := bstr_to B e
  have hz1 : (bstr (B.take e)).size = e := by rw [bstr_size, List.length_take]; omega
  have hz2 : (bstr (List.replicate r 0)).size = r := by rw [bstr_size, List.length_replicate]
  have hj1 : bstr (B.take e) ++ bstr (List.replicate r 0) = bstr (zeroed B e) := by
    rw [bstr_append]; unfold zeroed; rw [hnB, hr]
  have hmk : ∀ wx : World, (Instr.makeSlice 42 (.int .i64 (r : Int)) (.int .i64 (r : Int))).run Tryz.prog wx = .ok (.slice (some ⟨wx.heap.size, 0, none⟩) r r) (wx.alloc (.cells (List.replicate r (bv 0)).toArray 5)) := fun wx => by
    have := run_make10 r (by omega) wx
    rwa [List.map_replicate] at this
  have HMK := Lib.hid hmk
  have HST := Lib.hid (zeroStr15 r (by omega))
  have HJ8 := Lib.hid (And.intro hrw (And.intro hx1 (And.intro hz1 (And.intro hz2 hj1))))
  have HZr := Lib.hid (fun wx => refZero12 wx)
  have HRd := Lib.hid (fun wx (hn : New w wx) => rdkRead (HH.out.new hn) frm N HFI.out)
  rw [show seeAll S [] [] frm N = B by rw [← HB.out, ← hN]; rfl] at HRd
  clear h hb hs hz hfit hbz hN hBl hfits hTe hEe hnB hr hrw hx1 hz1 hz2 hj1 hmk hsl
  go_enter Tryz.func22, Tryz.ntmps22
  go_wp2_with fail
  refine (HZr.out w).mono ?_
  rintro _ w1 ⟨rfl, N1⟩
  have HN1 := Lib.hid N1
  clear N1
  go_upto_region 2 with fail
  generalize hw2 : World.alloc w1 _ = w2
  have HL2 : Hid (RLg w2 w.heap.size w1.heap.size (.pointer (some ⟨g, 0, none⟩)) frm segs size [] lgStart (.slice none 0 0) 0 0 false) := Lib.hid ⟨by rw [← hw2]; exact heap_alloc_new _ _, World.ownsRow_nil _ _ _ _, HN1.out.size⟩
  have M2 : New w1 w2 := by rw [← hw2]; exact (Below.refl _ _).alloc (Nat.le_refl _) _
  have HN2 := Lib.hid (New.trans HN1.out M2)
  clear hw2 M2 HN1 HZr
  obtain ⟨gl, hgl⟩ : ∃ x, w1.heap.size = x := ⟨_, rfl⟩
  rw [hgl] at HL2
  rw [hgl]
  clear hgl
  go_wp2_with fail
  refine (HRd.out w2 HN2.out).mono ?_
  rintro _ w3 ⟨rfl, M3⟩
  have HL3 := Lib.hid (HL2.out.new M3)
  have HN3 := Lib.hid (New.trans HN2.out M3)
  clear M3 HL2 HN2 HRd
  have c4 := HL3.out.at_.cell 4 rfl
  have f4 := HL3.out.at_.frozen 4
  go_upto_region 6 with fail
  clear c4 f4
  have HL4 : Hid (RLg (w3.setCell ⟨gl, 4, none⟩ (.string (bstr B))) w.heap.size gl (.pointer (some ⟨g, 0, none⟩)) frm segs size B lgStart (.slice none 0 0) 0 0 false) := Lib.hid ⟨HL3.out.at_.set 4 (.string (bstr B)), World.ownsRow_nil _ _ _ _, HL3.out.ge⟩
  have HN4 : Hid (New w (w3.setCell ⟨gl, 4, none⟩ (.string (bstr B)))) := Lib.hid (Below.trans HN3.out ((only_cell w3 gl 4 _).below HN3.out.size (fun k hk => by have := HL3.out.ge; omega)))
  generalize w3.setCell ⟨gl, 4, none⟩ (.string (bstr B)) = w4 at *
  clear HL3 HN3
  have HTo := Lib.hid (refTold HL4.out HN4.out.size HBL.out HBZ.out HSZ.out (by simp [lgStart]) rfl)
  rw [HTe.out] at HTo
  go_wp2_with fail
  refine HTo.out.mono ?_
  rintro _ w5 ⟨rfl, vT, hl5, ho5⟩
  have HL5 := Lib.hid hl5
  have HN5 : Hid (New w w5) := Lib.hid (Below.trans HN4.out (ho5.below HN4.out.size (fun k hk => by have := HL4.out.ge; omega)))
  clear hl5 ho5 HTo HL4 HN4
  have HEn := Lib.hid (refEnd15 HL5.out HSZ.out (by rw [HEe.out]; omega))
  rw [HEe.out] at HEn
  go_wp2_with fail
  refine HEn.out.mono ?_
  rintro _ w6 ⟨rfl, M6⟩
  have HL6 := Lib.hid (HL5.out.new M6)
  have HN6 := Lib.hid (New.trans HN5.out M6)
  clear M6 HL5 HN5 HEn
  go_upto_region 8 with fail
  refine region_ordT (fun _ => True) (.take 0 (.take 1 (.take 2 (.take 3 (.take 5 (.take 7 (.take 8 (.take 9 (.take 12 (.two 4 10 (.take 6 (.only 10 (.take 11 (.take 13 (.only 14 (.only 15 (.take 16 (.take 17 (.take 18 (.only 19 .nil)))))))))) (.take 11 (.take 13 (.two 4 14 (.take 6 (.only 14 (.only 15 (.take 16 (.take 17 (.take 18 (.only 19 .nil))))))) (.two 4 15 (.take 6 (.only 15 (.take 16 (.take 17 (.take 18 (.only 19 .nil)))))) (.only 4 (.take 6 (.take 16 (.take 17 (.take 18 (.only 19 .nil))))))))))))))))))) ) (by kernel_rfl) (by kernel_rfl) trivial (fun _ => ?_)
  have ND : New w6 w6.drew := (Below.refl _ _).drew
  have HL7 := Lib.hid (HL6.out.new ND)
  have HN7 := Lib.hid (New.trans HN6.out ND)
  clear ND HL6 HN6
  generalize w6.drew = wd at *
  have HNm : Hid (New wd (wd.alloc (.cells (List.replicate r (bv 0)).toArray 5))) := Lib.hid ((Below.refl _ _).alloc (Nat.le_refl _) _)
  have HLm := Lib.hid (HL7.out.new HNm.out)
  obtain ⟨hrw, hx1, hz1, hz2, hj1⟩ := HJ8.out
  have hsum : ¬ (9223372036854775807 < e + r) := by omega
  have hst := HST.out wd
  have hmk := HMK.out
  generalize (List.replicate r (bv 0)).toArray = RZ at *
  generalize bstr (List.replicate r 0) = BZ at *
  refine Boxed.out ?_
  apply both_ways
  · intro HEND
    refine ⟨?_⟩
    iterate 9 (apply ordT_take; (simp only [List.getElem?_toArray, List.getElem?_cons_succ, List.getElem?_cons_zero]; rfl); rfl; (intro w hSw; (try dsimp only at hSw); go_simp; try with_reducible rfl); intro _; try simp only [Act.put, List.setIfInBounds_toArray, List.set_cons_zero, List.set_cons_succ])
    (apply ordT_two; (simp only [List.getElem?_toArray, List.getElem?_cons_succ, List.getElem?_cons_zero]; rfl); rfl; (simp only [List.getElem?_toArray, List.getElem?_cons_succ, List.getElem?_cons_zero]; rfl); rfl)
    · intro K hK
      have HL := HL7
      have c4 := HL.out.at_.cell 4 rfl
      go_simp
      clear c4
      refine hK.out _ _ (trivial) (fun _ => ?_)
      clear hK K
      try simp only [Act.put, List.setIfInBounds_toArray, List.set_cons_zero, List.set_cons_succ]
      iterate 1 (apply ordT_take; (simp only [List.getElem?_toArray, List.getElem?_cons_succ, List.getElem?_cons_zero]; rfl); rfl; (intro w hSw; (try dsimp only at hSw); go_simp; try with_reducible rfl); intro _; try simp only [Act.put, List.setIfInBounds_toArray, List.set_cons_zero, List.set_cons_succ])
      (apply ordT_only; (simp only [List.getElem?_toArray, List.getElem?_cons_succ, List.getElem?_cons_zero]; rfl); rfl; intro K hK)
      have HL := HL7
      have c4 := HL.out.at_.cell 4 rfl
      go_simp
      clear c4
      refine hK.out _ _ (trivial) (fun _ => ?_)
      clear hK K
      try simp only [Act.put, List.setIfInBounds_toArray, List.set_cons_zero, List.set_cons_succ]
      iterate 2 (apply ordT_take; (simp only [List.getElem?_toArray, List.getElem?_cons_succ, List.getElem?_cons_zero]; rfl); rfl; (intro w hSw; (try dsimp only at hSw); go_simp; try with_reducible rfl); intro _; try simp only [Act.put, List.setIfInBounds_toArray, List.set_cons_zero, List.set_cons_succ])
      (apply ordT_only; (simp only [List.getElem?_toArray, List.getElem?_cons_succ, List.getElem?_cons_zero]; rfl); rfl; intro K hK)
      go_simp
      refine hK.out _ _ (trivial) (fun _ => ?_)
      clear hK K
      try simp only [Act.put, List.setIfInBounds_toArray, List.set_cons_zero, List.set_cons_succ]
      (apply ordT_only; (simp only [List.getElem?_toArray, List.getElem?_cons_succ, List.getElem?_cons_zero]; rfl); rfl; intro K hK)
      go_simp
      refine hK.out _ _ (trivial) (fun _ => ?_)
      clear hK K
      try simp only [Act.put, List.setIfInBounds_toArray, List.set_cons_zero, List.set_cons_succ]
      iterate 3 (apply ordT_take; (simp only [List.getElem?_toArray, List.getElem?_cons_succ, List.getElem?_cons_zero]; rfl); rfl; (intro w hSw; (try dsimp only at hSw); go_simp; try with_reducible rfl); intro _; try simp only [Act.put, List.setIfInBounds_toArray, List.set_cons_zero, List.set_cons_succ])
      (apply ordT_only; (simp only [List.getElem?_toArray, List.getElem?_cons_succ, List.getElem?_cons_zero]; rfl); rfl; intro K hK)
      have c4 := HLm.out.at_.cell 4 rfl
      have f4 := HLm.out.at_.frozen 4
      go_simp
      clear c4 f4
      refine hK.out _ _ (trivial) (fun _ => ?_)
      clear hK K
      try simp only [Act.put, List.setIfInBounds_toArray, List.set_cons_zero, List.set_cons_succ]
      apply ordT_done
      exact HEND.out
    · intro K hK
      have HL := HL7
      have c4 := HL.out.at_.cell 4 rfl
      go_simp
      clear c4
      refine hK.out _ _ (trivial) (fun _ => ?_)
      clear hK K
      try simp only [Act.put, List.setIfInBounds_toArray, List.set_cons_zero, List.set_cons_succ]
      iterate 2 (apply ordT_take; (simp only [List.getElem?_toArray, List.getElem?_cons_succ, List.getElem?_cons_zero]; rfl); rfl; (intro w hSw; (try dsimp only at hSw); go_simp; try with_reducible rfl); intro _; try simp only [Act.put, List.setIfInBounds_toArray, List.set_cons_zero, List.set_cons_succ])
      (apply ordT_two; (simp only [List.getElem?_toArray, List.getElem?_cons_succ, List.getElem?_cons_zero]; rfl); rfl; (simp only [List.getElem?_toArray, List.getElem?_cons_succ, List.getElem?_cons_zero]; rfl); rfl)
      · intro K hK
        have HL := HL7
        have c4 := HL.out.at_.cell 4 rfl
        go_simp
        clear c4
        refine hK.out _ _ (trivial) (fun _ => ?_)
        clear hK K
        try simp only [Act.put, List.setIfInBounds_toArray, List.set_cons_zero, List.set_cons_succ]
        iterate 1 (apply ordT_take; (simp only [List.getElem?_toArray, List.getElem?_cons_succ, List.getElem?_cons_zero]; rfl); rfl; (intro w hSw; (try dsimp only at hSw); go_simp; try with_reducible rfl); intro _; try simp only [Act.put, List.setIfInBounds_toArray, List.set_cons_zero, List.set_cons_succ])
        (apply ordT_only; (simp only [List.getElem?_toArray, List.getElem?_cons_succ, List.getElem?_cons_zero]; rfl); rfl; intro K hK)
        go_simp
        refine hK.out _ _ (trivial) (fun _ => ?_)
        clear hK K
        try simp only [Act.put, List.setIfInBounds_toArray, List.set_cons_zero, List.set_cons_succ]
        (apply ordT_only; (simp only [List.getElem?_toArray, List.getElem?_cons_succ, List.getElem?_cons_zero]; rfl); rfl; intro K hK)
        go_simp
        refine hK.out _ _ (trivial) (fun _ => ?_)
        clear hK K
        try simp only [Act.put, List.setIfInBounds_toArray, List.set_cons_zero, List.set_cons_succ]
        iterate 3 (apply ordT_take; (simp only [List.getElem?_toArray, List.getElem?_cons_succ, List.getElem?_cons_zero]; rfl); rfl; (intro w hSw; (try dsimp only at hSw); go_simp; try with_reducible rfl); intro _; try simp only [Act.put, List.setIfInBounds_toArray, List.set_cons_zero, List.set_cons_succ])
        (apply ordT_only; (simp only [List.getElem?_toArray, List.getElem?_cons_succ, List.getElem?_cons_zero]; rfl); rfl; intro K hK)
        have c4 := HLm.out.at_.cell 4 rfl
        have f4 := HLm.out.at_.frozen 4
        go_simp
        clear c4 f4
        refine hK.out _ _ (trivial) (fun _ => ?_)
        clear hK K
        try simp only [Act.put, List.setIfInBounds_toArray, List.set_cons_zero, List.set_cons_succ]
        apply ordT_done
        exact HEND.out
      · intro K hK
        go_simp
        refine hK.out _ _ (trivial) (fun _ => ?_)
        clear hK K
        try simp only [Act.put, List.setIfInBounds_toArray, List.set_cons_zero, List.set_cons_succ]
        (apply ordT_two; (simp only [List.getElem?_toArray, List.getElem?_cons_succ, List.getElem?_cons_zero]; rfl); rfl; (simp only [List.getElem?_toArray, List.getElem?_cons_succ, List.getElem?_cons_zero]; rfl); rfl)
        · intro K hK
          have HL := HLm
          have c4 := HL.out.at_.cell 4 rfl
          go_simp
          clear c4
          refine hK.out _ _ (trivial) (fun _ => ?_)
          clear hK K
          try simp only [Act.put, List.setIfInBounds_toArray, List.set_cons_zero, List.set_cons_succ]
          iterate 1 (apply ordT_take; (simp only [List.getElem?_toArray, List.getElem?_cons_succ, List.getElem?_cons_zero]; rfl); rfl; (intro w hSw; (try dsimp only at hSw); go_simp; try with_reducible rfl); intro _; try simp only [Act.put, List.setIfInBounds_toArray, List.set_cons_zero, List.set_cons_succ])
          (apply ordT_only; (simp only [List.getElem?_toArray, List.getElem?_cons_succ, List.getElem?_cons_zero]; rfl); rfl; intro K hK)
          go_simp
          refine hK.out _ _ (trivial) (fun _ => ?_)
          clear hK K
          try simp only [Act.put, List.setIfInBounds_toArray, List.set_cons_zero, List.set_cons_succ]
          iterate 3 (apply ordT_take; (simp only [List.getElem?_toArray, List.getElem?_cons_succ, List.getElem?_cons_zero]; rfl); rfl; (intro w hSw; (try dsimp only at hSw); go_simp; try with_reducible rfl); intro _; try simp only [Act.put, List.setIfInBounds_toArray, List.set_cons_zero, List.set_cons_succ])
          (apply ordT_only; (simp only [List.getElem?_toArray, List.getElem?_cons_succ, List.getElem?_cons_zero]; rfl); rfl; intro K hK)
          have c4 := HLm.out.at_.cell 4 rfl
          have f4 := HLm.out.at_.frozen 4
          go_simp
          clear c4 f4
          refine hK.out _ _ (trivial) (fun _ => ?_)
          clear hK K
          try simp only [Act.put, List.setIfInBounds_toArray, List.set_cons_zero, List.set_cons_succ]
          apply ordT_done
          exact HEND.out
        · intro K hK
          go_simp
          refine hK.out _ _ (trivial) (fun _ => ?_)
          clear hK K
          try simp only [Act.put, List.setIfInBounds_toArray, List.set_cons_zero, List.set_cons_succ]
          (apply ordT_only; (simp only [List.getElem?_toArray, List.getElem?_cons_succ, List.getElem?_cons_zero]; rfl); rfl; intro K hK)
          have HL := HLm
          have c4 := HL.out.at_.cell 4 rfl
          go_simp
          clear c4
          refine hK.out _ _ (trivial) (fun _ => ?_)
          clear hK K
          try simp only [Act.put, List.setIfInBounds_toArray, List.set_cons_zero, List.set_cons_succ]
          iterate 1 (apply ordT_take; (simp only [List.getElem?_toArray, List.getElem?_cons_succ, List.getElem?_cons_zero]; rfl); rfl; (intro w hSw; (try dsimp only at hSw); go_simp; try with_reducible rfl); intro _; try simp only [Act.put, List.setIfInBounds_toArray, List.set_cons_zero, List.set_cons_succ])
          iterate 3 (apply ordT_take; (simp only [List.getElem?_toArray, List.getElem?_cons_succ, List.getElem?_cons_zero]; rfl); rfl; (intro w hSw; (try dsimp only at hSw); go_simp; try with_reducible rfl); intro _; try simp only [Act.put, List.setIfInBounds_toArray, List.set_cons_zero, List.set_cons_succ])
          (apply ordT_only; (simp only [List.getElem?_toArray, List.getElem?_cons_succ, List.getElem?_cons_zero]; rfl); rfl; intro K hK)
          have c4 := HLm.out.at_.cell 4 rfl
          have f4 := HLm.out.at_.frozen 4
          go_simp
          clear c4 f4
          refine hK.out _ _ (trivial) (fun _ => ?_)
          clear hK K
          try simp only [Act.put, List.setIfInBounds_toArray, List.set_cons_zero, List.set_cons_succ]
          apply ordT_done
          exact HEND.out
  clear hrw hx1 hz1 hz2 hj1 hst hmk hsum
  have HL8 : Hid (RLg ((wd.alloc (.cells RZ 5)).setCell ⟨gl, 4, none⟩ (.string (bstr (zeroed B e)))) w.heap.size gl (.pointer (some ⟨g, 0, none⟩)) frm segs size (zeroed B e) T vT 0 0 false) := Lib.hid ⟨HLm.out.at_.set 4 (.string (bstr (zeroed B e))), own_moreT HLm.out.oT (fun k hk hl => heap_setCell_other _ _ _ _ (fun e' => own_neT HLm.out.oT HLm.out.at_ (by decide) (by rw [hk, e']))), HLm.out.ge⟩
  have HN8 : Hid (New w ((wd.alloc (.cells RZ 5)).setCell ⟨gl, 4, none⟩ (.string (bstr (zeroed B e))))) := Lib.hid (Below.trans (New.trans HN7.out HNm.out) ((only_cell _ gl 4 _).below (New.trans HN7.out HNm.out).size (fun k hk => by have := HL7.out.ge; omega)))
  generalize (wd.alloc (.cells RZ 5)).setCell ⟨gl, 4, none⟩ (.string (bstr (zeroed B e))) = w8 at *
  clear HL7 HLm HNm HN7 HMK HST HJ8
  have HDk8 := Lib.hid (HH.out.new HN8.out)
  have HO8 : Hid (Only (fun k => k = g) w w8) := Lib.hid (New.only HN8.out)
  have c4 := HL8.out.at_.cell 4 rfl
  by_cases hlt : e < nB
  · have hli : (e : Int) < (nB : Int) := by omega
    obtain ⟨q, hq⟩ : ∃ q, e / 128 = q := ⟨_, rfl⟩
    have hd1 : (e : Int).tdiv 128 = (q : Int) := by rw [Int.tdiv_eq_ediv_of_nonneg (by omega)]; omega
    have hd2 : (e : Int) / 128 = (q : Int) := by omega
    obtain ⟨q8, hq8⟩ : ∃ q8, 128 * q = q8 := ⟨_, rfl⟩
    have hq8i : 128 * (q : Int) = (q8 : Int) := by omega
    have hqn : q8 ≤ nB := by omega
    have hqN : q ≤ N := by have := HNB2.out; omega
    have hx8 : (bstr (zeroed B e)).extract q8 nB = bstr ((zeroed B e).drop q8) := bstr_from _ _ _ (by rw [zeroed_length (by rw [HNB.out]; omega)]; exact HNB.out)
    have hqi : (q8 : Int) ≤ (nB : Int) := by omega
    obtain ⟨fq, hfq⟩ : ∃ fq, frm + q = fq := ⟨_, rfl⟩
    have hfqi : (frm : Int) + (q : Int) = (fq : Int) := by omega
    have hfqb : fq ≤ 300000 := by omega
    have hqb : q ≤ 100000 := by omega
    have HWr := Lib.hid (rdkWrite HDk8.out (Nat.le_trans HB0.out HN8.out.size) fq (N - q) ((zeroed B e).drop q8) (by rw [List.length_drop, zeroed_length (by rw [HNB.out]; omega), HNB.out, HNB2.out]; omega) (by have := HFI.out; omega) (by have := HFI.out; have := HSL.out; simp; omega))
    clear hq hq8 hfq
    go_wp2_with fail
    refine HWr.out.mono ?_
    rintro _ w9 ⟨rfl, ⟨vS', vA', vW', hdk⟩, how⟩
    have HLx := Lib.hid (HL8.out.only how (fun k hk e => by have := HG.out; omega))
    have HDk := Lib.hid hdk
    have HO : Hid (Only (fun k => k = g) w w9) := Lib.hid (HO8.out.trans how (fun _ _ h => h))
    clear hdk how HWr HDk8 HL8 HO8 c4 hx8 hd1 hd2
    have HFl := Lib.hid (rdkFlush HDk.out (Nat.le_trans HB0.out HO.out.size))
    go_wp2_with fail
    refine HFl.out.mono ?_
    rintro _ wf ⟨rfl, -, hof⟩
    have HLf := Lib.hid (HLx.out.only hof (fun k hk e => by have := HG.out; omega))
    replace HO : Hid (Only (fun k => k = g) w wf) := Lib.hid (HO.out.trans hof (fun _ _ h => h))
    clear hof HFl HLx HDk
    obtain ⟨aT, cT, hvT, -, -⟩ := ownSl_form HLf.out.oT
    obtain ⟨nT, HnT⟩ : ∃ nT, Hid (T.ts.length = nT) := ⟨_, Lib.hid rfl⟩
    rw [HnT.out] at hvT
    subst hvT
    have c8 := HLf.out.at_.cell 8 rfl
    have f10 := HLf.out.at_.frozen 10
    have c10 := HLf.out.at_.cell 10 rfl
    go_upto_region 18 with fail
    clear c8 c10 f10
    have HA1 : Hid (AtN (wf.setCell ⟨gl, 10, none⟩ (.int .i64 (nT : Int))) gl 58 (rlgCells (.pointer (some ⟨g, 0, none⟩)) frm segs size (zeroed B e) T (.slice aT nT cT) 0 (nT : Int) false)) := Lib.hid (HLf.out.at_.set 10 (.int .i64 (nT : Int)))
    have HO1 : Hid (Only (fun k => k = gl) wf (wf.setCell ⟨gl, 10, none⟩ (.int .i64 (nT : Int)))) := Lib.hid (only_cell _ _ _ _)
    generalize wf.setCell ⟨gl, 10, none⟩ (.int .i64 (nT : Int)) = wg at *
    have f7 := HA1.out.frozen 7
    have c7 := HA1.out.cell 7 rfl
    go_wp2
    have HA2 : Hid (AtN (wg.setCell ⟨gl, 7, none⟩ (.int .i64 (e : Int))) gl 58 (rlgCells (.pointer (some ⟨g, 0, none⟩)) frm segs size (zeroed B e) T (.slice aT nT cT) e (nT : Int) false)) := Lib.hid (HA1.out.set 7 (.int .i64 (e : Int)))
    have HO2 : Hid (Only (fun k => k = gl) wf (wg.setCell ⟨gl, 7, none⟩ (.int .i64 (e : Int)))) := Lib.hid (HO1.out.trans (only_cell _ _ _ _) (fun _ _ h => h))
    go_ret2
    unfold ROpenTo
    rw [HTT.out, HEE.out, HnT.out]
    refine ⟨gl, .slice aT nT cT, zeroed B e, rfl, ⟨?_, own_moreT HLf.out.oT (fun k hk hl => HO2.out.block k hl (fun e' => own_neT HLf.out.oT HLf.out.at_ (by decide) (by rw [hk, e']))), HLf.out.ge⟩, HO.out.trans HO2.out (fun k hk e' => by have := HLf.out.ge; omega)⟩
    exact HA2.out
  · have hli : ¬ (e : Int) < (nB : Int) := by omega
    have HLx := HL8
    have HDk := HDk8
    have HO := HO8
    clear HDk8 HL8 HO8
    go_upto_region 14 with fail
    clear c4
    have HFl := Lib.hid (rdkFlush HDk.out (Nat.le_trans HB0.out HO.out.size))
    go_wp2_with fail
    refine HFl.out.mono ?_
    rintro _ wf ⟨rfl, -, hof⟩
    have HLf := Lib.hid (HLx.out.only hof (fun k hk e => by have := HG.out; omega))
    replace HO : Hid (Only (fun k => k = g) w wf) := Lib.hid (HO.out.trans hof (fun _ _ h => h))
    clear hof HFl HLx HDk
    obtain ⟨aT, cT, hvT, -, -⟩ := ownSl_form HLf.out.oT
    obtain ⟨nT, HnT⟩ : ∃ nT, Hid (T.ts.length = nT) := ⟨_, Lib.hid rfl⟩
    rw [HnT.out] at hvT
    subst hvT
    have c8 := HLf.out.at_.cell 8 rfl
    have f10 := HLf.out.at_.frozen 10
    have c10 := HLf.out.at_.cell 10 rfl
    go_upto_region 18 with fail
    clear c8 c10 f10
    have HA1 : Hid (AtN (wf.setCell ⟨gl, 10, none⟩ (.int .i64 (nT : Int))) gl 58 (rlgCells (.pointer (some ⟨g, 0, none⟩)) frm segs size (zeroed B e) T (.slice aT nT cT) 0 (nT : Int) false)) := Lib.hid (HLf.out.at_.set 10 (.int .i64 (nT : Int)))
    have HO1 : Hid (Only (fun k => k = gl) wf (wf.setCell ⟨gl, 10, none⟩ (.int .i64 (nT : Int)))) := Lib.hid (only_cell _ _ _ _)
    generalize wf.setCell ⟨gl, 10, none⟩ (.int .i64 (nT : Int)) = wg at *
    have f7 := HA1.out.frozen 7
    have c7 := HA1.out.cell 7 rfl
    go_wp2
    have HA2 : Hid (AtN (wg.setCell ⟨gl, 7, none⟩ (.int .i64 (e : Int))) gl 58 (rlgCells (.pointer (some ⟨g, 0, none⟩)) frm segs size (zeroed B e) T (.slice aT nT cT) e (nT : Int) false)) := Lib.hid (HA1.out.set 7 (.int .i64 (e : Int)))
    have HO2 : Hid (Only (fun k => k = gl) wf (wg.setCell ⟨gl, 7, none⟩ (.int .i64 (e : Int)))) := Lib.hid (HO1.out.trans (only_cell _ _ _ _) (fun _ _ h => h))
    go_ret2
    unfold ROpenTo
    rw [HTT.out, HEE.out, HnT.out]
    refine ⟨gl, .slice aT nT cT, zeroed B e, rfl, ⟨?_, own_moreT HLf.out.oT (fun k hk hl => HO2.out.block k hl (fun e' => own_neT HLf.out.oT HLf.out.at_ (by decide) (by rw [hk, e']))), HLf.out.ge⟩, HO.out.trans HO2.out (fun k hk e' => by have := HLf.out.ge; omega)⟩
    exact HA2.out

end Go.Proofs.YtijkmpcgkhijgaaGreatDoor
