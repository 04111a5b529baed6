/-
  The closures of BranchHash and ParentHash.
-/
import Derived.Test.YtliojldkdmaofaaDoorNodHash
namespace Go.Proofs.YtliojldkdmaofaaDoor
set_option linter.unusedVariables false
set_option linter.unusedSimpArgs false
set_option maxRecDepth 100000
open Go.RowKit

theorem NodeR.forms {w : World} {v : NodeV} {N : NodeL} (h : NodeR w v N) : ∃ a1 n1 c1 a2 n2 c2 a3 n3 c3, v = ⟨.slice a1 n1 c1, .slice a2 n2 c2, .slice a3 n3 c3⟩ := by
  obtain ⟨a1, n1, c1, e1, -⟩ := h.nm
  obtain ⟨a2, n2, c2, e2, -⟩ := h.pa
  obtain ⟨a3, n3, c3, e3, -⟩ := h.un
  obtain ⟨x, y, z⟩ := v
  exact ⟨a1, n1, c1, a2, n2, c2, a3, n3, c3, by rw [show x = _ from e1, show y = _ from e2, show z = _ from e3]⟩

theorem nWrote_fitS19 {N : NodeL} {s : Option (List UInt8)} {k j : Nat} (h : Fit s k) (hj : 100 + j ≤ k) : Fit (nWrote N s) j := by
  intro l hl
  unfold nWrote at hl
  split at hl
  · rename_i hok
    exact fit_app19 h (by have := nEnc_length hok; omega) l hl
  · cases hl

set_option maxHeartbeats 2000000 in
theorem branchFn (w : World) (p : Nat) (g : Option Nat) (s : Option (List UInt8)) (h : Pen w p g s) (b1 b2 b3 : Nat) (u : NodeV) (N : NodeL) (x y : Value) (l r : List UInt8)
    (h1 : NBlk w b1 u N) (h2 : Bx19 w b2 22 x) (h3 : Bx19 w b3 22 y) (hx : Rd w x l) (hy : Rd w y r) (ho : OffN19 p g u N) (ox : l ≠ [] → Off19 p g x) (oy : r ≠ [] → Off19 p g y)
    (o1 : ¬ (b1 = p ∨ some b1 = g)) (o2 : ¬ (b2 = p ∨ some b2 = g)) (o3 : ¬ (b3 = p ∨ some b3 = g)) (hb : Fit s (300 + l.length + r.length)) :
    Calls Tryd.prog 20 #[.pointer (some ⟨p, 0, none⟩), .pointer (some ⟨b1, 0, none⟩), .pointer (some ⟨b2, 0, none⟩), .pointer (some ⟨b3, 0, none⟩)] w (PenTo w p g (branchS N l r s)) := by
  have HP0 := Lib.hid (PenIn.start h)
  have HA := Lib.hid h1.at_
  have HU := Lib.hid h1.rd
  have HO := Lib.hid ho
  have HX := Lib.hid hx
  have HY := Lib.hid hy
  have HOX := Lib.hid ox
  have HOY := Lib.hid oy
  have HB2 := Lib.hid h2
  have HB3 := Lib.hid h3
  have HO2 := Lib.hid o2
  have HO3 := Lib.hid o3
  obtain ⟨a1, n1, c1, a2, n2, c2, a3, n3, c3, rfl⟩ := h1.rd.forms
  obtain ⟨ax, nx, cx, rfl⟩ : ∃ a n c, x = .slice a n c := by obtain ⟨a, n, c, e, -⟩ := hx; exact ⟨a, n, c, e⟩
  obtain ⟨ay, ny, cy, rfl⟩ : ∃ a n c, y = .slice a n c := by obtain ⟨a, n, c, e, -⟩ := hy; exact ⟨a, n, c, e⟩
  obtain ⟨rk, rn, ry, rp, ru⟩ := N
  dsimp only at HA
  unfold branchS
  have HW := Lib.hid (inWrite HP0.out _ _ HU.out HO.out (hb.le19 (by omega)))
  have HF1 : Hid (Fit (nWrote ⟨rk, rn, ry, rp, ru⟩ s) (l.length + r.length)) := Lib.hid (nWrote_fitS19 hb (by omega))
  unfold NodeV.val at HW
  dsimp only at HW
  generalize nWrote ⟨rk, rn, ry, rp, ru⟩ s = s1 at *
  have HF2 : Hid (Fit (s1.map (· ++ l)) r.length) := Lib.hid (fit_app19 HF1.out (Nat.le_refl _))
  clear h h1 h2 h3 hx hy ho ox oy o1 o2 o3 hb
  go_enter Tryd.func20, Tryd.ntmps20
  go_wp2_with (first | refine wpList_load_row rfl 26 _ rfl b1 rfl _ _ _ _ HA.out Tryd.underlying26 rfl infoNode19 ?_ | fail)
  refine HW.out.mono ?_
  rintro _ w2 ⟨rfl, hp⟩
  have HP := Lib.hid hp
  clear hp HW
  have x2 := (HP.out.bx HB2.out HO2.out).cell
  have HW := Lib.hid (inRaw HP.out _ l HX.out HOX.out (HF1.out.le19 (by omega)))
  go_wp2_with fail
  refine HW.out.mono ?_
  rintro _ w3 ⟨rfl, hp⟩
  clear x2 HP HW
  have HP := Lib.hid hp
  clear hp
  have x3 := (HP.out.bx HB3.out HO3.out).cell
  have HW := Lib.hid (inRaw HP.out _ r HY.out HOY.out HF2.out)
  go_wp2_with fail
  refine HW.out.mono ?_
  rintro _ w4 ⟨rfl, hp⟩
  have HP9 := Lib.hid hp
  clear hp HP HW x3
  go_wp2
  go_end0
  exact ⟨rfl, HP9.out⟩

set_option maxHeartbeats 2000000 in
theorem parentFn (w : World) (p : Nat) (g : Option Nat) (s : Option (List UInt8)) (h : Pen w p g s) (b1 b2 : Nat) (u : NodeV) (N : NodeL) (x : Value) (l : List UInt8)
    (h1 : NBlk w b1 u N) (h2 : Bx19 w b2 22 x) (hx : Rd w x l) (ho : OffN19 p g u N) (ox : l ≠ [] → Off19 p g x)
    (o1 : ¬ (b1 = p ∨ some b1 = g)) (o2 : ¬ (b2 = p ∨ some b2 = g)) (hb : Fit s (300 + l.length)) :
    Calls Tryd.prog 22 #[.pointer (some ⟨p, 0, none⟩), .pointer (some ⟨b1, 0, none⟩), .pointer (some ⟨b2, 0, none⟩)] w (PenTo w p g (parentS N l s)) := by
  have HP0 := Lib.hid h
  have HA := Lib.hid h1.at_
  have HU := Lib.hid h1.rd
  have HO := Lib.hid ho
  have HX := Lib.hid hx
  have HOX := Lib.hid ox
  have HB2 := Lib.hid h2
  have HO1 := Lib.hid o1
  have HO2 := Lib.hid o2
  have HF := Lib.hid hb
  obtain ⟨a1, n1, c1, a2, n2, c2, a3, n3, c3, rfl⟩ := h1.rd.forms
  obtain ⟨ax, nx, cx, rfl⟩ : ∃ a n c, x = .slice a n c := by obtain ⟨a, n, c, e, -⟩ := hx; exact ⟨a, n, c, e⟩
  obtain ⟨rk, rn, ry, rp, ru⟩ := N
  dsimp only at HA
  clear h h1 h2 hx ho ox o1 o2 hb
  obtain ⟨y0, y1, y2, y3, y4⟩ := HA.out.cells
  obtain ⟨S, HS⟩ : ∃ S, Hid (parentS ⟨rk, rn, ry, rp, ru⟩ l s = S) := ⟨_, Lib.hid rfl⟩
  rw [HS.out]
  by_cases hk : rk = 2
  · have dk : (rk != 2) = false := by rw [hk]; rfl
    have HR := Lib.hid (nodRight w _ _ HU.out)
    unfold NodeV.val at HR
    dsimp only at HR
    by_cases hok : nOk ⟨rk, rn, ry, rp, ru⟩
    · rw [decide_eq_true hok] at HR
      have hlp : rp.length ≤ 32 := (nOk_lens hok).2.1
      have HK : Hid (wText 1 rp (s.map (· ++ be 8 ry)) = s.map (· ++ nTail ⟨rk, rn, ry, rp, ru⟩)) := Lib.hid (key_tail19 (N := ⟨rk, rn, ry, rp, ru⟩) (by show rp.length < 256; omega))
      have HKL : Hid ((s.map (· ++ nTail ⟨rk, rn, ry, rp, ru⟩)).map (· ++ l) = S) := Lib.hid (by rw [← HS.out]; unfold parentS; rw [if_pos ⟨hk, hok⟩])
      have HFK : Hid (Fit s (rp.length + 16)) := Lib.hid (HF.out.le19 (by omega))
      have HFL : Hid (Fit (s.map (· ++ nTail ⟨rk, rn, ry, rp, ru⟩)) l.length) := Lib.hid (fit_app19 HF.out (by rw [nTail_length19]; show 9 + rp.length + l.length ≤ _; omega))
      clear hlp hok hk HS
      generalize s.map (· ++ nTail ⟨rk, rn, ry, rp, ru⟩) = s2 at *
      go_enter Tryd.func22, Tryd.ntmps22
      go_wp2_with (first | refine wpList_load_rowG (by rfl) 26 _ rfl b1 rfl _ _ _ _ HA.out Tryd.underlying26 rfl infoNode19 ?_ | fail)
      refine HR.out.mono ?_
      rintro _ w2 ⟨rfl, n2⟩
      have HP := Lib.hid (PenIn.pre n2 (PenIn.start (HP0.out.new n2)))
      clear n2 HR y0 y1 y2 y3 y4
      have HA2 := Lib.hid (HP.out.at5 HA.out HO1.out)
      have HW := Lib.hid (inKeyAny HP.out _ _ HU.out HO.out HFK.out)
      unfold NodeV.val at HW
      dsimp only at HW
      rw [HK.out] at HW
      go_wp2_with (first | refine wpList_load_row rfl 26 _ rfl b1 rfl _ _ _ _ HA2.out Tryd.underlying26 rfl infoNode19 ?_ | fail)
      refine HW.out.mono ?_
      rintro _ w3 ⟨rfl, hp⟩
      clear HP HW HA2
      have HP := Lib.hid hp
      clear hp
      have x2 := (HP.out.bx HB2.out HO2.out).cell
      have HW := Lib.hid (inRaw HP.out _ l HX.out HOX.out HFL.out)
      rw [HKL.out] at HW
      go_wp2_with fail
      refine HW.out.mono ?_
      rintro _ w4 ⟨rfl, hp⟩
      have HP9 := Lib.hid hp
      clear hp HP HW x2
      go_wp2
      go_end0
      exact ⟨rfl, HP9.out⟩
    · rw [decide_eq_false hok] at HR
      have hS : S = none := by rw [← HS.out]; unfold parentS; rw [if_neg (fun e => hok e.2)]
      rw [hS]
      clear hok hk HS hS
      have HK : Hid (wText 1 rp (none.map (· ++ be 8 ry)) = none) := Lib.hid (wText_none19 _ _)
      have HFK : Hid (Fit none (rp.length + 16)) := Lib.hid (fit_none19 _)
      have HFL : Hid (Fit none l.length) := Lib.hid (fit_none19 _)
      have HKL : Hid ((none : Option (List UInt8)).map (· ++ l) = none) := Lib.hid rfl
      go_enter Tryd.func22, Tryd.ntmps22
      go_wp2_with (first | refine wpList_load_rowG (by rfl) 26 _ rfl b1 rfl _ _ _ _ HA.out Tryd.underlying26 rfl infoNode19 ?_ | fail)
      refine HR.out.mono ?_
      rintro _ w2 ⟨rfl, n2⟩
      have HP1 := Lib.hid (PenIn.pre n2 (PenIn.start (HP0.out.new n2)))
      clear n2 HR y0 y1 y2 y3 y4
      go_wp2_with fail
      refine (inSpoil HP1.out (HF.out.le19 (by omega))).mono ?_
      rintro _ w2 ⟨rfl, hp⟩
      have HP := Lib.hid hp
      clear hp HP1
      have HA2 := Lib.hid (HP.out.at5 HA.out HO1.out)
      have HW := Lib.hid (inKeyAny HP.out _ _ HU.out HO.out HFK.out)
      unfold NodeV.val at HW
      dsimp only at HW
      rw [HK.out] at HW
      go_wp2_with (first | refine wpList_load_row rfl 26 _ rfl b1 rfl _ _ _ _ HA2.out Tryd.underlying26 rfl infoNode19 ?_ | fail)
      refine HW.out.mono ?_
      rintro _ w3 ⟨rfl, hp⟩
      clear HP HW HA2
      have HP := Lib.hid hp
      clear hp
      have x2 := (HP.out.bx HB2.out HO2.out).cell
      have HW := Lib.hid (inRaw HP.out _ l HX.out HOX.out HFL.out)
      rw [HKL.out] at HW
      go_wp2_with fail
      refine HW.out.mono ?_
      rintro _ w4 ⟨rfl, hp⟩
      have HP9 := Lib.hid hp
      clear hp HP HW x2
      go_wp2
      go_end0
      exact ⟨rfl, HP9.out⟩
  · have dk : (rk != 2) = true := by simpa using hk
    have hS : S = none := by rw [← HS.out]; unfold parentS; rw [if_neg (fun e => hk e.1)]
    rw [hS]
    clear hk HS hS
    have HK : Hid (wText 1 rp (none.map (· ++ be 8 ry)) = none) := Lib.hid (wText_none19 _ _)
    have HFK : Hid (Fit none (rp.length + 16)) := Lib.hid (fit_none19 _)
    have HFL : Hid (Fit none l.length) := Lib.hid (fit_none19 _)
    have HKL : Hid ((none : Option (List UInt8)).map (· ++ l) = none) := Lib.hid rfl
    go_enter Tryd.func22, Tryd.ntmps22
    go_wp2_with fail
    refine (inSpoil (PenIn.start HP0.out) (HF.out.le19 (by omega))).mono ?_
    rintro _ w2 ⟨rfl, hp⟩
    have HP := Lib.hid hp
    clear hp y0 y1 y2 y3 y4
    have HA2 := Lib.hid (HP.out.at5 HA.out HO1.out)
    have HW := Lib.hid (inKeyAny HP.out _ _ HU.out HO.out HFK.out)
    unfold NodeV.val at HW
    dsimp only at HW
    rw [HK.out] at HW
    go_wp2_with (first | refine wpList_load_row rfl 26 _ rfl b1 rfl _ _ _ _ HA2.out Tryd.underlying26 rfl infoNode19 ?_ | fail)
    refine HW.out.mono ?_
    rintro _ w3 ⟨rfl, hp⟩
    clear HP HW HA2
    have HP := Lib.hid hp
    clear hp
    have x2 := (HP.out.bx HB2.out HO2.out).cell
    have HW := Lib.hid (inRaw HP.out _ l HX.out HOX.out HFL.out)
    rw [HKL.out] at HW
    go_wp2_with fail
    refine HW.out.mono ?_
    rintro _ w4 ⟨rfl, hp⟩
    have HP9 := Lib.hid hp
    clear hp HP HW x2
    go_wp2
    go_end0
    exact ⟨rfl, HP9.out⟩

end Go.Proofs.YtliojldkdmaofaaDoor
