/-
  node.LeafHash, BranchHash, ParentHash.
-/
import Derived.Test.YtliojldkdmaofaaDoorNodWrite2
import Derived.Test.YtliojldkdmaofaaDoorShaB
namespace Go.Proofs.YtliojldkdmaofaaDoor
set_option linter.unusedVariables false
set_option linter.unusedSimpArgs false
set_option maxRecDepth 100000
open Go.RowKit

/-- a box -/
def Bx19 (w : World) (b : Nat) (t : TypeId) (v : Value) : Prop := w.heap[b]? = some (.cells #[v] t)

theorem Bx19.cell {w : World} {b : Nat} {t : TypeId} {v : Value} (h : Bx19 w b t v) : w.cell? ⟨b, 0, none⟩ = some v := by rw [cell_of_row w b 0 _ _ _ h]; rfl
theorem Bx19.new {w w' : World} {b : Nat} {t : TypeId} {v : Value} (h : Bx19 w b t v) (hn : New w w') : Bx19 w' b t v := (hn.block _ (lt_of_block h)).trans h
theorem PenIn.bx {w wr : World} {p : Nat} {g : Option Nat} {s : Option (List UInt8)} {b : Nat} {t : TypeId} {v : Value} (h : PenIn w p g s wr) (k : Bx19 w b t v) (hb : ¬ (b = p ∨ some b = g)) : Bx19 wr b t v := (h.1.block b (lt_of_block k) hb).trans k

theorem inU32 {w wr : World} {p : Nat} {g : Option Nat} {s : Option (List UInt8)} (h : PenIn w p g s wr) (n : Int) (hn : -9223372036854775808 ≤ n) (hn' : n ≤ 9223372036854775807) (hb : Fit s 8) :
    Calls Tryd.prog 18 #[.pointer (some ⟨p, 0, none⟩), .int .i64 n] wr (PenTo w p g (wU 4 n s)) := by
  obtain ⟨o, g1, hp, hg⟩ := h
  exact (penU32 wr p g1 s n hp hn hn' hb).mono fun e w' k => ⟨k.1, PenIn.trans o hg k.2 hp⟩

theorem inRaw {w wr : World} {p : Nat} {g : Option Nat} {s : Option (List UInt8)} (h : PenIn w p g s wr) (x : Value) (l : List UInt8) (hx : Rd w x l) (hd : l ≠ [] → Off19 p g x) (hb : Fit s l.length) :
    Calls Tryd.prog 21 #[.pointer (some ⟨p, 0, none⟩), x] wr (PenTo w p g (s.map (· ++ l))) := by
  have h' := h
  obtain ⟨o, g1, hp, hg⟩ := h'
  exact (penRaw wr p g1 s x l hp (h.rd hx hd) hb).mono fun e w' k => ⟨k.1, PenIn.trans o hg k.2 hp⟩

theorem inWrite {w wr : World} {p : Nat} {g : Option Nat} {s : Option (List UInt8)} (h : PenIn w p g s wr) (u : NodeV) (N : NodeL) (hu : NodeR w u N) (ho : OffN19 p g u N) (hb : Fit s 200) :
    Calls Tryd.prog 19 #[.pointer (some ⟨p, 0, none⟩), u.val N] wr (PenTo w p g (nWrote N s)) := by
  obtain ⟨g1, hp, hu1, ho1, hn⟩ := h.node hu ho
  exact (nodWrite wr p g1 s hp u N hu1 ho1 hb).mono fun e w' k => ⟨k.1, hn _ _ k.2⟩

theorem inKeyAny {w wr : World} {p : Nat} {g : Option Nat} {s : Option (List UInt8)} (h : PenIn w p g s wr) (u : NodeV) (N : NodeL) (hu : NodeR w u N) (ho : OffN19 p g u N) (hb : Fit s (N.parent.length + 16)) :
    Calls Tryd.prog 24 #[.pointer (some ⟨p, 0, none⟩), u.val N] wr (PenTo w p g (wText 1 N.parent (s.map (· ++ be 8 N.key)))) := by
  obtain ⟨g1, hp, hu1, ho1, hn⟩ := h.node hu ho
  exact (nodWriteKey wr p g1 s hp u N hu1 ho1 hb).mono fun e w' k => ⟨k.1, hn _ _ k.2⟩

theorem inSpoil {w wr : World} {p : Nat} {g : Option Nat} {s : Option (List UInt8)} (h : PenIn w p g s wr) (hb : Fit s 8) :
    Calls Tryd.prog 17 #[.pointer (some ⟨p, 0, none⟩)] wr (PenTo w p g none) := by
  obtain ⟨o, g1, hp, hg⟩ := h
  exact (nodSpoil wr p g1 s hp hb).mono fun e w' k => ⟨k.1, PenIn.trans o hg k.2 hp⟩

theorem fit_none19 (k : Nat) : Fit none k := fun l h => by cases h
theorem wU_none19 (size : Nat) (n : Int) : wU size n none = none := by unfold wU; split <;> rfl
theorem wText_none19 (size : Nat) (l : List UInt8) : wText size l none = none := by unfold wText; rw [wU_none19]; rfl
theorem nWrote_none19 (N : NodeL) : nWrote N none = none := by unfold nWrote; split <;> rfl

/-- what the three closures leave in the writer -/
def leafS (number : Int) (N : NodeL) (s : Option (List UInt8)) : Option (List UInt8) := if 0 ≤ number ∧ number ≤ 31 then nWrote N (s.map (· ++ be 4 number.toNat)) else none
def branchS (N : NodeL) (l r : List UInt8) (s : Option (List UInt8)) : Option (List UInt8) := ((nWrote N s).map (· ++ l)).map (· ++ r)
def parentS (N : NodeL) (l : List UInt8) (s : Option (List UInt8)) : Option (List UInt8) := if N.kind = 2 ∧ nOk N then (s.map (· ++ nTail N)).map (· ++ l) else none

set_option maxHeartbeats 2000000 in
theorem leafFn (w : World) (p : Nat) (g : Option Nat) (s : Option (List UInt8)) (h : Pen w p g s) (b1 b2 : Nat) (number : Int) (hn : -9223372036854775808 ≤ number ∧ number ≤ 9223372036854775807) (u : NodeV) (N : NodeL)
    (h1 : Bx19 w b1 3 (.int .i64 number)) (h2 : NBlk w b2 u N) (ho : OffN19 p g u N) (o1 : ¬ (b1 = p ∨ some b1 = g)) (o2 : ¬ (b2 = p ∨ some b2 = g)) (hb : Fit s 300) :
    Calls Tryd.prog 15 #[.pointer (some ⟨p, 0, none⟩), .pointer (some ⟨b1, 0, none⟩), .pointer (some ⟨b2, 0, none⟩)] w (PenTo w p g (leafS number N s)) := by
  have HP0 := Lib.hid h
  have HNM := Lib.hid hn
  have HB1 := Lib.hid h1
  have HA := Lib.hid h2.at_
  have HU := Lib.hid h2.rd
  have HO := Lib.hid ho
  have HO1 := Lib.hid o1
  have HO2 := Lib.hid o2
  have HB := Lib.hid hb
  have x0 := h1.cell
  obtain ⟨a1, n1, c1, a2, n2, c2, a3, n3, c3, rfl⟩ : ∃ a1 n1 c1 a2 n2 c2 a3 n3 c3, u = ⟨.slice a1 n1 c1, .slice a2 n2 c2, .slice a3 n3 c3⟩ := by
    obtain ⟨a1, n1, c1, e1, -⟩ := h2.rd.nm
    obtain ⟨a2, n2, c2, e2, -⟩ := h2.rd.pa
    obtain ⟨a3, n3, c3, e3, -⟩ := h2.rd.un
    obtain ⟨x, y, z⟩ := u
    exact ⟨a1, n1, c1, a2, n2, c2, a3, n3, c3, by rw [show x = _ from e1, show y = _ from e2, show z = _ from e3]⟩
  clear h hn h1 h2 ho o1 o2 hb
  obtain ⟨rk, rn, ry, rp, ru⟩ := N
  dsimp only at HA
  by_cases hin : 0 ≤ number ∧ number ≤ 31
  · obtain ⟨S, HS⟩ : ∃ S, Hid (leafS number ⟨rk, rn, ry, rp, ru⟩ s = S) := ⟨_, Lib.hid rfl⟩
    obtain ⟨s2, HWU⟩ : ∃ s2, Hid (wU 4 number s = s2) := ⟨_, Lib.hid rfl⟩
    have hs2 : s2 = s.map (· ++ be 4 number.toNat) := by rw [← HWU.out]; exact if_pos ⟨hin.1, by omega⟩
    have HWR : Hid (nWrote ⟨rk, rn, ry, rp, ru⟩ s2 = S) := Lib.hid (by rw [hs2, ← HS.out]; unfold leafS; rw [if_pos hin])
    have HF8 : Hid (Fit s 8) := Lib.hid (HB.out.le19 (by omega))
    have HF200 : Hid (Fit s2 200) := Lib.hid (by rw [hs2]; exact fit_app19 HB.out (by rw [be_length]; omega))
    have HW0 := Lib.hid (nodWithin w number 0 31)
    rw [decide_eq_true hin] at HW0
    rw [HS.out]
    clear hs2 HS hin
    have HP := Lib.hid (PenIn.start HP0.out)
    go_enter Tryd.func15, Tryd.ntmps15
    go_wp2_with fail
    refine HW0.out.mono ?_
    rintro _ _ ⟨rfl, rfl⟩
    have x1 := (HP.out.bx HB1.out HO1.out).cell
    have HW := Lib.hid (inU32 HP.out number HNM.out.1 HNM.out.2 HF8.out)
    rw [HWU.out] at HW
    go_wp2_with fail
    refine HW.out.mono ?_
    rintro _ w3 ⟨rfl, hp⟩
    have HP3 := Lib.hid hp
    have HA3 := Lib.hid (hp.at5 HA.out HO2.out)
    clear hp HW x1 HP
    have HW := Lib.hid (inWrite HP3.out _ _ HU.out HO.out HF200.out)
    unfold NodeV.val at HW
    dsimp only at HW
    rw [HWR.out] at HW
    go_wp2_with (first | refine wpList_load_row rfl 26 _ rfl b2 rfl _ _ _ _ HA3.out Tryd.underlying26 rfl infoNode19 ?_ | fail)
    refine HW.out.mono ?_
    rintro _ w4 ⟨rfl, hp⟩
    have HP9 := Lib.hid hp
    clear hp HW HP3 HA3
    go_wp2
    go_end0
    exact ⟨rfl, HP9.out⟩
  · obtain ⟨S, HS⟩ : ∃ S, Hid (leafS number ⟨rk, rn, ry, rp, ru⟩ s = S) := ⟨_, Lib.hid rfl⟩
    have hS : S = none := by rw [← HS.out]; unfold leafS; rw [if_neg hin]
    rw [HS.out, hS]
    have HWU : Hid (wU 4 number none = none) := Lib.hid (wU_none19 _ _)
    have HWR : Hid (nWrote ⟨rk, rn, ry, rp, ru⟩ none = none) := Lib.hid (nWrote_none19 _)
    have HF8 : Hid (Fit none 8) := Lib.hid (fit_none19 _)
    have HF200 : Hid (Fit none 200) := Lib.hid (fit_none19 _)
    have HW0 := Lib.hid (nodWithin w number 0 31)
    rw [decide_eq_false hin] at HW0
    clear hin HS hS
    go_enter Tryd.func15, Tryd.ntmps15
    go_wp2_with fail
    refine HW0.out.mono ?_
    rintro _ _ ⟨rfl, rfl⟩
    clear HW0
    go_wp2_with fail
    refine (inSpoil (PenIn.start HP0.out) (HB.out.le19 (by omega))).mono ?_
    rintro _ w2 ⟨rfl, hp⟩
    have HP := Lib.hid hp
    clear hp x0
    have x1 := (HP.out.bx HB1.out HO1.out).cell
    have HW := Lib.hid (inU32 HP.out number HNM.out.1 HNM.out.2 HF8.out)
    rw [HWU.out] at HW
    go_wp2_with fail
    refine HW.out.mono ?_
    rintro _ w3 ⟨rfl, hp⟩
    have HP3 := Lib.hid hp
    have HA3 := Lib.hid (hp.at5 HA.out HO2.out)
    clear hp HW x1 HP
    have HW := Lib.hid (inWrite HP3.out _ _ HU.out HO.out HF200.out)
    unfold NodeV.val at HW
    dsimp only at HW
    rw [HWR.out] at HW
    go_wp2_with (first | refine wpList_load_row rfl 26 _ rfl b2 rfl _ _ _ _ HA3.out Tryd.underlying26 rfl infoNode19 ?_ | fail)
    refine HW.out.mono ?_
    rintro _ w4 ⟨rfl, hp⟩
    have HP9 := Lib.hid hp
    clear hp HW HP3 HA3
    go_wp2
    go_end0
    exact ⟨rfl, HP9.out⟩

end Go.Proofs.YtliojldkdmaofaaDoor
