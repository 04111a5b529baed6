/-
  The statements of layer 19: their own helpers.
-/
import Derived.Test.YtliojldkdmaofaaDoorNodWrite2
import Derived.Lib.SlBytesConst
namespace Go.Proofs.YtliojldkdmaofaaDoor
set_option linter.unusedVariables false
set_option linter.unusedSimpArgs false
set_option maxRecDepth 100000
open Go.RowKit

/-- a node's octets; none of one that is not valid -/
def nOctets (N : NodeL) : List UInt8 := if nOk N then nEnc N else []

def WrittenTo19 (w : World) (N : NodeL) (e : Ending) (w' : World) : Prop := ∃ a n c, e = .returned (.tuple #[.slice a n c, .bool (decide (nOk N))]) ∧ Rd w' (.slice a n c) (nOctets N) ∧ New w w'

theorem offN_new19 {w : World} {p : Nat} {u : NodeV} {N : NodeL} (h : NodeR w u N) (hp : w.heap.size ≤ p) : OffN19 p none u N :=
  ⟨fun hne => ⟨fun e => by have := h.nm.lt e hne; omega, fun h => h⟩, fun hne => ⟨fun e => by have := h.pa.lt e hne; omega, fun h => h⟩, fun hne => ⟨fun e => by have := h.un.lt e (by simpa using hne); omega, fun h => h⟩⟩

theorem nWrote_fit19 (N : NodeL) : Fit (nWrote N (some [])) 0 := by
  intro l hl
  unfold nWrote at hl
  split at hl
  · rename_i h
    cases hl
    have := nEnc_length h
    simp only [List.nil_append]
    omega
  · cases hl

theorem nWrote_some19 (N : NodeL) : (nWrote N (some [])).isSome = decide (nOk N) ∧ (nWrote N (some [])).getD [] = nOctets N := by
  unfold nWrote nOctets
  by_cases h : nOk N
  · rw [if_pos h, if_pos h, decide_eq_true h]; exact ⟨rfl, rfl⟩
  · rw [if_neg h, if_neg h, decide_eq_false h]; exact ⟨rfl, rfl⟩

set_option maxHeartbeats 1000000 in
theorem written19 (w : World) (u : NodeV) (N : NodeL) (hu : NodeR w u N) : Calls Tryd.prog 13 #[u.val N] w (WrittenTo19 w N) := by
  have HU := Lib.hid hu
  obtain ⟨a1, n1, c1, e1, -⟩ := hu.nm
  obtain ⟨a2, n2, c2, e2, -⟩ := hu.pa
  obtain ⟨a3, n3, c3, e3, -⟩ := hu.un
  clear hu
  unfold NodeV.val
  obtain ⟨unm, upa, uun⟩ := u
  dsimp only at e1 e2 e3
  subst e1 e2 e3
  obtain ⟨rk, rn, ry, rp, ru⟩ := N
  dsimp only
  go_enter Tryd.func13, Tryd.ntmps13
  go_upto_region 1 with fail
  generalize hw1 : World.alloc w _ = w1
  have N1 : New w w1 := by rw [← hw1]; exact (Below.refl _ _).alloc (Nat.le_refl _) _
  have HA : Hid (At5 w1 w.heap.size 26 (.int .i64 rk) (.slice a1 n1 c1) (.int .u64 (ry : Int)) (.slice a2 n2 c2) (.slice a3 n3 c3)) := Lib.hid (by rw [← hw1]; exact heap_alloc_new _ _)
  clear hw1
  have HN1 := Lib.hid N1
  clear N1
  go_wp2_with fail
  refine (penNew w1).mono ?_
  rintro _ w2 ⟨rfl, P2, N2, -⟩
  have HA2 := Lib.hid (HA.out.new N2)
  have HN2 := Lib.hid (New.trans HN1.out N2)
  have HW := Lib.hid (nodWrite w2 w1.heap.size none (some []) P2 _ _ (HU.out.new HN2.out) (offN_new19 (HU.out.new HN1.out) (Nat.le_refl _)) (by intro l h; cases h; simp))
  unfold NodeV.val at HW
  dsimp only at HW
  have HP : Hid (w.heap.size ≤ w1.heap.size) := Lib.hid HN1.out.size
  have HP1 : Hid (New w1 w2) := Lib.hid N2
  clear P2 N2 HA
  generalize w1.heap.size = p at *
  go_wp2_with (first | refine wpList_load_row rfl 26 _ rfl w.heap.size rfl _ _ _ _ HA2.out Tryd.underlying26 rfl infoNode19 ?_ | fail)
  refine HW.out.mono ?_
  rintro _ w3 ⟨rfl, ho, g, hp, -⟩
  have HN3 : Hid (New w w3) := Lib.hid (Below.trans HN2.out (ho.below HN2.out.size (fun k hk => by rcases hk with e | e; have := HP.out; omega; cases e)))
  have HB := Lib.hid (penBytes w3 p g _ hp (nWrote_fit19 _))
  clear ho hp HW HA2
  go_wp2_with fail
  refine HB.out.mono ?_
  rintro _ w4 ⟨a, n, c, rfl, hf⟩
  have hs := nWrote_some19 ⟨rk, rn, ry, rp, ru⟩
  rw [hs.1]
  have HR : Hid (Rd w4 (.slice a n c) (nOctets ⟨rk, rn, ry, rp, ru⟩)) := Lib.hid (by rw [← hs.2]; exact hf.1)
  have HN4 := Lib.hid (New.trans HN3.out hf.2.1)
  clear hs hf HB
  go_wp2
  go_ret2
  exact ⟨a, n, c, rfl, HR.out, HN4.out⟩

/-- isn't a node too great? -/
def nSmall (N : NodeL) : Bool := decide (N.name.length ≤ 40) && (decide (N.parent.length ≤ 60) && decide (N.unm.length ≤ 50))

set_option maxHeartbeats 1000000 in
theorem small19 (w : World) (u : NodeV) (N : NodeL) (hu : NodeR w u N) : Calls Tryd.prog 5 #[u.val N] w (SameTo19 w (nSmall N)) := by
  obtain ⟨a1, n1, c1, e1, l1, -⟩ := hu.nm
  obtain ⟨a2, n2, c2, e2, l2, -⟩ := hu.pa
  obtain ⟨a3, n3, c3, e3, l3, -⟩ := hu.un
  rw [List.length_map] at l3
  clear hu
  unfold NodeV.val nSmall
  obtain ⟨unm, upa, uun⟩ := u
  dsimp only at e1 e2 e3
  subst e1 e2 e3
  obtain ⟨rk, rn, ry, rp, ru⟩ := N
  dsimp only at *
  have d1 : decide ((n1 : Int) ≤ 40) = decide (rn.length ≤ 40) := by rw [decide_eq_decide]; omega
  have d2 : decide ((n2 : Int) ≤ 60) = decide (rp.length ≤ 60) := by rw [decide_eq_decide]; omega
  have d3 : decide ((n3 : Int) ≤ 50) = decide (ru.length ≤ 50) := by rw [decide_eq_decide]; omega
  generalize decide (rn.length ≤ 40) = z1 at *
  generalize decide (rp.length ≤ 60) = z2 at *
  generalize decide (ru.length ≤ 50) = z3 at *
  clear l1 l2 l3
  go_enter Tryd.func5, Tryd.ntmps5
  go_upto_region 1 with fail
  have N1 : New w (w.alloc (.cells #[.int .i64 rk, .slice a1 n1 c1, .int .u64 (ry : Int), .slice a2 n2 c2, .slice a3 n3 c3] 26)) := (Below.refl _ _).alloc (Nat.le_refl _) _
  have A1 := At5.made w 26 (.int .i64 rk) (.slice a1 n1 c1) (.int .u64 (ry : Int)) (.slice a2 n2 c2) (.slice a3 n3 c3)
  generalize w.alloc (.cells #[.int .i64 rk, .slice a1 n1 c1, .int .u64 (ry : Int), .slice a2 n2 c2, .slice a3 n3 c3] 26) = w1 at *
  obtain ⟨x0, x1, x2, x3, x4⟩ := A1.cells
  clear A1
  cases z1
  · go_wp2
    go_ret
    exact ⟨rfl, N1⟩
  cases z2
  · go_wp2
    go_ret
    exact ⟨rfl, N1⟩
  · go_wp2
    go_ret
    exact ⟨rfl, N1⟩

def leaf019 : NodeL := ⟨1, [97], 9, [], []⟩

set_option maxHeartbeats 1000000 in
theorem awake19 (w : World) : Calls Tryd.prog 4 #[] w fun e w' => e = .returned (.bool true) ∧ New w w' := by
  have kc := fun (w : World) (C : Array Value) (n c : Nat) => Lib.run_convert_bytes_const (P := Tryd.prog) w 22 5 C n c Tryd.underlying22 Tryd.underlying5
  have r1 := Rd.made w [97] 5 (1, 2) (by decide)
  have N1 : New w (w.alloc (.cells (([97] : List UInt8).map bv).toArray 5 (1, 2))) := (Below.refl _ _).alloc (Nat.le_refl _) _
  have hok : nOk leaf019 := by decide
  have HO : Hid (nOctets leaf019 = [1, 1, 97, 0, 0, 0, 0, 0, 0, 0, 9, 0]) := Lib.hid (by decide)
  have HS := Lib.hid (written19 _ ⟨.slice (some ⟨w.heap.size, 0, none⟩) 1 1, .slice none 0 0, .slice none 0 0⟩ leaf019 ⟨r1, Rd.nil _, RdV.nil _, by decide⟩)
  unfold WrittenTo19 at HS
  rw [decide_eq_true hok, HO.out] at HS
  have HN := Lib.hid N1
  clear hok r1 N1 HO
  go_enter Tryd.func4, Tryd.ntmps4
  go_wp2_with fail
  refine HS.out.mono ?_
  rintro _ w2 ⟨a2, n2, c2, rfl, r2, N2⟩
  have NN2 := New.trans HN.out N2
  have ks := run_str (P := Tryd.prog) Tryd.underlying22 Tryd.underlying5 Tryd.underlying9 r2
  have kb : ((bstr [1, 1, 97, 0, 0, 0, 0, 0, 0, 0, 9, 0]).toList == [1, 1, 97, 0, 0, 0, 0, 0, 0, 0, 9, 0]) = true := by rw [bstr_list]; decide
  clear HS HN N2 r2 kc
  go_wp2
  go_ret
  exact ⟨rfl, NN2⟩

end Go.Proofs.YtliojldkdmaofaaDoor
