/-
  node.Write.
-/
import Derived.Test.YtliojldkdmaofaaDoorNodWrite
namespace Go.Proofs.YtliojldkdmaofaaDoor
set_option linter.unusedVariables false
set_option linter.unusedSimpArgs false
set_option maxRecDepth 100000
open Go.RowKit

/-- what Write leaves in the writer -/
def nWrote (N : NodeL) (s : Option (List UInt8)) : Option (List UInt8) := if nOk N then s.map (· ++ nEnc N) else none

theorem nWrote_bad {N : NodeL} {s : Option (List UInt8)} (h : ¬ nOk N) : nWrote N s = none := if_neg h

theorem nOk_lens {N : NodeL} (h : nOk N) : N.name.length ≤ 16 ∧ N.parent.length ≤ 32 ∧ N.unm.length ≤ 32 ∧ (0 ≤ N.kind ∧ N.kind ≤ 2) ∧ (∀ x ∈ N.unm, 0 ≤ x ∧ x ≤ 31) := by
  rcases h with ⟨h0, h1, h2, h3, h4⟩ | ⟨h0, h1, h2, h3, h4, h5⟩ | ⟨h0, h1, h2, h3, h4⟩
  · rw [h1, h3, h4]; simp; omega
  · rw [h5]; simp; omega
  · rw [h3]
    have h5 := incr_length h4
    refine ⟨by simp, by omega, h5, by omega, incr_all' h4⟩

theorem nWrote_zero {N : NodeL} {s : Option (List UInt8)} (h : nOk N) (hk : N.kind = 0) : nWrote N s = s.map (· ++ be 1 0) := by
  unfold nWrote nEnc
  rw [if_pos h, if_pos hk]
  rfl

theorem nWrote_leaf {N : NodeL} {s : Option (List UInt8)} (h : nOk N) (hk : N.kind = 1) : nWrote N s = ((s.map (· ++ be 1 1)).map (· ++ (be 1 N.name.length ++ N.name))).map (· ++ nTail N) := by
  unfold nWrote nEnc
  rw [if_pos h, if_neg (by omega), if_pos hk, map_app19, map_app19]
  simp only [List.append_assoc]
  rfl

theorem nWrote_branch {N : NodeL} {s : Option (List UInt8)} (h : nOk N) (hk : N.kind = 2) : nWrote N s = ((s.map (· ++ be 1 2)).map (· ++ nTail N)).map (· ++ (be 1 N.unm.length ++ nUnm N.unm)) := by
  unfold nWrote nEnc
  rw [if_pos h, if_neg (by omega), if_neg (by omega), map_app19, map_app19]
  rfl

theorem key_tail19 {N : NodeL} {s : Option (List UInt8)} (h : N.parent.length < 256) : wText 1 N.parent (s.map (· ++ be 8 N.key)) = s.map (· ++ nTail N) := by
  rw [wText_ok19 h, map_app19]; rfl

theorem nTail_length19 (N : NodeL) : (nTail N).length = 9 + N.parent.length := by
  unfold nTail
  rw [List.length_append, List.length_append, be_length, be_length]
  omega

/-- writeKey of a node whose parent hash is short, in the midst of a call -/
theorem inKey {w wr : World} {p : Nat} {g : Option Nat} {s : Option (List UInt8)} (h : PenIn w p g s wr) (u : NodeV) (N : NodeL) (hu : NodeR w u N) (ho : OffN19 p g u N) (hl : N.parent.length < 256) (hb : Fit s (N.parent.length + 16)) :
    Calls Tryd.prog 24 #[.pointer (some ⟨p, 0, none⟩), u.val N] wr (PenTo w p g (s.map (· ++ nTail N))) := by
  obtain ⟨g1, hp, hu1, ho1, hn⟩ := h.node hu ho
  rw [← key_tail19 hl]
  exact (nodWriteKey wr p g1 s hp u N hu1 ho1 hb).mono fun e w' k => ⟨k.1, hn _ _ k.2⟩

theorem inNumbers {w wr : World} {p : Nat} {g : Option Nat} {s : Option (List UInt8)} (h : PenIn w p g s wr) (u : NodeV) (N : NodeL) (hu : NodeR w u N) (ho : OffN19 p g u N) (hin : ∀ x ∈ N.unm, 0 ≤ x ∧ x ≤ 31) (hl : N.unm.length ≤ 32) (hb : Fit s 60) :
    Calls Tryd.prog 37 #[.pointer (some ⟨p, 0, none⟩), u.un] wr (PenTo w p g (s.map (· ++ (be 1 N.unm.length ++ nUnm N.unm)))) := by
  obtain ⟨g1, hp, hu1, ho1, hn⟩ := h.node hu ho
  exact (nodWriteNumbers wr p g1 s hp u.un N.unm hu1.un ho1.un hin hl hb).mono fun e w' k => ⟨k.1, hn _ _ k.2⟩

set_option maxHeartbeats 2000000 in
theorem nodWrite (w : World) (p : Nat) (g : Option Nat) (s : Option (List UInt8)) (h : Pen w p g s) (u : NodeV) (N : NodeL) (hu : NodeR w u N) (ho : OffN19 p g u N) (hb : Fit s 200) :
    Calls Tryd.prog 19 #[.pointer (some ⟨p, 0, none⟩), u.val N] w (PenTo w p g (nWrote N s)) := by
  have HLT := Lib.hid h.lt
  have HP0 := Lib.hid h
  have HU0 := Lib.hid hu
  have HO := Lib.hid ho
  have HB := Lib.hid hb
  obtain ⟨a1, n1, c1, e1, -⟩ := hu.nm
  obtain ⟨a2, n2, c2, e2, -⟩ := hu.pa
  obtain ⟨a3, n3, c3, e3, -⟩ := hu.un
  clear hu ho hb h
  unfold NodeV.val
  obtain ⟨unm, upa, uun⟩ := u
  dsimp only at e1 e2 e3
  subst e1 e2 e3
  obtain ⟨rk, rn, ry, rp, ru⟩ := N
  dsimp only
  obtain ⟨S, HS⟩ : ∃ S, Hid (nWrote ⟨rk, rn, ry, rp, ru⟩ s = S) := ⟨_, Lib.hid rfl⟩
  rw [HS.out]
  go_enter Tryd.func19, Tryd.ntmps19
  go_upto_region 1 with fail
  generalize hw1 : World.alloc w _ = w1
  have N1 : New w w1 := by rw [← hw1]; exact (Below.refl _ _).alloc (Nat.le_refl _) _
  have HA1 : Hid (At5 w1 w.heap.size 26 (.int .i64 rk) (.slice a1 n1 c1) (.int .u64 (ry : Int)) (.slice a2 n2 c2) (.slice a3 n3 c3)) := Lib.hid (by rw [← hw1]; exact heap_alloc_new _ _)
  clear hw1
  have HNB : Hid (¬ (w.heap.size = p ∨ some w.heap.size = g)) := Lib.hid (by
    rintro (e | e)
    · have := HLT.out.1; omega
    · have := HLT.out.2 _ e.symm; omega)
  have HR := Lib.hid (nodRight w1 _ _ (HU0.out.new N1))
  unfold NodeV.val at HR
  dsimp only at HR
  have HN0 := Lib.hid N1
  clear N1
  generalize w.heap.size = b at *
  go_wp2_with (first | refine wpList_load_row rfl 26 _ rfl b rfl _ _ _ _ HA1.out Tryd.underlying26 rfl infoNode19 ?_ | fail)
  refine HR.out.mono ?_
  rintro _ w2 ⟨rfl, n2⟩
  have HN1 := Lib.hid (New.trans HN0.out n2)
  have HA0 := Lib.hid (HA1.out.new n2)
  have HA := HA0
  have HU := Lib.hid (HU0.out.new HN1.out)
  have HP1 := Lib.hid (HP0.out.new HN1.out)
  have HP := Lib.hid (PenIn.start HP1.out)
  clear HA1 HR HN0 n2 HU0 HP0
  by_cases hok : nOk ⟨rk, rn, ry, rp, ru⟩
  rotate_left
  · rw [decide_eq_false hok]
    have hS := nWrote_bad (s := s) hok
    rw [HS.out] at hS
    subst hS
    clear hok HP HS
    go_wp2_with fail
    refine (nodSpoil w2 p g s HP1.out (HB.out.le19 (by omega))).mono ?_
    rintro _ w3 ⟨rfl, hp⟩
    have HP9 := Lib.hid hp
    clear hp
    go_wp2
    go_end0
    exact ⟨rfl, PenIn.pre HN1.out HP9.out⟩
  rw [decide_eq_true hok]
  have hlen := nOk_lens hok
  dsimp only at hlen
  have HLN := Lib.hid hlen
  have HK := Lib.hid hok
  clear hok HP1
  obtain ⟨x0, x1, x2, x3, x4⟩ := HA.out.cells
  obtain ⟨k, rfl⟩ := Int.eq_ofNat_of_zero_le hlen.2.2.2.1.1
  have hk2 : k ≤ 2 := by have := hlen.2.2.2.1.2; omega
  clear hlen
  have HW := Lib.hid (inU8 HP.out (k : Int) (by omega) (by omega) (HB.out.le19 (by omega)))
  rw [wU_ok19 (by omega) (by omega), Int.toNat_natCast] at HW
  go_wp2_with fail
  refine HW.out.mono ?_
  clear HW
  rintro _ w3 ⟨rfl, hp⟩
  have HP2 := Lib.hid hp
  have HA2 := Lib.hid (hp.at5 HA0.out HNB.out)
  clear hp x0 x1 x2 x3 x4 HP HA
  obtain ⟨HP, HA⟩ := And.intro HP2 HA2
  clear HP2 HA2
  obtain ⟨x0, x1, x2, x3, x4⟩ := HA.out.cells
  have HB1 : Hid (Fit (s.map (· ++ be 1 k)) 190) := Lib.hid (fit_app19 HB.out (by rw [be_length]; omega))
  by_cases h0 : k = 0
  · have hS := nWrote_zero (s := s) HK.out (by show (k : Int) = 0; omega)
    rw [HS.out] at hS
    subst h0 hS
    have HP9 := Lib.hid HP.out
    clear HP
    go_wp2
    go_end0
    exact ⟨rfl, PenIn.pre HN1.out HP9.out⟩
  by_cases h1 : k = 1
  · have hS := nWrote_leaf (s := s) HK.out (by show (k : Int) = 1; omega)
    rw [HS.out] at hS
    dsimp only at hS
    subst h1
    clear h0 hk2
    generalize s.map (· ++ be 1 1) = s1 at *
    go_wp2_with fail
    refine (inShort HP.out _ rn HU.out.nm HO.out.nm (HB1.out.le19 (by have := HLN.out; omega))).mono ?_
    rw [wText_ok19 (by have := HLN.out; omega)]
    rintro _ w4 ⟨rfl, hp⟩
    have HP2 := Lib.hid hp
    have HA2 := Lib.hid (hp.at5 HA0.out HNB.out)
    clear hp x0 x1 x2 x3 x4 HP HA
    obtain ⟨HP, HA⟩ := And.intro HP2 HA2
    clear HP2 HA2
    obtain ⟨x0, x1, x2, x3, x4⟩ := HA.out.cells
    have HB2 : Hid (Fit (s1.map (· ++ (be 1 rn.length ++ rn))) 100) := Lib.hid (fit_app19 HB1.out (by rw [List.length_append, be_length]; have := HLN.out; omega))
    generalize s1.map (· ++ (be 1 rn.length ++ rn)) = s2 at *
    have HW := Lib.hid (inKey HP.out _ _ HU.out HO.out (by show rp.length < 256; have := HLN.out; omega) (HB2.out.le19 (by show rp.length + 16 ≤ 100; have := HLN.out; omega)))
    unfold NodeV.val at HW
    dsimp only at HW
    rw [show ((1 : Nat) : Int) = 1 from rfl] at hS HW
    rw [← hS] at HW
    go_wp2_with (first | refine wpList_load_row rfl 26 _ rfl b rfl _ _ _ _ HA.out Tryd.underlying26 rfl infoNode19 ?_ | fail)
    refine HW.out.mono ?_
    clear HW hS
    rintro _ w9 ⟨rfl, hp⟩
    have HP9 := Lib.hid hp
    clear hp x0 x1 x2 x3 x4 HP HA
    go_wp2
    go_end0
    exact ⟨rfl, PenIn.pre HN1.out HP9.out⟩
  · have h2 : k = 2 := by omega
    have hS := nWrote_branch (s := s) HK.out (by show (k : Int) = 2; omega)
    rw [HS.out] at hS
    dsimp only at hS
    subst h2
    clear h0 h1 hk2
    generalize s.map (· ++ be 1 2) = s1 at *
    have HW := Lib.hid (inKey HP.out _ _ HU.out HO.out (by show rp.length < 256; have := HLN.out; omega) (HB1.out.le19 (by show rp.length + 16 ≤ 190; have := HLN.out; omega)))
    unfold NodeV.val at HW
    dsimp only at HW
    have HB2 : Hid (Fit (s1.map (· ++ nTail ⟨((2 : Nat) : Int), rn, ry, rp, ru⟩)) 100) := Lib.hid (fit_app19 HB1.out (by rw [nTail_length19]; show 9 + rp.length + 100 ≤ 190; have := HLN.out; omega))
    generalize s1.map (· ++ nTail ⟨((2 : Nat) : Int), rn, ry, rp, ru⟩) = s2 at *
    go_wp2_with (first | refine wpList_load_row rfl 26 _ rfl b rfl _ _ _ _ HA.out Tryd.underlying26 rfl infoNode19 ?_ | fail)
    refine HW.out.mono ?_
    rintro _ w4 ⟨rfl, hp⟩
    clear HW
    have HP2 := Lib.hid hp
    have HA2 := Lib.hid (hp.at5 HA0.out HNB.out)
    clear hp x0 x1 x2 x3 x4 HP HA
    obtain ⟨HP, HA⟩ := And.intro HP2 HA2
    clear HP2 HA2
    obtain ⟨x0, x1, x2, x3, x4⟩ := HA.out.cells
    have HW := Lib.hid (inNumbers HP.out _ _ HU.out HO.out HLN.out.2.2.2.2 HLN.out.2.2.1 (HB2.out.le19 (by omega)))
    dsimp only at HW
    rw [← hS] at HW
    go_wp2_with fail
    refine HW.out.mono ?_
    clear HW hS
    rintro _ w9 ⟨rfl, hp⟩
    have HP9 := Lib.hid hp
    clear hp x0 x1 x2 x3 x4 HP HA
    go_wp2
    go_end0
    exact ⟨rfl, PenIn.pre HN1.out HP9.out⟩

end Go.Proofs.YtliojldkdmaofaaDoor
