/-
  Layer 19: the reference's Write, of a node that is valid.
-/
import Derived.Test.YtliojldkdmaofaaDoorRefNode2
import Derived.Test.YtliojldkdmaofaaDoorRef01
namespace Go.Proofs.YtliojldkdmaofaaDoor
set_option linter.unusedVariables false
set_option linter.unusedSimpArgs false
set_option maxRecDepth 100000
open Go.RowKit

/-- what the region that draws reads -/
def SK19 (g : Nat) (ky : Int) (u : Value) (l : List UInt8) (w : World) : Prop := w.cell? ⟨g, 2, none⟩ = some (.int .u64 ky) ∧ w.cell? ⟨g, 3, none⟩ = some u ∧ (convert 22 9 u).run Tryd.prog w = .ok (.string (bstr l)) w

/-- a node in its block, and its slices -/
structure NBlk (w : World) (g : Nat) (v : NodeV) (N : NodeL) : Prop where
  at_ : At5 w g 26 (.int .i64 N.kind) v.nm (.int .u64 (N.key : Int)) v.pa v.un
  rd : NodeR w v N

theorem NBlk.new {w w' : World} {g : Nat} {v : NodeV} {N : NodeL} (h : NBlk w g v N) (hn : New w w') : NBlk w' g v N := ⟨h.at_.new hn, h.rd.new hn⟩
theorem NBlk.sk {w : World} {g : Nat} {v : NodeV} {N : NodeL} (h : NBlk w g v N) : SK19 g N.key v.pa N.parent w := ⟨h.at_.cells.2.2.1, h.at_.cells.2.2.2.1, run_str (P := Tryd.prog) Tryd.underlying22 Tryd.underlying5 Tryd.underlying9 h.rd.pa⟩
theorem NBlk.strN {w : World} {g : Nat} {v : NodeV} {N : NodeL} (h : NBlk w g v N) : (convert 22 9 v.nm).run Tryd.prog w = .ok (.string (bstr N.name)) w := run_str (P := Tryd.prog) Tryd.underlying22 Tryd.underlying5 Tryd.underlying9 h.rd.nm

theorem incr_all' {l : List Int} (h : incr l) : ∀ x ∈ l, 0 ≤ x ∧ x ≤ 31 := by
  intro x hx
  obtain ⟨i, hi, e⟩ := List.getElem_of_mem hx
  have := (h i hi).1
  rw [List.getD_eq_getElem?_getD, List.getElem?_eq_getElem hi] at this
  simpa [e] using this

def WroteTo19 (w : World) (l : List UInt8) (e : Ending) (w' : World) : Prop := e = .returned (.string (bstr l)) ∧ New w w'

theorem nUnm_take {l : List Int} {i : Nat} {x : Int} (h : l[i]? = some x) : nUnm (l.take (i + 1)) = nUnm (l.take i) ++ be 1 x.toNat := by
  unfold nUnm
  rw [List.take_add_one, h, List.flatMap_append]
  simp

theorem step19 (A B : List UInt8) (h : A.length + B.length ≤ 10000000) : (bstr A ++ bstr B = bstr (A ++ B)) ∧ ¬ 9223372036854775807 < (bstr A).size + (bstr B).size := ⟨bstr_append A B, by rw [bstr_size, bstr_size]; omega⟩

set_option maxHeartbeats 2000000 in
theorem refWrite19 (w : World) (u : NodeV) (N : NodeL) (hu : NodeR w u N) (hok : nOk N) :
    Calls Tryd.prog 29 #[u.val N] w (WroteTo19 w (nEnc N)) := by
  have HU := Lib.hid hu
  obtain ⟨a1, n1, c1, e1, l1, -⟩ := hu.nm
  obtain ⟨a2, n2, c2, e2, l2, -⟩ := hu.pa
  obtain ⟨a3, n3, c3, e3, l3, g3, m3, -⟩ := hu.un
  have hky := hu.key
  rw [List.length_map] at l3
  unfold maxLen at m3
  clear hu
  have HO := Lib.hid hok
  unfold NodeV.val
  obtain ⟨unm, upa, uun⟩ := u
  dsimp only at *
  subst e1 e2 e3
  obtain ⟨rk, rn, ry, rp, ru⟩ := N
  dsimp only at *
  obtain ⟨M, HM⟩ : ∃ M, Hid (nEnc ⟨rk, rn, ry, rp, ru⟩ = M) := ⟨_, Lib.hid rfl⟩
  rw [HM.out]
  have hlp : rk ≠ 0 → rp.length ≤ 32 := by
    intro h
    rcases hok with ⟨h0, -⟩ | ⟨-, -, h1, -⟩ | ⟨-, -, h1, -⟩
    · exact absurd h0 h
    · simp only at h1; omega
    · simp only at h1; omega
  go_enter Tryd.func29, Tryd.ntmps29
  go_upto_region 1 with fail
  have N1 : New w (w.alloc (.cells #[.int .i64 rk, .slice a1 n1 c1, .int .u64 (ry : Int), .slice a2 n2 c2, .slice a3 n3 c3] 26)) := (Below.refl _ _).alloc (Nat.le_refl _) _
  have A1 := At5.made w 26 (.int .i64 rk) (.slice a1 n1 c1) (.int .u64 (ry : Int)) (.slice a2 n2 c2) (.slice a3 n3 c3)
  generalize w.alloc (.cells #[.int .i64 rk, .slice a1 n1 c1, .int .u64 (ry : Int), .slice a2 n2 c2, .slice a3 n3 c3] 26) = w1 at *
  have HN1 := Lib.hid N1
  obtain ⟨gb, hgb⟩ : ∃ gb, w.heap.size = gb := ⟨_, rfl⟩
  rw [hgb] at A1
  rw [hgb]
  have HI : Hid (NBlk w1.drew gb ⟨.slice a1 n1 c1, .slice a2 n2 c2, .slice a3 n3 c3⟩ ⟨rk, rn, ry, rp, ru⟩) := Lib.hid (NBlk.new ⟨A1, HU.out.new N1⟩ (Below.refl _ _).drew)
  obtain ⟨x0, x1, x2, x3, x4⟩ := A1.cells
  clear A1 N1 hgb
  by_cases h0 : rk = 0
  · have hM : M = [0] := by rw [← HM.out]; unfold nEnc; rw [if_pos h0]
    subst h0 hM
    go_wp2_with fail
    go_ret
    exact ⟨rfl, HN1.out⟩
  have d0 : (rk == 0) = false := by simpa using h0
  have hp32 := hlp h0
  have Q1 := Lib.hid fun wx => refNumber wx ry 8 hky (by omega)
  have Q2 := Lib.hid fun wx => refText wx rp 1 (by omega) (by omega)
  have HS := Lib.hid (step19 (be 8 ry) (be 1 rp.length ++ rp) (by rw [List.length_append, be_length, be_length]; omega))
  have HT : Hid (be 8 ry ++ (be 1 rp.length ++ rp) = nTail ⟨rk, rn, ry, rp, ru⟩ ∧ (nTail ⟨rk, rn, ry, rp, ru⟩).length ≤ 41) := Lib.hid ⟨rfl, by show (be 8 ry ++ (be 1 rp.length ++ rp)).length ≤ 41; rw [List.length_append, List.length_append, be_length, be_length]; omega⟩
  obtain ⟨L, HL⟩ : ∃ L, Hid (nTail ⟨rk, rn, ry, rp, ru⟩ = L) := ⟨_, Lib.hid rfl⟩
  rw [HL.out] at HT
  rw [HT.out.1] at HS
  generalize be 8 ry = L1 at *
  generalize be 1 rp.length ++ rp = L2 at *
  clear hlp hok
  go_upto_region 3 with fail
  have sj := HS.out.1
  have ss := HS.out.2
  have NN := HN1.out.drew
  refine region_ord (SK19 gb ry (.slice a2 n2 c2) rp) [(0, true), (1, true), (3, true), (4, true), (5, true), (2, false), (6, false), (7, true), (8, true)] (by kernel_rfl) (by kernel_rfl) HI.out.sk (fun _ => ?_)
  generalize w1.drew = w2 at *
  unfold SK19
  iterate 5 (apply ord_take; (simp only [List.getElem?_toArray, List.getElem?_cons_succ, List.getElem?_cons_zero]; rfl); rfl; (intro w hSw; (try dsimp only at hSw); go_simp; try with_reducible rfl); intro _; try simp only [Act.put, List.setIfInBounds_toArray, List.set_cons_zero, List.set_cons_succ])
  (apply ord_only; (simp only [List.getElem?_toArray, List.getElem?_cons_succ, List.getElem?_cons_zero]; rfl); rfl; intro K hK)
  go_simp
  refine (Q1.out w2).mono ?_
  rintro _ w3 ⟨rfl, N3⟩
  replace NN := New.trans NN N3
  replace HI := Lib.hid (HI.out.new N3)
  clear N3
  refine hK.out _ _ (HI.out.sk) (fun _ => ?_)
  clear hK K
  try simp only [Act.put, List.setIfInBounds_toArray, List.set_cons_zero, List.set_cons_succ]
  (apply ord_only; (simp only [List.getElem?_toArray, List.getElem?_cons_succ, List.getElem?_cons_zero]; rfl); rfl; intro K hK)
  go_simp
  refine (Q2.out w3).mono ?_
  rintro _ w4 ⟨rfl, N4⟩
  replace NN := New.trans NN N4
  replace HI := Lib.hid (HI.out.new N4)
  clear N4
  refine hK.out _ _ (HI.out.sk) (fun _ => ?_)
  clear hK K
  try simp only [Act.put, List.setIfInBounds_toArray, List.set_cons_zero, List.set_cons_succ]
  iterate 2 (apply ord_take; (simp only [List.getElem?_toArray, List.getElem?_cons_succ, List.getElem?_cons_zero]; rfl); rfl; (intro w hSw; (try dsimp only at hSw); go_simp; try with_reducible rfl); intro _; try simp only [Act.put, List.setIfInBounds_toArray, List.set_cons_zero, List.set_cons_succ])
  apply ord_done
  clear sj ss Q1 Q2 w3 w2 x0 x1 x2 x3 x4
  obtain ⟨x0, x1, x2, x3, x4⟩ := HI.out.at_.cells
  have HN4 := Lib.hid NN
  clear NN
  by_cases h1 : rk = 1
  · have hn16 : rn.length ≤ 16 := by
      rcases HO.out with ⟨h, -⟩ | ⟨-, -, -, -, h, -⟩ | ⟨h, -⟩
      · exact absurd h h0
      · exact h
      · simp only at h; omega
    have hM : M = [1] ++ ((be 1 rn.length ++ rn) ++ L) := by rw [← HM.out, ← HL.out]; unfold nEnc; rw [if_neg h0, if_pos h1]
    have Q3 := Lib.hid fun wx => refText wx rn 1 (by omega) (by omega)
    have hl : (be 1 rn.length ++ rn).length ≤ 17 := by rw [List.length_append, be_length]; omega
    have hl2 := HT.out.2
    obtain ⟨j1, -⟩ := step19 [1] (be 1 rn.length ++ rn) (by simp only [List.length_cons, List.length_nil]; omega)
    obtain ⟨j2, s2⟩ := step19 ([1] ++ (be 1 rn.length ++ rn)) L (by rw [List.length_append]; simp only [List.length_cons, List.length_nil]; omega)
    have z0 : ({ data := #[1] } : ByteArray).size = 1 := rfl
    have j1' : ({ data := #[1] } : ByteArray) ++ bstr (be 1 rn.length ++ rn) = bstr ([1] ++ (be 1 rn.length ++ rn)) := j1
    have z1 : (bstr (be 1 rn.length ++ rn)).size ≤ 17 := by rw [bstr_size]; exact hl
    rw [List.append_assoc, ← hM] at j2
    have kn := HI.out.strN
    clear j1 hl hl2 hM hn16
    generalize be 1 rn.length ++ rn = K at *
    generalize [1] ++ K = KK at *
    subst h1
    dsimp only at kn
    go_wp2_with fail
    refine (Q3.out _).mono ?_
    rintro _ w5 ⟨rfl, n5⟩
    have N5 := Lib.hid (New.trans HN4.out n5)
    clear n5
    go_wp2
    go_ret
    exact ⟨rfl, N5.out⟩
  have d1 : (rk == 1) = false := by simpa using h1
  have H2 : Hid (rk = 2) := Lib.hid (by
    rcases HO.out with ⟨h, -⟩ | ⟨h, -⟩ | ⟨h, -⟩
    · exact absurd h h0
    · exact absurd h h1
    · exact h)
  have hin : incr ru := by
    rcases HO.out with ⟨h, -⟩ | ⟨h, -⟩ | ⟨-, -, -, -, h⟩
    · exact absurd h h0
    · exact absurd h h1
    · exact h
  have hM : M = [2] ++ (L ++ (be 1 ru.length ++ nUnm ru)) := by rw [← HM.out, ← HL.out]; unfold nEnc; rw [if_neg h0, if_neg h1]
  have HRL := Lib.hid l3
  have hn32 : ru.length ≤ 32 := incr_length hin
  have HIN := Lib.hid (incr_all' hin)
  obtain ⟨P, HP⟩ : ∃ P, Hid (([2] ++ L) ++ be 1 ru.length = P) := ⟨_, Lib.hid rfl⟩
  have hPl : P.length ≤ 43 := by
    rw [← HP.out, List.length_append, List.length_append, be_length]
    have := HT.out.2
    simp only [List.length_cons, List.length_nil]
    omega
  have HPL := Lib.hid hPl
  have HM2 : Hid (M = P ++ nUnm ru) := Lib.hid (by rw [hM, ← HP.out]; simp only [List.append_assoc])
  have uw : IntKind.u64.wrap (n3 : Int) = n3 := by rw [IntKind.wrap_u64]; omega
  have Q3 := Lib.hid fun wx => refNumber wx n3 1 (by omega) (by omega)
  rw [l3] at HP
  have hl2 := HT.out.2
  obtain ⟨j1, -⟩ := step19 [2] L (by simp only [List.length_cons, List.length_nil]; omega)
  obtain ⟨j2, -⟩ := step19 ([2] ++ L) (be 1 n3) (by rw [List.length_append, be_length]; simp only [List.length_cons, List.length_nil]; omega)
  have z0 : ({ data := #[2] } : ByteArray).size = 1 := rfl
  have z1 : (bstr L).size ≤ 41 := by rw [bstr_size]; exact hl2
  have z2 : (bstr ([2] ++ L)).size ≤ 42 := by rw [bstr_size, List.length_append]; simp only [List.length_cons, List.length_nil]; omega
  have z3 : (bstr (be 1 n3)).size = 1 := by rw [bstr_size, be_length]
  have j1' : ({ data := #[2] } : ByteArray) ++ bstr L = bstr ([2] ++ L) := j1
  rw [HP.out] at j2
  have hnb : n3 ≤ 32 := by omega
  clear j1 hl2 hM hn32 hin l1 l2 l3 g3 m3 hPl HM HO
  generalize be 1 n3 = LN at *
  generalize [2] ++ L = LL at *
  clear h0 h1 d0 d1 hp32 hky
  obtain rfl : rk = 2 := H2.out
  go_upto_region 6 with fail
  go_wp2_with fail
  refine (Q3.out _).mono ?_
  rintro _ w5 ⟨rfl, n5⟩
  have HN5 := Lib.hid (New.trans HN4.out n5)
  have HI5 := Lib.hid (HI.out.new n5)
  clear n5
  go_upto_region 8 with fail
  clear z0 z1 z2 z3 x0 x1 x2 x3 x4
  go_loopw [4, 5] (fun s v wr => ∃ i : Nat, v = .int .i64 i ∧ i ≤ n3 ∧ s = .string (bstr (P ++ nUnm (ru.take i))) ∧ New w5 wr) (fun _ v _ => n3 - (intOf v).toNat)
  case atStart => exact ⟨0, rfl, Nat.zero_le _, by show _ = Value.string (bstr (P ++ [])); rw [List.append_nil], Below.refl _ _⟩
  case round =>
    obtain ⟨i, rfl, hi, rfl, hnw⟩ := hrel
    have HN := Lib.hid (New.trans HN5.out hnw)
    have HW := Lib.hid hnw
    have HIr := Lib.hid (HI5.out.new hnw)
    obtain ⟨x0, x1, x2, x3, x4⟩ := HIr.out.at_.cells
    clear hnw
    by_cases hlt : i < n3
    · obtain ⟨b1, o1, hb1, hc1⟩ := (HIr.out.rd.un).cell (by omega)
      subst hb1
      obtain ⟨v, hv⟩ : ∃ u, ru[i]? = some u := ⟨_, List.getElem?_eq_getElem (by have := HRL.out; omega)⟩
      have c1 := hc1 i (.int .i64 v) (by rw [List.getElem?_map, hv]; rfl)
      have hv2 := HIN.out v (List.mem_of_getElem? hv)
      obtain ⟨n, rfl⟩ := Int.eq_ofNat_of_zero_le hv2.1
      have uw : IntKind.u64.wrap (n : Int) = n := by rw [IntKind.wrap_u64]; omega
      have Q4 := Lib.hid fun wx => refNumber wx n 1 (by omega) (by omega)
      have hlen : (P ++ nUnm (ru.take i)).length ≤ 75 := by
        have := HPL.out
        have := HRL.out
        rw [List.length_append, nUnm_length, List.length_take]
        omega
      obtain ⟨j3, -⟩ := step19 (P ++ nUnm (ru.take i)) (be 1 n) (by rw [be_length]; omega)
      have z1 : (bstr (P ++ nUnm (ru.take i))).size ≤ 75 := by rw [bstr_size]; exact hlen
      have z2 : (bstr (be 1 n)).size = 1 := by rw [bstr_size, be_length]
      rw [List.append_assoc, show be 1 n = be 1 (Int.toNat (n : Int)) from rfl, ← nUnm_take hv] at j3
      rw [show be 1 (Int.toNat (n : Int)) = be 1 n from rfl] at j3
      clear hc1 hv hv2 hlen
      generalize P ++ nUnm (ru.take i) = PA at *
      obtain ⟨PB, HPB⟩ : ∃ PB, Hid (P ++ nUnm (ru.take (i + 1)) = PB) := ⟨_, Lib.hid rfl⟩
      rw [HPB.out] at j3
      generalize be 1 n = LN2 at *
      go_wp2_with fail
      refine (Q4.out _).mono ?_
      rintro _ w6 ⟨rfl, n6⟩
      have N6 := Lib.hid (New.trans HW.out n6)
      clear n6
      go_wp2
      go_roundw
      case rel => exact ⟨i + 1, by go_num, by omega, by rw [HPB.out], N6.out⟩
      case measure => simp [intOf]; omega
    · obtain rfl : i = n3 := by omega
      have hE : P ++ nUnm (ru.take i) = M := by rw [List.take_of_length_le (by have := HRL.out; omega), HM2.out]
      rw [hE]
      go_wp2
      go_ret
      exact ⟨rfl, HN.out⟩

end Go.Proofs.YtliojldkdmaofaaDoor
