/-
  The references' Text, Place and Same; the statements' small.
-/
import Derived.Test.YtnjijmphmgihiaaDoorRefFlt0
import Derived.Test.YtnjijmphmgihiaaDoorFltMake
namespace Go.Proofs.YtnjijmphmgihiaaDoor
set_option linter.unusedVariables false
set_option linter.unusedSimpArgs false
open Go.RowKit

/-- links in memory -/
structure LkSl (w : World) (b off : Nat) (l : List (List UInt8 × Int)) : Prop where
  cells : ∀ j (h : j < l.length), LkAt b (off + j * 2) (l[j]) w
  rng : ∀ j (h : j < l.length), -9223372036854775808 ≤ (l[j]).2 ∧ (l[j]).2 ≤ 9223372036854775807

theorem LkSl.new {w w' : World} {b off : Nat} {l : List (List UInt8 × Int)} (h : LkSl w b off l) (hn : New w w') : LkSl w' b off l :=
  ⟨fun j hj => ⟨by rw [hn.cell (p := ⟨b, off + j * 2, none⟩) (World.block_lt_of_cell? w _ (h.cells j hj).1)]; exact (h.cells j hj).1, by rw [hn.cell (p := ⟨b, off + j * 2 + 1, none⟩) (World.block_lt_of_cell? w _ (h.cells j hj).2)]; exact (h.cells j hj).2⟩, h.rng⟩

theorem LkSl.drop {w : World} {b off : Nat} {l : List (List UInt8 × Int)} (h : LkSl w b off l) (i : Nat) : LkSl w b (off + i * 2) (l.drop i) :=
  ⟨fun j hj => by
    rw [List.length_drop] at hj
    have := h.cells (i + j) (by omega)
    rw [List.getElem_drop, show off + i * 2 + j * 2 = off + (i + j) * 2 by omega]
    exact this, fun j hj => by
    rw [List.length_drop] at hj
    rw [List.getElem_drop]
    exact h.rng (i + j) (by omega)⟩

theorem RdLk.sl {w : World} {a : Option Addr} {n c : Nat} {l : List (List UInt8 × Int)} (h : RdLk w (.slice a n c) l) (hn : 0 < n) : ∃ b off, a = some ⟨b, off, none⟩ ∧ LkSl w b off l := by
  obtain ⟨hm, -, -⟩ := h.len
  obtain ⟨b, off, rfl, hall, -, -⟩ := h.at (k := 0) (by omega)
  refine ⟨b, off, rfl, hall, fun j hj => ?_⟩
  obtain ⟨_, _, _, _, _, hr⟩ := h.at hj
  exact hr

theorem chainTxt_snoc (l : List (List UInt8 × Int)) {k : Nat} (h : k < l.length) : chainTxt (l.take (k + 1)) = chainTxt (l.take k) ++ (l[k]).1 ++ [32] ++ Lib.itoa (l[k]).2 ++ [58, 32] := by
  rw [List.take_succ_eq_append_getElem h]
  unfold chainTxt
  rw [List.flatMap_append]
  simp [linkTxt]

theorem chainTxt_take_le (l : List (List UInt8 × Int)) (k : Nat) : (chainTxt (l.take k)).length ≤ (chainTxt l).length := by
  conv => rhs; rw [← List.take_append_drop k l]
  unfold chainTxt
  rw [List.flatMap_append, List.length_append]
  omega

set_option maxRecDepth 100000 in
set_option maxHeartbeats 2000000 in
theorem refText9 (w : World) (b off c : Nat) (l : List (List UInt8 × Int)) (n : Int) (hv : LkSl w b off l) (hl : l.length ≤ 1000) (hc : l.length ≤ c) (h0 : -9223372036854775808 ≤ n) (h1 : n ≤ 9223372036854775807) (hs : (chainTxt l).length ≤ 1099511627776) :
    Calls Tryd.prog 19 #[.slice (some ⟨b, off, none⟩) l.length c, .int .i64 n] w fun e w' => e = .returned (.string (bstr (chainTxt l ++ numTxt n))) ∧ New w w' := by
  have HV := Lib.hid hv
  have HS := Lib.hid hs
  have HNU := Lib.hid (fun wx => refNumber9 wx n h0 h1)
  have HIL := Lib.hid (itoa_len n h0 h1)
  clear hv hs
  go_enter Tryd.func19, Tryd.ntmps19
  go_wp2_with fail
  go_loopw [5, 6] (fun s i wr => ∃ k : Nat, k ≤ l.length ∧ i = .int .i64 k ∧ s = .string (bstr (chainTxt (l.take k))) ∧ New w wr) (fun _ i _ => l.length - (intOf i).toNat)
  case atStart => exact ⟨0, Nat.zero_le _, rfl, rfl, newRefl _⟩
  case round =>
    obtain ⟨k, hk, rfl, rfl, N⟩ := hrel
    have HN := Lib.hid N
    clear N
    by_cases hlt : k < l.length
    · have HC : Hid (LkAt b (off + k * 2) (l[k]) wr) := Lib.hid ((HV.out.new HN.out).cells k hlt)
      have HRG := Lib.hid (HV.out.rng k hlt)
      have HSN := Lib.hid (chainTxt_snoc l hlt)
      have HLE := Lib.hid (Nat.le_trans (chainTxt_take_le l (k + 1)) HS.out)
      generalize hT1 : chainTxt (l.take (k + 1)) = T1 at *
      generalize hT0 : chainTxt (l.take k) = T0 at *
      generalize hx : l[k] = x at *
      obtain ⟨op, pos⟩ := x
      have HT1 := Lib.hid hT1
      have HJ : Hid (bstr T0 ++ bstr op ++ (⟨#[32]⟩ : ByteArray) ++ bstr (Lib.itoa pos) ++ (⟨#[58, 32]⟩ : ByteArray) = bstr T1) := by
        have e : (⟨#[32]⟩ : ByteArray) = bstr [32] := rfl
        have e2 : (⟨#[58, 32]⟩ : ByteArray) = bstr [58, 32] := rfl
        rw [e, e2, bstr_join9, bstr_join9, bstr_join9, bstr_join9, HSN.out]
        exact Lib.hid rfl
      have hll : T0.length + op.length + 1 + (Lib.itoa pos).length + 2 ≤ 1099511627776 := by
        have := HLE.out
        rw [HSN.out] at this
        simp only [List.length_append, List.length_cons, List.length_nil] at this
        omega
      have z0 : (bstr T0).size = T0.length := bstr_size _
      have z2 : (bstr op).size = op.length := bstr_size _
      have z3 : (bstr (Lib.itoa pos)).size = (Lib.itoa pos).length := bstr_size _
      have z4 : (bstr T0 ++ bstr op).size = T0.length + op.length := by rw [ByteArray.size_append, z0, z2]
      have z5 : (bstr T0 ++ bstr op ++ (⟨#[32]⟩ : ByteArray)).size = T0.length + op.length + 1 := by rw [ByteArray.size_append, z4]; rfl
      have z6 : (bstr T0 ++ bstr op ++ (⟨#[32]⟩ : ByteArray) ++ bstr (Lib.itoa pos)).size = T0.length + op.length + 1 + (Lib.itoa pos).length := by rw [ByteArray.size_append, z5, z3]
      have z7 : (⟨#[32]⟩ : ByteArray).size = 1 := rfl
      have z8 : (⟨#[58, 32]⟩ : ByteArray).size = 2 := rfl
      have HIP := Lib.hid (fun wx => refNumber9 wx pos HRG.out.1 HRG.out.2)
      clear hx hT0 hT1
      go_wp2_with fail
      refine region_ord (LkAt b (off + k * 2) (op, pos)) [(0, true), (1, true), (2, true), (3, true), (4, true), (5, true), (6, true), (7, true), (8, true), (9, true), (10, true), (11, true), (12, true), (13, false), (14, true), (15, true), (16, true)] (by kernel_rfl) (by kernel_rfl) HC.out (fun _ => ?_)
      have HN2 : Hid (New w wr.drew) := Lib.hid HN.out.drew
      have HC2 : Hid (LkAt b (off + k * 2) (op, pos) wr.drew) := Lib.hid HC.out
      generalize wr.drew = w2 at *
      unfold LkAt
      iterate 6 (apply ord_take; (simp only [List.getElem?_toArray, List.getElem?_cons_succ, List.getElem?_cons_zero]; rfl); rfl; (intro w hSw; (try dsimp only at hSw); go_simp; try with_reducible rfl); intro _; try simp only [Act.put, List.setIfInBounds_toArray, List.set_cons_zero, List.set_cons_succ])
      (apply ord_take; (simp only [List.getElem?_toArray, List.getElem?_cons_succ, List.getElem?_cons_zero]; rfl); rfl; (intro w hSw; (try dsimp only at hSw); go_simp; rw [if_neg (by omega)]); intro _; try simp only [Act.put, List.setIfInBounds_toArray, List.set_cons_zero, List.set_cons_succ])
      (apply ord_take; (simp only [List.getElem?_toArray, List.getElem?_cons_succ, List.getElem?_cons_zero]; rfl); rfl; (intro w hSw; (try dsimp only at hSw); go_simp; rw [if_neg (by omega)]); intro _; try simp only [Act.put, List.setIfInBounds_toArray, List.set_cons_zero, List.set_cons_succ])
      iterate 5 (apply ord_take; (simp only [List.getElem?_toArray, List.getElem?_cons_succ, List.getElem?_cons_zero]; rfl); rfl; (intro w hSw; (try dsimp only at hSw); go_simp; try with_reducible rfl); intro _; try simp only [Act.put, List.setIfInBounds_toArray, List.set_cons_zero, List.set_cons_succ])
      (apply ord_only; (simp only [List.getElem?_toArray, List.getElem?_cons_succ, List.getElem?_cons_zero]; rfl); rfl; intro K hK)
      go_simp
      refine (HIP.out w2).mono ?_
      rintro e w3 ⟨rfl, N3⟩
      have HC3 : Hid (LkAt b (off + k * 2) (op, pos) w3) := Lib.hid ⟨by rw [N3.cell (p := ⟨b, off + k * 2, none⟩) (World.block_lt_of_cell? w2 _ HC2.out.1)]; exact HC2.out.1, by rw [N3.cell (p := ⟨b, off + k * 2 + 1, none⟩) (World.block_lt_of_cell? w2 _ HC2.out.2)]; exact HC2.out.2⟩
      have HN3 := Lib.hid (New.trans HN2.out N3)
      clear N3
      refine hK.out _ _ (HC3.out) (fun _ => ?_)
      clear hK K
      try simp only [Act.put, List.setIfInBounds_toArray, List.set_cons_zero, List.set_cons_succ]
      (apply ord_take; (simp only [List.getElem?_toArray, List.getElem?_cons_succ, List.getElem?_cons_zero]; rfl); rfl; (intro w hSw; (try dsimp only at hSw); go_simp; rw [if_neg (by omega)]); intro _; try simp only [Act.put, List.setIfInBounds_toArray, List.set_cons_zero, List.set_cons_succ])
      (apply ord_take; (simp only [List.getElem?_toArray, List.getElem?_cons_succ, List.getElem?_cons_zero]; rfl); rfl; (intro w hSw; (try dsimp only at hSw); go_simp; rw [if_neg (by omega)]); intro _; try simp only [Act.put, List.setIfInBounds_toArray, List.set_cons_zero, List.set_cons_succ])
      iterate 1 (apply ord_take; (simp only [List.getElem?_toArray, List.getElem?_cons_succ, List.getElem?_cons_zero]; rfl); rfl; (intro w hSw; (try dsimp only at hSw); go_simp; try with_reducible rfl); intro _; try simp only [Act.put, List.setIfInBounds_toArray, List.set_cons_zero, List.set_cons_succ])
      apply ord_done
      go_wp2
      go_roundw
      case rel => exact ⟨k + 1, by omega, by go_num, by rw [HT1.out, ← HJ.out], HN3.out⟩
      case measure => simp [intOf] <;> omega
    · have hkL : k = l.length := by omega
      have hT : chainTxt (l.take k) = chainTxt l := by rw [hkL, List.take_length]
      rw [hT]
      have z0 : (bstr (chainTxt l)).size ≤ 1099511627776 := by rw [bstr_size]; exact HS.out
      by_cases hn : n < 0
      · have HJ : Hid (bstr (chainTxt l) ++ (⟨#[101, 110, 103, 114, 111, 115, 115, 101, 114, 58, 32, 101, 114, 114, 111, 114]⟩ : ByteArray) = bstr (chainTxt l ++ numTxt n)) := by
          unfold numTxt; rw [if_pos hn]
          exact Lib.hid (bstr_join9 (chainTxt l) [101, 110, 103, 114, 111, 115, 115, 101, 114, 58, 32, 101, 114, 114, 111, 114])
        generalize hR : bstr (chainTxt l ++ numTxt n) = R at *
        have HR := Lib.hid hR
        clear hR
        generalize bstr (chainTxt l) = T at *
        clear hT
        go_wp2
        go_ret
        exact ⟨by rw [HR.out, ← HJ.out]; rfl, HN.out⟩
      · have HJ : Hid (bstr (chainTxt l) ++ (⟨#[101, 110, 103, 114, 111, 115, 115, 101, 114, 58, 32, 101, 114, 114, 111, 114, 32]⟩ : ByteArray) ++ bstr (Lib.itoa n) = bstr (chainTxt l ++ numTxt n)) := by
          unfold numTxt; rw [if_neg hn]
          have e := bstr_join9 (chainTxt l) [101, 110, 103, 114, 111, 115, 115, 101, 114, 58, 32, 101, 114, 114, 111, 114, 32]
          have e2 := bstr_join9 (chainTxt l ++ [101, 110, 103, 114, 111, 115, 115, 101, 114, 58, 32, 101, 114, 114, 111, 114, 32]) (Lib.itoa n)
          rw [List.append_assoc] at e2
          rw [← e2, ← e]
          exact Lib.hid rfl
        have z1 : (bstr (chainTxt l) ++ (⟨#[101, 110, 103, 114, 111, 115, 115, 101, 114, 58, 32, 101, 114, 114, 111, 114, 32]⟩ : ByteArray)).size ≤ 1099511627800 := by
          have e := bstr_join9 (chainTxt l) [101, 110, 103, 114, 111, 115, 115, 101, 114, 58, 32, 101, 114, 114, 111, 114, 32]
          have e3 : (⟨#[101, 110, 103, 114, 111, 115, 115, 101, 114, 58, 32, 101, 114, 114, 111, 114, 32]⟩ : ByteArray) = bstr [101, 110, 103, 114, 111, 115, 115, 101, 114, 58, 32, 101, 114, 114, 111, 114, 32] := rfl
          rw [e3, e, bstr_size, List.length_append]; have := HS.out; simp; omega
        have z2 : (bstr (Lib.itoa n)).size ≤ 21 := by rw [bstr_size]; exact HIL.out
        generalize hR : bstr (chainTxt l ++ numTxt n) = R at *
        have HR := Lib.hid hR
        clear hR
        generalize bstr (chainTxt l) = T at *
        generalize bstr (Lib.itoa n) = D at *
        clear hT
        go_wp2_with fail
        refine (HNU.out wr).mono ?_
        rintro e w3 ⟨rfl, N3⟩
        have HN3 := Lib.hid (New.trans HN.out N3)
        clear N3
        go_wp2
        go_ret
        exact ⟨by rw [HR.out, ← HJ.out]; rfl, HN3.out⟩

set_option maxRecDepth 100000 in
set_option maxHeartbeats 1000000 in
theorem refPlace9 (w : World) (v : Value) (l : List (List UInt8 × Int)) (op : List UInt8) (hv : RdLk w v l) (hl : l.length ≤ 1000) :
    Calls Tryd.prog 15 #[v, .string (bstr op)] w fun e w' => e = .returned (.tuple #[.int .i64 (placeOf l op).1, .bool (placeOf l op).2]) ∧ w = w' := by
  obtain ⟨a, m, c, rfl⟩ : ∃ a n c, v = .slice a n c := by obtain ⟨_, ⟨a, n, c, e, _⟩, _⟩ := hv; exact ⟨a, n, c, e⟩
  obtain ⟨hm, hmc, hc⟩ := hv.len
  subst hm
  have HV := Lib.hid hv
  clear hv
  have HP := Lib.hid (placeOf_at l op)
  have HP0 := Lib.hid (placeOf_none l op)
  generalize hres : placeOf l op = res at *
  obtain ⟨r1, r2⟩ := res
  clear hres
  go_enter Tryd.func15, Tryd.ntmps15
  go_wp2_with fail
  go_loop [6] (fun i => ∃ k : Nat, k ≤ l.length ∧ i = .int .i64 k ∧ Hid (∀ i (hi : i < l.length), i < k → (l[i]).1 ≠ op)) (fun i => l.length - (intOf i).toNat)
  case atStart => exact ⟨0, Nat.zero_le _, rfl, Lib.hid (fun i _ hi => by omega)⟩
  case round =>
    obtain ⟨k, hk, rfl, HNO⟩ := hrel
    by_cases hlt : k < l.length
    · obtain ⟨b, off, rfl, hall, -, -⟩ := HV.out.at hlt
      obtain ⟨c0, c1⟩ := hall k hlt
      clear hall
      by_cases hop : (l[k]).1 = op
      · have hh := HP.out k hlt (fun i hi => HNO.out i (by omega) hi) hop
        have HH : Hid ((l[k]).2 = r1 ∧ r2 = true) := by
          simp at hh
          exact Lib.hid ⟨hh.1.symm, hh.2⟩
        clear hh
        generalize hx : l[k] = x at *
        clear hx
        subst hop
        go_wp2
        go_ret2
        obtain ⟨e1, e2⟩ := HH.out
        subst e1 e2
        exact ⟨rfl, rfl⟩
      · have HOP := Lib.hid hop
        have hop2 : ((bstr (l[k]).1).toList == (bstr op).toList) = false := by rw [bstr_list, bstr_list]; exact beq_eq_false_iff_ne.2 hop
        generalize hx : l[k] = x at *
        have HX := Lib.hid hx
        clear hx
        go_wp2
        go_round
        case rel =>
          refine ⟨k + 1, by omega, by go_num, Lib.hid (fun i hi hik => ?_)⟩
          rcases Nat.lt_or_ge i k with h | h
          · exact HNO.out i hi h
          · obtain rfl : i = k := by omega
            rw [HX.out]; exact HOP.out
        case measure => simp [intOf] <;> omega
    · have hkL : k = l.length := by omega
      have hh := HP0.out (fun i hi => HNO.out i hi (by omega))
      have HH := Lib.hid hh
      clear hh
      go_wp2
      go_ret2
      have := HH.out
      cases this
      exact ⟨rfl, rfl⟩

theorem drewN9 {w wr : World} (h : New w wr) (n : Nat) : New w (wr.drewN n) := New.trans h (by have := Lib.below_grow wr.heap.size wr (Nat.le_refl _) n #[]; simpa using this)

set_option maxRecDepth 100000 in
set_option maxHeartbeats 1000000 in
theorem same9 (w : World) (x y : Value) (vs : List (List UInt8)) (hx : RdV w x (vs.map fun s => .string (bstr s))) (hy : RdV w y (vs.map fun s => .string (bstr s))) (hl : vs.length ≤ 1000) :
    Calls Tryd.prog 16 #[x, y] w fun e w' => e = .returned (.bool true) ∧ New w w' := by
  have HX := Lib.hid hx
  have HY := Lib.hid hy
  obtain ⟨ax, nx, cx, rfl, hnx, -⟩ := hx
  obtain ⟨ay, ny, cy, rfl, hny, -⟩ := hy
  rw [List.length_map] at hnx hny
  subst hnx hny
  go_enter Tryd.func16, Tryd.ntmps16
  go_wp2_with fail
  go_loopw [5] (fun i wr => ∃ k : Nat, k ≤ vs.length ∧ i = .int .i64 k ∧ New w wr) (fun i _ => vs.length - (intOf i).toNat)
  case atStart => exact ⟨0, Nat.zero_le _, rfl, newRefl _⟩
  case round =>
    obtain ⟨k, hk, rfl, N⟩ := hrel
    have HN := Lib.hid N
    clear N
    by_cases hlt : k < vs.length
    · obtain ⟨bx, ox, rfl, hgx⟩ := (HX.out.new HN.out).cell (by omega)
      obtain ⟨by', oy, rfl, hgy⟩ := (HY.out.new HN.out).cell (by omega)
      have c0 := hgx k _ (by rw [List.getElem?_map, List.getElem?_eq_getElem hlt]; rfl)
      have c1 := hgy k _ (by rw [List.getElem?_map, List.getElem?_eq_getElem hlt]; rfl)
      clear hgx hgy
      generalize vs[k] = s at *
      go_wp2_with fail
      go_quiet (fail)
      go_wp2
      exact ⟨⟨k + 1, by omega, by go_num, drewN9 HN.out _⟩, by simp [intOf] <;> omega⟩
    · go_wp2
      go_ret
      exact ⟨rfl, HN.out⟩

/-- small: are they few, and short? -/
def small9B (l : List (List UInt8 × Int)) : Bool := decide (l.length ≤ 20) && l.all fun d => decide (d.1.length ≤ 50)

set_option maxRecDepth 100000 in
set_option maxHeartbeats 1000000 in
theorem small09 (w : World) (v : Value) (l : List (List UInt8 × Int)) (h : RdLk w v l) :
    Calls Tryd.prog 8 #[v] w fun e w' => e = .returned (.bool (small9B l)) ∧ w = w' := by
  obtain ⟨a, m, c, rfl⟩ : ∃ a n c, v = .slice a n c := by obtain ⟨_, ⟨a, n, c, e, _⟩, _⟩ := h; exact ⟨a, n, c, e⟩
  obtain ⟨hm, hmc, hc⟩ := h.len
  subst hm
  have HV := Lib.hid h
  clear h
  by_cases h1 : l.length ≤ 20
  · go_enter Tryd.func8, Tryd.ntmps8
    go_wp2
    go_loop [3] (fun i => ∃ k : Nat, k ≤ l.length ∧ i = .int .i64 k ∧ Hid ((l.take k).all (fun d => decide (d.1.length ≤ 50)) = true)) (fun i => l.length - (intOf i).toNat)
    case atStart => exact ⟨0, Nat.zero_le _, rfl, rfl⟩
    case round =>
      obtain ⟨k, hk, rfl, HA⟩ := hrel
      by_cases hlt : k < l.length
      · obtain ⟨b, off, rfl, hall, -, -⟩ := HV.out.at hlt
        obtain ⟨c0, c1⟩ := hall k hlt
        clear hall c1
        have hz : (bstr (l[k]).1).size = (l[k]).1.length := bstr_size _
        by_cases h7 : (l[k]).1.length ≤ 50
        · have h8 : (bstr (l[k]).1).size ≤ 50 := by omega
          clear hz
          go_wp2
          go_round
          case rel =>
            refine ⟨k + 1, by omega, by go_num, ?_⟩
            show _ = true
            rw [List.take_succ_eq_append_getElem hlt, List.all_append, HA.out]
            simp [h7]
          case measure => simp [intOf] <;> omega
        · have e : small9B l = false := by
            unfold small9B
            rw [Bool.and_eq_false_iff]
            right
            rw [List.all_eq_false]
            exact ⟨l[k], List.getElem_mem hlt, by simpa using h7⟩
          have E := Lib.hid e
          have h8 : 50 < (bstr (l[k]).1).size := by omega
          clear e hz
          go_wp2
          go_ret
          exact ⟨by rw [E.out]; rfl, rfl⟩
      · have e : small9B l = true := by
          have hkL : k = l.length := by omega
          have h2 := HA.out
          rw [hkL, List.take_length] at h2
          unfold small9B
          rw [h2]
          simpa using h1
        have E := Lib.hid e
        clear e
        go_wp2
        go_ret
        exact ⟨by rw [E.out]; rfl, rfl⟩
  · have e : small9B l = false := by unfold small9B; rw [Bool.and_eq_false_iff]; left; simpa using h1
    have E := Lib.hid e
    clear e
    go_enter Tryd.func8, Tryd.ntmps8
    go_wp2
    go_ret
    exact ⟨by rw [E.out]; rfl, rfl⟩

end Go.Proofs.YtnjijmphmgihiaaDoor
