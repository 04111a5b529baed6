/-
  MacNoughts: the walk.
-/
import Derived.Test.YtoooemlcackepaaDoorLaw03
import Derived.Test.YtoooemlcackepaaDoorOrd
import Derived.Test.YtoooemlcackepaaDoorAppZeros
namespace Go.Proofs.YtoooemlcackepaaDoor
set_option linter.unusedVariables false
set_option linter.unusedSimpArgs false
open Go.RowKit

/-- 'append([]byte{}, b...)': what it reads as, and that it is a row of one's own or empty without room -/
theorem run_append_copy' {P : Program} (w : World) (t ty e : TypeId) (i : TypeInfo) (z : Value) (ht : P.underlying t = some (.slice e)) (hi : P.info? e = some i) (hz : i.zero = some z)
    (hsize : i.size = 1) (hby : i.bytes = 1) (hzs : z.cells.size = 1) (ao : Option Addr) (x : Value) (l : List UInt8) (hx : Rd w x l) (hbytes : l.length ≤ 140737488355328) :
    ∃ v' w', (Builtin.append_ #[t, t] ty #[.slice ao 0 0, x]).run P w = .ok v' w' ∧ Rd w' v' l ∧ New w w' ∧ ∀ a n c, v' = .slice a n c → (n = 0 ∧ c = 0) ∨ w'.ownsRow w.heap.size e 1 (.slice a n c) n (l.map bv) := by
  by_cases hl : l = []
  · subst hl
    obtain ⟨a, m, c, rfl, h1, h2, h3, h4, h5⟩ := hx
    simp only [List.length_nil] at h1
    subst h1
    have hr : (Builtin.append_ #[t, t] ty #[.slice ao 0 0, .slice a 0 c]).run P w = .ok (.slice ao 0 0) w := by
      cases ao <;> cases a <;> simp [Builtin.append_, run_underlying ht, sizeOf, typeInfo, hi, Builtin.lenOf, Builtin.firstCells, storeCells, loadCells, loadCellsFrom]
    exact ⟨_, _, hr, ⟨ao, 0, 0, rfl, rfl, Nat.le_refl _, by simp [maxLen], fun _ => ⟨rfl, rfl⟩, by simp⟩, Below.refl _ _, fun a n c e => by cases e; exact .inl ⟨rfl, rfl⟩⟩
  · obtain ⟨v', w', hr, hrv, hn, ho⟩ := run_append_copy (P := P) w t ty e i z ht hi hz hsize hby hzs ao x l hx hbytes
    refine ⟨v', w', hr, hrv, hn, fun a n c e => ?_⟩
    subst e
    have := ho hl
    rw [hrv.len] at this
    exact .inr this

/-- an append whose run is known, as one operation -/
theorem oper_append2 {P : Program} {o : Oper} {a : Act} {w : World} {K : Act → World → Prop} {Q : Exit → Act → World → Prop} (s x : Operand) (t t2 : TypeId) (ho : o.op = .call { callee := .builtin .append, args := #[s, x], argTypes := #[t, t2] })
    (vs vx : Value) (hs : a.eval s = vs) (hx : a.eval x = vx) {v' : Value} {w' : World} (hr : (Builtin.append_ #[t, t2] o.type #[vs, vx]).run P w = .ok v' w') (h : K (a.put o.dst v') w') : o.wp P a w K Q := by
  unfold Oper.wp execOp
  simp only [ho, resolve, invoke, builtin, Sem.run_bind, Sem.run_pure, Result.andThen_ok, List.map_toArray, List.map_cons, List.map_nil, hs, hx, hr]
  exact h

set_option maxRecDepth 100000 in
set_option maxHeartbeats 2000000 in
theorem noughtsWalk (w : World) (x y : Value) (k l : List UInt8) (hx : Rd w x k) (hy : Rd w y l) (n : Int) (hn0 : 0 ≤ n) (hn1 : n ≤ 255) (hL : Laid w) :
    Calls Tryd.prog 4 #[x, y, .int .u8 n] w fun e w' => e = .returned (.bool true) ∧ New w w' := by
  have hx' := hx
  have hy' := hy
  obtain ⟨ax, nx, cx, rfl, hax, hxc, hxm, _, _⟩ := hx'
  obtain ⟨ay, ny, cy, rfl, hay, hyc, hym, _, _⟩ := hy'
  have HX := Lib.hid hx
  have HY := Lib.hid hy
  have HK := Lib.hid hax
  have HA := Lib.hid hay
  have HL := Lib.hid hL
  clear hax hx hy hL hay
  unfold maxLen at hxm hym
  by_cases h1 : nx ≤ 200
  · have hd1 : decide ((200 : Int) < (nx : Int)) = false := by simp; omega
    by_cases h2 : ny ≤ 300
    · have hd2 : decide ((300 : Int) < (ny : Int)) = false := by simp; omega
      have hkl : k.length ≤ 1099511627776 := by rw [HK.out]; omega
      have hll : l.length ≤ 1099511627776 := by rw [HA.out]; omega
      go_enter Tryd.func4, Tryd.ntmps4
      go_wp2_with fail
      refine (awake03 w HL.out).mono ?_
      rintro e w1 ⟨rfl, N1⟩
      go_wp2_with fail
      refine (tag1 w1 _ _ _ k l rfl (HX.out.new N1) hkl (HY.out.new N1) hll (HL.out.new N1)).mono ?_
      rintro e w2 ⟨a2, n2, c2, rfl, r2, rfl, N2⟩
      have ks := run_str (P := Tryd.prog) Tryd.underlying22 Tryd.underlying5 Tryd.underlying9 r2
      have N2w := New.trans N1 N2
      clear r2
      by_cases h64 : 64 < nx
      · have hd3 : decide ((64 : Int) < (nx : Int)) = true := by simp; omega
        have HH := Lib.hid (hmac_long k l (by rw [HK.out]; exact h64))
        have kk := run_str (P := Tryd.prog) Tryd.underlying22 Tryd.underlying5 Tryd.underlying9 (HX.out.new N2w)
        go_wp2_with fail
        refine (refSum w2 k hkl).mono ?_
        rintro e w3 ⟨rfl, N3⟩
        have N3w := New.trans N2w N3
        clear ks kk
        have hcv := Lib.run_convert_string_bytes (P := Tryd.prog) w3 9 22 5 (bstr (sha256 k)) Tryd.underlying9 Tryd.underlying22 Tryd.underlying5
        obtain ⟨hob, hnb⟩ := ownB_of_string w3 5 (sha256 k) (by rw [sha256_length]; omega)
        rw [bstr_size, sha256_length] at hcv hob
        generalize grownCap w3 32 0 5 = c0 at hcv hob
        generalize Lib.bytesWorld w3 5 (bstr (sha256 k)) = wb at hcv hob hnb
        have HRB := Lib.hid hob.rd
        have Nbw := New.trans N3w hnb
        clear hob
        go_wp2_with fail
        refine (tag1 wb _ _ _ (sha256 k) l rfl HRB.out (by rw [sha256_length]; omega) (HY.out.new Nbw) hll (HL.out.new Nbw)).mono ?_
        rintro e w4 ⟨a4, n4, c4, rfl, r4, rfl, N4⟩
        rw [HH.out] at r4
        have ks4 := run_str (P := Tryd.prog) Tryd.underlying22 Tryd.underlying5 Tryd.underlying9 r4
        clear hcv r4
        go_wp2
        go_ret
        exact ⟨rfl, New.trans Nbw N4⟩
      · have hd3 : decide ((64 : Int) < (nx : Int)) = false := by simp; omega
        obtain ⟨q, hw2, HQ⟩ : ∃ q : Int, IntKind.i64.wrap (65 - (nx : Int)) = q ∧ Hid (q = 65 - (nx : Int)) := ⟨_, IntWalk.i64_in _ (by omega), Lib.hid rfl⟩
        have hw1 : IntKind.i64.wrap n = n := IntWalk.i64_in _ (by omega)
        have hq0 : ¬ q = 0 := by have := HQ.out; omega
        obtain ⟨m, hm, hm2⟩ : ∃ m : Nat, n.tmod q = (m : Int) ∧ nx + m ≤ 64 := by
          have hq := HQ.out
          have e1 := Int.tmod_eq_emod_of_nonneg hn0 (b := q)
          have e2 := Int.emod_nonneg n (b := q) (by omega)
          have e3 := Int.emod_lt_of_pos n (b := q) (by omega)
          exact ⟨(n % q).toNat, by rw [e1]; omega, by omega⟩
        have HH := Lib.hid (hmac_zeros k l m (by rw [HK.out]; exact hm2))
        have hlen : (bstr (hmac k l)).size = 32 := by rw [bstr_size, hmac_length]
        go_wp2_with fail
        clear ks
        have hx2 : Rd w2.drew (.slice ax nx cx) k := HX.out.new N2w.drew
        have hN : New w w2.drew := N2w.drew
        refine region_ord (fun _ => True) [(1, true), (3, true), (4, true), (5, true), (6, true), (7, true), (8, true), (0, false), (2, false), (9, false), (10, true)] (by kernel_rfl) (by kernel_rfl) trivial (fun _ => ?_)
        generalize w2.drew = wd at *
        iterate 7 (apply ord_take; (simp only [List.getElem?_toArray, List.getElem?_cons_succ, List.getElem?_cons_zero]; rfl); rfl; (intro w hSw; (try dsimp only at hSw); go_simp; try with_reducible rfl); intro _; try simp only [Act.put, List.setIfInBounds_toArray, List.set_cons_zero, List.set_cons_succ])
        clear hw1 hw2 hq0 hm
        (apply ord_only; (simp only [List.getElem?_toArray, List.getElem?_cons_succ, List.getElem?_cons_zero]; rfl); rfl; intro K hK)
        go_simp
        have Na : New wd (wd.alloc (.cells #[] 5)) := (Below.refl _ _).alloc (Nat.le_refl _) _
        have hx3 := hx2.new Na
        refine hK.out _ _ (trivial) (fun _ => ?_)
        clear hK K
        try simp only [Act.put, List.setIfInBounds_toArray, List.set_cons_zero, List.set_cons_succ]
        (apply ord_only; (simp only [List.getElem?_toArray, List.getElem?_cons_succ, List.getElem?_cons_zero]; rfl); rfl; intro K hK)
        obtain ⟨i0, hi0, hz0, hz1, hz2⟩ := info_parts infoByte
        have hsz : wd.heap.size ≤ (wd.alloc (.cells #[] 5)).heap.size := Na.size
        obtain ⟨v', w4, hr, hrv, hn4, ho4⟩ := run_append_copy' (P := Tryd.prog) (wd.alloc (.cells #[] 5)) 22 22 5 i0 _ Tryd.underlying22 hi0 hz0 hz1 hz2 rfl (some ⟨wd.heap.size, 0, none⟩) _ k hx3 (by rw [HK.out]; omega)
        have hN4 := New.trans hN (New.trans Na hn4)
        have hb4 : wd.heap.size + 1 ≤ w4.heap.size := by have := hn4.size; simp at this; omega
        refine oper_append (.tmp 40) (.tmp 41) 22 rfl _ _ rfl rfl hr ?_
        have hrv' := hrv
        obtain ⟨av, nv, cv, rfl, _⟩ := hrv'
        obtain rfl : nv = nx := by rw [← hrv.len, HK.out]
        clear hr Na hx2 hx3
        refine hK.out _ _ (trivial) (fun _ => ?_)
        clear hK K
        try simp only [Act.put, List.setIfInBounds_toArray, List.set_cons_zero, List.set_cons_succ]
        (apply ord_only; (simp only [List.getElem?_toArray, List.getElem?_cons_succ, List.getElem?_cons_zero]; rfl); rfl; intro K hK)
        obtain ⟨v5, w5, hr5, hrv5, hn5⟩ := run_append_zeros w4 (wd.alloc (.cells #[] 5)).heap.size av nv cv k hrv (ho4 _ _ _ rfl) hn4.size m (by omega)
        have hN5 : New w w5 := Below.trans hN4 (Below.mono hn5 (Nat.le_trans hN.size hsz))
        refine oper_append2 (.tmp 42) (.tmp 48) 22 3 rfl _ _ rfl rfl hr5 ?_
        have hrv5' := hrv5
        obtain ⟨a5, n5, c5, rfl, _⟩ := hrv5'
        have HR5 := Lib.hid hrv5
        have HL5 := Lib.hid hrv5.len
        clear hr5 hrv hrv5
        refine hK.out _ _ (trivial) (fun _ => ?_)
        clear hK K
        try simp only [Act.put, List.setIfInBounds_toArray, List.set_cons_zero, List.set_cons_succ]
        iterate 1 (apply ord_take; (simp only [List.getElem?_toArray, List.getElem?_cons_succ, List.getElem?_cons_zero]; rfl); rfl; (intro w hSw; (try dsimp only at hSw); go_simp; try with_reducible rfl); intro _; try simp only [Act.put, List.setIfInBounds_toArray, List.set_cons_zero, List.set_cons_succ])
        apply ord_done
        go_wp2_with fail
        refine (tag1 w5 _ _ _ (k ++ List.replicate m 0) l rfl HR5.out (by rw [List.length_append, List.length_replicate, HK.out]; omega) (HY.out.new hN5) hll (HL.out.new hN5)).mono ?_
        rintro e w6 ⟨a6, n6, c6, rfl, r6, rfl, N6⟩
        rw [HH.out] at r6
        have ks6 := run_str (P := Tryd.prog) Tryd.underlying22 Tryd.underlying5 Tryd.underlying9 r6
        clear r6
        go_wp2
        go_ret
        exact ⟨rfl, New.trans hN5 N6⟩
    · have hd2 : decide ((300 : Int) < (ny : Int)) = true := by simp; omega
      go_enter Tryd.func4, Tryd.ntmps4
      go_wp2_with fail
      refine (awake03 w HL.out).mono ?_
      rintro e w1 ⟨rfl, hn1⟩
      go_wp2_with fail
      refine (awake03 w1 (HL.out.new hn1)).mono ?_
      rintro e w2 ⟨rfl, hn2⟩
      go_wp2
      go_ret
      exact ⟨rfl, New.trans hn1 hn2⟩
  · have hd1 : decide ((200 : Int) < (nx : Int)) = true := by simp; omega
    go_enter Tryd.func4, Tryd.ntmps4
    go_wp2_with fail
    refine (awake03 w HL.out).mono ?_
    rintro e w1 ⟨rfl, hn1⟩
    go_wp2_with fail
    refine (awake03 w1 (HL.out.new hn1)).mono ?_
    rintro e w2 ⟨rfl, hn2⟩
    go_wp2
    go_ret
    exact ⟨rfl, New.trans hn1 hn2⟩

end Go.Proofs.YtoooemlcackepaaDoor
