/-
  mac.Tag.
-/
import Derived.Test.YtoooemlcackepaaDoorMacPadd
namespace Go.Proofs.YtoooemlcackepaaDoor
set_option linter.unusedVariables false
set_option linter.unusedSimpArgs false
open Go.RowKit

/-- append onto a row of one's own of one-cell elements, whatever the source -/
theorem run_append_vals {P : Program} (w : World) (base : Nat) (t ty e : TypeId) (i : TypeInfo) (z : Value) (bytes : Nat) (ht : P.underlying t = some (.slice e)) (hi : P.info? e = some i) (hz : i.zero = some z)
    (hsize : i.size = 1) (hby : i.bytes = bytes) (hzs : z.cells.size = 1)
    (v : Value) (n : Nat) (xs : List Value) (hown : w.ownsRow base e 1 v n xs) (x : Value) (vs : List Value) (hx : RdV w x vs) (hone : ∀ u ∈ vs, u.oneCell' = true)
    (hbytes : (n + vs.length) * bytes ≤ 140737488355328) (hm : n + vs.length ≤ 140737488355328) (hbase : base ≤ w.heap.size) :
    ∃ v' w', (Builtin.append_ #[t, t] ty #[v, x]).run P w = .ok v' w' ∧ w'.ownsRow base e 1 v' (n + vs.length) (xs ++ vs) ∧ w.grownBy w' v.ownBlock := by
  obtain ⟨a, m, c, rfl, h1, h2, h3, h4, h5⟩ := hx
  cases a with
  | none =>
    obtain ⟨rfl, rfl⟩ := h4 rfl
    obtain rfl : vs = [] := List.eq_nil_of_length_eq_zero h1
    have hrun := run_append_owned_none (P := P) (w := w) base t ty e i 1 ht hi v n xs hown
    exact ⟨v, w, hrun, by simpa using hown, ⟨rfl, rfl, rfl, Nat.le_refl _, fun _ _ _ => rfl⟩⟩
  | some ad =>
    subst h1
    obtain ⟨v', w', hr, r2, r3, _, r5⟩ := run_append_own_at (P := P) w base t ty e i z 1 bytes ht hi hz hsize hby hzs (by omega) v n xs hown ad vs.length c vs (by simp)
      (fun j u hj => h5 ad rfl j u hj) hone (by simp only [maxLen]; omega) (by omega) hbase
    exact ⟨v', w', hr, r2, r3⟩

/-- an append whose run is known -/
theorem wpList_append_ran {P : Program} {w : World} {ops : Array Oper} {rest : List Oper} {o : Oper} {a : Act} {Q : Exit → Act → World → Prop} (hgd : o.guard = none) (s x : Operand) (t : TypeId) (ho : o.op = .call { callee := .builtin .append, args := #[s, x], argTypes := #[t, t] })
    (vs vx : Value) (hs : a.eval s = vs) (hx : a.eval x = vx) {v' : Value} {w' : World} (hr : (Builtin.append_ #[t, t] o.type #[vs, vx]).run P w = .ok v' w') (h : wpList P ops Q rest (a.put o.dst v') w') : wpList P ops Q (o :: rest) a w :=
  wpList_plain hgd fun K hK => oper_append s x t ho vs vx hs hx hr (hK _ _ h)

theorem Rd.oneCell {w : World} {v : Value} {l : List UInt8} (h : Rd w v l) : v.oneCell' = true := by
  obtain ⟨a, n, c, rfl, _⟩ := h; rfl

theorem RdL.oneCell {w : World} {v : Value} {ps : List (Value × List UInt8)} (h : RdL w v ps) : ∀ u ∈ ps.map (·.1), u.oneCell' = true := by
  intro u hu
  obtain ⟨p, hp, rfl⟩ := List.mem_map.1 hu
  exact (h.2 p hp).oneCell

/-- two slices of bytes in a new block -/
theorem RdL.made2 (w : World) (u v : Value) (k l : List UInt8) (e : TypeId) (hu : Rd w u k) (hv : Rd w v l) : RdL (w.alloc (.cells #[u, v] e)) (.slice (some ⟨w.heap.size, 0, none⟩) 2 2) [(u, k), (v, l)] :=
  ⟨RdV.made w [u, v] e (0, 0) (by simp), fun p hp => by
    rcases List.mem_cons.1 hp with rfl | hp
    · exact hu.new ((Below.refl _ _).alloc (Nat.le_refl _) _)
    · rw [List.mem_singleton.1 hp]; exact hv.new ((Below.refl _ _).alloc (Nat.le_refl _) _)⟩

theorem own_base {w : World} {b b' : Nat} {e : TypeId} {size : Nat} {v : Value} {n : Nat} {xs : List Value} (h : w.ownsRow b e size v n xs) (hb : b' ≤ b) : w.ownsRow b' e size v n xs := by
  refine ⟨h.1, ?_⟩
  rcases h.2 with h0 | ⟨g, cap, cur, e1, hb1, rest⟩
  · exact .inl h0
  · exact .inr ⟨g, cap, cur, e1, Nat.le_trans hb hb1, rest⟩

/-- what a grown row leaves -/
theorem new_grown {w w1 w' : World} {e : TypeId} {v : Value} {n : Nat} {xs : List Value} (hn : New w w1) (h : w1.ownsRow w.heap.size e 1 v n xs) (hg : w1.grownBy w' v.ownBlock) : New w w' :=
  Below.grown hn hg hn.size (fun j hj => own_from h j (by rw [blk_own]; exact hj))

set_option maxRecDepth 100000 in
set_option maxHeartbeats 1000000 in
theorem macTag (w : World) (v : Value) (k : List UInt8) (pv : Value) (ps : List (Value × List UInt8)) (hv : Rd w v k) (hk : k.length ≤ 1099511627776) (hp : RdL w pv ps) (hpl : (allOf ps).length ≤ 1099511627776) (hpn : ps.length ≤ 10000) (hL : Laid w) :
    Calls Tryd.prog 7 #[v, pv] w (OwnRet w (hmac k (allOf ps))) := by
  have hp' := hp.1
  obtain ⟨ap, np, cp, rfl, _⟩ := hp'
  have HV := Lib.hid hv
  have HP := Lib.hid hp
  have HL := Lib.hid hL
  clear hv hp hL
  have hlen : ((pad64 (keyOf k)).map bv).toArray.size = 64 := by rw [List.size_toArray, List.length_map, pad64_length _ (keyOf_length k)]
  have HB : Hid ((pad64 (keyOf k)).length = 64) := pad64_length _ (keyOf_length k)
  have HLEN := Lib.hid hlen
  clear hlen
  obtain ⟨B, HBB⟩ : ∃ B, Hid (pad64 (keyOf k) = B) := ⟨_, Lib.hid rfl⟩
  have HM : Hid (hmac k (allOf ps) = sha256 (maskB 92 B ++ sha256 (maskB 54 B ++ allOf ps))) := by show _ = _; unfold hmac; rw [HBB.out]
  have hpad := macPadded w v k HV.out hk HL.out
  rw [HBB.out] at HB HLEN hpad
  have HPAD := Lib.hid hpad
  clear hpad
  go_enter Tryd.func7, Tryd.ntmps7
  go_wp2_with fail
  refine HPAD.out.mono ?_
  rintro e w1 ⟨rfl, N1⟩
  go_upto_region 2 with (refine wpList_store_row rfl 31 _ _ rfl w1.heap.size (B.map bv).toArray rfl rfl _ _ (heap_alloc_new _ _) (by rw [HLEN.out]; kernel_rfl) (by rw [HLEN.out]; rfl) (allOneB _) ?_)
  have hg2 := setRow_heap _ w1.heap.size _ (B.map bv).toArray _ _ (heap_alloc_new w1 (.cells (List.replicate 64 (bv 0)).toArray 31))
  have N2 := New.trans N1 (below_setRow ((Below.refl w1.heap.size w1).alloc (Nat.le_refl _) (.cells (List.replicate 64 (bv 0)).toArray 31)) (Nat.le_refl _) (B.map bv).toArray)
  have hs1 := N1.size
  generalize hw2 : World.setRow _ _ _ = w2
  have HG2 : Hid (w2.heap[w1.heap.size]? = some (.cells (B.map bv).toArray 31)) := by show _ = _; rw [← hw2]; exact hg2
  have HN2 : Hid (New w w2) := by show New w w2; rw [← hw2]; exact N2
  clear hw2 hg2 N2 N1
  refine wp_region_lit ?_
  refine wpList_load_row rfl 31 _ rfl w1.heap.size rfl _ _ _ _ HG2.out Tryd.underlying31 rfl (by rw [HLEN.out]; kernel_rfl) ?_
  go_wp2_with fail
  refine (macMasked w2 B HB 54).mono ?_
  rintro e w3 ⟨rfl, r3, N3⟩
  have N3w := New.trans HN2.out N3
  have hs3 := N3w.size
  obtain ⟨i0, hi0, hz0, hz1, hz2⟩ := info_parts infoBytes
  have hp3 := HP.out.new (N3w.alloc hs3 (.cells #[.slice (some ⟨w2.heap.size, 0, none⟩) 64 64] 22))
  have hown3 : (w3.alloc (.cells #[.slice (some ⟨w2.heap.size, 0, none⟩) 64 64] 22)).ownsRow w3.heap.size 22 1 (.slice (some ⟨w3.heap.size, 0, none⟩) 1 1) 1 [.slice (some ⟨w2.heap.size, 0, none⟩) 64 64] :=
    ⟨rfl, .inr ⟨w3.heap.size, 1, _, rfl, Nat.le_refl _, heap_alloc_new _ _, by omega, by simp [maxLen], rfl, rfl⟩⟩
  obtain ⟨vi, w4, happ, hown4, hgr4⟩ := run_append_vals (P := Tryd.prog) _ w3.heap.size 30 30 22 i0 _ 24 Tryd.underlying30 hi0 hz0 hz1 hz2 rfl _ 1 _ hown3 _ _ hp3.1 hp3.oneCell (by rw [List.length_map]; omega) (by rw [List.length_map]; omega) (by simp)
  have N4 : New w3 w4 := new_grown ((Below.refl _ _).alloc (Nat.le_refl _) _) hown3 hgr4
  have hs4 := N4.size
  have hrl4 : RdL w4 vi ((.slice (some ⟨w2.heap.size, 0, none⟩) 64 64, maskB 54 B) :: ps) := by
    refine ⟨RdV.of_own hown4, fun p hp => ?_⟩
    rcases List.mem_cons.1 hp with rfl | hp
    · exact r3.new N4
    · exact (HP.out.2 p hp).new (New.trans N3w N4)
  have hvi : ∃ ai ni ci, vi = .slice ai ni ci := by have := hrl4.1; obtain ⟨ai, ni, ci, e, _⟩ := this; exact ⟨ai, ni, ci, e⟩
  obtain ⟨ai, ni, ci, rfl⟩ := hvi
  have HG4 : Hid (w4.heap[w1.heap.size]? = some (.cells (B.map bv).toArray 31)) := ((N4.block _ (Nat.lt_of_lt_of_le (lt_of_block HG2.out) N3.size)).trans (N3.block _ (lt_of_block HG2.out))).trans HG2.out
  have HRL := Lib.hid hrl4
  have HN4 := Lib.hid (New.trans N3w N4)
  clear hrl4 hown4 hgr4 hown3 hp3 r3
  have HAPP := Lib.hid happ
  clear happ
  go_upto_region 3 with (at_builtin; refine wpList_append_ran rfl _ _ 30 rfl _ _ rfl rfl HAPP.out ?_)
  refine wp_region_lit ?_
  refine wpList_load_row rfl 31 _ rfl w1.heap.size rfl _ _ _ _ HG4.out Tryd.underlying31 rfl (by rw [HLEN.out]; kernel_rfl) ?_
  go_wp2_with fail
  refine (macMasked w4 B HB 92).mono ?_
  rintro e w5 ⟨rfl, r5, N5⟩
  have HR5 := Lib.hid r5
  have N5w := New.trans HN4.out N5
  clear r5
  go_wp2_with fail
  refine (shaSum w5 _ _ (HRL.out.new N5) ?_ ?_ (HL.out.new N5w)).mono ?_
  · simp [allOf, maskB_length, HB.out] at hpl ⊢; omega
  · simp; omega
  rintro e w6 ⟨vo, rfl, hown6, N6⟩
  have r6 := Rd.of_own hown6
  have r6' := r6
  obtain ⟨ao, no, co, rfl, _⟩ := r6'
  have HR6 := Lib.hid r6
  have HR5' := Lib.hid (HR5.out.new N6)
  have N6w := New.trans N5w N6
  clear r6 hown6 HR5
  go_wp2_with fail
  refine (shaSum _ _ _ (RdL.made2 w6 _ _ _ _ 22 HR5'.out HR6.out) ?_ (by simp) (HL.out.new (N6w.alloc N6w.size _))).mono ?_
  · simp [allOf, maskB_length, HB.out, sha256_length]
  rintro e w7 ⟨vr, rfl, hown7, N7⟩
  have HO7 := Lib.hid hown7
  have HN7 := Lib.hid (New.trans (N6w.alloc N6w.size (.cells #[.slice (some ⟨w4.heap.size, 0, none⟩) 64 64, .slice ao no co] 22)) N7)
  clear hown7
  go_wp2
  go_ret
  refine ⟨vr, rfl, ?_, HN7.out⟩
  have h := HO7.out
  simp only [allOf, List.flatMap_cons, List.flatMap_nil, List.append_nil] at h
  rw [HM.out]
  exact own_base h (by have := N6w.size; simp; omega)

end Go.Proofs.YtoooemlcackepaaDoor
