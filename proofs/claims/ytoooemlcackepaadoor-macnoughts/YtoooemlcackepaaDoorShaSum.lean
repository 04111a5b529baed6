/-
  sha.Sum: the digest of the parts.
-/
import Derived.Test.YtoooemlcackepaaDoorShaIter
import Derived.OrdersIn
namespace Go.Proofs.YtoooemlcackepaaDoor
set_option linter.unusedVariables false
set_option linter.unusedSimpArgs false
open Go.RowKit Go.Shelf

attribute [local go_sem] Oper.semAt_some

/-- the two tables lie where the program laid them -/
structure Laid (w : World) : Prop where
  ini : ∃ t fr, w.heap[0]? = some (.cells (h0.list.map wv).toArray t fr)
  con : KTab w

theorem Laid.new {w w' : World} (h : Laid w) (hn : New w w') : Laid w' := by
  obtain ⟨t, fr, h1⟩ := h.ini
  exact ⟨⟨t, fr, (hn.block 0 (lt_of_block h1)).trans h1⟩, h.con.new hn⟩

theorem shaBlocks (w : World) (v : Value) (a : Option Addr) (m c : Nat) (hv : v = .slice a m c) :
    Calls Tryd.prog 19 #[v] w fun e w' => e = .returned (.func (.func 23) #[] #[.pointer (some ⟨w.heap.size, 0, none⟩)]) ∧ w' = w.alloc (.cells #[v] 30) := by
  subst hv
  go_enter Tryd.func19, Tryd.ntmps19
  go_wp2
  go_ret
  exact ⟨rfl, rfl⟩

theorem allOneB (l : List UInt8) : ((l.map bv).toArray).all (·.oneCell') = true := by
  simp [Value.oneCell']

/-- what a round leaves -/
theorem sumRound {w W w' w'' : World} {cs old : Array Value} {t : TypeId} (hI : New w W) (hN : New W.drew w') (hN2 : New w' w'') (h1 : w''.heap[w.heap.size]? = some (.cells old t)) :
    Only (fun i => i = w.heap.size) W (w''.setRow w.heap.size cs) ∧ ((w''.setRow w.heap.size cs).heap[w.heap.size]? = some (.cells cs t) ∧ New w (w''.setRow w.heap.size cs)) := by
  have hd : New W W.drew := (Below.refl _ _).drew
  have h2 : New W w'' := New.trans (New.trans hd hN) hN2
  refine ⟨(New.only (F := fun i => i = w.heap.size) h2).trans (b := w'') (G := fun i => i = w.heap.size) ⟨rfl, rfl, rfl, by simp, fun k _ hk => setRow_other _ _ _ _ hk⟩ (fun _ _ h => h), setRow_heap _ _ _ _ _ _ h1, below_setRow (New.trans hI h2) (Nat.le_refl _) _⟩

/-- arr[t] of an array value of eight words -/
theorem run_index8 (s : H8) (t : Nat) (ht : t < 8) (wx : World) :
    (Instr.index 42 (.agg (s.list.map wv).toArray) (.int .i64 (t : Int))).run Tryd.prog wx = .ok (wv (s.list.getD t 0)) wx := by
  have hu : Tryd.prog.underlying 42 = some (.array 8 36) := by kernel_rfl
  have hs : (sizeOf 36).run Tryd.prog wx = .ok 1 wx := by kernel_rfl
  have ha : (isAgg 36).run Tryd.prog wx = .ok false wx := by kernel_rfl
  have hg : s.list[t]? = some (s.list.getD t 0) := by
    rw [List.getD_eq_getElem?_getD, List.getElem?_eq_getElem (by show t < 8; omega)]; rfl
  have h0 : (0 : Int) ≤ t ∧ (t : Int) < (8 : Nat) := ⟨by omega, by omega⟩
  have hp : (part 36 (s.list.map wv).toArray t).run Tryd.prog wx = .ok (wv (s.list.getD t 0)) wx := by
    unfold part
    rw [Sem.run_bind, ha]
    simp only [Result.andThen_ok, Bool.false_eq_true, if_false, List.getElem?_toArray, List.getElem?_map, hg, Option.map_some, Sem.run_pure]
  unfold Instr.index
  rw [Sem.run_bind]
  simp only [asIntOf, Sem.run_pure, Result.andThen_ok]
  rw [Sem.run_bind, run_underlying hu]
  simp only [Result.andThen_ok, if_pos h0]
  rw [Sem.run_bind, hs]
  simp only [Result.andThen_ok, Int.toNat_natCast, Nat.mul_one]
  exact hp

theorem out_start (W : World) : (W.alloc (.cells #[bv 0, bv 0, bv 0, bv 0, bv 0, bv 0, bv 0, bv 0, bv 0, bv 0, bv 0, bv 0, bv 0, bv 0, bv 0, bv 0, bv 0, bv 0, bv 0, bv 0, bv 0, bv 0, bv 0, bv 0, bv 0, bv 0, bv 0, bv 0, bv 0, bv 0, bv 0, bv 0] 5)).ownsRow W.heap.size 5 1 (.slice (some ⟨W.heap.size, 0, none⟩) 0 32) 0 [] :=
  ⟨rfl, .inr ⟨W.heap.size, 32, _, rfl, Nat.le_refl _, heap_alloc_new _ _, by omega, by simp [maxLen], rfl, rfl⟩⟩

theorem byte32 (x d : Nat) : ((x : Int) / (d : Int)) % 256 = ((UInt8.ofNat (x / d)).toNat : Int) := by
  rw [UInt8.toNat_ofNat']
  show _ = ((x / d % 256 : Nat) : Int)
  rw [Int.natCast_emod, Int.natCast_ediv]
  rfl

theorem rd_word (w : World) (x : UInt32) : Rd (w.alloc (.cells #[.int .u8 ((x.toNat : Int) / 16777216 % 256), .int .u8 ((x.toNat : Int) / 65536 % 256), .int .u8 ((x.toNat : Int) / 256 % 256), .int .u8 ((x.toNat : Int) % 256)] 5)) (.slice (some ⟨w.heap.size, 0, none⟩) 4 4) (wbytes x) := by
  have h1 := byte32 x.toNat 16777216
  have h2 := byte32 x.toNat 65536
  have h3 := byte32 x.toNat 256
  have h4 : ((x.toNat : Int)) % 256 = ((UInt8.ofNat x.toNat).toNat : Int) := by
    rw [UInt8.toNat_ofNat']; show _ = ((x.toNat % 256 : Nat) : Int); omega
  have h := Rd.made w (wbytes x) 5 (0, 0) (by simp [wbytes])
  unfold wbytes bv at h
  simp only [List.map_cons, List.map_nil] at h
  rw [← h1, ← h2, ← h3, ← h4] at h
  exact h

theorem wsbytes_take (ws : List UInt32) (k : Nat) (h : k < ws.length) : wsbytes (ws.take (k + 1)) = wsbytes (ws.take k) ++ wbytes (ws.getD k 0) := by
  rw [List.take_add_one, List.getElem?_eq_getElem h, List.getD_eq_getElem?_getD, List.getElem?_eq_getElem h]
  simp only [wsbytes, Option.toList_some, Option.getD_some, List.flatMap_append, List.flatMap_cons, List.flatMap_nil, List.append_nil]

/-- what Sum leaves -/
theorem sumEnd {w W wr : World} {A l : List UInt8} {D : Nat} {s : H8} {v : Value} (hA : A = l ++ padOf l.length) (hs : hashTo A (A.length / 64) = s) (hD : w.heap.size ≤ D) (hI : New w W) (hd : W.heap[D]? = some (.deferred (some []))) (hn : New W wr)
    (h : wr.ownsRow W.heap.size 5 1 v (wsbytes (s.list.take 8)).length ((wsbytes (s.list.take 8)).map bv)) : OwnRet w (sha256 l) (.returned v) (wr.putObj D (.deferred none)) := by
  have e : sha256 l = wsbytes (s.list.take 8) := by
    unfold sha256
    rw [← hA, hs]; rfl
  rw [e]
  have hdr : wr.heap[D]? = some (.deferred (some [])) := (hn.block _ (Array.getElem?_eq_some_iff.1 hd).1).trans hd
  refine ⟨v, rfl, ?_, ?_⟩
  · have h' : wr.ownsRow w.heap.size 5 1 v (wsbytes (s.list.take 8)).length ((wsbytes (s.list.take 8)).map bv) := by
      refine ⟨h.1, ?_⟩
      rcases h.2 with h0 | ⟨g, cap, cur, e1, hb, rest⟩
      · exact .inl h0
      · exact .inr ⟨g, cap, cur, e1, Nat.le_trans hI.size hb, rest⟩
    exact ownsRow_putObj h' _ hdr rfl
  · exact Below.trans (New.trans hI hn) (below_putObj _ _ _ _ hD (Array.getElem?_eq_some_iff.1 hdr).1)

theorem out_new {W wr w' : World} {o : Obj} {e : TypeId} {v : Value} {n : Nat} {xs : List Value} (hn : New W wr) (h : wr.ownsRow W.heap.size e 1 v n xs) (hg : (wr.alloc o).grownBy w' v.ownBlock) : New W w' :=
  Below.grown (hn.alloc hn.size o) hg (by have := hn.size; simp; omega) (fun j hj => own_from h j (by rw [blk_own]; exact hj))

theorem list8 (s : H8) : (s.list.map wv).toArray.size = 8 := rfl

theorem sumRound' {A : List UInt8} {k : Nat} {r : H8} (hr : hashTo A (k + 1) = r) {w W w' w'' : World} {old : Array Value} {t : TypeId} (hI : New w W) (hN : New W.drew w') (hN2 : New w' w'') (h1 : w''.heap[w.heap.size]? = some (.cells old t)) :
    Only (fun i => i = w.heap.size) W (w''.setRow w.heap.size (r.list.map wv).toArray) ∧ ((w''.setRow w.heap.size (r.list.map wv).toArray).heap[w.heap.size]? = some (.cells ((hashTo A (k + 1)).list.map wv).toArray t) ∧ New w (w''.setRow w.heap.size (r.list.map wv).toArray)) := by
  rw [hr]
  exact sumRound hI hN hN2 h1

set_option maxRecDepth 100000 in
set_option maxHeartbeats 2000000 in
theorem shaSum (w : World) (v : Value) (ps : List (Value × List UInt8)) (hv : RdL w v ps) (hn : (allOf ps).length ≤ 1152921504606846000) (hps : ps.length ≤ 100000) (hL : Laid w) :
    Calls Tryd.prog 14 #[v] w (OwnRet w (sha256 (allOf ps))) := by
  have hv' := hv.1
  obtain ⟨a, np, c, rfl, _⟩ := hv'
  obtain ⟨t0, fr0, hini⟩ := hL.ini
  have hini' : w.heap[0]? = some (.cells #[wv h0.a, wv h0.b, wv h0.c, wv h0.d, wv h0.e, wv h0.f, wv h0.g, wv h0.h] t0 fr0) := hini
  have HV := Lib.hid hv
  have HL := Lib.hid hL
  clear hini
  clear hv hL
  refine (callsIn_wide (n := 3)).1 ?_
  refine callsIn_of_wp_marks Tryd.func14 rfl trivial ?_ rfl
  simp only [Tryd.ntmps14, List.size_toArray, List.length_cons, List.length_nil, Nat.reduceAdd, Nat.reduceSub, Array.replicate_succ, Array.replicate_zero, List.push_toArray, List.append_toArray, List.nil_append, List.cons_append]
  gi_wp2_with (first | (refine wpListIn_load_row (o := ⟨some 8, _, _, _, _, _⟩) rfl 42 _ rfl 0 rfl _ _ _ _ hini' Tryd.underlying42 rfl (by kernel_rfl) ?_))
  generalize hw1 : w.alloc _ = w1
  have hs1 : w1.heap.size = w.heap.size + 1 := by rw [← hw1]; simp
  have hb1 : w1.heap[w.heap.size]? = some (.cells (h0.list.map wv).toArray 42) := by rw [← hw1]; exact heap_alloc_new _ _
  have hn1 : New w w1 := by rw [← hw1]; exact (Below.refl _ _).alloc (Nat.le_refl _) _
  clear hw1 hini'
  refine ⟨trivial, (callsIn_wide.2 (shaPadded w1 _ ps (HV.out.new hn1) (by omega) (by omega))).mono ?_⟩
  rintro e w2 ⟨v', pv, rfl, hrl, hn2, hfv, hfp⟩
  have hrl' := hrl.1
  obtain ⟨a2, np2, c2, rfl, _⟩ := hrl'
  have HRL := Lib.hid hrl
  have HFV := Lib.hid hfv
  have HFP := Lib.hid hfp
  have HB1 := Lib.hid hb1
  clear hrl hfv hfp hb1
  gi_wp2_with fail
  refine ⟨trivial, (callsIn_wide.2 (shaBlocks w2 _ a2 np2 c2 rfl)).mono ?_⟩
  rintro e w3 ⟨rfl, rfl⟩
  gi_wp2_with fail
  obtain ⟨A, HA⟩ : ∃ A, Hid (allOf (ps ++ [(pv, padOf (allOf ps).length)]) = A) := ⟨_, Lib.hid rfl⟩
  have HA' : Hid (A = allOf ps ++ padOf (allOf ps).length) := by
    show _ = _
    rw [← HA.out, allOf_append]; simp [allOf]
  have HM : Hid (A.length % 64 = 0) := by
    show _ = _
    rw [HA'.out]; exact padded_mod _
  have hs2 := hn2.size
  have hc3 : (w2.alloc (.cells #[.slice a2 np2 c2] 30)).cell? ⟨w2.heap.size, 0, none⟩ = some (.slice a2 np2 c2) := by rw [cell_of_row _ _ _ _ _ _ (heap_alloc_new _ _)]; rfl
  have hb3 : (w2.alloc (.cells #[.slice a2 np2 c2] 30)).heap[w.heap.size]? = some (.cells (h0.list.map wv).toArray 42) := by
    rw [heap_old _ _ _ (by omega)]
    exact (hn2.block _ (by omega)).trans HB1.out
  have hn3 : New w (w2.alloc (.cells #[.slice a2 np2 c2] 30)) := (New.trans hn1 hn2).alloc (by omega) _
  have hrl3 := HRL.out.new ((Below.refl _ _).alloc (Nat.le_refl _) (.cells #[.slice a2 np2 c2] 30))
  have hs3 : (w2.alloc (.cells #[.slice a2 np2 c2] 30)).heap.size = w2.heap.size + 1 := by simp
  generalize w2.alloc (.cells #[.slice a2 np2 c2] 30) = w3 at *
  refine wpIn_range_idx rfl (by omega) (gf := 23) (lb := #[.pointer (some ⟨w2.heap.size, 0, none⟩)]) rfl trivial (enters_of Tryd.func23 (by kernel_rfl) rfl)
    (fun k => #[.agg ((chunk A k).map bv).toArray]) (A.length / 64) (fun i => i = w.heap.size) ?hE ?seq (fun _ => rfl)
    (fun k W => W.heap[w.heap.size]? = some (.cells ((hashTo A k).list.map wv).toArray 42) ∧ New w W)
    ?hI ⟨hb3, hn3⟩
    (fun k a₁ W => ∃ q, a₁ = { tmps := #[.slice a np c, undef, .slice none 0 0, .pointer (some ⟨w.heap.size, 0, none⟩), .pointer (some ⟨q, 0, none⟩), undef, undef, undef, .agg #[wv h0.a, wv h0.b, wv h0.c, wv h0.d, wv h0.e, wv h0.f, wv h0.g, wv h0.h], .slice a np c, .slice a2 np2 c2, .func (.func 23) #[] #[.pointer (some ⟨w2.heap.size, 0, none⟩)], .agg ((chunk A k).map bv).toArray, undef, undef, undef, undef, undef, undef, undef, undef, undef, undef, undef, undef, undef, undef, undef, undef, undef, undef, undef, undef, undef, undef, undef, undef, undef], defers := [] } ∧ W.heap[q]? = some (.cells ((chunk A k).map bv).toArray 31))
    ?hX ?assign ?body ?done
  case hE => intro i hi; show i < w3.heap.size; rw [show i = w.heap.size from hi]; omega
  case hI =>
    rintro k X Y ⟨h1, h2⟩ hB
    have hle : w.heap.size ≤ w3.heap.size := by omega
    have hlt : w.heap.size < w3.heap.size := by omega
    exact ⟨(hB.block _ hlt).trans h1, Below.trans h2 (Below.mono hB hle)⟩
  case hX =>
    rintro k a A l r o ⟨q, rfl, hq⟩ hl
    refine ⟨q, rfl, ?_⟩
    rw [World.putObj_heap_other (fun e => by subst e; rw [hq] at hl; cases hl)]
    exact hq
  case seq =>
    intro l J W hW hl1 hl2 hJ hY h0J
    refine shaIter 2 l W.heap.size w2.heap.size (fun i => i = w.heap.size ∨ i = l) A _ (ps ++ [(pv, padOf (allOf ps).length)]) HA HM J hJ ?_ (fun k W1 hk hj hs => hY k W1 hk hj hs) W (Nat.le_refl _) ((hW.cell (p := ⟨w2.heap.size, 0, none⟩) (by show w2.heap.size < _; omega)).trans hc3) (hrl3.new hW) ?_ ?_ (by simp; omega) h0J
    · rintro i (rfl | rfl)
      · have := hW.size; omega
      · exact hl2
    · rintro k hk hne (rfl | rfl)
      · have := HFV.out _ hk; omega
      · have := HRL.out.1.lt hk (by simp); omega
    · rintro p hp k hk hne (rfl | rfl)
      · rcases List.mem_append.1 hp with h | h
        · have := (HV.out.2 p h).lt hk hne; omega
        · rw [List.mem_singleton.1 h] at hk
          have := HFP.out _ hk; omega
      · have := (HRL.out.2 p hp).lt hk hne; omega
  case assign =>
    intro l k W K hI hk hK
    have hcl : ((chunk A k).map bv).toArray.size = 64 := by
      rw [List.size_toArray, List.length_map, chunk_length]
      have := HM.out; omega
    have HCL := Lib.hid hcl
    clear hcl
    gi_wp2_with (refine wpListIn_store_row (o := ⟨none, _, _, _, _, _⟩) rfl 31 (.tmp 4) (.tmp 12) rfl W.heap.size ((chunk A k).map bv).toArray rfl rfl _ _ (heap_alloc_new _ _) (by rw [HCL.out]; kernel_rfl) (by rw [HCL.out]; rfl) (allOneB _) ?_)
    refine hK _ _ ?_ ⟨W.heap.size, rfl, ?_⟩
    · exact below_setRow ((Below.refl _ _).alloc (Nat.le_refl _) _) (Nat.le_refl _) _
    · exact setRow_heap _ _ _ _ _ _ (heap_alloc_new _ _)
  case body =>
    rintro l k a₁ W ⟨hI1, hI2⟩ ⟨q, rfl, hq⟩ hk
    dsimp only
    have hcl : (chunk A k).length = 64 := chunk_length _ _ (by have := HM.out; omega)
    have HQ := Lib.hid hq
    have HI1 := Lib.hid hI1
    have HCL := Lib.hid hcl
    clear hq hI1 hcl
    gi_wp2
    refine wpIn_region_any (by kernel_rfl) ?_
    change wpAnyIn _ _ _ _ _ _ _ _ _ W.drew
    have hlen8 := list8 (hashTo A k)
    have hlen64 : ((chunk A k).map bv).toArray.size = 64 := by rw [List.size_toArray, List.length_map, HCL.out]
    have h1d : W.drew.heap[w.heap.size]? = some (.cells ((hashTo A k).list.map wv).toArray 42) := HI1.out
    have hqd : W.drew.heap[q]? = some (.cells ((chunk A k).map bv).toArray 31) := HQ.out
    have hkt : KTab W.drew := (HL.out.new hI2).con
    obtain ⟨r, HR⟩ : ∃ r, Hid (hashTo A (k + 1) = r) := ⟨_, Lib.hid rfl⟩
    have hmixed : ∀ wx, KTab wx → Calls Tryd.prog 21 #[hagg (hashTo A k), .agg ((ext (chunk A k) 48).map wv).toArray] wx fun e w' => e = .returned (hagg r) ∧ New wx w' := fun wx hk => by
      rw [← HR.out, hashTo_succ]
      exact shaMixed wx (hashTo A k) (ext (chunk A k) 48) (Lib.hid (ext_length _ _)) (Lib.hid hk)
    have hexp : ∀ wx, Calls Tryd.prog 22 #[.agg ((chunk A k).map bv).toArray] wx fun e w' => e = .returned (.agg ((ext (chunk A k) 48).map wv).toArray) ∧ New wx w' := fun wx => shaExpanded wx (chunk A k) HCL
    generalize ext (chunk A k) 48 = ws at *
    generalize hashTo A k = s at *
    refine anyIn_two 0 1 (by kernel_rfl) rfl rfl rfl rfl (fun K hK => ?_) (fun K hK => ?_)
    · refine opIn_load_row 42 (.tmp 3) rfl w.heap.size rfl _ _ _ _ h1d Tryd.underlying42 rfl (by rw [hlen8]; kernel_rfl) (hK _ _ ?_)
      clear hK K
      simp only [Act.put, List.setIfInBounds_toArray, List.set_cons_zero, List.set_cons_succ]
      refine anyIn_one 1 (by kernel_rfl) rfl rfl (fun K hK => ?_)
      refine opIn_load_row 31 (.tmp 4) rfl q rfl _ _ _ _ hqd Tryd.underlying31 rfl (by rw [hlen64]; kernel_rfl) (hK _ _ ?_)
      clear hK K
      simp only [Act.put, List.setIfInBounds_toArray, List.set_cons_zero, List.set_cons_succ]
      refine anyIn_one 2 (by kernel_rfl) rfl rfl (fun K hK => ?_)
      refine opIn_call_wide (args := [.tmp 14]) (vals := [.agg ((chunk A k).map bv).toArray]) rfl rfl (enters_of Tryd.func22 (by kernel_rfl) rfl) (hexp W.drew) (fun e w' hR => ⟨_, hR.1, hK _ _ ?_⟩)
      have hN := hR.2
      clear hK K hR
      simp only [Act.put, List.setIfInBounds_toArray, List.set_cons_zero, List.set_cons_succ]
      have h1e := (hN.block _ (lt_of_block h1d)).trans h1d
      have hke := hkt.new hN
      refine anyIn_one 3 (by kernel_rfl) rfl rfl (fun K hK => ?_)
      refine opIn_call_wide (args := [.tmp 13, .tmp 15]) (vals := [hagg s, .agg (ws.map wv).toArray]) rfl rfl (enters_of Tryd.func21 (by kernel_rfl) rfl) (hmixed _ hke) (fun e w'' hR => ⟨_, hR.1, hK _ _ ?_⟩)
      have hN2 := hR.2
      clear hK K hR
      simp only [Act.put, List.setIfInBounds_toArray, List.set_cons_zero, List.set_cons_succ]
      have h1f := (hN2.block _ (lt_of_block h1e)).trans h1e
      refine anyIn_one 4 (by kernel_rfl) rfl rfl (fun K hK => ?_)
      refine opIn_store_row 42 (.tmp 3) (.tmp 16) rfl w.heap.size (r.list.map wv).toArray rfl rfl _ _ h1f (by rw [list8]; kernel_rfl) (by rw [list8, list8]) (allOne _) (hK _ _ ?_)
      clear hK K
      refine wpAnyIn_done (by kernel_rfl) ?_ _
      exact sumRound' HR.out hI2 hN hN2 h1f
    · refine opIn_load_row 31 (.tmp 4) rfl q rfl _ _ _ _ hqd Tryd.underlying31 rfl (by rw [hlen64]; kernel_rfl) (hK _ _ ?_)
      clear hK K
      simp only [Act.put, List.setIfInBounds_toArray, List.set_cons_zero, List.set_cons_succ]
      refine anyIn_two 0 2 (by kernel_rfl) rfl rfl rfl rfl (fun K hK => ?_) (fun K hK => ?_)
      · refine opIn_load_row 42 (.tmp 3) rfl w.heap.size rfl _ _ _ _ h1d Tryd.underlying42 rfl (by rw [hlen8]; kernel_rfl) (hK _ _ ?_)
        clear hK K
        simp only [Act.put, List.setIfInBounds_toArray, List.set_cons_zero, List.set_cons_succ]
        refine anyIn_one 2 (by kernel_rfl) rfl rfl (fun K hK => ?_)
        refine opIn_call_wide (args := [.tmp 14]) (vals := [.agg ((chunk A k).map bv).toArray]) rfl rfl (enters_of Tryd.func22 (by kernel_rfl) rfl) (hexp W.drew) (fun e w' hR => ⟨_, hR.1, hK _ _ ?_⟩)
        have hN := hR.2
        clear hK K hR
        simp only [Act.put, List.setIfInBounds_toArray, List.set_cons_zero, List.set_cons_succ]
        have h1e := (hN.block _ (lt_of_block h1d)).trans h1d
        have hke := hkt.new hN
        refine anyIn_one 3 (by kernel_rfl) rfl rfl (fun K hK => ?_)
        refine opIn_call_wide (args := [.tmp 13, .tmp 15]) (vals := [hagg s, .agg (ws.map wv).toArray]) rfl rfl (enters_of Tryd.func21 (by kernel_rfl) rfl) (hmixed _ hke) (fun e w'' hR => ⟨_, hR.1, hK _ _ ?_⟩)
        have hN2 := hR.2
        clear hK K hR
        simp only [Act.put, List.setIfInBounds_toArray, List.set_cons_zero, List.set_cons_succ]
        have h1f := (hN2.block _ (lt_of_block h1e)).trans h1e
        refine anyIn_one 4 (by kernel_rfl) rfl rfl (fun K hK => ?_)
        refine opIn_store_row 42 (.tmp 3) (.tmp 16) rfl w.heap.size (r.list.map wv).toArray rfl rfl _ _ h1f (by rw [list8]; kernel_rfl) (by rw [list8, list8]) (allOne _) (hK _ _ ?_)
        clear hK K
        refine wpAnyIn_done (by kernel_rfl) ?_ _
        exact sumRound' HR.out hI2 hN hN2 h1f
      · refine opIn_call_wide (args := [.tmp 14]) (vals := [.agg ((chunk A k).map bv).toArray]) rfl rfl (enters_of Tryd.func22 (by kernel_rfl) rfl) (hexp W.drew) (fun e w' hR => ⟨_, hR.1, hK _ _ ?_⟩)
        have hN := hR.2
        clear hK K hR
        simp only [Act.put, List.setIfInBounds_toArray, List.set_cons_zero, List.set_cons_succ]
        have h1e := (hN.block _ (lt_of_block h1d)).trans h1d
        have hke := hkt.new hN
        refine anyIn_one 0 (by kernel_rfl) rfl rfl (fun K hK => ?_)
        refine opIn_load_row 42 (.tmp 3) rfl w.heap.size rfl _ _ _ _ h1e Tryd.underlying42 rfl (by rw [hlen8]; kernel_rfl) (hK _ _ ?_)
        clear hK K
        simp only [Act.put, List.setIfInBounds_toArray, List.set_cons_zero, List.set_cons_succ]
        refine anyIn_one 3 (by kernel_rfl) rfl rfl (fun K hK => ?_)
        refine opIn_call_wide (args := [.tmp 13, .tmp 15]) (vals := [hagg s, .agg (ws.map wv).toArray]) rfl rfl (enters_of Tryd.func21 (by kernel_rfl) rfl) (hmixed _ hke) (fun e w'' hR => ⟨_, hR.1, hK _ _ ?_⟩)
        have hN2 := hR.2
        clear hK K hR
        simp only [Act.put, List.setIfInBounds_toArray, List.set_cons_zero, List.set_cons_succ]
        have h1f := (hN2.block _ (lt_of_block h1e)).trans h1e
        refine anyIn_one 4 (by kernel_rfl) rfl rfl (fun K hK => ?_)
        refine opIn_store_row 42 (.tmp 3) (.tmp 16) rfl w.heap.size (r.list.map wv).toArray rfl rfl _ _ h1f (by rw [list8]; kernel_rfl) (by rw [list8, list8]) (allOne _) (hK _ _ ?_)
        clear hK K
        refine wpAnyIn_done (by kernel_rfl) ?_ _
        exact sumRound' HR.out hI2 hN hN2 h1f
  case done =>
    rintro D W hD ⟨hI1, hI2⟩ hdef
    obtain ⟨i0, hi0, hz0, hz1, hz2⟩ := info_parts infoByte
    have hmk := run_make_bytes 0 32 (by omega) (by omega) (by omega) W
    obtain ⟨s, HS⟩ : ∃ s, Hid (hashTo A (A.length / 64) = s) := ⟨_, Lib.hid rfl⟩
    rw [HS.out] at hI1
    have hI1' : (W.alloc (.cells (List.replicate 32 (bv 0)).toArray 5)).heap[w.heap.size]? = some (.cells (s.list.map wv).toArray 42) := (heap_old _ _ _ (lt_of_block hI1)).trans hI1
    have HD := Lib.hid hdef
    have HIS := Lib.hid hI1'
    clear hdef hI1 hI1'
    gi_wp2_with (refine wpListIn_load_row (o := ⟨some 18, _, _, _, _, _⟩) rfl 42 (.tmp 3) rfl w.heap.size rfl _ _ _ _ HIS.out Tryd.underlying42 rfl (by rw [list8]; kernel_rfl) ?_)
    clear hmk
    gi_loopw [5, 19] (fun v i wr => ∃ k : Nat, k ≤ 8 ∧ i = .int .i64 k ∧ wr.ownsRow W.heap.size 5 1 v (wsbytes (s.list.take k)).length ((wsbytes (s.list.take k)).map bv) ∧ New W wr) (fun _ i _ => 8 - (intOf i).toNat)
    case atStart => exact ⟨0, by omega, rfl, out_start W, (Below.refl _ _).alloc (Nat.le_refl _) _⟩
    case round =>
      obtain ⟨k, hk, rfl, hown, hnw⟩ := hrel
      by_cases hlt : k < 8
      · have hix := run_index8 s k hlt
        obtain ⟨x, HX⟩ : ∃ x, Hid (s.list.getD k 0 = x) := ⟨_, Lib.hid rfl⟩
        rw [HX.out] at hix
        have hlen : (wsbytes (s.list.take k)).length ≤ 32 := by rw [wsbytes_length, List.length_take]; omega
        obtain ⟨L, HLL⟩ : ∃ L, Hid (wsbytes (s.list.take k) = L) := ⟨_, Lib.hid rfl⟩
        rw [HLL.out] at hown hlen
        have hsz := hnw.size
        have HN := Lib.hid hnw
        clear hnw
        gi_wp2_with (gi_at_builtin; refine wpListIn_append_bytes rfl _ _ 22 rfl W.heap.size 5 i0 _ Tryd.underlying22 hi0 hz0 hz1 hz2 rfl _ _ _ rfl (hown.alloc _) _ (wbytes x) rfl (rd_word _ _) ?_ ?_ ?_)
        · show L.length + 4 ≤ _; omega
        · simp; omega
        · intro v' w' hown' hgrow hat
          have HO : Hid (w'.ownsRow W.heap.size 5 1 v' (L ++ wbytes x).length ((L ++ wbytes x).map bv)) := by
            show w'.ownsRow _ _ _ _ _ _
            rw [List.length_append, List.map_append]; exact hown'
          clear hown' hat
          gi_wp2
          go_roundw
          case rel =>
            refine ⟨k + 1, by omega, by go_num, ?_, ?_⟩
            · rw [wsbytes_take _ _ (by show k < 8; omega), HX.out, HLL.out]
              exact HO.out
            · exact out_new HN.out hown hgrow
          case measure => simp [intOf]; omega
      · obtain rfl : k = 8 := by omega
        gi_wp2
        refine ⟨by simp, .inl ⟨_, _, rfl, run_takeDeferred ((hnw.block _ (Array.getElem?_eq_some_iff.1 HD.out).1).trans HD.out), ?_⟩⟩
        refine ⟨_, results_tmp rfl _ _ _, ?_⟩
        exact sumEnd HA'.out HS.out (by omega) hI2 HD.out hnw hown

end Go.Proofs.YtoooemlcackepaaDoor
