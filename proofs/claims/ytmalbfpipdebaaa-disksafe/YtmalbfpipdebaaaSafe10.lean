/-
  The law DiskSafe, walked.
-/
import Derived.Test.YtmalbfpipdebaaaLaw10
namespace Go.Proofs.Ytmalbfpipdebaaa
set_option linter.unusedVariables false
set_option linter.unusedSimpArgs false
open Go.RowKit


/-- the writes of a loop: write i is of sector 'at[i] % 8', full of the byte c + i -/
def wrs (c : Nat) (l : List UInt8) (j : Nat) : List Wr := (List.range j).map fun i => ((l.getD i 0).toNat % 8, full (UInt8.ofNat (c + i)))

theorem wrs_succ (c : Nat) (l : List UInt8) (j : Nat) : wrs c l (j + 1) = wrs c l j ++ [((l.getD j 0).toNat % 8, full (UInt8.ofNat (c + j)))] := by
  simp [wrs, List.range_succ]

theorem wrs_length (c : Nat) (l : List UInt8) (j : Nat) : (wrs c l j).length = j := by simp [wrs]

theorem wrs_mem {c : Nat} {l : List UInt8} {j : Nat} {p : Wr} (h : p ∈ wrs c l j) : ∃ i, i < j ∧ p = ((l.getD i 0).toNat % 8, full (UInt8.ofNat (c + i))) := by
  obtain ⟨i, hi, rfl⟩ := List.mem_map.1 h
  exact ⟨i, by simpa using hi, rfl⟩

/-- a byte of a slice, at the address as a walk has it -/
theorem rd_at10 {w : World} {a : Option Addr} {n c : Nat} {l : List UInt8} (h : Rd w (.slice a n c) l) (hn : 0 < n) :
    ∃ b off, a = some ⟨b, off, none⟩ ∧ ∀ i, i < n → w.cell? ⟨b, off + i, none⟩ = some (bv (l.getD i 0)) := by
  obtain ⟨a', n', c', e, h1, h2, h3, h4, h5⟩ := h
  cases e
  cases a with
  | none => have := (h4 rfl).1; omega
  | some ad =>
    obtain ⟨b, off, spot⟩ := ad
    have hs : spot = none := by
      cases l with
      | nil => simp at h1; omega
      | cons x r =>
        have := h5 _ rfl 0 x rfl
        simp only [Addr.add, if_pos] at this
        unfold World.cell? at this
        split at this
        · cases spot with
          | none => rfl
          | some _ => simp at this
        · cases this
    subst hs
    refine ⟨b, off, rfl, fun i hi => ?_⟩
    have := h5 _ rfl i (l.getD i 0) (by rw [List.getD_eq_getElem?_getD, List.getElem?_eq_getElem (by omega)]; rfl)
    rwa [Addr.add_mid] at this

theorem byte10 (c j : Nat) (h : c + j ≤ 1000) : IntKind.u8.wrap (IntKind.i64.wrap ((c : Int) + (j : Int))) = ((UInt8.ofNat (c + j)).toNat : Int) := by
  have h1 : IntKind.i64.wrap ((c : Int) + (j : Int)) = ((c + j : Nat) : Int) := by rw [IntWalk.i64_in _ (by omega)]; omega
  rw [h1, IntKind.wrap_u8, UInt8.toNat_ofNat']
  omega

theorem sect10 (a : UInt8) : (IntKind.i64.wrap (a.toNat : Int)).tmod 8 = ((a.toNat % 8 : Nat) : Int) := by
  have := a.toNat_lt
  rw [IntWalk.i64_in _ (by omega), Int.tmod_eq_emod_of_nonneg (by omega)]
  omega

def Byte10 (b o : Nat) (v : UInt8) (x : Value) (l : List UInt8) (w : World) : Prop := w.cell? ⟨b, o, none⟩ = some (bv v) ∧ Str10 x l w

def At10 (b o : Nat) (v : UInt8) (w : World) : Prop := w.cell? ⟨b, o, none⟩ = some (bv v)

/-- was a sector's bytes A what it had (B), or one of the writes ahead of i? -/
def okB (A B : List UInt8) (t : Nat) (s : List UInt8) : Nat → Bool
  | 0 => A == B
  | i + 1 => okB A B t s i || ((s.getD i 0).toNat % 8 == t && A == full (UInt8.ofNat (100 + i)))

theorem okB_mono (A B : List UInt8) (t : Nat) (s : List UInt8) (i : Nat) (h : okB A B t s i = true) : ∀ k, okB A B t s (i + k) = true
  | 0 => h
  | k + 1 => by
    show okB A B t s (i + k + 1) = true
    unfold okB
    rw [okB_mono A B t s i h k]
    rfl

theorem okB_of {A B : List UInt8} {t j : Nat} {s : List UInt8} (h : A = B ∨ ∃ p ∈ wrs 100 s j, p.1 = t ∧ A = p.2) : okB A B t s j = true := by
  rcases h with rfl | ⟨p, hp, h1, h2⟩
  · have := okB_mono A A t s 0 (by simp [okB]) j
    rwa [Nat.zero_add] at this
  · obtain ⟨i, hi, rfl⟩ := wrs_mem hp
    have h3 : okB A B t s (i + 1) = true := by
      unfold okB
      simp only at h1 h2
      rw [h1, h2]
      simp
    have := okB_mono A B t s (i + 1) h3 (j - (i + 1))
    rwa [show i + 1 + (j - (i + 1)) = j by omega] at this

/-- b[128*s:128*s+128] -/
theorem run_slice_sec (wx : World) (b n c s : Nat) (h : 128 * s + 128 ≤ c) :
    (Instr.slice 22 (.slice (some ⟨b, 0, none⟩) n c) (some (.int .i64 ((128 * s : Nat) : Int))) (some (.int .i64 ((128 * s + 128 : Nat) : Int))) none).run Try.prog wx = .ok (.slice (some ⟨b, 128 * s, none⟩) 128 (c - 128 * s)) wx := by
  rw [run_slice_lh wx 22 (some ⟨b, 0, none⟩) n c Try.underlying22 .i64 .i64 _ _ (by omega) (by omega) (by omega)]
  have hz : (sizeOf (Try.prog.elem 22)).run Try.prog wx = .ok 1 wx := by kernel_rfl
  rw [hz]
  simp only [Result.andThen_ok, sliced, Int.toNat_natCast, Nat.mul_one]
  rw [if_neg (by omega), show 128 * s + 128 - 128 * s = 128 by omega, Option.map_some, Addr.add_mid, Nat.zero_add]

/-- in the midst of a loop of writes -/
structure SafeIn (w : World) (g c : Nat) (F : Nat → Prop) (D : List UInt8) (l : List UInt8) (j : Nat) (wr : World) : Prop where
  dev : Dev wr 8 g F D (layAll D (wrs c l j)) (wrs c l j)
  new : New w wr

set_option maxRecDepth 100000 in
set_option maxHeartbeats 4000000 in
theorem safeWalk (w : World) (x y z : Value) (l s : List UInt8) (keep : List Int) (hx : Rd w x l) (hy : Rd w y s) (hz : RdV w z (keep.map (Value.int .i64))) :
    Calls Try.prog 4 #[x, y, z] w fun e w' => e = .returned (.bool true) ∧ New w w' := by
  have HX := Lib.hid hx
  have HY := Lib.hid hy
  have HZ := Lib.hid hz
  obtain ⟨ax, mx, cx, rfl, hax, hxc, hxm, -, -⟩ := hx
  obtain ⟨ay, my, cy, rfl, hay, hyc, hym, -, -⟩ := hy
  obtain ⟨az, mz, cz, rfl, haz, hzc, hzm, -, -⟩ := hz
  rw [List.length_map] at haz
  unfold maxLen at hxm hym hzm
  by_cases h1 : 20 < mx
  · have hd1 : decide ((20 : Int) < (mx : Int)) = true := by simp; omega
    clear hax hay haz
    go_enter Try.func4, Try.ntmps4
    go_wp2_with fail
    refine (awake10 w).mono ?_
    rintro e w1 ⟨rfl, N1⟩
    go_wp2_with fail
    refine (awake10 w1).mono ?_
    rintro e w2 ⟨rfl, N2⟩
    go_wp2
    go_ret
    exact ⟨rfl, New.trans N1 N2⟩
  have hd1 : decide ((20 : Int) < (mx : Int)) = false := by simp; omega
  by_cases h2 : 20 < my
  · have hd2 : decide ((20 : Int) < (my : Int)) = true := by simp; omega
    clear hax hay haz
    go_enter Try.func4, Try.ntmps4
    go_wp2_with fail
    refine (awake10 w).mono ?_
    rintro e w1 ⟨rfl, N1⟩
    go_wp2_with fail
    refine (awake10 w1).mono ?_
    rintro e w2 ⟨rfl, N2⟩
    go_wp2
    go_ret
    exact ⟨rfl, New.trans N1 N2⟩
  have hd2 : decide ((20 : Int) < (my : Int)) = false := by simp; omega
  by_cases h3 : 30 < mz
  · have hd3 : decide ((30 : Int) < (mz : Int)) = true := by simp; omega
    clear hax hay haz
    go_enter Try.func4, Try.ntmps4
    go_wp2_with fail
    refine (awake10 w).mono ?_
    rintro e w1 ⟨rfl, N1⟩
    go_wp2_with fail
    refine (awake10 w1).mono ?_
    rintro e w2 ⟨rfl, N2⟩
    go_wp2
    go_ret
    exact ⟨rfl, New.trans N1 N2⟩
  have hd3 : decide ((30 : Int) < (mz : Int)) = false := by simp; omega
  have HAX := Lib.hid hax
  have HAY := Lib.hid hay
  have HAZ := Lib.hid haz
  clear hax hay haz
  go_enter Try.func4, Try.ntmps4
  go_wp2_with fail
  refine (awake10 w).mono ?_
  rintro e w1 ⟨rfl, N1⟩
  go_wp2_with fail
  refine (diskNew w1 8 (by decide)).mono ?_
  rintro e w2 ⟨g, rfl, hd, N2⟩
  have HI0 : Hid (SafeIn w g 1 (fun k => w.heap.size ≤ k) (zeros (128 * 8)) l 0 w2) := Lib.hid ⟨hd.narrow (fun k _ hk => Nat.le_trans N1.size hk), New.trans N1 N2⟩
  clear hd N1 N2
  go_wp2
  go_loopw [9] (fun i wr => ∃ j : Nat, j ≤ mx ∧ i = .int .i64 j ∧ SafeIn w g 1 (fun k => w.heap.size ≤ k) (zeros (128 * 8)) l j wr) (fun i _ => mx - (intOf i).toNat)
  case atStart => exact ⟨0, Nat.zero_le _, rfl, HI0.out⟩
  case round =>
    clear HI0
    obtain ⟨j, hj, rfl, hin⟩ := hrel
    have HI := Lib.hid hin
    clear hin
    by_cases hlt : j < mx
    · obtain ⟨b3, o3, rfl, hc⟩ := rd_at10 (HX.out.new HI.out.new) (by omega)
      have hcj := hc j hlt
      clear hc
      obtain ⟨a, HA⟩ : ∃ a, Hid (l.getD j 0 = a) := ⟨_, Lib.hid rfl⟩
      rw [HA.out] at hcj
      go_upto_region 9 with fail
      have HDd := Lib.hid (HI.out.dev.new (show New wr wr.drew from (Below.refl _ _).drew))
      have HNd := Lib.hid HI.out.new.drew
      have HXd : Hid (Rd wr.drew (.slice (some ⟨b3, o3, none⟩) mx cx) l) := Lib.hid (HX.out.new HNd.out)
      refine region_ord (At10 b3 (o3 + j) a) [(0, true), (1, true), (2, true), (3, true), (4, true), (5, true), (6, true), (7, true), (8, true), (9, true), (10, false), (11, false)] (by kernel_rfl) (by kernel_rfl) hcj (fun _ => ?_)
      generalize wr.drew = wd at *
      unfold At10
      iterate 10 (apply ord_take; (simp only [List.getElem?_toArray, List.getElem?_cons_succ, List.getElem?_cons_zero]; rfl); rfl; (intro w hSw; (try dsimp only at hSw); go_simp; try with_reducible rfl); intro _; try simp only [Act.put, List.setIfInBounds_toArray, List.set_cons_zero, List.set_cons_succ])
      (apply ord_only; (simp only [List.getElem?_toArray, List.getElem?_cons_succ, List.getElem?_cons_zero]; rfl); rfl; intro K hK)
      go_simp
      have hbj : IntKind.u8.wrap (IntKind.i64.wrap (1 + (j : Int))) = ((UInt8.ofNat (1 + j)).toNat : Int) := byte10 1 j (by omega)
      rw [hbj]
      clear hbj
      refine (filled10 wd (UInt8.ofNat (1 + j))).mono ?_
      rintro e wa ⟨rfl, hra, hna, -⟩
      have HRa := Lib.hid hra
      have HDa := Lib.hid (HDd.out.avoid hna)
      have HNa := Lib.hid (New.trans HNd.out hna)
      have HXa := Lib.hid (HXd.out.new hna)
      have hba : w.heap.size ≤ wd.heap.size := HNd.out.size
      obtain ⟨_, _, hpp, hca⟩ := rd_at10 HXa.out (by omega)
      cases hpp
      replace hca := hca j hlt
      rw [HA.out] at hca
      clear hra hna HDd HNd HXd hcj
      refine hK.out _ _ (hca) (fun _ => ?_)
      clear hK K
      try simp only [Act.put, List.setIfInBounds_toArray, List.set_cons_zero, List.set_cons_succ]
      generalize wd.heap.size = gb at *
      (apply ord_only; (simp only [List.getElem?_toArray, List.getElem?_cons_succ, List.getElem?_cons_zero]; rfl); rfl; intro K hK)
      go_simp
      rw [sect10 a]
      refine (diskWrite HDa.out (a.toNat % 8) (Nat.mod_lt _ (by decide)) gb 128 (full (UInt8.ofNat (1 + j))) HRa.out (full_length _) (by decide) (fun h => h.2 rfl) (by rw [wrs_length]; omega)).mono ?_
      rintro e wb ⟨rfl, hdb⟩
      have HNb := Lib.hid (hdb.grow HNa.out (fun k hk => hk.1))
      have HDb : Hid (Dev wb 8 g (fun k => w.heap.size ≤ k) (zeros (128 * 8)) (layAll (zeros (128 * 8)) (wrs 1 l (j + 1))) (wrs 1 l (j + 1))) := by
        rw [wrs_succ, layAll_snoc, HA.out]
        exact Lib.hid (hdb.above (fun k hk => hk.1) (fun k hk => Nat.le_trans HNa.out.size hk))
      obtain ⟨_, _, hpp, hcb⟩ := rd_at10 (HX.out.new HNb.out) (by omega)
      cases hpp
      replace hcb := hcb j hlt
      rw [HA.out] at hcb
      clear hdb HDa HNa HXa hca
      refine hK.out _ _ (hcb) (fun _ => ?_)
      clear hK K
      try simp only [Act.put, List.setIfInBounds_toArray, List.set_cons_zero, List.set_cons_succ]
      apply ord_done
      go_wp2
      go_roundw
      case rel => exact ⟨j + 1, by omega, by go_num, ⟨HDb.out, HNb.out⟩⟩
      case measure => simp [intOf]; omega
    · obtain rfl : j = mx := by omega
      obtain ⟨D1, HD1⟩ : ∃ D1, Hid (layAll (zeros (128 * 8)) (wrs 1 l j) = D1) := ⟨_, Lib.hid rfl⟩
      go_wp2_with fail
      refine (diskFlush HI.out.dev).mono ?_
      rintro e w3 ⟨rfl, hd3⟩
      rw [HD1.out] at hd3
      have HN3 := Lib.hid (hd3.grow HI.out.new (fun k hk => hk))
      have HD3 := Lib.hid (hd3.above (G := fun k => w.heap.size ≤ k) (fun k hk => hk) (fun k hk => Nat.le_trans HI.out.new.size hk))
      clear hd3 HI HD1 hlt hj
      have hlen := HD3.out.lens.1
      go_wp2_with fail
      refine (devImage HD3.out).mono ?_
      rintro e w4 ⟨gw, cw, rfl, hrw, hkw, hmw, hbw, hnw⟩
      rw [hlen] at hkw ⊢
      have HLEN := Lib.hid hlen
      have HW4 := Lib.hid hrw
      have HI0 : Hid (SafeIn w g 100 (fun k => w.heap.size ≤ k ∧ k ≠ gw) D1 s 0 w4) := Lib.hid ⟨(HD3.out.narrow (G := fun k => w.heap.size ≤ k ∧ k ≠ gw) (fun k hk hF => ⟨hF, by omega⟩)).new hnw, New.trans HN3.out hnw⟩
      have hgw : w.heap.size ≤ gw := Nat.le_trans HN3.out.size hbw
      clear hrw hbw hnw HD3 HN3 hlen
      go_wp2
      clear HX hd1 h1 hxm hxc
      go_loopw [11] (fun i wr => ∃ j : Nat, j ≤ my ∧ i = .int .i64 j ∧ SafeIn w g 100 (fun k => w.heap.size ≤ k ∧ k ≠ gw) D1 s j wr ∧ RowB wr gw D1) (fun i _ => my - (intOf i).toNat)
      case atStart => exact ⟨0, Nat.zero_le _, rfl, HI0.out, HW4.out⟩
      case round =>
        clear HI0 HW4
        obtain ⟨j, hj, rfl, hin, hwas⟩ := hrel
        have HI := Lib.hid hin
        have HW := Lib.hid hwas
        clear hin hwas
        by_cases hlt : j < my
        · obtain ⟨b3, o3, rfl, hc⟩ := rd_at10 (HY.out.new HI.out.new) (by omega)
          have hcj := hc j hlt
          clear hc
          obtain ⟨a, HA⟩ : ∃ a, Hid (s.getD j 0 = a) := ⟨_, Lib.hid rfl⟩
          rw [HA.out] at hcj
          go_upto_region 16 with fail
          have HDd := Lib.hid (HI.out.dev.new (show New wr wr.drew from (Below.refl _ _).drew))
          have HNd := Lib.hid HI.out.new.drew
          have HXd : Hid (Rd wr.drew (.slice (some ⟨b3, o3, none⟩) my cy) s) := Lib.hid (HY.out.new HNd.out)
          have HWd : Hid (RowB wr.drew gw D1) := Lib.hid (HW.out.same rfl)
          refine region_ord (At10 b3 (o3 + j) a) [(0, true), (1, true), (2, true), (3, true), (4, true), (5, true), (6, true), (7, true), (8, true), (9, true), (10, false), (11, false)] (by kernel_rfl) (by kernel_rfl) hcj (fun _ => ?_)
          generalize wr.drew = wd at *
          unfold At10
          iterate 10 (apply ord_take; (simp only [List.getElem?_toArray, List.getElem?_cons_succ, List.getElem?_cons_zero]; rfl); rfl; (intro w hSw; (try dsimp only at hSw); go_simp; try with_reducible rfl); intro _; try simp only [Act.put, List.setIfInBounds_toArray, List.set_cons_zero, List.set_cons_succ])
          (apply ord_only; (simp only [List.getElem?_toArray, List.getElem?_cons_succ, List.getElem?_cons_zero]; rfl); rfl; intro K hK)
          go_simp
          have hbj : IntKind.u8.wrap (IntKind.i64.wrap (100 + (j : Int))) = ((UInt8.ofNat (100 + j)).toNat : Int) := byte10 100 j (by omega)
          rw [hbj]
          clear hbj
          refine (filled10 wd (UInt8.ofNat (100 + j))).mono ?_
          rintro e wa ⟨rfl, hra, hna, -⟩
          have HRa := Lib.hid hra
          have HDa := Lib.hid (HDd.out.avoid hna)
          have HNa := Lib.hid (New.trans HNd.out hna)
          have HXa := Lib.hid (HXd.out.new hna)
          have HWa := Lib.hid (HWd.out.same (hna.block _ HWd.out.lt))
          have hba : w.heap.size ≤ wd.heap.size := HNd.out.size
          obtain ⟨_, _, hpp, hca⟩ := rd_at10 HXa.out (by omega)
          cases hpp
          replace hca := hca j hlt
          rw [HA.out] at hca
          clear hra hna HDd HNd HXd hcj
          refine hK.out _ _ (hca) (fun _ => ?_)
          clear hK K
          try simp only [Act.put, List.setIfInBounds_toArray, List.set_cons_zero, List.set_cons_succ]
          generalize wd.heap.size = gb at *
          (apply ord_only; (simp only [List.getElem?_toArray, List.getElem?_cons_succ, List.getElem?_cons_zero]; rfl); rfl; intro K hK)
          go_simp
          rw [sect10 a]
          refine (diskWrite HDa.out (a.toNat % 8) (Nat.mod_lt _ (by decide)) gb 128 (full (UInt8.ofNat (100 + j))) HRa.out (full_length _) (by decide) (fun h => h.2 rfl) (by rw [wrs_length]; omega)).mono ?_
          rintro e wb ⟨rfl, hdb⟩
          have HNb := Lib.hid (hdb.grow HNa.out (fun k hk => hk.1.1))
          have HDb : Hid (Dev wb 8 g (fun k => w.heap.size ≤ k ∧ k ≠ gw) D1 (layAll D1 (wrs 100 s (j + 1))) (wrs 100 s (j + 1))) := by
            rw [wrs_succ, layAll_snoc, HA.out]
            exact Lib.hid (hdb.above (fun k hk => hk.1) (fun k hk => ⟨Nat.le_trans HNa.out.size hk, by have := HWa.out.lt; omega⟩))
          have HWb := Lib.hid (HWa.out.same (hdb.2.block _ HWa.out.lt (fun h => h.1.2 rfl)))
          obtain ⟨_, _, hpp, hcb⟩ := rd_at10 (HY.out.new HNb.out) (by omega)
          cases hpp
          replace hcb := hcb j hlt
          rw [HA.out] at hcb
          clear hdb HDa HNa HXa hca
          refine hK.out _ _ (hcb) (fun _ => ?_)
          clear hK K
          try simp only [Act.put, List.setIfInBounds_toArray, List.set_cons_zero, List.set_cons_succ]
          apply ord_done
          go_wp2
          go_roundw
          case rel => exact ⟨j + 1, by omega, by go_num, ⟨HDb.out, HNb.out⟩, HWb.out⟩
          case measure => simp [intOf]; omega
        · obtain rfl : j = my := by omega
          go_wp2_with fail
          refine (diskCrash HI.out.dev _ keep (HZ.out.new HI.out.new) (fun k hk hne h => by have := HZ.out.lt hk hne; have := h.1; omega) (by rw [HAZ.out]; omega) (by rw [wrs_length]; omega)).mono ?_
          rintro e w5 ⟨rfl, hd5⟩
          have HN5 := Lib.hid (hd5.grow HI.out.new (fun k hk => hk.1))
          have HW5 := Lib.hid (HW.out.same (hd5.2.block _ HW.out.lt (fun h => h.2 rfl)))
          have HD5 := Lib.hid hd5.1
          have HP : Hid (∀ t, sec (loseAll (crAll (wrs 100 s j) D1 keep).2.2 (wrs 100 s j) (layAll D1 (wrs 100 s j))) t = sec D1 t ∨ ∃ p ∈ wrs 100 s j, p.1 = t ∧ sec (loseAll (crAll (wrs 100 s j) D1 keep).2.2 (wrs 100 s j) (layAll D1 (wrs 100 s j))) t = p.2) :=
            Lib.hid (fun t => crash_sec HI.out.dev.lens.2.2 HLEN.out keep t)
          clear hd5 HI HW
          generalize loseAll (crAll (wrs 100 s j) D1 keep).2.2 (wrs 100 s j) (layAll D1 (wrs 100 s j)) = L5 at *
          generalize (crAll (wrs 100 s j) D1 keep).2.2 = D5 at *
          generalize (crAll (wrs 100 s j) D1 keep).2.1 = n5 at *
          have hlen5 := HD5.out.lens.2.1
          go_wp2_with fail
          refine (devImage HD5.out).mono ?_
          rintro e w6 ⟨gn, cn, rfl, hrn, hkn, hmn, hbn, hnn⟩
          rw [hlen5] at hkn ⊢
          have HLN := Lib.hid hlen5
          have HWN := Lib.hid hrn
          have HW6 := Lib.hid (HW5.out.same (hnn.block _ HW5.out.lt))
          have HN6 := Lib.hid (New.trans HN5.out hnn)
          clear hrn hbn hnn HD5 HN5 HW5 hlen5
          go_wp2
          have HOK : Hid (∀ t, okB (sec L5 t) (sec D1 t) t s j = true) := Lib.hid (fun t => okB_of (HP.out t))
          clear HP HZ hzm hzc hd3 HAZ h3
          go_loopw [13] (fun i wr => ∃ t : Nat, t ≤ 8 ∧ i = .int .i64 t ∧ New w6 wr) (fun i _ => 8 - (intOf i).toNat)
          case atStart => exact ⟨0, by decide, rfl, Below.refl _ _⟩
          case round =>
            obtain ⟨t, ht, rfl, hnr⟩ := hrel
            by_cases htl : t < 8
            · have HSA := Lib.hid (HWN.out.rdSec (s := t) (c := cn - 128 * t) (by rw [HLN.out]; omega) (by omega) (by omega))
              have HSB := Lib.hid (HW6.out.rdSec (s := t) (c := cw - 128 * t) (by rw [HLEN.out]; omega) (by omega) (by omega))
              have hs1 := fun wx => run_slice_sec wx gn 1024 cn t (by omega)
              have hs2 := fun wx => run_slice_sec wx gw 1024 cw t (by omega)
              have HO := Lib.hid (HOK.out t)
              have htd : decide ((t : Int) < 8) = true := by simp; omega
              generalize sec L5 t = A at *
              generalize sec D1 t = B at *
              have HNr := Lib.hid (show New w6 wr.drew from hnr.drew)
              clear hnr
              go_upto_region 22 with fail
              have hi1 : IntKind.i64.wrap (128 * (t : Int)) = ((128 * t : Nat) : Int) := by rw [IntWalk.i64_in _ (by omega)]; omega
              have hi2 : IntKind.i64.wrap (((128 * t : Nat) : Int) + 128) = ((128 * t + 128 : Nat) : Int) := by rw [IntWalk.i64_in _ (by omega)]; omega
              refine region_ord (fun wx => Str10 (.slice (some ⟨gn, 128 * t, none⟩) 128 (cn - 128 * t)) A wx ∧ Str10 (.slice (some ⟨gw, 128 * t, none⟩) 128 (cw - 128 * t)) B wx) [(0, true), (1, true), (2, true), (3, true), (4, true), (5, true), (6, true), (7, true), (8, true), (9, true), (10, true), (11, true), (12, true), (13, true), (14, true), (15, true), (16, true), (17, true)] (by kernel_rfl) (by kernel_rfl) ⟨str10 (HSA.out.new HNr.out), str10 (HSB.out.new HNr.out)⟩ (fun _ => ?_)
              generalize wr.drew = wd at *
              unfold Str10
              generalize (128 * t + 128 : Nat) = q2 at *
              generalize (128 * t : Nat) = q1 at *
              iterate 18 (apply ord_take; (simp only [List.getElem?_toArray, List.getElem?_cons_succ, List.getElem?_cons_zero]; rfl); rfl; (intro w hSw; (try dsimp only at hSw); go_simp; try with_reducible rfl); intro _; try simp only [Act.put, List.setIfInBounds_toArray, List.set_cons_zero, List.set_cons_succ])
              apply ord_done
              rw [bstr_list, bstr_list, show (A == B) = okB A B t s 0 from rfl]
              go_wp2
              go_loopw [14, 15] (fun o i wr => ∃ k : Nat, k ≤ j ∧ i = .int .i64 k ∧ o = .bool (okB A B t s k) ∧ New w6 wr) (fun _ i _ => j - (intOf i).toNat)
              case atStart => exact ⟨0, Nat.zero_le _, rfl, rfl, HNr.out⟩
              case round =>
                clear HNr
                obtain ⟨k, hk, rfl, rfl, hnr⟩ := hrel
                by_cases hkl : k < j
                · have HNr := Lib.hid hnr
                  clear hnr
                  obtain ⟨b3, o3, rfl, hc⟩ := rd_at10 (HY.out.new (New.trans HN6.out HNr.out)) (by omega)
                  have hcj := hc k hkl
                  clear hc
                  obtain ⟨a, HA⟩ : ∃ a, Hid (s.getD k 0 = a) := ⟨_, Lib.hid rfl⟩
                  rw [HA.out] at hcj
                  obtain ⟨r, HR⟩ : ∃ r, Hid (a.toNat % 8 = r) := ⟨_, Lib.hid rfl⟩
                  have HSU : Hid (okB A B t s (k + 1) = (okB A B t s k || (r == t && A == full (UInt8.ofNat (100 + k))))) := by
                    show _ = _
                    rw [okB, HA.out, HR.out]
                  have hr8 : ((a.toNat : Int)).tmod 8 = (r : Int) := by rw [← HR.out, Int.tmod_eq_emod_of_nonneg (by omega)]; omega
                  have hra : IntKind.i64.wrap (a.toNat : Int) = (a.toNat : Int) := by have := a.toNat_lt; exact IntWalk.i64_in _ (by omega)
                  have hSd : Byte10 b3 (o3 + k) a (.slice (some ⟨gn, q1, none⟩) 128 (cn - q1)) A wr.drew := ⟨hcj, str10 (HSA.out.new (show New w6 wr.drew from HNr.out.drew))⟩
                  have HNd := Lib.hid (show New w6 wr.drew from HNr.out.drew)
                  clear hcj HNr
                  cases ho : okB A B t s k with
                  | true =>
                    rw [ho, Bool.true_or] at HSU
                    go_upto_region 26 with fail
                    refine region_ord (Byte10 b3 (o3 + k) a (.slice (some ⟨gn, q1, none⟩) 128 (cn - q1)) A) [(0, true), (1, true), (2, true), (3, true), (4, true), (5, true), (6, true), (7, true), (8, true), (9, true), (10, true), (11, true), (12, true), (13, true), (14, true), (15, true), (16, true), (17, true), (18, true), (19, true), (20, true), (21, true), (22, false), (23, false), (24, true), (25, true), (26, true), (27, true)] (by kernel_rfl) (by kernel_rfl) hSd (fun _ => ?_)
                    clear hSd
                    generalize wr.drew = wd at *
                    unfold Byte10 Str10
                    iterate 2 (apply ord_take; (simp only [List.getElem?_toArray, List.getElem?_cons_succ, List.getElem?_cons_zero]; rfl); rfl; (intro w hSw; (try dsimp only at hSw); go_simp; try with_reducible rfl); intro _; try simp only [Act.put, List.setIfInBounds_toArray, List.set_cons_zero, List.set_cons_succ])
                    iterate 20 (apply ord_skip; (simp only [List.getElem?_toArray, List.getElem?_cons_succ, List.getElem?_cons_zero]; rfl); rfl; intro _; try simp only [Act.put, List.setIfInBounds_toArray, List.set_cons_zero, List.set_cons_succ])
                    iterate 2 (apply ord_pass; (simp only [List.getElem?_toArray, List.getElem?_cons_succ, List.getElem?_cons_zero]; rfl); rfl; intro _; try simp only [Act.put, List.setIfInBounds_toArray, List.set_cons_zero, List.set_cons_succ])
                    iterate 2 (apply ord_skip; (simp only [List.getElem?_toArray, List.getElem?_cons_succ, List.getElem?_cons_zero]; rfl); rfl; intro _; try simp only [Act.put, List.setIfInBounds_toArray, List.set_cons_zero, List.set_cons_succ])
                    iterate 2 (apply ord_take; (simp only [List.getElem?_toArray, List.getElem?_cons_succ, List.getElem?_cons_zero]; rfl); rfl; (intro w hSw; (try dsimp only at hSw); go_simp; try with_reducible rfl); intro _; try simp only [Act.put, List.setIfInBounds_toArray, List.set_cons_zero, List.set_cons_succ])
                    apply ord_done
                    go_wp2
                    go_roundw
                    case rel => exact ⟨k + 1, by omega, by go_num, by rw [HSU.out], HNd.out⟩
                    case measure => simp [intOf]; omega
                  | false =>
                    rw [ho, Bool.false_or] at HSU
                    by_cases hrt : r = t
                    · have hq : ((r : Int) == (t : Int)) = true := by simp [hrt]
                      rw [show (r == t) = true by simp [hrt], Bool.true_and] at HSU
                      clear HR hrt
                      go_upto_region 26 with fail
                      refine region_ord (Byte10 b3 (o3 + k) a (.slice (some ⟨gn, q1, none⟩) 128 (cn - q1)) A) [(0, true), (1, true), (2, true), (3, true), (4, true), (5, true), (6, true), (7, true), (8, true), (9, true), (10, true), (11, true), (12, true), (13, true), (14, true), (15, true), (16, true), (17, true), (18, true), (19, true), (20, true), (21, true), (22, false), (23, false), (24, true), (25, true), (26, true), (27, true)] (by kernel_rfl) (by kernel_rfl) hSd (fun _ => ?_)
                      generalize wr.drew = wd at *
                      unfold Byte10 Str10
                      iterate 22 (apply ord_take; (simp only [List.getElem?_toArray, List.getElem?_cons_succ, List.getElem?_cons_zero]; rfl); rfl; (intro w hSw; (try dsimp only at hSw); go_simp; try with_reducible rfl); intro _; try simp only [Act.put, List.setIfInBounds_toArray, List.set_cons_zero, List.set_cons_succ])
                      (apply ord_only; (simp only [List.getElem?_toArray, List.getElem?_cons_succ, List.getElem?_cons_zero]; rfl); rfl; intro K hK)
                      go_simp
                      have hbj : IntKind.u8.wrap (IntKind.i64.wrap (100 + (k : Int))) = ((UInt8.ofNat (100 + k)).toNat : Int) := byte10 100 k (by omega)
                      rw [hbj]
                      clear hbj
                      refine (filled10 wd (UInt8.ofNat (100 + k))).mono ?_
                      rintro e wa ⟨rfl, hra2, hna, -⟩
                      have hrd := hra2.rd (c := 128) (by rw [full_length]; decide) (by decide)
                      rw [full_length] at hrd
                      have HRa := Lib.hid hrd
                      have HNa := Lib.hid (New.trans HNd.out hna)
                      obtain ⟨_, _, hpp, hca⟩ := rd_at10 (HY.out.new (New.trans HN6.out HNa.out)) (by omega)
                      cases hpp
                      replace hca := hca k hkl
                      rw [HA.out] at hca
                      have hSa : Byte10 b3 (o3 + k) a (.slice (some ⟨gn, q1, none⟩) 128 (cn - q1)) A wa := ⟨hca, str10 (HSA.out.new HNa.out)⟩
                      have HSa := Lib.hid hSa
                      clear hra2 hna hrd hSd hca hSa HNd
                      refine hK.out _ _ (HSa.out) (fun _ => ?_)
                      clear hK K
                      try simp only [Act.put, List.setIfInBounds_toArray, List.set_cons_zero, List.set_cons_succ]
                      generalize full (UInt8.ofNat (100 + k)) = C at *
                      (apply ord_only; (simp only [List.getElem?_toArray, List.getElem?_cons_succ, List.getElem?_cons_zero]; rfl); rfl; intro K hK)
                      have ks := run_str (P := Try.prog) Try.underlying22 Try.underlying5 Try.underlying9 HRa.out
                      go_simp
                      clear ks
                      refine hK.out _ _ (HSa.out) (fun _ => ?_)
                      clear hK K
                      try simp only [Act.put, List.setIfInBounds_toArray, List.set_cons_zero, List.set_cons_succ]
                      iterate 4 (apply ord_take; (simp only [List.getElem?_toArray, List.getElem?_cons_succ, List.getElem?_cons_zero]; rfl); rfl; (intro w hSw; (try dsimp only at hSw); go_simp; try with_reducible rfl); intro _; try simp only [Act.put, List.setIfInBounds_toArray, List.set_cons_zero, List.set_cons_succ])
                      apply ord_done
                      rw [bstr_list, bstr_list]
                      cases hAC : (A == C) with
                      | true =>
                        rw [hAC] at HSU
                        clear hAC
                        go_wp2
                        go_roundw
                        case rel => exact ⟨k + 1, by omega, by go_num, by rw [HSU.out], HNa.out⟩
                        case measure => simp [intOf]; omega
                      | false =>
                        rw [hAC] at HSU
                        clear hAC
                        go_wp2
                        go_roundw
                        case rel => exact ⟨k + 1, by omega, by go_num, by rw [HSU.out], HNa.out⟩
                        case measure => simp [intOf]; omega
                    · have hq : ((r : Int) == (t : Int)) = false := by simp; omega
                      rw [show (r == t) = false by simp [hrt], Bool.false_and] at HSU
                      clear HR hrt
                      go_upto_region 26 with fail
                      refine region_ord (Byte10 b3 (o3 + k) a (.slice (some ⟨gn, q1, none⟩) 128 (cn - q1)) A) [(0, true), (1, true), (2, true), (3, true), (4, true), (5, true), (6, true), (7, true), (8, true), (9, true), (10, true), (11, true), (12, true), (13, true), (14, true), (15, true), (16, true), (17, true), (18, true), (19, true), (20, true), (21, true), (22, false), (23, false), (24, true), (25, true), (26, true), (27, true)] (by kernel_rfl) (by kernel_rfl) hSd (fun _ => ?_)
                      clear hSd
                      generalize wr.drew = wd at *
                      unfold Byte10 Str10
                      iterate 11 (apply ord_take; (simp only [List.getElem?_toArray, List.getElem?_cons_succ, List.getElem?_cons_zero]; rfl); rfl; (intro w hSw; (try dsimp only at hSw); go_simp; try with_reducible rfl); intro _; try simp only [Act.put, List.setIfInBounds_toArray, List.set_cons_zero, List.set_cons_succ])
                      iterate 11 (apply ord_skip; (simp only [List.getElem?_toArray, List.getElem?_cons_succ, List.getElem?_cons_zero]; rfl); rfl; intro _; try simp only [Act.put, List.setIfInBounds_toArray, List.set_cons_zero, List.set_cons_succ])
                      iterate 2 (apply ord_pass; (simp only [List.getElem?_toArray, List.getElem?_cons_succ, List.getElem?_cons_zero]; rfl); rfl; intro _; try simp only [Act.put, List.setIfInBounds_toArray, List.set_cons_zero, List.set_cons_succ])
                      iterate 1 (apply ord_skip; (simp only [List.getElem?_toArray, List.getElem?_cons_succ, List.getElem?_cons_zero]; rfl); rfl; intro _; try simp only [Act.put, List.setIfInBounds_toArray, List.set_cons_zero, List.set_cons_succ])
                      iterate 3 (apply ord_take; (simp only [List.getElem?_toArray, List.getElem?_cons_succ, List.getElem?_cons_zero]; rfl); rfl; (intro w hSw; (try dsimp only at hSw); go_simp; try with_reducible rfl); intro _; try simp only [Act.put, List.setIfInBounds_toArray, List.set_cons_zero, List.set_cons_succ])
                      apply ord_done
                      go_wp2
                      go_roundw
                      case rel => exact ⟨k + 1, by omega, by go_num, by rw [HSU.out], HNd.out⟩
                      case measure => simp [intOf]; omega
                · obtain rfl : k = j := by omega
                  rw [HO.out]
                  have HNr := Lib.hid hnr
                  clear hnr
                  go_wp2
                  go_roundw
                  case rel => exact ⟨t + 1, by omega, by go_num, HNr.out⟩
                  case measure => simp [intOf]; omega
            · obtain rfl : t = 8 := by omega
              have HNr := Lib.hid hnr
              clear hnr
              go_wp2
              go_ret
              exact ⟨rfl, New.trans HN6.out HNr.out⟩

end Go.Proofs.Ytmalbfpipdebaaa
