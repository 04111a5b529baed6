/-
  The reference's Keys of layer 5.
-/
import Derived.Test.YtapoelmhnbgidaaRefAes3
import Derived.Test.YtapoelmhnbgidaaOpApp
import Derived.Test.YtapoelmhnbgidaaBase
namespace Go.Proofs.Ytapoelmhnbgidaa
set_option linter.unusedVariables false
set_option linter.unusedSimpArgs false
open Go.RowKit

/-- what the word in front gives, at word j + 4 -/
def tOf (W : List UInt8) (j : Nat) (p : UInt8) : List UInt8 :=
  if j % 4 = 0 then [bxor (gbox (W.getD (4 * j + 13) 0)) p, gbox (W.getD (4 * j + 14) 0), gbox (W.getD (4 * j + 15) 0), gbox (W.getD (4 * j + 12) 0)]
  else [W.getD (4 * j + 12) 0, W.getD (4 * j + 13) 0, W.getD (4 * j + 14) 0, W.getD (4 * j + 15) 0]

/-- word j + 4, its first k bytes -/
def wordTo (W t : List UInt8) (j : Nat) : Nat → List UInt8
  | 0 => []
  | k + 1 => wordTo W t j k ++ [bxor (W.getD (4 * j + k) 0) (t.getD k 0)]

/-- the round keys, j + 4 words -/
def wTo (key : List UInt8) : Nat → List UInt8
  | 0 => key
  | j + 1 => wTo key j ++ wordTo (wTo key j) (tOf (wTo key j) j (dbls 1 ((j + 3) / 4))) j 4

theorem wordTo_length (W t : List UInt8) (j k : Nat) : (wordTo W t j k).length = k := by
  induction k with
  | zero => rfl
  | succ k ih => unfold wordTo; rw [List.length_append, ih]; rfl

theorem wTo_length (key : List UInt8) (hk : key.length = 16) (j : Nat) : (wTo key j).length = 16 + 4 * j := by
  induction j with
  | zero => exact hk
  | succ j ih => unfold wTo; rw [List.length_append, ih, wordTo_length]; omega

theorem news_of {w : World} {g off : Nat} {L : List UInt8} (h : ∀ i, i < L.length → w.cell? ⟨g, off + i, none⟩ = some (iv (L.getD i 0))) : ∀ j u, (L.map iv)[j]? = some u → w.cell? ((⟨g, off, none⟩ : Addr).add j) = some u := by
  intro j u hj
  rw [List.getElem?_map] at hj
  cases hb : L[j]? with
  | none => rw [hb] at hj; cases hj
  | some b =>
    rw [hb] at hj
    cases hj
    have hlt : j < L.length := (List.getElem?_eq_some_iff.1 hb).1
    rw [Addr.add_lit, h j hlt, List.getD_eq_getElem?_getD, hb]
    rfl

theorem OwnI.drew {w : World} {l : List UInt8} {v : Value} {wr : World} (h : OwnI w l v wr) : OwnI w l v wr.drew := ⟨h.own, h.new.drew⟩

/-- what is behind is as it was, but for the row -/
theorem OwnI.old {w : World} {l : List UInt8} {v : Value} {wr w' : World} (h : OwnI w l v wr) (hn : New wr w') : OwnI w l v w' := by
  refine ⟨?_, New.trans h.new hn⟩
  refine h.own.kept (row := none) ⟨hn.os, hn.tape, hn.output, hn.size, fun k hk _ => hn.block k hk⟩ ?_
  cases hv : v.ownBlock with
  | none => exact .inl rfl
  | some k => right; simp

theorem run_sliceI (wx : World) (g n cap lo hi : Nat) (hlo : lo < hi) (hhi : hi ≤ cap) : (Instr.slice 30 (.slice (some ⟨g, 0, none⟩) n cap) (some (.int .i64 (lo : Int))) (some (.int .i64 (hi : Int))) none).run Try.prog wx = .ok (.slice (some ⟨g, lo, none⟩) (hi - lo) (cap - lo)) wx := by
  have hs : (sizeOf (Try.prog.elem 30)).run Try.prog wx = .ok 1 wx := by kernel_rfl
  rw [run_slice_lh wx 30 (some ⟨g, 0, none⟩) n cap (by kernel_rfl) .i64 .i64 _ _ (by omega) (by omega) (by omega), hs]
  simp only [Result.andThen_ok, sliced, Int.toNat_natCast, Nat.mul_one, Option.map_some]
  rw [if_neg (by omega), Addr.add_lit, Nat.zero_add]

attribute [local go_sem] i64_bxor

attribute [local go_sem] i64_bxor

attribute [local go_sem] i64_bxor

set_option maxRecDepth 100000 in
set_option maxHeartbeats 2000000 in
theorem refKeys5 (w : World) (gk ck gb : Nat) (key : List UInt8) (hk : IRd w gk key) (hkl : key.length = 16) (hb : IRd w gb boxTab) :
    Calls Try.prog 26 #[.slice (some ⟨gk, 0, none⟩) 16 ck, .slice (some ⟨gb, 0, none⟩) 256 256] w fun e w' => ∃ v, e = .returned v ∧ OwnI w (wTo key 40) v w' := by
  obtain ⟨i0, hi0, hz0, hz1, hz2⟩ := info_parts infoInt
  have HK := Lib.hid hk
  have HKL := Lib.hid hkl
  have HB := Lib.hid hb
  clear hk hkl hb
  have N0 : New w (w.alloc (.cells #[] 3)) := (Below.refl _ _).alloc (Nat.le_refl _) _
  go_enter Try.func26, Try.ntmps26
  go_wp2_with (at_builtin; refine wpList_append_own_at _ rfl _ _ 30 rfl w.heap.size 3 i0 _ 1 8 Try.underlying30 hi0 hz0 hz1 hz2 rfl (by decide) _ 0 [] rfl (World.ownsRow_made w #[] 0 (Nat.le_refl _) (Nat.zero_le _) rfl) ⟨gk, 0, none⟩ 16 ck (key.map iv) rfl (by rw [List.length_map, HKL.out]) (news_of (off := 0) (fun i hi => by rw [Nat.zero_add]; exact (HK.out.new N0).cell i hi)) (oneCell_iv key) (by simp [maxLen]) (by decide) N0.size ?_)
  intro v1 w1 hown1 hg1 _ _
  have HI1 : Hid (OwnI w key v1 w1) := by
    refine ⟨?_, Below.grown N0 hg1 N0.size (fun k hk => by simp [Value.ownBlock] at hk; omega)⟩
    rw [HKL.out]
    simpa using hown1
  clear hown1 hg1 N0
  go_wp2
  go_loopw [5, 6, 7] (fun v p i wr => ∃ j : Nat, j ≤ 40 ∧ i = .int .i64 ((j + 4 : Nat) : Int) ∧ p = iv (dbls 1 ((j + 3) / 4)) ∧ OwnI w (wTo key j) v wr) (fun _ _ i _ => 44 - (intOf i).toNat)
  case atStart => exact ⟨0, by omega, rfl, rfl, HI1.out⟩
  case round =>
    clear HI1
    obtain ⟨j, hj, rfl, rfl, hin⟩ := hrel
    by_cases hlt : j < 40
    · have hWL := wTo_length key HKL.out j
      have HS : Hid (wTo key (j + 1) = wTo key j ++ wordTo (wTo key j) (tOf (wTo key j) j (dbls 1 ((j + 3) / 4))) j 4) := Lib.hid rfl
      generalize wTo key j = W at *
      obtain ⟨g, c, rfl, hgc, hcm, hbg, hgl, hrd⟩ := IRd.of_own hin.own (by rw [hWL]; omega)
      obtain ⟨n, hn⟩ : ∃ n, n = W.length := ⟨_, rfl⟩
      rw [← hn] at hgc hin ⊢
      have HN : Hid (n = 16 + 4 * j) := by show _ = _; rw [hn, hWL]
      have HWN := Lib.hid hn.symm
      obtain ⟨m, Hm⟩ : ∃ m, Hid (j + 4 = m) := ⟨_, Lib.hid rfl⟩
      rw [Hm.out]
      have hm44 : (m : Int) < 44 := by rw [← Hm.out]; omega
      have hm4 : 4 ≤ m := by rw [← Hm.out]; omega
      have hmn : 4 * (m : Int) = (n : Int) := by rw [HN.out, ← Hm.out]; omega
      have hn4 : (n : Int) - 4 = ((n - 4 : Nat) : Int) := by have := HN.out; omega
      have hsl := fun wx => run_sliceI wx g n c (n - 4) n (by have := HN.out; omega) hgc
      rw [show n - (n - 4) = 4 by have := HN.out; omega] at hsl
      have HIN := Lib.hid hin
      have HRD := Lib.hid hrd
      have HL4 : Hid (4 ≤ n) := by show _ ≤ _; have := HN.out; omega
      have hn1000 : n ≤ 1000 := by have := HN.out; omega
      clear hin hrd hWL hn
      have N2 : New wr (wr.alloc (.cells #[] 3)) := (Below.refl _ _).alloc (Nat.le_refl _) _
      generalize hq : n - 4 = q at *
      have HL4c : Hid (∀ i, i < 4 → (wr.alloc (.cells #[] 3)).cell? ⟨g, q + i, none⟩ = some (iv (W.getD (q + i) 0))) := Lib.hid (fun i hi => (HRD.out.new N2).cell (q + i) (by rw [HWN.out]; have := HL4.out; omega))
      have HT4 : Hid (∀ i, i < [W.getD q 0, W.getD (q + 1) 0, W.getD (q + 2) 0, W.getD (q + 3) 0].length → (wr.alloc (.cells #[] 3)).cell? ⟨g, q + i, none⟩ = some (iv ([W.getD q 0, W.getD (q + 1) 0, W.getD (q + 2) 0, W.getD (q + 3) 0].getD i 0))) := by
        refine Lib.hid (fun i hi => ?_)
        have h4 : i = 0 ∨ i = 1 ∨ i = 2 ∨ i = 3 := by simp at hi; omega
        rcases h4 with rfl | rfl | rfl | rfl
        · exact HL4c.out 0 (by decide)
        · exact HL4c.out 1 (by decide)
        · exact HL4c.out 2 (by decide)
        · exact HL4c.out 3 (by decide)
      have HTO : Hid (∀ p, tOf W j p = if j % 4 = 0 then [bxor (gbox (W.getD (q + 1) 0)) p, gbox (W.getD (q + 2) 0), gbox (W.getD (q + 3) 0), gbox (W.getD q 0)] else [W.getD q 0, W.getD (q + 1) 0, W.getD (q + 2) 0, W.getD (q + 3) 0]) := by
        refine Lib.hid (fun p => ?_)
        have e : 4 * j + 12 = q := by have := HN.out; omega
        unfold tOf
        rw [show 4 * j + 13 = q + 1 by omega, show 4 * j + 14 = q + 2 by omega, show 4 * j + 15 = q + 3 by omega, e]
      clear HL4c
      generalize W.getD q 0 = x0 at *
      generalize W.getD (q + 1) 0 = x1 at *
      generalize W.getD (q + 2) 0 = x2 at *
      generalize W.getD (q + 3) 0 = x3 at *
      go_wp2_with (at_builtin; refine wpList_append_own_at _ rfl _ _ 30 rfl wr.heap.size 3 i0 _ 1 8 Try.underlying30 hi0 hz0 hz1 hz2 rfl (by decide) _ 0 [] rfl (World.ownsRow_made wr #[] 0 (Nat.le_refl _) (Nat.zero_le _) rfl) ⟨g, q, none⟩ 4 (c - q) ([x0, x1, x2, x3].map iv) rfl rfl (news_of HT4.out) (oneCell_iv [x0, x1, x2, x3]) (by simp [maxLen]) (by decide) N2.size ?_)
      intro v2 w2 hown2 hg2 _ _
      have hN2 : New wr w2 := Below.grown N2 hg2 N2.size (fun k hk => by simp [Value.ownBlock] at hk; omega)
      obtain ⟨gt, ct, rfl, hct, hctm, hgtb, hgtl, hrt⟩ := IRd.of_own (l := [x0, x1, x2, x3]) hown2 (by simp)
      have hne : gt ≠ g := by omega
      have HGL2 := Lib.hid (Nat.lt_of_lt_of_le hgl hN2.size)
      have HO2 := Lib.hid (HIN.out.old hN2)
      have HB2 := Lib.hid (HB.out.new (New.trans HIN.out.new hN2))
      have HRT := Lib.hid hrt
      have HGT := Lib.hid hgtl
      clear hown2 hg2 HT4 HIN hrt hsl HRD N2 hN2 hgtb hgtl hq
      rw [show ([x0, x1, x2, x3] : List UInt8).length = 4 from rfl] at hct ⊢
      by_cases hj4 : j % 4 = 0
      · have HPN : Hid (dbls 1 ((j + 1 + 3) / 4) = dbl (dbls 1 ((j + 3) / 4))) := by show _ = _; rw [show (j + 1 + 3) / 4 = (j + 3) / 4 + 1 by omega]; rfl
        rw [HTO.out, if_pos hj4] at HS
        generalize dbls 1 ((j + 3) / 4) = P at *
        have hmm : (((m : Int) % 4) == 0) = true := by rw [beq_iff_eq, ← Hm.out]; omega
        have hm0 : (0 : Int) ≤ m := by omega
        clear HTO
        have l0 := u8_lt x0
        have l1 := u8_lt x1
        have l2 := u8_lt x2
        have l3 := u8_lt x3
        have b0 : w2.drew.cell? ⟨gb, x0.toNat, none⟩ = some (iv (gbox x0)) := HB2.out.cell x0.toNat (by rw [boxTab_length]; exact l0)
        have b1 : w2.drew.cell? ⟨gb, x1.toNat, none⟩ = some (iv (gbox x1)) := HB2.out.cell x1.toNat (by rw [boxTab_length]; exact l1)
        have b2 : w2.drew.cell? ⟨gb, x2.toNat, none⟩ = some (iv (gbox x2)) := HB2.out.cell x2.toNat (by rw [boxTab_length]; exact l2)
        have b3 : w2.drew.cell? ⟨gb, x3.toNat, none⟩ = some (iv (gbox x3)) := HB2.out.cell x3.toNat (by rw [boxTab_length]; exact l3)
        have t0 : w2.drew.cell? ⟨gt, 0, none⟩ = some (iv x0) := HRT.out.cell 0 (by simp)
        have t1 : w2.drew.cell? ⟨gt, 1, none⟩ = some (iv x1) := HRT.out.cell 1 (by simp)
        have t2 : w2.drew.cell? ⟨gt, 2, none⟩ = some (iv x2) := HRT.out.cell 2 (by simp)
        have t3 : w2.drew.cell? ⟨gt, 3, none⟩ = some (iv x3) := HRT.out.cell 3 (by simp)
        have l0' : (x0.toNat : Int) < 256 := by omega
        have l1' : (x1.toNat : Int) < 256 := by omega
        have l2' : (x2.toNat : Int) < 256 := by omega
        have l3' : (x3.toNat : Int) < 256 := by omega
        generalize gbox x0 = z0 at *
        generalize gbox x1 = z1 at *
        generalize gbox x2 = z2 at *
        generalize gbox x3 = z3 at *
        have HO3 := Lib.hid HO2.out.drew
        clear HB2 HRT HO2
        go_wp2
        refine wp_region_still_tail 26 (by kernel_rfl) (by kernel_rfl) ?_
        simp only [List.take_succ_cons, List.take_zero, List.drop_succ_cons, List.drop_zero]
        change wpStill _ _ w2.drew (fun a' => wpList _ _ _ _ a' w2.drew) _ _
        have hdz : w2.drew.heap.size = w2.heap.size := rfl
        have HGD : Hid (g < w2.drew.heap.size) := by show _ < _; rw [hdz]; exact HGL2.out
        clear hdz HGT hne
        generalize w2.drew = wd at *
        repeat still_step
        refine wpStill_nil ?_
        clear b0 b1 b2 b3 t0 t1 t2 t3 l0' l1' l2' l3' l0 l1 l2 l3
        go_wp2_with (go_at_call 15; refine (refMul5 _ _ 2).mono ?_; rintro e w' ⟨rfl, rfl⟩)
        rw [gmul_2]
        have hne : wd.heap.size ≠ g := by have := HGD.out; omega
        have Nb : New wd (wd.alloc (.cells #[.int .i64 ((bxor z1 P).toNat : Int), iv z2, iv z3, iv z0] 3)) := (Below.refl _ _).alloc (Nat.le_refl _) _
        have HO0 := Lib.hid (HO3.out.old Nb)
        have HT0 : Hid (IRd (wd.alloc (.cells #[.int .i64 ((bxor z1 P).toNat : Int), iv z2, iv z3, iv z0] 3)) wd.heap.size [bxor z1 P, z2, z3, z0]) := Lib.hid (IRd.of_row (heap_alloc_new wd (.cells ([bxor z1 P, z2, z3, z0].map iv).toArray 3)))
        have HGT : Hid (wd.heap.size < (wd.alloc (.cells #[.int .i64 ((bxor z1 P).toNat : Int), iv z2, iv z3, iv z0] 3)).heap.size) := by show _ < _; simp
        have HTL : Hid ([bxor z1 P, z2, z3, z0].length = 4) := Lib.hid rfl
        generalize [bxor z1 P, z2, z3, z0] = T at *
        clear Nb HO3 HGD
        obtain ⟨gt', Hgt'⟩ : ∃ gt', Hid (wd.heap.size = gt') := ⟨_, Lib.hid rfl⟩
        rw [Hgt'.out] at HT0 HGT hne ⊢
        generalize wd.alloc _ = wi at *
        clear hct
        have hxx : True := trivial
        generalize gt' = gt at *
        go_loopw [5, 9] (fun v k wr => ∃ i : Nat, i ≤ 4 ∧ k = .int .i64 i ∧ OwnI w (W ++ wordTo W T j i) v wr ∧ IRd wr gt T ∧ gt < wr.heap.size ∧ v.ownBlock ≠ some gt) (fun _ k _ => 4 - (intOf k).toNat)
        case atStart => exact ⟨0, by omega, rfl, by rw [wordTo, List.append_nil]; exact HO0.out, HT0.out, HGT.out, by simp [Value.ownBlock]; exact fun h => hne h.symm⟩
        case round =>
          clear HO0 HT0 HGT
          obtain ⟨i, hi, rfl, hin, hrt, hgt, hnb⟩ := hrel
          by_cases hlti : i < 4
          · have hLL : (W ++ wordTo W T j i).length = n + i := by rw [List.length_append, HWN.out, wordTo_length]
            obtain ⟨g2, c2, rfl, hgc2, hcm2, hbg2, hgl2, hrd2⟩ := IRd.of_own hin.own (by rw [hLL]; have := HN.out; omega)
            have HSW : Hid (W ++ wordTo W T j (i + 1) = W ++ wordTo W T j i ++ [bxor (W.getD (4 * j + i) 0) (T.getD i 0)]) := by show _ = _; rw [wordTo, List.append_assoc]
            have hc1 := hrd2.cell (4 * j + i) (by rw [hLL, HN.out]; omega)
            rw [show (W ++ wordTo W T j i).getD (4 * j + i) 0 = W.getD (4 * j + i) 0 by rw [List.getD_eq_getElem?_getD, List.getElem?_append_left (by rw [HWN.out, HN.out]; omega), ← List.getD_eq_getElem?_getD]] at hc1
            have hc2 := hrt.cell i (by rw [HTL.out]; exact hlti)
            rw [hLL] at hgc2 hin ⊢
            have hi4 : (i : Int) < 4 := by omega
            obtain ⟨b4, Hb4⟩ : ∃ b4, Hid (4 * j = b4) := ⟨_, Lib.hid rfl⟩
            rw [Hb4.out] at hc1 HSW
            have a1 : IntKind.i64.wrap (n : Int) = (n : Int) := IntWalk.i64_in _ (by omega)
            have a2 : IntKind.i64.wrap ((n : Int) - 16) = (b4 : Int) := by rw [show (n : Int) - 16 = (b4 : Int) by rw [HN.out, ← Hb4.out]; omega]; exact IntWalk.i64_in _ (by have := Hb4.out; omega)
            have a3 : IntKind.i64.wrap ((b4 : Int) + (i : Int)) = ((b4 + i : Nat) : Int) := by rw [show (b4 : Int) + (i : Int) = ((b4 + i : Nat) : Int) by omega]; exact IntWalk.i64_in _ (by have := Hb4.out; omega)
            have a4 : b4 + i < n + i := by rw [HN.out, ← Hb4.out]; omega
            have HIN2 := Lib.hid hin.drew
            have HRT2 := Lib.hid hrt
            have HXI : Hid ((W ++ wordTo W T j i)[b4 + i]? = some (W.getD (b4 + i) 0)) := by
              show _ = _
              rw [List.getElem?_append_left (by rw [HWN.out, HN.out, ← Hb4.out]; omega), List.getD_eq_getElem?_getD, List.getElem?_eq_getElem (by rw [HWN.out, HN.out, ← Hb4.out]; omega)]; rfl
            generalize W ++ wordTo W T j i = V at *
            generalize W.getD (b4 + i) 0 = x at *
            generalize T.getD i 0 = y at *
            generalize b4 + i = ix at *
            have a5 : (ix : Int) < ((n + i : Nat) : Int) := by omega
            obtain ⟨nn, HNN⟩ : ∃ nn, Hid (n + i = nn) := ⟨_, Lib.hid rfl⟩
            rw [HNN.out] at a4 a5 HIN2 hLL ⊢
            have hnn : nn ≤ 1000 := by rw [← HNN.out]; omega
            have HLL := Lib.hid hLL
            have hsz2 : w.heap.size ≤ wr.heap.size := hin.new.size
            have hg2t : gt ≠ g2 := fun e => hnb (by rw [e]; rfl)
            clear hin hrt hrd2 hLL
            have hd1 : wr.drew.cell? ⟨g2, ix, none⟩ = some (iv x) := hc1
            have hd2 : wr.drew.cell? ⟨gt, i, none⟩ = some (iv y) := hc2
            clear hc1 hc2
            go_wp2
            have hdz : wr.drew.heap.size = wr.heap.size := rfl
            have HRT3 : Hid (IRd wr.drew gt T) := Lib.hid ⟨fun i hi => HRT2.out.cell i hi⟩
            rw [← hdz] at hsz2 hgt hgl2
            clear hdz HRT2
            have HD : Hid (wr.drew.cell? ⟨g2, ix, none⟩ = some (iv x) ∧ wr.drew.cell? ⟨gt, i, none⟩ = some (iv y)) := Lib.hid ⟨hd1, hd2⟩
            clear hd1 hd2
            refine region_ord (fun w' => w'.cell? ⟨g2, ix, none⟩ = some (iv x) ∧ w'.cell? ⟨gt, i, none⟩ = some (iv y)) [(0, true), (1, true), (2, true), (3, true), (4, true), (5, true), (6, true), (7, true), (8, true), (9, true), (10, true), (11, true), (12, true), (13, true), (14, false), (15, false), (16, true)] (by kernel_rfl) (by kernel_rfl) HD.out (fun _ => ?_)
            generalize wr.drew = wd at *
            iterate 14 (apply ord_take; (simp only [List.getElem?_toArray, List.getElem?_cons_succ, List.getElem?_cons_zero]; rfl); rfl; (intro w hSw; (try dsimp only at hSw); go_simp; try with_reducible rfl); intro _; try simp only [Act.put, List.setIfInBounds_toArray, List.set_cons_zero, List.set_cons_succ])
            (apply ord_only; (simp only [List.getElem?_toArray, List.getElem?_cons_succ, List.getElem?_cons_zero]; rfl); rfl; intro K hK)
            go_simp
            have Na : New wd (wd.alloc (.cells #[.int .i64 ((bxor x y).toNat : Int)] 3)) := (Below.refl _ _).alloc (Nat.le_refl _) _
            refine hK.out _ _ (⟨(Na.cell (p := ⟨g2, ix, none⟩) hgl2).trans HD.out.1, (Na.cell (p := ⟨gt, i, none⟩) hgt).trans HD.out.2⟩) (fun _ => ?_)
            clear hK K
            try simp only [Act.put, List.setIfInBounds_toArray, List.set_cons_zero, List.set_cons_succ]
            (apply ord_only; (simp only [List.getElem?_toArray, List.getElem?_cons_succ, List.getElem?_cons_zero]; rfl); rfl; intro K hK)
            have hown3 : (wd.alloc (.cells #[.int .i64 ((bxor x y).toNat : Int)] 3)).ownsRow w.heap.size 3 1 (.slice (some ⟨g2, 0, none⟩) nn c2) nn (V.map iv) := by
              have := HIN2.out.own
              rw [HLL.out] at this
              exact this.alloc _
            obtain ⟨v3, w3, hr3, ho3, hgr3, hob3, hkp3⟩ := run_append_keep (P := Try.prog) (wd.alloc (.cells #[.int .i64 ((bxor x y).toNat : Int)] 3)) w.heap.size 30 30 3 i0 _ 8 Try.underlying30 hi0 hz0 hz1 hz2 rfl g2 nn c2 (V.map iv) hown3 ⟨wd.heap.size, 0, none⟩ 1 1 [iv (bxor x y)] rfl (cell_one_new _ _ _) (oneCell_iv [bxor x y]) (by simp only [maxLen]; omega) (by omega) (by simp; omega)
            refine oper_append2 (.tmp 62) (.tmp 76) 30 30 rfl _ _ rfl rfl hr3 ?_
            have hct3 : w3.cell? ⟨gt, i, none⟩ = some (iv y) := (World.cell?_of_block (hgr3.block gt (Nat.lt_of_lt_of_le hgt Na.size) (by simpa using hg2t))).trans ((Na.cell (p := ⟨gt, i, none⟩) hgt).trans HD.out.2)
            have hcg3 : w3.cell? ⟨g2, ix, none⟩ = some (iv x) := hkp3 ix (iv x) (by rw [List.getElem?_map, HXI.out]; rfl)
            have HO3 : Hid (OwnI w (V ++ [bxor x y]) v3 w3) := by
              refine Lib.hid (HIN2.out.next (q := [bxor x y]) (o := .cells #[.int .i64 ((bxor x y).toNat : Int)] 3) ?_ hgr3)
              rw [HLL.out]
              exact ho3
            have HRT4 : Hid (IRd w3 gt T) := Lib.hid ⟨fun i hi => (World.cell?_of_block (hgr3.block gt (Nat.lt_of_lt_of_le hgt Na.size) (by simpa using hg2t))).trans ((HRT3.out.new Na).cell i hi)⟩
            have hgt3 : gt < w3.heap.size := Nat.lt_of_lt_of_le hgt (Nat.le_trans Na.size hgr3.size)
            have hnb3 : v3.ownBlock ≠ some gt := by
              rcases hob3 with h | h
              · rw [h]; simpa using fun e => hg2t e.symm
              · rw [h]; simp; omega
            clear hr3 ho3 hgr3 hob3 hkp3 hown3
            refine hK.out _ _ (⟨hcg3, hct3⟩) (fun _ => ?_)
            clear hK K
            try simp only [Act.put, List.setIfInBounds_toArray, List.set_cons_zero, List.set_cons_succ]
            iterate 1 (apply ord_take; (simp only [List.getElem?_toArray, List.getElem?_cons_succ, List.getElem?_cons_zero]; rfl); rfl; (intro w hSw; (try dsimp only at hSw); go_simp; try with_reducible rfl); intro _; try simp only [Act.put, List.setIfInBounds_toArray, List.set_cons_zero, List.set_cons_succ])
            apply ord_done
            clear a1 a2 a3 HD Na hct3 hcg3
            go_wp2
            go_roundw
            case rel => exact ⟨i + 1, by omega, by go_num, by rw [HSW.out]; exact HO3.out, HRT4.out, hgt3, hnb3⟩
            case measure => simp [intOf]; omega
          · obtain rfl : i = 4 := by omega
            rw [show ((4 : Nat) : Int) = 4 from rfl]
            rw [← HS.out] at hin
            go_wp2
            go_roundw
            case rel => exact ⟨j + 1, by omega, by rw [← Hm.out]; go_num, by rw [HPN.out], hin⟩
            case measure => simp [intOf]; omega
      · have HPN : Hid (dbls 1 ((j + 1 + 3) / 4) = dbls 1 ((j + 3) / 4)) := by show _ = _; rw [show (j + 1 + 3) / 4 = (j + 3) / 4 by omega]
        rw [HTO.out, if_neg hj4] at HS
        generalize dbls 1 ((j + 3) / 4) = P at *
        have hmm : (((m : Int) % 4) == 0) = false := by rw [beq_eq_false_iff_ne, ← Hm.out]; omega
        have hm0 : (0 : Int) ≤ m := by omega
        have HTL : Hid ([x0, x1, x2, x3].length = 4) := Lib.hid rfl
        clear HTO HB2
        generalize [x0, x1, x2, x3] = T at *
        go_wp2
        have HT0 := HRT
        have HO0 := HO2
        clear HRT HO2
        go_loopw [5, 9] (fun v k wr => ∃ i : Nat, i ≤ 4 ∧ k = .int .i64 i ∧ OwnI w (W ++ wordTo W T j i) v wr ∧ IRd wr gt T ∧ gt < wr.heap.size ∧ v.ownBlock ≠ some gt) (fun _ k _ => 4 - (intOf k).toNat)
        case atStart => exact ⟨0, by omega, rfl, by rw [wordTo, List.append_nil]; exact HO0.out, HT0.out, HGT.out, by simp [Value.ownBlock]; exact fun h => hne h.symm⟩
        case round =>
          clear HO0 HT0 HGT
          obtain ⟨i, hi, rfl, hin, hrt, hgt, hnb⟩ := hrel
          by_cases hlti : i < 4
          · have hLL : (W ++ wordTo W T j i).length = n + i := by rw [List.length_append, HWN.out, wordTo_length]
            obtain ⟨g2, c2, rfl, hgc2, hcm2, hbg2, hgl2, hrd2⟩ := IRd.of_own hin.own (by rw [hLL]; have := HN.out; omega)
            have HSW : Hid (W ++ wordTo W T j (i + 1) = W ++ wordTo W T j i ++ [bxor (W.getD (4 * j + i) 0) (T.getD i 0)]) := by show _ = _; rw [wordTo, List.append_assoc]
            have hc1 := hrd2.cell (4 * j + i) (by rw [hLL, HN.out]; omega)
            rw [show (W ++ wordTo W T j i).getD (4 * j + i) 0 = W.getD (4 * j + i) 0 by rw [List.getD_eq_getElem?_getD, List.getElem?_append_left (by rw [HWN.out, HN.out]; omega), ← List.getD_eq_getElem?_getD]] at hc1
            have hc2 := hrt.cell i (by rw [HTL.out]; exact hlti)
            rw [hLL] at hgc2 hin ⊢
            have hi4 : (i : Int) < 4 := by omega
            obtain ⟨b4, Hb4⟩ : ∃ b4, Hid (4 * j = b4) := ⟨_, Lib.hid rfl⟩
            rw [Hb4.out] at hc1 HSW
            have a1 : IntKind.i64.wrap (n : Int) = (n : Int) := IntWalk.i64_in _ (by omega)
            have a2 : IntKind.i64.wrap ((n : Int) - 16) = (b4 : Int) := by rw [show (n : Int) - 16 = (b4 : Int) by rw [HN.out, ← Hb4.out]; omega]; exact IntWalk.i64_in _ (by have := Hb4.out; omega)
            have a3 : IntKind.i64.wrap ((b4 : Int) + (i : Int)) = ((b4 + i : Nat) : Int) := by rw [show (b4 : Int) + (i : Int) = ((b4 + i : Nat) : Int) by omega]; exact IntWalk.i64_in _ (by have := Hb4.out; omega)
            have a4 : b4 + i < n + i := by rw [HN.out, ← Hb4.out]; omega
            have HIN2 := Lib.hid hin.drew
            have HRT2 := Lib.hid hrt
            have HXI : Hid ((W ++ wordTo W T j i)[b4 + i]? = some (W.getD (b4 + i) 0)) := by
              show _ = _
              rw [List.getElem?_append_left (by rw [HWN.out, HN.out, ← Hb4.out]; omega), List.getD_eq_getElem?_getD, List.getElem?_eq_getElem (by rw [HWN.out, HN.out, ← Hb4.out]; omega)]; rfl
            generalize W ++ wordTo W T j i = V at *
            generalize W.getD (b4 + i) 0 = x at *
            generalize T.getD i 0 = y at *
            generalize b4 + i = ix at *
            have a5 : (ix : Int) < ((n + i : Nat) : Int) := by omega
            obtain ⟨nn, HNN⟩ : ∃ nn, Hid (n + i = nn) := ⟨_, Lib.hid rfl⟩
            rw [HNN.out] at a4 a5 HIN2 hLL ⊢
            have hnn : nn ≤ 1000 := by rw [← HNN.out]; omega
            have HLL := Lib.hid hLL
            have hsz2 : w.heap.size ≤ wr.heap.size := hin.new.size
            have hg2t : gt ≠ g2 := fun e => hnb (by rw [e]; rfl)
            clear hin hrt hrd2 hLL
            have hd1 : wr.drew.cell? ⟨g2, ix, none⟩ = some (iv x) := hc1
            have hd2 : wr.drew.cell? ⟨gt, i, none⟩ = some (iv y) := hc2
            clear hc1 hc2
            go_wp2
            have hdz : wr.drew.heap.size = wr.heap.size := rfl
            have HRT3 : Hid (IRd wr.drew gt T) := Lib.hid ⟨fun i hi => HRT2.out.cell i hi⟩
            rw [← hdz] at hsz2 hgt hgl2
            clear hdz HRT2
            have HD : Hid (wr.drew.cell? ⟨g2, ix, none⟩ = some (iv x) ∧ wr.drew.cell? ⟨gt, i, none⟩ = some (iv y)) := Lib.hid ⟨hd1, hd2⟩
            clear hd1 hd2
            refine region_ord (fun w' => w'.cell? ⟨g2, ix, none⟩ = some (iv x) ∧ w'.cell? ⟨gt, i, none⟩ = some (iv y)) [(0, true), (1, true), (2, true), (3, true), (4, true), (5, true), (6, true), (7, true), (8, true), (9, true), (10, true), (11, true), (12, true), (13, true), (14, false), (15, false), (16, true)] (by kernel_rfl) (by kernel_rfl) HD.out (fun _ => ?_)
            generalize wr.drew = wd at *
            iterate 14 (apply ord_take; (simp only [List.getElem?_toArray, List.getElem?_cons_succ, List.getElem?_cons_zero]; rfl); rfl; (intro w hSw; (try dsimp only at hSw); go_simp; try with_reducible rfl); intro _; try simp only [Act.put, List.setIfInBounds_toArray, List.set_cons_zero, List.set_cons_succ])
            (apply ord_only; (simp only [List.getElem?_toArray, List.getElem?_cons_succ, List.getElem?_cons_zero]; rfl); rfl; intro K hK)
            go_simp
            have Na : New wd (wd.alloc (.cells #[.int .i64 ((bxor x y).toNat : Int)] 3)) := (Below.refl _ _).alloc (Nat.le_refl _) _
            refine hK.out _ _ (⟨(Na.cell (p := ⟨g2, ix, none⟩) hgl2).trans HD.out.1, (Na.cell (p := ⟨gt, i, none⟩) hgt).trans HD.out.2⟩) (fun _ => ?_)
            clear hK K
            try simp only [Act.put, List.setIfInBounds_toArray, List.set_cons_zero, List.set_cons_succ]
            (apply ord_only; (simp only [List.getElem?_toArray, List.getElem?_cons_succ, List.getElem?_cons_zero]; rfl); rfl; intro K hK)
            have hown3 : (wd.alloc (.cells #[.int .i64 ((bxor x y).toNat : Int)] 3)).ownsRow w.heap.size 3 1 (.slice (some ⟨g2, 0, none⟩) nn c2) nn (V.map iv) := by
              have := HIN2.out.own
              rw [HLL.out] at this
              exact this.alloc _
            obtain ⟨v3, w3, hr3, ho3, hgr3, hob3, hkp3⟩ := run_append_keep (P := Try.prog) (wd.alloc (.cells #[.int .i64 ((bxor x y).toNat : Int)] 3)) w.heap.size 30 30 3 i0 _ 8 Try.underlying30 hi0 hz0 hz1 hz2 rfl g2 nn c2 (V.map iv) hown3 ⟨wd.heap.size, 0, none⟩ 1 1 [iv (bxor x y)] rfl (cell_one_new _ _ _) (oneCell_iv [bxor x y]) (by simp only [maxLen]; omega) (by omega) (by simp; omega)
            refine oper_append2 (.tmp 62) (.tmp 76) 30 30 rfl _ _ rfl rfl hr3 ?_
            have hct3 : w3.cell? ⟨gt, i, none⟩ = some (iv y) := (World.cell?_of_block (hgr3.block gt (Nat.lt_of_lt_of_le hgt Na.size) (by simpa using hg2t))).trans ((Na.cell (p := ⟨gt, i, none⟩) hgt).trans HD.out.2)
            have hcg3 : w3.cell? ⟨g2, ix, none⟩ = some (iv x) := hkp3 ix (iv x) (by rw [List.getElem?_map, HXI.out]; rfl)
            have HO3 : Hid (OwnI w (V ++ [bxor x y]) v3 w3) := by
              refine Lib.hid (HIN2.out.next (q := [bxor x y]) (o := .cells #[.int .i64 ((bxor x y).toNat : Int)] 3) ?_ hgr3)
              rw [HLL.out]
              exact ho3
            have HRT4 : Hid (IRd w3 gt T) := Lib.hid ⟨fun i hi => (World.cell?_of_block (hgr3.block gt (Nat.lt_of_lt_of_le hgt Na.size) (by simpa using hg2t))).trans ((HRT3.out.new Na).cell i hi)⟩
            have hgt3 : gt < w3.heap.size := Nat.lt_of_lt_of_le hgt (Nat.le_trans Na.size hgr3.size)
            have hnb3 : v3.ownBlock ≠ some gt := by
              rcases hob3 with h | h
              · rw [h]; simpa using fun e => hg2t e.symm
              · rw [h]; simp; omega
            clear hr3 ho3 hgr3 hob3 hkp3 hown3
            refine hK.out _ _ (⟨hcg3, hct3⟩) (fun _ => ?_)
            clear hK K
            try simp only [Act.put, List.setIfInBounds_toArray, List.set_cons_zero, List.set_cons_succ]
            iterate 1 (apply ord_take; (simp only [List.getElem?_toArray, List.getElem?_cons_succ, List.getElem?_cons_zero]; rfl); rfl; (intro w hSw; (try dsimp only at hSw); go_simp; try with_reducible rfl); intro _; try simp only [Act.put, List.setIfInBounds_toArray, List.set_cons_zero, List.set_cons_succ])
            apply ord_done
            clear a1 a2 a3 HD Na hct3 hcg3
            go_wp2
            go_roundw
            case rel => exact ⟨i + 1, by omega, by go_num, by rw [HSW.out]; exact HO3.out, HRT4.out, hgt3, hnb3⟩
            case measure => simp [intOf]; omega
          · obtain rfl : i = 4 := by omega
            rw [show ((4 : Nat) : Int) = 4 from rfl]
            rw [← HS.out] at hin
            go_wp2
            go_roundw
            case rel => exact ⟨j + 1, by omega, by rw [← Hm.out]; go_num, by rw [HPN.out], hin⟩
            case measure => simp [intOf]; omega
    · obtain rfl : j = 40 := by omega
      rw [show ((40 + 4 : Nat) : Int) = 44 from rfl]
      go_wp2
      go_ret
      exact ⟨_, rfl, hin⟩

end Go.Proofs.Ytapoelmhnbgidaa
