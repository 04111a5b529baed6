/-
  SuperCrash's walk.
-/
import Derived.Test.YtcdhfglehmeecaaLaw14
import Derived.Test.YtcdhfglehmeecaaRefSupA
import Derived.Test.YtcdhfglehmeecaaSupEq
namespace Go.Proofs.Ytcdhfglehmeecaa
set_option linter.unusedVariables false
set_option linter.unusedSimpArgs false
open Go.RowKit

/-- the superblock behind s -/
def supNext (s : SupN) : SupN := ⟨s.gen + 1, (s.boot + 1) % 1099511627776, s.slots, s.segs, s.size⟩

theorem supNext_ok {s : SupN} (h : s.okB = true) (hg : s.gen < 1099511627776) : (supNext s).okB = true := by
  obtain ⟨h1, h2, h3, h4, h5⟩ := (s.okB_iff).1 h
  rw [SupN.okB_iff]
  unfold supNext
  dsimp only
  refine ⟨by omega, by omega, h3, h4, h5⟩

theorem place_of {s : SupN} (h : s.okB = true) : ∃ p : Nat, s.gen.tmod 2 = (p : Int) ∧ p < 2 ∧ (supNext s).gen.tmod 2 = ((1 - p : Nat) : Int) := by
  have h1 := ((s.okB_iff).1 h).1
  refine ⟨(s.gen % 2).toNat, ?_, by omega, ?_⟩
  · rw [Int.tmod_eq_emod_of_nonneg (by omega)]; omega
  · show (s.gen + 1).tmod 2 = _
    rw [Int.tmod_eq_emod_of_nonneg (by omega)]; omega

/-- what a crash leaves: the disk of two sectors behind the first Store, a second one with q calls left, and the crash -/
theorem crash_newest {s : SupN} (hs : s.okB = true) (hg : s.gen < 1099511627776) {p : Nat} (hp : s.gen.tmod 2 = (p : Int)) (h2 : p < 2) (hp' : (supNext s).gen.tmod 2 = ((1 - p : Nat) : Int)) (q : Int) (keep : List Int) :
    ∃ R, supNewest (secs (loseAll (crAll (stP q (1 - p) (supNext s) []) (stD q (1 - p) (supNext s) (lay (zeros 256) p (supEnc s)) []) keep).2.2 (stP q (1 - p) (supNext s) []) (stL q (1 - p) (supNext s) (lay (zeros 256) p (supEnc s)))) 0 2) = some R ∧ (R = supNext s ∨ R = s ∧ stOk q = false) := by
  have ht := supNext_ok hs hg
  have hgt : s.gen < (supNext s).gen := by show s.gen < s.gen + 1; omega
  obtain ⟨A, hA⟩ : ∃ A, lay (zeros 256) p (supEnc s) = A := ⟨_, rfl⟩
  have hl : A.length = 128 * 2 := by rw [← hA, lay_length (by rw [zeros_length, supEnc_length]; omega), zeros_length]
  have a1 : sec A p = supEnc s := by rw [← hA, sec_lay (supEnc_length s) (by rw [zeros_length]; omega), if_pos rfl]
  have a2 : sec A (1 - p) = List.replicate 128 0 := by rw [← hA, sec_lay (supEnc_length s) (by rw [zeros_length]; omega), if_neg (by omega)]; exact sec_zeros (n := 2) (by omega)
  rw [hA]
  have one : ∀ B : List UInt8, B.length = 128 * 2 → sec B p = supEnc s → sec B (1 - p) = List.replicate 128 0 → supNewest (secs B 0 2) = some s := fun B hB b1 b2 =>
    supNewest_one (secs_len (by omega)) hs hp h2 (by rw [sec_secs h2]; exact b1) (by rw [sec_secs (by omega)]; exact b2)
  have two : ∀ B : List UInt8, B.length = 128 * 2 → sec B p = supEnc s → sec B (1 - p) = supEnc (supNext s) → supNewest (secs B 0 2) = some (supNext s) := fun B hB b1 b2 =>
    supNewest_two (secs_len (by omega)) hs ht hp hp' h2 (by rw [sec_secs h2]; exact b1) (by rw [sec_secs (by omega)]; exact b2) hgt
  have hl2 : (lay A (1 - p) (supEnc (supNext s))).length = 128 * 2 := by rw [lay_length (by rw [supEnc_length]; omega), hl]
  have l1 : sec (lay A (1 - p) (supEnc (supNext s))) p = supEnc s := by rw [sec_lay (supEnc_length _) (by omega), if_neg (by omega), a1]
  have l2 : sec (lay A (1 - p) (supEnc (supNext s))) (1 - p) = supEnc (supNext s) := by rw [sec_lay (supEnc_length _) (by omega), if_pos rfl]
  by_cases h0 : q = 0
  · have e1 : stP q (1 - p) (supNext s) [] = [] := by unfold stP; rw [if_pos h0]
    have e3 : stL q (1 - p) (supNext s) A = A := by unfold stL; rw [if_pos h0]
    have e4 : stOk q = false := decide_eq_false (fun h => h.1 h0)
    rw [e1, e3, e4]
    exact ⟨s, one _ hl a1 a2, .inr ⟨rfl, rfl⟩⟩
  have e3 : stL q (1 - p) (supNext s) A = lay A (1 - p) (supEnc (supNext s)) := by unfold stL; rw [if_neg h0]
  rw [e3]
  by_cases h1 : nextQ q = 0
  · have e1 : stP q (1 - p) (supNext s) [] = [(1 - p, supEnc (supNext s))] := by unfold stP; rw [if_neg h0, if_pos h1]; rfl
    have e2 : stD q (1 - p) (supNext s) A [] = A := by unfold stD; rw [if_neg h0, if_pos h1]
    have e4 : stOk q = false := decide_eq_false (fun h => h.2 h1)
    rw [e1, e2, e4]
    have hok : OkW 2 [(1 - p, supEnc (supNext s))] := by
      intro x hx
      rw [List.mem_singleton.1 hx]
      exact ⟨by show 1 - p < 2; omega, supEnc_length _⟩
    have hc := fun t => crash_sec hok hl keep t
    have hlen : (loseAll (crAll [(1 - p, supEnc (supNext s))] A keep).2.2 [(1 - p, supEnc (supNext s))] (layAll A [(1 - p, supEnc (supNext s))])).length = 128 * 2 := by
      have hca := crOk_all hok hl keep
      exact loseAll_length hca.len hok (layAll_length hok hl)
    have hla : layAll A [(1 - p, supEnc (supNext s))] = lay A (1 - p) (supEnc (supNext s)) := rfl
    rw [hla] at hc hlen
    generalize loseAll (crAll [(1 - p, supEnc (supNext s))] A keep).2.2 [(1 - p, supEnc (supNext s))] (lay A (1 - p) (supEnc (supNext s))) = B at *
    have b1 : sec B p = supEnc s := by
      rcases hc p with h | ⟨x, hx, hx1, -⟩
      · rw [h, a1]
      · rw [List.mem_singleton.1 hx] at hx1
        simp only at hx1
        omega
    rcases hc (1 - p) with h | ⟨x, hx, -, hx2⟩
    · exact ⟨s, one B hlen b1 (by rw [h, a2]), .inr ⟨rfl, rfl⟩⟩
    · rw [List.mem_singleton.1 hx] at hx2
      exact ⟨supNext s, two B hlen b1 hx2, .inl rfl⟩
  · have e1 : stP q (1 - p) (supNext s) [] = [] := by unfold stP; rw [if_neg h0, if_neg h1]
    rw [e1]
    exact ⟨supNext s, two _ hl2 l1 l2, .inl rfl⟩

/-- in the midst of the law: the disk, the two superblocks -/
structure CrSt (w : World) (B g g3 g9 : Nat) (s T : SupN) (q : Int) (D L : List UInt8) (P : List Wr) (wr : World) : Prop where
  dev : Dvc q wr 2 g (fun k => B ≤ k ∧ k ≠ g9) D L P
  a : SupB wr g3 s
  b : SupB wr g9 T
  new : New w wr
  lt : g3 < B ∧ w.heap.size ≤ B ∧ B ≤ wr.heap.size

theorem CrSt.step {w wr wr' : World} {B g g3 g9 : Nat} {s T : SupN} {q q' : Int} {D L D' L' : List UInt8} {P P' : List Wr} (h : CrSt w B g g3 g9 s T q D L P wr) (hd : DvcTo q' wr 2 g (fun k => B ≤ k ∧ k ≠ g9) D' L' P' wr') : CrSt w B g g3 g9 s T q' D' L' P' wr' :=
  ⟨hd.1.narrow (fun k _ hk => hk.elim id (fun h' => ⟨by have := h.lt; omega, by have := h.b.lt; omega⟩)), h.a.only hd.2 (fun hk => by have := h.lt; omega), h.b.only hd.2 (fun hk => hk.2 rfl),
    Below.trans h.new (hd.2.below h.new.size (fun k hk => Nat.le_trans h.lt.2.1 hk.1)), h.lt.1, h.lt.2.1, Nat.le_trans h.lt.2.2 hd.2.size⟩

theorem CrSt.more {w wr wr' : World} {B g g3 g9 : Nat} {s T : SupN} {q : Int} {D L : List UInt8} {P : List Wr} (h : CrSt w B g g3 g9 s T q D L P wr) (hn : New wr wr') : CrSt w B g g3 g9 s T q D L P wr' :=
  ⟨h.dev.new hn, h.a.new hn, h.b.new hn, New.trans h.new hn, h.lt.1, h.lt.2.1, Nat.le_trans h.lt.2.2 hn.size⟩

set_option maxRecDepth 100000 in
set_option maxHeartbeats 4000000 in
theorem crashLaw (w : World) (s : SupN) (hn : s.nums) (calls : Int) (hc : 0 ≤ calls ∧ calls ≤ 255) (z : Value) (keep : List Int) (hz : RdV w z (keep.map (Value.int .i64))) :
    Calls Try.prog 5 #[s.val, .int .u8 calls, z] w fun e w' => e = .returned (.bool true) ∧ New w w' := by
  rw [SupN.val_eq]
  have HZ := Lib.hid hz
  obtain ⟨az, mz, cz, rfl, haz, hzc, hzm, -, -⟩ := hz
  rw [List.length_map] at haz
  unfold maxLen at hzm
  by_cases h : 20 < mz
  · have d : decide ((20 : Int) < (mz : Int)) = true := by simp; omega
    clear haz hzc hzm
    clear h
    go_enter Try.func5, Try.ntmps5
    go_upto_region 1 with fail
    generalize hw1 : World.alloc w _ = w1
    have HS1 : Hid (SupB w1 w.heap.size s) := Lib.hid (by rw [← hw1]; exact heap_alloc_new _ _)
    have N1 : New w w1 := by rw [← hw1]; exact (Below.refl _ _).alloc (Nat.le_refl _) _
    clear hw1
    obtain ⟨g3, hg⟩ : ∃ g, w.heap.size = g := ⟨_, rfl⟩
    rw [hg] at HS1
    rw [hg]
    clear hg
    go_wp2_with fail
    refine (awake14 w1).mono ?_
    rintro _ w2 ⟨rfl, N2⟩
    have HS2 := Lib.hid (HS1.out.new N2)
    have HN2 := Lib.hid (New.trans N1 N2)
    clear HS1 N1 N2
    clear HS2
    have HNZ := HN2
    go_wp2_with fail
    refine (awake14 _).mono ?_
    rintro _ w9 ⟨rfl, N9⟩
    have HN9 := Lib.hid (New.trans HNZ.out N9)
    clear N9 HNZ
    go_wp2
    go_ret
    exact ⟨rfl, HN9.out⟩
  have d : decide ((20 : Int) < (mz : Int)) = false := by simp; omega
  have HLK : Hid (keep.length ≤ 20) := Lib.hid (by omega)
  have hcc := hc
  clear haz hzc hzm hc
  obtain ⟨o, ho⟩ : ∃ o, s.okB = o := ⟨_, rfl⟩
  have HR := Lib.hid (fun wx => refRight14 wx s)
  rw [ho, SupN.val_eq] at HR
  have HOK := Lib.hid ho
  clear ho
  clear h
  go_enter Try.func5, Try.ntmps5
  go_upto_region 1 with fail
  generalize hw1 : World.alloc w _ = w1
  have HS1 : Hid (SupB w1 w.heap.size s) := Lib.hid (by rw [← hw1]; exact heap_alloc_new _ _)
  have N1 : New w w1 := by rw [← hw1]; exact (Below.refl _ _).alloc (Nat.le_refl _) _
  clear hw1
  obtain ⟨g3, hg⟩ : ∃ g, w.heap.size = g := ⟨_, rfl⟩
  rw [hg] at HS1
  rw [hg]
  clear hg
  go_wp2_with fail
  refine (awake14 w1).mono ?_
  rintro _ w2 ⟨rfl, N2⟩
  have HS2 := Lib.hid (HS1.out.new N2)
  have HN2 := Lib.hid (New.trans N1 N2)
  clear HS1 N1 N2
  obtain ⟨x0, x1, x2, x3, x4⟩ := HS2.out.at
  go_wp2_with fail
  refine (HR.out w2).mono ?_
  rintro _ w3 ⟨rfl, N3⟩
  have HS3 := Lib.hid (HS2.out.new N3)
  have HN3 := Lib.hid (New.trans HN2.out N3)
  clear N3 HN2 HS2 HR x0 x1 x2 x3 x4
  cases o
  · clear HS3
    have HNZ := HN3
    go_wp2_with fail
    refine (awake14 _).mono ?_
    rintro _ w9 ⟨rfl, N9⟩
    have HN9 := Lib.hid (New.trans HNZ.out N9)
    clear N9 HNZ
    go_wp2
    go_ret
    exact ⟨rfl, HN9.out⟩
  obtain ⟨x0, x1, x2, x3, x4⟩ := HS3.out.at
  by_cases hg : s.gen < 1099511627776
  rotate_left
  · have d2 : decide ((1099511627776 : Int) ≤ s.gen) = true := by simp; omega
    clear hg
    have HNZ := HN3
    go_wp2_with fail
    refine (awake14 _).mono ?_
    rintro _ w9 ⟨rfl, N9⟩
    have HN9 := Lib.hid (New.trans HNZ.out N9)
    clear N9 HNZ
    go_wp2
    go_ret
    exact ⟨rfl, HN9.out⟩
  have d2 : decide ((1099511627776 : Int) ≤ s.gen) = false := by simp; omega
  obtain ⟨p, hp, h2, hp'⟩ := place_of HOK.out
  obtain ⟨q, hq⟩ : ∃ q, calls.tmod 4 = q := ⟨_, rfl⟩
  have hqb : 0 ≤ q ∧ q ≤ 3 := by
    rw [Int.tmod_eq_emod_of_nonneg (by omega)] at hq
    omega
  have HCr := Lib.hid (crash_newest HOK.out hg hp h2 hp' q keep)
  have HP := Lib.hid (And.intro hp (And.intro h2 hp'))
  have HTok := Lib.hid (supNext_ok HOK.out hg)
  have hb := (((s.okB_iff).1 HOK.out).2).1
  have hg1 := (((s.okB_iff).1 HOK.out).1).1
  obtain ⟨T, HT⟩ : ∃ T, Hid (supNext s = T) := ⟨_, Lib.hid rfl⟩
  have hTv : T.val = .agg #[.int .i64 (s.gen + 1), .int .i64 ((s.boot + 1) % 1099511627776), .int .i64 s.slots, .int .i64 s.segs, .int .i64 s.size] := by rw [← HT.out]; rfl
  clear hp h2 hp'
  go_wp2_with fail
  refine (diskNew w3 2 (by decide)).mono ?_
  rintro _ w4 ⟨g, rfl, hd, N4⟩
  have HD4 := Lib.hid hd
  have HSZ : Hid (g3 < w3.heap.size ∧ w.heap.size ≤ w3.heap.size ∧ w3.heap.size ≤ w4.heap.size) := Lib.hid ⟨HS3.out.lt, HN3.out.size, N4.size⟩
  have HS4 := Lib.hid (HS3.out.new N4)
  have HN4 := Lib.hid (New.trans HN3.out N4)
  clear hd N4 HS3 HN3 x0 x1 x2 x3 x4
  have HSt := Lib.hid (supStore HD4.out (by decide) s HOK.out p HP.out.1 HP.out.2.1 (by decide))
  rw [SupN.val_eq] at HSt
  obtain ⟨x0, x1, x2, x3, x4⟩ := HS4.out.at
  go_wp2_with fail
  refine HSt.out.mono ?_
  rintro _ w5 ⟨v, rfl, hv, -, hd⟩
  obtain rfl := hv (by decide)
  have HS5 : Hid (SupB w5 g3 s) := Lib.hid (HS4.out.only hd.2 (fun h => by have := HSZ.out; omega))
  have HD5 : Hid (Dvc (-1) w5 2 g (fun k => w3.heap.size ≤ k) (lay (zeros 256) p (supEnc s)) (lay (zeros 256) p (supEnc s)) []) := Lib.hid (hd.1.narrow (fun k _ hk => hk.elim id (Nat.le_trans HSZ.out.2.2)))
  have HN5 : Hid (New w w5) := Lib.hid (Below.trans HN4.out (hd.2.below HN4.out.size (fun k hk => Nat.le_trans HSZ.out.2.1 hk)))
  have HZ5 : Hid (w3.heap.size ≤ w5.heap.size) := Lib.hid (Nat.le_trans HSZ.out.2.2 hd.2.size)
  clear hd HSt HD4 HS4 HN4 hv x0 x1 x2 x3 x4
  obtain ⟨x0, x1, x2, x3, x4⟩ := HS5.out.at
  go_upto_region 7 with fail
  generalize hw6 : World.alloc w5 _ = w6
  have HT6 : Hid (SupB w6 w5.heap.size s) := Lib.hid (by rw [← hw6]; exact heap_alloc_new _ _)
  have M : New w5 w6 := by rw [← hw6]; exact (Below.refl _ _).alloc (Nat.le_refl _) _
  have HD6 := Lib.hid (HD5.out.avoid M)
  have HS6 := Lib.hid (HS5.out.new M)
  have HN6 := Lib.hid (New.trans HN5.out M)
  have HZ6 : Hid (w3.heap.size ≤ w5.heap.size ∧ w5.heap.size < w6.heap.size) := Lib.hid ⟨HZ5.out, HT6.out.lt⟩
  clear hw6 M HD5 HS5 HN5 HZ5 x0 x1 x2 x3 x4
  obtain ⟨g9, hg9⟩ : ∃ g, w5.heap.size = g := ⟨_, rfl⟩
  rw [hg9] at HT6 HD6 HZ6
  rw [hg9]
  clear hg9
  obtain ⟨y0, -, -, -, -⟩ := HT6.out.at
  obtain ⟨u0, -, -, -, -⟩ := HT6.out.frozen
  go_upto_region 8 with fail
  have HT7 : Hid (SupB (w6.setCell ⟨g9, 0, none⟩ (.int .i64 (s.gen + 1))) g9 ⟨s.gen + 1, s.boot, s.slots, s.segs, s.size⟩) := Lib.hid (At5.set0 HT6.out _)
  have HO7 : Hid (Only (fun k => k = g9) w6 (w6.setCell ⟨g9, 0, none⟩ (.int .i64 (s.gen + 1)))) := Lib.hid (only_cell _ _ _ _)
  generalize w6.setCell ⟨g9, 0, none⟩ (.int .i64 (s.gen + 1)) = w7 at *
  clear y0 u0 HT6
  have HS7 := Lib.hid (HS6.out.only HO7.out (fun h => by have := HSZ.out; have := HZ6.out; omega))
  obtain ⟨-, x1, -, -, -⟩ := HS7.out.at
  obtain ⟨-, y1, -, -, -⟩ := HT7.out.at
  obtain ⟨-, u1, -, -, -⟩ := HT7.out.frozen
  go_upto_region 9 with fail
  have HT8 : Hid (SupB (w7.setCell ⟨g9, 1, none⟩ (.int .i64 ((s.boot + 1) % 1099511627776))) g9 T) := by
    rw [← HT.out]
    exact Lib.hid (At5.set1 HT7.out _)
  have HO8 : Hid (Only (fun k => k = g9) w6 (w7.setCell ⟨g9, 1, none⟩ (.int .i64 ((s.boot + 1) % 1099511627776)))) := Lib.hid (HO7.out.trans (only_cell _ _ _ _) (fun _ _ h => h))
  generalize w7.setCell ⟨g9, 1, none⟩ (.int .i64 ((s.boot + 1) % 1099511627776)) = w8 at *
  have HI8 : Hid (CrSt w w3.heap.size g g3 g9 s T (-1) (lay (zeros 256) p (supEnc s)) (lay (zeros 256) p (supEnc s)) [] w8) := Lib.hid
    ⟨HD6.out.only HO8.out (fun k hk => hk.2), HS6.out.only HO8.out (fun h => by have := HSZ.out; have := HZ6.out; omega), HT8.out,
      Below.trans HN6.out (HO8.out.below HN6.out.size (fun k hk => by have := HSZ.out; have := HZ6.out; omega)), HSZ.out.1, HSZ.out.2.1, by have := HZ6.out; have := HO8.out.size; omega⟩
  clear x1 y1 u1 HT7 HO7 HS7 HD6 HS6 HN6 HZ6 HT8 HO8 hg hg1 hb w7 w6 w5
  have HLm := Lib.hid (diskLimit HI8.out.dev q (by omega))
  go_wp2_with fail
  refine HLm.out.mono ?_
  rintro _ w9 ⟨rfl, hd⟩
  have HI9 := Lib.hid (HI8.out.step hd)
  clear hd HLm HI8 hq hcc
  have HSt := Lib.hid (supStore HI9.out.dev (by decide) T (by rw [← HT.out]; exact HTok.out) (1 - p) (by rw [← HT.out]; exact HP.out.2.2) (by have := HP.out.2.1; omega) (by decide))
  rw [hTv] at HSt
  obtain ⟨y0, y1, y2, y3, y4⟩ := HI9.out.b.at
  rw [← HT.out] at y0 y1 y2 y3 y4
  unfold supNext at y0 y1 y2 y3 y4
  dsimp only at y0 y1 y2 y3 y4
  go_wp2_with fail
  refine HSt.out.mono ?_
  rintro _ w10 ⟨v, rfl, hv1, hv2, hd⟩
  have HI10 := Lib.hid (HI9.out.step hd)
  have HV := Lib.hid hv2
  clear hd HSt HI9 hv1 hv2 y0 y1 y2 y3 y4
  rw [← HT.out] at HI10
  have HCa := Lib.hid (diskCrash HI10.out.dev _ keep (HZ.out.new HI10.out.new) (fun k hk hne h => by have := HZ.out.lt hk hne; have := HI10.out.lt; have := h.1; omega) (by have := HLK.out; omega) (by
    unfold stP
    split
    · decide
    · split
      · exact (by decide : (1 : Nat) ≤ 1000000)
      · decide))
  go_wp2_with fail
  refine HCa.out.mono ?_
  rintro _ w11 ⟨rfl, hd⟩
  have HI11 := Lib.hid (HI10.out.step hd)
  clear hd HCa HI10
  obtain ⟨R, hR, hRR⟩ := HCr.out
  have HFi := Lib.hid (supFind HI11.out.dev (by decide) (by decide) R hR)
  have HRR := Lib.hid hRR
  clear hR hRR HCr
  rw [SupN.val_eq] at HFi
  go_wp2_with fail
  refine HFi.out.mono ?_
  rintro _ w12 ⟨rfl, hd⟩
  have HI12 := Lib.hid (HI11.out.step hd)
  clear hd HFi HI11
  go_upto_region 13 with fail
  generalize hw13 : World.alloc w12 _ = w13
  have HR13 : Hid (SupB w13 w12.heap.size R) := Lib.hid (by rw [← hw13]; exact heap_alloc_new _ _)
  have M : New w12 w13 := by rw [← hw13]; exact (Below.refl _ _).alloc (Nat.le_refl _) _
  have HI13 := Lib.hid (HI12.out.more M)
  clear hw13 M HI12
  obtain ⟨g11, hg11⟩ : ∃ g, w12.heap.size = g := ⟨_, rfl⟩
  rw [hg11] at HR13
  rw [hg11]
  clear hg11
  have HNF := Lib.hid HI13.out.new
  obtain ⟨x0, x1, x2, x3, x4⟩ := HI13.out.a.at
  obtain ⟨y0, y1, y2, y3, y4⟩ := HI13.out.b.at
  obtain ⟨z0, z1, z2, z3, z4⟩ := HR13.out.at
  rcases HRR.out with hRT | ⟨hRs, hst⟩
  · subst hRT
    clear HV
    unfold supNext at y0 y1 y2 y3 y4 z0 z1 z2 z3 z4
    dsimp only at y0 y1 y2 y3 y4 z0 z1 z2 z3 z4
    go_wp2
    go_ret
    exact ⟨rfl, HNF.out⟩
  · subst hRs
    obtain ⟨y, rfl⟩ := HV.out hst
    unfold supNext at y0 y1 y2 y3 y4
    dsimp only at y0 y1 y2 y3 y4
    go_wp2
    go_ret
    exact ⟨rfl, HNF.out⟩

end Go.Proofs.Ytcdhfglehmeecaa
