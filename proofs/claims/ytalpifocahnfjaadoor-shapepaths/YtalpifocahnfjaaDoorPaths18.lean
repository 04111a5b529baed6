/-
  ShapePaths: its walk.
-/
import Derived.Test.YtalpifocahnfjaaDoorLaws18
import Derived.Test.YtalpifocahnfjaaDoorCellN
namespace Go.Proofs.YtalpifocahnfjaaDoor
set_option linter.unusedVariables false
set_option linter.unusedSimpArgs false
set_option maxRecDepth 100000
open Go.RowKit

theorem bump_le (l : List Nat) (a b : Nat) (h : ∀ v ∈ l, v ≤ b) : ∀ c, ∀ v ∈ bump l a c, v ≤ b + c := by
  intro c
  induction c with
  | zero => intro v hv; exact h v hv
  | succ c ih =>
    intro v hv
    unfold bump at hv
    rcases List.mem_or_eq_of_mem_set hv with h1 | rfl
    · have := ih v h1; omega
    · rw [List.getD_eq_getElem?_getD]
      cases hg : (bump l a c)[a + c]? with
      | none => simp only [Option.getD_none]; omega
      | some u => have := ih u (List.mem_of_getElem? hg); simp; omega

theorem seenL_le {m l : Nat} (hm : m ∈ fitsL) (hl : l < m) : ∀ i, i ≤ (pathL l m).length → ∀ v ∈ seenL l m i, v ≤ 1 + 64 * i := by
  intro i
  induction i with
  | zero =>
    intro _ v hv
    unfold seenL at hv
    rcases List.mem_or_eq_of_mem_set hv with h1 | rfl
    · rw [List.eq_of_mem_replicate h1]; omega
    · omega
  | succ i ih =>
    intro hi v hv
    obtain ⟨-, -, h3, h4, -⟩ := step_facts m hm l hl i (by omega)
    have h32 := fits_le hm
    unfold seenL at hv
    have := bump_le _ _ _ (ih (by omega)) _ v hv
    omega

/-- make([]int, m) -/
theorem run_makeInts18 (m : Nat) (hm : m ≤ 1000) (wx : World) :
    (Instr.makeSlice 33 (.int .i64 (m : Int)) (.int .i64 (m : Int))).run Tryd.prog wx = .ok (.slice (some ⟨wx.heap.size, 0, none⟩) m m) (wx.alloc (.cells ((List.replicate m 0).map iv18).toArray 3)) := by
  obtain ⟨i0, hi0, hz0, hz1, hz2⟩ := info_parts infoInt18
  have h := run_make (P := Tryd.prog) wx 33 3 i0 _ Tryd.underlying33 hi0 hz0 .i64 .i64 (m : Int) (m : Int) (by omega) (by omega) (by rw [hz2]; omega) (by omega)
  rw [h, hz1, Nat.mul_one]
  have e : madeCells (Value.int .i64 0).cells m = ((List.replicate m 0).map iv18).toArray := by
    apply Array.ext
    · simp [size_madeCells]
    · intro i h1 h2
      simp [madeCells, Value.cells, Nat.mod_one]
  simp only [Int.toNat_natCast]
  rw [e]

/-- the counts, in their row -/
structure SnIn (w9 : World) (sb : Nat) (s : List Nat) (wr : World) : Prop where
  at_ : AtN wr sb 3 (s.map iv18)
  new : New w9 wr

theorem SnIn.set {w9 : World} {sb : Nat} {s : List Nat} {wr : World} (h : SnIn w9 sb s wr) (hb : w9.heap.size ≤ sb) (k v : Nat) : SnIn w9 sb (s.set k v) (wr.setCell ⟨sb, k, none⟩ (iv18 v)) :=
  ⟨by have := h.at_.set k (iv18 v); rwa [← List.map_set] at this, Below.trans h.new ((only_cell wr sb k (iv18 v)).below h.new.size (fun j hj => by subst hj; exact hb))⟩

theorem SnIn.step {w9 : World} {sb : Nat} {s : List Nat} {wr w' : World} (h : SnIn w9 sb s wr) (hn : New wr w') : SnIn w9 sb s w' := ⟨h.at_.new hn, New.trans h.new hn⟩

theorem SnIn.cell {w9 : World} {sb : Nat} {s : List Nat} {wr : World} (h : SnIn w9 sb s wr) {k : Nat} (hk : k < s.length) : wr.cell? ⟨sb, k, none⟩ = some (.int .i64 ((s.getD k 0 : Nat) : Int)) :=
  h.at_.cell k (by rw [List.getElem?_map, List.getD_eq_getElem?_getD, List.getElem?_eq_getElem hk]; rfl)


set_option maxHeartbeats 2000000 in
theorem pathsWalk18 {La : World → Prop} (A : ShpApi La) (w : World) (hL : La w) (leaf leaves : Int) (hn : in64 leaf) (hm : in64 leaves) : Calls Tryd.prog 5 #[.int .i64 leaf, .int .i64 leaves] w fun e w' => e = .returned (.bool true) ∧ New w w' := by
  have HA := Lib.hid A
  have HLa := Lib.hid hL
  have HP := Lib.hid fun wx (hx : New w wx) => A.path wx leaf leaves (A.keep hL hx) hn hm
  have HQ := Lib.hid fun wx => refPath18 wx leaf leaves
  have HF := Lib.hid fun wx => refFits18 wx leaves
  obtain ⟨P, HPe⟩ : ∃ P, Hid (shPath leaf leaves = P) := ⟨_, Lib.hid rfl⟩
  rw [HPe.out] at HP HQ
  clear hn hm A hL
  go_enter Tryd.func5, Tryd.ntmps5
  have HAW := Lib.hid (awake18 HA.out w HLa.out)
  go_wp2_with fail
  refine HAW.out.mono ?_
  rintro _ w0 ⟨rfl, n0⟩
  have N0 := Lib.hid n0
  clear n0 HAW
  go_wp2_with fail
  refine (HP.out _ N0.out).mono ?_
  rintro _ w1 ⟨ap, np, cp, rfl, r1, n1⟩
  have R1 := Lib.hid r1
  have N1 := Lib.hid (New.trans N0.out n1)
  have HLp : Hid (np = P.length) := Lib.hid (by obtain ⟨_, _, _, e, h, -⟩ := r1; cases e; rw [List.length_map] at h; exact h.symm)
  clear r1 n1 N0 HP
  go_wp2_with fail
  refine (HQ.out _).mono ?_
  rintro _ w2 ⟨aq, nq, cq, rfl, r2, n2⟩
  have R2 := Lib.hid (R1.out.new n2)
  have N2 := Lib.hid (New.trans N1.out n2)
  have HI := Lib.hid (refInts18 w2 _ _ P P R2.out r2)
  rw [decide_eq_true rfl] at HI
  clear r2 n2 N1 HQ R1
  go_wp2_with fail
  refine HI.out.mono ?_
  rintro _ w3 ⟨rfl, n3⟩
  have R3 := Lib.hid (R2.out.new n3)
  have N3 := Lib.hid (New.trans N2.out n3)
  clear n3 N2 R2 HI
  by_cases hle : shLeaf leaf leaves
  rotate_left
  · have hP0 : P = [] := by rw [← HPe.out]; exact if_neg hle
    have hnp : np = 0 := by rw [HLp.out, hP0]; rfl
    subst hnp
    obtain ⟨Ft, hFt⟩ : ∃ F, shFits leaves = F := ⟨_, rfl⟩
    rw [hFt] at HF
    have HNL : Hid (Ft = true → leaf < 0 ∨ leaves ≤ leaf) := Lib.hid (fun h => by
      refine Decidable.by_contra fun h2 => hle ⟨by rw [hFt, h], by omega, by omega⟩)
    clear hle hP0 hFt
    cases Ft
    · go_wp2_with fail
      refine (HF.out _).mono ?_
      rintro _ w4 ⟨rfl, rfl⟩
      go_wp2
      go_ret
      exact ⟨rfl, N3.out⟩
    · have hnl := HNL.out rfl
      by_cases h0 : leaf < 0
      · clear hnl HNL
        go_wp2_with fail
        refine (HF.out _).mono ?_
        rintro _ w4 ⟨rfl, rfl⟩
        go_wp2
        go_ret
        exact ⟨rfl, N3.out⟩
      · have h1 : leaves ≤ leaf := by omega
        clear hnl HNL
        go_wp2_with fail
        refine (HF.out _).mono ?_
        rintro _ w4 ⟨rfl, rfl⟩
        go_wp2
        go_ret
        exact ⟨rfl, N3.out⟩
  obtain ⟨m, hm, rfl⟩ := fits_mem hle.1
  obtain ⟨l, rfl⟩ := Int.eq_ofNat_of_zero_le hle.2.1
  have hlm : l < m := by have := hle.2.2; omega
  have h32 := fits_le hm
  have HM := Lib.hid (And.intro hm hlm)
  have HPL : Hid (P = (pathL l m).map (fun n : Nat => (n : Int))) := Lib.hid (by rw [← HPe.out]; unfold shPath; rw [if_pos hle, Int.toNat_natCast, Int.toNat_natCast])
  have hff : shFits (m : Int) = true := hle.1
  rw [hff] at HF
  have hnl : ¬ (m : Int) ≤ (l : Int) := by omega
  have hl0 : ¬ (l : Int) < 0 := by omega
  have hlI : (l : Int) < (m : Int) := by omega
  have hmk := run_makeInts18 m (by omega)
  have HFa := Lib.hid (path_facts m hm l hlm)
  have HSt := Lib.hid (step_facts m hm l hlm)
  have HLe := Lib.hid (fun i hi' => seenL_le hm hlm i hi')
  have HNp : Hid (np = (pathL l m).length) := Lib.hid (by rw [HLp.out, HPL.out, List.length_map])
  clear hle hm hff HPe
  go_wp2_with fail
  refine (HF.out _).mono ?_
  rintro _ w4 ⟨rfl, rfl⟩
  go_upto_region 9 with fail
  generalize hw5 : World.alloc w3 _ = w5
  have hs5 : SnIn w3 w3.heap.size (List.replicate m 0) w5 := by
    rw [← hw5]
    exact ⟨by unfold AtN; rw [heap_alloc_new]; simp, (Below.refl _ _).alloc (Nat.le_refl _) _⟩
  have hx : w5.cell? ⟨w3.heap.size, l, none⟩ = some (.int .i64 0) := by
    have := hs5.cell (k := l) (by rw [List.length_replicate]; exact hlm)
    rwa [List.getD_eq_getElem?_getD, List.getElem?_replicate, if_pos hlm] at this
  have hf := hs5.at_.frozen l
  have HS5 := Lib.hid (hs5.set (Nat.le_refl _) l 1)
  clear hs5 hw5 hmk
  obtain ⟨sb, hsb⟩ : ∃ s, w3.heap.size = s := ⟨_, rfl⟩
  rw [hsb] at HS5 hx hf
  rw [hsb]
  have HSB : Hid (w3.heap.size ≤ sb) := Lib.hid (by omega)
  clear hsb
  go_upto_region 12 with fail
  clear hx hf
  go_loopw [7, 8] (fun vn vi wr => ∃ i : Nat, vi = .int .i64 i ∧ vn = .int .i64 (nodeAt l m i : Nat) ∧ i ≤ np ∧ SnIn w3 sb (seenL l m i) wr) (fun _ vi _ => np - (intOf vi).toNat)
  case atStart => exact ⟨0, rfl, by go_num, Nat.zero_le _, HS5.out⟩
  case round =>
    obtain ⟨i, rfl, rfl, hip, hin⟩ := hrel
    have HI := Lib.hid hin
    clear hin HS5
    have hn5 : np ≤ 5 := by rw [HNp.out]; exact HFa.out.1
    by_cases hlt : i < np
    · have d : decide ((i : Int) < (np : Int)) = true := by simpa using hlt
      have hil : i < (pathL l m).length := by rw [← HNp.out]; exact hlt
      obtain ⟨g1, g2, g3, g4, g5⟩ := HSt.out i hil
      obtain ⟨nd, hnd⟩ : ∃ x, nodeAt l m i = x := ⟨_, rfl⟩
      have hnx : seenL l m (i + 1) = bump (seenL l m i) (lo (sib (nodeAt l m i))) (hi (sib (nodeAt l m i)) + 1 - lo (sib (nodeAt l m i))) := rfl
      rw [hnd] at g1 g2 g3 g4 g5 hnx
      rw [hnd]
      have hup : shUp (nd : Int) (m : Int) := ⟨fits_of HM.out.1, by omega, by omega, by omega⟩
      have hnode : shNode (sib nd : Int) := ⟨by omega, by omega⟩
      have HB := Lib.hid (HA.out.beside wr (nd : Int) (m : Int) (HA.out.keep HLa.out (New.trans N3.out HI.out.new)) (by unfold in64; omega) (by unfold in64; omega))
      rw [decide_eq_true hup, show shBeside (nd : Int) (m : Int) = (sib nd : Int) by unfold shBeside; rw [if_pos hup, Int.toNat_natCast]] at HB
      have HU := Lib.hid fun wx (hx : New w wx) => HA.out.under wx (sib nd : Int) (HA.out.keep HLa.out hx) (by unfold in64; omega)
      rw [show shFirst (sib nd : Int) = (lo (sib nd) : Int) by unfold shFirst; rw [if_pos hnode, Int.toNat_natCast], show shLast (sib nd : Int) = (hi (sib nd) : Int) by unfold shLast; rw [if_pos hnode, Int.toNat_natCast]] at HU
      generalize lo (sib nd) = La at *
      generalize hi (sib nd) = Lz at *
      generalize sib nd = S at *
      have HG : Hid (Lz < m ∧ La ≤ Lz ∧ m ≤ 32 ∧ seenL l m (i + 1) = bump (seenL l m i) La (Lz + 1 - La)) := Lib.hid ⟨g3, g4, h32.2, hnx⟩
      have HIl := Lib.hid hil
      have hLa : ¬ (La : Int) < 0 := by omega
      have hLz : ¬ (m : Int) ≤ (Lz : Int) := by omega
      have HSL : Hid (∀ c, (bump (seenL l m i) La c).length = m) := Lib.hid (fun c => by rw [bump_length, seenL_length])
      have HSV : Hid (∀ c, c ≤ Lz + 1 - La → ∀ k, (bump (seenL l m i) La c).getD k 0 ≤ 1000) := Lib.hid (fun c hc k => by
        rw [List.getD_eq_getElem?_getD]
        cases hg : (bump (seenL l m i) La c)[k]? with
        | none => simp
        | some u =>
          have := bump_le _ La _ (HLe.out i (by omega)) c u (List.mem_of_getElem? hg)
          have := HFa.out.1
          simp only [Option.getD_some]; omega)
      clear hup hnode hnx hil g1 g2 hnd
      go_wp2_with fail
      refine HB.out.mono ?_
      rintro _ w6 ⟨rfl, n6⟩
      have HI6 := Lib.hid (HI.out.step n6)
      clear n6 HB HI
      go_wp2_with fail
      refine (HU.out _ (New.trans N3.out HI6.out.new)).mono ?_
      rintro _ w7 ⟨rfl, n7⟩
      have HI7 := Lib.hid (HI6.out.step n7)
      clear n7 HU HI6
      go_upto_region 19 with fail
      go_loopw [13] (fun vk wr => ∃ c : Nat, vk = .int .i64 ((La + c : Nat) : Int) ∧ c ≤ Lz + 1 - La ∧ SnIn w3 sb (bump (seenL l m i) La c) wr) (fun vk _ => Lz + 1 - (intOf vk).toNat)
      case atStart => exact ⟨0, rfl, by omega, HI7.out⟩
      case round =>
        obtain ⟨c, rfl, hc, hin⟩ := hrel
        have HJ := Lib.hid hin
        clear hin HI7
        obtain ⟨k, hk⟩ : ∃ k, La + c = k := ⟨_, rfl⟩
        rw [hk]
        have HKc := Lib.hid hk
        by_cases hck : c < Lz + 1 - La
        · have hkz : (k : Int) ≤ (Lz : Int) := by omega
          have hkm : k < m := by omega
          have hkmI : (k : Int) < (m : Int) := by omega
          have hx := HJ.out.cell (k := k) (by rw [HSL.out]; exact hkm)
          have hf := HJ.out.at_.frozen k
          obtain ⟨v, hv⟩ : ∃ v, (bump (seenL l m i) La c).getD k 0 = v := ⟨_, rfl⟩
          have hv1 : v ≤ 1000 := by rw [← hv]; exact HSV.out c hc k
          rw [hv] at hx
          have HX : Hid (SnIn w3 sb (bump (seenL l m i) La (c + 1)) (wr.setCell ⟨sb, k, none⟩ (iv18 (v + 1)))) := Lib.hid (by
            have := HJ.out.set HSB.out k (v + 1)
            rw [← hv, ← HKc.out] at this ⊢
            exact this)
          clear hv hc hk
          go_wp2_with fail
          go_roundw
          case rel => exact ⟨c + 1, by have := HKc.out; go_num, by omega, HX.out⟩
          case measure => have := HKc.out; simp [intOf]; omega
        · have hce : c = Lz + 1 - La := by omega
          have hkz : ¬ (k : Int) ≤ (Lz : Int) := by omega
          have HX : Hid (SnIn w3 sb (seenL l m (i + 1)) wr) := Lib.hid (by rw [HG.out.2.2.2, ← hce]; exact HJ.out)
          obtain ⟨bp, op, hbp, hcp⟩ := (R3.out.new HX.out.new).cell (by omega)
          subst hbp
          have hpi := hcp i (.int .i64 (nodeAt l m (i + 1) : Nat)) (by rw [HPL.out, List.getElem?_map, List.getElem?_map, nodeAt_step HIl.out]; rfl)
          obtain ⟨nx, hnx⟩ : ∃ x, nodeAt l m (i + 1) = x := ⟨_, rfl⟩
          rw [hnx] at hpi
          have HNx := Lib.hid hnx
          have hinp : (i : Int) < (np : Int) := by omega
          clear hcp hc hck hk hce hnx
          go_wp2_with fail
          exact ⟨⟨_, _, _, ⟨i + 1, rfl, rfl, by omega, HX.out⟩, rfl, by rw [HNx.out], by go_num⟩, by simp [intOf]; omega⟩
    · obtain rfl : i = np := by omega
      have hone : seenL l m i = List.replicate m 1 := by rw [HNp.out]; exact HFa.out.2.1
      have hlast : nodeAt l m i + 1 = m := by rw [HNp.out]; exact HFa.out.2.2
      rw [hone] at HI
      obtain ⟨nd, hnd⟩ : ∃ x, nodeAt l m i = x := ⟨_, rfl⟩
      rw [hnd] at hlast
      rw [hnd]
      have hmI : (m : Int) - 1 = (nd : Int) := by omega
      clear hone hnd hip hlt hlast
      go_upto_region 24 with fail
      go_loopw [14] (fun vk wr' => ∃ k : Nat, vk = .int .i64 k ∧ k ≤ m ∧ wr = wr') (fun vk _ => m - (intOf vk).toNat)
      case atStart => exact ⟨0, rfl, Nat.zero_le _, rfl⟩
      case round =>
        obtain ⟨k, rfl, hk, rfl⟩ := hrel
        by_cases hkm : k < m
        · have hkI : (k : Int) < (m : Int) := by omega
          have hx : wr.cell? ⟨sb, k, none⟩ = some (.int .i64 1) := by
            have := HI.out.cell (k := k) (by rw [List.length_replicate]; exact hkm)
            rwa [List.getD_eq_getElem?_getD, List.getElem?_replicate, if_pos hkm] at this
          go_wp2_with fail
          go_roundw
          case rel => exact ⟨k + 1, by go_num, by omega, trivial⟩
          case measure => simp [intOf]; omega
        · obtain rfl : k = m := by omega
          clear hk hkm
          go_wp2
          go_ret
          exact ⟨rfl, New.trans N3.out HI.out.new⟩

end Go.Proofs.YtalpifocahnfjaaDoor
