/-
  node.Read.
-/
import Derived.Test.YtliojldkdmaofaaNodRead2
namespace Go.Proofs.Ytliojldkdmaofaa
set_option linter.unusedVariables false
set_option linter.unusedSimpArgs false
set_option maxRecDepth 100000
open Go.RowKit

/-- what Read returns, and what it leaves of the reader -/
def NReadTo19 (w : World) (q : Nat) (d : Option Nat) (s : RS) (e : Ending) (w' : World) : Prop := ∃ v : NodeV, e = .returned (v.val (rGot s)) ∧ NodeN19 w w' v (rGot s) ∧ EyeTo w q d (rNode s).2.1 (rErr19 s) w'

/-- the fields are read: the result's block g0, the node's g -/
structure RFin19 (w w1 w5 : World) (g0 g q : Nat) (d : Option Nat) (sr : List UInt8) (er : Int) (v : NodeV) (N : NodeL) : Prop where
  only : Only (fun k => k = q) w w5
  eye : Eye w5 q d sr er
  nod : NodeN19 w1 w5 v N
  zero : At5 w5 g0 26 (.int .i64 0) (.slice none 0 0) (.int .u64 0) (.slice none 0 0) (.slice none 0 0)
  at_ : At5 w5 g 26 (.int .i64 N.kind) v.nm (.int .u64 (N.key : Int)) v.pa v.un
  pos : w.heap.size ≤ g0 ∧ g0 < w1.heap.size ∧ q < w.heap.size ∧ w1.heap.size ≤ g
  dk : sr ≠ [] → ∀ k, d = some k → k < w.heap.size

section
variable {w w1 w5 w6 : World} {g0 g q : Nat} {d : Option Nat} {sr : List UInt8} {er er' : Int} {v : NodeV} {N : NodeL}

theorem RFin19.new (h : RFin19 w w1 w5 g0 g q d sr er v N) (hn : New w5 w6) : RFin19 w w1 w6 g0 g q d sr er v N :=
  ⟨h.only.trans (New.only (F := fun _ => False) hn) (fun _ _ e => e.elim), h.eye.new hn, h.nod.new hn, h.zero.new hn, h.at_.new hn, h.pos, h.dk⟩

theorem RFin19.step (h : RFin19 w w1 w5 g0 g q d sr er v N) (E : EyeTo w5 q d sr er' w6) : RFin19 w w1 w6 g0 g q d sr er' v N :=
  ⟨h.only.trans E.2 (fun _ _ e => e), E.1, h.nod.only E.2 (fun k e => by have := h.pos; omega), h.zero.only E.2 (fun e => by have := h.pos; omega), h.at_.only E.2 (fun e => by have := h.pos; omega), h.pos, h.dk⟩

theorem RFin19.all (h : RFin19 w w1 w5 g0 g q d sr er v N) (a b c e f : Value) : EyeTo w q d sr er (put5 w5 g0 a b c e f) ∧ NodeN19 w (put5 w5 g0 a b c e f) v N := by
  have hp := put5_only w5 g0 a b c e f
  have h1 := h.pos
  have h2 := h.nod.only hp (fun k e => by omega)
  exact ⟨⟨h.eye.only19 hp (fun e => by omega) (fun hne k hk e => by have := h.dk hne k hk; omega), h.only.trans hp (fun i hi e => by omega)⟩, h2.rd, fun hne k hk => by have := h2.nb hne k hk; omega, fun hne k hk => by have := h2.pb hne k hk; omega, fun k hk => by have := h2.ub k hk; omega⟩

theorem RFin19.forms (h : RFin19 w w1 w5 g0 g q d sr er v N) : ∃ a1 n1 c1 a2 n2 c2 a3 n3 c3, v = ⟨.slice a1 n1 c1, .slice a2 n2 c2, .slice a3 n3 c3⟩ := by
  obtain ⟨a1, n1, c1, e1, -⟩ := h.nod.rd.nm
  obtain ⟨a2, n2, c2, e2, -⟩ := h.nod.rd.pa
  obtain ⟨a3, n3, c3, e3, -⟩ := h.nod.rd.un
  obtain ⟨x, y, z⟩ := v
  exact ⟨a1, n1, c1, a2, n2, c2, a3, n3, c3, by rw [show x = _ from e1, show y = _ from e2, show z = _ from e3]⟩
end

set_option maxHeartbeats 2000000 in
theorem nodRead (w : World) (q : Nat) (d : Option Nat) (s : RS) (hE : Eye w q d s.1 s.2) (hl : s.1.length ≤ 140737488355328) :
    Calls Try.prog 12 #[.pointer (some ⟨q, 0, none⟩)] w (NReadTo19 w q d s) := by
  have HDT := Lib.hid hE.data19
  have HE := Lib.hid hE
  have HL := Lib.hid hl
  obtain ⟨N, sE, hN⟩ : ∃ N sE, rNode s = (N, sE) := ⟨_, _, rfl⟩
  have HN := Lib.hid hN
  have HSL : Hid (sE.1.length ≤ s.1.length) := Lib.hid (by
    have h1 := rNum_len 1 s
    by_cases k1 : (rNum 1 s).1 = 1
    · have h2 := (rText_len 16 (rNum 1 s).2).1
      have h3 := rNum_len 8 (rText 16 (rNum 1 s).2).2
      have h4 := (rText_len 32 (rNum 8 (rText 16 (rNum 1 s).2).2).2).1
      have h5 := rNode_leaf (s := s) (Prod.ext k1 rfl) rfl rfl rfl
      rw [hN] at h5
      rw [show sE = _ from congrArg Prod.snd h5]
      exact Nat.le_trans h4 (Nat.le_trans h3 (Nat.le_trans h2 h1))
    · by_cases k2 : (rNum 1 s).1 = 2
      · have h3 := rNum_len 8 (rNum 1 s).2
        have h4 := (rText_len 32 (rNum 8 (rNum 1 s).2).2).1
        have h6 := rNum_len 1 (rText 32 (rNum 8 (rNum 1 s).2).2).2
        have h7 := (rUnm_len (rNum 1 (rText 32 (rNum 8 (rNum 1 s).2).2).2).1 (rNum 1 (rText 32 (rNum 8 (rNum 1 s).2).2).2).2).1
        have h5 := rNode_branch (s := s) (Prod.ext k2 rfl) rfl rfl rfl
        rw [hN] at h5
        rw [show sE = _ from congrArg Prod.snd h5]
        exact Nat.le_trans h7 (Nat.le_trans h6 (Nat.le_trans h4 (Nat.le_trans h3 h1)))
      · have h5 := rNode_other (s := s) rfl k1 k2
        rw [hN] at h5
        rw [show sE = _ from congrArg Prod.snd h5]
        exact h1)
  clear hE hl
  go_enter Try.func12, Try.ntmps12
  go_upto_region 1 with fail
  generalize hw1 : World.alloc w _ = w1
  have hz1 : w1.heap.size = w.heap.size + 1 := by rw [← hw1]; simp
  have HA1 : Hid (At5 w1 w.heap.size 26 (.int .i64 0) (.slice none 0 0) (.int .u64 0) (.slice none 0 0) (.slice none 0 0)) := Lib.hid (by rw [← hw1]; exact heap_alloc_new _ _)
  have HN1 : Hid (New w w1) := Lib.hid (by rw [← hw1]; exact (Below.refl _ _).alloc (Nat.le_refl _) _)
  clear hw1
  have HC := Lib.hid (nodFields w1 q d s (HE.out.new HN1.out) HL.out)
  rw [hN] at HC
  dsimp only at HC
  clear hN
  go_wp2_with fail
  refine HC.out.mono ?_
  rintro _ w2 ⟨v, rfl, nd, E⟩
  obtain ⟨a1, n1, c1, e1, -⟩ := nd.rd.nm
  obtain ⟨a2, n2, c2, e2, -⟩ := nd.rd.pa
  obtain ⟨a3, n3, c3, e3, -⟩ := nd.rd.un
  obtain ⟨vnm, vpa, vun⟩ := v
  dsimp only at e1 e2 e3
  subst e1 e2 e3
  obtain ⟨rk, rn, ry, rp, ru⟩ := N
  have HND := Lib.hid nd
  have HE2 := Lib.hid E
  clear nd E HC HE
  unfold NodeV.val
  dsimp only
  go_upto_region 2 with (first | refine wpList_store_row rfl 26 _ _ rfl w2.heap.size #[.int .i64 rk, .slice a1 n1 c1, .int .u64 (ry : Int), .slice a2 n2 c2, .slice a3 n3 c3] rfl rfl _ _ (heap_alloc_new _ _) infoNode19 rfl rfl ?_ | fail)
  generalize hw3 : World.alloc w2 _ = w3
  have hz2 := HE2.out.2.size
  have hN3 : New w2 w3 := by rw [← hw3]; exact (Below.refl _ _).alloc (Nat.le_refl _) _
  have hA3 : At5 w3 w2.heap.size 26 (.int .i64 rk) (.slice a1 n1 c1) (.int .u64 (ry : Int)) (.slice a2 n2 c2) (.slice a3 n3 c3) := by rw [← hw3]; exact heap_alloc_new _ _
  have hq := HDT.out.1
  have hdk : sE.1 ≠ [] → ∀ k, d = some k → k < w.heap.size := fun hne => HDT.out.2 (fun he => hne (List.length_eq_zero_iff.1 (by have := HSL.out; rw [he] at this; simpa using this)))
  have HF : Hid (RFin19 w w1 w3 w.heap.size w2.heap.size q d sE.1 sE.2 ⟨.slice a1 n1 c1, .slice a2 n2 c2, .slice a3 n3 c3⟩ ⟨rk, rn, ry, rp, ru⟩) := Lib.hid ⟨((New.only (F := fun k => k = q) HN1.out).trans HE2.out.2 (fun _ _ e => e)).trans (New.only (F := fun k => k = q) hN3) (fun _ _ e => e), HE2.out.1.new hN3, HND.out.new hN3, (HA1.out.only HE2.out.2 (by omega)).new hN3, hA3, by omega, hdk⟩
  clear hA3 hN3 hw3 hz1 hz2 hq hdk HE2 HND HA1 HN1 HDT HSL HL
  obtain ⟨g, hg⟩ : ∃ g, w2.heap.size = g := ⟨_, rfl⟩
  rw [hg] at HF
  rw [hg]
  clear hg
  obtain ⟨g0, hg⟩ : ∃ g, w.heap.size = g := ⟨_, rfl⟩
  rw [hg] at HF
  rw [hg]
  clear hg
  obtain ⟨sr, er⟩ := sE
  dsimp only at HF
  have HRI := Lib.hid (nodRight w3 _ _ HF.out.nod.rd)
  unfold NodeV.val at HRI
  dsimp only at HRI
  have HAT : Hid (At5 w3 g 26 (.int .i64 rk) (.slice a1 n1 c1) (.int .u64 (ry : Int)) (.slice a2 n2 c2) (.slice a3 n3 c3)) := Lib.hid HF.out.at_
  go_wp2_with (first | refine wpList_load_row rfl 26 _ rfl g rfl _ _ _ _ HAT.out Try.underlying26 rfl infoNode19 ?_ | fail)
  refine HRI.out.mono ?_
  rintro _ w4 ⟨rfl, Ns⟩
  replace HF := Lib.hid (HF.out.new Ns)
  clear Ns HRI HAT
  by_cases hok : nOk ⟨rk, rn, ry, rp, ru⟩
  · rw [decide_eq_true hok]
    by_cases he : er = 0
    · obtain ⟨f1, f2⟩ := rGot_ok (s := s) (by rw [HN.out]; exact he) (by rw [HN.out]; exact hok)
      rw [HN.out] at f2
      subst he
      have HG := Lib.hid (And.intro f1 f2)
      clear f1 f2 hok
      have HER := Lib.hid (eyeErr _ q d _ _ HF.out.eye)
      obtain ⟨u0, u1, u2, u3, u4⟩ := HF.out.zero.frozen
      obtain ⟨z0, z1, z2, z3, z4⟩ := HF.out.zero.cells
      have HAT : Hid (At5 w4 g 26 (.int .i64 rk) (.slice a1 n1 c1) (.int .u64 (ry : Int)) (.slice a2 n2 c2) (.slice a3 n3 c3)) := Lib.hid HF.out.at_
      go_wp2_with (first | (refine HER.out.mono ?_; rintro _ _ ⟨rfl, rfl⟩) | refine wpList_load_row rfl 26 _ rfl g rfl _ _ _ _ HAT.out Try.underlying26 rfl infoNode19 ?_ | fail)
      refine bodyPost_ret (results_cell1 rfl _ _ g0 _ _ _ _ rfl (HF.out.zero.put _ _ _ _ _) Try.underlying26 rfl infoNode19) rfl ?_
      have hp := HF.out.all (.int .i64 rk) (.slice a1 n1 c1) (.int .u64 (ry : Int)) (.slice a2 n2 c2) (.slice a3 n3 c3)
      exact ⟨⟨.slice a1 n1 c1, .slice a2 n2 c2, .slice a3 n3 c3⟩, by rw [HG.out.2]; rfl, by rw [HG.out.2]; exact hp.2, by rw [HG.out.1, HN.out]; exact hp.1⟩
    · obtain ⟨f1, f2⟩ := rGot_err (s := s) (by rw [HN.out]; exact he)
      rw [HN.out] at f1
      have dn : (er != 0) = true := by simpa using he
      have HG := Lib.hid (And.intro f1 f2)
      clear f1 f2 hok he
      have HER := Lib.hid (eyeErr _ q d _ _ HF.out.eye)
      obtain ⟨u0, u1, u2, u3, u4⟩ := HF.out.zero.frozen
      obtain ⟨z0, z1, z2, z3, z4⟩ := HF.out.zero.cells
      go_wp2_with (first | (refine HER.out.mono ?_; rintro _ _ ⟨rfl, rfl⟩) | fail)
      refine bodyPost_ret (results_cell1 rfl _ _ g0 _ _ _ _ rfl (HF.out.zero.put _ _ _ _ _) Try.underlying26 rfl infoNode19) rfl ?_
      exact ⟨⟨.slice none 0 0, .slice none 0 0, .slice none 0 0⟩, by rw [HG.out.2]; rfl, by rw [HG.out.2]; exact node_zero19 _ _, by rw [HG.out.1, HN.out]; exact (HF.out.all _ _ _ _ _).1⟩
  · rw [decide_eq_false hok]
    have HFL := Lib.hid (eyeFail w4 q d sr er 12 HF.out.eye)
    have HG : Hid (rErr19 s = eFail er 12 ∧ rGot s = NodeL.zero) := Lib.hid (by
      by_cases he : er = 0
      · obtain ⟨f1, f2⟩ := rGot_bad (s := s) (by rw [HN.out]; exact he) (by rw [HN.out]; exact hok)
        exact ⟨by rw [f1, he]; rfl, f2⟩
      · obtain ⟨f1, f2⟩ := rGot_err (s := s) (by rw [HN.out]; exact he)
        rw [HN.out] at f1
        exact ⟨by rw [f1]; exact (if_neg he).symm, f2⟩)
    have dn : (eFail er 12 != 0) = true := by unfold eFail; split <;> simp_all
    clear hok
    generalize eFail er 12 = er2 at *
    go_wp2_with fail
    refine HFL.out.mono ?_
    rintro _ w5 ⟨rfl, E⟩
    replace HF := Lib.hid (HF.out.step E)
    clear E HFL
    have HER := Lib.hid (eyeErr _ q d _ _ HF.out.eye)
    obtain ⟨u0, u1, u2, u3, u4⟩ := HF.out.zero.frozen
    obtain ⟨z0, z1, z2, z3, z4⟩ := HF.out.zero.cells
    go_wp2_with (first | (refine HER.out.mono ?_; rintro _ _ ⟨rfl, rfl⟩) | fail)
    refine bodyPost_ret (results_cell1 rfl _ _ g0 _ _ _ _ rfl (HF.out.zero.put _ _ _ _ _) Try.underlying26 rfl infoNode19) rfl ?_
    exact ⟨⟨.slice none 0 0, .slice none 0 0, .slice none 0 0⟩, by rw [HG.out.2]; rfl, by rw [HG.out.2]; exact node_zero19 _ _, by rw [HG.out.1, HN.out]; exact (HF.out.all _ _ _ _ _).1⟩

end Go.Proofs.Ytliojldkdmaofaa
