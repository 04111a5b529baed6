/-
  Layer 19: the reference's Read.
-/
import Derived.Test.YtliojldkdmaofaaRefNode4
import Derived.Test.YtliojldkdmaofaaBase
namespace Go.Proofs.Ytliojldkdmaofaa
set_option linter.unusedVariables false
set_option linter.unusedSimpArgs false
set_option maxRecDepth 100000
open Go.RowKit

theorem infoInt19 : (Try.prog.info? 3).map (fun i => (i.zero, i.size, i.bytes)) = some (some (.int .i64 0), 1, 8) := by kernel_rfl

theorem eText_len19 (size : Nat) (most : Int) (r : List UInt8) (err : Int) : (eText size most r err).1.length ≤ r.length := by
  simp only [eText]
  generalize (if most < (val (eTake size r err).1 : Int) then eFail (eTake size r err).2.2 11 else (eTake size r err).2.2) = e2
  split
  · exact Nat.le_trans (eTake_len_r _ _ _) (eTake_rest _ _ _)
  · exact Nat.zero_le _

theorem rNum_len (n : Nat) (s : RS) : (rNum n s).2.1.length ≤ s.1.length := eTake_rest _ _ _
theorem rText_len (most : Int) (s : RS) : (rText most s).2.1.length ≤ s.1.length ∧ (rText most s).1.length ≤ s.1.length := ⟨eText_rest _ _ _ _, eText_len19 _ _ _ _⟩
theorem rUnm_len (n : Nat) (s : RS) : (rUnm n s).2.1.length ≤ s.1.length ∧ (rUnm n s).1.length = n := by
  induction n with
  | zero => exact ⟨Nat.le_refl _, rfl⟩
  | succ n ih =>
    refine ⟨Nat.le_trans (rNum_len 1 _) ih.1, ?_⟩
    show ((rUnm n s).1 ++ [_]).length = n + 1
    rw [List.length_append, ih.2]; rfl
theorem rNum_lt1 (s : RS) : (rNum 1 s).1 < 256 := by
  have := eNum_lt 1 s.1 s.2
  show eNum 1 s.1 s.2 < 256
  omega
theorem rNum_lt8 (s : RS) : (rNum 8 s).1 < 18446744073709551616 := by
  have := eNum_lt 8 s.1 s.2
  show eNum 8 s.1 s.2 < 18446744073709551616
  omega

/-- which way a node is read -/
theorem rNode_leaf {s s1 s2 s3 s4 : RS} {nm pa : List UInt8} {ky : Nat} (h1 : rNum 1 s = (1, s1)) (h2 : rText 16 s1 = (nm, s2)) (h3 : rNum 8 s2 = (ky, s3)) (h4 : rText 32 s3 = (pa, s4)) : rNode s = (⟨1, nm, ky, pa, []⟩, s4) := by
  unfold rNode
  simp only [h1, h2, h3, h4, if_true, true_or]
  rfl

theorem rNode_branch {s s1 s3 s4 s5 : RS} {pa : List UInt8} {ky n : Nat} (h1 : rNum 1 s = (2, s1)) (h3 : rNum 8 s1 = (ky, s3)) (h4 : rText 32 s3 = (pa, s4)) (h5 : rNum 1 s4 = (n, s5)) : rNode s = (⟨2, [], ky, pa, (rUnm n s5).1⟩, (rUnm n s5).2) := by
  have k1 : ((2 : Nat) = 1) = False := by simp
  have k2 : ((2 : Nat) = 2) = True := by simp
  unfold rNode
  simp only [h1, h3, h4, h5, k1, k2, or_true, if_true, if_false]
  rfl

theorem rNode_other {s s1 : RS} {k : Nat} (h1 : rNum 1 s = (k, s1)) (n1 : k ≠ 1) (n2 : k ≠ 2) : rNode s = (⟨k, [], 0, [], []⟩, s1) := by
  have k1 : (k = 1) = False := by simpa using n1
  have k2 : (k = 2) = False := by simpa using n2
  unfold rNode
  simp only [h1, k1, k2, or_false, if_false]
  rfl

/-- what Read returns, and what it leaves of the reader -/
def ReadTo19 (w : World) (q : Nat) (s : RS) (e : Ending) (w' : World) : Prop := ∃ v : NodeV, e = .returned (v.val (rGot s)) ∧ NodeR w' v (rGot s) ∧ REyeTo w q (rNode s).2.1 (rErr19 s) w'

theorem rGot_err {s : RS} (h : (rNode s).2.2 ≠ 0) : rErr19 s = (rNode s).2.2 ∧ rGot s = NodeL.zero := by
  have h1 : rErr19 s = (rNode s).2.2 := if_neg (fun hh => h hh.1)
  exact ⟨h1, if_neg (by rw [h1]; exact h)⟩
theorem rGot_bad {s : RS} (h : (rNode s).2.2 = 0) (hn : ¬ nOk (rNode s).1) : rErr19 s = 12 ∧ rGot s = NodeL.zero := by
  have h1 : rErr19 s = 12 := if_pos ⟨h, hn⟩
  exact ⟨h1, if_neg (by rw [h1]; decide)⟩
theorem rGot_ok {s : RS} (h : (rNode s).2.2 = 0) (hn : nOk (rNode s).1) : rErr19 s = 0 ∧ rGot s = (rNode s).1 := by
  have h1 : rErr19 s = 0 := by rw [← h]; exact if_neg (fun hh => hh.2 hn)
  exact ⟨h1, if_pos h1⟩

/-- the block of the result, from before the node's block was made -/
structure RBase19 (w w0 : World) (g0 g q : Nat) : Prop where
  zero : At5 w0 g0 26 (.int .i64 0) (.slice none 0 0) (.int .u64 0) (.slice none 0 0) (.slice none 0 0)
  only : Only (fun k => k = q) w w0
  pos : w.heap.size ≤ g0 ∧ w.heap.size ≤ g ∧ g0 < w0.heap.size ∧ q < w.heap.size
  ne : g0 ≠ g ∧ g0 ≠ q

theorem RBase19.at_ {w w0 wr : World} {g0 g q : Nat} {s : RS} {v : NodeV} {N : NodeL} (h : RBase19 w w0 g0 g q) (k : RSt19 w0 wr g q s v N) : At5 wr g0 26 (.int .i64 0) (.slice none 0 0) (.int .u64 0) (.slice none 0 0) (.slice none 0 0) :=
  h.zero.only k.only (fun e => by have := h.ne; rcases e with e | e <;> omega)

theorem RBase19.all {w w0 wr : World} {g0 g q : Nat} {s : RS} {v : NodeV} {N : NodeL} (h : RBase19 w w0 g0 g q) (k : RSt19 w0 wr g q s v N) (a b c d e : Value) : REyeTo w q s.1 s.2 (put5 wr g0 a b c d e) ∧ (Rd (put5 wr g0 a b c d e) v.nm N.name ∧ Rd (put5 wr g0 a b c d e) v.pa N.parent ∧ RdV (put5 wr g0 a b c d e) v.un (N.unm.map (Value.int .i64))) := by
  have hp := put5_only wr g0 a b c d e
  have h1 := h.pos
  refine ⟨⟨k.eye.only hp (fun e => h.ne.2 e.symm), ?_⟩, k.nm.only hp (fun j hj _ e => by have := k.nb j hj; omega), k.pa.only hp (fun j hj _ e => by have := k.pb j hj; omega), (RdV.of_own k.own).only hp (fun j hj _ e => by have := own_from k.own j hj; omega)⟩
  exact (h.only.trans k.only (fun i hi e => by rcases e with e | e; omega; exact e)).trans hp (fun i hi e => by omega)

theorem RSt19.forms {w0 wr : World} {g q : Nat} {s : RS} {v : NodeV} {N : NodeL} (h : RSt19 w0 wr g q s v N) : ∃ a1 n1 c1 a2 n2 c2 a3 n3 c3, v = ⟨.slice a1 n1 c1, .slice a2 n2 c2, .slice a3 n3 c3⟩ := by
  obtain ⟨a1, n1, c1, e1, -⟩ := h.nm
  obtain ⟨a2, n2, c2, e2, -⟩ := h.pa
  obtain ⟨a3, n3, c3, e3, -⟩ := RdV.of_own h.own
  obtain ⟨x, y, z⟩ := v
  exact ⟨a1, n1, c1, a2, n2, c2, a3, n3, c3, by rw [show x = _ from e1, show y = _ from e2, show z = _ from e3]⟩

set_option maxHeartbeats 2000000 in
theorem refRead19A (w : World) (q : Nat) (s : RS) (h1' : (rNum 1 s).1 = 1) (hE : REye w q s.1 s.2) (hl : s.1.length ≤ 140737488355328) :
    Calls Try.prog 16 #[.pointer (some ⟨q, 0, none⟩)] w (ReadTo19 w q s) := by
  have hql : q < w.heap.size := lt_of_block hE
  have HL := Lib.hid hl
  have HE := Lib.hid hE
  obtain ⟨kk, s1, hk1⟩ : ∃ kk s1, rNum 1 s = (kk, s1) := ⟨_, _, rfl⟩
  have hkl : kk < 256 := by have := rNum_lt1 s; rw [hk1] at this; exact this
  have hl1 : s1.1.length ≤ s.1.length := by have := rNum_len 1 s; rw [hk1] at this; exact this
  have hkw : IntKind.i64.wrap (kk : Int) = (kk : Int) := IntWalk.i64_in _ (by omega)
  have HK1 := Lib.hid hk1
  clear hE
  go_enter Try.func16, Try.ntmps16
  go_upto_region 1 with fail
  generalize hw1 : World.alloc w _ = w1
  have hz1 : w1.heap.size = w.heap.size + 1 := by rw [← hw1]; simp
  have HA1 : Hid (At5 w1 w.heap.size 26 (.int .i64 0) (.slice none 0 0) (.int .u64 0) (.slice none 0 0) (.slice none 0 0)) := Lib.hid (by rw [← hw1]; exact heap_alloc_new _ _)
  have HN1 : Hid (New w w1) := Lib.hid (by rw [← hw1]; exact (Below.refl _ _).alloc (Nat.le_refl _) _)
  clear hw1
  have HC := Lib.hid (reyeNumber w1 q s.1 s.2 1 (HE.out.new HN1.out) (by omega) HL.out)
  go_wp2_with fail
  refine HC.out.mono ?_
  rintro _ w2 ⟨rfl, E2⟩
  rw [show eNum 1 s.1 s.2 = kk by rw [show kk = (rNum 1 s).1 by rw [hk1]]; rfl]
  have E2' : REyeTo w1 q s1.1 s1.2 w2 := by
    have : s1 = (eTake 1 s.1 s.2).2 := by rw [show s1 = (rNum 1 s).2 by rw [hk1]]; rfl
    rw [this]; exact E2
  have HE2 := Lib.hid E2'
  clear E2 E2' HC hk1
  go_upto_region 2 with (first | refine wpList_store_row rfl 26 _ _ rfl w2.heap.size #[.int .i64 (kk : Int), .slice none 0 0, .int .u64 0, .slice none 0 0, .slice none 0 0] rfl rfl _ _ (heap_alloc_new _ _) infoNode19 rfl rfl ?_ | fail)
  generalize hw3 : World.alloc w2 _ = w3
  have hz2 := HE2.out.2.size
  have hN3 : New w2 w3 := by rw [← hw3]; exact (Below.refl _ _).alloc (Nat.le_refl _) _
  have hz3 : w3.heap.size = w2.heap.size + 1 := by rw [← hw3]; simp
  have hA3 : At5 w3 w2.heap.size 26 (.int .i64 (kk : Int)) (.slice none 0 0) (.int .u64 0) (.slice none 0 0) (.slice none 0 0) := by rw [← hw3]; exact heap_alloc_new _ _
  have HI0 : Hid (RSt19 w3 w3 w2.heap.size q s1 ⟨.slice none 0 0, .slice none 0 0, .slice none 0 0⟩ ⟨kk, [], 0, [], []⟩) := Lib.hid ⟨HE2.out.1.new hN3, Only.refl _ _, hA3, Rd.nil _, Rd.nil _, World.ownsRow_nil _ _ _ _, by simp [blk], by simp [blk], ⟨by omega, by omega, by omega⟩, by simp [blk]⟩
  have HB : Hid (RBase19 w w3 w.heap.size w2.heap.size q) := Lib.hid ⟨(HA1.out.only HE2.out.2 (by omega)).new hN3, ((New.only (F := fun k => k = q) HN1.out).trans HE2.out.2 (fun _ _ e => e)).trans (New.only (F := fun k => k = q) hN3) (fun _ _ e => e), by omega, by omega⟩
  obtain ⟨wr, hwr⟩ : ∃ wr, w3 = wr := ⟨_, rfl⟩
  have HI : Hid (RSt19 w3 wr w2.heap.size q s1 ⟨.slice none 0 0, .slice none 0 0, .slice none 0 0⟩ ⟨kk, [], 0, [], []⟩) := Lib.hid (by rw [← hwr]; exact HI0.out)
  clear HI0 hA3 hN3 HE2 hz1 hz2 hz3 hw3 HA1 HN1
  obtain ⟨g, hg⟩ : ∃ g, w2.heap.size = g := ⟨_, rfl⟩
  rw [hg] at HI HB
  rw [hg]
  clear hg
  obtain ⟨g0, hg⟩ : ∃ g, w.heap.size = g := ⟨_, rfl⟩
  rw [hg] at HB
  rw [hg]
  clear hg hql HE
  rw [hwr]
  clear hwr
  have HL1 : Hid (s1.1.length ≤ 140737488355328) := Lib.hid (by omega)
  clear hl hl1 HL
  have h1 : kk = 1 := by rw [HK1.out] at h1'; exact h1'
  clear h1'
  subst h1
  clear hkw hkl
  obtain ⟨nm, s2, hk2⟩ : ∃ x y, rText 16 s1 = (x, y) := ⟨_, _, rfl⟩
  have HL2 : Hid (s2.1.length ≤ 140737488355328 ∧ nm.length ≤ 140737488355328) := Lib.hid (by have := rText_len 16 s1; rw [hk2] at this; have := HL1.out; dsimp only at *; omega)
  have HK2 := Lib.hid hk2
  obtain ⟨x0, -⟩ := HI.out.at_.cells
  go_wp2_with fail
  refine (reyeText wr q s1.1 s1.2 16 1 HI.out.eye (by omega) HL1.out).mono ?_
  rintro _ wn ⟨rfl, E⟩
  rw [show eText 1 16 s1.1 s1.2 = (nm, s2) from hk2] at E ⊢
  obtain ⟨a1, n1, c1, wb, hcv, r, hn, o⟩ := str_bytes19 wn nm HL2.out.2
  have ho : ∀ k, blk (.slice a1 n1 c1) = some k → w3.heap.size ≤ k := fun k hk => by have := o k hk; have := HI.out.only.size; have := E.2.size; omega
  replace HI := Lib.hid ((HI.out.step E).new hn)
  have HR := Lib.hid r
  clear E r o hn x0 hk2
  obtain ⟨x0, x1, -⟩ := HI.out.at_.cells
  obtain ⟨-, y1, -⟩ := HI.out.at_.frozen
  go_upto_region 4 with fail
  replace HI := Lib.hid (HI.out.setName rfl HR.out ho)
  clear x0 x1 y1 HR ho hcv
  generalize wb.setCell ⟨g, 1, none⟩ (.slice a1 n1 c1) = wr at *
  obtain ⟨ky, s3, hk3⟩ : ∃ x y, rNum 8 s2 = (x, y) := ⟨_, _, rfl⟩
  obtain ⟨pa, s4, hk4⟩ : ∃ x y, rText 32 s3 = (x, y) := ⟨_, _, rfl⟩
  have HKY : Hid (ky < 18446744073709551616) := Lib.hid (by have := rNum_lt8 s2; rw [hk3] at this; exact this)
  have HL3 : Hid (s3.1.length ≤ 140737488355328) := Lib.hid (by have := rNum_len 8 s2; rw [hk3] at this; have := HL2.out; dsimp only at *; omega)
  have HL4 : Hid (s4.1.length ≤ 140737488355328 ∧ pa.length ≤ 140737488355328) := Lib.hid (by have := rText_len 32 s3; rw [hk4] at this; have := HL3.out; dsimp only at *; omega)
  have HK3 := Lib.hid hk3
  have HK4 := Lib.hid hk4
  obtain ⟨x0, -⟩ := HI.out.at_.cells
  go_wp2_with fail
  refine (reyeNumber wr q s2.1 s2.2 8 HI.out.eye (by omega) (by have := HL2.out; omega)).mono ?_
  rintro _ wn ⟨rfl, E⟩
  rw [show eNum 8 s2.1 s2.2 = ky by rw [show ky = (rNum 8 s2).1 by rw [hk3]]; rfl]
  have E' : REyeTo wr q s3.1 s3.2 wn := by
    rw [show s3 = (rNum 8 s2).2 by rw [hk3]]
    exact E
  replace HI := Lib.hid (HI.out.step E')
  clear E E' x0 hk3
  obtain ⟨x0, x1, x2, -⟩ := HI.out.at_.cells
  obtain ⟨y0, y1, y2, -⟩ := HI.out.at_.frozen
  go_upto_region 6 with fail
  replace HI := Lib.hid (HI.out.setKey ky)
  clear x0 x1 x2 y0 y1 y2
  generalize wn.setCell ⟨g, 2, none⟩ (.int .u64 (ky : Int)) = wr at *
  go_wp2_with fail
  refine (reyeText wr q s3.1 s3.2 32 1 HI.out.eye (by omega) HL3.out).mono ?_
  rintro _ wn ⟨rfl, E⟩
  rw [show eText 1 32 s3.1 s3.2 = (pa, s4) from hk4] at E ⊢
  obtain ⟨a2, n2, c2, wb, hcv, r, hn, o⟩ := str_bytes19 wn pa HL4.out.2
  have ho : ∀ k, blk (.slice a2 n2 c2) = some k → w3.heap.size ≤ k := fun k hk => by have := o k hk; have := HI.out.only.size; have := E.2.size; omega
  replace HI := Lib.hid ((HI.out.step E).new hn)
  have HR := Lib.hid r
  clear E r o hn hk4
  obtain ⟨x0, x1, x2, x3, -⟩ := HI.out.at_.cells
  obtain ⟨y0, y1, y2, y3, -⟩ := HI.out.at_.frozen
  go_upto_region 7 with fail
  replace HI := Lib.hid (HI.out.setParent rfl HR.out ho)
  clear x0 x1 x2 x3 y0 y1 y2 y3 HR ho hcv
  generalize wb.setCell ⟨g, 3, none⟩ (.slice a2 n2 c2) = wr at *
  have hN := rNode_leaf HK1.out HK2.out HK3.out HK4.out
  obtain ⟨x0, -⟩ := HI.out.at_.cells
  go_upto_region 13 with fail
  clear x0
  obtain ⟨v, N, sE, HN, HKY, HI⟩ : ∃ (v : NodeV) (N : NodeL) (sE : RS), Hid (rNode s = (N, sE)) ∧ Hid (N.key < 18446744073709551616) ∧ Hid (RSt19 w3 wr g q sE v N) := ⟨_, _, _, Lib.hid hN, HKY, HI⟩
  clear hN HK1 HK2 HK3 HK4 HL1 HL2 HL3 HL4
  obtain ⟨a1, n1, c1, a2, n2, c2, a3, n3, c3, rfl⟩ := HI.out.forms
  obtain ⟨rk, rn, ry, rp, ru⟩ := N
  have HZ := Lib.hid (HB.out.at_ HI.out)
  have HP := Lib.hid (HB.out.all HI.out)
  have HAT : Hid (At5 wr g 26 (.int .i64 rk) (.slice a1 n1 c1) (.int .u64 (ry : Int)) (.slice a2 n2 c2) (.slice a3 n3 c3)) := Lib.hid HI.out.at_
  obtain ⟨sr, er⟩ := sE
  obtain ⟨x0, -⟩ := HAT.out.cells
  obtain ⟨c0, c1', c2', c3'⟩ := HI.out.eye.cells
  dsimp only at c0 c1'
  by_cases he : er = 0
  rotate_left
  · obtain ⟨f1, f2⟩ := rGot_err (s := s) (by rw [HN.out]; exact he)
    rw [HN.out] at f1
    obtain ⟨z0, z1, z2, z3, z4⟩ := HZ.out.cells
    obtain ⟨u0, u1, u2, u3, u4⟩ := HZ.out.frozen
    have de : (er == 0) = false := by simpa using he
    have dn : (er != 0) = true := by simpa using he
    have HF := Lib.hid (And.intro f1 f2)
    clear he f1 f2
    go_wp2_with fail
    refine bodyPost_ret (results_cell1 rfl _ _ g0 _ _ _ _ rfl (HZ.out.put _ _ _ _ _) Try.underlying26 rfl infoNode19) rfl ?_
    exact ⟨⟨.slice none 0 0, .slice none 0 0, .slice none 0 0⟩, by rw [HF.out.2]; rfl, by rw [HF.out.2]; exact ⟨Rd.nil _, Rd.nil _, RdV.nil _, by decide⟩, by rw [HF.out.1, HN.out]; exact (HP.out _ _ _ _ _).1⟩
  subst he
  have HRI := Lib.hid (refRight19 wr ⟨.slice a1 n1 c1, .slice a2 n2 c2, .slice a3 n3 c3⟩ ⟨rk, rn, ry, rp, ru⟩ ⟨HI.out.nm, HI.out.pa, RdV.of_own HI.out.own, HKY.out⟩)
  go_wp2_with (first | refine wpList_load_row19 rfl 26 _ rfl g rfl _ _ _ _ HAT.out Try.underlying26 rfl infoNode19 ?_ | fail)
  refine HRI.out.mono ?_
  rintro _ ws ⟨rfl, Ns⟩
  replace HI := Lib.hid (HI.out.new Ns)
  replace HZ := Lib.hid (HB.out.at_ HI.out)
  replace HP := Lib.hid (HB.out.all HI.out)
  replace HAT : Hid (At5 ws g 26 (.int .i64 rk) (.slice a1 n1 c1) (.int .u64 (ry : Int)) (.slice a2 n2 c2) (.slice a3 n3 c3)) := Lib.hid HI.out.at_
  clear Ns HRI c0 c1' c2' c3' x0
  obtain ⟨x0, x1, x2, x3, x4⟩ := HAT.out.cells
  obtain ⟨c0, c1', c2', c3'⟩ := HI.out.eye.cells
  dsimp only at c0 c1'
  obtain ⟨z0, z1, z2, z3, z4⟩ := HZ.out.cells
  obtain ⟨u0, u1, u2, u3, u4⟩ := HZ.out.frozen
  by_cases hok : nOk ⟨rk, rn, ry, rp, ru⟩
  · rw [decide_eq_true hok]
    obtain ⟨f1, f2⟩ := rGot_ok (s := s) (by rw [HN.out]) (by rw [HN.out]; exact hok)
    rw [HN.out] at f2
    have HF := Lib.hid (And.intro f1 f2)
    clear f1 f2 hok
    go_wp2_with (first | refine wpList_load_row19 rfl 26 _ rfl g rfl _ _ _ _ HAT.out Try.underlying26 rfl infoNode19 ?_ | fail)
    refine bodyPost_ret (results_cell1 rfl _ _ g0 _ _ _ _ rfl (HZ.out.put _ _ _ _ _) Try.underlying26 rfl infoNode19) rfl ?_
    have hp := HP.out (.int .i64 rk) (.slice a1 n1 c1) (.int .u64 (ry : Int)) (.slice a2 n2 c2) (.slice a3 n3 c3)
    exact ⟨⟨.slice a1 n1 c1, .slice a2 n2 c2, .slice a3 n3 c3⟩, by rw [HF.out.2]; rfl, by rw [HF.out.2]; exact ⟨hp.2.1, hp.2.2.1, hp.2.2.2, HKY.out⟩, by rw [HF.out.1, HN.out]; exact hp.1⟩
  · rw [decide_eq_false hok]
    obtain ⟨f1, f2⟩ := rGot_bad (s := s) (by rw [HN.out]) (by rw [HN.out]; exact hok)
    have HF := Lib.hid (And.intro f1 f2)
    have HE3 := Lib.hid (HI.out.step (s' := (sr, 12)) (reyeSetErr (x := 12) HI.out.eye))
    have HZ3 := Lib.hid (HB.out.at_ HE3.out)
    have HP3 := Lib.hid (HB.out.all HE3.out)
    clear f1 f2 hok
    go_upto_region 15 with fail
    clear z0 z1 z2 z3 z4 u0 u1 u2 u3 u4 x0 x1 x2 x3 x4 c0 c1' c2' c3'
    generalize ws.setCell ⟨q, 1, none⟩ (.int .i64 12) = wt at *
    obtain ⟨c0, c1', c2', c3'⟩ := HE3.out.eye.cells
    dsimp only at c0 c1'
    obtain ⟨z0, z1, z2, z3, z4⟩ := HZ3.out.cells
    obtain ⟨u0, u1, u2, u3, u4⟩ := HZ3.out.frozen
    go_wp2_with fail
    refine bodyPost_ret (results_cell1 rfl _ _ g0 _ _ _ _ rfl (HZ3.out.put _ _ _ _ _) Try.underlying26 rfl infoNode19) rfl ?_
    exact ⟨⟨.slice none 0 0, .slice none 0 0, .slice none 0 0⟩, by rw [HF.out.2]; rfl, by rw [HF.out.2]; exact ⟨Rd.nil _, Rd.nil _, RdV.nil _, by decide⟩, by rw [HF.out.1, HN.out]; exact (HP3.out _ _ _ _ _).1⟩
set_option maxHeartbeats 2000000 in
theorem refRead19B (w : World) (q : Nat) (s : RS) (h1' : (rNum 1 s).1 ≠ 1) (h2' : (rNum 1 s).1 ≠ 2) (hE : REye w q s.1 s.2) (hl : s.1.length ≤ 140737488355328) :
    Calls Try.prog 16 #[.pointer (some ⟨q, 0, none⟩)] w (ReadTo19 w q s) := by
  have hql : q < w.heap.size := lt_of_block hE
  have HL := Lib.hid hl
  have HE := Lib.hid hE
  obtain ⟨kk, s1, hk1⟩ : ∃ kk s1, rNum 1 s = (kk, s1) := ⟨_, _, rfl⟩
  have hkl : kk < 256 := by have := rNum_lt1 s; rw [hk1] at this; exact this
  have hl1 : s1.1.length ≤ s.1.length := by have := rNum_len 1 s; rw [hk1] at this; exact this
  have hkw : IntKind.i64.wrap (kk : Int) = (kk : Int) := IntWalk.i64_in _ (by omega)
  have HK1 := Lib.hid hk1
  clear hE
  go_enter Try.func16, Try.ntmps16
  go_upto_region 1 with fail
  generalize hw1 : World.alloc w _ = w1
  have hz1 : w1.heap.size = w.heap.size + 1 := by rw [← hw1]; simp
  have HA1 : Hid (At5 w1 w.heap.size 26 (.int .i64 0) (.slice none 0 0) (.int .u64 0) (.slice none 0 0) (.slice none 0 0)) := Lib.hid (by rw [← hw1]; exact heap_alloc_new _ _)
  have HN1 : Hid (New w w1) := Lib.hid (by rw [← hw1]; exact (Below.refl _ _).alloc (Nat.le_refl _) _)
  clear hw1
  have HC := Lib.hid (reyeNumber w1 q s.1 s.2 1 (HE.out.new HN1.out) (by omega) HL.out)
  go_wp2_with fail
  refine HC.out.mono ?_
  rintro _ w2 ⟨rfl, E2⟩
  rw [show eNum 1 s.1 s.2 = kk by rw [show kk = (rNum 1 s).1 by rw [hk1]]; rfl]
  have E2' : REyeTo w1 q s1.1 s1.2 w2 := by
    have : s1 = (eTake 1 s.1 s.2).2 := by rw [show s1 = (rNum 1 s).2 by rw [hk1]]; rfl
    rw [this]; exact E2
  have HE2 := Lib.hid E2'
  clear E2 E2' HC hk1
  go_upto_region 2 with (first | refine wpList_store_row rfl 26 _ _ rfl w2.heap.size #[.int .i64 (kk : Int), .slice none 0 0, .int .u64 0, .slice none 0 0, .slice none 0 0] rfl rfl _ _ (heap_alloc_new _ _) infoNode19 rfl rfl ?_ | fail)
  generalize hw3 : World.alloc w2 _ = w3
  have hz2 := HE2.out.2.size
  have hN3 : New w2 w3 := by rw [← hw3]; exact (Below.refl _ _).alloc (Nat.le_refl _) _
  have hz3 : w3.heap.size = w2.heap.size + 1 := by rw [← hw3]; simp
  have hA3 : At5 w3 w2.heap.size 26 (.int .i64 (kk : Int)) (.slice none 0 0) (.int .u64 0) (.slice none 0 0) (.slice none 0 0) := by rw [← hw3]; exact heap_alloc_new _ _
  have HI0 : Hid (RSt19 w3 w3 w2.heap.size q s1 ⟨.slice none 0 0, .slice none 0 0, .slice none 0 0⟩ ⟨kk, [], 0, [], []⟩) := Lib.hid ⟨HE2.out.1.new hN3, Only.refl _ _, hA3, Rd.nil _, Rd.nil _, World.ownsRow_nil _ _ _ _, by simp [blk], by simp [blk], ⟨by omega, by omega, by omega⟩, by simp [blk]⟩
  have HB : Hid (RBase19 w w3 w.heap.size w2.heap.size q) := Lib.hid ⟨(HA1.out.only HE2.out.2 (by omega)).new hN3, ((New.only (F := fun k => k = q) HN1.out).trans HE2.out.2 (fun _ _ e => e)).trans (New.only (F := fun k => k = q) hN3) (fun _ _ e => e), by omega, by omega⟩
  obtain ⟨wr, hwr⟩ : ∃ wr, w3 = wr := ⟨_, rfl⟩
  have HI : Hid (RSt19 w3 wr w2.heap.size q s1 ⟨.slice none 0 0, .slice none 0 0, .slice none 0 0⟩ ⟨kk, [], 0, [], []⟩) := Lib.hid (by rw [← hwr]; exact HI0.out)
  clear HI0 hA3 hN3 HE2 hz1 hz2 hz3 hw3 HA1 HN1
  obtain ⟨g, hg⟩ : ∃ g, w2.heap.size = g := ⟨_, rfl⟩
  rw [hg] at HI HB
  rw [hg]
  clear hg
  obtain ⟨g0, hg⟩ : ∃ g, w.heap.size = g := ⟨_, rfl⟩
  rw [hg] at HB
  rw [hg]
  clear hg hql HE
  rw [hwr]
  clear hwr
  have HL1 : Hid (s1.1.length ≤ 140737488355328) := Lib.hid (by omega)
  clear hl hl1 HL
  have h1 : kk ≠ 1 := by rw [HK1.out] at h1'; exact h1'
  have h2 : kk ≠ 2 := by rw [HK1.out] at h2'; exact h2'
  clear h1' h2'
  have d1 : ((kk : Int) == 1) = false := by rw [beq_eq_false_iff_ne]; omega
  have d2 : ((kk : Int) == 2) = false := by rw [beq_eq_false_iff_ne]; omega
  have hN := rNode_other HK1.out h1 h2
  obtain ⟨x0, -⟩ := HI.out.at_.cells
  go_upto_region 13 with fail
  clear x0 d1 d2
  obtain ⟨v, N, sE, HN, HKY, HI⟩ : ∃ (v : NodeV) (N : NodeL) (sE : RS), Hid (rNode s = (N, sE)) ∧ Hid (N.key < 18446744073709551616) ∧ Hid (RSt19 w3 wr g q sE v N) := ⟨_, _, _, Lib.hid hN, Lib.hid (show (0 : Nat) < 18446744073709551616 by decide), HI⟩
  clear hN HK1 HL1 h1 h2 hkl hkw
  obtain ⟨a1, n1, c1, a2, n2, c2, a3, n3, c3, rfl⟩ := HI.out.forms
  obtain ⟨rk, rn, ry, rp, ru⟩ := N
  have HZ := Lib.hid (HB.out.at_ HI.out)
  have HP := Lib.hid (HB.out.all HI.out)
  have HAT : Hid (At5 wr g 26 (.int .i64 rk) (.slice a1 n1 c1) (.int .u64 (ry : Int)) (.slice a2 n2 c2) (.slice a3 n3 c3)) := Lib.hid HI.out.at_
  obtain ⟨sr, er⟩ := sE
  obtain ⟨x0, -⟩ := HAT.out.cells
  obtain ⟨c0, c1', c2', c3'⟩ := HI.out.eye.cells
  dsimp only at c0 c1'
  by_cases he : er = 0
  rotate_left
  · obtain ⟨f1, f2⟩ := rGot_err (s := s) (by rw [HN.out]; exact he)
    rw [HN.out] at f1
    obtain ⟨z0, z1, z2, z3, z4⟩ := HZ.out.cells
    obtain ⟨u0, u1, u2, u3, u4⟩ := HZ.out.frozen
    have de : (er == 0) = false := by simpa using he
    have dn : (er != 0) = true := by simpa using he
    have HF := Lib.hid (And.intro f1 f2)
    clear he f1 f2
    go_wp2_with fail
    refine bodyPost_ret (results_cell1 rfl _ _ g0 _ _ _ _ rfl (HZ.out.put _ _ _ _ _) Try.underlying26 rfl infoNode19) rfl ?_
    exact ⟨⟨.slice none 0 0, .slice none 0 0, .slice none 0 0⟩, by rw [HF.out.2]; rfl, by rw [HF.out.2]; exact ⟨Rd.nil _, Rd.nil _, RdV.nil _, by decide⟩, by rw [HF.out.1, HN.out]; exact (HP.out _ _ _ _ _).1⟩
  subst he
  have HRI := Lib.hid (refRight19 wr ⟨.slice a1 n1 c1, .slice a2 n2 c2, .slice a3 n3 c3⟩ ⟨rk, rn, ry, rp, ru⟩ ⟨HI.out.nm, HI.out.pa, RdV.of_own HI.out.own, HKY.out⟩)
  go_wp2_with (first | refine wpList_load_row19 rfl 26 _ rfl g rfl _ _ _ _ HAT.out Try.underlying26 rfl infoNode19 ?_ | fail)
  refine HRI.out.mono ?_
  rintro _ ws ⟨rfl, Ns⟩
  replace HI := Lib.hid (HI.out.new Ns)
  replace HZ := Lib.hid (HB.out.at_ HI.out)
  replace HP := Lib.hid (HB.out.all HI.out)
  replace HAT : Hid (At5 ws g 26 (.int .i64 rk) (.slice a1 n1 c1) (.int .u64 (ry : Int)) (.slice a2 n2 c2) (.slice a3 n3 c3)) := Lib.hid HI.out.at_
  clear Ns HRI c0 c1' c2' c3' x0
  obtain ⟨x0, x1, x2, x3, x4⟩ := HAT.out.cells
  obtain ⟨c0, c1', c2', c3'⟩ := HI.out.eye.cells
  dsimp only at c0 c1'
  obtain ⟨z0, z1, z2, z3, z4⟩ := HZ.out.cells
  obtain ⟨u0, u1, u2, u3, u4⟩ := HZ.out.frozen
  by_cases hok : nOk ⟨rk, rn, ry, rp, ru⟩
  · rw [decide_eq_true hok]
    obtain ⟨f1, f2⟩ := rGot_ok (s := s) (by rw [HN.out]) (by rw [HN.out]; exact hok)
    rw [HN.out] at f2
    have HF := Lib.hid (And.intro f1 f2)
    clear f1 f2 hok
    go_wp2_with (first | refine wpList_load_row19 rfl 26 _ rfl g rfl _ _ _ _ HAT.out Try.underlying26 rfl infoNode19 ?_ | fail)
    refine bodyPost_ret (results_cell1 rfl _ _ g0 _ _ _ _ rfl (HZ.out.put _ _ _ _ _) Try.underlying26 rfl infoNode19) rfl ?_
    have hp := HP.out (.int .i64 rk) (.slice a1 n1 c1) (.int .u64 (ry : Int)) (.slice a2 n2 c2) (.slice a3 n3 c3)
    exact ⟨⟨.slice a1 n1 c1, .slice a2 n2 c2, .slice a3 n3 c3⟩, by rw [HF.out.2]; rfl, by rw [HF.out.2]; exact ⟨hp.2.1, hp.2.2.1, hp.2.2.2, HKY.out⟩, by rw [HF.out.1, HN.out]; exact hp.1⟩
  · rw [decide_eq_false hok]
    obtain ⟨f1, f2⟩ := rGot_bad (s := s) (by rw [HN.out]) (by rw [HN.out]; exact hok)
    have HF := Lib.hid (And.intro f1 f2)
    have HE3 := Lib.hid (HI.out.step (s' := (sr, 12)) (reyeSetErr (x := 12) HI.out.eye))
    have HZ3 := Lib.hid (HB.out.at_ HE3.out)
    have HP3 := Lib.hid (HB.out.all HE3.out)
    clear f1 f2 hok
    go_upto_region 15 with fail
    clear z0 z1 z2 z3 z4 u0 u1 u2 u3 u4 x0 x1 x2 x3 x4 c0 c1' c2' c3'
    generalize ws.setCell ⟨q, 1, none⟩ (.int .i64 12) = wt at *
    obtain ⟨c0, c1', c2', c3'⟩ := HE3.out.eye.cells
    dsimp only at c0 c1'
    obtain ⟨z0, z1, z2, z3, z4⟩ := HZ3.out.cells
    obtain ⟨u0, u1, u2, u3, u4⟩ := HZ3.out.frozen
    go_wp2_with fail
    refine bodyPost_ret (results_cell1 rfl _ _ g0 _ _ _ _ rfl (HZ3.out.put _ _ _ _ _) Try.underlying26 rfl infoNode19) rfl ?_
    exact ⟨⟨.slice none 0 0, .slice none 0 0, .slice none 0 0⟩, by rw [HF.out.2]; rfl, by rw [HF.out.2]; exact ⟨Rd.nil _, Rd.nil _, RdV.nil _, by decide⟩, by rw [HF.out.1, HN.out]; exact (HP3.out _ _ _ _ _).1⟩

end Go.Proofs.Ytliojldkdmaofaa
