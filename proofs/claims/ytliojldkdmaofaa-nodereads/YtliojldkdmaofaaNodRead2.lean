/-
  node: fields, Read.
-/
import Derived.Test.YtliojldkdmaofaaNodRead
import Derived.Test.YtliojldkdmaofaaNodRight
namespace Go.Proofs.Ytliojldkdmaofaa
set_option linter.unusedVariables false
set_option linter.unusedSimpArgs false
set_option maxRecDepth 100000
open Go.RowKit

/-- in the midst of reading: the node in block g, the reader at block q; what was read so far lies in blocks from w0's size on -/
structure NSt19 (w0 wr : World) (g q : Nat) (d : Option Nat) (s : RS) (v : NodeV) (N : NodeL) : Prop where
  eye : Eye wr q d s.1 s.2
  only : Only (fun k => k = g ∨ k = q) w0 wr
  at_ : At5 wr g 26 (.int .i64 N.kind) v.nm (.int .u64 (N.key : Int)) v.pa v.un
  nm : Rd wr v.nm N.name
  pa : Rd wr v.pa N.parent
  un : RdV wr v.un (N.unm.map (Value.int .i64))
  nb : N.name ≠ [] → ∀ k, blk v.nm = some k → w0.heap.size ≤ k
  pb : N.parent ≠ [] → ∀ k, blk v.pa = some k → w0.heap.size ≤ k
  ub : ∀ k, blk v.un = some k → w0.heap.size ≤ k
  gq : g < w0.heap.size ∧ q < w0.heap.size ∧ g ≠ q
  dk : s.1 ≠ [] → ∀ k, d = some k → k ≠ g ∧ k < w0.heap.size

section
variable {w0 wr w' : World} {g q : Nat} {d : Option Nat} {s s' : RS} {v : NodeV} {N : NodeL}

theorem NSt19.step (h : NSt19 w0 wr g q d s v N) (E : EyeTo wr q d s'.1 s'.2 w') (hle : s'.1.length ≤ s.1.length) : NSt19 w0 w' g q d s' v N :=
  ⟨E.1, h.only.trans E.2 (fun _ _ e => .inr e), h.at_.only E.2 (fun e => h.gq.2.2 e), h.nm.only E.2 (fun k hk hne e => by have := h.nb hne k hk; have := h.gq; omega), h.pa.only E.2 (fun k hk hne e => by have := h.pb hne k hk; have := h.gq; omega),
    h.un.only E.2 (fun k hk _ e => by have := h.ub k hk; have := h.gq; omega), h.nb, h.pb, h.ub, h.gq, fun hne => h.dk (fun he => hne (List.length_eq_zero_iff.1 (by rw [he] at hle; simpa using hle)))⟩

theorem NSt19.g_only (h : NSt19 w0 wr g q d s v N) (ho : Only (fun k => k = g) wr w') : Eye w' q d s.1 s.2 ∧ Only (fun k => k = g ∨ k = q) w0 w' ∧ Rd w' v.nm N.name ∧ Rd w' v.pa N.parent ∧ RdV w' v.un (N.unm.map (Value.int .i64)) :=
  ⟨h.eye.only19 ho (fun e => h.gq.2.2 e.symm) (fun hne k hk => (h.dk hne k hk).1), h.only.trans ho (fun _ _ e => .inl e), h.nm.only ho (fun k hk hne e => by have := h.nb hne k hk; have := h.gq; omega), h.pa.only ho (fun k hk hne e => by have := h.pb hne k hk; have := h.gq; omega),
    h.un.only ho (fun k hk _ e => by have := h.ub k hk; have := h.gq; omega)⟩

theorem nset19 (w : World) (g o : Nat) (u : Value) : Only (fun k => k = g) w (w.setCell ⟨g, o, none⟩ u) := (Only.refl (fun k => k = g) w).setCell (p := ⟨g, o, none⟩) (fun _ => rfl) u

theorem NSt19.setName (h : NSt19 w0 wr g q d s v N) {a : Value} {l : List UInt8} (r : Rd wr a l) (o : l ≠ [] → ∀ k, blk a = some k → w0.heap.size ≤ k) : NSt19 w0 (wr.setCell ⟨g, 1, none⟩ a) g q d s { v with nm := a } { N with name := l } := by
  have ho := nset19 wr g 1 a
  obtain ⟨h1, h2, h3, h4, h5⟩ := h.g_only ho
  exact ⟨h1, h2, h.at_.set1 a, r.only ho (fun k hk hne e => by have := o hne k hk; have := h.gq; omega), h4, h5, o, h.pb, h.ub, h.gq, h.dk⟩

theorem NSt19.setKey (h : NSt19 w0 wr g q d s v N) (k : Nat) : NSt19 w0 (wr.setCell ⟨g, 2, none⟩ (.int .u64 (k : Int))) g q d s v { N with key := k } := by
  have ho := nset19 wr g 2 (.int .u64 (k : Int))
  obtain ⟨h1, h2, h3, h4, h5⟩ := h.g_only ho
  exact ⟨h1, h2, h.at_.set2 _, h3, h4, h5, h.nb, h.pb, h.ub, h.gq, h.dk⟩

theorem NSt19.setParent (h : NSt19 w0 wr g q d s v N) {a : Value} {l : List UInt8} (r : Rd wr a l) (o : l ≠ [] → ∀ k, blk a = some k → w0.heap.size ≤ k) : NSt19 w0 (wr.setCell ⟨g, 3, none⟩ a) g q d s { v with pa := a } { N with parent := l } := by
  have ho := nset19 wr g 3 a
  obtain ⟨h1, h2, h3, h4, h5⟩ := h.g_only ho
  exact ⟨h1, h2, h.at_.set3 a, h3, r.only ho (fun k hk hne e => by have := o hne k hk; have := h.gq; omega), h5, h.nb, o, h.ub, h.gq, h.dk⟩

theorem NSt19.setUnm (h : NSt19 w0 wr g q d s v N) {a : Value} {l : List Int} (r : RdV wr a (l.map (Value.int .i64))) (o : ∀ k, blk a = some k → w0.heap.size ≤ k) : NSt19 w0 (wr.setCell ⟨g, 4, none⟩ a) g q d s { v with un := a } { N with unm := l } := by
  have ho := nset19 wr g 4 a
  obtain ⟨h1, h2, h3, h4, h5⟩ := h.g_only ho
  exact ⟨h1, h2, h.at_.set4 a, h3, h4, r.only ho (fun k hk hne e => by have := o k hk; have := h.gq; omega), h.nb, h.pb, o, h.gq, h.dk⟩
end

/-- what fields returns -/
def FieldsTo19 (w : World) (q : Nat) (d : Option Nat) (N : NodeL) (s' : RS) (e : Ending) (w' : World) : Prop :=
  ∃ v : NodeV, e = .returned (v.val N) ∧ NodeN19 w w' v N ∧ EyeTo w q d s'.1 s'.2 w'

/-- the result's block g0, from before the node's block g was made in w0 -/
structure NBase19 (w w0 : World) (g0 g q : Nat) (d : Option Nat) (s : RS) : Prop where
  zero : At5 w0 g0 26 (.int .i64 0) (.slice none 0 0) (.int .u64 0) (.slice none 0 0) (.slice none 0 0)
  only : Only (fun k => k = q) w w0
  pos : w.heap.size ≤ g0 ∧ w.heap.size ≤ g ∧ g0 < w0.heap.size ∧ q < w.heap.size
  ne : g0 ≠ g ∧ g0 ≠ q
  dk : s.1 ≠ [] → ∀ k, d = some k → k < w.heap.size

theorem NBase19.at_ {w w0 wr : World} {g0 g q : Nat} {d : Option Nat} {s s1 : RS} {v : NodeV} {N : NodeL} (h : NBase19 w w0 g0 g q d s1) (k : NSt19 w0 wr g q d s v N) : At5 wr g0 26 (.int .i64 0) (.slice none 0 0) (.int .u64 0) (.slice none 0 0) (.slice none 0 0) :=
  h.zero.only k.only (fun e => by have := h.ne; rcases e with e | e <;> omega)

theorem NBase19.all {w w0 wr : World} {g0 g q : Nat} {d : Option Nat} {s s1 : RS} {v : NodeV} {N : NodeL} (h : NBase19 w w0 g0 g q d s1) (k : NSt19 w0 wr g q d s v N) (hs : s.1.length ≤ s1.1.length) (hky : N.key < 18446744073709551616) (a b c e f : Value) :
    EyeTo w q d s.1 s.2 (put5 wr g0 a b c e f) ∧ NodeN19 w (put5 wr g0 a b c e f) v N := by
  have hp := put5_only wr g0 a b c e f
  have h1 := h.pos
  have hw0 : w.heap.size ≤ w0.heap.size := by omega
  refine ⟨⟨k.eye.only19 hp (fun e => h.ne.2 e.symm) (fun hne j hj e => ?_), ?_⟩, ⟨⟨k.nm.only hp (fun j hj hne e => by have := k.nb hne j hj; omega), k.pa.only hp (fun j hj hne e => by have := k.pb hne j hj; omega), k.un.only hp (fun j hj _ e => by have := k.ub j hj; omega), hky⟩, fun hne j hj => Nat.le_trans hw0 (k.nb hne j hj), fun hne j hj => Nat.le_trans hw0 (k.pb hne j hj), fun j hj => Nat.le_trans hw0 (k.ub j hj)⟩⟩
  · have := h.dk (fun he => hne (List.length_eq_zero_iff.1 (by rw [he] at hs; simpa using hs))) j hj
    omega
  · exact (h.only.trans k.only (fun i hi e => by rcases e with e | e; omega; exact e)).trans hp (fun i hi e => by omega)

theorem NSt19.forms {w0 wr : World} {g q : Nat} {d : Option Nat} {s : RS} {v : NodeV} {N : NodeL} (h : NSt19 w0 wr g q d s v N) : ∃ a1 n1 c1 a2 n2 c2 a3 n3 c3, v = ⟨.slice a1 n1 c1, .slice a2 n2 c2, .slice a3 n3 c3⟩ := by
  obtain ⟨a1, n1, c1, e1, -⟩ := h.nm
  obtain ⟨a2, n2, c2, e2, -⟩ := h.pa
  obtain ⟨a3, n3, c3, e3, -⟩ := h.un
  obtain ⟨x, y, z⟩ := v
  exact ⟨a1, n1, c1, a2, n2, c2, a3, n3, c3, by rw [show x = _ from e1, show y = _ from e2, show z = _ from e3]⟩

set_option maxHeartbeats 2000000 in
theorem nodFields (w : World) (q : Nat) (d : Option Nat) (s : RS) (hE : Eye w q d s.1 s.2) (hl : s.1.length ≤ 140737488355328) :
    Calls Try.prog 29 #[.pointer (some ⟨q, 0, none⟩)] w (FieldsTo19 w q d (rNode s).1 (rNode s).2) := by
  have HDT := Lib.hid hE.data19
  have HE := Lib.hid hE
  obtain ⟨kk, s1, hk1⟩ : ∃ kk s1, rNum 1 s = (kk, s1) := ⟨_, _, rfl⟩
  have HK1 := Lib.hid hk1
  have HKL : Hid (kk < 256) := Lib.hid (by have := rNum_lt1 s; rw [hk1] at this; exact this)
  have hl1 : s1.1.length ≤ s.1.length := by have := rNum_len 1 s; rw [hk1] at this; exact this
  have HL1 := Lib.hid hl1
  have HL : Hid (s1.1.length ≤ 140737488355328) := Lib.hid (by omega)
  clear hE hk1 hl1 hl
  go_enter Try.func29, Try.ntmps29
  go_upto_region 1 with fail
  generalize hw1 : World.alloc w _ = w1
  have hz1 : w1.heap.size = w.heap.size + 1 := by rw [← hw1]; simp
  have HA1 : Hid (At5 w1 w.heap.size 26 (.int .i64 0) (.slice none 0 0) (.int .u64 0) (.slice none 0 0) (.slice none 0 0)) := Lib.hid (by rw [← hw1]; exact heap_alloc_new _ _)
  have HN1 : Hid (New w w1) := Lib.hid (by rw [← hw1]; exact (Below.refl _ _).alloc (Nat.le_refl _) _)
  clear hw1
  have HC := Lib.hid (eyeU8s (HE.out.new HN1.out) HK1.out)
  go_wp2_with fail
  refine HC.out.mono ?_
  rintro _ w2 ⟨rfl, E2⟩
  have HE2 := Lib.hid E2
  clear E2 HC
  go_upto_region 2 with (first | refine wpList_store_row rfl 26 _ _ rfl w2.heap.size #[.int .i64 (kk : Int), .slice none 0 0, .int .u64 0, .slice none 0 0, .slice none 0 0] rfl rfl _ _ (heap_alloc_new _ _) infoNode19 rfl rfl ?_ | fail)
  generalize hw3 : World.alloc w2 _ = w3
  have hz2 := HE2.out.2.size
  have hN3 : New w2 w3 := by rw [← hw3]; exact (Below.refl _ _).alloc (Nat.le_refl _) _
  have hz3 : w3.heap.size = w2.heap.size + 1 := by rw [← hw3]; simp
  have hA3 : At5 w3 w2.heap.size 26 (.int .i64 (kk : Int)) (.slice none 0 0) (.int .u64 0) (.slice none 0 0) (.slice none 0 0) := by rw [← hw3]; exact heap_alloc_new _ _
  have hq := HDT.out.1
  have hdk : s1.1 ≠ [] → ∀ k, d = some k → k < w.heap.size := fun hne => HDT.out.2 (fun he => hne (List.length_eq_zero_iff.1 (by have := HL1.out; rw [he] at this; simpa using this)))
  have HI0 : Hid (NSt19 w3 w3 w2.heap.size q d s1 ⟨.slice none 0 0, .slice none 0 0, .slice none 0 0⟩ ⟨kk, [], 0, [], []⟩) := Lib.hid ⟨HE2.out.1.new hN3, Only.refl _ _, hA3, Rd.nil _, Rd.nil _, RdV.nil _, by simp, by simp, by simp [blk], ⟨by omega, by omega, by omega⟩, fun hne k hk => by have := hdk hne k hk; omega⟩
  have HB : Hid (NBase19 w w3 w.heap.size w2.heap.size q d s1) := Lib.hid ⟨(HA1.out.only HE2.out.2 (by omega)).new hN3, ((New.only (F := fun k => k = q) HN1.out).trans HE2.out.2 (fun _ _ e => e)).trans (New.only (F := fun k => k = q) hN3) (fun _ _ e => e), by omega, by omega, hdk⟩
  obtain ⟨wr, hwr⟩ : ∃ wr, w3 = wr := ⟨_, rfl⟩
  have HI : Hid (NSt19 w3 wr w2.heap.size q d s1 ⟨.slice none 0 0, .slice none 0 0, .slice none 0 0⟩ ⟨kk, [], 0, [], []⟩) := Lib.hid (by rw [← hwr]; exact HI0.out)
  clear HI0 hA3 hN3 HE2 hz1 hz2 hz3 hw3 HA1 HN1 hq hdk HE HDT HL1
  obtain ⟨g, hg⟩ : ∃ g, w2.heap.size = g := ⟨_, rfl⟩
  rw [hg] at HI HB
  rw [hg]
  clear hg
  obtain ⟨g0, hg⟩ : ∃ g, w.heap.size = g := ⟨_, rfl⟩
  rw [hg] at HB
  rw [hg]
  clear hg
  rw [hwr]
  clear hwr
  obtain ⟨x0, x1, x2, x3, x4⟩ := HI.out.at_.cells
  by_cases h1 : kk = 1
  · subst h1
    obtain ⟨nm, s2, hk2⟩ : ∃ x y, rText 16 s1 = (x, y) := ⟨_, _, rfl⟩
    have HL2 : Hid (s2.1.length ≤ s1.1.length) := Lib.hid (by have := (rText_len 16 s1).1; rw [hk2] at this; exact this)
    have HL2' := HL2
    have HK2 := Lib.hid hk2
    have HSH := Lib.hid (eyeShorts HI.out.eye HL.out 16 hk2)
    clear hk2
    go_wp2_with fail
    refine HSH.out.mono ?_
    rintro _ wn ⟨a1, n1, c1, rfl, R, O, E⟩
    have HO : Hid (nm ≠ [] → ∀ k, blk (.slice a1 n1 c1) = some k → w3.heap.size ≤ k) := Lib.hid (fun hne k hk => Nat.le_trans HI.out.only.size (O hne k hk))
    replace HI := Lib.hid (HI.out.step E HL2.out)
    have HR := Lib.hid R
    clear E R O HSH x0 x1 x2 x3 x4
    obtain ⟨x0, x1, -⟩ := HI.out.at_.cells
    obtain ⟨-, y1, -⟩ := HI.out.at_.frozen
    go_upto_region 5 with fail
    replace HI := Lib.hid (HI.out.setName HR.out HO.out)
    clear x0 x1 y1 HR HO
    generalize wn.setCell ⟨g, 1, none⟩ (.slice a1 n1 c1) = wr at *
    obtain ⟨ky, s3, hk3⟩ : ∃ x y, rNum 8 s2 = (x, y) := ⟨_, _, rfl⟩
    obtain ⟨pa, s4, hk4⟩ : ∃ x y, rText 32 s3 = (x, y) := ⟨_, _, rfl⟩
    have HKY : Hid (ky < 18446744073709551616) := Lib.hid (by have := rNum_lt8 s2; rw [hk3] at this; exact this)
    have HL4 : Hid (s4.1.length ≤ s2.1.length) := Lib.hid (by have h1 := rNum_len 8 s2; have h2 := (rText_len 32 s3).1; rw [hk3] at h1; rw [hk4] at h2; dsimp only at h1 h2; omega)
    have HK3 := Lib.hid hk3
    have HK4 := Lib.hid hk4
    have HRK := Lib.hid (nodReadKey HI.out.eye (Nat.le_trans HL2.out HL.out) hk3 hk4)
    clear hk3 hk4
    go_wp2_with fail
    refine HRK.out.mono ?_
    rintro _ wn ⟨a2, n2, c2, rfl, R, O, E⟩
    have HO : Hid (pa ≠ [] → ∀ k, blk (.slice a2 n2 c2) = some k → w3.heap.size ≤ k) := Lib.hid (fun hne k hk => Nat.le_trans HI.out.only.size (O hne k hk))
    replace HI := Lib.hid (HI.out.step E HL4.out)
    have HR := Lib.hid R
    clear E R O HRK
    obtain ⟨x0, x1, x2, x3, x4⟩ := HI.out.at_.cells
    obtain ⟨y0, y1, y2, y3, y4⟩ := HI.out.at_.frozen
    have z3 := (HI.out.setKey ky).at_.frozen.2.2.2.1
    have z3' := (HI.out.setKey ky).at_.cells.2.2.2.1
    go_upto_region 9 with fail
    replace HI := Lib.hid ((HI.out.setKey ky).setParent (HR.out.only (nset19 wn g 2 _) (fun k hk hne e => by have := HO.out hne k hk; have := HI.out.gq; omega)) HO.out)
    clear x0 x1 x2 x3 x4 y0 y1 y2 y3 y4 z3 z3'
    have HL4' : Hid (s4.1.length ≤ s1.1.length) := Lib.hid (Nat.le_trans HL4.out HL2'.out)
    generalize (wn.setCell ⟨g, 2, none⟩ (.int .u64 (ky : Int))).setCell ⟨g, 3, none⟩ (.slice a2 n2 c2) = wr at *
    clear HR HO
    obtain ⟨NN, v, sE, HN, HKY, HI, HSE⟩ : ∃ (NN : NodeL) (v : NodeV) (sE : RS), Hid (rNode s = (NN, sE)) ∧ Hid (NN.key < 18446744073709551616) ∧ Hid (NSt19 w3 wr g q d sE v NN) ∧ Hid (sE.1.length ≤ s1.1.length) := ⟨_, _, _, Lib.hid (rNode_leaf HK1.out HK2.out HK3.out HK4.out), HKY, HI, HL4'⟩
    obtain ⟨b1, m1, f1, b2, m2, f2, b3, m3, f3, rfl⟩ := HI.out.forms
    have HZ := Lib.hid (HB.out.at_ HI.out)
    have HAT : Hid (At5 wr g 26 (.int .i64 NN.kind) (.slice b1 m1 f1) (.int .u64 (NN.key : Int)) (.slice b2 m2 f2) (.slice b3 m3 f3)) := Lib.hid HI.out.at_
    have HP := Lib.hid (HB.out.all HI.out HSE.out HKY.out)
    clear HI
    obtain ⟨u0, u1, u2, u3, u4⟩ := HZ.out.frozen
    obtain ⟨z0, z1, z2, z3, z4⟩ := HZ.out.cells
    go_wp2_with (first | refine wpList_load_rowG (by rfl) 26 _ rfl g rfl _ _ _ _ HAT.out Try.underlying26 rfl infoNode19 ?_ | fail)
    refine bodyPost_ret (results_cell1 rfl _ _ g0 _ _ _ _ rfl (HZ.out.put _ _ _ _ _) Try.underlying26 rfl infoNode19) rfl ?_
    have hp := HP.out (.int .i64 NN.kind) (.slice b1 m1 f1) (.int .u64 (NN.key : Int)) (.slice b2 m2 f2) (.slice b3 m3 f3)
    exact ⟨⟨.slice b1 m1 f1, .slice b2 m2 f2, .slice b3 m3 f3⟩, by rw [HN.out]; rfl, by rw [HN.out]; exact hp.2, by rw [HN.out]; exact hp.1⟩
  by_cases h2 : kk = 2
  · subst h2
    clear h1
    obtain ⟨s2, hs2⟩ : ∃ x, s1 = x := ⟨_, rfl⟩
    have HL2 : Hid (s2.1.length ≤ s1.1.length) := Lib.hid (by rw [hs2]; exact Nat.le_refl _)
    have HL2' := HL2
    rw [hs2] at HI
    have HS2 := Lib.hid hs2
    clear hs2
    obtain ⟨ky, s3, hk3⟩ : ∃ x y, rNum 8 s2 = (x, y) := ⟨_, _, rfl⟩
    obtain ⟨pa, s4, hk4⟩ : ∃ x y, rText 32 s3 = (x, y) := ⟨_, _, rfl⟩
    have HKY : Hid (ky < 18446744073709551616) := Lib.hid (by have := rNum_lt8 s2; rw [hk3] at this; exact this)
    have HL4 : Hid (s4.1.length ≤ s2.1.length) := Lib.hid (by have h1 := rNum_len 8 s2; have h2 := (rText_len 32 s3).1; rw [hk3] at h1; rw [hk4] at h2; dsimp only at h1 h2; omega)
    have HK3 := Lib.hid hk3
    have HK4 := Lib.hid hk4
    have HRK := Lib.hid (nodReadKey HI.out.eye (Nat.le_trans HL2.out HL.out) hk3 hk4)
    clear hk3 hk4
    go_wp2_with fail
    refine HRK.out.mono ?_
    rintro _ wn ⟨a2, n2, c2, rfl, R, O, E⟩
    have HO : Hid (pa ≠ [] → ∀ k, blk (.slice a2 n2 c2) = some k → w3.heap.size ≤ k) := Lib.hid (fun hne k hk => Nat.le_trans HI.out.only.size (O hne k hk))
    replace HI := Lib.hid (HI.out.step E HL4.out)
    have HR := Lib.hid R
    clear E R O HRK
    obtain ⟨x0, x1, x2, x3, x4⟩ := HI.out.at_.cells
    obtain ⟨y0, y1, y2, y3, y4⟩ := HI.out.at_.frozen
    have z3 := (HI.out.setKey ky).at_.frozen.2.2.2.1
    have z3' := (HI.out.setKey ky).at_.cells.2.2.2.1
    go_upto_region 8 with fail
    replace HI := Lib.hid ((HI.out.setKey ky).setParent (HR.out.only (nset19 wn g 2 _) (fun k hk hne e => by have := HO.out hne k hk; have := HI.out.gq; omega)) HO.out)
    clear x0 x1 x2 x3 x4 y0 y1 y2 y3 y4 z3 z3'
    have HL4' : Hid (s4.1.length ≤ s1.1.length) := Lib.hid (Nat.le_trans HL4.out HL2'.out)
    generalize (wn.setCell ⟨g, 2, none⟩ (.int .u64 (ky : Int))).setCell ⟨g, 3, none⟩ (.slice a2 n2 c2) = wr at *
    clear HR HO
    obtain ⟨n, s5, hk5⟩ : ∃ x y, rNum 1 s4 = (x, y) := ⟨_, _, rfl⟩
    have HK5 := Lib.hid hk5
    have HRN := Lib.hid (nodReadNumbers HI.out.eye hk5)
    have HSE : Hid ((rUnm n s5).2.1.length ≤ s4.1.length) := Lib.hid (by have h1 := rNum_len 1 s4; rw [hk5] at h1; exact Nat.le_trans (rUnm_len n s5).1 h1)
    clear hk5
    obtain ⟨x0, x1, x2, x3, x4⟩ := HI.out.at_.cells
    go_wp2_with fail
    refine HRN.out.mono ?_
    rintro _ wn ⟨a3, n3, c3, rfl, R, O, E⟩
    have HO : Hid (∀ k, blk (.slice a3 n3 c3) = some k → w3.heap.size ≤ k) := Lib.hid (fun k hk => Nat.le_trans HI.out.only.size (O k hk))
    replace HI := Lib.hid (HI.out.step E HSE.out)
    have HR := Lib.hid R
    clear E R O HRN x0 x1 x2 x3 x4
    obtain ⟨x0, x1, x2, x3, x4⟩ := HI.out.at_.cells
    obtain ⟨y0, y1, y2, y3, y4⟩ := HI.out.at_.frozen
    go_upto_region 9 with fail
    replace HI := Lib.hid (HI.out.setUnm HR.out HO.out)
    clear x0 x1 x2 x3 x4 y0 y1 y2 y3 y4 HR HO
    generalize wn.setCell ⟨g, 4, none⟩ (.slice a3 n3 c3) = wr at *
    obtain ⟨NN, v, sE, HN, HKY, HI, HSE⟩ : ∃ (NN : NodeL) (v : NodeV) (sE : RS), Hid (rNode s = (NN, sE)) ∧ Hid (NN.key < 18446744073709551616) ∧ Hid (NSt19 w3 wr g q d sE v NN) ∧ Hid (sE.1.length ≤ s1.1.length) := ⟨_, _, _, Lib.hid (rNode_branch HK1.out (by rw [HS2.out]; exact HK3.out) HK4.out HK5.out), HKY, HI, Lib.hid (Nat.le_trans HSE.out HL4'.out)⟩
    obtain ⟨b1, m1, f1, b2, m2, f2, b3, m3, f3, rfl⟩ := HI.out.forms
    have HZ := Lib.hid (HB.out.at_ HI.out)
    have HAT : Hid (At5 wr g 26 (.int .i64 NN.kind) (.slice b1 m1 f1) (.int .u64 (NN.key : Int)) (.slice b2 m2 f2) (.slice b3 m3 f3)) := Lib.hid HI.out.at_
    have HP := Lib.hid (HB.out.all HI.out HSE.out HKY.out)
    clear HI
    obtain ⟨u0, u1, u2, u3, u4⟩ := HZ.out.frozen
    obtain ⟨z0, z1, z2, z3, z4⟩ := HZ.out.cells
    go_wp2_with (first | refine wpList_load_rowG (by rfl) 26 _ rfl g rfl _ _ _ _ HAT.out Try.underlying26 rfl infoNode19 ?_ | fail)
    refine bodyPost_ret (results_cell1 rfl _ _ g0 _ _ _ _ rfl (HZ.out.put _ _ _ _ _) Try.underlying26 rfl infoNode19) rfl ?_
    have hp := HP.out (.int .i64 NN.kind) (.slice b1 m1 f1) (.int .u64 (NN.key : Int)) (.slice b2 m2 f2) (.slice b3 m3 f3)
    exact ⟨⟨.slice b1 m1 f1, .slice b2 m2 f2, .slice b3 m3 f3⟩, by rw [HN.out]; rfl, by rw [HN.out]; exact hp.2, by rw [HN.out]; exact hp.1⟩
  · have d1 : ((kk : Int) == 1) = false := by rw [beq_eq_false_iff_ne]; omega
    have d2 : ((kk : Int) == 2) = false := by rw [beq_eq_false_iff_ne]; omega
    have hN := rNode_other HK1.out h1 h2
    go_upto_region 9 with fail
    clear x0 x1 x2 x3 x4 d1 d2
    obtain ⟨NN, v, sE, HN, HKY, HI, HSE⟩ : ∃ (NN : NodeL) (v : NodeV) (sE : RS), Hid (rNode s = (NN, sE)) ∧ Hid (NN.key < 18446744073709551616) ∧ Hid (NSt19 w3 wr g q d sE v NN) ∧ Hid (sE.1.length ≤ s1.1.length) := ⟨_, _, _, Lib.hid hN, Lib.hid (show (0 : Nat) < 18446744073709551616 by decide), HI, Lib.hid (Nat.le_refl _)⟩
    clear hN h1 h2 HKL
    obtain ⟨b1, m1, f1, b2, m2, f2, b3, m3, f3, rfl⟩ := HI.out.forms
    have HZ := Lib.hid (HB.out.at_ HI.out)
    have HAT : Hid (At5 wr g 26 (.int .i64 NN.kind) (.slice b1 m1 f1) (.int .u64 (NN.key : Int)) (.slice b2 m2 f2) (.slice b3 m3 f3)) := Lib.hid HI.out.at_
    have HP := Lib.hid (HB.out.all HI.out HSE.out HKY.out)
    clear HI
    obtain ⟨u0, u1, u2, u3, u4⟩ := HZ.out.frozen
    obtain ⟨z0, z1, z2, z3, z4⟩ := HZ.out.cells
    go_wp2_with (first | refine wpList_load_rowG (by rfl) 26 _ rfl g rfl _ _ _ _ HAT.out Try.underlying26 rfl infoNode19 ?_ | fail)
    refine bodyPost_ret (results_cell1 rfl _ _ g0 _ _ _ _ rfl (HZ.out.put _ _ _ _ _) Try.underlying26 rfl infoNode19) rfl ?_
    have hp := HP.out (.int .i64 NN.kind) (.slice b1 m1 f1) (.int .u64 (NN.key : Int)) (.slice b2 m2 f2) (.slice b3 m3 f3)
    exact ⟨⟨.slice b1 m1 f1, .slice b2 m2 f2, .slice b3 m3 f3⟩, by rw [HN.out]; rfl, by rw [HN.out]; exact hp.2, by rw [HN.out]; exact hp.1⟩

end Go.Proofs.Ytliojldkdmaofaa
