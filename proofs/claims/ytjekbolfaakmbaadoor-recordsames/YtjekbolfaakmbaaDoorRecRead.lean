/-
  record.Read.
-/
import Derived.Test.YtjekbolfaakmbaaDoorRecFns
import Derived.Test.YtjekbolfaakmbaaDoorRecSl
namespace Go.Proofs.YtjekbolfaakmbaaDoor
set_option linter.unusedVariables false
set_option linter.unusedSimpArgs false
open Go.RowKit

/-- in the midst of reading: the record in block g, the reader at block p; what was read so far (L) lies in blocks from B on -/
structure St (w0 w : World) (g p : Nat) (d : Option Nat) (B : Nat) (s : List UInt8 × Int) (L : List (Value × List UInt8)) : Prop where
  eye : Eye w p d s.1 s.2
  only : Only (fun k => k = g ∨ k = p) w0 w
  got : ∀ x ∈ L, Sl w g p x.1 x.2
  far : ∀ x ∈ L, ∀ k, blk x.1 = some k → x.2 ≠ [] → ¬ k < B
  gp : ¬ g = p
  gd : ∀ k, d = some k → ¬ k = g
  lt : g < w.heap.size ∧ B ≤ w.heap.size ∧ p < w.heap.size

theorem St.step {w0 w w' : World} {g p : Nat} {d : Option Nat} {B : Nat} {s s' : List UInt8 × Int} {L : List (Value × List UInt8)} (h : St w0 w g p d B s L) (E : EyeTo w p d s'.1 s'.2 w') : St w0 w' g p d B s' L :=
  ⟨E.1, h.only.trans E.2 (fun _ _ e => .inr e), fun x hx => (h.got x hx).only (E.2.mono fun _ _ e => .inr e), h.far, h.gp, h.gd, ⟨Nat.lt_of_lt_of_le h.lt.1 E.2.size, Nat.le_trans h.lt.2.1 E.2.size, Nat.lt_of_lt_of_le h.lt.2.2 E.2.size⟩⟩

theorem St.set {w0 w : World} {g p : Nat} {d : Option Nat} {B : Nat} {s : List UInt8 × Int} {L : List (Value × List UInt8)} (h : St w0 w g p d B s L) (o : Nat) (u : Value) : St w0 (w.setCell ⟨g, o, none⟩ u) g p d B s L :=
  ⟨h.eye.only (set_only w g o u) (fun e => h.gp e.symm) h.gd, h.only.trans (set_only w g o u) (fun _ _ e => .inl e), fun x hx => (h.got x hx).only ((set_only w g o u).mono fun _ _ e => .inl e), h.far, h.gp, h.gd, ⟨by simpa using h.lt.1, by simpa using h.lt.2.1, by simpa using h.lt.2.2⟩⟩

theorem St.add {w0 w w' : World} {g p : Nat} {d : Option Nat} {B : Nat} {s s' : List UInt8 × Int} {L : List (Value × List UInt8)} {v : Value} {t : List UInt8} (h : St w0 w g p d B s L) (E : EyeTo w p d s'.1 s'.2 w') (r : Rd w' v t) (o : t ≠ [] → w'.ownsRow w.heap.size 5 1 v t.length (t.map bv)) : St w0 w' g p d B s' ((v, t) :: L) := by
  have hf : ∀ k, blk v = some k → t ≠ [] → w.heap.size ≤ k := fun k hk hne => own_from (o hne) k hk
  have h1 := h.step E
  have hl := h.lt
  refine ⟨h1.eye, h1.only, ?_, ?_, h1.gp, h1.gd, h1.lt⟩
  · intro x hx
    rcases List.mem_cons.1 hx with e | e
    · subst e
      exact ⟨r, fun k hk hne e => by have := hf k hk hne; rcases e with e | e <;> omega⟩
    · exact h1.got x e
  · intro x hx
    rcases List.mem_cons.1 hx with e | e
    · subst e
      exact fun k hk hne e => by have := hf k hk hne; omega
    · exact h1.far x e

set_option maxRecDepth 100000 in
set_option maxHeartbeats 2000000 in
theorem recRead (w : World) (x : Value) (l : List UInt8) (hx : Rd w x l) (hb : l.length ≤ 140737488355328) : Calls Tryd.prog 11 #[x] w (ReadTo12 w l) := by
  have HX := Lib.hid hx
  have HB : Hid (l.length ≤ 140737488355328) := Lib.hid hb
  clear hx hb
  go_enter Tryd.func11, Tryd.ntmps11
  go_wp2_with fail
  generalize hw1 : World.alloc w _ = w1
  have HG1 : Hid (At9 w1 w.heap.size 24 (.int .i64 0) (.slice none 0 0) (.int .i64 0) (.int .i64 0) (.int .i64 0) (.slice none 0 0) (.slice none 0 0) (.slice none 0 0) (.slice none 0 0)) := Lib.hid (by rw [← hw1]; exact heap_alloc_new _ _)
  have N1 : New w w1 := by rw [← hw1]; exact (Below.refl _ _).alloc (Nat.le_refl _) _
  have hz1 : w1.heap.size = w.heap.size + 1 := by rw [← hw1]; simp
  clear hw1
  refine (eyeOpen w1 x l (HX.out.new N1) HB.out).mono ?_
  rintro _ w2 ⟨p, d, rfl, hp2, E2, hd2, N2⟩
  go_wp2_with fail
  generalize hw3 : World.alloc w2 _ = wr
  have HC : Hid (At9 wr w2.heap.size 24 (.int .i64 0) (.slice none 0 0) (.int .i64 0) (.int .i64 0) (.int .i64 0) (.slice none 0 0) (.slice none 0 0) (.slice none 0 0) (.slice none 0 0)) := Lib.hid (by rw [← hw3]; exact heap_alloc_new _ _)
  have N3 : New w2 wr := by rw [← hw3]; exact (Below.refl _ _).alloc (Nat.le_refl _) _
  have hz3 : wr.heap.size = w2.heap.size + 1 := by rw [← hw3]; simp
  clear hw3
  have hz2 := N2.size
  have hpl : p < w2.heap.size := by obtain ⟨v, hv, -⟩ := E2; exact lt_of_block hv
  obtain ⟨w3, hw3⟩ : ∃ w3, wr = w3 := ⟨_, rfl⟩
  have HG3 : Hid (At9 w3 w.heap.size 24 (.int .i64 0) (.slice none 0 0) (.int .i64 0) (.int .i64 0) (.int .i64 0) (.slice none 0 0) (.slice none 0 0) (.slice none 0 0) (.slice none 0 0)) := Lib.hid (by rw [← hw3]; exact (HG1.out.new N2).new N3)
  have NN3 : New w w3 := by rw [← hw3]; exact New.trans (New.trans N1 N2) N3
  have HI : Hid (St w3 wr w2.heap.size p d (w.heap.size + 1) (l, 0) []) := Lib.hid ⟨E2.new N3, by rw [← hw3]; exact Only.refl _ _, by simp, by simp, by omega, fun k hk => by have := hd2 k hk; omega, by omega⟩
  have hg0 : ¬ (w.heap.size = w2.heap.size ∨ w.heap.size = p) := by omega
  have hgg0 : ¬ (w2.heap.size = w.heap.size) := by omega
  have hbg : w.heap.size ≤ w2.heap.size := by omega
  have hbp : w.heap.size ≤ p := by omega
  have hb0 : w.heap.size ≤ w.heap.size := Nat.le_refl _
  have hg0lt : w.heap.size < w.heap.size + 1 := by omega
  clear hz1 hz2 hz3 hpl hp2 hd2 E2 N1 N2 N3 HG1 hw3 HX
  obtain ⟨g, hg⟩ : ∃ g, w2.heap.size = g := ⟨_, rfl⟩
  rw [hg] at HC HI hg0 hgg0 hbg
  rw [hg]
  clear hg
  obtain ⟨g0, hg⟩ : ∃ g, w.heap.size = g := ⟨_, rfl⟩
  obtain ⟨B, hB⟩ : ∃ B, w.heap.size + 1 = B := ⟨_, rfl⟩
  rw [hB] at HI hg0lt
  rw [hg] at HG3 hg0 hgg0 hg0lt
  rw [hg]
  have hb0 : w.heap.size ≤ g0 := by omega
  clear hg hB
  refine (eyeU8 wr p d l 0 HI.out.eye).mono ?_
  rintro _ wn ⟨rfl, E⟩
  rw [← rs1_eq] at E
  rw [← rK_eq]
  replace HC := Lib.hid (HC.out.only E.2 HI.out.gp)
  replace HI := Lib.hid (HI.out.step E)
  clear E wr
  rename World => wr
  obtain ⟨x0, -, -, -, -, -, -, -, -⟩ := HC.out.cells
  obtain ⟨y0, -, -, -, -, -, -, -, -⟩ := HC.out.frozen
  go_wp2_with fail
  clear x0 y0
  replace HC := Lib.hid (HC.out.set0 (.int .i64 (rK l : Int)))
  replace HI := Lib.hid (HI.out.set 0 (.int .i64 (rK l : Int)))
  generalize wr.setCell ⟨g, 0, none⟩ (.int .i64 (rK l : Int)) = ws at *
  clear wr
  rename World => wr
  refine (eyeShort wr p d (rs1 l).1 (rs1 l).2 16 HI.out.eye (Nat.le_trans (rs1_len l) HB.out)).mono ?_
  rintro _ wn ⟨a1, n1, c1, rfl, r, o, E⟩
  rw [← rs2_eq] at E
  rw [← rG_eq] at r o
  replace HC := Lib.hid (HC.out.only E.2 HI.out.gp)
  replace HI := Lib.hid (HI.out.add E r o)
  clear E r o wr
  rename World => wr
  obtain ⟨-, x0, -, -, -, -, -, -, -⟩ := HC.out.cells
  obtain ⟨-, y0, -, -, -, -, -, -, -⟩ := HC.out.frozen
  go_wp2_with fail
  clear x0 y0
  replace HC := Lib.hid (HC.out.set1 (.slice a1 n1 c1))
  replace HI := Lib.hid (HI.out.set 1 (.slice a1 n1 c1))
  generalize wr.setCell ⟨g, 1, none⟩ (.slice a1 n1 c1) = ws at *
  clear wr
  rename World => wr
  refine (eyeU64 wr p d (rs2 l).1 (rs2 l).2 HI.out.eye).mono ?_
  rintro _ wn ⟨rfl, E⟩
  rw [← rs3_eq] at E
  rw [← rE_eq]
  replace HC := Lib.hid (HC.out.only E.2 HI.out.gp)
  replace HI := Lib.hid (HI.out.step E)
  clear E wr
  rename World => wr
  obtain ⟨-, -, x0, -, -, -, -, -, -⟩ := HC.out.cells
  obtain ⟨-, -, y0, -, -, -, -, -, -⟩ := HC.out.frozen
  go_wp2_with fail
  clear x0 y0
  replace HC := Lib.hid (HC.out.set2 (.int .i64 (wrap64 (rE l : Int))))
  replace HI := Lib.hid (HI.out.set 2 (.int .i64 (wrap64 (rE l : Int))))
  generalize wr.setCell ⟨g, 2, none⟩ (.int .i64 (wrap64 (rE l : Int))) = ws at *
  clear wr
  rename World => wr
  refine (eyeU64 wr p d (rs3 l).1 (rs3 l).2 HI.out.eye).mono ?_
  rintro _ wn ⟨rfl, E⟩
  rw [← rs4_eq] at E
  rw [← rT_eq]
  replace HC := Lib.hid (HC.out.only E.2 HI.out.gp)
  replace HI := Lib.hid (HI.out.step E)
  clear E wr
  rename World => wr
  obtain ⟨-, -, -, x0, -, -, -, -, -⟩ := HC.out.cells
  obtain ⟨-, -, -, y0, -, -, -, -, -⟩ := HC.out.frozen
  go_wp2_with fail
  clear x0 y0
  replace HC := Lib.hid (HC.out.set3 (.int .i64 (wrap64 (rT l : Int))))
  replace HI := Lib.hid (HI.out.set 3 (.int .i64 (wrap64 (rT l : Int))))
  generalize wr.setCell ⟨g, 3, none⟩ (.int .i64 (wrap64 (rT l : Int))) = ws at *
  clear wr
  rename World => wr
  refine (eyeU64 wr p d (rs4 l).1 (rs4 l).2 HI.out.eye).mono ?_
  rintro _ wn ⟨rfl, E⟩
  rw [← rs5_eq] at E
  rw [← rB_eq]
  replace HC := Lib.hid (HC.out.only E.2 HI.out.gp)
  replace HI := Lib.hid (HI.out.step E)
  clear E wr
  rename World => wr
  obtain ⟨-, -, -, -, x0, -, -, -, -⟩ := HC.out.cells
  obtain ⟨-, -, -, -, y0, -, -, -, -⟩ := HC.out.frozen
  go_wp2_with fail
  clear x0 y0
  replace HC := Lib.hid (HC.out.set4 (.int .i64 (wrap64 (rB l : Int))))
  replace HI := Lib.hid (HI.out.set 4 (.int .i64 (wrap64 (rB l : Int))))
  generalize wr.setCell ⟨g, 4, none⟩ (.int .i64 (wrap64 (rB l : Int))) = ws at *
  clear wr
  rename World => wr
  refine (eyeLong wr p d (rs5 l).1 (rs5 l).2 60000 HI.out.eye (Nat.le_trans (rs5_len l) HB.out)).mono ?_
  rintro _ wn ⟨a5, n5, c5, rfl, r, o, E⟩
  rw [← rs6_eq] at E
  rw [← rY_eq] at r o
  replace HC := Lib.hid (HC.out.only E.2 HI.out.gp)
  replace HI := Lib.hid (HI.out.add E r o)
  clear E r o wr
  rename World => wr
  obtain ⟨-, -, -, -, -, x0, -, -, -⟩ := HC.out.cells
  obtain ⟨-, -, -, -, -, y0, -, -, -⟩ := HC.out.frozen
  go_wp2_with fail
  clear x0 y0
  replace HC := Lib.hid (HC.out.set5 (.slice a5 n5 c5))
  replace HI := Lib.hid (HI.out.set 5 (.slice a5 n5 c5))
  generalize wr.setCell ⟨g, 5, none⟩ (.slice a5 n5 c5) = ws at *
  clear wr
  rename World => wr
  refine (eyeShort wr p d (rs6 l).1 (rs6 l).2 32 HI.out.eye (Nat.le_trans (rs6_len l) HB.out)).mono ?_
  rintro _ wn ⟨a6, n6, c6, rfl, r, o, E⟩
  rw [← rs7_eq] at E
  rw [← rTr_eq] at r o
  replace HC := Lib.hid (HC.out.only E.2 HI.out.gp)
  replace HI := Lib.hid (HI.out.add E r o)
  clear E r o wr
  rename World => wr
  obtain ⟨-, -, -, -, -, -, x0, -, -⟩ := HC.out.cells
  obtain ⟨-, -, -, -, -, -, y0, -, -⟩ := HC.out.frozen
  go_wp2_with fail
  clear x0 y0
  replace HC := Lib.hid (HC.out.set6 (.slice a6 n6 c6))
  replace HI := Lib.hid (HI.out.set 6 (.slice a6 n6 c6))
  generalize wr.setCell ⟨g, 6, none⟩ (.slice a6 n6 c6) = ws at *
  clear wr
  rename World => wr
  refine (eyeShort wr p d (rs7 l).1 (rs7 l).2 32 HI.out.eye (Nat.le_trans (rs7_len l) HB.out)).mono ?_
  rintro _ wn ⟨a7, n7, c7, rfl, r, o, E⟩
  rw [← rs8_eq] at E
  rw [← rSc_eq] at r o
  replace HC := Lib.hid (HC.out.only E.2 HI.out.gp)
  replace HI := Lib.hid (HI.out.add E r o)
  clear E r o wr
  rename World => wr
  obtain ⟨-, -, -, -, -, -, -, x0, -⟩ := HC.out.cells
  obtain ⟨-, -, -, -, -, -, -, y0, -⟩ := HC.out.frozen
  go_wp2_with fail
  clear x0 y0
  replace HC := Lib.hid (HC.out.set7 (.slice a7 n7 c7))
  replace HI := Lib.hid (HI.out.set 7 (.slice a7 n7 c7))
  generalize wr.setCell ⟨g, 7, none⟩ (.slice a7 n7 c7) = ws at *
  clear wr
  rename World => wr
  refine (eyeShort wr p d (rs8 l).1 (rs8 l).2 48 HI.out.eye (Nat.le_trans (rs8_len l) HB.out)).mono ?_
  rintro _ wn ⟨a8, n8, c8, rfl, r, o, E⟩
  rw [← rs9_eq] at E
  rw [← rWr_eq] at r o
  replace HC := Lib.hid (HC.out.only E.2 HI.out.gp)
  replace HI := Lib.hid (HI.out.add E r o)
  clear E r o wr
  rename World => wr
  obtain ⟨-, -, -, -, -, -, -, -, x0⟩ := HC.out.cells
  obtain ⟨-, -, -, -, -, -, -, -, y0⟩ := HC.out.frozen
  go_wp2_with fail
  clear x0 y0
  replace HC := Lib.hid (HC.out.set8 (.slice a8 n8 c8))
  replace HI := Lib.hid (HI.out.set 8 (.slice a8 n8 c8))
  generalize wr.setCell ⟨g, 8, none⟩ (.slice a8 n8 c8) = ws at *
  clear wr
  rename World => wr
  refine (eyeEnd wr p d _ _ HI.out.eye).mono ?_
  rintro _ _ ⟨rfl, rfl⟩
  rw [← rErr_eq]
  have HG : Hid (At9 wr g0 24 (.int .i64 0) (.slice none 0 0) (.int .i64 0) (.int .i64 0) (.int .i64 0) (.slice none 0 0) (.slice none 0 0) (.slice none 0 0) (.slice none 0 0)) := Lib.hid (HG3.out.only HI.out.only hg0)
  have HNN : Hid (∀ a b c d e f h i j, New w (put9 wr g0 a b c d e f h i j)) := Lib.hid fun a b c d e f h i j => (NN3.trans' HI.out.only hbg hbp).putAt hb0 a b c d e f h i j
  by_cases he : rErr l = 0
  rotate_left
  · have de : (rErr l != 0) = true := by simpa using he
    have HZ : Hid (rOut l = RecL.zero ∧ rOutErr l = rErr l) := Lib.hid ⟨if_neg he, if_neg he⟩
    obtain ⟨z0, z1, z2, z3, z4, z5, z6, z7, z8⟩ := HG.out.cells
    obtain ⟨u0, u1, u2, u3, u4, u5, u6, u7, u8⟩ := HG.out.frozen
    clear he
    go_wp2
    refine bodyPost_ret (results_cell_tmp rfl _ _ g0 _ _ _ _ rfl (HG.out.put _ _ _ _ _ _ _ _ _) Tryd.underlying24 rfl (by kernel_rfl)) rfl ?_
    exact ⟨⟨.slice none 0 0, .slice none 0 0, .slice none 0 0, .slice none 0 0, .slice none 0 0⟩, by rw [HZ.out.1, HZ.out.2]; rfl, by rw [HZ.out.1]; exact ⟨Rd.nil _, Rd.nil _, Rd.nil _, Rd.nil _, Rd.nil _⟩, HNN.out _ _ _ _ _ _ _ _ _⟩
  have de : (rErr l != 0) = false := by rw [he]; rfl
  obtain ⟨x0, x1, x2, x3, x4, x5, x6, x7, x8⟩ := HC.out.cells
  have L1 := (HI.out.got (.slice a1 n1 c1, rG l) (by simp) : Sl wr g p (.slice a1 n1 c1) (rG l))
  have L5 := (HI.out.got (.slice a5 n5 c5, rY l) (by simp) : Sl wr g p (.slice a5 n5 c5) (rY l))
  have L6 := (HI.out.got (.slice a6 n6 c6, rTr l) (by simp) : Sl wr g p (.slice a6 n6 c6) (rTr l))
  have L7 := (HI.out.got (.slice a7 n7 c7, rSc l) (by simp) : Sl wr g p (.slice a7 n7 c7) (rSc l))
  have L8 := (HI.out.got (.slice a8 n8 c8, rWr l) (by simp) : Sl wr g p (.slice a8 n8 c8) (rWr l))
  have HRR : Hid (RecR wr ⟨.slice a1 n1 c1, .slice a5 n5 c5, .slice a6 n6 c6, .slice a7 n7 c7, .slice a8 n8 c8⟩ (rRaw l)) := Lib.hid ⟨L1.1, L5.1, L6.1, L7.1, L8.1⟩
  have HOK : Hid (rOk (rK l : Int) n1 (wrap64 (rE l : Int)) (wrap64 (rT l : Int)) (wrap64 (rB l : Int)) n5 n6 n7 n8 = (rRaw l).ok) := Lib.hid (by unfold RecL.ok rRaw; dsimp only; rw [L1.1.len, L5.1.len, L6.1.len, L7.1.len, L8.1.len])
  have HOUT : Hid (∀ o, (rRaw l).ok = o → rOut l = (if o = true then rRaw l else RecL.zero) ∧ rOutErr l = (if o = true then 0 else 12)) := Lib.hid (by rintro o rfl; exact ⟨if_pos he, if_pos he⟩)
  have HQ : Hid (¬ (g = g0) ∧ ∀ x ∈ [((.slice a1 n1 c1 : Value), rG l), (.slice a5 n5 c5, rY l), (.slice a6 n6 c6, rTr l), (.slice a7 n7 c7, rSc l), (.slice a8 n8 c8, rWr l)], ∀ k, blk x.1 = some k → x.2 ≠ [] → ¬ k = g0) := Lib.hid ⟨hgg0, by
    intro x hx k hk hne e
    exact HI.out.far x (by simp only [List.mem_cons, List.not_mem_nil, or_false] at hx ⊢; rcases hx with h | h | h | h | h <;> simp [h]) k hk hne (by rw [e]; exact hg0lt)⟩
  have HRI := Lib.hid (recRight wr (rK l : Int) (wrap64 (rE l : Int)) (wrap64 (rT l : Int)) (wrap64 (rB l : Int)) a1 a5 a6 a7 a8 n1 c1 n5 c5 n6 c6 n7 c7 n8 c8)
  rw [HOK.out] at HRI
  clear L1 L5 L6 L7 L8 he HOK
  have NNr := NN3.trans' HI.out.only hbg hbp
  clear HNN
  go_wp2_with fail
  refine HRI.out.mono ?_
  rintro _ ws ⟨rfl, Ns⟩
  clear HRI x0 x1 x2 x3 x4 x5 x6 x7 x8
  have HGs := Lib.hid (HG.out.new Ns)
  have HCs := Lib.hid (HC.out.new Ns)
  have HRs := Lib.hid (HRR.out.new Ns)
  have NNs := New.trans NNr Ns
  have HNN : Hid (∀ a b c d e f h i j, New w (put9 ws g0 a b c d e f h i j)) := Lib.hid fun a b c d e f h i j => New.putAt NNs hb0 a b c d e f h i j
  clear HG HC HRR Ns NNr NNs HI
  obtain ⟨o, ho⟩ : ∃ o, (rRaw l).ok = o := ⟨_, rfl⟩
  have HZ := Lib.hid (HOUT.out o ho)
  rw [ho]
  clear ho HOUT
  obtain ⟨z0, z1, z2, z3, z4, z5, z6, z7, z8⟩ := HGs.out.cells
  obtain ⟨u0, u1, u2, u3, u4, u5, u6, u7, u8⟩ := HGs.out.frozen
  cases o
  · rw [if_neg (by decide), if_neg (by decide)] at HZ
    go_wp2
    refine bodyPost_ret (results_cell_tmp rfl _ _ g0 _ _ _ _ rfl (HGs.out.put _ _ _ _ _ _ _ _ _) Tryd.underlying24 rfl (by kernel_rfl)) rfl ?_
    exact ⟨⟨.slice none 0 0, .slice none 0 0, .slice none 0 0, .slice none 0 0, .slice none 0 0⟩, by rw [HZ.out.1, HZ.out.2]; rfl, by rw [HZ.out.1]; exact ⟨Rd.nil _, Rd.nil _, Rd.nil _, Rd.nil _, Rd.nil _⟩, HNN.out _ _ _ _ _ _ _ _ _⟩
  rw [if_pos rfl, if_pos rfl] at HZ
  obtain ⟨x0, x1, x2, x3, x4, x5, x6, x7, x8⟩ := HCs.out.cells
  go_wp2
  refine bodyPost_ret (results_cell_tmp rfl _ _ g0 _ _ _ _ rfl (HGs.out.put _ _ _ _ _ _ _ _ _) Tryd.underlying24 rfl (by kernel_rfl)) rfl ?_
  refine ⟨⟨.slice a1 n1 c1, .slice a5 n5 c5, .slice a6 n6 c6, .slice a7 n7 c7, .slice a8 n8 c8⟩, by rw [HZ.out.1, HZ.out.2]; rfl, ?_, HNN.out _ _ _ _ _ _ _ _ _⟩
  rw [HZ.out.1]
  have hq := HQ.out.2
  exact ⟨HRs.out.g.only (put9_only _ _ _ _ _ _ _ _ _ _ _) (hq (.slice a1 n1 c1, rG l) (by simp)), HRs.out.y.only (put9_only _ _ _ _ _ _ _ _ _ _ _) (hq (.slice a5 n5 c5, rY l) (by simp)), HRs.out.tr.only (put9_only _ _ _ _ _ _ _ _ _ _ _) (hq (.slice a6 n6 c6, rTr l) (by simp)), HRs.out.sc.only (put9_only _ _ _ _ _ _ _ _ _ _ _) (hq (.slice a7 n7 c7, rSc l) (by simp)), HRs.out.wr.only (put9_only _ _ _ _ _ _ _ _ _ _ _) (hq (.slice a8 n8 c8, rWr l) (by simp))⟩

end Go.Proofs.YtjekbolfaakmbaaDoor
