/-
  The iterator's own step: bytes are copied into its block. Plain lemmas.
  sha.blocks and its iterator: the padded parts, block by block.
  sha.Sum: the digest of the parts.
  sha.Sum of one slice, as a caller writes it.
-/
import Derived.Test.YtliojldkdmaofaaDoorShaA
import Derived.Test.YtliojldkdmaofaaDoorBase
import Derived.Shelf.Abstract
import Derived.OrdersIn
namespace Go.Proofs.YtliojldkdmaofaaDoor
set_option linter.unusedVariables false
set_option linter.unusedSimpArgs false
open Go.RowKit

/-- between two steps of the iterator: c bytes have come; B: its block -/
structure ItIn (A : List UInt8) (v : Value) (ps : List (Value × List UInt8)) (J : Nat → World → Prop) (n1 B c : Nat) (wr : World) : Prop where
  rd : RdL wr v ps
  buf : ∃ buf : List UInt8, wr.heap[B]? = some (.cells (buf.map bv).toArray 75) ∧ buf.length = 64 ∧ buf.take (c % 64) = (A.drop (64 * (c / 64))).take (c % 64)
  j : J (c / 64) wr
  size : n1 ≤ wr.heap.size

theorem allOf_drop (ps : List (Value × List UInt8)) (k : Nat) (p : Value × List UInt8) (h : ps[k]? = some p) : ((allOf ps).drop (allOf (ps.take k)).length).take p.2.length = p.2 := by
  have e : allOf ps = allOf (ps.take k) ++ (p.2 ++ allOf (ps.drop (k + 1))) := by
    have h1 : ps = ps.take (k + 1) ++ ps.drop (k + 1) := (List.take_append_drop _ _).symm
    conv => lhs; rw [h1]
    rw [allOf_append, allOf_take ps k p h, List.append_assoc]
  rw [e, List.drop_left, List.take_left]

theorem splice_map (buf q : List UInt8) (x : Nat) : (buf.map bv).take x ++ (q.map bv ++ (buf.map bv).drop (x + (q.map bv).length)) = (buf.take x ++ (q ++ buf.drop (x + q.length))).map bv := by
  simp

theorem buf_step (A buf q : List UInt8) (c x k m : Nat) (hx : x = c % 64) (hk : k = c / 64) (hl : buf.length = 64) (hb : buf.take x = (A.drop (64 * k)).take x) (hq : q.length = m) (hA : (A.drop c).take m = q) (hm : x + m ≤ 64) :
    (buf.take x ++ (q ++ buf.drop (x + q.length))).length = 64 ∧ (buf.take x ++ (q ++ buf.drop (x + q.length))).take (x + m) = (A.drop (64 * k)).take (x + m) := by
  have hc : c = 64 * k + x := by omega
  refine ⟨by simp; omega, ?_⟩
  have h1 : (buf.take x).length = x := by simp; omega
  rw [← List.append_assoc, List.take_append_of_le_length (by simp; omega), List.take_of_length_le (by simp; omega), hb, List.take_add, List.drop_drop, ← hc, hA]

set_option maxRecDepth 100000 in
/-- copy(block[x:], part) -/
theorem copyIn {A : List UInt8} {v : Value} {ps : List (Value × List UInt8)} {J : Nat → World → Prop} {n1 B c : Nat} {wr : World} (h : ItIn A v ps J n1 B c wr) (hB : n1 ≤ B)
    (hJ : ∀ k A B, J k A → Below n1 A B → J k B) (h1 : ∀ k, blk v = some k → ps ≠ [] → k ≠ B) (h2 : ∀ p ∈ ps, ∀ k, blk p.1 = some k → p.2 ≠ [] → k ≠ B)
    {a : Option Addr} {len cap : Nat} {q : List UInt8} (hq : Rd wr (.slice a len cap) q) (hne : 0 < len) (hqb : ∀ k, blk (.slice a len cap) = some k → k ≠ B) (hA : (A.drop c).take len = q) :
    ∃ m w2, 0 < m ∧ m ≤ len ∧ c % 64 + m ≤ 64 ∧ (m = len ∨ c % 64 + m = 64) ∧ (Builtin.copy_ #[22, 22] 3 #[.slice (some ⟨B, c % 64, none⟩) (64 - c % 64) (64 - c % 64), .slice a len cap]).run Tryd.prog wr = .ok (.int .i64 (m : Int)) w2 ∧
      Below n1 wr w2 ∧ RdL w2 v ps ∧ Rd w2 (.slice a len cap) q ∧ (∃ buf : List UInt8, w2.heap[B]? = some (.cells (buf.map bv).toArray 75) ∧ buf.length = 64 ∧ buf.take (c % 64 + m) = (A.drop (64 * (c / 64))).take (c % 64 + m)) ∧ J (c / 64) w2 ∧ n1 ≤ w2.heap.size := by
  obtain ⟨buf, hbuf, hbl, hbt⟩ := h.buf
  have hx : c % 64 < 64 := Nat.mod_lt _ (by decide)
  have hlen := hq.len
  obtain ⟨m, hm⟩ : ∃ m, m = Nat.min len (64 - c % 64) := ⟨_, rfl⟩
  have hm1 : m ≤ len := by rw [hm]; exact Nat.min_le_left _ _
  have hm2 : m ≤ 64 - c % 64 := by rw [hm]; exact Nat.min_le_right _ _
  have hm3 : m = len ∨ m = 64 - c % 64 := by rw [hm]; show min len _ = _ ∨ min len _ = _; omega
  have hq' := hq
  obtain ⟨a', n', c', e, g1, g2, g3, g4, g5⟩ := hq'
  cases e
  cases a with
  | none => have := (g4 rfl).1; omega
  | some ad =>
    have hqm : (q.take m).length = m := by rw [List.length_take, hlen]; omega
    have hrun := run_copy_row (P := Tryd.prog) wr 22 22 3 5 B (c % 64) (64 - c % 64) (64 - c % 64) ad len cap (buf.map bv).toArray 75 ((q.take m).map bv) Tryd.underlying22 (by kernel_rfl) hbuf (by rw [List.length_map, hqm, hm])
      (fun j y hj => by
        rw [List.getElem?_map, List.getElem?_take] at hj
        split at hj
        · cases hb : q[j]? with
          | none => rw [hb] at hj; cases hj
          | some b => rw [hb] at hj; cases hj; exact g5 ad rfl j b hb
        · cases hj) (by simp [hqm, hbl]; omega) (oneCell_bv _)
    simp only at hrun
    have hst := buf_step A buf (q.take m) c (c % 64) (c / 64) m rfl rfl hbl hbt hqm (by rw [← hA, List.take_take]; congr 1; omega) (by omega)
    have ho : Only (fun k => k = B) wr (wr.setRow B (List.take (c % 64) (buf.map bv) ++ ((q.take m).map bv ++ List.drop (c % 64 + ((q.take m).map bv).length) (buf.map bv))).toArray) :=
      ⟨rfl, rfl, rfl, by simp, fun k _ hk => setRow_other _ _ _ _ hk⟩
    have hbel : Below n1 wr (wr.setRow B (List.take (c % 64) (buf.map bv) ++ ((q.take m).map bv ++ List.drop (c % 64 + ((q.take m).map bv).length) (buf.map bv))).toArray) := below_setRow (Below.refl _ _) hB _
    refine ⟨m, _, by omega, hm1, by omega, by omega, ?_, hbel, h.rd.only ho (fun k hk hn => h1 k hk hn) (fun p hp k hk hn => h2 p hp k hk hn), hq.only ho (fun k hk _ => hqb k hk), ⟨_, ?_, hst.1, hst.2⟩, hJ _ _ _ h.j hbel, by have := h.size; simpa using this⟩
    · rw [hrun, List.append_assoc, List.length_map, hqm]; rfl
    · rw [setRow_heap _ _ _ _ _ _ hbuf, splice_map]

end Go.Proofs.YtliojldkdmaofaaDoor

namespace Go.Proofs.YtliojldkdmaofaaDoor
set_option linter.unusedVariables false
set_option linter.unusedSimpArgs false
open Go.RowKit Go.Shelf

attribute [local go_sem] Oper.semAt_some

/-- block[l:] of an array behind a pointer -/
theorem run_slice64_from (wx : World) (p l : Nat) (hl : l < 64) :
    (Instr.sliceAt 75 (.pointer (some ⟨p, 0, none⟩)) (some (.int .i64 (l : Int))) none none).run Tryd.prog wx = .ok (.slice (some ⟨p, l, none⟩) (64 - l) (64 - l)) wx := by
  rw [run_sliceAt_array_l wx _ _ arr64 .i64 _ (by omega) (by rw [arr64_len]; omega), arr64_size, arr64_len]
  simp only [Result.andThen_ok, slicedAt, Int.toNat_natCast, Nat.mul_one]
  rw [if_neg (by omega), Addr.add_lit, Nat.zero_add]

theorem slice22 : Tryd.prog.underlying 22 = some (.slice (Tryd.prog.elem 22)) := by kernel_rfl
theorem slice22_size (w : World) : (sizeOf (Tryd.prog.elem 22)).run Tryd.prog w = .ok 1 w := by kernel_rfl

set_option maxRecDepth 100000 in
set_option maxHeartbeats 1000000 in
theorem shaIter (n l n1 Bs : Nat) (E : Nat → Prop) (A : List UInt8) (v : Value) (ps : List (Value × List UInt8)) (hA : Hid (allOf ps = A)) (hmod : Hid (A.length % 64 = 0)) (J : Nat → World → Prop)
    (hJ : ∀ k A B, J k A → Below n1 A B → J k B) (hE : ∀ i, E i → i < n1)
    (hY : ∀ k W1, k < A.length / 64 → J k W1 → n1 ≤ W1.heap.size → YieldAt Fence.wide (n - 1) Tryd.prog l #[.agg ((chunk A k).map bv).toArray] W1 fun e W' => e = .returned (.bool true) ∧ J (k + 1) W' ∧ Only E W1 W')
    (W : World) (hW : n1 ≤ W.heap.size) (hBs : W.cell? ⟨Bs, 0, none⟩ = some v) (hv : RdL W v ps)
    (hf1 : ∀ k, blk v = some k → ps ≠ [] → ¬ E k) (hf2 : ∀ p ∈ ps, ∀ k, blk p.1 = some k → p.2 ≠ [] → ¬ E k) (hps : ps.length ≤ 1000000) (h0 : J 0 W) :
    CallsIn Fence.wide n Tryd.prog 55 #[.func (.yield l) #[] #[], .pointer (some ⟨Bs, 0, none⟩)] W fun e W' => (∃ v, e = .returned v) ∧ J (A.length / 64) W' := by
  have hv' := hv.1
  obtain ⟨a, np, c, rfl, hl, hnc, hcm, _, _⟩ := hv'
  rw [List.length_map] at hl
  have HL := Lib.hid hl
  have hnp : np ≤ 1000000 := by omega
  have HV := Lib.hid hv
  have HJ := Lib.hid hJ
  have HE := Lib.hid hE
  have HY := Lib.hid hY
  have HF1 := Lib.hid hf1
  have HF2 := Lib.hid hf2
  clear hl hv hJ hE hY hf1 hf2
  refine callsIn_of_wp Tryd.func55 rfl trivial ?_ rfl
  simp only [Tryd.ntmps55, List.size_toArray, List.length_cons, List.length_nil, Nat.reduceAdd, Nat.reduceSub, Array.replicate_succ, Array.replicate_zero, List.push_toArray, List.append_toArray, List.nil_append, List.cons_append]
  have hBlt : Bs < W.heap.size := block_lt_of_cell hBs
  have hBne : Bs ≠ W.heap.size := by omega
  gi_wp2
  gi_loopw [4, 10] (fun u i wr => ∃ k : Nat, k ≤ np ∧ i = .int .i64 k ∧ u = .int .i64 (((allOf (ps.take k)).length % 64 : Nat) : Int) ∧ ItIn A (.slice a np c) ps J n1 W.heap.size (allOf (ps.take k)).length wr) (fun _ i _ => np - (intOf i).toNat)
  case atStart =>
    refine ⟨0, Nat.zero_le _, rfl, rfl, ?_⟩
    rw [show allOf (ps.take 0) = [] from rfl]
    refine ⟨HV.out.new ((Below.refl _ _).alloc (Nat.le_refl _) _), ⟨List.replicate 64 0, ?_, rfl, ?_⟩, HJ.out 0 _ _ h0 ((Below.refl _ _).alloc hW _), by simp; omega⟩
    · rw [heap_alloc_new]; rfl
    · simp [allOf]
  case round =>
    obtain ⟨k, hk, rfl, rfl, hin⟩ := hrel
    by_cases hlt : k < np
    · obtain ⟨b, off, rfl, hcell⟩ := hin.rd.1.cell (by omega)
      obtain ⟨p, hp⟩ : ∃ p, ps[k]? = some p := ⟨_, List.getElem?_eq_getElem (by rw [HL.out]; exact hlt)⟩
      have hpm := List.mem_of_getElem? hp
      have hck := hcell k p.1 (by rw [List.getElem?_map, hp]; rfl)
      clear hcell
      have hrp := hin.rd.2 p hpm
      have hrp' := hrp
      obtain ⟨ap, mp, cp, ep, hpl, hpc, hpx, _⟩ := hrp'
      rw [ep] at hck hrp
      have HT := Lib.hid (allOf_take ps k p hp)
      have HD : Hid ((A.drop (allOf (ps.take k)).length).take mp = p.2) := by
        show _ = _
        rw [← hA.out, ← hpl]; exact allOf_drop ps k p hp
      have HQB : Hid (∀ j, blk p.1 = some j → p.2 ≠ [] → j ≠ W.heap.size ∧ ¬ E j) := fun j hj hne => ⟨by have := (HV.out.2 p hpm).lt hj hne; omega, HF2.out p hpm j hj hne⟩
      obtain ⟨c0, HC0⟩ : ∃ c0, Hid ((allOf (ps.take k)).length = c0) := ⟨_, Lib.hid rfl⟩
      rw [HC0.out] at hin ⊢
      have HEP := Lib.hid ep
      have HPL := Lib.hid hpl
      have HIN := Lib.hid hin
      have HRP := Lib.hid hrp
      unfold maxLen at hpx
      clear hp hpl ep hin hrp
      gi_wp2
      gi_loopw [4, 6, 7] (fun u s _ wr => ∃ (d : Nat) (a' : Option Addr), d ≤ mp ∧ s = .slice a' (mp - d) (cp - d) ∧ (∀ x y, blk (.slice a' x y) = blk p.1) ∧ Rd wr (.slice a' (mp - d) (cp - d)) (p.2.drop d) ∧ u = .int .i64 (((c0 + d) % 64 : Nat) : Int) ∧ ItIn A (.slice (some ⟨b, off, none⟩) np c) ps J n1 W.heap.size (c0 + d) wr) (fun _ s _ _ => match s with | .slice _ m _ => m | _ => 0)
      case atStart => exact ⟨0, ap, Nat.zero_le _, rfl, fun x y => by rw [HEP.out]; exact blk_slice _ _ _ _ _, HRP.out, rfl, HIN.out⟩
      case round =>
        obtain ⟨d, a', hd, rfl, hbs, hrd, rfl, hin⟩ := hrel
        by_cases hlt2 : d < mp
        · have hdl : (A.drop (c0 + d)).take (mp - d) = p.2.drop d := by
            rw [← HD.out, List.drop_take, List.drop_drop, HC0.out]
          obtain ⟨m, w2, hm0, hm1, hm2, hm3, hcopy, hbel, hrd2, hq2, ⟨buf, hbuf, hbl, hbt⟩, hj2, hs2⟩ := copyIn hin hW HJ.out (fun j hj hne => by have := HV.out.1.lt hj (by simpa using hne); omega) (fun p' hp' j hj hne => by have := (HV.out.2 p' hp').lt hj hne; omega) hrd (by omega) (fun j hj => (HQB.out j (by rw [← hbs]; exact hj) (by rw [← HPL.out] at hlt2; intro e; rw [e] at hlt2; simp at hlt2)).1) hdl
          obtain ⟨a2, hsl2, hbs2, hrd3⟩ := run_slice_from slice22 slice22_size a' (mp - d) (cp - d) m hm1 (by omega)
          have hrd4 := hrd3 _ _ hq2
          rw [List.drop_drop, show mp - d - m = mp - (d + m) by omega, show cp - d - m = cp - (d + m) by omega] at hrd4
          rw [show mp - d - m = mp - (d + m) by omega, show cp - d - m = cp - (d + m) by omega] at hsl2
          have HRD := Lib.hid hrd4
          have HBL := Lib.hid hbl
          have HBT := Lib.hid hbt
          have HR2 := Lib.hid hrd2
          have HBS : Hid (∀ x y, blk (.slice a2 x y) = blk p.1) := fun x y => (hbs2 x y).trans (hbs x y)
          have HNE : Hid (p.2 ≠ []) := by
            intro e
            have := HPL.out
            rw [e] at this
            simp at this
            omega
          have hx : (c0 + d) % 64 < 64 := Nat.mod_lt _ (by decide)
          have HX : Hid (∃ q, c0 + d = 64 * q + (c0 + d) % 64 ∧ (c0 + d) / 64 = q) := ⟨_, (Nat.div_add_mod _ _).symm, rfl⟩
          have hsl := fun wx => run_slice64_from wx W.heap.size ((c0 + d) % 64) hx
          clear hin hrd hq2 hrd2 hdl hbl hbt hrd3 hrd4 hbs hbs2
          generalize (c0 + d) % 64 = x at *
          generalize (c0 + d) / 64 = y at *
          by_cases hfull : x + m = 64
          · have e1 : ((x : Int) + (m : Int)) % 64 = 0 := by omega
            have hbuf' : w2.heap[W.heap.size]? = some (.cells ((chunk A y).map bv).toArray 75) := by
              rw [hbuf]
              have h1 := HBT.out
              rw [hfull, List.take_of_length_le (by rw [HBL.out]; omega)] at h1
              rw [h1]; rfl
            have hcl : ((chunk A y).map bv).toArray.size = 64 := by
              have h1 := HBT.out
              rw [hfull, List.take_of_length_le (by rw [HBL.out]; omega)] at h1
              rw [List.size_toArray, List.length_map]
              show ((A.drop (64 * y)).take 64).length = 64
              rw [← h1, HBL.out]
            have hyl : y < A.length / 64 := by
              have h2 : ((A.drop (64 * y)).take 64).length = 64 := by
                rw [List.size_toArray, List.length_map] at hcl
                exact hcl
              rw [List.length_take, List.length_drop] at h2
              omega
            have HCL := Lib.hid hcl
            have HHB := Lib.hid hbuf'
            obtain ⟨fn, tmps, assign, body, hy, hR⟩ := HY.out y w2 hyl hj2 hs2
            clear hcl hbuf' hbuf hyl
            gi_wp2_with (first | (refine wpListIn_copy (o := ⟨some 20, _, _, _, _, _⟩) rfl _ _ 22 22 rfl _ _ rfl rfl hcopy ?_) | (refine wpListIn_load_row (o := ⟨some 32, _, _, _, _, _⟩) rfl 75 _ rfl W.heap.size rfl _ _ _ _ HHB.out Tryd.underlying75 rfl (by rw [HCL.out]; kernel_rfl) ?_))
            refine ⟨fun h => (by simp [Fence.wide] at h), ?_⟩
            refine hR.mono ?_
            rintro e W3 ⟨rfl, hJ3, ho3⟩
            gi_wp2
            go_roundw
            case rel =>
              obtain ⟨q, hq1, hq2⟩ := HX.out
              refine ⟨d + m, a2, by omega, rfl, HBS.out, ?_, ?_, ?_⟩
              · exact HRD.out.only ho3 (fun j hj _ => (HQB.out j (by rw [← HBS.out]; exact hj) HNE.out).2)
              · rw [show (c0 + (d + m)) % 64 = 0 by omega]; rfl
              · refine ⟨HR2.out.only ho3 (fun j hj hne => HF1.out j hj hne) (fun p' hp' j hj hne => HF2.out p' hp' j hj hne), ⟨chunk A y, ?_, ?_, ?_⟩, ?_, Nat.le_trans hs2 ho3.size⟩
                · exact (ho3.block _ (lt_of_block HHB.out) (fun h => by have := HE.out _ h; omega)).trans HHB.out
                · have := HCL.out; simpa using this
                · rw [show (c0 + (d + m)) % 64 = 0 by omega]; rfl
                · rw [show (c0 + (d + m)) / 64 = y + 1 by omega]; exact hJ3
            case measure => show mp - (d + m) < mp - d; omega
          · have e1 : ((x : Int) + (m : Int)) % 64 = ((x + m : Nat) : Int) := by omega
            have e2 : (((x + m : Nat) : Int) == 0) = false := by simp; omega
            gi_wp2_with (refine wpListIn_copy (o := ⟨some 20, _, _, _, _, _⟩) rfl _ _ 22 22 rfl _ _ rfl rfl hcopy ?_)
            refine ⟨fun _ h => (by cases h), ?_⟩
            gi_wp2
            go_roundw
            case rel =>
              obtain ⟨q, hq1, hq2⟩ := HX.out
              refine ⟨d + m, a2, by omega, rfl, HBS.out, HRD.out, ?_, ?_⟩
              · rw [show (c0 + (d + m)) % 64 = x + m by omega]; go_num
              · refine ⟨HR2.out, ⟨buf, hbuf, HBL.out, ?_⟩, ?_, hs2⟩
                · rw [show (c0 + (d + m)) % 64 = x + m by omega, show (c0 + (d + m)) / 64 = y by omega]; exact HBT.out
                · rw [show (c0 + (d + m)) / 64 = y by omega]; exact hj2
            case measure => show mp - (d + m) < mp - d; omega
        · obtain rfl : d = mp := by omega
          gi_wp2
          go_roundw
          case rel =>
            refine ⟨k + 1, by omega, by go_num, ?_, ?_⟩
            · rw [HT.out, List.length_append, HPL.out, HC0.out]
            · rw [HT.out, List.length_append, HPL.out, HC0.out]; exact hin
          case measure => simp [intOf]; omega
    · obtain rfl : k = np := by omega
      gi_wp2
      go_end0
      refine ⟨⟨_, rfl⟩, ?_⟩
      have h := hin.j
      rw [List.take_of_length_le (by rw [HL.out]; exact Nat.le_refl _), hA.out] at h
      exact h

end Go.Proofs.YtliojldkdmaofaaDoor

namespace Go.Proofs.YtliojldkdmaofaaDoor
set_option linter.unusedVariables false
set_option linter.unusedSimpArgs false
open Go.RowKit Go.Shelf

attribute [local go_sem] Oper.semAt_some

/-- the two tables lie where the program laid them -/
structure Laid (w : World) : Prop where
  ini : ∃ t fr, w.heap[0]? = some (.cells (h0.list.map wv).toArray t fr)
  con : KTab w

theorem Laid.new {w w' : World} (h : Laid w) (hn : New w w') : Laid w' := by
  obtain ⟨t, fr, h1⟩ := h.ini
  exact ⟨⟨t, fr, (hn.block 0 (lt_of_block h1)).trans h1⟩, h.con.new hn⟩

theorem shaBlocks (w : World) (v : Value) (a : Option Addr) (m c : Nat) (hv : v = .slice a m c) :
    Calls Tryd.prog 47 #[v] w fun e w' => e = .returned (.func (.func 55) #[] #[.pointer (some ⟨w.heap.size, 0, none⟩)]) ∧ w' = w.alloc (.cells #[v] 69) := by
  subst hv
  go_enter Tryd.func47, Tryd.ntmps47
  go_wp2
  go_ret
  exact ⟨rfl, rfl⟩

/-- what a round leaves -/
theorem sumRound {w W w' w'' : World} {cs old : Array Value} {t : TypeId} (hI : New w W) (hN : New W.drew w') (hN2 : New w' w'') (h1 : w''.heap[w.heap.size]? = some (.cells old t)) :
    Only (fun i => i = w.heap.size) W (w''.setRow w.heap.size cs) ∧ ((w''.setRow w.heap.size cs).heap[w.heap.size]? = some (.cells cs t) ∧ New w (w''.setRow w.heap.size cs)) := by
  have hd : New W W.drew := (Below.refl _ _).drew
  have h2 : New W w'' := New.trans (New.trans hd hN) hN2
  refine ⟨(New.only (F := fun i => i = w.heap.size) h2).trans (b := w'') (G := fun i => i = w.heap.size) ⟨rfl, rfl, rfl, by simp, fun k _ hk => setRow_other _ _ _ _ hk⟩ (fun _ _ h => h), setRow_heap _ _ _ _ _ _ h1, below_setRow (New.trans hI h2) (Nat.le_refl _) _⟩

/-- arr[t] of an array value of eight words -/
theorem run_index8 (s : H8) (t : Nat) (ht : t < 8) (wx : World) :
    (Instr.index 70 (.agg (s.list.map wv).toArray) (.int .i64 (t : Int))).run Tryd.prog wx = .ok (wv (s.list.getD t 0)) wx := by
  have hu : Tryd.prog.underlying 70 = some (.array 8 62) := by kernel_rfl
  have hs : (sizeOf 62).run Tryd.prog wx = .ok 1 wx := by kernel_rfl
  have ha : (isAgg 62).run Tryd.prog wx = .ok false wx := by kernel_rfl
  have hg : s.list[t]? = some (s.list.getD t 0) := by
    rw [List.getD_eq_getElem?_getD, List.getElem?_eq_getElem (by show t < 8; omega)]; rfl
  have h0 : (0 : Int) ≤ t ∧ (t : Int) < (8 : Nat) := ⟨by omega, by omega⟩
  have hp : (part 62 (s.list.map wv).toArray t).run Tryd.prog wx = .ok (wv (s.list.getD t 0)) wx := by
    unfold part
    rw [Sem.run_bind, ha]
    simp only [Result.andThen_ok, Bool.false_eq_true, if_false, List.getElem?_toArray, List.getElem?_map, hg, Option.map_some, Sem.run_pure]
  unfold Instr.index
  rw [Sem.run_bind]
  simp only [asIntOf, Sem.run_pure, Result.andThen_ok]
  rw [Sem.run_bind, run_underlying hu]
  simp only [Result.andThen_ok, if_pos h0]
  rw [Sem.run_bind, hs]
  simp only [Result.andThen_ok, Int.toNat_natCast, Nat.mul_one]
  exact hp

theorem out_start (W : World) : (W.alloc (.cells #[bv 0, bv 0, bv 0, bv 0, bv 0, bv 0, bv 0, bv 0, bv 0, bv 0, bv 0, bv 0, bv 0, bv 0, bv 0, bv 0, bv 0, bv 0, bv 0, bv 0, bv 0, bv 0, bv 0, bv 0, bv 0, bv 0, bv 0, bv 0, bv 0, bv 0, bv 0, bv 0] 5)).ownsRow W.heap.size 5 1 (.slice (some ⟨W.heap.size, 0, none⟩) 0 32) 0 [] :=
  ⟨rfl, .inr ⟨W.heap.size, 32, _, rfl, Nat.le_refl _, heap_alloc_new _ _, by omega, by simp [maxLen], rfl, rfl⟩⟩

theorem byte32 (x d : Nat) : ((x : Int) / (d : Int)) % 256 = ((UInt8.ofNat (x / d)).toNat : Int) := by
  rw [UInt8.toNat_ofNat']
  show _ = ((x / d % 256 : Nat) : Int)
  rw [Int.natCast_emod, Int.natCast_ediv]
  rfl

theorem rd_word (w : World) (x : UInt32) : Rd (w.alloc (.cells #[.int .u8 ((x.toNat : Int) / 16777216 % 256), .int .u8 ((x.toNat : Int) / 65536 % 256), .int .u8 ((x.toNat : Int) / 256 % 256), .int .u8 ((x.toNat : Int) % 256)] 5)) (.slice (some ⟨w.heap.size, 0, none⟩) 4 4) (wbytes x) := by
  have h1 := byte32 x.toNat 16777216
  have h2 := byte32 x.toNat 65536
  have h3 := byte32 x.toNat 256
  have h4 : ((x.toNat : Int)) % 256 = ((UInt8.ofNat x.toNat).toNat : Int) := by
    rw [UInt8.toNat_ofNat']; show _ = ((x.toNat % 256 : Nat) : Int); omega
  have h := Rd.made w (wbytes x) 5 (0, 0) (by simp [wbytes])
  unfold wbytes bv at h
  simp only [List.map_cons, List.map_nil] at h
  rw [← h1, ← h2, ← h3, ← h4] at h
  exact h

theorem wsbytes_take (ws : List UInt32) (k : Nat) (h : k < ws.length) : wsbytes (ws.take (k + 1)) = wsbytes (ws.take k) ++ wbytes (ws.getD k 0) := by
  rw [List.take_add_one, List.getElem?_eq_getElem h, List.getD_eq_getElem?_getD, List.getElem?_eq_getElem h]
  simp only [wsbytes, Option.toList_some, Option.getD_some, List.flatMap_append, List.flatMap_cons, List.flatMap_nil, List.append_nil]

/-- what Sum leaves -/
theorem sumEnd {w W wr : World} {A l : List UInt8} {D : Nat} {s : H8} {v : Value} (hA : A = l ++ padOf l.length) (hs : hashTo A (A.length / 64) = s) (hD : w.heap.size ≤ D) (hI : New w W) (hd : W.heap[D]? = some (.deferred (some []))) (hn : New W wr)
    (h : wr.ownsRow W.heap.size 5 1 v (wsbytes (s.list.take 8)).length ((wsbytes (s.list.take 8)).map bv)) : OwnRet w (sha256 l) (.returned v) (wr.putObj D (.deferred none)) := by
  have e : sha256 l = wsbytes (s.list.take 8) := by
    unfold sha256
    rw [← hA, hs]; rfl
  rw [e]
  have hdr : wr.heap[D]? = some (.deferred (some [])) := (hn.block _ (Array.getElem?_eq_some_iff.1 hd).1).trans hd
  refine ⟨v, rfl, ?_, ?_⟩
  · have h' : wr.ownsRow w.heap.size 5 1 v (wsbytes (s.list.take 8)).length ((wsbytes (s.list.take 8)).map bv) := by
      refine ⟨h.1, ?_⟩
      rcases h.2 with h0 | ⟨g, cap, cur, e1, hb, rest⟩
      · exact .inl h0
      · exact .inr ⟨g, cap, cur, e1, Nat.le_trans hI.size hb, rest⟩
    exact ownsRow_putObj h' _ hdr rfl
  · exact Below.trans (New.trans hI hn) (below_putObj _ _ _ _ hD (Array.getElem?_eq_some_iff.1 hdr).1)

theorem out_new {W wr w' : World} {o : Obj} {e : TypeId} {v : Value} {n : Nat} {xs : List Value} (hn : New W wr) (h : wr.ownsRow W.heap.size e 1 v n xs) (hg : (wr.alloc o).grownBy w' v.ownBlock) : New W w' :=
  Below.grown (hn.alloc hn.size o) hg (by have := hn.size; simp; omega) (fun j hj => own_from h j (by rw [blk_own]; exact hj))

theorem list8 (s : H8) : (s.list.map wv).toArray.size = 8 := rfl

theorem sumRound' {A : List UInt8} {k : Nat} {r : H8} (hr : hashTo A (k + 1) = r) {w W w' w'' : World} {old : Array Value} {t : TypeId} (hI : New w W) (hN : New W.drew w') (hN2 : New w' w'') (h1 : w''.heap[w.heap.size]? = some (.cells old t)) :
    Only (fun i => i = w.heap.size) W (w''.setRow w.heap.size (r.list.map wv).toArray) ∧ ((w''.setRow w.heap.size (r.list.map wv).toArray).heap[w.heap.size]? = some (.cells ((hashTo A (k + 1)).list.map wv).toArray t) ∧ New w (w''.setRow w.heap.size (r.list.map wv).toArray)) := by
  rw [hr]
  exact sumRound hI hN hN2 h1

set_option maxRecDepth 100000 in
set_option maxHeartbeats 2000000 in
theorem shaSum (w : World) (v : Value) (ps : List (Value × List UInt8)) (hv : RdL w v ps) (hn : (allOf ps).length ≤ 1152921504606846000) (hps : ps.length ≤ 100000) (hL : Laid w) :
    Calls Tryd.prog 34 #[v] w (OwnRet w (sha256 (allOf ps))) := by
  have hv' := hv.1
  obtain ⟨a, np, c, rfl, _⟩ := hv'
  obtain ⟨t0, fr0, hini⟩ := hL.ini
  have hini' : w.heap[0]? = some (.cells #[wv h0.a, wv h0.b, wv h0.c, wv h0.d, wv h0.e, wv h0.f, wv h0.g, wv h0.h] t0 fr0) := hini
  have HV := Lib.hid hv
  have HL := Lib.hid hL
  clear hini
  clear hv hL
  refine (callsIn_wide (n := 3)).1 ?_
  refine callsIn_of_wp_marks Tryd.func34 rfl trivial ?_ rfl
  simp only [Tryd.ntmps34, List.size_toArray, List.length_cons, List.length_nil, Nat.reduceAdd, Nat.reduceSub, Array.replicate_succ, Array.replicate_zero, List.push_toArray, List.append_toArray, List.nil_append, List.cons_append]
  gi_wp2_with (first | (refine wpListIn_load_row (o := ⟨some 8, _, _, _, _, _⟩) rfl 70 _ rfl 0 rfl _ _ _ _ hini' Tryd.underlying70 rfl (by kernel_rfl) ?_))
  generalize hw1 : w.alloc _ = w1
  have hs1 : w1.heap.size = w.heap.size + 1 := by rw [← hw1]; simp
  have hb1 : w1.heap[w.heap.size]? = some (.cells (h0.list.map wv).toArray 70) := by rw [← hw1]; exact heap_alloc_new _ _
  have hn1 : New w w1 := by rw [← hw1]; exact (Below.refl _ _).alloc (Nat.le_refl _) _
  clear hw1 hini'
  refine ⟨trivial, (callsIn_wide.2 (shaPadded w1 _ ps (HV.out.new hn1) (by omega) (by omega))).mono ?_⟩
  rintro e w2 ⟨v', pv, rfl, hrl, hn2, hfv, hfp⟩
  have hrl' := hrl.1
  obtain ⟨a2, np2, c2, rfl, _⟩ := hrl'
  have HRL := Lib.hid hrl
  have HFV := Lib.hid hfv
  have HFP := Lib.hid hfp
  have HB1 := Lib.hid hb1
  clear hrl hfv hfp hb1
  gi_wp2_with fail
  refine ⟨trivial, (callsIn_wide.2 (shaBlocks w2 _ a2 np2 c2 rfl)).mono ?_⟩
  rintro e w3 ⟨rfl, rfl⟩
  gi_wp2_with fail
  obtain ⟨A, HA⟩ : ∃ A, Hid (allOf (ps ++ [(pv, padOf (allOf ps).length)]) = A) := ⟨_, Lib.hid rfl⟩
  have HA' : Hid (A = allOf ps ++ padOf (allOf ps).length) := by
    show _ = _
    rw [← HA.out, allOf_append]; simp [allOf]
  have HM : Hid (A.length % 64 = 0) := by
    show _ = _
    rw [HA'.out]; exact padded_mod _
  have hs2 := hn2.size
  have hc3 : (w2.alloc (.cells #[.slice a2 np2 c2] 69)).cell? ⟨w2.heap.size, 0, none⟩ = some (.slice a2 np2 c2) := by rw [cell_of_row _ _ _ _ _ _ (heap_alloc_new _ _)]; rfl
  have hb3 : (w2.alloc (.cells #[.slice a2 np2 c2] 69)).heap[w.heap.size]? = some (.cells (h0.list.map wv).toArray 70) := by
    rw [heap_old _ _ _ (by omega)]
    exact (hn2.block _ (by omega)).trans HB1.out
  have hn3 : New w (w2.alloc (.cells #[.slice a2 np2 c2] 69)) := (New.trans hn1 hn2).alloc (by omega) _
  have hrl3 := HRL.out.new ((Below.refl _ _).alloc (Nat.le_refl _) (.cells #[.slice a2 np2 c2] 69))
  have hs3 : (w2.alloc (.cells #[.slice a2 np2 c2] 69)).heap.size = w2.heap.size + 1 := by simp
  generalize w2.alloc (.cells #[.slice a2 np2 c2] 69) = w3 at *
  refine wpIn_range_idx rfl (by omega) (gf := 55) (lb := #[.pointer (some ⟨w2.heap.size, 0, none⟩)]) rfl trivial (enters_of Tryd.func55 (by kernel_rfl) rfl)
    (fun k => #[.agg ((chunk A k).map bv).toArray]) (A.length / 64) (fun i => i = w.heap.size) ?hE ?seq (fun _ => rfl)
    (fun k W => W.heap[w.heap.size]? = some (.cells ((hashTo A k).list.map wv).toArray 70) ∧ New w W)
    ?hI ⟨hb3, hn3⟩
    (fun k a₁ W => ∃ q, a₁ = { tmps := #[.slice a np c, undef, .slice none 0 0, .pointer (some ⟨w.heap.size, 0, none⟩), .pointer (some ⟨q, 0, none⟩), undef, undef, undef, .agg #[wv h0.a, wv h0.b, wv h0.c, wv h0.d, wv h0.e, wv h0.f, wv h0.g, wv h0.h], .slice a np c, .slice a2 np2 c2, .func (.func 55) #[] #[.pointer (some ⟨w2.heap.size, 0, none⟩)], .agg ((chunk A k).map bv).toArray, undef, undef, undef, undef, undef, undef, undef, undef, undef, undef, undef, undef, undef, undef, undef, undef, undef, undef, undef, undef, undef, undef, undef, undef, undef], defers := [] } ∧ W.heap[q]? = some (.cells ((chunk A k).map bv).toArray 75))
    ?hX ?assign ?body ?done
  case hE => intro i hi; show i < w3.heap.size; rw [show i = w.heap.size from hi]; omega
  case hI =>
    rintro k X Y ⟨h1, h2⟩ hB
    have hle : w.heap.size ≤ w3.heap.size := by omega
    have hlt : w.heap.size < w3.heap.size := by omega
    exact ⟨(hB.block _ hlt).trans h1, Below.trans h2 (Below.mono hB hle)⟩
  case hX =>
    rintro k a A l r o ⟨q, rfl, hq⟩ hl
    refine ⟨q, rfl, ?_⟩
    rw [World.putObj_heap_other (fun e => by subst e; rw [hq] at hl; cases hl)]
    exact hq
  case seq =>
    intro l J W hW hl1 hl2 hJ hY h0J
    refine shaIter 2 l W.heap.size w2.heap.size (fun i => i = w.heap.size ∨ i = l) A _ (ps ++ [(pv, padOf (allOf ps).length)]) HA HM J hJ ?_ (fun k W1 hk hj hs => hY k W1 hk hj hs) W (Nat.le_refl _) ((hW.cell (p := ⟨w2.heap.size, 0, none⟩) (by show w2.heap.size < _; omega)).trans hc3) (hrl3.new hW) ?_ ?_ (by simp; omega) h0J
    · rintro i (rfl | rfl)
      · have := hW.size; omega
      · exact hl2
    · rintro k hk hne (rfl | rfl)
      · have := HFV.out _ hk; omega
      · have := HRL.out.1.lt hk (by simp); omega
    · rintro p hp k hk hne (rfl | rfl)
      · rcases List.mem_append.1 hp with h | h
        · have := (HV.out.2 p h).lt hk hne; omega
        · rw [List.mem_singleton.1 h] at hk
          have := HFP.out _ hk; omega
      · have := (HRL.out.2 p hp).lt hk hne; omega
  case assign =>
    intro l k W K hI hk hK
    have hcl : ((chunk A k).map bv).toArray.size = 64 := by
      rw [List.size_toArray, List.length_map, chunk_length]
      have := HM.out; omega
    have HCL := Lib.hid hcl
    clear hcl
    gi_wp2_with (refine wpListIn_store_row (o := ⟨none, _, _, _, _, _⟩) rfl 75 (.tmp 4) (.tmp 12) rfl W.heap.size ((chunk A k).map bv).toArray rfl rfl _ _ (heap_alloc_new _ _) (by rw [HCL.out]; kernel_rfl) (by rw [HCL.out]; rfl) (allOneB _) ?_)
    refine hK _ _ ?_ ⟨W.heap.size, rfl, ?_⟩
    · exact below_setRow ((Below.refl _ _).alloc (Nat.le_refl _) _) (Nat.le_refl _) _
    · exact setRow_heap _ _ _ _ _ _ (heap_alloc_new _ _)
  case body =>
    rintro l k a₁ W ⟨hI1, hI2⟩ ⟨q, rfl, hq⟩ hk
    dsimp only
    have hcl : (chunk A k).length = 64 := chunk_length _ _ (by have := HM.out; omega)
    have HQ := Lib.hid hq
    have HI1 := Lib.hid hI1
    have HCL := Lib.hid hcl
    clear hq hI1 hcl
    gi_wp2
    refine wpIn_region_any (by kernel_rfl) ?_
    change wpAnyIn _ _ _ _ _ _ _ _ _ W.drew
    have hlen8 := list8 (hashTo A k)
    have hlen64 : ((chunk A k).map bv).toArray.size = 64 := by rw [List.size_toArray, List.length_map, HCL.out]
    have h1d : W.drew.heap[w.heap.size]? = some (.cells ((hashTo A k).list.map wv).toArray 70) := HI1.out
    have hqd : W.drew.heap[q]? = some (.cells ((chunk A k).map bv).toArray 75) := HQ.out
    have hkt : KTab W.drew := (HL.out.new hI2).con
    obtain ⟨r, HR⟩ : ∃ r, Hid (hashTo A (k + 1) = r) := ⟨_, Lib.hid rfl⟩
    have hmixed : ∀ wx, KTab wx → Calls Tryd.prog 49 #[hagg (hashTo A k), .agg ((ext (chunk A k) 48).map wv).toArray] wx fun e w' => e = .returned (hagg r) ∧ New wx w' := fun wx hk => by
      rw [← HR.out, hashTo_succ]
      exact shaMixed wx (hashTo A k) (ext (chunk A k) 48) (Lib.hid (ext_length _ _)) (Lib.hid hk)
    have hexp : ∀ wx, Calls Tryd.prog 50 #[.agg ((chunk A k).map bv).toArray] wx fun e w' => e = .returned (.agg ((ext (chunk A k) 48).map wv).toArray) ∧ New wx w' := fun wx => shaExpanded wx (chunk A k) HCL
    generalize ext (chunk A k) 48 = ws at *
    generalize hashTo A k = s at *
    refine anyIn_two 0 1 (by kernel_rfl) rfl rfl rfl rfl (fun K hK => ?_) (fun K hK => ?_)
    · refine opIn_load_row 70 (.tmp 3) rfl w.heap.size rfl _ _ _ _ h1d Tryd.underlying70 rfl (by rw [hlen8]; kernel_rfl) (hK _ _ ?_)
      clear hK K
      simp only [Act.put, List.setIfInBounds_toArray, List.set_cons_zero, List.set_cons_succ]
      refine anyIn_one 1 (by kernel_rfl) rfl rfl (fun K hK => ?_)
      refine opIn_load_row 75 (.tmp 4) rfl q rfl _ _ _ _ hqd Tryd.underlying75 rfl (by rw [hlen64]; kernel_rfl) (hK _ _ ?_)
      clear hK K
      simp only [Act.put, List.setIfInBounds_toArray, List.set_cons_zero, List.set_cons_succ]
      refine anyIn_one 2 (by kernel_rfl) rfl rfl (fun K hK => ?_)
      refine opIn_call_wide (args := [.tmp 14]) (vals := [.agg ((chunk A k).map bv).toArray]) rfl rfl (enters_of Tryd.func50 (by kernel_rfl) rfl) (hexp W.drew) (fun e w' hR => ⟨_, hR.1, hK _ _ ?_⟩)
      have hN := hR.2
      clear hK K hR
      simp only [Act.put, List.setIfInBounds_toArray, List.set_cons_zero, List.set_cons_succ]
      have h1e := (hN.block _ (lt_of_block h1d)).trans h1d
      have hke := hkt.new hN
      refine anyIn_one 3 (by kernel_rfl) rfl rfl (fun K hK => ?_)
      refine opIn_call_wide (args := [.tmp 13, .tmp 15]) (vals := [hagg s, .agg (ws.map wv).toArray]) rfl rfl (enters_of Tryd.func49 (by kernel_rfl) rfl) (hmixed _ hke) (fun e w'' hR => ⟨_, hR.1, hK _ _ ?_⟩)
      have hN2 := hR.2
      clear hK K hR
      simp only [Act.put, List.setIfInBounds_toArray, List.set_cons_zero, List.set_cons_succ]
      have h1f := (hN2.block _ (lt_of_block h1e)).trans h1e
      refine anyIn_one 4 (by kernel_rfl) rfl rfl (fun K hK => ?_)
      refine opIn_store_row 70 (.tmp 3) (.tmp 16) rfl w.heap.size (r.list.map wv).toArray rfl rfl _ _ h1f (by rw [list8]; kernel_rfl) (by rw [list8, list8]) (allOne _) (hK _ _ ?_)
      clear hK K
      refine wpAnyIn_done (by kernel_rfl) ?_ _
      exact sumRound' HR.out hI2 hN hN2 h1f
    · refine opIn_load_row 75 (.tmp 4) rfl q rfl _ _ _ _ hqd Tryd.underlying75 rfl (by rw [hlen64]; kernel_rfl) (hK _ _ ?_)
      clear hK K
      simp only [Act.put, List.setIfInBounds_toArray, List.set_cons_zero, List.set_cons_succ]
      refine anyIn_two 0 2 (by kernel_rfl) rfl rfl rfl rfl (fun K hK => ?_) (fun K hK => ?_)
      · refine opIn_load_row 70 (.tmp 3) rfl w.heap.size rfl _ _ _ _ h1d Tryd.underlying70 rfl (by rw [hlen8]; kernel_rfl) (hK _ _ ?_)
        clear hK K
        simp only [Act.put, List.setIfInBounds_toArray, List.set_cons_zero, List.set_cons_succ]
        refine anyIn_one 2 (by kernel_rfl) rfl rfl (fun K hK => ?_)
        refine opIn_call_wide (args := [.tmp 14]) (vals := [.agg ((chunk A k).map bv).toArray]) rfl rfl (enters_of Tryd.func50 (by kernel_rfl) rfl) (hexp W.drew) (fun e w' hR => ⟨_, hR.1, hK _ _ ?_⟩)
        have hN := hR.2
        clear hK K hR
        simp only [Act.put, List.setIfInBounds_toArray, List.set_cons_zero, List.set_cons_succ]
        have h1e := (hN.block _ (lt_of_block h1d)).trans h1d
        have hke := hkt.new hN
        refine anyIn_one 3 (by kernel_rfl) rfl rfl (fun K hK => ?_)
        refine opIn_call_wide (args := [.tmp 13, .tmp 15]) (vals := [hagg s, .agg (ws.map wv).toArray]) rfl rfl (enters_of Tryd.func49 (by kernel_rfl) rfl) (hmixed _ hke) (fun e w'' hR => ⟨_, hR.1, hK _ _ ?_⟩)
        have hN2 := hR.2
        clear hK K hR
        simp only [Act.put, List.setIfInBounds_toArray, List.set_cons_zero, List.set_cons_succ]
        have h1f := (hN2.block _ (lt_of_block h1e)).trans h1e
        refine anyIn_one 4 (by kernel_rfl) rfl rfl (fun K hK => ?_)
        refine opIn_store_row 70 (.tmp 3) (.tmp 16) rfl w.heap.size (r.list.map wv).toArray rfl rfl _ _ h1f (by rw [list8]; kernel_rfl) (by rw [list8, list8]) (allOne _) (hK _ _ ?_)
        clear hK K
        refine wpAnyIn_done (by kernel_rfl) ?_ _
        exact sumRound' HR.out hI2 hN hN2 h1f
      · refine opIn_call_wide (args := [.tmp 14]) (vals := [.agg ((chunk A k).map bv).toArray]) rfl rfl (enters_of Tryd.func50 (by kernel_rfl) rfl) (hexp W.drew) (fun e w' hR => ⟨_, hR.1, hK _ _ ?_⟩)
        have hN := hR.2
        clear hK K hR
        simp only [Act.put, List.setIfInBounds_toArray, List.set_cons_zero, List.set_cons_succ]
        have h1e := (hN.block _ (lt_of_block h1d)).trans h1d
        have hke := hkt.new hN
        refine anyIn_one 0 (by kernel_rfl) rfl rfl (fun K hK => ?_)
        refine opIn_load_row 70 (.tmp 3) rfl w.heap.size rfl _ _ _ _ h1e Tryd.underlying70 rfl (by rw [hlen8]; kernel_rfl) (hK _ _ ?_)
        clear hK K
        simp only [Act.put, List.setIfInBounds_toArray, List.set_cons_zero, List.set_cons_succ]
        refine anyIn_one 3 (by kernel_rfl) rfl rfl (fun K hK => ?_)
        refine opIn_call_wide (args := [.tmp 13, .tmp 15]) (vals := [hagg s, .agg (ws.map wv).toArray]) rfl rfl (enters_of Tryd.func49 (by kernel_rfl) rfl) (hmixed _ hke) (fun e w'' hR => ⟨_, hR.1, hK _ _ ?_⟩)
        have hN2 := hR.2
        clear hK K hR
        simp only [Act.put, List.setIfInBounds_toArray, List.set_cons_zero, List.set_cons_succ]
        have h1f := (hN2.block _ (lt_of_block h1e)).trans h1e
        refine anyIn_one 4 (by kernel_rfl) rfl rfl (fun K hK => ?_)
        refine opIn_store_row 70 (.tmp 3) (.tmp 16) rfl w.heap.size (r.list.map wv).toArray rfl rfl _ _ h1f (by rw [list8]; kernel_rfl) (by rw [list8, list8]) (allOne _) (hK _ _ ?_)
        clear hK K
        refine wpAnyIn_done (by kernel_rfl) ?_ _
        exact sumRound' HR.out hI2 hN hN2 h1f
  case done =>
    rintro D W hD ⟨hI1, hI2⟩ hdef
    obtain ⟨i0, hi0, hz0, hz1, hz2⟩ := info_parts infoByte
    have hmk := run_make_bytes 0 32 (by omega) (by omega) (by omega) W
    obtain ⟨s, HS⟩ : ∃ s, Hid (hashTo A (A.length / 64) = s) := ⟨_, Lib.hid rfl⟩
    rw [HS.out] at hI1
    have hI1' : (W.alloc (.cells (List.replicate 32 (bv 0)).toArray 5)).heap[w.heap.size]? = some (.cells (s.list.map wv).toArray 70) := (heap_old _ _ _ (lt_of_block hI1)).trans hI1
    have HD := Lib.hid hdef
    have HIS := Lib.hid hI1'
    clear hdef hI1 hI1'
    gi_wp2_with (refine wpListIn_load_row (o := ⟨some 18, _, _, _, _, _⟩) rfl 70 (.tmp 3) rfl w.heap.size rfl _ _ _ _ HIS.out Tryd.underlying70 rfl (by rw [list8]; kernel_rfl) ?_)
    clear hmk
    gi_loopw [5, 19] (fun v i wr => ∃ k : Nat, k ≤ 8 ∧ i = .int .i64 k ∧ wr.ownsRow W.heap.size 5 1 v (wsbytes (s.list.take k)).length ((wsbytes (s.list.take k)).map bv) ∧ New W wr) (fun _ i _ => 8 - (intOf i).toNat)
    case atStart => exact ⟨0, by omega, rfl, out_start W, (Below.refl _ _).alloc (Nat.le_refl _) _⟩
    case round =>
      obtain ⟨k, hk, rfl, hown, hnw⟩ := hrel
      by_cases hlt : k < 8
      · have hix := run_index8 s k hlt
        obtain ⟨x, HX⟩ : ∃ x, Hid (s.list.getD k 0 = x) := ⟨_, Lib.hid rfl⟩
        rw [HX.out] at hix
        have hlen : (wsbytes (s.list.take k)).length ≤ 32 := by rw [wsbytes_length, List.length_take]; omega
        obtain ⟨L, HLL⟩ : ∃ L, Hid (wsbytes (s.list.take k) = L) := ⟨_, Lib.hid rfl⟩
        rw [HLL.out] at hown hlen
        have hsz := hnw.size
        have HN := Lib.hid hnw
        clear hnw
        gi_wp2_with (gi_at_builtin; refine wpListIn_append_bytes rfl _ _ 22 rfl W.heap.size 5 i0 _ Tryd.underlying22 hi0 hz0 hz1 hz2 rfl _ _ _ rfl (hown.alloc _) _ (wbytes x) rfl (rd_word _ _) ?_ ?_ ?_)
        · show L.length + 4 ≤ _; omega
        · simp; omega
        · intro v' w' hown' hgrow hat
          have HO : Hid (w'.ownsRow W.heap.size 5 1 v' (L ++ wbytes x).length ((L ++ wbytes x).map bv)) := by
            show w'.ownsRow _ _ _ _ _ _
            rw [List.length_append, List.map_append]; exact hown'
          clear hown' hat
          gi_wp2
          go_roundw
          case rel =>
            refine ⟨k + 1, by omega, by go_num, ?_, ?_⟩
            · rw [wsbytes_take _ _ (by show k < 8; omega), HX.out, HLL.out]
              exact HO.out
            · exact out_new HN.out hown hgrow
          case measure => simp [intOf]; omega
      · obtain rfl : k = 8 := by omega
        gi_wp2
        refine ⟨by simp, .inl ⟨_, _, rfl, run_takeDeferred ((hnw.block _ (Array.getElem?_eq_some_iff.1 HD.out).1).trans HD.out), ?_⟩⟩
        refine ⟨_, results_tmp rfl _ _ _, ?_⟩
        exact sumEnd HA'.out HS.out (by omega) hI2 HD.out hnw hown

end Go.Proofs.YtliojldkdmaofaaDoor

namespace Go.Proofs.YtliojldkdmaofaaDoor
set_option linter.unusedVariables false
set_option linter.unusedSimpArgs false
open Go.RowKit

/-- one slice of bytes in a new block -/
theorem RdL.made1 (w : World) (v : Value) (l : List UInt8) (e : TypeId) (h : Rd w v l) : RdL (w.alloc (.cells #[v] e)) (.slice (some ⟨w.heap.size, 0, none⟩) 1 1) [(v, l)] :=
  ⟨RdV.made w [v] e (0, 0) (by simp), fun p hp => by rw [List.mem_singleton.1 hp]; exact h.new ((Below.refl _ _).alloc (Nat.le_refl _) _)⟩

/-- sha.Sum(v) as a caller writes it -/
theorem sum1 (w : World) (b : Nat) (v : Value) (l : List UInt8) (hb : b = w.heap.size) (h : Rd w v l) (hl : l.length ≤ 1099511627776) (hL : Laid w) :
    Calls Tryd.prog 34 #[.slice (some ⟨b, 0, none⟩) 1 1] (w.alloc (.cells #[v] 22)) fun e w' => ∃ a n c, e = .returned (.slice a n c) ∧ Rd w' (.slice a n c) (sha256 l) ∧ n = 32 ∧ New w w' := by
  subst hb
  have hs := shaSum _ _ _ (RdL.made1 w v l 22 h) (by simp [allOf]; omega) (by simp) (hL.new ((Below.refl _ _).alloc (Nat.le_refl _) _))
  refine hs.mono ?_
  rintro e w' ⟨v', rfl, hown, hn⟩
  have hr := Rd.of_own hown
  simp only [allOf, List.flatMap_cons, List.flatMap_nil, List.append_nil] at hr
  have hr' := hr
  obtain ⟨a, n, c, rfl, h1, _⟩ := hr'
  exact ⟨a, n, c, rfl, hr, by rw [← h1, sha256_length], New.trans ((Below.refl _ _).alloc (Nat.le_refl _) _) hn⟩

end Go.Proofs.YtliojldkdmaofaaDoor
