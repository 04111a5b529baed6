/-
  sha.blocks and its iterator: the padded parts, block by block.
-/
import Derived.Test.YtoooemlcackepaaDoorShaIt0
import Derived.Test.YtoooemlcackepaaDoorRangeIdx
import Derived.Shelf.Abstract
namespace Go.Proofs.YtoooemlcackepaaDoor
set_option linter.unusedVariables false
set_option linter.unusedSimpArgs false
open Go.RowKit Go.Shelf

attribute [local go_sem] Oper.semAt_some

/-- block[l:] of an array behind a pointer -/
theorem run_slice64_from (wx : World) (p l : Nat) (hl : l < 64) :
    (Instr.sliceAt 31 (.pointer (some ⟨p, 0, none⟩)) (some (.int .i64 (l : Int))) none none).run Tryd.prog wx = .ok (.slice (some ⟨p, l, none⟩) (64 - l) (64 - l)) wx := by
  rw [run_sliceAt_array_l wx _ _ arr64 .i64 _ (by omega) (by rw [arr64_len]; omega), arr64_size, arr64_len]
  simp only [Result.andThen_ok, slicedAt, Int.toNat_natCast, Nat.mul_one]
  rw [if_neg (by omega), Addr.add_lit, Nat.zero_add]

theorem slice22 : Tryd.prog.underlying 22 = some (.slice (Tryd.prog.elem 22)) := by kernel_rfl
theorem slice22_size (w : World) : (sizeOf (Tryd.prog.elem 22)).run Tryd.prog w = .ok 1 w := by kernel_rfl

set_option maxRecDepth 100000 in
set_option maxHeartbeats 1000000 in
theorem shaIter (n l n1 Bs : Nat) (E : Nat → Prop) (A : List UInt8) (v : Value) (ps : List (Value × List UInt8)) (hA : Hid (allOf ps = A)) (hmod : Hid (A.length % 64 = 0)) (J : Nat → World → Prop)
    (hJ : ∀ k A B, J k A → Below n1 A B → J k B) (hE : ∀ i, E i → i < n1)
    (hY : ∀ k W1, k < A.length / 64 → J k W1 → n1 ≤ W1.heap.size → YieldAt Fence.wide (n - 1) Tryd.prog l #[.agg ((chunk A k).map bv).toArray] W1 fun e W' => e = .returned (.bool true) ∧ J (k + 1) W' ∧ Only E W1 W')
    (W : World) (hW : n1 ≤ W.heap.size) (hBs : W.cell? ⟨Bs, 0, none⟩ = some v) (hv : RdL W v ps)
    (hf1 : ∀ k, blk v = some k → ps ≠ [] → ¬ E k) (hf2 : ∀ p ∈ ps, ∀ k, blk p.1 = some k → p.2 ≠ [] → ¬ E k) (hps : ps.length ≤ 1000000) (h0 : J 0 W) :
    CallsIn Fence.wide n Tryd.prog 23 #[.func (.yield l) #[] #[], .pointer (some ⟨Bs, 0, none⟩)] W fun e W' => (∃ v, e = .returned v) ∧ J (A.length / 64) W' := by
  have hv' := hv.1
  obtain ⟨a, np, c, rfl, hl, hnc, hcm, _, _⟩ := hv'
  rw [List.length_map] at hl
  have HL := Lib.hid hl
  have hnp : np ≤ 1000000 := by omega
  have HV := Lib.hid hv
  have HJ := Lib.hid hJ
  have HE := Lib.hid hE
  have HY := Lib.hid hY
  have HF1 := Lib.hid hf1
  have HF2 := Lib.hid hf2
  clear hl hv hJ hE hY hf1 hf2
  refine callsIn_of_wp Tryd.func23 rfl trivial ?_ rfl
  simp only [Tryd.ntmps23, List.size_toArray, List.length_cons, List.length_nil, Nat.reduceAdd, Nat.reduceSub, Array.replicate_succ, Array.replicate_zero, List.push_toArray, List.append_toArray, List.nil_append, List.cons_append]
  have hBlt : Bs < W.heap.size := block_lt_of_cell hBs
  have hBne : Bs ≠ W.heap.size := by omega
  gi_wp2
  gi_loopw [4, 10] (fun u i wr => ∃ k : Nat, k ≤ np ∧ i = .int .i64 k ∧ u = .int .i64 (((allOf (ps.take k)).length % 64 : Nat) : Int) ∧ ItIn A (.slice a np c) ps J n1 W.heap.size (allOf (ps.take k)).length wr) (fun _ i _ => np - (intOf i).toNat)
  case atStart =>
    refine ⟨0, Nat.zero_le _, rfl, rfl, ?_⟩
    rw [show allOf (ps.take 0) = [] from rfl]
    refine ⟨HV.out.new ((Below.refl _ _).alloc (Nat.le_refl _) _), ⟨List.replicate 64 0, ?_, rfl, ?_⟩, HJ.out 0 _ _ h0 ((Below.refl _ _).alloc hW _), by simp; omega⟩
    · rw [heap_alloc_new]; rfl
    · simp [allOf]
  case round =>
    obtain ⟨k, hk, rfl, rfl, hin⟩ := hrel
    by_cases hlt : k < np
    · obtain ⟨b, off, rfl, hcell⟩ := hin.rd.1.cell (by omega)
      obtain ⟨p, hp⟩ : ∃ p, ps[k]? = some p := ⟨_, List.getElem?_eq_getElem (by rw [HL.out]; exact hlt)⟩
      have hpm := List.mem_of_getElem? hp
      have hck := hcell k p.1 (by rw [List.getElem?_map, hp]; rfl)
      clear hcell
      have hrp := hin.rd.2 p hpm
      have hrp' := hrp
      obtain ⟨ap, mp, cp, ep, hpl, hpc, hpx, _⟩ := hrp'
      rw [ep] at hck hrp
      have HT := Lib.hid (allOf_take ps k p hp)
      have HD : Hid ((A.drop (allOf (ps.take k)).length).take mp = p.2) := by
        show _ = _
        rw [← hA.out, ← hpl]; exact allOf_drop ps k p hp
      have HQB : Hid (∀ j, blk p.1 = some j → p.2 ≠ [] → j ≠ W.heap.size ∧ ¬ E j) := fun j hj hne => ⟨by have := (HV.out.2 p hpm).lt hj hne; omega, HF2.out p hpm j hj hne⟩
      obtain ⟨c0, HC0⟩ : ∃ c0, Hid ((allOf (ps.take k)).length = c0) := ⟨_, Lib.hid rfl⟩
      rw [HC0.out] at hin ⊢
      have HEP := Lib.hid ep
      have HPL := Lib.hid hpl
      have HIN := Lib.hid hin
      have HRP := Lib.hid hrp
      unfold maxLen at hpx
      clear hp hpl ep hin hrp
      gi_wp2
      gi_loopw [4, 6, 7] (fun u s _ wr => ∃ (d : Nat) (a' : Option Addr), d ≤ mp ∧ s = .slice a' (mp - d) (cp - d) ∧ (∀ x y, blk (.slice a' x y) = blk p.1) ∧ Rd wr (.slice a' (mp - d) (cp - d)) (p.2.drop d) ∧ u = .int .i64 (((c0 + d) % 64 : Nat) : Int) ∧ ItIn A (.slice (some ⟨b, off, none⟩) np c) ps J n1 W.heap.size (c0 + d) wr) (fun _ s _ _ => match s with | .slice _ m _ => m | _ => 0)
      case atStart => exact ⟨0, ap, Nat.zero_le _, rfl, fun x y => by rw [HEP.out]; exact blk_slice _ _ _ _ _, HRP.out, rfl, HIN.out⟩
      case round =>
        obtain ⟨d, a', hd, rfl, hbs, hrd, rfl, hin⟩ := hrel
        by_cases hlt2 : d < mp
        · have hdl : (A.drop (c0 + d)).take (mp - d) = p.2.drop d := by
            rw [← HD.out, List.drop_take, List.drop_drop, HC0.out]
          obtain ⟨m, w2, hm0, hm1, hm2, hm3, hcopy, hbel, hrd2, hq2, ⟨buf, hbuf, hbl, hbt⟩, hj2, hs2⟩ := copyIn hin hW HJ.out (fun j hj hne => by have := HV.out.1.lt hj (by simpa using hne); omega) (fun p' hp' j hj hne => by have := (HV.out.2 p' hp').lt hj hne; omega) hrd (by omega) (fun j hj => (HQB.out j (by rw [← hbs]; exact hj) (by rw [← HPL.out] at hlt2; intro e; rw [e] at hlt2; simp at hlt2)).1) hdl
          obtain ⟨a2, hsl2, hbs2, hrd3⟩ := run_slice_from slice22 slice22_size a' (mp - d) (cp - d) m hm1 (by omega)
          have hrd4 := hrd3 _ _ hq2
          rw [List.drop_drop, show mp - d - m = mp - (d + m) by omega, show cp - d - m = cp - (d + m) by omega] at hrd4
          rw [show mp - d - m = mp - (d + m) by omega, show cp - d - m = cp - (d + m) by omega] at hsl2
          have HRD := Lib.hid hrd4
          have HBL := Lib.hid hbl
          have HBT := Lib.hid hbt
          have HR2 := Lib.hid hrd2
          have HBS : Hid (∀ x y, blk (.slice a2 x y) = blk p.1) := fun x y => (hbs2 x y).trans (hbs x y)
          have HNE : Hid (p.2 ≠ []) := by
            intro e
            have := HPL.out
            rw [e] at this
            simp at this
            omega
          have hx : (c0 + d) % 64 < 64 := Nat.mod_lt _ (by decide)
          have HX : Hid (∃ q, c0 + d = 64 * q + (c0 + d) % 64 ∧ (c0 + d) / 64 = q) := ⟨_, (Nat.div_add_mod _ _).symm, rfl⟩
          have hsl := fun wx => run_slice64_from wx W.heap.size ((c0 + d) % 64) hx
          clear hin hrd hq2 hrd2 hdl hbl hbt hrd3 hrd4 hbs hbs2
          generalize (c0 + d) % 64 = x at *
          generalize (c0 + d) / 64 = y at *
          by_cases hfull : x + m = 64
          · have e1 : ((x : Int) + (m : Int)) % 64 = 0 := by omega
            have hbuf' : w2.heap[W.heap.size]? = some (.cells ((chunk A y).map bv).toArray 31) := by
              rw [hbuf]
              have h1 := HBT.out
              rw [hfull, List.take_of_length_le (by rw [HBL.out]; omega)] at h1
              rw [h1]; rfl
            have hcl : ((chunk A y).map bv).toArray.size = 64 := by
              have h1 := HBT.out
              rw [hfull, List.take_of_length_le (by rw [HBL.out]; omega)] at h1
              rw [List.size_toArray, List.length_map]
              show ((A.drop (64 * y)).take 64).length = 64
              rw [← h1, HBL.out]
            have hyl : y < A.length / 64 := by
              have h2 : ((A.drop (64 * y)).take 64).length = 64 := by
                rw [List.size_toArray, List.length_map] at hcl
                exact hcl
              rw [List.length_take, List.length_drop] at h2
              omega
            have HCL := Lib.hid hcl
            have HHB := Lib.hid hbuf'
            obtain ⟨fn, tmps, assign, body, hy, hR⟩ := HY.out y w2 hyl hj2 hs2
            clear hcl hbuf' hbuf hyl
            gi_wp2_with (first | (refine wpListIn_copy (o := ⟨some 20, _, _, _, _, _⟩) rfl _ _ 22 22 rfl _ _ rfl rfl hcopy ?_) | (refine wpListIn_load_row (o := ⟨some 32, _, _, _, _, _⟩) rfl 31 _ rfl W.heap.size rfl _ _ _ _ HHB.out Tryd.underlying31 rfl (by rw [HCL.out]; kernel_rfl) ?_))
            refine ⟨fun h => (by simp [Fence.wide] at h), ?_⟩
            refine hR.mono ?_
            rintro e W3 ⟨rfl, hJ3, ho3⟩
            gi_wp2
            go_roundw
            case rel =>
              obtain ⟨q, hq1, hq2⟩ := HX.out
              refine ⟨d + m, a2, by omega, rfl, HBS.out, ?_, ?_, ?_⟩
              · exact HRD.out.only ho3 (fun j hj _ => (HQB.out j (by rw [← HBS.out]; exact hj) HNE.out).2)
              · rw [show (c0 + (d + m)) % 64 = 0 by omega]; rfl
              · refine ⟨HR2.out.only ho3 (fun j hj hne => HF1.out j hj hne) (fun p' hp' j hj hne => HF2.out p' hp' j hj hne), ⟨chunk A y, ?_, ?_, ?_⟩, ?_, Nat.le_trans hs2 ho3.size⟩
                · exact (ho3.block _ (lt_of_block HHB.out) (fun h => by have := HE.out _ h; omega)).trans HHB.out
                · have := HCL.out; simpa using this
                · rw [show (c0 + (d + m)) % 64 = 0 by omega]; rfl
                · rw [show (c0 + (d + m)) / 64 = y + 1 by omega]; exact hJ3
            case measure => show mp - (d + m) < mp - d; omega
          · have e1 : ((x : Int) + (m : Int)) % 64 = ((x + m : Nat) : Int) := by omega
            have e2 : (((x + m : Nat) : Int) == 0) = false := by simp; omega
            gi_wp2_with (refine wpListIn_copy (o := ⟨some 20, _, _, _, _, _⟩) rfl _ _ 22 22 rfl _ _ rfl rfl hcopy ?_)
            refine ⟨fun _ h => (by cases h), ?_⟩
            gi_wp2
            go_roundw
            case rel =>
              obtain ⟨q, hq1, hq2⟩ := HX.out
              refine ⟨d + m, a2, by omega, rfl, HBS.out, HRD.out, ?_, ?_⟩
              · rw [show (c0 + (d + m)) % 64 = x + m by omega]; go_num
              · refine ⟨HR2.out, ⟨buf, hbuf, HBL.out, ?_⟩, ?_, hs2⟩
                · rw [show (c0 + (d + m)) % 64 = x + m by omega, show (c0 + (d + m)) / 64 = y by omega]; exact HBT.out
                · rw [show (c0 + (d + m)) / 64 = y by omega]; exact hj2
            case measure => show mp - (d + m) < mp - d; omega
        · obtain rfl : d = mp := by omega
          gi_wp2
          go_roundw
          case rel =>
            refine ⟨k + 1, by omega, by go_num, ?_, ?_⟩
            · rw [HT.out, List.length_append, HPL.out, HC0.out]
            · rw [HT.out, List.length_append, HPL.out, HC0.out]; exact hin
          case measure => simp [intOf]; omega
    · obtain rfl : k = np := by omega
      gi_wp2
      go_end0
      refine ⟨⟨_, rfl⟩, ?_⟩
      have h := hin.j
      rw [List.take_of_length_le (by rw [HL.out]; exact Nat.le_refl _), hA.out] at h
      exact h

end Go.Proofs.YtoooemlcackepaaDoor
