/-
  SegmentBack: the walk.
-/
import Derived.Test.YtjkhklbeimgggaaDoorLaw13
import Derived.Test.YtjkhklbeimgggaaDoorSegParse
import Derived.Test.YtjkhklbeimgggaaDoorRefTxt
import Derived.Test.YtjkhklbeimgggaaDoorAppZeros
import Derived.Test.YtjkhklbeimgggaaDoorArg13
namespace Go.Proofs.YtjkhklbeimgggaaDoor
set_option linter.unusedVariables false
set_option linter.unusedSimpArgs false
open Go.RowKit

/-- the chain that all begin with -/
def z32 : List UInt8 := List.replicate 32 0
theorem z32_length : z32.length = 32 := List.length_replicate
theorem placed7 : sPlaced 7 3 z32 := ⟨by decide, z32_length, by decide, by decide⟩

/-- the octets behind these texts -/
def bkL (ts : List (List UInt8)) : List UInt8 := sHeadOf 7 3 z32 ++ sFrames z32 ts
theorem bkL_nil : bkL [] = sHeadOf 7 3 z32 := by simp [bkL, sFrames]
theorem head7 : sHeadOf 7 3 z32 = sHead 7 3 z32 := if_pos placed7
theorem bkL_length (ts : List (List UInt8)) : (bkL ts).length = 128 + (sFrames z32 ts).length := by
  unfold bkL
  rw [List.length_append, head7, sHead_length _ _ _ z32_length]
theorem bkL_snoc (ts : List (List UInt8)) (t : List UInt8) : bkL (ts ++ [t]) = bkL ts ++ sFrame (sChain z32 ts) t := by
  unfold bkL
  rw [sFrames_snoc, List.append_assoc]

/-- one after the other -/
structure BkIn (w0 : World) (S : Nat) (ts : List (List UInt8)) (vb vc vl : Value) (wr : World) : Prop where
  new : New w0 wr
  ob : wr.ownsRow w0.heap.size 5 1 vb (bkL ts).length ((bkL ts).map bv)
  ch : Rd wr vc (sChain z32 ts)
  chb : ∀ j, blk vc = some j → blk vb ≠ some j
  ol : wr.ownsRow w0.heap.size 9 1 vl ts.length (ts.map strV)
  lb : ∀ j, blk vl = some j → j < wr.heap.size ∧ blk vb ≠ some j
  bb : ∀ j, blk vb = some j → j < wr.heap.size
  ok : ∀ t ∈ ts, 1 ≤ t.length ∧ t.length ≤ 65535
  fit : (bkL ts).length + 48 ≤ S

theorem BkIn.push {w0 wr w1 w2 w3 : World} {S : Nat} {ts : List (List UInt8)} {t : List UInt8} {vb vc vl vb' vn vl' : Value} (h : BkIn w0 S ts vb vc vl wr) (n1 : New wr w1)
    (hn : Rd w1 vn (sNext (sChain z32 ts) t)) (hnb : ∀ k, blk vn = some k → wr.heap.size ≤ k)
    (ho2 : w2.ownsRow w0.heap.size 5 1 vb' (bkL (ts ++ [t])).length ((bkL (ts ++ [t])).map bv)) (hg2 : Only (fun k => blk vb = some k) w1 w2) (hb2 : blk vb' = blk vb ∨ ∃ k, blk vb' = some k ∧ w1.heap.size ≤ k) (hl2 : ∀ k, blk vb' = some k → k < w2.heap.size)
    (ho3 : w3.ownsRow w0.heap.size 9 1 vl' (ts.length + 1) (ts.map strV ++ [strV t])) (hg3 : Only (fun k => blk vl = some k) w2 w3) (hb3 : blk vl' = blk vl ∨ ∃ k, blk vl' = some k ∧ w2.heap.size ≤ k) (hl3 : ∀ k, blk vl' = some k → k < w3.heap.size)
    (ht : 1 ≤ t.length ∧ t.length ≤ 65535) (hfit : (bkL (ts ++ [t])).length + 48 ≤ S) : BkIn w0 S (ts ++ [t]) vb' vn vl' w3 := by
  have hne : sNext (sChain z32 ts) t ≠ [] := by intro e; have := sNext_length (sChain z32 ts) t; rw [e] at this; cases this
  have hvb : ∀ k, blk vb = some k → w0.heap.size ≤ k := own_from h.ob
  have hvl : ∀ k, blk vl = some k → w0.heap.size ≤ k := own_from h.ol
  have hbl : ∀ k, blk vl = some k → blk vb' ≠ some k := fun k hk e => by
    rcases hb2 with e2 | ⟨j, e2, hj⟩
    · exact (h.lb k hk).2 (by rw [← e2]; exact e)
    · rw [e2] at e; cases e
      have := (h.lb _ hk).1
      have := n1.size
      omega
  refine ⟨?_, ?_, ?_, ?_, ?_, ?_, fun j hj => Nat.lt_of_lt_of_le (hl2 j hj) hg3.size, ?_, hfit⟩
  · exact Below.trans (Below.trans (Below.trans h.new (n1.mono h.new.size)) (hg2.below (Nat.le_trans h.new.size n1.size) hvb)) (hg3.below (Nat.le_trans (Nat.le_trans h.new.size n1.size) hg2.size) hvl)
  · exact ownsRow_only ho2 hg3 (fun k hk e => hbl k e hk)
  · rw [sChain_snoc]
    refine (hn.only hg2 ?_).only hg3 ?_
    · intro k hk _ e
      have := hnb k hk; have := h.bb k e; omega
    · intro k hk _ e
      have := hnb k hk; have := (h.lb k e).1; omega
  · intro j hj e
    rcases hb2 with e2 | ⟨k, e2, hk⟩
    · have := hnb j hj; have := h.bb j (by rw [← e2]; exact e); omega
    · rw [e2] at e; cases e
      have := hn.lt hj hne; omega
  · rw [List.map_append, List.length_append]; exact ho3
  · intro j hj
    refine ⟨hl3 j hj, fun e => ?_⟩
    rcases hb3 with e3 | ⟨k, e3, hk⟩
    · exact hbl j (by rw [← e3]; exact hj) e
    · rw [e3] at hj; cases hj
      have := hl2 _ e; omega
  · intro x hx
    rcases List.mem_append.1 hx with hx | hx
    · exact h.ok x hx
    · rw [List.mem_singleton.1 hx]; exact ht

theorem BkIn.more {w0 w1 w2 : World} {S : Nat} {ts : List (List UInt8)} {vb vc vl : Value} (h : BkIn w0 S ts vb vc vl w1) (hn : New w1 w2) : BkIn w0 S ts vb vc vl w2 :=
  ⟨New.trans h.new hn, own_more h.ob hn, h.ch.new hn, h.chb, own_more h.ol hn, fun j hj => ⟨Nat.lt_of_lt_of_le (h.lb j hj).1 hn.size, (h.lb j hj).2⟩, fun j hj => Nat.lt_of_lt_of_le (h.bb j hj) hn.size, h.ok, h.fit⟩

theorem rdOwn {w : World} {base : Nat} {e : TypeId} {v : Value} {n : Nat} {l : List UInt8} (h : w.ownsRow base e 1 v n (l.map bv)) : Rd w v l ∧ l.length = n := by
  have h1 := h.1
  rw [List.length_map, Nat.mul_one] at h1
  subst h1
  exact ⟨Rd.of_own h, rfl⟩


set_option maxRecDepth 100000 in
set_option maxHeartbeats 2000000 in
theorem backWalk (w : World) (x : Value) (ps : List (Value × List UInt8)) (hx : RdL w x ps) (sv : Nat) (hsv : sv < 256) (sealed : Bool) (hL : Laid w) :
    Calls Tryd.prog 5 #[x, .int .u8 (sv : Int), .bool sealed] w fun e w' => e = .returned (.bool true) ∧ New w w' := by
  have HX := Lib.hid hx
  have HL := Lib.hid hL
  obtain ⟨ax, nx, cx, rfl, hl, hle, hm, -⟩ := id hx.1
  rw [List.length_map] at hl
  subst hl
  clear hx hL
  have hmk : ∀ wx : World, (Instr.makeSlice 22 (.int .i64 32) (.int .i64 32)).run Tryd.prog wx = .ok (.slice (some ⟨wx.heap.size, 0, none⟩) 32 32) (wx.alloc (.cells (List.replicate 32 (bv 0)).toArray 5)) := fun wx => run_make_bytes 32 32 (by omega) (by omega) (by omega) wx
  have HRd : Hid (∀ wx : World, Rd (wx.alloc (.cells (List.replicate 32 (bv 0)).toArray 5)) (.slice (some ⟨wx.heap.size, 0, none⟩) 32 32) z32) := by
    refine Lib.hid fun wx => ?_
    have h := rd_of_row (w := wx.alloc (.cells (List.replicate 32 (bv 0)).toArray 5)) (g := wx.heap.size) (l := List.replicate 32 0) (t := 5) (fr := (0, 0)) (by rw [List.map_replicate]; exact heap_alloc_new _ _) (by simp)
    rw [List.length_replicate] at h
    exact h
  generalize hR : (List.replicate 32 (bv 0)).toArray = RZ at *
  clear hR
  have HA := Lib.hid (awake13 w HL.out)
  by_cases h1 : 20 < ps.length
  · have h1' : (20 : Int) < (ps.length : Int) := by omega
    have HA2 := Lib.hid (fun wx (hn : New w wx) => awake13 wx (HL.out.new hn))
    go_enter Tryd.func5, Tryd.ntmps5
    go_wp2_with fail
    refine HA.out.mono ?_
    rintro _ w1 ⟨rfl, n1⟩
    go_wp2_with fail
    refine (HA2.out w1 n1).mono ?_
    rintro _ w2 ⟨rfl, n2⟩
    go_wp2
    go_ret
    exact ⟨rfl, New.trans n1 n2⟩
  have h1' : ¬ (20 : Int) < (ps.length : Int) := by omega
  obtain ⟨m14, hm14⟩ : ∃ m14, sv % 14 = m14 := ⟨_, rfl⟩
  have hm14' : m14 < 14 := by omega
  have e1 : (sv : Int) % 14 = (m14 : Int) := by omega
  clear hm14
  obtain ⟨S, HS⟩ : ∃ S, Hid (128 * (2 + m14) = S) := ⟨_, Lib.hid rfl⟩
  have hS : S < 2000 := by have := HS.out; omega
  have eS : (128 : Int) * (2 + (m14 : Int)) = (S : Int) := by have := HS.out; omega
  go_enter Tryd.func5, Tryd.ntmps5
  go_wp2_with fail
  refine HA.out.mono ?_
  rintro _ w1 ⟨rfl, n1⟩
  have HHd := Lib.hid (segHead (w1.alloc (.cells RZ 5)) 7 3 _ z32 (HRd.out w1) (by decide) (by decide) (by decide) (by decide))
  have N2 : New w (w1.alloc (.cells RZ 5)) := New.trans n1 ((Below.refl _ _).alloc (Nat.le_refl _) _)
  go_wp2_with fail
  refine HHd.out.mono ?_
  rintro _ w3 ⟨vb, rfl, ob, n3⟩
  rw [head7, sHead_length 7 3 z32 z32_length] at ob
  obtain ⟨ab, cb, rfl, -, -⟩ := ownSl_form ob
  have N3 := New.trans N2 n3
  have N4 : New w3 (w3.alloc (.cells RZ 5)) := (Below.refl _ _).alloc (Nat.le_refl _) _
  have HIN : Hid (BkIn w S [] (.slice ab 128 cb) (.slice (some ⟨w3.heap.size, 0, none⟩) 32 32) (.slice none 0 0) (w3.alloc (.cells RZ 5))) := by
    have hlt : ∀ j, blk (.slice ab 128 cb) = some j → j < w3.heap.size := fun j hj => (ob.lt j (by rw [← blk_own]; exact hj)).2
    refine Lib.hid ⟨New.trans N3 N4, ?_, HRd.out w3, ?_, World.ownsRow_nil _ _ _ _, by simp [blk], fun j hj => Nat.lt_of_lt_of_le (hlt j hj) N4.size, by simp, ?_⟩
    · rw [bkL_nil, head7, sHead_length 7 3 z32 z32_length]
      exact own_more (own_base ob N2.size) N4
    · intro j hj e
      simp only [blk, Option.some.injEq] at hj
      have := hlt j e
      omega
    · rw [bkL_nil, head7, sHead_length 7 3 z32 z32_length]
      have := HS.out
      omega
  clear ob N2 N3 N4 n1 n3 HHd HA
  go_wp2
  generalize w3.alloc (.cells RZ 5) = w4 at *
  go_loopw [8, 9, 10, 11, 12, 13] (fun vb vc vl i _ _ wr => ∃ k : Nat, k ≤ ps.length ∧ i = .int .i64 k ∧ BkIn w S ((ps.take k).map (·.2)) vb vc vl wr) (fun _ _ _ i _ _ _ => ps.length - (intOf i).toNat)
  case atStart => exact ⟨0, Nat.zero_le _, rfl, HIN.out⟩
  case round =>
    obtain ⟨k, hk, rfl, hin⟩ := hrel
    obtain ⟨ts, Hts⟩ : ∃ ts, Hid ((ps.take k).map (·.2) = ts) := ⟨_, Lib.hid rfl⟩
    rw [Hts.out] at hin
    have Hlen : Hid (ts.length = k) := Lib.hid (by rw [← Hts.out, List.length_map, List.length_take]; omega)
    obtain ⟨lb, Hlb⟩ : ∃ lb, Hid ((bkL ts).length = lb) := ⟨_, Lib.hid rfl⟩
    obtain ⟨ab', cb', eb, -, -⟩ := ownSl_form hin.ob
    rw [Hlb.out] at eb
    obtain ⟨al, cl, el, -, -⟩ := ownSl_form hin.ol
    rw [Hlen.out] at el
    obtain ⟨ac, nc, cc, ec, hnc, -⟩ := id hin.ch
    rw [sChain_length _ _ z32_length] at hnc
    subst hnc eb el ec
    have HI := Lib.hid hin
    have hfit : lb + 48 ≤ S := by have := hin.fit; rw [Hlb.out] at this; exact this
    clear hin HIN
    by_cases hlt : k < ps.length
    · have hli : (k : Int) < (ps.length : Int) := by omega
      obtain ⟨bx, ox, rfl, hcell⟩ := (HX.out.1.new HI.out.new).cell (by omega)
      have hc1 := hcell k (ps[k]).1 (by rw [List.getElem?_map, List.getElem?_eq_getElem hlt]; rfl)
      have HRt := Lib.hid (HX.out.2 ps[k] (List.getElem_mem hlt))
      have HTk : Hid ((ps.take (k + 1)).map (·.2) = ts ++ [(ps[k]).2]) := Lib.hid (by rw [List.take_succ_eq_append_getElem hlt, List.map_append, Hts.out]; rfl)
      have HXc : Hid (∀ wx, New w wx → wx.cell? ⟨bx, ox + k, none⟩ = some (ps[k]).1) := by
        refine Lib.hid fun wx hn => ?_
        obtain ⟨b2, o2, e2, h2⟩ := (HX.out.1.new hn).cell (by omega)
        cases e2
        exact h2 k (ps[k]).1 (by rw [List.getElem?_map, List.getElem?_eq_getElem hlt]; rfl)
      obtain ⟨t, Ht⟩ : ∃ t, Hid ((ps[k]).2 = t) := ⟨_, Lib.hid rfl⟩
      obtain ⟨u, Hu⟩ : ∃ u, Hid ((ps[k]).1 = u) := ⟨_, Lib.hid rfl⟩
      rw [Hu.out] at hc1 HXc
      rw [Ht.out, Hu.out] at HRt
      rw [Ht.out] at HTk
      obtain ⟨at', nt, ct, eu, hnt, -⟩ := id HRt.out
      subst eu
      have HNT := Lib.hid hnt
      clear hnt hcell
      have HFi := Lib.hid (segFits wr (S : Int) (lb : Int) (nt : Int) (by omega) (by omega) (by omega) (by omega))
      obtain ⟨ft, HFt⟩ : ∃ ft, Hid (sFits (S : Int) (lb : Int) (nt : Int) = ft) := ⟨_, Lib.hid rfl⟩
      rw [HFt.out] at HFi
      have hlbi : (lb : Int) ≤ 2000 := by omega
      go_wp2_with fail
      refine HFi.out.mono ?_
      rintro _ w5 ⟨rfl, rfl⟩
      clear HFi
      cases ft with
      | false =>
        cases sealed with
        | false =>
          obtain ⟨m, hm⟩ : ∃ m, lb + m = S := ⟨S - lb, by omega⟩
          have HPq : Hid (sParse (bkL ts ++ List.replicate m 0) 7 3 z32 = ⟨true, ts, sChain z32 ts, false, lb⟩) := by
            refine Lib.hid ?_
            have h := sParse_laid 7 3 z32 ts false m placed7 HI.out.ok (bkL ts ++ List.replicate m 0) (by simp [bkL]) (by rw [List.length_append, List.length_replicate, Hlb.out]; have := HS.out; omega) (by rw [List.length_append, List.length_replicate, Hlb.out]; have := HS.out; omega)
            rw [h]
            have := bkL_length ts
            rw [Hlb.out] at this
            simp only [SegP.mk.injEq, Bool.false_eq_true, if_false, Nat.add_zero, true_and]
            exact this.symm
          have HOq : Hid (wr.ownsRow w.heap.size 5 1 (.slice ab' lb cb') lb ((bkL ts).map bv)) := Lib.hid (by have := HI.out.ob; rw [Hlb.out] at this; exact this)
          have HCq := Lib.hid HI.out.ch
          have HCb := Lib.hid HI.out.chb
          have HLq : Hid (wr.ownsRow w.heap.size 9 1 (.slice al k cl) ts.length (ts.map strV)) := Lib.hid HI.out.ol
          have HLb : Hid (∀ j, blk (.slice al k cl) = some j → blk (.slice ab' lb cb') ≠ some j) := Lib.hid (fun j hj => (HI.out.lb j hj).2)
          have NQ := Lib.hid HI.out.new
          clear HI
          have hnm : lb + m = S := by omega
          have hsub : (S : Int) - (lb : Int) = (m : Int) := by omega
          obtain ⟨v9, w9, happ9, r9, -, hO9⟩ := run_append_zerosO wr w.heap.size ab' lb cb' (bkL ts) (rdOwn HOq.out).1 (.inr HOq.out) NQ.out.size m (by omega)
          have HAPP9 := Lib.hid happ9
          obtain ⟨a9, n9, c9, rfl, hn9, -⟩ := id r9
          have hn9' : n9 = S := by
            rw [← hn9, List.length_append, List.length_replicate]
            have h1 := (rdOwn HOq.out).2
            omega
          subst hn9'
          have HC9 := Lib.hid (HCq.out.only hO9 (fun j hj _ e => HCb.out j hj e))
          have HL9 : Hid (w9.ownsRow w.heap.size 9 1 (.slice al k cl) ts.length (ts.map strV)) := Lib.hid (ownsRow_only HLq.out hO9 (fun j hj e => HLb.out j hj e))
          have N9 : Hid (New w w9) := Lib.hid (Below.trans NQ.out (hO9.below NQ.out.size (fun j hj => own_from HOq.out j hj)))
          have NA : New w9 (w9.alloc (.cells RZ 5)) := (Below.refl _ _).alloc (Nat.le_refl _) _
          have N10 := Lib.hid (New.trans N9.out NA)
          have HC10 := Lib.hid (HC9.out.new NA)
          have HL10 := Lib.hid (own_more HL9.out NA)
          have HPs := Lib.hid (segParse (w9.alloc (.cells RZ 5)) _ _ ((bkL ts) ++ List.replicate m 0) z32 7 3 (r9.new NA) (HRd.out w9) (by rw [hn9]; omega) (by rw [z32_length]; decide) (by decide) (by decide) (by decide) (by decide) (HL.out.new N10.out))
          rw [HPq.out] at HPs
          clear happ9 r9 hO9 NA HC9 HL9 N9 HOq HCq HLq NQ HCb HLb hn9
          go_wp2_with (at_builtin; refine wpList_plain rfl fun K hK => oper_append2 _ _ 22 3 rfl _ _ rfl rfl HAPP9.out (hK _ _ ?_))
          generalize w9.alloc (.cells RZ 5) = w10 at *
          refine HPs.out.mono ?_
          rintro _ w11 ⟨N11, a11, n11, c11, a12, n12, c12, qs, rfl, rq, hqs, rcq⟩
          obtain ⟨gp, Hgp⟩ : ∃ gp, Hid (w11.heap.size = gp) := ⟨_, Lib.hid rfl⟩
          go_upto_region 25 with fail
          generalize hw12 : World.alloc w11 _ = w12
          rw [Hgp.out]
          have HA12 : Hid (At4 w12 gp 36 (.slice a11 n11 c11) (.slice a12 n12 c12) (.bool false) (.int .i64 (lb : Int))) := Lib.hid (by rw [← hw12, ← Hgp.out]; exact heap_alloc_new _ _)
          have M12 : New w11 w12 := by rw [← hw12]; exact (Below.refl _ _).alloc (Nat.le_refl _) _
          have N12 := Lib.hid (New.trans N10.out (New.trans N11 M12))
          have RQ := Lib.hid (rq.new M12)
          have RC := Lib.hid (rcq.new M12)
          have HC12 := Lib.hid (HC10.out.new (New.trans N11 M12))
          have HL12 := Lib.hid (own_more HL10.out (New.trans N11 M12))
          have hql : qs.length = k := by have := congrArg List.length hqs; rw [List.length_map] at this; have := Hlen.out; omega
          clear hw12 M12 N11 rq rcq HC10 HL10 N10 HPs
          obtain ⟨x0, x1, x2, x3⟩ := HA12.out.cells
          go_wp2_with fail
          refine (refTexts w12 _ qs RQ.out (by omega)).mono ?_
          rintro _ w13 ⟨M13, a13, c13, rfl, r13⟩
          rw [hqs] at r13 ⊢
          have HS13 := Lib.hid (refSameEq w13 _ (.slice al k cl) ts r13 (RdV.of_own (own_more HL12.out M13)) (by rw [Hlen.out]; omega))
          have N13 := Lib.hid (New.trans N12.out M13)
          have HA13 := Lib.hid (HA12.out.new M13)
          have RC13 := Lib.hid (RC.out.new M13)
          have HC13 := Lib.hid (HC12.out.new M13)
          clear r13 M13 x0 x1 x2 x3 RQ RC HC12 HL12 HA12 N12
          go_wp2_with fail
          refine HS13.out.mono ?_
          rintro _ w14 ⟨rfl, M14⟩
          obtain ⟨x0, x1, x2, x3⟩ := (HA13.out.new M14).cells
          have k1 := run_str (P := Tryd.prog) Tryd.underlying22 Tryd.underlying5 Tryd.underlying9 (RC13.out.new M14)
          have k2 := run_str (P := Tryd.prog) Tryd.underlying22 Tryd.underlying5 Tryd.underlying9 (HC13.out.new M14)
          have hq : ((bstr (sChain z32 ts)).toList == (bstr (sChain z32 ts)).toList) = true := by simp
          have N14 := Lib.hid (New.trans N13.out M14)
          clear M14 N13 HA13 RC13 HC13 HS13
          generalize bstr (sChain z32 ts) = BC at *
          go_wp2
          go_ret
          exact ⟨rfl, N14.out⟩
        | true =>
          obtain ⟨nq, hnq⟩ : ∃ nq, lb + 48 = nq := ⟨_, rfl⟩
          obtain ⟨m, hm⟩ : ∃ m, nq + m = S := ⟨S - nq, by omega⟩
          have hFo : sFootOf (3 + (k : Int)) (sChain z32 ts) = sFoot (3 + ts.length) (sChain z32 ts) := by
            unfold sFootOf
            rw [if_pos ⟨by omega, sChain_length _ _ z32_length⟩, Hlen.out, show (3 + (k : Int)).toNat = 3 + k by omega]
          have HFo := Lib.hid (segFootPub wr (3 + (k : Int)) _ _ HI.out.ch (by omega) (by omega) (by rw [sChain_length _ _ z32_length]; decide))
          rw [hFo] at HFo
          have hfl : (sFoot (3 + ts.length) (sChain z32 ts)).length = 48 := sFoot_length _ _ (sChain_length _ _ z32_length)
          have HPq : Hid (sParse (bkL ts ++ sFoot (3 + ts.length) (sChain z32 ts) ++ List.replicate m 0) 7 3 z32 = ⟨true, ts, sChain z32 ts, true, nq⟩) := by
            refine Lib.hid ?_
            have h := sParse_laid 7 3 z32 ts true m placed7 HI.out.ok (bkL ts ++ sFoot (3 + ts.length) (sChain z32 ts) ++ List.replicate m 0) (by simp [bkL]) (by rw [List.length_append, List.length_append, List.length_replicate, Hlb.out, hfl]; have := HS.out; omega) (by rw [List.length_append, List.length_append, List.length_replicate, Hlb.out, hfl]; have := HS.out; omega)
            rw [h]
            have := bkL_length ts
            rw [Hlb.out] at this
            simp only [SegP.mk.injEq, if_true, true_and]
            omega
          go_wp2_with fail
          refine HFo.out.mono ?_
          rintro _ w6 ⟨vf, rfl, of, n6⟩
          obtain ⟨af, nf, cf, rfl⟩ := own_slice of
          obtain ⟨i0, hi0, hz0, hz1, hz2⟩ := info_parts infoByte
          have hob6 : w6.ownsRow w.heap.size 5 1 (.slice ab' lb cb') lb ((bkL ts).map bv) := by
            have := own_more HI.out.ob n6
            rw [Hlb.out] at this
            exact this
          obtain ⟨v7, wq, happ7, ho7, hg7, hb7⟩ := run_append_bytes (P := Tryd.prog) w6 w.heap.size 22 22 5 i0 _ Tryd.underlying22 hi0 hz0 hz1 hz2 rfl _ lb _ hob6 (.slice af nf cf) _ (Rd.of_own of) (by rw [hfl]; omega) (New.trans HI.out.new n6).size
          have hO7 : Only (fun k => blk (.slice ab' lb cb') = some k) w6 wq := (Only.refl _ w6).grown hg7 (fun j hj _ => by rw [blk_own]; exact hj)
          rw [hfl, ← List.map_append, hnq] at ho7
          have hb7' : ∀ j, blk v7 = some j → blk (.slice ab' lb cb') = some j ∨ w6.heap.size ≤ j := fun j hj => by
            rw [blk_own] at hj
            rcases hb7 with h | h
            · rw [h, ← blk_own] at hj; exact .inl hj
            · rw [h] at hj; cases hj; exact .inr (Nat.le_refl _)
          obtain ⟨aq, cq, rfl, -, -⟩ := ownSl_form ho7
          have HAPP7 := Lib.hid happ7
          have HOq := Lib.hid ho7
          have NQ : Hid (New w wq) := Lib.hid (Below.trans (New.trans HI.out.new n6) (hO7.below (New.trans HI.out.new n6).size (fun j hj => own_from hob6 j hj)))
          have HCq := Lib.hid ((HI.out.ch.new n6).only hO7 (fun j hj _ e => HI.out.chb j hj e))
          have HLq : Hid (wq.ownsRow w.heap.size 9 1 (.slice al k cl) ts.length (ts.map strV)) := Lib.hid (ownsRow_only (own_more HI.out.ol n6) hO7 (fun j hj e => (HI.out.lb j hj).2 e))
          have HCb : Hid (∀ j, blk (.slice ac 32 cc) = some j → blk (.slice aq nq cq) ≠ some j) := Lib.hid (fun j hj e => by
            rcases hb7' j e with h | h
            · exact HI.out.chb j hj h
            · have := HI.out.ch.lt hj (by intro e0; have := sChain_length z32 ts z32_length; rw [e0] at this; cases this)
              have := n6.size
              omega)
          have HLb : Hid (∀ j, blk (.slice al k cl) = some j → blk (.slice aq nq cq) ≠ some j) := Lib.hid (fun j hj e => by
            rcases hb7' j e with h | h
            · exact (HI.out.lb j hj).2 h
            · have := (HI.out.lb j hj).1
              have := n6.size
              omega)
          clear of n6 happ7 ho7 hg7 hb7 hb7' hO7 hob6 hi0 hz0 hz1 hz2 HFo hFo HI
          generalize bkL ts ++ sFoot (3 + ts.length) (sChain z32 ts) = Lq at *
          have Hnqi : Hid ((nq : Int) = (lb : Int) + 48) := Lib.hid (by omega)
          have Hnq := Lib.hid hnq
          clear hnq
          have hnm : nq + m = S := by omega
          have hsub : (S : Int) - (nq : Int) = (m : Int) := by omega
          obtain ⟨v9, w9, happ9, r9, -, hO9⟩ := run_append_zerosO wq w.heap.size aq nq cq Lq (rdOwn HOq.out).1 (.inr HOq.out) NQ.out.size m (by omega)
          have HAPP9 := Lib.hid happ9
          obtain ⟨a9, n9, c9, rfl, hn9, -⟩ := id r9
          have hn9' : n9 = S := by
            rw [← hn9, List.length_append, List.length_replicate]
            have h1 := (rdOwn HOq.out).2
            omega
          subst hn9'
          have HC9 := Lib.hid (HCq.out.only hO9 (fun j hj _ e => HCb.out j hj e))
          have HL9 : Hid (w9.ownsRow w.heap.size 9 1 (.slice al k cl) ts.length (ts.map strV)) := Lib.hid (ownsRow_only HLq.out hO9 (fun j hj e => HLb.out j hj e))
          have N9 : Hid (New w w9) := Lib.hid (Below.trans NQ.out (hO9.below NQ.out.size (fun j hj => own_from HOq.out j hj)))
          have NA : New w9 (w9.alloc (.cells RZ 5)) := (Below.refl _ _).alloc (Nat.le_refl _) _
          have N10 := Lib.hid (New.trans N9.out NA)
          have HC10 := Lib.hid (HC9.out.new NA)
          have HL10 := Lib.hid (own_more HL9.out NA)
          have HPs := Lib.hid (segParse (w9.alloc (.cells RZ 5)) _ _ (Lq ++ List.replicate m 0) z32 7 3 (r9.new NA) (HRd.out w9) (by rw [hn9]; omega) (by rw [z32_length]; decide) (by decide) (by decide) (by decide) (by decide) (HL.out.new N10.out))
          rw [HPq.out] at HPs
          clear happ9 r9 hO9 NA HC9 HL9 N9 HOq HCq HLq NQ HCb HLb hn9
          go_wp2_with (at_builtin; first | refine wpList_app1 rfl _ _ 22 rfl _ _ rfl rfl HAPP7.out ?_ | refine wpList_plain rfl fun K hK => oper_append2 _ _ 22 3 rfl _ _ rfl rfl HAPP9.out (hK _ _ ?_))
          generalize w9.alloc (.cells RZ 5) = w10 at *
          refine HPs.out.mono ?_
          rintro _ w11 ⟨N11, a11, n11, c11, a12, n12, c12, qs, rfl, rq, hqs, rcq⟩
          obtain ⟨gp, Hgp⟩ : ∃ gp, Hid (w11.heap.size = gp) := ⟨_, Lib.hid rfl⟩
          go_upto_region 25 with fail
          generalize hw12 : World.alloc w11 _ = w12
          rw [Hgp.out]
          have HA12 : Hid (At4 w12 gp 36 (.slice a11 n11 c11) (.slice a12 n12 c12) (.bool true) (.int .i64 (nq : Int))) := Lib.hid (by rw [← hw12, ← Hgp.out]; exact heap_alloc_new _ _)
          have M12 : New w11 w12 := by rw [← hw12]; exact (Below.refl _ _).alloc (Nat.le_refl _) _
          have N12 := Lib.hid (New.trans N10.out (New.trans N11 M12))
          have RQ := Lib.hid (rq.new M12)
          have RC := Lib.hid (rcq.new M12)
          have HC12 := Lib.hid (HC10.out.new (New.trans N11 M12))
          have HL12 := Lib.hid (own_more HL10.out (New.trans N11 M12))
          have hql : qs.length = k := by have := congrArg List.length hqs; rw [List.length_map] at this; have := Hlen.out; omega
          clear hw12 M12 N11 rq rcq HC10 HL10 N10 HPs
          obtain ⟨x0, x1, x2, x3⟩ := HA12.out.cells
          go_wp2_with fail
          refine (refTexts w12 _ qs RQ.out (by omega)).mono ?_
          rintro _ w13 ⟨M13, a13, c13, rfl, r13⟩
          rw [hqs] at r13 ⊢
          have HS13 := Lib.hid (refSameEq w13 _ (.slice al k cl) ts r13 (RdV.of_own (own_more HL12.out M13)) (by rw [Hlen.out]; omega))
          have N13 := Lib.hid (New.trans N12.out M13)
          have HA13 := Lib.hid (HA12.out.new M13)
          have RC13 := Lib.hid (RC.out.new M13)
          have HC13 := Lib.hid (HC12.out.new M13)
          clear r13 M13 x0 x1 x2 x3 RQ RC HC12 HL12 HA12 N12
          go_wp2_with fail
          refine HS13.out.mono ?_
          rintro _ w14 ⟨rfl, M14⟩
          obtain ⟨x0, x1, x2, x3⟩ := (HA13.out.new M14).cells
          have k1 := run_str (P := Tryd.prog) Tryd.underlying22 Tryd.underlying5 Tryd.underlying9 (RC13.out.new M14)
          have k2 := run_str (P := Tryd.prog) Tryd.underlying22 Tryd.underlying5 Tryd.underlying9 (HC13.out.new M14)
          have hq : ((bstr (sChain z32 ts)).toList == (bstr (sChain z32 ts)).toList) = true := by simp
          have N14 := Lib.hid (New.trans N13.out M14)
          clear M14 N13 HA13 RC13 HC13 HS13
          generalize bstr (sChain z32 ts) = BC at *
          rw [Hnqi.out] at x3
          go_wp2
          go_ret
          exact ⟨rfl, N14.out⟩
      | true =>
        have hF := of_decide_eq_true HFt.out
        have hnt1 : 1 ≤ nt := by omega
        have hnt2 : nt ≤ 65535 := by omega
        have hfit2 : lb + nt + 88 ≤ S := by omega
        have hfr : sFramed (sChain z32 ts) t := ⟨by rw [HNT.out]; omega, sChain_length _ _ z32_length⟩
        have HFr := Lib.hid (segFrame wr _ _ _ t HI.out.ch (HRt.out.new HI.out.new) (HL.out.new HI.out.new))
        rw [if_pos hfr, if_pos hfr] at HFr
        clear hF hfr HFt
        go_wp2_with fail
        refine HFr.out.mono ?_
        rintro _ w6 ⟨vf, an, nn, cn, rfl, of, rn, bn, -, n6⟩
        obtain ⟨af, nf, cf, rfl⟩ := own_slice of
        obtain ⟨i0, hi0, hz0, hz1, hz2⟩ := info_parts infoByte
        have hob6 : w6.ownsRow w.heap.size 5 1 (.slice ab' lb cb') lb ((bkL ts).map bv) := by
          have := own_more HI.out.ob n6
          rw [Hlb.out] at this
          exact this
        have hfl : (sFrame (sChain z32 ts) t).length = nt + 40 := by rw [sFrame_length, HNT.out]
        obtain ⟨v7, w7, happ7, ho7, hg7, hb7⟩ := run_append_bytes (P := Tryd.prog) w6 w.heap.size 22 22 5 i0 _ Tryd.underlying22 hi0 hz0 hz1 hz2 rfl _ lb _ hob6 (.slice af nf cf) _ (Rd.of_own of) (by rw [hfl]; omega) (New.trans HI.out.new n6).size
        have hO7 : Only (fun k => blk (.slice ab' lb cb') = some k) w6 w7 := (Only.refl _ w6).grown hg7 (fun j hj _ => by rw [blk_own]; exact hj)
        rw [hfl, ← List.map_append, ← bkL_snoc] at ho7
        have hbl : (bkL (ts ++ [t])).length = lb + (nt + 40) := by rw [bkL_snoc, List.length_append, Hlb.out, hfl]
        have hlt7 : ∀ j, blk v7 = some j → j < w7.heap.size := fun j hj => (ho7.lt j (by rw [← blk_own]; exact hj)).2
        have N7 : New w w7 := Below.trans (New.trans HI.out.new n6) (hO7.below (New.trans HI.out.new n6).size (fun j hj => own_from hob6 j hj))
        have hol7 : w7.ownsRow w.heap.size 9 1 (.slice al k cl) ts.length (ts.map strV) := ownsRow_only (own_more HI.out.ol n6) hO7 (fun j hj e => (HI.out.lb j hj).2 e)
        obtain ⟨a7, c7, rfl, -, -⟩ := ownSl_form ho7
        obtain ⟨j0, hj0, hy0, hy1, hy2⟩ := info_parts infoStr
        obtain ⟨v8, w8, happ8, ho8, hO8, hb8, hlt8⟩ := run_append_u (P := Tryd.prog) w.heap.size w7 39 39 9 j0 _ 16 Tryd.underlying39 hj0 hy0 hy1 hy2 rfl _ ts.length _ hol7 (.string (bstr t)) rfl (by rw [Hlen.out]; omega) (by rw [Hlen.out]; omega) N7.size
        have HPU := Lib.hid (HI.out.push (t := t) n6 rn bn (by rw [hbl]; exact ho7) hO7 (by
          rw [blk_own, blk_own]
          rcases hb7 with h | h
          · exact .inl h
          · exact .inr ⟨_, h, Nat.le_refl _⟩) hlt7 ho8 hO8 hb8 hlt8 ⟨by rw [HNT.out]; omega, by rw [HNT.out]; omega⟩ (by rw [hbl]; omega))
        have HAPP7 := Lib.hid happ7
        have HAPP8 := Lib.hid happ8
        have hst7 := run_str (P := Tryd.prog) Tryd.underlying22 Tryd.underlying5 Tryd.underlying9 (HRt.out.new N7)
        have hc7 := HXc.out w7 N7
        have hnn := rn.len
        rw [sNext_length] at hnn
        subst hnn
        clear of rn bn n6 happ7 happ8 ho7 hg7 hb7 hO7 hlt7 hol7 ho8 hO8 hb8 hlt8 hob6 hbl hfl hi0 hz0 hz1 hz2 hj0 hy0 hy1 hy2 HFr N7
        generalize bstr t = BT at *
        go_wp2_with (at_builtin; first | refine wpList_app1 rfl _ _ 22 rfl _ _ rfl rfl HAPP7.out ?_ | refine wpList_app1 rfl _ _ 39 rfl _ _ rfl rfl HAPP8.out ?_)
        exact ⟨⟨k + 1, by omega, congrArg (Value.int .i64) (by omega), by rw [HTk.out]; exact HPU.out⟩, by simp [intOf]; omega⟩
    · have hli' : ¬ (k : Int) < (ps.length : Int) := by omega
      cases sealed with
      | false =>
        obtain ⟨m, hm⟩ : ∃ m, lb + m = S := ⟨S - lb, by omega⟩
        have HPq : Hid (sParse (bkL ts ++ List.replicate m 0) 7 3 z32 = ⟨true, ts, sChain z32 ts, false, lb⟩) := by
          refine Lib.hid ?_
          have h := sParse_laid 7 3 z32 ts false m placed7 HI.out.ok (bkL ts ++ List.replicate m 0) (by simp [bkL]) (by rw [List.length_append, List.length_replicate, Hlb.out]; have := HS.out; omega) (by rw [List.length_append, List.length_replicate, Hlb.out]; have := HS.out; omega)
          rw [h]
          have := bkL_length ts
          rw [Hlb.out] at this
          simp only [SegP.mk.injEq, Bool.false_eq_true, if_false, Nat.add_zero, true_and]
          exact this.symm
        have HOq : Hid (wr.ownsRow w.heap.size 5 1 (.slice ab' lb cb') lb ((bkL ts).map bv)) := Lib.hid (by have := HI.out.ob; rw [Hlb.out] at this; exact this)
        have HCq := Lib.hid HI.out.ch
        have HCb := Lib.hid HI.out.chb
        have HLq : Hid (wr.ownsRow w.heap.size 9 1 (.slice al k cl) ts.length (ts.map strV)) := Lib.hid HI.out.ol
        have HLb : Hid (∀ j, blk (.slice al k cl) = some j → blk (.slice ab' lb cb') ≠ some j) := Lib.hid (fun j hj => (HI.out.lb j hj).2)
        have NQ := Lib.hid HI.out.new
        clear HI
        have hnm : lb + m = S := by omega
        have hsub : (S : Int) - (lb : Int) = (m : Int) := by omega
        obtain ⟨v9, w9, happ9, r9, -, hO9⟩ := run_append_zerosO wr w.heap.size ab' lb cb' (bkL ts) (rdOwn HOq.out).1 (.inr HOq.out) NQ.out.size m (by omega)
        have HAPP9 := Lib.hid happ9
        obtain ⟨a9, n9, c9, rfl, hn9, -⟩ := id r9
        have hn9' : n9 = S := by
          rw [← hn9, List.length_append, List.length_replicate]
          have h1 := (rdOwn HOq.out).2
          omega
        subst hn9'
        have HC9 := Lib.hid (HCq.out.only hO9 (fun j hj _ e => HCb.out j hj e))
        have HL9 : Hid (w9.ownsRow w.heap.size 9 1 (.slice al k cl) ts.length (ts.map strV)) := Lib.hid (ownsRow_only HLq.out hO9 (fun j hj e => HLb.out j hj e))
        have N9 : Hid (New w w9) := Lib.hid (Below.trans NQ.out (hO9.below NQ.out.size (fun j hj => own_from HOq.out j hj)))
        have NA : New w9 (w9.alloc (.cells RZ 5)) := (Below.refl _ _).alloc (Nat.le_refl _) _
        have N10 := Lib.hid (New.trans N9.out NA)
        have HC10 := Lib.hid (HC9.out.new NA)
        have HL10 := Lib.hid (own_more HL9.out NA)
        have HPs := Lib.hid (segParse (w9.alloc (.cells RZ 5)) _ _ ((bkL ts) ++ List.replicate m 0) z32 7 3 (r9.new NA) (HRd.out w9) (by rw [hn9]; omega) (by rw [z32_length]; decide) (by decide) (by decide) (by decide) (by decide) (HL.out.new N10.out))
        rw [HPq.out] at HPs
        clear happ9 r9 hO9 NA HC9 HL9 N9 HOq HCq HLq NQ HCb HLb hn9
        go_wp2_with (at_builtin; refine wpList_plain rfl fun K hK => oper_append2 _ _ 22 3 rfl _ _ rfl rfl HAPP9.out (hK _ _ ?_))
        generalize w9.alloc (.cells RZ 5) = w10 at *
        refine HPs.out.mono ?_
        rintro _ w11 ⟨N11, a11, n11, c11, a12, n12, c12, qs, rfl, rq, hqs, rcq⟩
        obtain ⟨gp, Hgp⟩ : ∃ gp, Hid (w11.heap.size = gp) := ⟨_, Lib.hid rfl⟩
        go_upto_region 25 with fail
        generalize hw12 : World.alloc w11 _ = w12
        rw [Hgp.out]
        have HA12 : Hid (At4 w12 gp 36 (.slice a11 n11 c11) (.slice a12 n12 c12) (.bool false) (.int .i64 (lb : Int))) := Lib.hid (by rw [← hw12, ← Hgp.out]; exact heap_alloc_new _ _)
        have M12 : New w11 w12 := by rw [← hw12]; exact (Below.refl _ _).alloc (Nat.le_refl _) _
        have N12 := Lib.hid (New.trans N10.out (New.trans N11 M12))
        have RQ := Lib.hid (rq.new M12)
        have RC := Lib.hid (rcq.new M12)
        have HC12 := Lib.hid (HC10.out.new (New.trans N11 M12))
        have HL12 := Lib.hid (own_more HL10.out (New.trans N11 M12))
        have hql : qs.length = k := by have := congrArg List.length hqs; rw [List.length_map] at this; have := Hlen.out; omega
        clear hw12 M12 N11 rq rcq HC10 HL10 N10 HPs
        obtain ⟨x0, x1, x2, x3⟩ := HA12.out.cells
        go_wp2_with fail
        refine (refTexts w12 _ qs RQ.out (by omega)).mono ?_
        rintro _ w13 ⟨M13, a13, c13, rfl, r13⟩
        rw [hqs] at r13 ⊢
        have HS13 := Lib.hid (refSameEq w13 _ (.slice al k cl) ts r13 (RdV.of_own (own_more HL12.out M13)) (by rw [Hlen.out]; omega))
        have N13 := Lib.hid (New.trans N12.out M13)
        have HA13 := Lib.hid (HA12.out.new M13)
        have RC13 := Lib.hid (RC.out.new M13)
        have HC13 := Lib.hid (HC12.out.new M13)
        clear r13 M13 x0 x1 x2 x3 RQ RC HC12 HL12 HA12 N12
        go_wp2_with fail
        refine HS13.out.mono ?_
        rintro _ w14 ⟨rfl, M14⟩
        obtain ⟨x0, x1, x2, x3⟩ := (HA13.out.new M14).cells
        have k1 := run_str (P := Tryd.prog) Tryd.underlying22 Tryd.underlying5 Tryd.underlying9 (RC13.out.new M14)
        have k2 := run_str (P := Tryd.prog) Tryd.underlying22 Tryd.underlying5 Tryd.underlying9 (HC13.out.new M14)
        have hq : ((bstr (sChain z32 ts)).toList == (bstr (sChain z32 ts)).toList) = true := by simp
        have N14 := Lib.hid (New.trans N13.out M14)
        clear M14 N13 HA13 RC13 HC13 HS13
        generalize bstr (sChain z32 ts) = BC at *
        go_wp2
        go_ret
        exact ⟨rfl, N14.out⟩
      | true =>
        obtain ⟨nq, hnq⟩ : ∃ nq, lb + 48 = nq := ⟨_, rfl⟩
        obtain ⟨m, hm⟩ : ∃ m, nq + m = S := ⟨S - nq, by omega⟩
        have hFo : sFootOf (3 + (k : Int)) (sChain z32 ts) = sFoot (3 + ts.length) (sChain z32 ts) := by
          unfold sFootOf
          rw [if_pos ⟨by omega, sChain_length _ _ z32_length⟩, Hlen.out, show (3 + (k : Int)).toNat = 3 + k by omega]
        have HFo := Lib.hid (segFootPub wr (3 + (k : Int)) _ _ HI.out.ch (by omega) (by omega) (by rw [sChain_length _ _ z32_length]; decide))
        rw [hFo] at HFo
        have hfl : (sFoot (3 + ts.length) (sChain z32 ts)).length = 48 := sFoot_length _ _ (sChain_length _ _ z32_length)
        have HPq : Hid (sParse (bkL ts ++ sFoot (3 + ts.length) (sChain z32 ts) ++ List.replicate m 0) 7 3 z32 = ⟨true, ts, sChain z32 ts, true, nq⟩) := by
          refine Lib.hid ?_
          have h := sParse_laid 7 3 z32 ts true m placed7 HI.out.ok (bkL ts ++ sFoot (3 + ts.length) (sChain z32 ts) ++ List.replicate m 0) (by simp [bkL]) (by rw [List.length_append, List.length_append, List.length_replicate, Hlb.out, hfl]; have := HS.out; omega) (by rw [List.length_append, List.length_append, List.length_replicate, Hlb.out, hfl]; have := HS.out; omega)
          rw [h]
          have := bkL_length ts
          rw [Hlb.out] at this
          simp only [SegP.mk.injEq, if_true, true_and]
          omega
        go_wp2_with fail
        refine HFo.out.mono ?_
        rintro _ w6 ⟨vf, rfl, of, n6⟩
        obtain ⟨af, nf, cf, rfl⟩ := own_slice of
        obtain ⟨i0, hi0, hz0, hz1, hz2⟩ := info_parts infoByte
        have hob6 : w6.ownsRow w.heap.size 5 1 (.slice ab' lb cb') lb ((bkL ts).map bv) := by
          have := own_more HI.out.ob n6
          rw [Hlb.out] at this
          exact this
        obtain ⟨v7, wq, happ7, ho7, hg7, hb7⟩ := run_append_bytes (P := Tryd.prog) w6 w.heap.size 22 22 5 i0 _ Tryd.underlying22 hi0 hz0 hz1 hz2 rfl _ lb _ hob6 (.slice af nf cf) _ (Rd.of_own of) (by rw [hfl]; omega) (New.trans HI.out.new n6).size
        have hO7 : Only (fun k => blk (.slice ab' lb cb') = some k) w6 wq := (Only.refl _ w6).grown hg7 (fun j hj _ => by rw [blk_own]; exact hj)
        rw [hfl, ← List.map_append, hnq] at ho7
        have hb7' : ∀ j, blk v7 = some j → blk (.slice ab' lb cb') = some j ∨ w6.heap.size ≤ j := fun j hj => by
          rw [blk_own] at hj
          rcases hb7 with h | h
          · rw [h, ← blk_own] at hj; exact .inl hj
          · rw [h] at hj; cases hj; exact .inr (Nat.le_refl _)
        obtain ⟨aq, cq, rfl, -, -⟩ := ownSl_form ho7
        have HAPP7 := Lib.hid happ7
        have HOq := Lib.hid ho7
        have NQ : Hid (New w wq) := Lib.hid (Below.trans (New.trans HI.out.new n6) (hO7.below (New.trans HI.out.new n6).size (fun j hj => own_from hob6 j hj)))
        have HCq := Lib.hid ((HI.out.ch.new n6).only hO7 (fun j hj _ e => HI.out.chb j hj e))
        have HLq : Hid (wq.ownsRow w.heap.size 9 1 (.slice al k cl) ts.length (ts.map strV)) := Lib.hid (ownsRow_only (own_more HI.out.ol n6) hO7 (fun j hj e => (HI.out.lb j hj).2 e))
        have HCb : Hid (∀ j, blk (.slice ac 32 cc) = some j → blk (.slice aq nq cq) ≠ some j) := Lib.hid (fun j hj e => by
          rcases hb7' j e with h | h
          · exact HI.out.chb j hj h
          · have := HI.out.ch.lt hj (by intro e0; have := sChain_length z32 ts z32_length; rw [e0] at this; cases this)
            have := n6.size
            omega)
        have HLb : Hid (∀ j, blk (.slice al k cl) = some j → blk (.slice aq nq cq) ≠ some j) := Lib.hid (fun j hj e => by
          rcases hb7' j e with h | h
          · exact (HI.out.lb j hj).2 h
          · have := (HI.out.lb j hj).1
            have := n6.size
            omega)
        clear of n6 happ7 ho7 hg7 hb7 hb7' hO7 hob6 hi0 hz0 hz1 hz2 HFo hFo HI
        generalize bkL ts ++ sFoot (3 + ts.length) (sChain z32 ts) = Lq at *
        have Hnqi : Hid ((nq : Int) = (lb : Int) + 48) := Lib.hid (by omega)
        have Hnq := Lib.hid hnq
        clear hnq
        have hnm : nq + m = S := by omega
        have hsub : (S : Int) - (nq : Int) = (m : Int) := by omega
        obtain ⟨v9, w9, happ9, r9, -, hO9⟩ := run_append_zerosO wq w.heap.size aq nq cq Lq (rdOwn HOq.out).1 (.inr HOq.out) NQ.out.size m (by omega)
        have HAPP9 := Lib.hid happ9
        obtain ⟨a9, n9, c9, rfl, hn9, -⟩ := id r9
        have hn9' : n9 = S := by
          rw [← hn9, List.length_append, List.length_replicate]
          have h1 := (rdOwn HOq.out).2
          omega
        subst hn9'
        have HC9 := Lib.hid (HCq.out.only hO9 (fun j hj _ e => HCb.out j hj e))
        have HL9 : Hid (w9.ownsRow w.heap.size 9 1 (.slice al k cl) ts.length (ts.map strV)) := Lib.hid (ownsRow_only HLq.out hO9 (fun j hj e => HLb.out j hj e))
        have N9 : Hid (New w w9) := Lib.hid (Below.trans NQ.out (hO9.below NQ.out.size (fun j hj => own_from HOq.out j hj)))
        have NA : New w9 (w9.alloc (.cells RZ 5)) := (Below.refl _ _).alloc (Nat.le_refl _) _
        have N10 := Lib.hid (New.trans N9.out NA)
        have HC10 := Lib.hid (HC9.out.new NA)
        have HL10 := Lib.hid (own_more HL9.out NA)
        have HPs := Lib.hid (segParse (w9.alloc (.cells RZ 5)) _ _ (Lq ++ List.replicate m 0) z32 7 3 (r9.new NA) (HRd.out w9) (by rw [hn9]; omega) (by rw [z32_length]; decide) (by decide) (by decide) (by decide) (by decide) (HL.out.new N10.out))
        rw [HPq.out] at HPs
        clear happ9 r9 hO9 NA HC9 HL9 N9 HOq HCq HLq NQ HCb HLb hn9
        go_wp2_with (at_builtin; first | refine wpList_app1 rfl _ _ 22 rfl _ _ rfl rfl HAPP7.out ?_ | refine wpList_plain rfl fun K hK => oper_append2 _ _ 22 3 rfl _ _ rfl rfl HAPP9.out (hK _ _ ?_))
        generalize w9.alloc (.cells RZ 5) = w10 at *
        refine HPs.out.mono ?_
        rintro _ w11 ⟨N11, a11, n11, c11, a12, n12, c12, qs, rfl, rq, hqs, rcq⟩
        obtain ⟨gp, Hgp⟩ : ∃ gp, Hid (w11.heap.size = gp) := ⟨_, Lib.hid rfl⟩
        go_upto_region 25 with fail
        generalize hw12 : World.alloc w11 _ = w12
        rw [Hgp.out]
        have HA12 : Hid (At4 w12 gp 36 (.slice a11 n11 c11) (.slice a12 n12 c12) (.bool true) (.int .i64 (nq : Int))) := Lib.hid (by rw [← hw12, ← Hgp.out]; exact heap_alloc_new _ _)
        have M12 : New w11 w12 := by rw [← hw12]; exact (Below.refl _ _).alloc (Nat.le_refl _) _
        have N12 := Lib.hid (New.trans N10.out (New.trans N11 M12))
        have RQ := Lib.hid (rq.new M12)
        have RC := Lib.hid (rcq.new M12)
        have HC12 := Lib.hid (HC10.out.new (New.trans N11 M12))
        have HL12 := Lib.hid (own_more HL10.out (New.trans N11 M12))
        have hql : qs.length = k := by have := congrArg List.length hqs; rw [List.length_map] at this; have := Hlen.out; omega
        clear hw12 M12 N11 rq rcq HC10 HL10 N10 HPs
        obtain ⟨x0, x1, x2, x3⟩ := HA12.out.cells
        go_wp2_with fail
        refine (refTexts w12 _ qs RQ.out (by omega)).mono ?_
        rintro _ w13 ⟨M13, a13, c13, rfl, r13⟩
        rw [hqs] at r13 ⊢
        have HS13 := Lib.hid (refSameEq w13 _ (.slice al k cl) ts r13 (RdV.of_own (own_more HL12.out M13)) (by rw [Hlen.out]; omega))
        have N13 := Lib.hid (New.trans N12.out M13)
        have HA13 := Lib.hid (HA12.out.new M13)
        have RC13 := Lib.hid (RC.out.new M13)
        have HC13 := Lib.hid (HC12.out.new M13)
        clear r13 M13 x0 x1 x2 x3 RQ RC HC12 HL12 HA12 N12
        go_wp2_with fail
        refine HS13.out.mono ?_
        rintro _ w14 ⟨rfl, M14⟩
        obtain ⟨x0, x1, x2, x3⟩ := (HA13.out.new M14).cells
        have k1 := run_str (P := Tryd.prog) Tryd.underlying22 Tryd.underlying5 Tryd.underlying9 (RC13.out.new M14)
        have k2 := run_str (P := Tryd.prog) Tryd.underlying22 Tryd.underlying5 Tryd.underlying9 (HC13.out.new M14)
        have hq : ((bstr (sChain z32 ts)).toList == (bstr (sChain z32 ts)).toList) = true := by simp
        have N14 := Lib.hid (New.trans N13.out M14)
        clear M14 N13 HA13 RC13 HC13 HS13
        generalize bstr (sChain z32 ts) = BC at *
        rw [Hnqi.out] at x3
        go_wp2
        go_ret
        exact ⟨rfl, N14.out⟩

theorem backLaw (w : World) (x : Value) (ps : List (Value × List UInt8)) (hx : RdL w x ps) (a : Int) (ha : (Lit.int .u8 a).wf = true) (sealed : Bool) (hL : Laid w) :
    Calls Tryd.prog 5 #[x, .int .u8 a, .bool sealed] w fun e w' => e = .returned (.bool true) ∧ New w w' := by
  have h := wf_u8_lt ha
  obtain ⟨n, rfl⟩ := Int.eq_ofNat_of_zero_le h.1
  exact backWalk w x ps hx n (by omega) sealed hL

end Go.Proofs.YtjkhklbeimgggaaDoor
