/-
  keys: refusal, Put, Shred, Get.
-/
import Derived.Test.YtnekcdpfphgpbaaKeySto
import Derived.Test.YtnekcdpfphgpbaaKeyPrs
namespace Go.Proofs.Ytnekcdpfphgpbaa
set_option linter.unusedVariables false
set_option linter.unusedSimpArgs false
set_option maxRecDepth 100000
open Go.RowKit

theorem rd_form {w : World} {v : Value} {l : List UInt8} (h : Rd w v l) (hl : l ≠ []) : ∃ g o c, v = .slice (some ⟨g, o, none⟩) l.length c := by
  obtain ⟨a, n, c, rfl, h1, h2, h3, h4, h5⟩ := h
  cases a with
  | none => exact absurd (List.eq_nil_of_length_eq_zero (by rw [h1]; exact (h4 rfl).1)) hl
  | some ad =>
    obtain ⟨b, off, spot⟩ := ad
    have hs : spot = none := by
      cases l with
      | nil => exact absurd rfl hl
      | cons u r =>
        have := h5 _ rfl 0 u rfl
        simp only [Addr.add, if_pos] at this
        unfold World.cell? at this
        split at this
        · cases spot with
          | none => rfl
          | some _ => simp at this
        · cases this
    subst hs
    exact ⟨b, off, c, by rw [h1]⟩

/-- why a key can't be put -/
def kRef (L : List KSlot) (b : Nat) : Int := if (kFind L b).isSome then 31 else if L.findIdx? (·.isNone) = none then 21 else 0

set_option maxHeartbeats 1000000 in
theorem keyRefusal {w : World} {F : Nat → Prop} {p sl g frm : Nat} {L : List KSlot} (h : KTab w F p sl g frm L false) (b : Nat) (hb : b ≤ 1099511627776) (a : Option Addr) (c : Nat) :
    Calls Try.prog 28 #[.pointer (some ⟨p, 0, none⟩), .int .i64 (b : Int), .slice a 32 c] w fun e w' => e = .returned (.int .i64 (kRef L b)) ∧ New w w' := by
  have H := Lib.hid h
  have HW := Lib.hid (keyWithin w (b : Int) 0 1099511627776)
  have hd : decide (0 ≤ (b : Int) ∧ (b : Int) ≤ 1099511627776) = true := by simp; omega
  rw [hd] at HW
  have HO := Lib.hid (keyOf h b)
  obtain ⟨R, HR⟩ : ∃ R, Hid (kRef L b = R) := ⟨_, Lib.hid rfl⟩
  rw [HR.out]
  obtain ⟨-, -, -, x3⟩ := h.at_.cells
  clear h hd hb
  go_enter Try.func28, Try.ntmps28
  go_wp2_with fail
  refine HW.out.mono ?_
  rintro _ w1 ⟨rfl, rfl⟩
  clear HW
  cases hf : kFind L b with
  | some i =>
    have he : firstI (kHas b) L = (i : Int) := by unfold firstI; rw [show L.findIdx? (kHas b) = some i from hf]
    have HE : Hid (R = 31) := Lib.hid (by rw [← HR.out]; unfold kRef; rw [hf]; rfl)
    rw [he] at HO
    clear hf he
    go_wp2_with fail
    refine HO.out.mono ?_
    rintro _ w2 ⟨rfl, N2⟩
    have N2 := Lib.hid N2
    clear HO
    go_wp2
    go_ret
    exact ⟨by rw [HE.out]; rfl, N2.out⟩
  | none =>
    have he : firstI (kHas b) L = -1 := by unfold firstI; rw [show L.findIdx? (kHas b) = none from hf]
    rw [he] at HO
    have HK := Lib.hid hf
    clear hf he
    go_wp2_with fail
    refine HO.out.mono ?_
    rintro _ w2 ⟨rfl, N2⟩
    have N2 := Lib.hid N2
    have HF := Lib.hid (keyFree (H.out.new N2.out))
    clear HO
    cases hn : L.findIdx? (·.isNone) with
    | some i =>
      have he : firstI (·.isNone) L = (i : Int) := by unfold firstI; rw [hn]
      have HE : Hid (R = 0) := Lib.hid (by rw [← HR.out]; unfold kRef; rw [HK.out, hn]; rfl)
      rw [he] at HF
      clear hn he
      go_wp2_with fail
      refine HF.out.mono ?_
      rintro _ w3 ⟨rfl, N3⟩
      have N3 := Lib.hid N3
      go_wp2
      go_ret
      exact ⟨by rw [HE.out]; rfl, New.trans N2.out N3.out⟩
    | none =>
      have he : firstI (·.isNone) L = -1 := by unfold firstI; rw [hn]
      have HE : Hid (R = 21) := Lib.hid (by rw [← HR.out]; unfold kRef; rw [HK.out, hn]; rfl)
      rw [he] at HF
      clear hn he
      go_wp2_with fail
      refine HF.out.mono ?_
      rintro _ w3 ⟨rfl, N3⟩
      have N3 := Lib.hid N3
      go_wp2
      go_ret
      exact ⟨by rw [HE.out]; rfl, New.trans N2.out N3.out⟩

set_option maxHeartbeats 1000000 in
theorem keyPutNo {w : World} {F : Nat → Prop} {p sl g frm : Nat} {L : List KSlot} (h : KTab w F p sl g frm L false) (b : Nat) (x : Value) (k : List UInt8) (hb : b ≤ 1099511627776) (hk : k.length = 32) (hx : Rd w x k) (hno : kFind L b ≠ none ∨ L.findIdx? (·.isNone) = none) :
    Calls Try.prog 12 #[.pointer (some ⟨p, 0, none⟩), .int .i64 (b : Int), x] w fun e w' => (∃ y, e = .returned (.iface 102 y)) ∧ New w w' := by
  obtain ⟨gx, ox, cx, rfl⟩ := rd_form hx (by intro e; rw [e] at hk; cases hk)
  rw [hk]
  have HR := Lib.hid (keyRefusal h b hb (some ⟨gx, ox, none⟩) cx)
  have hr : kRef L b = 31 ∨ kRef L b = 21 := by
    unfold kRef
    cases hf : kFind L b with
    | some i => left; rfl
    | none =>
      rcases hno with h1 | h1
      · exact absurd hf h1
      · right; rw [h1]; rfl
  generalize kRef L b = R at *
  clear hno hx h hb hk
  go_enter Try.func12, Try.ntmps12
  go_wp2_with fail
  refine HR.out.mono ?_
  rintro _ w1 ⟨rfl, N1⟩
  have N1 := Lib.hid N1
  clear HR
  rcases hr with rfl | rfl
  · have HW := Lib.hid fun wx op => wrap1 wx op 0 31 (by decide)
    go_wp2_with fail
    refine (HW.out _ _).mono ?_
    rintro _ w2 ⟨rfl, -, N2⟩
    have N2 := Lib.hid N2
    go_wp2
    go_ret
    exact ⟨⟨_, rfl⟩, New.trans N1.out N2.out⟩
  · have HW := Lib.hid fun wx op => wrap1 wx op 0 21 (by decide)
    go_wp2_with fail
    refine (HW.out _ _).mono ?_
    rintro _ w2 ⟨rfl, -, N2⟩
    have N2 := Lib.hid N2
    go_wp2
    go_ret
    exact ⟨⟨_, rfl⟩, New.trans N1.out N2.out⟩

set_option maxHeartbeats 1000000 in
theorem keyShredNo {w : World} {F : Nat → Prop} {p sl g frm : Nat} {L : List KSlot} (h : KTab w F p sl g frm L false) (b : Nat) (hno : kFind L b = none) :
    Calls Try.prog 11 #[.pointer (some ⟨p, 0, none⟩), .int .i64 (b : Int)] w fun e w' => (∃ y, e = .returned (.iface 102 y)) ∧ New w w' := by
  have HO := Lib.hid (keyOf h b)
  have he : firstI (kHas b) L = -1 := by unfold firstI; rw [show L.findIdx? (kHas b) = none from hno]
  rw [he] at HO
  obtain ⟨-, -, -, x3⟩ := h.at_.cells
  clear h hno he
  go_enter Try.func11, Try.ntmps11
  go_wp2_with fail
  refine HO.out.mono ?_
  rintro _ w1 ⟨rfl, N1⟩
  have N1 := Lib.hid N1
  have HW := Lib.hid fun wx op => wrap1 wx op 0 30 (by decide)
  clear HO
  go_wp2_with fail
  refine (HW.out _ _).mono ?_
  rintro _ w2 ⟨rfl, -, N2⟩
  have N2 := Lib.hid N2
  go_wp2
  go_ret
  exact ⟨⟨_, rfl⟩, New.trans N1.out N2.out⟩

set_option maxHeartbeats 1000000 in
theorem keyGet {w : World} {F : Nat → Prop} {p sl g frm : Nat} {L : List KSlot} {dead : Bool} (h : KTab w F p sl g frm L dead) (b : Nat) :
    Calls Try.prog 15 #[.pointer (some ⟨p, 0, none⟩), .int .i64 (b : Int)] w fun e w' => New w w' ∧ ∃ v, e = .returned (.tuple #[v, .bool (kGetK L b).isSome]) ∧ (∃ a n c, v = .slice a n c) ∧ (∀ k, kGetK L b = some k → Rd w' v k) ∧ ∀ j, blk v = some j → w.heap.size ≤ j := by
  have H := Lib.hid h
  have HO := Lib.hid (keyOf h b)
  obtain ⟨O, HOO⟩ : ∃ O, Hid (kGetK L b = O) := ⟨_, Lib.hid rfl⟩
  rw [HOO.out]
  clear h
  cases hf : kFind L b with
  | none =>
    have he : firstI (kHas b) L = -1 := by unfold firstI; rw [show L.findIdx? (kHas b) = none from hf]
    have HE : Hid (O = none) := Lib.hid (by rw [← HOO.out]; unfold kGetK; rw [hf]; rfl)
    rw [he] at HO
    clear hf he
    go_enter Try.func15, Try.ntmps15
    go_wp2_with fail
    refine HO.out.mono ?_
    rintro _ w1 ⟨rfl, N1⟩
    have N1 := Lib.hid N1
    go_wp2
    go_ret2
    exact ⟨N1.out, _, by rw [HE.out]; rfl, ⟨_, _, _, rfl⟩, (fun k hk => by rw [HE.out] at hk; cases hk), (fun j hj => by cases hj)⟩
  | some i =>
    have he : firstI (kHas b) L = (i : Int) := by unfold firstI; rw [show L.findIdx? (kHas b) = some i from hf]
    obtain ⟨k, hk⟩ := kFind_some hf
    have HE : Hid (O = some k) := Lib.hid (by rw [← HOO.out]; unfold kGetK; rw [hf]; simp [hk])
    have hil : i < L.length := (List.getElem?_eq_some_iff.1 hk).1
    have HK := Lib.hid hk
    have hkok := H.out.ok _ (List.mem_of_getElem? hk)
    have hk32 : Hid (k.length = 32) := Lib.hid (hkok _ rfl).2
    rw [he] at HO
    clear hf he hk
    obtain ⟨n, hn⟩ : ∃ n, L.length = n := ⟨_, rfl⟩
    rw [hn] at hil
    have hin : (i : Int) < (n : Int) := by omega
    go_enter Try.func15, Try.ntmps15
    go_wp2_with fail
    refine HO.out.mono ?_
    rintro _ w1 ⟨rfl, N1⟩
    have H1 := Lib.hid (H.out.new N1)
    have N1 := Lib.hid N1
    obtain ⟨-, -, x2, -⟩ := H1.out.at_.cells
    rw [hn] at x2
    have ha := fun wx => arr32_all wx sl (i * 34 + 2)
    have HC := Lib.hid (bytesClone w1 _ k (slotKeyRd (slot_range H1.out.slots H1.out.ok HK.out) hkok) (by intro e; have := hk32.out; rw [e] at this; cases this) (by rw [hk32.out]; decide))
    clear HO hkok hn
    go_wp2_with fail
    refine HC.out.mono ?_
    rintro _ w2 ⟨g2, c2, rfl, hr, hc1, hc2, hg2, N2⟩
    have HRD := Lib.hid (hr.rd hc1 hc2)
    have HG2 := Lib.hid hg2
    have N2 := Lib.hid N2
    clear hr hc1 hc2 hg2 HC ha x2
    go_wp2
    go_ret2
    refine ⟨New.trans N1.out N2.out, _, by rw [HE.out]; rfl, ⟨_, _, _, rfl⟩, fun k' hk' => ?_, fun j hj => ?_⟩
    · rw [HE.out] at hk'; cases hk'; exact HRD.out
    · cases hj; exact Nat.le_trans N1.out.size HG2.out

/-- the table and the disk behind a call -/
theorem kdMk {q' : Int} {w w7 w' : World} {H F G : Nat → Prop} {p sl g frm n : Nat} {L : List KSlot} {dead : Bool} {D I : List UInt8} {P : List Wr} (hF : ∀ k, F k → H k ∧ k < w.heap.size) (hG : ∀ k, G k → H k) (hd : ∀ k, F k → ¬ G k) (hw : w.heap.size ≤ w7.heap.size)
    (ht : KTab w' F p sl g frm L dead) (hv : Dvc q' w' n g (fun k => G k ∨ w7.heap.size ≤ k) D I P) (ho : Only H w w') : KDTo KMk q' w H p g frm L dead n D I P w' :=
  ⟨⟨F, fun k => G k ∨ w7.heap.size ≤ k, ⟨sl, ht⟩, hv, fun k hk hg => hg.elim (hd k hk) (fun h => by have := (hF k hk).2; omega), fun k hk => .inl (hF k hk).1, fun k hk => hk.elim (fun h => .inl (hG k h)) (fun h => .inr (Nat.le_trans hw h))⟩, ho⟩

theorem kHalfOf {n frm i m : Nat} {L : List KSlot} {s' : KSlot} {D b : List UInt8} {P' : List Wr} (hb : b = slotB s') (h : KOn frm L D) (hD : D.length = 128 * n) (hs : s'.ok) (hi : frm + 2 * i + 2 ≤ n) (hm : m < 2) (hP : P' = [] ∨ P' = [(frm + 2 * i + m, b)]) : KHalf n frm i L s' (kDone D (frm + 2 * i) b 0 m) P' := by
  subst hb
  rcases m with _ | _ | m
  · rcases hP with rfl | rfl
    · exact kHalf0 h hD
    · exact kHalf1 h hD hs (by omega)
  · rcases hP with rfl | rfl
    · exact kHalf2 h hD hs (by omega)
    · exact kHalf3 h hD hs (by omega)
  · omega

/-- the facts that Put and Shred start from: the object's blocks and the disk's below the world -/
theorem kdOpen {q : Int} {w : World} {H : Nat → Prop} {p g frm n : Nat} {L : List KSlot} {D I : List UInt8} {P : List Wr} {dead : Bool} (h : KD KMk q w H p g frm L dead n D I P) :
    ∃ F G sl, KTab w F p sl g frm L dead ∧ Dvc q w n g G D I P ∧ (∀ k, F k → H k ∧ k < w.heap.size) ∧ (∀ k, G k → H k ∧ k < w.heap.size) ∧ (∀ k, F k → ¬ G k) := by
  obtain ⟨F, G, ⟨sl, ht⟩, hd, h1, h2, h3⟩ := h
  exact ⟨fun k => F k ∧ k < w.heap.size, fun k => G k ∧ k < w.heap.size, sl, ht.narrow (fun k hk hf => ⟨hf, hk⟩), hd.narrow (fun k hk hf => ⟨hf, hk⟩), fun k hk => ⟨h2 k hk.1, hk.2⟩, fun k hk => ⟨h3 k hk.1, hk.2⟩, fun k hk hg => h1 k hk.1 hg.1⟩

set_option maxHeartbeats 2000000 in
theorem keyShred {q : Int} {w : World} {H : Nat → Prop} {p g frm n : Nat} {L : List KSlot} {D : List UInt8} (h : KD KMk q w H p g frm L false n D D []) (hon : KOn frm L D) (hfit : frm + 2 * L.length ≤ n)
    (b i : Nat) (hi : i < L.length) (hf : kFind L b = some i) :
    Calls Try.prog 11 #[.pointer (some ⟨p, 0, none⟩), .int .i64 (b : Int)] w fun e w' =>
      (e = .returned .nilIface ∧ ∃ q' D', (q = -1 → q' = -1) ∧ KDTo KMk q' w H p g frm (L.set i none) false n D' D' [] w' ∧ KOn frm (L.set i none) D') ∨
      (q ≠ -1 ∧ (∃ y, e = .returned (.iface 102 y)) ∧ ∃ q' L2 D' P', KDTo KMk q' w H p g frm L2 true n D' (layAll D' P') P' w' ∧ KHalf n frm i L none D' P') := by
  obtain ⟨F, G, sl, ht, hd, hF, hG, hFG⟩ := kdOpen h
  have HT := Lib.hid ht
  have HD := Lib.hid hd
  have HFG : Hid ((∀ k, F k → H k ∧ k < w.heap.size) ∧ (∀ k, G k → H k ∧ k < w.heap.size) ∧ (∀ k, F k → ¬ G k)) := Lib.hid ⟨hF, hG, hFG⟩
  have HON := Lib.hid hon
  have HO := Lib.hid (keyOf ht b)
  have he : firstI (kHas b) L = (i : Int) := by unfold firstI; rw [show L.findIdx? (kHas b) = some i from hf]
  rw [he] at HO
  have HIL : Hid (i < L.length ∧ frm + 2 * i + 2 ≤ n) := Lib.hid ⟨hi, by omega⟩
  have hnone : KSlot.ok none := fun p hp => by cases hp
  have HNO := Lib.hid hnone
  obtain ⟨-, -, -, x3⟩ := ht.at_.cells
  obtain ⟨nL, hn⟩ : ∃ n, L.length = n := ⟨_, rfl⟩
  have hil : i < nL := by omega
  have hin : (i : Int) < (nL : Int) := by omega
  have HNL := Lib.hid hn
  clear h ht hd hF hG hFG hon hfit hf he hi hnone hn
  go_enter Try.func11, Try.ntmps11
  go_wp2_with fail
  refine HO.out.mono ?_
  rintro _ w1 ⟨rfl, N1⟩
  have H1 := Lib.hid (HT.out.new N1)
  have HD1 := Lib.hid (HD.out.new N1)
  have N1 := Lib.hid N1
  obtain ⟨-, -, x2, -⟩ := H1.out.at_.cells
  rw [HNL.out] at x2
  have HTH := Lib.hid (slot_there H1.out.slots H1.out.ok HIL.out.1)
  have hb0 := bSlot0_run
  clear HO x3
  go_upto_region 7 with (refine wpList_store_mid rfl 71 _ _ rfl sl (i * 34) (sCells none).toArray rfl rfl HTH.out infoSlot (all_oneCell_toArray (sCells_one _)) ?_)
  generalize hw2 : World.setCells _ _ _ _ = w2
  have H2 : Hid (KTab w2 F p sl g frm (L.set i none) false) := Lib.hid (by rw [← hw2]; exact H1.out.put HIL.out.1 HNO.out)
  have O2 : Only (fun k => k = sl) w1 w2 := by rw [← hw2]; exact (slot_set H1.out.slots H1.out.ok HIL.out.1 HNO.out).2
  have HD2 : Hid (Dvc q w2 n g G D D []) := Lib.hid (HD1.out.only O2 (fun k hk e => by subst e; exact HFG.out.2.2 _ HT.out.fs hk))
  have HO2 : Hid (Only H w w2) := Lib.hid ((New.only (F := H) N1.out).trans O2 (fun k _ e => by subst e; exact (HFG.out.1 _ HT.out.fs).1))
  clear hw2 O2 HTH x2 hb0 H1 HD1 N1
  have hmk : ∀ wx : World, (Instr.makeSlice 37 (.int .i64 128) (.int .i64 128)).run Try.prog wx = .ok (.slice (some ⟨wx.heap.size, 0, none⟩) 128 128) (wx.alloc (.cells (keyZero.map bv).toArray 5)) := fun wx => run_make10 128 (by omega) wx
  go_wp2_with fail
  generalize hw3 : World.alloc w2 _ = w3
  have N3 : New w2 w3 := by rw [← hw3]; exact (Below.refl _ _).alloc (Nat.le_refl _) _
  have hrow : w3.heap[w2.heap.size]? = some (.cells (keyZero.map bv).toArray 5) := by rw [← hw3]; exact heap_alloc_new _ _
  have hrd := rd_of_row hrow (by rw [keyZero_length]; decide)
  rw [keyZero_length] at hrd
  have HS := Lib.hid (keyStore (H2.out.new N3) HFG.out.2.2 (HD2.out.new N3) i 0 (by decide) HIL.out.2 w2.heap.size 0 128 keyZero hrd (fun h => by have := (HFG.out.2.1 _ h).2; have := HO2.out.size; omega) (by have := (HFG.out.1 _ HT.out.fp).2; have := HO2.out.size; omega))
  have HO3 : Hid (Only H w w3) := Lib.hid (HO2.out.trans (New.only (F := H) N3) (fun _ _ h => h))
  clear hw3 N3 hrow hrd H2 HD2 HO2 hmk
  refine HS.out.mono ?_
  rintro _ w4 hst
  have HLN : Hid (D.length = 128 * n) := Lib.hid HD.out.lens.1
  rcases hst with ⟨rfl, ht4, q', hq', hd4⟩ | ⟨hq, rfl, ht4, ho4, m, q', P', -, hm, hP, hd4⟩
  · have HR : Hid (∀ w5, New w4 w5 → ∃ q' D', (q = -1 → q' = -1) ∧ KDTo KMk q' w H p g frm (L.set i none) false n D' D' [] w5 ∧ KOn frm (L.set i none) D') := Lib.hid (fun w5 h5 => ⟨q', _, hq', kdMk HFG.out.1 (fun k hk => (HFG.out.2.1 k hk).1) HFG.out.2.2 HO3.out.size (ht4.new h5) (hd4.1.new h5) ((HO3.out.trans hd4.2 (fun k _ hk => (HFG.out.2.1 k hk).1)).trans (New.only (F := H) h5) (fun _ _ h => h)), by
      rw [kDone_two0]
      exact HON.out.lay (s := none) HNO.out (by have := HLN.out; have := HIL.out.2; omega)⟩)
    have HW := Lib.hid fun wx op => wrap0 wx op (i : Int)
    clear ht4 hq' hd4 HS
    go_wp2_with fail
    refine (HW.out _ _).mono ?_
    rintro _ w5 ⟨rfl, rfl⟩
    go_wp2
    go_ret
    exact .inl ⟨rfl, HR.out _ (Below.refl _ _)⟩
  · have HR : Hid (q ≠ -1 ∧ ∀ w5, New w4 w5 → ∃ q' L2 D' P', KDTo KMk q' w H p g frm L2 true n D' (layAll D' P') P' w5 ∧ KHalf n frm i L none D' P') := Lib.hid ⟨hq, fun w5 h5 => ⟨q', L.set i none, _, P', kdMk HFG.out.1 (fun k hk => (HFG.out.2.1 k hk).1) HFG.out.2.2 HO3.out.size (ht4.new h5) (hd4.new h5) ((HO3.out.trans ho4 (fun k _ hk => hk.elim (fun h => (HFG.out.2.1 k h).1) (fun e => by subst e; exact (HFG.out.1 _ HT.out.fp).1))).trans (New.only (F := H) h5) (fun _ _ h => h)), kHalfOf (b := keyZero) rfl HON.out HLN.out HNO.out HIL.out.2 hm hP⟩⟩
    have HW := Lib.hid fun wx op => wrap1 wx op (i : Int) 22 (by decide)
    clear hq ht4 ho4 hm hP hd4 HS
    go_wp2_with fail
    refine (HW.out _ _).mono ?_
    rintro _ w5 ⟨rfl, -, N5⟩
    have N5 := Lib.hid N5
    go_wp2
    go_ret
    exact .inr ⟨HR.out.1, ⟨_, rfl⟩, HR.out.2 _ N5.out⟩

end Go.Proofs.Ytnekcdpfphgpbaa
