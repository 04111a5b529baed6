/-
  The text of a number, of a chain: (Errno).Error, text, (*Fault).Error.
-/
import Derived.Test.YtnjijmphmgihiaaDoorFltText
import Derived.Lib.AppendIntMem
namespace Go.Proofs.YtnjijmphmgihiaaDoor
set_option linter.unusedVariables false
set_option linter.unusedSimpArgs false
open Go.RowKit

/-- strconv's table of powers of ten is as its text lays it -/
def Has10 (w : World) : Prop := Lib.TabIs Tryd.prog w "internal/strconv.uint64pow10" .u64 Lib.pow10Tab

theorem Has10.new {w w' : World} (h : Has10 w) (hn : New w w') : Has10 w' := by
  unfold Has10 Lib.TabIs World.var? at *
  rw [show Tryd.prog.globalNamed "internal/strconv.uint64pow10" = some 1 by kernel_rfl] at *
  simp only [Option.bind_some] at *
  cases ho : w.heap[1]? with
  | none => rw [ho] at h; cases h
  | some o =>
    have hlt : 1 < w.heap.size := by
      rcases Nat.lt_or_ge 1 w.heap.size with h' | h'
      · exact h'
      · rw [Array.getElem?_eq_none h'] at ho; cases ho
    rw [hn.block _ hlt]
    exact h

theorem itoaAt (w : World) (n : Int) (h0 : -9223372036854775808 ≤ n) (h1 : n ≤ 9223372036854775807) (ht : Has10 w) :
    Calls Tryd.prog 34 #[.int .i64 n] w fun e w' => e = .returned (.string (bstr (Lib.itoa n))) ∧ New w w' := by
  refine Calls.mono (Any.strconv_Itoa Tryd.laysM171 n h0 h1 w ht) ?_
  rintro e w' ⟨rfl, k, os, rfl⟩
  exact ⟨rfl, Lib.below_grow _ w (Nat.le_refl _) k os⟩

theorem dec_len (u : Nat) : ∀ k, u < 10 ^ (k + 1) → (Lib.decDigits u).length ≤ k + 1 := by
  intro k
  induction k generalizing u with
  | zero => intro h; rw [Lib.decDigits, dif_pos (by omega)]; simp
  | succ k ih =>
    intro h
    rw [Lib.decDigits]
    split
    · simp
    · rw [List.length_append]
      have := ih (u / 10) (by rw [Nat.pow_succ] at h; omega)
      simp; omega

theorem itoa_len (n : Int) (h0 : -9223372036854775808 ≤ n) (h1 : n ≤ 9223372036854775807) : (Lib.itoa n).length ≤ 21 := by
  unfold Lib.itoa
  split
  · have := dec_len n.natAbs 19 (by omega)
    simp; omega
  · have := dec_len n.toNat 19 (by omega)
    omega

/-- the text of a number -/
def numTxt (n : Int) : List UInt8 := if n < 0 then [101, 110, 103, 114, 111, 115, 115, 101, 114, 58, 32, 101, 114, 114, 111, 114] else [101, 110, 103, 114, 111, 115, 115, 101, 114, 58, 32, 101, 114, 114, 111, 114, 32] ++ Lib.itoa n

set_option maxRecDepth 100000 in
theorem errnoErr (w : World) (n : Int) (h0 : -9223372036854775808 ≤ n) (h1 : n ≤ 9223372036854775807) (ht : Has10 w) :
    Calls Tryd.prog 74 #[.int .i64 n] w fun e w' => e = .returned (.string (bstr (numTxt n))) ∧ New w w' := by
  have HI := Lib.hid (itoaAt w n h0 h1 ht)
  have HL := Lib.hid (itoa_len n h0 h1)
  by_cases hn : n < 0
  · have e : numTxt n = [101, 110, 103, 114, 111, 115, 115, 101, 114, 58, 32, 101, 114, 114, 111, 114] := by unfold numTxt; rw [if_pos hn]
    rw [e]
    clear e HI
    go_enter Tryd.func74, Tryd.ntmps74
    go_wp2
    go_ret
    exact ⟨rfl, newRefl _⟩
  · have e : numTxt n = [101, 110, 103, 114, 111, 115, 115, 101, 114, 58, 32, 101, 114, 114, 111, 114, 32] ++ Lib.itoa n := by unfold numTxt; rw [if_neg hn]
    have HE : Hid ((⟨#[101, 110, 103, 114, 111, 115, 115, 101, 114, 58, 32, 101, 114, 114, 111, 114, 32]⟩ : ByteArray) ++ bstr (Lib.itoa n) = bstr (numTxt n)) := by
      rw [e]; exact Lib.hid (bstr_join9 [101, 110, 103, 114, 111, 115, 115, 101, 114, 58, 32, 101, 114, 114, 111, 114, 32] (Lib.itoa n))
    have hz : (bstr (Lib.itoa n)).size ≤ 21 := by rw [bstr_size]; exact HL.out
    clear e
    generalize bstr (numTxt n) = T at *
    generalize bstr (Lib.itoa n) = D at *
    go_enter Tryd.func74, Tryd.ntmps74
    go_wp2_with fail
    refine HI.out.mono ?_
    rintro e w1 ⟨rfl, N1⟩
    go_wp2
    go_ret
    exact ⟨by rw [← HE.out]; rfl, N1⟩

/-- what a chain's end tells -/
def Cor.txt : Cor → List UInt8
  | .num n => numTxt n
  | _ => []

def Cor.ok : Cor → Prop
  | .num n => -9223372036854775808 ≤ n ∧ n ≤ 9223372036854775807
  | _ => True

theorem noPanic9 (w : World) : CallsD Tryd.prog 43 #[] .returning w fun e u' w' => e = .returned (.tuple #[]) ∧ u' = .returning ∧ w' = w := by
  refine callsD_of_wpS Tryd.func43 rfl fun c₀ cs hu => ?_
  apply wpS_region
  simp [wpOpsS, go_sem, recoverD, hu, Tryd.ntmps43, Exit.thenS, bodyPostS, results, Tryd.results43]
  cases c₀
  simp_all

theorem methodError (n : Int) (w : World) : (Go.method 245 28 (.int .i64 n) "Error").run Tryd.prog w = .ok (74, .int .i64 n) w := by kernel_rfl

set_option maxRecDepth 100000 in
theorem text0 (w : World) : Calls Tryd.prog 35 #[.nilIface] w fun e w' => e = .returned (.string (bstr [])) ∧ New w w' := by
  go_enter_defers Tryd.func35, Tryd.ntmps35
  go_wp2
  simp [bodyPostD, Leaves, settle, results, Tryd.results35, go_sem]
  exact ⟨rfl, newRefl _⟩

set_option maxRecDepth 100000 in
theorem textN (w : World) (n : Int) (h0 : -9223372036854775808 ≤ n) (h1 : n ≤ 9223372036854775807) (ht : Has10 w) : Calls Tryd.prog 35 #[.iface 28 (.int .i64 n)] w fun e w' => e = .returned (.string (bstr (numTxt n))) ∧ New w w' := by
  have HE := Lib.hid (errnoErr w n h0 h1 ht)
  have q1 := methodError
  have hmf : ∀ (fn : Fn) (first cap : Array Value) (w : World), (Instr.makeFunc fn first cap).run Tryd.prog w = .ok (.func fn first cap) w := fun _ _ _ _ => rfl
  generalize bstr (numTxt n) = T at *
  go_enter_defers Tryd.func35, Tryd.ntmps35
  go_wp2_with fail
  refine HE.out.mono ?_
  rintro e w1 ⟨rfl, N1⟩
  go_wp2
  refine leaves_cons (f := 43) (args := #[]) (by simp) (by simp [go_sem]) ?_
  refine (noPanic9 w1).mono ?_
  rintro e u' w'' ⟨rfl, rfl, rfl⟩
  exact ⟨_, results_tmp rfl _ _ _, rfl, N1⟩

theorem textAt (w : World) (c : Cor) (hc : c.ok) (ht : Has10 w) : Calls Tryd.prog 35 #[c.core] w fun e w' => e = .returned (.string (bstr c.txt)) ∧ New w w' := by
  cases c with
  | nought => exact text0 w
  | num n => exact textN w n hc.1 hc.2 ht
  | hollow => exact text0 w

def linkTxt (d : List UInt8 × Int) : List UInt8 := d.1 ++ [32] ++ Lib.itoa d.2 ++ [58, 32]
def chainTxt (l : List (List UInt8 × Int)) : List UInt8 := l.flatMap linkTxt

theorem chainTxt_take (L : List Lk) {k : Nat} (h : k < L.length) : chainTxt ((L.take (k + 1)).map Lk.kp) = chainTxt ((L.take k).map Lk.kp) ++ (L[k]).op ++ [32] ++ Lib.itoa (L[k]).pos ++ [58, 32] := by
  have e : ∀ x : Lk, chainTxt [x.kp] = x.op ++ [32] ++ Lib.itoa x.pos ++ [58, 32] := fun x => by simp [chainTxt, linkTxt, Lk.kp]
  have e2 : ∀ a b, chainTxt (a ++ b) = chainTxt a ++ chainTxt b := fun a b => by unfold chainTxt; rw [List.flatMap_append]
  rw [List.take_succ_eq_append_getElem h, List.map_append, e2, List.map_cons, List.map_nil, e]
  simp only [List.append_assoc]

theorem chainTxt_le (L : List Lk) (k : Nat) : (chainTxt ((L.take k).map Lk.kp)).length ≤ (chainTxt (L.map Lk.kp)).length := by
  have e : L.map Lk.kp = (L.take k).map Lk.kp ++ (L.drop k).map Lk.kp := by rw [← List.map_append, List.take_append_drop]
  rw [e]
  unfold chainTxt
  rw [List.flatMap_append, List.length_append]
  omega

theorem Bld.new {w w' : World} {b base : Nat} {l : List UInt8} (h : Bld w b base l) (hn : New w w') : Bld w' b base l := by
  obtain ⟨h1, p, v, h2, h3, h4⟩ := h
  exact ⟨h1, p, v, (hn.block _ (lt_of_block h2)).trans h2, h3, own_new9 h4 hn⟩

/-- the text so far -/
structure ErIn (w2 : World) (b base : Nat) (l : List UInt8) (wr : World) : Prop where
  bld : Bld wr b base l
  only : Only (fun k => k = b ∨ base ≤ k) w2 wr

theorem ErIn.step {w2 w' wr : World} {b base : Nat} {l m : List UInt8} (h : ErIn w2 b base l wr) (h1 : Bld w' b base (l ++ m)) (h2 : Only (fun k => k = b ∨ base ≤ k) wr w') : ErIn w2 b base (l ++ m) w' :=
  ⟨h1, h.only.trans h2 (fun _ _ e => e)⟩
theorem ErIn.new {w2 w' wr : World} {b base : Nat} {l : List UInt8} (h : ErIn w2 b base l wr) (hn : New wr w') : ErIn w2 b base l w' :=
  ⟨h.bld.new hn, h.only.trans (New.only hn (F := fun k => k = b ∨ base ≤ k)) (fun _ _ e => e)⟩
theorem ErIn.from {w w2 wr : World} {base : Nat} {l : List UInt8} (h : ErIn w2 w.heap.size base l wr) (hn : New w w2) (hb : w.heap.size ≤ base) : New w wr :=
  (Only.trans (F := fun k => k = w.heap.size ∨ base ≤ k) (New.only hn) h.only (fun _ _ e => e)).new (fun k e => by omega)

theorem own_low9 {w : World} {base base' : Nat} {e : TypeId} {size : Nat} {v : Value} {n : Nat} {xs : List Value} (h : w.ownsRow base e size v n xs) (hb : base' ≤ base) : w.ownsRow base' e size v n xs := by
  refine ⟨h.1, ?_⟩
  rcases h.2 with hn | ⟨g, cap, cur, e1, e2, rest⟩
  · exact .inl hn
  · exact .inr ⟨g, cap, cur, e1, Nat.le_trans hb e2, rest⟩

theorem Bld.is {w : World} {b base : Nat} {l : List UInt8} (h : Bld w b base l) : Lib.IsBuilderF 76 5 b b (Lib.byteCells l) w := by
  obtain ⟨h1, p, v, h2, h3, h4⟩ := h
  have hb : (Lib.byteCells l) = l.map bv := rfl
  have h5 : w.ownsRow b 5 1 v (Lib.byteCells l).length (Lib.byteCells l) := by rw [Lib.byteCells_length, hb]; exact own_low9 h4 (by omega)
  have hne : v.ownBlock ≠ some b := fun e => by have := own_from h4 b (by rw [blk_own]; exact e); omega
  refine Lib.IsBuilderF.of ?_
  rcases h3 with rfl | rfl
  · exact .inl ⟨Nat.le_refl _, v, h2, h5, hne⟩
  · exact .inr ⟨Nat.le_refl _, v, h2, h5, hne⟩

theorem bldString (w : World) (b base : Nat) (l : List UInt8) (h : Bld w b base l) (hb : base ≤ w.heap.size) :
    Calls Tryd.prog 36 #[.pointer (some ⟨b, 0, none⟩)] w fun e w' => e = .returned (.string (bstr l)) ∧ Below b w w' := by
  refine Calls.mono (Any.Builder_String_any_k Tryd.lays169 Tryd.Builder_Extra_169 b b l w h.is (by have := h.1; omega)) ?_
  rintro e w' ⟨rfl, _, h2, _⟩
  exact ⟨rfl, h2⟩

set_option maxRecDepth 100000 in
set_option maxHeartbeats 2000000 in
theorem errorAt (w : World) (L : List Lk) (c : Cor) (o : Option Addr) (hv : errAt L c 0 = .iface 42 (.pointer o)) (hC : Chain w L c) (hE : HasErr w) (hT : Has10 w) (hl : L.length ≤ 1000)
    (hR : ∀ i (h : i < L.length), -9223372036854775808 ≤ (L[i]).pos ∧ (L[i]).pos ≤ 9223372036854775807) (hc : c.ok) (hs : (chainTxt (L.map Lk.kp)).length ≤ 1099511627776) :
    Calls Tryd.prog 18 #[.pointer o] w fun e w' => e = .returned (.string (bstr (chainTxt (L.map Lk.kp) ++ c.txt))) ∧ New w w' := by
  have HF : Hid (∀ wx, Chain wx L c → HasErr wx → Calls Tryd.prog 26 #[.iface 42 (.pointer o)] wx (FtsTo wx L)) := Lib.hid (fun wx h1 h2 => by rw [← hv]; exact faultsAt wx L c h1 h2 hl)
  have HK : Hid (∀ wx, Chain wx L c → HasErr wx → Calls Tryd.prog 25 #[.iface 42 (.pointer o)] wx fun e w' => e = .returned c.core ∧ New wx w') := Lib.hid (fun wx h1 h2 => by rw [← hv]; exact coreAt wx L c h1 h2 hl)
  have HC := Lib.hid hC
  have HE := Lib.hid hE
  have HT := Lib.hid hT
  have HR := Lib.hid hR
  have HOK := Lib.hid hc
  have HS := Lib.hid hs
  have HTX := Lib.hid (fun wx h => textAt wx c hc h)
  have HTL : Hid (c.txt.length ≤ 100) := by
    refine Lib.hid ?_
    cases c with
    | nought => simp [Cor.txt]
    | hollow => simp [Cor.txt]
    | num n =>
      have := itoa_len n hc.1 hc.2
      simp only [Cor.txt, numTxt]
      split
      · simp
      · rw [List.length_append]; simp; omega
  clear hv hC hE hT hR hc hs
  go_enter Tryd.func18, Tryd.ntmps18
  go_wp2_with fail
  generalize hw1 : World.alloc w _ = w1
  have HB1 : Hid (w1.heap[w.heap.size]? = some (.cells #[.pointer none, .slice none 0 0] 76 (0, 0))) := Lib.hid (by rw [← hw1]; exact heap_alloc_new _ _)
  have N1 : New w w1 := by rw [← hw1]; exact newAlloc (newRefl _) _
  have hz1 : w.heap.size < w1.heap.size := by rw [← hw1]; simp
  clear hw1
  refine (HF.out w1 (HC.out.new N1) (HE.out.new N1)).mono ?_
  rintro e w2 ⟨a, n, cp, rfl, hr, N2, rfl, hfrom⟩
  have HR2 := Lib.hid hr
  have HFR : Hid (∀ k, blk (.slice a L.length cp) = some k → ¬ (k = w.heap.size ∨ w2.heap.size ≤ k) ∨ L.map lkPtr = []) := by
    refine Lib.hid (fun k hk => ?_)
    by_cases hne : L.map lkPtr = []
    · exact .inr hne
    · left
      have h1 := hfrom k hk
      have h2 := hr.lt hk hne
      omega
  have HN12 := Lib.hid (New.trans N1 N2)
  obtain ⟨base, hbase⟩ : ∃ base, base = w2.heap.size := ⟨_, rfl⟩
  rw [← hbase] at HFR
  have hbb : w.heap.size < base := by have := N2.size; omega
  have HI0 : Hid (ErIn w2 w.heap.size base [] w2) := Lib.hid ⟨⟨hbb, .pointer none, .slice none 0 0, (N2.block _ (lt_of_block HB1.out)).trans HB1.out, .inl rfl, World.ownsRow_nil _ _ _ _⟩, Only.refl _ _⟩
  have HSZ : Hid (base ≤ w2.heap.size) := Lib.hid (by omega)
  clear hr N2 N1 hfrom HF HB1 hz1 hbase
  obtain ⟨b, hb⟩ : ∃ b, w.heap.size = b := ⟨_, rfl⟩
  have HB := Lib.hid hb
  rw [hb] at HI0 HFR hbb ⊢
  clear hb
  have hl1 := hl
  go_wp2_with fail
  go_loopw [10] (fun i wr => ∃ k : Nat, k ≤ L.length ∧ i = .int .i64 k ∧ ErIn w2 b base (chainTxt ((L.take k).map Lk.kp)) wr) (fun i _ => L.length - (intOf i).toNat)
  case atStart => exact ⟨0, Nat.zero_le _, rfl, HI0.out⟩
  case round =>
    clear HI0
    obtain ⟨k, hk, rfl, hin⟩ := hrel
    have HIN := Lib.hid hin
    clear hin
    have HNW : Hid (∀ l wx, ErIn w2 b base l wx → New w wx) := Lib.hid (fun l wx h => by rw [← HB.out] at h hbb; exact h.from HN12.out (by omega))
    have HSZ2 : Hid (∀ l wx, ErIn w2 b base l wx → base ≤ wx.heap.size) := Lib.hid (fun l wx h => Nat.le_trans HSZ.out h.only.size)
    by_cases hlt : k < L.length
    · have HR3 := Lib.hid (HR2.out.only HIN.out.only (fun j hj hne => (HFR.out j hj).resolve_right hne))
      obtain ⟨g, off, rfl, hg⟩ := HR3.out.cell (by omega)
      have hcell := hg k _ (lk_cell hlt)
      obtain ⟨c0, c1, c2⟩ := (HC.out.new (HNW.out _ _ HIN.out)).cell hlt
      have HCK : Hid (∀ l wx, ErIn w2 b base l wx → wx.cell? ⟨(L[k]).b, 1, none⟩ = some (.int .i64 (L[k]).pos)) := Lib.hid (fun l wx h => ((HC.out.new (HNW.out _ _ h)).cell hlt).2.1)
      have HRK := Lib.hid (HR.out k hlt)
      have HTK := Lib.hid (chainTxt_take L hlt)
      have HLE := Lib.hid (chainTxt_le L (k + 1))
      clear hg c1 c2 HR3
      generalize hT0 : chainTxt ((L.take k).map Lk.kp) = T0 at *
      generalize hT1 : chainTxt ((L.take (k + 1)).map Lk.kp) = T1 at *
      generalize hx : L[k] = x at *
      have HT1 := Lib.hid hT1
      clear hx hT0 hT1
      have HLN : Hid (T1.length ≤ 1099511627776) := Lib.hid (Nat.le_trans HLE.out HS.out)
      rw [HTK.out] at HLN
      simp only [List.length_append] at HLN
      have l1 := HLN.out
      have HIT := Lib.hid (fun wx h => itoaAt wx x.pos HRK.out.1 HRK.out.2 h)
      go_wp2_with fail
      refine (writeStr wr b base _ x.op HIN.out.bld (HSZ2.out _ _ HIN.out) (by omega)).mono ?_
      rintro e w3 ⟨rfl, b3, o3⟩
      have H3 := Lib.hid (HIN.out.step b3 o3)
      clear b3 o3 hcell c0
      go_wp2_with fail
      refine (writeStr w3 b base _ [32] H3.out.bld (HSZ2.out _ _ H3.out) (by simp only [List.length_append, List.length_cons, List.length_nil]; omega)).mono ?_
      rintro e w4 ⟨rfl, b4, o4⟩
      have H4 := Lib.hid (H3.out.step b4 o4)
      clear b4 o4 H3
      have c1 := HCK.out _ _ H4.out
      go_wp2_with fail
      refine (HIT.out w4 (HT.out.new (HNW.out _ _ H4.out))).mono ?_
      rintro e w5 ⟨rfl, N5⟩
      have H5 := Lib.hid (H4.out.new N5)
      clear N5 H4 c1
      go_wp2_with fail
      refine (writeStr w5 b base _ (Lib.itoa x.pos) H5.out.bld (HSZ2.out _ _ H5.out) (by simp only [List.length_append, List.length_cons, List.length_nil]; omega)).mono ?_
      rintro e w6 ⟨rfl, b6, o6⟩
      have H6 := Lib.hid (H5.out.step b6 o6)
      clear b6 o6 H5
      go_wp2_with fail
      refine (writeStr w6 b base _ [58, 32] H6.out.bld (HSZ2.out _ _ H6.out) (by simp only [List.length_append, List.length_cons, List.length_nil] at l1 ⊢; omega)).mono ?_
      rintro e w7 ⟨rfl, b7, o7⟩
      have H7 := Lib.hid (H6.out.step b7 o7)
      clear b7 o7 H6
      rw [← HTK.out] at H7
      go_wp2
      go_roundw
      case rel => exact ⟨k + 1, by omega, by go_num, by rw [HT1.out]; exact H7.out⟩
      case measure => simp [intOf] <;> omega
    · have hkL : k = L.length := by omega
      have HIN2 : Hid (ErIn w2 b base (chainTxt (L.map Lk.kp)) wr) := by
        have h1 := HIN.out
        rw [hkL, List.take_length] at h1
        exact Lib.hid h1
      clear HIN
      have l1 := HS.out
      have l2 := HTL.out
      generalize hct0 : chainTxt (L.map Lk.kp) = T0 at *
      generalize hct : c.txt = ct at *
      have HCT := Lib.hid hct
      have HCT0 := Lib.hid hct0
      clear hct hct0
      go_wp2_with fail
      refine (HK.out wr (HC.out.new (HNW.out _ _ HIN2.out)) (HE.out.new (HNW.out _ _ HIN2.out))).mono ?_
      rintro e w3 ⟨rfl, N3⟩
      have H3 := Lib.hid (HIN2.out.new N3)
      clear N3 HIN2
      go_wp2_with fail
      refine (HTX.out w3 (HT.out.new (HNW.out _ _ H3.out))).mono ?_
      rintro e w4 ⟨rfl, N4⟩
      have H4 := Lib.hid (H3.out.new N4)
      clear N4 H3
      go_wp2_with fail
      refine (writeStr w4 b base _ ct H4.out.bld (HSZ2.out _ _ H4.out) (by omega)).mono ?_
      rintro e w5 ⟨rfl, b5, o5⟩
      have H5 := Lib.hid (H4.out.step b5 o5)
      clear b5 o5 H4
      go_wp2_with fail
      refine (bldString w5 b base _ H5.out.bld (HSZ2.out _ _ H5.out)).mono ?_
      rintro e w6 ⟨rfl, B6⟩
      have HN6 : Hid (New w w6) := Lib.hid (by
        have h1 := HNW.out _ _ H5.out
        rw [← HB.out] at B6
        exact Below.trans h1 B6)
      clear B6
      go_wp2
      go_ret
      exact ⟨by rw [HCT.out, HCT0.out]; rfl, HN6.out⟩

end Go.Proofs.YtnjijmphmgihiaaDoor
