/-
  core, Code, Place, Ops, Unwrap; errors.Is at a chain.
-/
import Derived.Test.YtnjijmphmgihiaaDoorFltChain
namespace Go.Proofs.YtnjijmphmgihiaaDoor
set_option linter.unusedVariables false
set_option linter.unusedSimpArgs false
open Go.RowKit Go.Extern.Stop Go.Stop Go.Extern

theorem lk_cell {L : List Lk} {k : Nat} (h : k < L.length) : (L.map lkPtr)[k]? = some (.pointer (some ⟨(L[k]).b, 0, none⟩)) := by
  rw [List.getElem?_map, List.getElem?_eq_getElem h]; rfl

set_option maxRecDepth 100000 in
set_option maxHeartbeats 1000000 in
theorem coreAt (w : World) (L : List Lk) (c : Cor) (hC : Chain w L c) (hE : HasErr w) (hl : L.length ≤ 1000) :
    Calls Tryd.prog 25 #[errAt L c 0] w fun e w' => e = .returned c.core ∧ New w w' := by
  have HC := Lib.hid hC
  have HF := Lib.hid (faultsAt w L c hC hE hl)
  have HL := Lib.hid hl
  clear hC hE hl
  have q1 := taFF
  have q3 := taNF
  have q5 := ta0F
  generalize hv : errAt L c 0 = v0 at *
  go_enter Tryd.func25, Tryd.ntmps25
  go_wp2_with fail
  refine HF.out.mono ?_
  rintro e w1 ⟨a, n, cp, rfl, hr, N1, rfl, -⟩
  have HR := Lib.hid hr
  have HN := Lib.hid N1
  have HV := Lib.hid hv
  clear hr N1 hv HF
  have hl1 := HL.out
  go_wp2_with fail
  go_loop [0, 10] (fun v i => ∃ k : Nat, k ≤ L.length ∧ i = .int .i64 k ∧ v = errAt L c k) (fun _ i => L.length - (intOf i).toNat)
  case atStart => exact ⟨0, Nat.zero_le _, rfl, HV.out.symm⟩
  case round =>
    clear HV
    obtain ⟨k, hk, rfl, rfl⟩ := hrel
    by_cases hlt : k < L.length
    · obtain ⟨g, off, rfl, hg⟩ := HR.out.cell (by omega)
      have hcell := hg k _ (lk_cell hlt)
      obtain ⟨c0, c1, c2⟩ := (HC.out.new HN.out).cell hlt
      clear hg c0 c1
      generalize hx : L[k] = x at *
      generalize hnx : errAt L c (k + 1) = nx at *
      have HNX := Lib.hid hnx
      clear hnx hx
      go_wp2
      go_round
      case rel => exact ⟨k + 1, by omega, by go_num, HNX.out.symm⟩
      case measure => simp [intOf]; omega
    · have hkL : k = L.length := by omega
      rw [errAt_ge (by omega)]
      have HNN := Lib.hid HN.out
      cases c with
      | nought =>
        simp only [Cor.val, Cor.core]
        go_wp2
        go_ret
        exact ⟨rfl, HNN.out⟩
      | num m =>
        simp only [Cor.val, Cor.core]
        go_wp2
        go_ret
        exact ⟨rfl, HNN.out⟩
      | hollow =>
        simp only [Cor.val, Cor.core]
        go_wp2
        go_ret
        exact ⟨rfl, HNN.out⟩

/-- the number that is wrapped -/
def Cor.code : Cor → Int
  | .num n => n
  | _ => 0

set_option maxRecDepth 100000 in
set_option maxHeartbeats 1000000 in
theorem codeAt (w : World) (L : List Lk) (c : Cor) (hC : Chain w L c) (hE : HasErr w) (hl : L.length ≤ 1000) :
    Calls Tryd.prog 10 #[errAt L c 0] w fun e w' => e = .returned (.int .i64 c.code) ∧ New w w' := by
  have HC := Lib.hid hC
  have HE := Lib.hid hE
  have HL := Lib.hid hl
  clear hC hE hl
  have HK := Lib.hid (fun wx h1 h2 => coreAt wx L c h1 h2 HL.out)
  generalize errAt L c 0 = v0 at *
  go_enter Tryd.func10, Tryd.ntmps10
  go_wp2_with fail
  generalize hw1 : World.alloc w _ = w1
  have HA : Hid (At1 w1 w.heap.size 28 (.int .i64 0)) := Lib.hid (by rw [← hw1]; exact heap_alloc_new _ _)
  have N1 : New w w1 := by rw [← hw1]; exact newAlloc (newRefl _) _
  clear hw1
  refine (HK.out w1 (HC.out.new N1) (HE.out.new N1)).mono ?_
  rintro e w2 ⟨rfl, N2⟩
  have HA2 := Lib.hid (HA.out.new N2)
  have N12 := New.trans N1 N2
  have HE2 := Lib.hid (HE.out.new N12)
  clear HA HK N1 N2
  cases c with
  | nought =>
    simp only [Cor.core, Cor.code]
    go_wp2_with fail
    refine (known0 _).mono ?_
    rintro e w1' ⟨rfl, rfl⟩
    go_wp2_with fail
    refine (asNil _ _).mono ?_
    rintro e w1' ⟨rfl, rfl⟩
    have hc := HA2.out.cell
    have HN := Lib.hid N12
    clear HA2 N12
    go_wp2
    go_ret
    exact ⟨rfl, HN.out⟩
  | hollow =>
    simp only [Cor.core, Cor.code]
    go_wp2_with fail
    refine (known0 _).mono ?_
    rintro e w1' ⟨rfl, rfl⟩
    go_wp2_with fail
    refine (asNil _ _).mono ?_
    rintro e w1' ⟨rfl, rfl⟩
    have hc := HA2.out.cell
    have HN := Lib.hid N12
    clear HA2 N12
    go_wp2
    go_ret
    exact ⟨rfl, HN.out⟩
  | num m =>
    simp only [Cor.core, Cor.code]
    go_wp2_with fail
    refine (knownN m _).mono ?_
    rintro e w1' ⟨rfl, rfl⟩
    go_wp2_with fail
    refine (asHitN m _ _ w2 HE2.out HA2.out).mono ?_
    rintro e w3 ⟨rfl, h3, ho⟩
    have hc := h3.cell
    have HN := Lib.hid (new_only N12 ho)
    clear h3 ho HA2 N12
    go_wp2
    go_ret
    exact ⟨rfl, HN.out⟩

/-- where the outermost fault of a kind was -/
def placeOf : List (List UInt8 × Int) → List UInt8 → Int × Bool
  | [], _ => (0, false)
  | (o, a) :: r, op => if o = op then (a, true) else placeOf r op

theorem placeOf_at (l : List (List UInt8 × Int)) (op : List UInt8) : ∀ (k : Nat) (h : k < l.length), (∀ i (hi : i < k), (l[i]'(by omega)).1 ≠ op) → (l[k]).1 = op → placeOf l op = ((l[k]).2, true) := by
  induction l with
  | nil => intro k h; simp at h
  | cons x r ih =>
    intro k h h1 h2
    obtain ⟨o, a⟩ := x
    cases k with
    | zero => simp at h2; simp [placeOf, h2]
    | succ k =>
      have h0 := h1 0 (by omega)
      simp at h0
      simp only [placeOf, if_neg h0]
      have := ih k (by simpa using h) (fun i hi => by have := h1 (i + 1) (by omega); simpa using this) (by simpa using h2)
      simpa using this

theorem placeOf_none (l : List (List UInt8 × Int)) (op : List UInt8) (h : ∀ i (hi : i < l.length), (l[i]).1 ≠ op) : placeOf l op = (0, false) := by
  induction l with
  | nil => rfl
  | cons x r ih =>
    obtain ⟨o, a⟩ := x
    have h0 := h 0 (by simp)
    simp at h0
    simp only [placeOf, if_neg h0]
    exact ih (fun i hi => by have := h (i + 1) (by simpa using hi); simpa using this)

def Lk.kp (x : Lk) : List UInt8 × Int := (x.op, x.pos)

set_option maxRecDepth 100000 in
set_option maxHeartbeats 1000000 in
theorem placeAt (w : World) (L : List Lk) (c : Cor) (op : List UInt8) (hC : Chain w L c) (hE : HasErr w) (hl : L.length ≤ 1000) :
    Calls Tryd.prog 14 #[errAt L c 0, .string (bstr op)] w fun e w' => e = .returned (.tuple #[.int .i64 (placeOf (L.map Lk.kp) op).1, .bool (placeOf (L.map Lk.kp) op).2]) ∧ New w w' := by
  have HC := Lib.hid hC
  have HF := Lib.hid (faultsAt w L c hC hE hl)
  have HL := Lib.hid hl
  clear hC hE hl
  have HP := Lib.hid (placeOf_at (L.map Lk.kp) op)
  have HP0 := Lib.hid (placeOf_none (L.map Lk.kp) op)
  generalize hres : placeOf (L.map Lk.kp) op = res at *
  obtain ⟨r1, r2⟩ := res
  generalize hv : errAt L c 0 = v0 at *
  clear hv hres
  go_enter Tryd.func14, Tryd.ntmps14
  go_wp2_with fail
  refine HF.out.mono ?_
  rintro e w1 ⟨a, n, cp, rfl, hr, N1, rfl, -⟩
  have HR := Lib.hid hr
  have HN := Lib.hid N1
  clear hr N1 HF
  have hl1 := HL.out
  go_wp2_with fail
  go_loop [11] (fun i => ∃ k : Nat, k ≤ L.length ∧ i = .int .i64 k ∧ Hid (∀ i (hi : i < L.length), i < k → (L[i]).op ≠ op)) (fun i => L.length - (intOf i).toNat)
  case atStart => exact ⟨0, Nat.zero_le _, rfl, Lib.hid (fun i _ hi => by omega)⟩
  case round =>
    obtain ⟨k, hk, rfl, HNO⟩ := hrel
    by_cases hlt : k < L.length
    · obtain ⟨g, off, rfl, hg⟩ := HR.out.cell (by omega)
      have hcell := hg k _ (lk_cell hlt)
      obtain ⟨c0, c1, c2⟩ := (HC.out.new HN.out).cell hlt
      clear hg c2
      by_cases hop : (L[k]).op = op
      · have hh := HP.out k (by simpa using hlt) (fun i hi => by simpa [Lk.kp] using HNO.out i (by omega) hi) (by simpa [Lk.kp] using hop)
        have HH : Hid ((L[k]).pos = r1 ∧ r2 = true) := by
          simp [Lk.kp] at hh
          exact Lib.hid ⟨hh.1.symm, hh.2⟩
        clear hh
        generalize hx : L[k] = x at *
        clear hx
        subst hop
        go_wp2
        go_ret2
        obtain ⟨e1, e2⟩ := HH.out
        subst e1 e2
        exact ⟨rfl, HN.out⟩
      · have HOP := Lib.hid hop
        have hop2 : ((bstr (L[k]).op).toList == (bstr op).toList) = false := by rw [bstr_list, bstr_list]; exact beq_eq_false_iff_ne.2 hop
        generalize hx : L[k] = x at *
        have HX := Lib.hid hx
        clear hx
        go_wp2
        go_round
        case rel =>
          refine ⟨k + 1, by omega, by go_num, Lib.hid (fun i hi hik => ?_)⟩
          rcases Nat.lt_or_ge i k with h | h
          · exact HNO.out i hi h
          · obtain rfl : i = k := by omega
            rw [HX.out]; exact HOP.out
        case measure => simp [intOf]; omega
    · have hkL : k = L.length := by omega
      have hh := HP0.out (fun i hi => by simp at hi; simpa [Lk.kp] using HNO.out i hi (by omega))
      have HH := Lib.hid hh
      clear hh
      go_wp2
      go_ret2
      have := HH.out
      cases this
      exact ⟨rfl, HN.out⟩

theorem infoStr9 : (Tryd.prog.info? 9).map (fun i => (i.zero, i.size, i.bytes)) = some (some (.string .empty), 1, 16) := by kernel_rfl

def Lk.opV (x : Lk) : Value := .string (bstr x.op)

/-- what Ops hands back -/
def OpsTo (w : World) (L : List Lk) (e : Ending) (w' : World) : Prop :=
  ∃ a n c, e = .returned (.slice a n c) ∧ RdV w' (.slice a n c) (L.map Lk.opV) ∧ New w w' ∧ n = L.length

set_option maxRecDepth 100000 in
set_option maxHeartbeats 1000000 in
theorem opsAt (w : World) (L : List Lk) (c : Cor) (hC : Chain w L c) (hE : HasErr w) (hl : L.length ≤ 1000) :
    Calls Tryd.prog 11 #[errAt L c 0] w (OpsTo w L) := by
  obtain ⟨i0, hi0, hz0, hz1, hz2⟩ := info_parts infoStr9
  have HC := Lib.hid hC
  have HF := Lib.hid (faultsAt w L c hC hE hl)
  have HL := Lib.hid hl
  clear hC hE hl
  generalize hv : errAt L c 0 = v0 at *
  clear hv
  go_enter Tryd.func11, Tryd.ntmps11
  go_wp2_with fail
  refine HF.out.mono ?_
  rintro e w1 ⟨a, n, cp, rfl, hr, N1, rfl, -⟩
  have HR := Lib.hid hr
  have HN := Lib.hid N1
  clear hr N1 HF
  have hl1 := HL.out
  go_wp2_with fail
  go_loopw [3, 9] (fun v i wr => ∃ k : Nat, k ≤ L.length ∧ i = .int .i64 k ∧ wr.ownsRow w1.heap.size 9 1 v k ((L.take k).map Lk.opV) ∧ New w1 wr) (fun _ i _ => L.length - (intOf i).toNat)
  case atStart => exact ⟨0, Nat.zero_le _, rfl, World.ownsRow_nil _ _ _ _, newRefl _⟩
  case round =>
    obtain ⟨k, hk, rfl, hown, N2⟩ := hrel
    have HO := Lib.hid hown
    have HN2 := Lib.hid N2
    clear hown N2
    by_cases hlt : k < L.length
    · obtain ⟨g, off, rfl, hg⟩ := (HR.out.new HN2.out).cell (by omega)
      have hcell := hg k _ (lk_cell hlt)
      obtain ⟨c0, c1, c2⟩ := (HC.out.new (New.trans HN.out HN2.out)).cell hlt
      clear hg c1 c2
      obtain ⟨v', w', happ, hown', N'⟩ := run_app1 (P := Tryd.prog) w1 wr 30 30 9 i0 _ 16 Tryd.underlying30 hi0 hz0 hz1 hz2 rfl _ k _ HO.out HN2.out (.string (bstr (L[k]).op)) rfl (by omega) (by omega)
      have HAPP := Lib.hid happ
      have HOWN : Hid (w'.ownsRow w1.heap.size 9 1 v' (k + 1) ((L.take (k + 1)).map Lk.opV)) := by
        refine Lib.hid ?_
        rw [List.take_succ_eq_append_getElem hlt, List.map_append]
        exact hown'
      have HN' := Lib.hid N'
      clear happ hown' N'
      generalize hx : L[k] = x at *
      clear hx
      go_wp2_with (at_builtin; refine wpList_app9 rfl _ _ 30 rfl _ _ rfl rfl HAPP.out ?_)
      go_roundw
      case rel => exact ⟨k + 1, by omega, by go_num, HOWN.out, HN'.out⟩
      case measure => simp [intOf]; omega
    · have hkL : k = L.length := by omega
      obtain ⟨a', cp', rfl, -, -⟩ := own_form HO.out
      have HR2 : Hid (RdV wr (.slice a' k cp') (L.map Lk.opV)) := by
        have h1 := RdV.of_own HO.out
        rw [hkL, List.take_length] at h1
        rw [hkL]
        exact Lib.hid h1
      clear HO
      go_wp2
      go_ret
      exact ⟨_, _, _, rfl, HR2.out, New.trans HN.out HN2.out, hkL⟩

/-! Unwrap -/
theorem unwrapAt (w : World) (b : Nat) (x : Value) (h : w.cell? ⟨b, 2, none⟩ = some x) :
    Calls Tryd.prog 20 #[.pointer (some ⟨b, 0, none⟩)] w fun e w' => e = .returned x ∧ w = w' := by
  go_enter Tryd.func20, Tryd.ntmps20
  go_wp2
  go_ret
  exact ⟨rfl, rfl⟩
theorem unwrap0 (w : World) : Calls Tryd.prog 20 #[.pointer none] w fun e w' => e = .returned .nilIface ∧ w = w' := by
  go_enter Tryd.func20, Tryd.ntmps20
  go_wp2
  go_ret
  exact ⟨rfl, rfl⟩

end Go.Proofs.YtnjijmphmgihiaaDoor
