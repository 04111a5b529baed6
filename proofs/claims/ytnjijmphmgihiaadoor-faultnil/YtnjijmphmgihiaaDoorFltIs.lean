/-
  errors.Is at a chain around a number; fault.Is.
-/
import Derived.Test.YtnjijmphmgihiaaDoorFltOps
namespace Go.Proofs.YtnjijmphmgihiaaDoor
set_option linter.unusedVariables false
set_option linter.unusedSimpArgs false
open Go.RowKit Go.Extern.Stop Go.Stop Go.Extern

theorem Is.typeOfN (v : Value) (w : World) : (ReflectliteType.typeOf #[.iface 28 v]).run Tryd.prog w = .ok (.iface 84 (.agg #[hndl 28])) w := by kernel_rfl
/-- the entry for Comparable, whatever it is: at a number it says true -/
theorem Is.comparable : ∃ f : Array Value → Sem Value, (∀ (args : Array Value) (w : World), (callFunc 81 args).run Tryd.prog w = ((f args).run Tryd.prog w).andThen fun v w' => Result.ok (Next.value v) w') ∧ ∀ w : World, (f #[.agg #[hndl 28]]).run Tryd.prog w = .ok (.bool true) w :=
  ⟨_, fun args w => @run_callFunc_extern Tryd.prog 81 _ _ Tryd.func81 (by kernel_rfl) (by kernel_rfl) (by kernel_rfl) rfl args w, fun w => by kernel_rfl⟩
theorem Is.methodComparable (v : Value) (w : World) : (Go.method 245 84 v "Comparable").run Tryd.prog w = .ok (81, v) w := by kernel_rfl
theorem Is.methodUnwrap (p : Option Addr) (w : World) : (Go.method 245 42 (.pointer p) "Unwrap").run Tryd.prog w = .ok (20, .pointer p) w := by kernel_rfl
theorem Is.noIsF (v : Value) (xT : TypeId) (w : World) : (Instr.typeAssert (.iface 42 v) xT 86 true).run Tryd.prog w = .ok (.tuple #[.nilIface, .bool false]) w := run_typeAssert_lacksB Tryd.underlying86 (by kernel_rfl) (by kernel_rfl) v xT w
theorem Is.hasUnwrap (v : Value) (xT : TypeId) (w : World) : (Instr.typeAssert (.iface 42 v) xT 89 true).run Tryd.prog w = .ok (.tuple #[.iface 42 v, .bool true]) w := run_typeAssert_hasB Tryd.underlying89 (by kernel_rfl) v xT w
theorem Is.eqN (m n : Int) (w : World) : (binOp .eql 26 (.iface 28 (.int .i64 m)) (.iface 28 (.int .i64 n))).run Tryd.prog w = .ok (.bool (m == n)) w := by kernel_rfl
theorem Is.eq0N (n : Int) (w : World) : (binOp .eql 26 .nilIface (.iface 28 (.int .i64 n))).run Tryd.prog w = .ok (.bool false) w := run_eql_iface_nil_left (P := Tryd.prog) w 28 _ Tryd.underlying26
theorem Is.eqFN (p : Value) (n : Int) (w : World) : (binOp .eql 26 (.iface 42 p) (.iface 28 (.int .i64 n))).run Tryd.prog w = .ok (.bool false) w := run_eql_iface_types (P := Tryd.prog) 42 28 p (.int .i64 n) Tryd.underlying26 (by decide) w

theorem errAt_inj {w : World} {L : List Lk} {m : Int} (h : Chain w L (.num m)) {j k : Nat} (hj : j ≤ L.length) (hk : k ≤ L.length) (e : errAt L (.num m) j = errAt L (.num m) k) : j = k := by
  rcases Nat.lt_or_ge j L.length with h1 | h1
  · rcases Nat.lt_or_ge k L.length with h2 | h2
    · rw [errAt_lt h1, errAt_lt h2] at e
      by_cases hjk : j = k
      · exact hjk
      · exact absurd (by simpa using e) (h.apart j k h1 h2 hjk)
    · rw [errAt_lt h1, errAt_ge h2] at e
      simp [Cor.val] at e
  · rcases Nat.lt_or_ge k L.length with h2 | h2
    · rw [errAt_ge h1, errAt_lt h2] at e
      simp [Cor.val] at e
    · omega

open Classical in
noncomputable def rankE (L : List Lk) (c : Cor) (v : Value) : Nat := if h : ∃ k, k ≤ L.length ∧ v = errAt L c k then L.length - Classical.choose h else 0

theorem rankE_at {w : World} {L : List Lk} {m : Int} (h : Chain w L (.num m)) {k : Nat} (hk : k ≤ L.length) : rankE L (.num m) (errAt L (.num m) k) = L.length - k := by
  unfold rankE
  have hx : ∃ k', k' ≤ L.length ∧ errAt L (.num m) k = errAt L (.num m) k' := ⟨k, hk, rfl⟩
  rw [dif_pos hx]
  have h1 := Classical.choose_spec hx
  have h2 := errAt_inj h hk h1.1 h1.2
  omega

theorem errAt_iface (L : List Lk) (m : Int) (k : Nat) : ∃ t y, errAt L (.num m) k = .iface t y := by
  rcases Nat.lt_or_ge k L.length with h2 | h2
  · exact ⟨_, _, errAt_lt h2⟩
  · exact ⟨_, _, errAt_ge h2⟩

set_option maxRecDepth 100000 in
set_option maxHeartbeats 1000000 in
theorem isIn (w : World) (L : List Lk) (m n : Int) (hC : Chain w L (.num m)) :
    Calls Tryd.prog 28 #[errAt L (.num m) 0, .iface 28 (.int .i64 n), .bool true] w fun e w' => e = .returned (.bool (m == n)) ∧ w = w' := by
  have HC := Lib.hid hC
  clear hC
  have q1 := Is.eqN
  have q2 := Is.eqFN
  have q3 := Is.noIsF
  have q4 := Is.hasUnwrap
  have q5 := Is.methodUnwrap
  have q6 := As.noIs
  have q7 := As.noUnwrap
  have q8 := As.noUnwraps
  generalize hv : errAt L (.num m) 0 = v0
  have HV := Lib.hid hv
  clear hv
  go_enter Tryd.func28, Tryd.ntmps28
  go_wp2_with fail
  go_loop [0] (fun v => ∃ k : Nat, k ≤ L.length ∧ v = errAt L (.num m) k) (fun v => rankE L (.num m) v)
  case atStart => exact ⟨0, Nat.zero_le _, HV.out.symm⟩
  case round =>
    clear HV
    obtain ⟨k, hk, rfl⟩ := hrel
    by_cases hlt : k < L.length
    · have HK := Lib.hid (rankE_at HC.out hk)
      have HK1 := Lib.hid (rankE_at HC.out (k := k + 1) hlt)
      obtain ⟨ty, y, hty⟩ := errAt_iface L m (k + 1)
      obtain ⟨c0, c1, c2⟩ := HC.out.cell hlt
      clear c0 c1
      have hunw := unwrapAt w (L[k]).b _ c2
      have HNX := Lib.hid hty
      rw [hty] at hunw HK1
      have HX := Lib.hid (errAt_lt (c := .num m) hlt)
      rw [HX.out]
      generalize hx : L[k] = x at *
      have HU := Lib.hid hunw
      clear hty hx hunw c2
      go_wp2_with fail
      refine HU.out.mono ?_
      rintro e w1 ⟨rfl, rfl⟩
      go_wp2
      go_round
      case rel => exact ⟨k + 1, hlt, HNX.out.symm⟩
      case measure =>
        have h1 := HK1.out
        have h2 := HK.out
        rw [HX.out] at h2
        rw [h1, h2]
        omega
    · rw [errAt_ge (by omega)]
      simp only [Cor.val]
      by_cases hmn : m = n
      · subst hmn
        go_wp2
        go_ret
        exact ⟨by simp, rfl⟩
      · have hq : (m == n) = false := beq_eq_false_iff_ne.2 hmn
        go_wp2
        go_ret
        exact ⟨by first | rfl | (rw [hq]; rfl) | simp [hmn], rfl⟩

theorem isErr (w : World) (L : List Lk) (m n : Int) (hC : Chain w L (.num m)) :
    Calls Tryd.prog 13 #[errAt L (.num m) 0, .iface 28 (.int .i64 n)] w fun e w' => e = .returned (.bool (m == n)) ∧ w = w' := by
  have HI := Lib.hid (isIn w L m n hC)
  have hTO := @run_callFunc_extern Tryd.prog 27 _ ReflectliteType.typeOf Tryd.func27 (by kernel_rfl) (by kernel_rfl) (by kernel_rfl) (by kernel_rfl)
  obtain ⟨cmpF, hCM, q2⟩ := Is.comparable
  have q1 := Is.typeOfN
  have q3 := Is.methodComparable
  obtain ⟨ty, y, hty⟩ := errAt_iface L m 0
  rw [hty] at HI
  rw [hty]
  clear hty hC
  go_enter Tryd.func13, Tryd.ntmps13
  go_wp2_with (go_at_call 28; refine HI.out.mono ?_; rintro e w1 ⟨rfl, rfl⟩)
  go_ret
  exact ⟨rfl, rfl⟩

theorem isErr0 (w : World) (n : Int) :
    Calls Tryd.prog 13 #[.nilIface, .iface 28 (.int .i64 n)] w fun e w' => e = .returned (.bool false) ∧ w = w' := by
  have q1 := Is.eq0N
  go_enter Tryd.func13, Tryd.ntmps13
  go_wp2
  go_ret
  exact ⟨rfl, rfl⟩

/-- is the number wrapped? -/
def Cor.has (c : Cor) (n : Int) : Bool := match c with
  | .num m => m == n
  | _ => false

set_option maxRecDepth 100000 in
theorem faultIs (w : World) (L : List Lk) (c : Cor) (n : Int) (hC : Chain w L c) (hE : HasErr w) (hl : L.length ≤ 1000) :
    Calls Tryd.prog 12 #[errAt L c 0, .int .i64 n] w fun e w' => e = .returned (.bool (c.has n)) ∧ New w w' := by
  have HK := Lib.hid (coreAt w L c hC hE hl)
  clear hC hE
  generalize errAt L c 0 = v0 at *
  go_enter Tryd.func12, Tryd.ntmps12
  go_wp2_with fail
  refine HK.out.mono ?_
  rintro e w1 ⟨rfl, N1⟩
  have HN := Lib.hid N1
  clear N1
  have go0 : Cor.has c n = false → Cor.core c = .nilIface → True := fun _ _ => trivial
  cases c with
  | nought =>
    simp only [Cor.core, Cor.has]
    go_wp2_with fail
    refine (known0 _).mono ?_
    rintro e w1' ⟨rfl, rfl⟩
    go_wp2_with fail
    refine (isErr0 _ n).mono ?_
    rintro e w1' ⟨rfl, rfl⟩
    go_wp2
    go_ret
    exact ⟨rfl, HN.out⟩
  | hollow =>
    simp only [Cor.core, Cor.has]
    go_wp2_with fail
    refine (known0 _).mono ?_
    rintro e w1' ⟨rfl, rfl⟩
    go_wp2_with fail
    refine (isErr0 _ n).mono ?_
    rintro e w1' ⟨rfl, rfl⟩
    go_wp2
    go_ret
    exact ⟨rfl, HN.out⟩
  | num m =>
    simp only [Cor.core, Cor.has]
    go_wp2_with fail
    refine (knownN m _).mono ?_
    rintro e w1' ⟨rfl, rfl⟩
    go_wp2_with fail
    have hI := isErr w1 [] m n ⟨fun i h => by simp at h, fun i j h => by simp at h⟩
    refine Calls.mono (show Calls Tryd.prog 13 #[.iface 28 (.int .i64 m), .iface 28 (.int .i64 n)] w1 _ from hI) ?_
    rintro e w1' ⟨rfl, rfl⟩
    go_wp2
    go_ret
    exact ⟨rfl, HN.out⟩

end Go.Proofs.YtnjijmphmgihiaaDoor
