/-
  Chains of faults; known, outer, faults, core.
-/
import Derived.Test.YtnjijmphmgihiaaDoorFltAs2
import Derived.Test.YtnjijmphmgihiaaDoorBase
import Derived.LaidEqlPtr
namespace Go.Proofs.YtnjijmphmgihiaaDoor
set_option linter.unusedVariables false
set_option linter.unusedSimpArgs false
open Go.RowKit Go.Extern.Stop Go.Stop Go.Extern

/-- a link of a chain: its block, its operation, its position -/
structure Lk where
  b : Nat
  op : List UInt8
  pos : Int

/-- what a chain ends with: nothing, a number, a nil fault -/
inductive Cor where
  | nought : Cor
  | num (n : Int) : Cor
  | hollow : Cor

def Cor.val : Cor → Value
  | .nought => .nilIface
  | .num n => .iface 28 (.int .i64 n)
  | .hollow => .iface 42 (.pointer none)

/-- what the innermost fault wraps, if it is no fault -/
def Cor.core : Cor → Value
  | .num n => .iface 28 (.int .i64 n)
  | _ => .nilIface

/-- the error that the link at i is -/
def errAt (L : List Lk) (c : Cor) (i : Nat) : Value := match L[i]? with
  | some x => .iface 42 (.pointer (some ⟨x.b, 0, none⟩))
  | none => c.val

/-- the fault at i -/
def ptrAt (L : List Lk) (i : Nat) : Value := match L[i]? with
  | some x => .pointer (some ⟨x.b, 0, none⟩)
  | none => .pointer none

def lkPtr (x : Lk) : Value := .pointer (some ⟨x.b, 0, none⟩)

theorem errAt_lt {L : List Lk} {c : Cor} {i : Nat} (h : i < L.length) : errAt L c i = .iface 42 (.pointer (some ⟨(L[i]).b, 0, none⟩)) := by
  unfold errAt; rw [List.getElem?_eq_getElem h]
theorem errAt_ge {L : List Lk} {c : Cor} {i : Nat} (h : L.length ≤ i) : errAt L c i = c.val := by
  unfold errAt; rw [List.getElem?_eq_none h]
theorem ptrAt_lt {L : List Lk} {i : Nat} (h : i < L.length) : ptrAt L i = .pointer (some ⟨(L[i]).b, 0, none⟩) := by
  unfold ptrAt; rw [List.getElem?_eq_getElem h]
theorem ptrAt_ge {L : List Lk} {i : Nat} (h : L.length ≤ i) : ptrAt L i = .pointer none := by
  unfold ptrAt; rw [List.getElem?_eq_none h]

structure Chain (w : World) (L : List Lk) (c : Cor) : Prop where
  cells : ∀ i (h : i < L.length), w.heap[(L[i]).b]? = some (.cells #[.string (bstr (L[i]).op), .int .i64 (L[i]).pos, errAt L c (i + 1)] 46)
  apart : ∀ i j (h : i < L.length) (k : j < L.length), i ≠ j → (L[i]).b ≠ (L[j]).b

theorem Chain.new {w w' : World} {L : List Lk} {c : Cor} (h : Chain w L c) (hn : New w w') : Chain w' L c :=
  ⟨fun i hi => (hn.block _ (lt_of_block (h.cells i hi))).trans (h.cells i hi), h.apart⟩

theorem Chain.cell {w : World} {L : List Lk} {c : Cor} (h : Chain w L c) {i : Nat} (hi : i < L.length) :
    w.cell? ⟨(L[i]).b, 0, none⟩ = some (.string (bstr (L[i]).op)) ∧ w.cell? ⟨(L[i]).b, 1, none⟩ = some (.int .i64 (L[i]).pos) ∧ w.cell? ⟨(L[i]).b, 2, none⟩ = some (errAt L c (i + 1)) :=
  ⟨by rw [cell_of_row w _ 0 _ _ _ (h.cells i hi)]; rfl, by rw [cell_of_row w _ 1 _ _ _ (h.cells i hi)]; rfl, by rw [cell_of_row w _ 2 _ _ _ (h.cells i hi)]; rfl⟩

/-! known -/
theorem taFF (v : Value) (w : World) : (Instr.typeAssert (.iface 42 v) 26 42 true).run Tryd.prog w = .ok (.tuple #[v, .bool true]) w := by kernel_rfl
theorem taFN (v : Value) (w : World) : (Instr.typeAssert (.iface 42 v) 26 28 true).run Tryd.prog w = .ok (.tuple #[.int .i64 0, .bool false]) w := by kernel_rfl
theorem taNF (v : Value) (w : World) : (Instr.typeAssert (.iface 28 v) 26 42 true).run Tryd.prog w = .ok (.tuple #[.pointer none, .bool false]) w := by kernel_rfl
theorem taNN (v : Value) (w : World) : (Instr.typeAssert (.iface 28 v) 26 28 true).run Tryd.prog w = .ok (.tuple #[v, .bool true]) w := by kernel_rfl
theorem ta0F (w : World) : (Instr.typeAssert Value.nilIface 26 42 true).run Tryd.prog w = .ok (.tuple #[.pointer none, .bool false]) w := by kernel_rfl
theorem ta0N (w : World) : (Instr.typeAssert Value.nilIface 26 28 true).run Tryd.prog w = .ok (.tuple #[.int .i64 0, .bool false]) w := by kernel_rfl
set_option maxRecDepth 100000 in
theorem knownF (p : Option Addr) (w : World) : Calls Tryd.prog 24 #[.iface 42 (.pointer p)] w fun e w' => e = .returned (.iface 42 (.pointer p)) ∧ w = w' := by
  have q1 := taFF
  have q2 := taFN
  have q3 := taNF
  have q4 := taNN
  have q5 := ta0F
  have q6 := ta0N
  go_enter Tryd.func24, Tryd.ntmps24
  go_wp2
  go_ret
  exact ⟨rfl, rfl⟩
set_option maxRecDepth 100000 in
theorem knownN (n : Int) (w : World) : Calls Tryd.prog 24 #[.iface 28 (.int .i64 n)] w fun e w' => e = .returned (.iface 28 (.int .i64 n)) ∧ w = w' := by
  have q1 := taFF
  have q2 := taFN
  have q3 := taNF
  have q4 := taNN
  have q5 := ta0F
  have q6 := ta0N
  go_enter Tryd.func24, Tryd.ntmps24
  go_wp2
  go_ret
  exact ⟨rfl, rfl⟩
set_option maxRecDepth 100000 in
theorem known0 (w : World) : Calls Tryd.prog 24 #[.nilIface] w fun e w' => e = .returned .nilIface ∧ w = w' := by
  have q1 := taFF
  have q2 := taFN
  have q3 := taNF
  have q4 := taNN
  have q5 := ta0F
  have q6 := ta0N
  go_enter Tryd.func24, Tryd.ntmps24
  go_wp2
  go_ret
  exact ⟨rfl, rfl⟩

/-! outer -/
theorem new_only {w w1 w' : World} (hn : New w w1) (h : Only (fun k => k = w.heap.size) w1 w') : New w w' :=
  New.trans hn (Below.refl _ _) |> fun _ => (Only.trans (F := fun k => k = w.heap.size) (New.only hn) h (fun _ _ e => e)).new (fun k e => by omega)

set_option maxRecDepth 100000 in
theorem outerF (o : Option Addr) (w : World) (hE : HasErr w) : Calls Tryd.prog 37 #[.iface 42 (.pointer o)] w fun e w' => e = .returned (.pointer o) ∧ New w w' := by
  have HE := Lib.hid hE
  clear hE
  go_enter Tryd.func37, Tryd.ntmps37
  go_wp2_with fail
  generalize hw1 : World.alloc w _ = w1
  have HA : Hid (At1 w1 w.heap.size 42 (.pointer none)) := Lib.hid (by rw [← hw1]; exact heap_alloc_new _ _)
  have N1 : New w w1 := by rw [← hw1]; exact newAlloc (newRefl _) _
  clear hw1
  refine (knownF o w1).mono ?_
  rintro e w1' ⟨rfl, rfl⟩
  go_wp2_with fail
  refine (asHitF o _ _ w1 (HE.out.new N1) HA.out).mono ?_
  rintro e w2 ⟨rfl, h2, ho⟩
  have hc := h2.cell
  have HN := Lib.hid (new_only N1 ho)
  clear h2 ho HA
  go_wp2
  go_ret
  exact ⟨rfl, HN.out⟩
set_option maxRecDepth 100000 in
theorem outerN (n : Int) (w : World) (hE : HasErr w) : Calls Tryd.prog 37 #[.iface 28 (.int .i64 n)] w fun e w' => e = .returned (.pointer none) ∧ New w w' := by
  have HE := Lib.hid hE
  clear hE
  go_enter Tryd.func37, Tryd.ntmps37
  go_wp2_with fail
  generalize hw1 : World.alloc w _ = w1
  have HA : Hid (At1 w1 w.heap.size 42 (.pointer none)) := Lib.hid (by rw [← hw1]; exact heap_alloc_new _ _)
  have N1 : New w w1 := by rw [← hw1]; exact newAlloc (newRefl _) _
  clear hw1
  refine (knownN n w1).mono ?_
  rintro e w1' ⟨rfl, rfl⟩
  go_wp2_with fail
  refine (asMiss n _ _ w1 (HE.out.new N1) HA.out).mono ?_
  rintro e w2 ⟨rfl, h2, ho⟩
  have hc := h2.cell
  have HN := Lib.hid (new_only N1 ho)
  clear h2 ho HA
  go_wp2
  go_ret
  exact ⟨rfl, HN.out⟩
set_option maxRecDepth 100000 in
theorem outer0 (w : World) : Calls Tryd.prog 37 #[.nilIface] w fun e w' => e = .returned (.pointer none) ∧ New w w' := by
  go_enter Tryd.func37, Tryd.ntmps37
  go_wp2_with fail
  refine (known0 _).mono ?_
  rintro e w1' ⟨rfl, rfl⟩
  go_wp2_with fail
  refine (asNil _ _).mono ?_
  rintro e w1' ⟨rfl, rfl⟩
  have HN : Hid (New w (w.alloc (.cells #[.pointer none] 42))) := Lib.hid (newAlloc (newRefl _) _)
  go_wp2
  go_ret
  exact ⟨rfl, HN.out⟩

theorem outerAt (L : List Lk) (c : Cor) (i : Nat) (w : World) (hE : HasErr w) : Calls Tryd.prog 37 #[errAt L c i] w fun e w' => e = .returned (ptrAt L i) ∧ New w w' := by
  by_cases h : i < L.length
  · rw [errAt_lt h, ptrAt_lt h]; exact outerF _ w hE
  · rw [errAt_ge (by omega), ptrAt_ge (by omega)]
    cases c with
    | nought => exact outer0 w
    | num n => exact outerN n w hE
    | hollow => exact outerF none w hE

theorem own_new9 {w w' : World} {base : Nat} {e : TypeId} {v : Value} {n : Nat} {xs : List Value} (h : w.ownsRow base e 1 v n xs) (hn : New w w') : w'.ownsRow base e 1 v n xs := by
  refine ⟨h.1, ?_⟩
  rcases h.2 with h0 | ⟨g, cap, cur, e1, hb1, e3, rest⟩
  · exact .inl h0
  · exact .inr ⟨g, cap, cur, e1, hb1, (hn.block g (lt_of_block e3)).trans e3, rest⟩

/-- one value more in a slice of one's own -/
theorem run_app1 {P : Program} (w wr : World) (t ty e : TypeId) (i : TypeInfo) (z : Value) (bytes : Nat) (ht : P.underlying t = some (.slice e)) (hi : P.info? e = some i) (hz : i.zero = some z)
    (hsize : i.size = 1) (hby : i.bytes = bytes) (hzs : z.cells.size = 1) (v : Value) (n : Nat) (xs : List Value) (hown : wr.ownsRow w.heap.size e 1 v n xs) (hN : New w wr) (u : Value) (hu : u.oneCell' = true) (hb : (n + 1) * bytes ≤ 140737488355328) (hn : n + 1 ≤ 140737488355328) :
    ∃ v' w', (Builtin.append_ #[t, t] ty #[v, .slice (some ⟨wr.heap.size, 0, none⟩) 1 1]).run P (wr.alloc (.cells #[u] e)) = .ok v' w' ∧ w'.ownsRow w.heap.size e 1 v' (n + 1) (xs ++ [u]) ∧ New w w' := by
  have hN1 := newAlloc hN (.cells #[u] e)
  obtain ⟨v', w', hr, r2, r3, _, _⟩ := run_append_own_at (P := P) (w := wr.alloc (.cells #[u] e)) w.heap.size t ty e i z 1 bytes ht hi hz hsize hby hzs (by omega) v n xs (own_new9 hown (newAlloc (newRefl _) _)) ⟨wr.heap.size, 0, none⟩ 1 1 [u] rfl
    (fun j y hy => by
      cases j with
      | zero => cases hy; simp [Addr.add]
      | succ j => simp at hy) (by simpa using hu) (by simp only [maxLen]; omega) hb hN1.size
  exact ⟨v', w', hr, r2, Below.grown hN1 r3 hN1.size (fun k hk => own_from hown k (by rw [blk_own]; exact hk))⟩

theorem infoPF : (Tryd.prog.info? 42).map (fun i => (i.zero, i.size, i.bytes)) = some (some (.pointer none), 1, 8) := by kernel_rfl
theorem infoFl : (Tryd.prog.info? 46).map (·.size) = some 3 := by kernel_rfl

/-- what faults hands back -/
def FtsTo (w : World) (L : List Lk) (e : Ending) (w' : World) : Prop :=
  ∃ a n c, e = .returned (.slice a n c) ∧ RdV w' (.slice a n c) (L.map lkPtr) ∧ New w w' ∧ n = L.length ∧ ∀ k, blk (.slice a n c) = some k → w.heap.size ≤ k

structure FIn (w : World) (L : List Lk) (k : Nat) (v m : Value) (wr : World) : Prop where
  own : wr.ownsRow w.heap.size 42 1 v k ((L.take k).map lkPtr)
  new : New w wr
  mark : ∃ j : Nat, m = .int .i64 j ∧ (k = 0 ∨ j < k) ∧ j ≤ k

theorem wpList_app9 {P : Program} {w : World} {ops : Array Oper} {rest : List Oper} {o : Oper} {a : Act} {Q : Exit → Act → World → Prop} (hgd : o.guard = none) (s x : Operand) (t : TypeId) (ho : o.op = .call { callee := .builtin .append, args := #[s, x], argTypes := #[t, t] })
    (vs vx : Value) (hs : a.eval s = vs) (hx : a.eval x = vx) {v' : Value} {w' : World} (hr : (Builtin.append_ #[t, t] o.type #[vs, vx]).run P w = .ok v' w') (h : wpList P ops Q rest (a.put o.dst v') w') : wpList P ops Q (o :: rest) a w :=
  wpList_plain hgd fun K hK => oper_append s x t ho vs vx hs hx hr (hK _ _ h)

theorem own_form {w : World} {base : Nat} {e : TypeId} {v : Value} {n : Nat} {xs : List Value} (h : w.ownsRow base e 1 v n xs) : ∃ a c, v = .slice a n c ∧ n ≤ c ∧ (0 < n → ∃ g, a = some ⟨g, 0, none⟩ ∧ ∀ i u, xs[i]? = some u → w.cell? ⟨g, i, none⟩ = some u) := by
  have h0 := h
  rcases h.2 with ⟨e1, e2⟩ | ⟨g, cap, cur, e1, hb1, e3, rest⟩
  · exact ⟨none, 0, by rw [e1, e2], by omega, fun hn => by omega⟩
  · refine ⟨some ⟨g, 0, none⟩, cap, e1, rest.1, fun _ => ⟨g, rfl, fun i u hu => ?_⟩⟩
    have h6 := h0.cells (g := g) (by rw [e1]; rfl) i u hu
    rwa [Addr.add_lit, Nat.zero_add] at h6

set_option maxRecDepth 100000 in
set_option maxHeartbeats 2000000 in
theorem faultsAt (w : World) (L : List Lk) (c : Cor) (hC : Chain w L c) (hE : HasErr w) (hl : L.length ≤ 1000) :
    Calls Tryd.prog 26 #[errAt L c 0] w (FtsTo w L) := by
  obtain ⟨i0, hi0, hz0, hz1, hz2⟩ := info_parts infoPF
  obtain ⟨ifl, hifl, hsfl⟩ := Option.map_eq_some_iff.1 infoFl
  have HC := Lib.hid hC
  have HE := Lib.hid hE
  have HL := Lib.hid hl
  clear hC hE hl
  have HO := Lib.hid (fun i wx => outerAt L c i wx)
  generalize hv : errAt L c 0 = v0
  go_enter Tryd.func26, Tryd.ntmps26
  go_wp2_with fail
  rw [← hv]
  refine (HO.out 0 w HE.out).mono ?_
  rintro e w1 ⟨rfl, N1⟩
  have HI : Hid (FIn w L 0 (.slice none 0 0) (.int .i64 0) w1) := Lib.hid ⟨World.ownsRow_nil _ _ _ _, N1, 0, rfl, .inl rfl, Nat.le_refl _⟩
  generalize hp : ptrAt L 0 = p0
  have HP := Lib.hid hp
  clear N1 hp hv
  go_wp2_with fail
  go_loopw [3, 4, 5] (fun v m p wr => ∃ k : Nat, k ≤ L.length ∧ p = ptrAt L k ∧ FIn w L k v m wr) (fun v _ _ _ => L.length - (match v with | .slice _ n _ => n | _ => 0))
  case atStart => exact ⟨0, Nat.zero_le _, HP.out.symm, HI.out⟩
  case round =>
    clear HI HP
    obtain ⟨k, hk, rfl, hin⟩ := hrel
    obtain ⟨j, rfl, hj1, hj2⟩ := hin.mark
    obtain ⟨a, cp, rfl, hcp, hcell⟩ := own_form hin.own
    have HIN := Lib.hid hin
    have HL' := HL.out
    by_cases hlt : k < L.length
    · rw [ptrAt_lt hlt]
      obtain ⟨c0, c1, c2⟩ := (HC.out.new HIN.out.new).cell hlt
      generalize hx : L[k] = x at *
      have hF : wr.heap[x.b]? = some (.cells #[.string (bstr x.op), .int .i64 x.pos, errAt L c (k + 1)] 46) := by have := (HC.out.new HIN.out.new).cells k hlt; rw [hx] at this; exact this
      have heq : 0 < k → ∃ g, a = some ⟨g, 0, none⟩ ∧ ∃ y, wr.cell? ⟨g, j, none⟩ = some (.pointer (some y)) ∧ (binOp .eql 42 (.pointer (some ⟨x.b, 0, none⟩)) (.pointer (some y))).run Tryd.prog wr = .ok (.bool false) wr := by
        intro hk0
        obtain ⟨g, ha, hg⟩ := hcell hk0
        have hjk : j < k := by omega
        have hjl : j < L.length := by omega
        refine ⟨g, ha, ⟨(L[j]).b, 0, none⟩, hg j _ (by rw [List.getElem?_map, List.getElem?_take, if_pos hjk, List.getElem?_eq_getElem hjl]; rfl), ?_⟩
        exact run_eql_ptr_other (P := Tryd.prog) wr Tryd.underlying42 hifl (by rw [hsfl]; decide) (by
          intro e
          have := HC.out.apart k j hlt hjl (by omega)
          rw [hx] at this
          exact this (by injection e)) hF ((HC.out.new HIN.out.new).cells j hjl)
      obtain ⟨v', w', happ, hown', N'⟩ := run_app1 (P := Tryd.prog) w wr 57 57 42 i0 _ 8 Tryd.underlying57 hi0 hz0 hz1 hz2 rfl _ k _ HIN.out.own HIN.out.new (.pointer (some ⟨x.b, 0, none⟩)) rfl (by omega) (by omega)
      have HAPP := Lib.hid happ
      obtain ⟨a', cp', rfl, hcp', -⟩ := own_form hown'
      have c2' : w'.cell? ⟨x.b, 2, none⟩ = some (errAt L c (k + 1)) := by have := ((HC.out.new N').cell hlt).2.2; rw [hx] at this; exact this
      have HOWN : Hid (w'.ownsRow w.heap.size 42 1 (.slice a' (k + 1) cp') (k + 1) ((L.take (k + 1)).map lkPtr)) := by
        refine Lib.hid ?_
        rw [List.take_succ_eq_append_getElem hlt, List.map_append, hx]
        exact hown'
      have HN' := Lib.hid N'
      have hF' := Lib.hid hF
      have HEQ := Lib.hid heq
      clear happ hown' N' hF heq c0 c1 c2 hcell hin
      generalize hnx : errAt L c (k + 1) = nx at *
      have HNX := Lib.hid hnx
      clear hnx
      by_cases hk0 : k = 0
      · subst hk0
        have hj0 : j = 0 := by omega
        subst hj0
        go_wp2_with (at_builtin; refine wpList_app9 rfl _ _ 57 rfl _ _ rfl rfl HAPP.out ?_)
        rw [← HNX.out]
        refine (HO.out 1 w' (HE.out.new HN'.out)).mono ?_
        rintro e w3 ⟨rfl, N3⟩
        have HR : Hid (FIn w L 1 (.slice a' 1 cp') (.int .i64 0) w3) := Lib.hid ⟨own_new9 HOWN.out N3, New.trans HN'.out N3, 0, rfl, .inr (by omega), by omega⟩
        clear N3
        generalize hpq : ptrAt L 1 = pq
        have HPQ := Lib.hid hpq
        clear hpq
        go_wp2
        go_roundw
        case rel => exact ⟨1, hlt, HPQ.out.symm, HR.out⟩
        case measure => simp only []; omega
      · obtain ⟨g, rfl, y, hy, hq⟩ := HEQ.out (by omega)
        have hjk : j < k := by omega
        by_cases hm : 2 * j < k + 1
        · go_wp2_with (at_builtin; refine wpList_app9 rfl _ _ 57 rfl _ _ rfl rfl HAPP.out ?_)
          rw [← HNX.out]
          refine (HO.out (k + 1) w' (HE.out.new HN'.out)).mono ?_
          rintro e w3 ⟨rfl, N3⟩
          have HR : Hid (FIn w L (k + 1) (.slice a' (k + 1) cp') (.int .i64 k) w3) := Lib.hid ⟨own_new9 HOWN.out N3, New.trans HN'.out N3, k, rfl, .inr (by omega), by omega⟩
          clear N3
          generalize hpq : ptrAt L (k + 1) = pq
          have HPQ := Lib.hid hpq
          clear hpq
          go_wp2
          go_roundw
          case rel => exact ⟨k + 1, hlt, HPQ.out.symm, HR.out⟩
          case measure => simp only []; omega
        · go_wp2_with (at_builtin; refine wpList_app9 rfl _ _ 57 rfl _ _ rfl rfl HAPP.out ?_)
          rw [← HNX.out]
          refine (HO.out (k + 1) w' (HE.out.new HN'.out)).mono ?_
          rintro e w3 ⟨rfl, N3⟩
          have HR : Hid (FIn w L (k + 1) (.slice a' (k + 1) cp') (.int .i64 j) w3) := Lib.hid ⟨own_new9 HOWN.out N3, New.trans HN'.out N3, j, rfl, .inr (by omega), by omega⟩
          clear N3
          generalize hpq : ptrAt L (k + 1) = pq
          have HPQ := Lib.hid hpq
          clear hpq
          go_wp2
          go_roundw
          case rel => exact ⟨k + 1, hlt, HPQ.out.symm, HR.out⟩
          case measure => simp only []; omega
    · have hkL : k = L.length := by omega
      rw [ptrAt_ge (by omega)]
      have HR : Hid (RdV wr (.slice a k cp) (L.map lkPtr)) := by
        have h1 := RdV.of_own HIN.out.own
        rw [hkL, List.take_length] at h1
        rw [hkL]
        exact Lib.hid h1
      have HNW := Lib.hid HIN.out.new
      have HFR := Lib.hid (own_from HIN.out.own)
      clear hcell hin HIN
      go_wp2
      go_ret
      exact ⟨_, _, _, rfl, HR.out, HNW.out, hkL, HFR.out⟩

end Go.Proofs.YtnjijmphmgihiaaDoor
