/-
  log: a log in memory; what only reads it.
  log: failed, refusal, Count, Sure, Segment, Chain, within, start, padded.
  log: put, settle, begin.
  log: store, Flush.
  log: Append.
-/
import Derived.Test.YtijkmpcgkhijgaaGreatDoorCellN
import Derived.Test.YtijkmpcgkhijgaaGreatDoorAppAny
import Derived.Test.YtijkmpcgkhijgaaGreatDoorSegA
import Derived.Test.YtijkmpcgkhijgaaGreatDoorDskA
import Derived.Test.YtijkmpcgkhijgaaGreatDoorFltWrap
import Derived.Test.YtijkmpcgkhijgaaGreatDoorBase
import Derived.Test.YtijkmpcgkhijgaaGreatDoorSlZero
namespace Go.Proofs.YtijkmpcgkhijgaaGreatDoor
set_option linter.unusedVariables false
set_option linter.unusedSimpArgs false
set_option maxRecDepth 100000
open Go.RowKit

/-- what a log holds: its end, its texts, how many are durable, what is ahead of the end, is it dead -/
structure PLg where
  num : Int
  used : Nat
  sealed : Bool
  ch : List UInt8
  ts : List (List UInt8)
  sure : Nat
  tl : List UInt8
  dead : Bool

def PLg.cells (s : PLg) (g frm N sz : Nat) (vch vts vtl : Value) : List Value :=
  [.pointer (some ⟨g, 0, none⟩), .int .i64 (frm : Int), .int .i64 (N : Int), .int .i64 (sz : Int), .int .i64 s.num, .int .i64 (s.used : Int), .bool s.sealed, vch, vts, .int .i64 (s.sure : Int), vtl, .bool s.dead]

/-- two own rows of different types are apart -/
theorem own_neO {w : World} {b b' : Nat} {e e' : TypeId} {sz sz' : Nat} {v v' : Value} {n n' : Nat} {xs xs' : List Value} (h : w.ownsRow b e sz v n xs) (h' : w.ownsRow b' e' sz' v' n' xs') (he : e ≠ e') : ∀ k, blk v = some k → blk v' ≠ some k := by
  intro k hk hk'
  rcases h.2 with ⟨rfl, _⟩ | ⟨q, cap, cur, rfl, _, hq, _⟩
  · simp [blk] at hk
  · rcases h'.2 with ⟨rfl, _⟩ | ⟨q', cap', cur', rfl, _, hq', _⟩
    · simp [blk] at hk'
    · simp [blk] at hk hk'
      subst hk; subst hk'
      rw [hq] at hq'
      simp at hq'
      exact he hq'.2

theorem own_neT15 {w : World} {base : Nat} {e t : TypeId} {size : Nat} {v : Value} {n : Nat} {xs : List Value} {p : Nat} {c : Array Value} (h : w.ownsRow base e size v n xs) (hp : w.heap[p]? = some (.cells c t (0, 0))) (het : e ≠ t) : blk v ≠ some p := by
  intro e'
  rcases h.2 with ⟨rfl, _⟩ | ⟨q, cap, cur, rfl, _, hq, _⟩
  · simp [blk] at e'
  · simp [blk] at e'; subst e'; rw [hp] at hq; simp at hq; exact het hq.2.symm

theorem own_lt15 {w : World} {base : Nat} {e : TypeId} {size : Nat} {v : Value} {n : Nat} {xs : List Value} (h : w.ownsRow base e size v n xs) : ∀ k, blk v = some k → k < w.heap.size := by
  intro k hk
  rcases h.2 with ⟨rfl, _⟩ | ⟨q, cap, cur, rfl, _, hq, _⟩
  · simp [blk] at hk
  · simp [blk] at hk; subst hk; exact lt_of_block hq

/-- The log at block p: its disk's block g, its region; its chain, its texts, its tail. All its blocks lie in F. -/
structure LObj (w : World) (F : Nat → Prop) (p g frm N sz : Nat) (s : PLg) (vch vts vtl : Value) (ps : List (Value × List UInt8)) : Prop where
  at_ : AtN w p 73 (s.cells g frm N sz vch vts vtl)
  rch : Rd w vch s.ch
  chl : s.ch.length = 32
  oT : w.ownsRow 0 42 1 vts ps.length (ps.map (·.1))
  pst : ps.map (·.2) = s.ts
  rps : ∀ q ∈ ps, Rd w q.1 q.2
  oL : w.ownsRow 0 5 1 vtl s.tl.length (s.tl.map bv)
  ro : ∀ k, (blk vch = some k ∨ ∃ q ∈ ps, q.2 ≠ [] ∧ blk q.1 = some k) → k ≠ p ∧ blk vts ≠ some k ∧ blk vtl ≠ some k
  fp : F p
  fch : ∀ k, blk vch = some k → F k
  fts : ∀ k, blk vts = some k → F k
  ftl : ∀ k, blk vtl = some k → F k
  fps : ∀ q ∈ ps, q.2 ≠ [] → ∀ k, blk q.1 = some k → F k

section
variable {w w' : World} {F G : Nat → Prop} {p g frm N sz : Nat} {s : PLg} {vch vts vtl : Value} {ps : List (Value × List UInt8)}

theorem LObj.chne (h : LObj w F p g frm N sz s vch vts vtl ps) : s.ch ≠ [] := fun e => by have := h.chl; rw [e] at this; simp at this

theorem LObj.only (h : LObj w F p g frm N sz s vch vts vtl ps) (ho : Only G w w') (hG : ∀ k, F k → ¬ G k) : LObj w' F p g frm N sz s vch vts vtl ps :=
  ⟨h.at_.only ho (hG _ h.fp), h.rch.only ho (fun k hk _ => hG k (h.fch k hk)), h.chl, ownsRow_only h.oT ho (fun k hk => hG k (h.fts k hk)), h.pst, fun q hq => (h.rps q hq).only ho (fun k hk hne => hG k (h.fps q hq hne k hk)),
    ownsRow_only h.oL ho (fun k hk => hG k (h.ftl k hk)), h.ro, h.fp, h.fch, h.fts, h.ftl, h.fps⟩

theorem LObj.new (h : LObj w F p g frm N sz s vch vts vtl ps) (hn : New w w') : LObj w' F p g frm N sz s vch vts vtl ps := h.only (New.only (F := fun _ => False) hn) (fun _ _ f => f)

theorem LObj.drew (h : LObj w F p g frm N sz s vch vts vtl ps) : LObj w.drew F p g frm N sz s vch vts vtl ps := h.new ((Below.refl _ _).drew)

theorem LObj.narrow (h : LObj w F p g frm N sz s vch vts vtl ps) (hG : ∀ k, k < w.heap.size → F k → G k) : LObj w G p g frm N sz s vch vts vtl ps :=
  ⟨h.at_, h.rch, h.chl, h.oT, h.pst, h.rps, h.oL, h.ro, hG _ h.at_.lt h.fp, fun k hk => hG k (h.rch.lt hk h.chne) (h.fch k hk), fun k hk => hG k (own_lt15 h.oT k hk) (h.fts k hk), fun k hk => hG k (own_lt15 h.oL k hk) (h.ftl k hk),
    fun q hq hne k hk => hG k ((h.rps q hq).lt hk hne) (h.fps q hq hne k hk)⟩

theorem LObj.len (h : LObj w F p g frm N sz s vch vts vtl ps) : ps.length = s.ts.length := by
  have := congrArg List.length h.pst
  rwa [List.length_map] at this

theorem LObj.few (h : LObj w F p g frm N sz s vch vts vtl ps) : ps.length ≤ 9223372036854775807 := by
  rcases h.oT.2 with ⟨e, h0⟩ | ⟨b, cap, cur, e, -, -, h1, h2, -⟩
  · omega
  · unfold maxLen at h2; omega

theorem LObj.vts_form (h : LObj w F p g frm N sz s vch vts vtl ps) : ∃ a c, vts = .slice a ps.length c := by
  obtain ⟨a, c, e, -⟩ := ownSl_form h.oT; exact ⟨a, c, e⟩
theorem LObj.vtl_form (h : LObj w F p g frm N sz s vch vts vtl ps) : ∃ a c, vtl = .slice a s.tl.length c := by
  obtain ⟨a, c, e, -⟩ := ownSl_form h.oL; exact ⟨a, c, e⟩
theorem LObj.vch_form (h : LObj w F p g frm N sz s vch vts vtl ps) : ∃ a c, vch = .slice a 32 c := by
  obtain ⟨a, n, c, e, h1, -⟩ := h.rch
  rw [h.chl] at h1; subst h1
  exact ⟨a, c, e⟩
end

/-- a log, its values left out -/
def LogM (w : World) (F : Nat → Prop) (p g frm N sz : Nat) (s : PLg) : Prop := ∃ vch vts vtl ps, LObj w F p g frm N sz s vch vts vtl ps

section
variable {w w' : World} {F G : Nat → Prop} {p g frm N sz : Nat} {s : PLg}
theorem LogM.only (h : LogM w F p g frm N sz s) (ho : Only G w w') (hG : ∀ k, F k → ¬ G k) : LogM w' F p g frm N sz s := by
  obtain ⟨_, _, _, _, h⟩ := h; exact ⟨_, _, _, _, h.only ho hG⟩
theorem LogM.new (h : LogM w F p g frm N sz s) (hn : New w w') : LogM w' F p g frm N sz s := by
  obtain ⟨_, _, _, _, h⟩ := h; exact ⟨_, _, _, _, h.new hn⟩
theorem LogM.narrow (h : LogM w F p g frm N sz s) (hG : ∀ k, k < w.heap.size → F k → G k) : LogM w G p g frm N sz s := by
  obtain ⟨_, _, _, _, h⟩ := h; exact ⟨_, _, _, _, h.narrow hG⟩
end

theorem lgOctets {w : World} {p sz : Nat} (hc : w.cell? ⟨p, 3, none⟩ = some (.int .i64 (sz : Int))) (hb : sz ≤ 1000000) :
    Calls Tryz.prog 55 #[.pointer (some ⟨p, 0, none⟩)] w fun e w' => e = .returned (.int .i64 ((128 * sz : Nat) : Int)) ∧ w = w' := by
  obtain ⟨z, hz⟩ : ∃ z, 128 * sz = z := ⟨_, rfl⟩
  have e1 : (sz : Int) * 128 = (z : Int) := by omega
  have hzb : z ≤ 128000000 := by omega
  rw [hz]
  clear hz
  go_enter Tryz.func55, Tryz.ntmps55
  go_wp2
  go_ret
  exact ⟨rfl, rfl⟩

def Lc345 (p : Nat) (a b c : Value) (w : World) : Prop := w.cell? ⟨p, 3, none⟩ = some a ∧ w.cell? ⟨p, 4, none⟩ = some b ∧ w.cell? ⟨p, 5, none⟩ = some c

theorem lgPlace {w : World} {F : Nat → Prop} {p g frm N sz : Nat} {s : PLg} {vch vts vtl : Value} {ps : List (Value × List UInt8)} (h : LObj w F p g frm N sz s vch vts vtl ps) (hb : sz ≤ 1000) (hn : -1 ≤ s.num ∧ s.num ≤ 1000) (m : Nat) (hm : s.num * ((128 * sz : Nat) : Int) + (s.used : Int) = (m : Int)) (hmb : m ≤ 1000000000) (hu : s.used ≤ 1000000000) :
    Calls Tryz.prog 30 #[.pointer (some ⟨p, 0, none⟩)] w fun e w' => e = .returned (.int .i64 (m : Int)) ∧ New w w' := by
  have HC : Hid (Lc345 p (.int .i64 (sz : Int)) (.int .i64 s.num) (.int .i64 (s.used : Int)) w.drew) := Lib.hid ⟨h.drew.at_.cell 3 rfl, h.drew.at_.cell 4 rfl, h.drew.at_.cell 5 rfl⟩
  have HO := Lib.hid (fun wx (hx : Lc345 p (.int .i64 (sz : Int)) (.int .i64 s.num) (.int .i64 (s.used : Int)) wx) => lgOctets hx.1 (by omega))
  obtain ⟨z, hz⟩ : ∃ z, 128 * sz = z := ⟨_, rfl⟩
  rw [hz] at hm HO
  obtain ⟨x, hx⟩ : ∃ x, s.num = x := ⟨_, rfl⟩
  obtain ⟨u, huu⟩ : ∃ u, s.used = u := ⟨_, rfl⟩
  rw [hx, huu] at hm HC HO
  rw [huu] at hu
  rw [hx] at hn
  obtain ⟨y, hy⟩ : ∃ y, x * (z : Int) = y := ⟨_, rfl⟩
  rw [hy] at hm
  have hw1 : IntKind.i64.wrap (x * (z : Int)) = y := by rw [hy]; exact IntWalk.i64_in _ (by omega)
  have hw2 : IntKind.i64.wrap (y + (u : Int)) = (m : Int) := by rw [hm]; exact IntWalk.i64_in _ (by omega)
  clear h hz hx huu hy hm hn
  go_enter Tryz.func30, Tryz.ntmps30
  go_upto_region 1 with fail
  have N1 : New w w.drew := (Below.refl _ _).drew
  refine region_ord (Lc345 p (.int .i64 (sz : Int)) (.int .i64 x) (.int .i64 (u : Int))) [(0, true), (1, true), (2, true), (3, true), (4, true), (5, true), (6, true), (7, true), (10, true), (11, true), (12, true), (13, true), (14, true), (8, false), (9, true), (15, true), (16, true)] (by kernel_rfl) (by kernel_rfl) HC.out (fun _ => ?_)
  generalize w.drew = w1 at *
  have HC1 := Lib.hid (HO.out w1 HC.out)
  unfold Lc345
  iterate 13 (apply ord_take; (simp only [List.getElem?_toArray, List.getElem?_cons_succ, List.getElem?_cons_zero]; rfl); rfl; (intro w hSw; (try dsimp only at hSw); go_simp; try with_reducible rfl); intro _; try simp only [Act.put, List.setIfInBounds_toArray, List.set_cons_zero, List.set_cons_succ])
  (apply ord_only; (simp only [List.getElem?_toArray, List.getElem?_cons_succ, List.getElem?_cons_zero]; rfl); rfl; intro K hK)
  go_simp
  refine HC1.out.mono ?_
  rintro _ w2 ⟨rfl, rfl⟩
  refine hK.out _ _ (HC.out) (fun _ => ?_)
  clear hK K
  try simp only [Act.put, List.setIfInBounds_toArray, List.set_cons_zero, List.set_cons_succ]
  iterate 3 (apply ord_take; (simp only [List.getElem?_toArray, List.getElem?_cons_succ, List.getElem?_cons_zero]; rfl); rfl; (intro w hSw; (try dsimp only at hSw); go_simp; try with_reducible rfl); intro _; try simp only [Act.put, List.setIfInBounds_toArray, List.set_cons_zero, List.set_cons_succ])
  apply ord_done
  go_wp2
  go_ret
  exact ⟨rfl, N1⟩

def Lc356 (p : Nat) (a b c : Value) (w : World) : Prop := w.cell? ⟨p, 3, none⟩ = some a ∧ w.cell? ⟨p, 5, none⟩ = some b ∧ w.cell? ⟨p, 6, none⟩ = some c

/-- is there room for a text of n bytes in the last segment? -/
def PLg.fits (s : PLg) (z : Nat) (n : Int) : Bool := !s.sealed && sFits (z : Int) (s.used : Int) n

theorem lgFits {w : World} {F : Nat → Prop} {p g frm N sz : Nat} {s : PLg} {vch vts vtl : Value} {ps : List (Value × List UInt8)} (h : LObj w F p g frm N sz s vch vts vtl ps) (hb : sz ≤ 1000) (hu : s.used ≤ 1000000000) (n : Int) :
    Calls Tryz.prog 34 #[.pointer (some ⟨p, 0, none⟩), .int .i64 n] w fun e w' => e = .returned (.bool (s.fits (128 * sz) n)) ∧ New w w' := by
  have HC : Hid (Lc356 p (.int .i64 (sz : Int)) (.int .i64 (s.used : Int)) (.bool s.sealed) w.drew) := Lib.hid ⟨h.drew.at_.cell 3 rfl, h.drew.at_.cell 5 rfl, h.drew.at_.cell 6 rfl⟩
  have HO := Lib.hid (lgOctets (w := w.drew) HC.out.1 (by omega))
  obtain ⟨z, hz⟩ : ∃ z, 128 * sz = z := ⟨_, rfl⟩
  have HF := Lib.hid (fun wx => segFits wx (z : Int) (s.used : Int) n (by omega) (by omega) (by omega) (by omega))
  rw [hz] at HO
  rw [hz]
  obtain ⟨r, hr⟩ : ∃ r, sFits (z : Int) (s.used : Int) n = r := ⟨_, rfl⟩
  have HR : Hid (s.fits z n = (!s.sealed && r)) := Lib.hid (by unfold PLg.fits; rw [hr])
  rw [HR.out]
  rw [hr] at HF
  obtain ⟨u, huu⟩ : ∃ u, s.used = u := ⟨_, rfl⟩
  obtain ⟨x, hx⟩ : ∃ x, s.sealed = x := ⟨_, rfl⟩
  rw [hx, huu] at HC
  rw [huu] at HF
  rw [hx]
  clear h hz hx huu hu hr HR
  go_enter Tryz.func34, Tryz.ntmps34
  go_upto_region 1 with fail
  have N1 : New w w.drew := (Below.refl _ _).drew
  refine region_ord (Lc356 p (.int .i64 (sz : Int)) (.int .i64 (u : Int)) (.bool x)) [(0, true), (1, true), (2, true), (3, true), (4, true), (5, true), (6, true), (7, true), (8, true), (9, true), (11, true), (12, true), (13, true), (14, true), (15, true), (16, true), (10, false), (17, false), (18, true), (19, true)] (by kernel_rfl) (by kernel_rfl) HC.out (fun _ => ?_)
  generalize w.drew = w1 at *
  unfold Lc356
  cases x
  · iterate 16 (apply ord_take; (simp only [List.getElem?_toArray, List.getElem?_cons_succ, List.getElem?_cons_zero]; rfl); rfl; (intro w hSw; (try dsimp only at hSw); go_simp; try with_reducible rfl); intro _; try simp only [Act.put, List.setIfInBounds_toArray, List.set_cons_zero, List.set_cons_succ])
    (apply ord_only; (simp only [List.getElem?_toArray, List.getElem?_cons_succ, List.getElem?_cons_zero]; rfl); rfl; intro K hK)
    go_simp
    refine HO.out.mono ?_
    rintro _ w2 ⟨rfl, rfl⟩
    refine hK.out _ _ (HC.out) (fun _ => ?_)
    clear hK K
    try simp only [Act.put, List.setIfInBounds_toArray, List.set_cons_zero, List.set_cons_succ]
    (apply ord_only; (simp only [List.getElem?_toArray, List.getElem?_cons_succ, List.getElem?_cons_zero]; rfl); rfl; intro K hK)
    go_simp
    refine (HF.out w1).mono ?_
    rintro _ w2 ⟨rfl, rfl⟩
    refine hK.out _ _ (HC.out) (fun _ => ?_)
    clear hK K
    try simp only [Act.put, List.setIfInBounds_toArray, List.set_cons_zero, List.set_cons_succ]
    iterate 2 (apply ord_take; (simp only [List.getElem?_toArray, List.getElem?_cons_succ, List.getElem?_cons_zero]; rfl); rfl; (intro w hSw; (try dsimp only at hSw); go_simp; try with_reducible rfl); intro _; try simp only [Act.put, List.setIfInBounds_toArray, List.set_cons_zero, List.set_cons_succ])
    apply ord_done
    go_wp2
    go_ret
    exact ⟨rfl, N1⟩
  · iterate 7 (apply ord_take; (simp only [List.getElem?_toArray, List.getElem?_cons_succ, List.getElem?_cons_zero]; rfl); rfl; (intro w hSw; (try dsimp only at hSw); go_simp; try with_reducible rfl); intro _; try simp only [Act.put, List.setIfInBounds_toArray, List.set_cons_zero, List.set_cons_succ])
    iterate 9 (apply ord_skip; (simp only [List.getElem?_toArray, List.getElem?_cons_succ, List.getElem?_cons_zero]; rfl); rfl; intro _; try simp only [Act.put, List.setIfInBounds_toArray, List.set_cons_zero, List.set_cons_succ])
    (apply ord_pass; (simp only [List.getElem?_toArray, List.getElem?_cons_succ, List.getElem?_cons_zero]; rfl); rfl; intro _; try simp only [Act.put, List.setIfInBounds_toArray, List.set_cons_zero, List.set_cons_succ])
    (apply ord_pass; (simp only [List.getElem?_toArray, List.getElem?_cons_succ, List.getElem?_cons_zero]; rfl); rfl; intro _; try simp only [Act.put, List.setIfInBounds_toArray, List.set_cons_zero, List.set_cons_succ])
    iterate 2 (apply ord_take; (simp only [List.getElem?_toArray, List.getElem?_cons_succ, List.getElem?_cons_zero]; rfl); rfl; (intro w hSw; (try dsimp only at hSw); go_simp; try with_reducible rfl); intro _; try simp only [Act.put, List.setIfInBounds_toArray, List.set_cons_zero, List.set_cons_succ])
    apply ord_done
    go_wp2
    go_ret
    exact ⟨rfl, N1⟩

def Lc78 (p : Nat) (a b : Value) (w : World) : Prop := w.cell? ⟨p, 7, none⟩ = some a ∧ w.cell? ⟨p, 8, none⟩ = some b

theorem lgFoot {w : World} {F : Nat → Prop} {p g frm N sz : Nat} {s : PLg} {vch vts vtl : Value} {ps : List (Value × List UInt8)} (h : LObj w F p g frm N sz s vch vts vtl ps) :
    Calls Tryz.prog 58 #[.pointer (some ⟨p, 0, none⟩)] w (OwnRet w (sFoot s.ts.length s.ch)) := by
  obtain ⟨at_, ct, rfl⟩ := h.vts_form
  obtain ⟨ac, cc, rfl⟩ := h.vch_form
  have HC : Hid (Lc78 p (.slice ac 32 cc) (.slice at_ ps.length ct) w.drew) := Lib.hid ⟨h.drew.at_.cell 7 rfl, h.drew.at_.cell 8 rfl⟩
  have hfw := h.few
  have HF := Lib.hid (segFootPub w.drew (ps.length : Int) _ s.ch h.drew.rch (by omega) (by omega) (by rw [h.chl]; decide))
  have HE : Hid (sFootOf (ps.length : Int) s.ch = sFoot s.ts.length s.ch) := Lib.hid (by unfold sFootOf; rw [if_pos ⟨by omega, h.chl⟩, Int.toNat_natCast, h.len])
  rw [HE.out] at HF
  have N1 : New w w.drew := (Below.refl _ _).drew
  have HL1 := Lib.hid h.drew
  clear h
  go_enter Tryz.func58, Tryz.ntmps58
  go_upto_region 1 with fail
  refine region_ord (Lc78 p (.slice ac 32 cc) (.slice at_ ps.length ct)) [(0, true), (1, true), (2, true), (3, true), (4, true), (5, true), (6, true), (7, true), (8, true), (9, true), (10, false), (11, true)] (by kernel_rfl) (by kernel_rfl) HC.out (fun _ => ?_)
  generalize w.drew = w1 at *
  unfold Lc78
  iterate 10 (apply ord_take; (simp only [List.getElem?_toArray, List.getElem?_cons_succ, List.getElem?_cons_zero]; rfl); rfl; (intro w hSw; (try dsimp only at hSw); go_simp; try with_reducible rfl); intro _; try simp only [Act.put, List.setIfInBounds_toArray, List.set_cons_zero, List.set_cons_succ])
  (apply ord_only; (simp only [List.getElem?_toArray, List.getElem?_cons_succ, List.getElem?_cons_zero]; rfl); rfl; intro K hK)
  go_simp
  refine HF.out.mono ?_
  rintro _ w2 ⟨v, rfl, ho, N2⟩
  obtain ⟨a, n, c, rfl⟩ := own_slice ho
  have HO := Lib.hid (own_base ho N1.size)
  have HC2 : Hid (Lc78 p (.slice ac 32 cc) (.slice at_ ps.length ct) w2) := Lib.hid ⟨(HL1.out.new N2).at_.cell 7 rfl, (HL1.out.new N2).at_.cell 8 rfl⟩
  refine hK.out _ _ (HC2.out) (fun _ => ?_)
  clear hK K
  try simp only [Act.put, List.setIfInBounds_toArray, List.set_cons_zero, List.set_cons_succ]
  (apply ord_take; (simp only [List.getElem?_toArray, List.getElem?_cons_succ, List.getElem?_cons_zero]; rfl); rfl; (intro w hSw; (try dsimp only at hSw); go_simp; try with_reducible rfl); intro _; try simp only [Act.put, List.setIfInBounds_toArray, List.set_cons_zero, List.set_cons_succ])
  apply ord_done
  go_wp2
  go_ret
  exact ⟨_, rfl, HO.out, New.trans N1 N2⟩

def Lc35 (p : Nat) (a b : Value) (w : World) : Prop := w.cell? ⟨p, 3, none⟩ = some a ∧ w.cell? ⟨p, 5, none⟩ = some b
def Lc246 (p : Nat) (a b c : Value) (w : World) : Prop := w.cell? ⟨p, 2, none⟩ = some a ∧ w.cell? ⟨p, 4, none⟩ = some b ∧ w.cell? ⟨p, 6, none⟩ = some c

/-- may a segment be begun behind the last one? -/
def PLg.goes (s : PLg) (z N : Nat) : Bool := decide (s.num + 1 < (N : Int)) && (s.sealed || decide (48 ≤ (z : Int) - (s.used : Int)))

set_option maxHeartbeats 1000000 in
theorem lgContinues {w : World} {F : Nat → Prop} {p g frm N sz : Nat} {s : PLg} {vch vts vtl : Value} {ps : List (Value × List UInt8)} (h : LObj w F p g frm N sz s vch vts vtl ps) (hb : sz ≤ 1000) (hu : s.used ≤ 1000000000) (hn : -1 ≤ s.num ∧ s.num ≤ 1000) (hN : N ≤ 1000) :
    Calls Tryz.prog 57 #[.pointer (some ⟨p, 0, none⟩)] w fun e w' => e = .returned (.bool (s.goes (128 * sz) N)) ∧ New w w' := by
  obtain ⟨x, u, sl, ch, ts, sure, tl, dead⟩ := s
  dsimp only at hu hn
  have HL1 := Lib.hid h.drew
  have HL2 := Lib.hid h.drew.drew
  have HC : Hid (Lc35 p (.int .i64 (sz : Int)) (.int .i64 (u : Int)) w.drew) := Lib.hid ⟨HL1.out.at_.cell 3 rfl, HL1.out.at_.cell 5 rfl⟩
  have HC2 : Hid (Lc246 p (.int .i64 (N : Int)) (.int .i64 x) (.bool sl) w.drew.drew) := Lib.hid ⟨HL2.out.at_.cell 2 rfl, HL2.out.at_.cell 4 rfl, HL2.out.at_.cell 6 rfl⟩
  have HO := Lib.hid (lgOctets (w := w.drew) HC.out.1 (by omega))
  have HFt := Lib.hid (lgFoot h.drew.drew)
  have HFl : Hid ((sFoot ts.length ch).length = 48) := Lib.hid (sFoot_length _ _ h.chl)
  obtain ⟨z, hz⟩ : ∃ z, 128 * sz = z := ⟨_, rfl⟩
  rw [hz] at HO
  rw [hz]
  obtain ⟨t, ht⟩ : ∃ t : Bool, decide (x + 1 < (N : Int)) = t := ⟨_, rfl⟩
  obtain ⟨r, hr⟩ : ∃ r : Bool, decide (48 ≤ (z : Int) - (u : Int)) = r := ⟨_, rfl⟩
  have HR : Hid (PLg.goes ⟨x, u, sl, ch, ts, sure, tl, dead⟩ z N = (t && (sl || r))) := Lib.hid (by unfold PLg.goes; dsimp only; rw [ht, hr])
  rw [HR.out]
  have hw1 : IntKind.i64.wrap ((z : Int) - (u : Int)) = (z : Int) - (u : Int) := IntWalk.i64_in _ (by omega)
  have hw2 : IntKind.i64.wrap (x + 1) = x + 1 := IntWalk.i64_in _ (by omega)
  clear h hz hu hb hN
  go_enter Tryz.func57, Tryz.ntmps57
  go_upto_region 1 with fail
  have N1 : New w w.drew := (Below.refl _ _).drew
  have N2 : New w w.drew.drew := N1.drew
  refine region_ord (Lc35 p (.int .i64 (sz : Int)) (.int .i64 (u : Int))) [(0, true), (1, true), (2, true), (4, true), (5, true), (6, true), (7, true), (8, true), (3, false), (9, true), (10, true)] (by kernel_rfl) (by kernel_rfl) HC.out (fun _ => ?_)
  unfold Lc35
  iterate 8 (apply ord_take; (simp only [List.getElem?_toArray, List.getElem?_cons_succ, List.getElem?_cons_zero]; rfl); rfl; (intro w hSw; (try dsimp only at hSw); go_simp; try with_reducible rfl); intro _; try simp only [Act.put, List.setIfInBounds_toArray, List.set_cons_zero, List.set_cons_succ])
  (apply ord_only; (simp only [List.getElem?_toArray, List.getElem?_cons_succ, List.getElem?_cons_zero]; rfl); rfl; intro K hK)
  go_simp
  refine HO.out.mono ?_
  rintro _ w2 ⟨rfl, rfl⟩
  refine hK.out _ _ (HC.out) (fun _ => ?_)
  clear hK K
  try simp only [Act.put, List.setIfInBounds_toArray, List.set_cons_zero, List.set_cons_succ]
  iterate 2 (apply ord_take; (simp only [List.getElem?_toArray, List.getElem?_cons_succ, List.getElem?_cons_zero]; rfl); rfl; (intro w hSw; (try dsimp only at hSw); go_simp; try with_reducible rfl); intro _; try simp only [Act.put, List.setIfInBounds_toArray, List.set_cons_zero, List.set_cons_succ])
  apply ord_done
  clear HO HC HL1 N1
  go_upto_region 2 with fail
  refine region_ord (Lc246 p (.int .i64 (N : Int)) (.int .i64 x) (.bool sl)) [(0, true), (1, true), (2, true), (3, true), (4, true), (5, true), (6, true), (7, true), (8, true), (9, true), (10, true), (11, true), (12, true), (13, true), (14, true), (15, true), (16, true), (17, true), (18, true), (19, true), (20, true), (21, false), (22, true), (23, true), (24, true), (25, true), (26, true)] (by kernel_rfl) (by kernel_rfl) HC2.out (fun _ => ?_)
  generalize w.drew.drew = w1 at *
  unfold Lc246
  cases t
  · have ht' : ¬ (x + 1 < (N : Int)) := of_decide_eq_false ht
    iterate 13 (apply ord_take; (simp only [List.getElem?_toArray, List.getElem?_cons_succ, List.getElem?_cons_zero]; rfl); rfl; (intro w hSw; (try dsimp only at hSw); go_simp; try with_reducible rfl); intro _; try simp only [Act.put, List.setIfInBounds_toArray, List.set_cons_zero, List.set_cons_succ])
    iterate 8 (apply ord_skip; (simp only [List.getElem?_toArray, List.getElem?_cons_succ, List.getElem?_cons_zero]; rfl); rfl; intro _; try simp only [Act.put, List.setIfInBounds_toArray, List.set_cons_zero, List.set_cons_succ])
    (apply ord_pass; (simp only [List.getElem?_toArray, List.getElem?_cons_succ, List.getElem?_cons_zero]; rfl); rfl; intro _; try simp only [Act.put, List.setIfInBounds_toArray, List.set_cons_zero, List.set_cons_succ])
    iterate 3 (apply ord_skip; (simp only [List.getElem?_toArray, List.getElem?_cons_succ, List.getElem?_cons_zero]; rfl); rfl; intro _; try simp only [Act.put, List.setIfInBounds_toArray, List.set_cons_zero, List.set_cons_succ])
    iterate 2 (apply ord_take; (simp only [List.getElem?_toArray, List.getElem?_cons_succ, List.getElem?_cons_zero]; rfl); rfl; (intro w hSw; (try dsimp only at hSw); go_simp; try with_reducible rfl); intro _; try simp only [Act.put, List.setIfInBounds_toArray, List.set_cons_zero, List.set_cons_succ])
    apply ord_done
    go_wp2
    go_ret
    exact ⟨rfl, N2⟩
  · have ht' : x + 1 < (N : Int) := of_decide_eq_true ht
    cases sl
    · iterate 21 (apply ord_take; (simp only [List.getElem?_toArray, List.getElem?_cons_succ, List.getElem?_cons_zero]; rfl); rfl; (intro w hSw; (try dsimp only at hSw); go_simp; try with_reducible rfl); intro _; try simp only [Act.put, List.setIfInBounds_toArray, List.set_cons_zero, List.set_cons_succ])
      (apply ord_only; (simp only [List.getElem?_toArray, List.getElem?_cons_succ, List.getElem?_cons_zero]; rfl); rfl; intro K hK)
      go_simp
      refine HFt.out.mono ?_
      rintro _ w2 ⟨v, rfl, ho, M2⟩
      obtain ⟨a, n, c, rfl⟩ := own_slice ho
      have hn48 : n = 48 := by have := (Rd.of_own ho).len; rw [HFl.out] at this; exact this.symm
      subst hn48
      have HL3 := HL2.out.new M2
      have HC3 : Hid (Lc246 p (.int .i64 (N : Int)) (.int .i64 x) (.bool false) w2) := Lib.hid ⟨HL3.at_.cell 2 rfl, HL3.at_.cell 4 rfl, HL3.at_.cell 6 rfl⟩
      have HN := Lib.hid (New.trans N2 M2)
      clear HL3 ho M2 N2
      refine hK.out _ _ (HC3.out) (fun _ => ?_)
      clear hK K
      try simp only [Act.put, List.setIfInBounds_toArray, List.set_cons_zero, List.set_cons_succ]
      cases r
      · have hr' : ¬ (48 ≤ (z : Int) - (u : Int)) := of_decide_eq_false hr
        iterate 5 (apply ord_take; (simp only [List.getElem?_toArray, List.getElem?_cons_succ, List.getElem?_cons_zero]; rfl); rfl; (intro w hSw; (try dsimp only at hSw); go_simp; try with_reducible rfl); intro _; try simp only [Act.put, List.setIfInBounds_toArray, List.set_cons_zero, List.set_cons_succ])
        apply ord_done
        go_wp2
        go_ret
        exact ⟨rfl, HN.out⟩
      · have hr' : (48 ≤ (z : Int) - (u : Int)) := of_decide_eq_true hr
        iterate 5 (apply ord_take; (simp only [List.getElem?_toArray, List.getElem?_cons_succ, List.getElem?_cons_zero]; rfl); rfl; (intro w hSw; (try dsimp only at hSw); go_simp; try with_reducible rfl); intro _; try simp only [Act.put, List.setIfInBounds_toArray, List.set_cons_zero, List.set_cons_succ])
        apply ord_done
        go_wp2
        go_ret
        exact ⟨rfl, HN.out⟩
    · iterate 19 (apply ord_take; (simp only [List.getElem?_toArray, List.getElem?_cons_succ, List.getElem?_cons_zero]; rfl); rfl; (intro w hSw; (try dsimp only at hSw); go_simp; try with_reducible rfl); intro _; try simp only [Act.put, List.setIfInBounds_toArray, List.set_cons_zero, List.set_cons_succ])
      iterate 2 (apply ord_skip; (simp only [List.getElem?_toArray, List.getElem?_cons_succ, List.getElem?_cons_zero]; rfl); rfl; intro _; try simp only [Act.put, List.setIfInBounds_toArray, List.set_cons_zero, List.set_cons_succ])
      (apply ord_pass; (simp only [List.getElem?_toArray, List.getElem?_cons_succ, List.getElem?_cons_zero]; rfl); rfl; intro _; try simp only [Act.put, List.setIfInBounds_toArray, List.set_cons_zero, List.set_cons_succ])
      iterate 2 (apply ord_skip; (simp only [List.getElem?_toArray, List.getElem?_cons_succ, List.getElem?_cons_zero]; rfl); rfl; intro _; try simp only [Act.put, List.setIfInBounds_toArray, List.set_cons_zero, List.set_cons_succ])
      iterate 3 (apply ord_take; (simp only [List.getElem?_toArray, List.getElem?_cons_succ, List.getElem?_cons_zero]; rfl); rfl; (intro w hSw; (try dsimp only at hSw); go_simp; try with_reducible rfl); intro _; try simp only [Act.put, List.setIfInBounds_toArray, List.set_cons_zero, List.set_cons_succ])
      apply ord_done
      go_wp2
      go_ret
      exact ⟨rfl, N2⟩

end Go.Proofs.YtijkmpcgkhijgaaGreatDoor

namespace Go.Proofs.YtijkmpcgkhijgaaGreatDoor
set_option linter.unusedVariables false
set_option linter.unusedSimpArgs false
set_option maxRecDepth 100000
open Go.RowKit

/-- an error: a fault that is not nil -/
def FailTo (w : World) (e : Ending) (w' : World) : Prop := (∃ y, e = .returned (.iface 127 y)) ∧ New w w'

theorem lgFailed {w : World} {F : Nat → Prop} {p g frm N sz : Nat} {s : PLg} {vch vts vtl : Value} {ps : List (Value × List UInt8)} (h : LObj w F p g frm N sz s vch vts vtl ps) (x : Int) (hx : x ≠ 0) :
    Calls Tryz.prog 28 #[.pointer (some ⟨p, 0, none⟩), .int .i64 x] w (FailTo w) := by
  obtain ⟨at_, ct, rfl⟩ := h.vts_form
  have c8 := h.at_.cell 8 rfl
  have HX := Lib.hid hx
  clear h hx
  go_enter Tryz.func28, Tryz.ntmps28
  go_wp2_with fail
  refine (wrap1 w _ _ x HX.out).mono ?_
  rintro _ w2 ⟨rfl, -, N2⟩
  go_wp2
  go_ret
  exact ⟨⟨_, rfl⟩, N2⟩

/-- why a text of n bytes can't be appended; 0: it can -/
def PLg.refuse (s : PLg) (z N : Nat) (n : Int) : Int :=
  if s.dead = true then 22 else if sFits (z : Int) 128 n = false then 11 else if s.fits z n = false ∧ s.goes z N = false then 21 else 0

set_option maxHeartbeats 1000000 in
theorem lgRefusal {w : World} {F : Nat → Prop} {p g frm N sz : Nat} {s : PLg} {vch vts vtl : Value} {ps : List (Value × List UInt8)} (h : LObj w F p g frm N sz s vch vts vtl ps) (hb : sz ≤ 1000) (hu : s.used ≤ 1000000000) (hn : -1 ≤ s.num ∧ s.num ≤ 1000) (hN : N ≤ 1000) (n : Int) :
    Calls Tryz.prog 33 #[.pointer (some ⟨p, 0, none⟩), .int .i64 n] w fun e w' => e = .returned (.int .i64 (s.refuse (128 * sz) N n)) ∧ New w w' := by
  have HFi := Lib.hid (fun wx (hw : New w wx) => lgFits (h.new hw) hb hu n)
  have HGo := Lib.hid (fun wx (hw : New w wx) => lgContinues (h.new hw) hb hu hn hN)
  have HO := Lib.hid (lgOctets (h.at_.cell 3 rfl) (by omega))
  have c5 := h.at_.cell 11 rfl
  obtain ⟨z, hz⟩ : ∃ z, 128 * sz = z := ⟨_, rfl⟩
  rw [hz] at HO HFi HGo
  rw [hz]
  have HS := Lib.hid (segFits w (z : Int) 128 n (by omega) (by omega) (by omega) (by omega))
  obtain ⟨f0, Hf0⟩ : ∃ x, Hid (sFits (z : Int) 128 n = x) := ⟨_, Lib.hid rfl⟩
  obtain ⟨f1, Hf1⟩ : ∃ x, Hid (s.fits z n = x) := ⟨_, Lib.hid rfl⟩
  obtain ⟨f2, Hf2⟩ : ∃ x, Hid (s.goes z N = x) := ⟨_, Lib.hid rfl⟩
  obtain ⟨d, Hd⟩ : ∃ x, Hid (s.dead = x) := ⟨_, Lib.hid rfl⟩
  rw [Hf0.out] at HS
  rw [Hf1.out] at HFi
  rw [Hf2.out] at HGo
  have HR : Hid (s.refuse z N n = if d = true then 22 else if f0 = false then 11 else if f1 = false ∧ f2 = false then 21 else 0) := Lib.hid (by unfold PLg.refuse; rw [Hf0.out, Hf1.out, Hf2.out, Hd.out])
  rw [HR.out]
  rw [Hd.out] at c5
  clear h hz hu hb hN HR Hf0 Hf1 Hf2 Hd hn
  go_enter Tryz.func33, Tryz.ntmps33
  cases d
  rotate_left
  · go_wp2
    go_ret
    exact ⟨rfl, Below.refl _ _⟩
  go_wp2_with fail
  refine HO.out.mono ?_
  rintro _ w2 ⟨rfl, rfl⟩
  go_wp2_with fail
  refine HS.out.mono ?_
  rintro _ w2 ⟨rfl, rfl⟩
  cases f0
  · go_wp2
    go_ret
    exact ⟨rfl, Below.refl _ _⟩
  go_wp2_with fail
  refine (HFi.out w (Below.refl _ _)).mono ?_
  rintro _ w2 ⟨rfl, N2⟩
  cases f1
  rotate_left
  · go_wp2
    go_ret
    exact ⟨rfl, N2⟩
  go_wp2_with fail
  refine (HGo.out w2 N2).mono ?_
  rintro _ w3 ⟨rfl, N3⟩
  cases f2
  · go_wp2
    go_ret
    exact ⟨rfl, New.trans N2 N3⟩
  · go_wp2
    go_ret
    exact ⟨rfl, New.trans N2 N3⟩

theorem lgSure {w : World} {F : Nat → Prop} {p g frm N sz : Nat} {s : PLg} {vch vts vtl : Value} {ps : List (Value × List UInt8)} (h : LObj w F p g frm N sz s vch vts vtl ps) :
    Calls Tryz.prog 13 #[.pointer (some ⟨p, 0, none⟩)] w fun e w' => e = .returned (.int .i64 (s.sure : Int)) ∧ w = w' := by
  have c9 := h.at_.cell 9 rfl
  clear h
  go_enter Tryz.func13, Tryz.ntmps13
  go_wp2
  go_ret
  exact ⟨rfl, rfl⟩

theorem lgCount {w : World} {F : Nat → Prop} {p g frm N sz : Nat} {s : PLg} {vch vts vtl : Value} {ps : List (Value × List UInt8)} (h : LObj w F p g frm N sz s vch vts vtl ps) :
    Calls Tryz.prog 24 #[.pointer (some ⟨p, 0, none⟩)] w fun e w' => e = .returned (.int .i64 (s.ts.length : Int)) ∧ w = w' := by
  obtain ⟨at_, ct, rfl⟩ := h.vts_form
  have c8 := h.at_.cell 8 rfl
  have HE := Lib.hid h.len
  rw [← HE.out]
  clear h HE
  go_enter Tryz.func24, Tryz.ntmps24
  go_wp2
  go_ret
  exact ⟨rfl, rfl⟩

theorem lgSegment {w : World} {F : Nat → Prop} {p g frm N sz : Nat} {s : PLg} {vch vts vtl : Value} {ps : List (Value × List UInt8)} (h : LObj w F p g frm N sz s vch vts vtl ps) :
    Calls Tryz.prog 25 #[.pointer (some ⟨p, 0, none⟩)] w fun e w' => e = .returned (.int .i64 (max s.num 0)) ∧ w = w' := by
  have c4 := h.at_.cell 4 rfl
  obtain ⟨x, hx⟩ : ∃ x, s.num = x := ⟨_, rfl⟩
  rw [hx] at c4
  rw [hx]
  clear h hx
  by_cases hd : 0 ≤ x
  · have hm : max x 0 = x := by omega
    rw [hm]
    clear hm
    go_enter Tryz.func25, Tryz.ntmps25
    go_wp2
    go_ret
    exact ⟨rfl, rfl⟩
  · have hm : max x 0 = 0 := by omega
    rw [hm]
    clear hm
    go_enter Tryz.func25, Tryz.ntmps25
    go_wp2
    go_ret
    exact ⟨rfl, rfl⟩

theorem lgChain {w : World} {F : Nat → Prop} {p g frm N sz : Nat} {s : PLg} {vch vts vtl : Value} {ps : List (Value × List UInt8)} (h : LObj w F p g frm N sz s vch vts vtl ps) :
    Calls Tryz.prog 21 #[.pointer (some ⟨p, 0, none⟩)] w (CloneNew w s.ch) := by
  obtain ⟨ac, cc, rfl⟩ := h.vch_form
  have c7 := h.at_.cell 7 rfl
  have HC := Lib.hid (cloneNew w _ s.ch h.rch (by rw [h.chl]; decide))
  clear h
  go_enter Tryz.func21, Tryz.ntmps21
  go_wp2_with fail
  refine HC.out.mono ?_
  rintro _ w2 ⟨a, n, c, rfl, h1, h2, h3⟩
  go_wp2
  go_ret
  exact ⟨a, n, c, rfl, h1, h2, h3⟩

theorem lgWithin (w : World) (n low high : Int) : Calls Tryz.prog 42 #[.int .i64 n, .int .i64 low, .int .i64 high] w fun e w' => e = .returned (.bool (decide (low ≤ n ∧ n ≤ high))) ∧ w = w' := by
  by_cases h1 : low ≤ n
  · by_cases h2 : n ≤ high
    · rw [decide_eq_true (And.intro h1 h2)]
      go_enter Tryz.func42, Tryz.ntmps42
      go_wp2
      go_ret
      exact ⟨rfl, rfl⟩
    · rw [decide_eq_false (fun h => h2 h.2)]
      go_enter Tryz.func42, Tryz.ntmps42
      go_wp2
      go_ret
      exact ⟨rfl, rfl⟩
  · rw [decide_eq_false (fun h => h1 h.1)]
    go_enter Tryz.func42, Tryz.ntmps42
    go_wp2
    go_ret
    exact ⟨rfl, rfl⟩

/-- what is written of some bytes: up to the end of their last sector -/
def padB (l : List UInt8) : List UInt8 := l ++ List.replicate ((l.length + 127) / 128 * 128 - l.length) 0

theorem padB_length (l : List UInt8) : (padB l).length = 128 * ((l.length + 127) / 128) := by
  unfold padB; rw [List.length_append, List.length_replicate]; omega

theorem lgPadded (w : World) (a : Option Addr) (n c : Nat) (l : List UInt8) (h : Rd w (.slice a n c) l) (hb : n ≤ 1000000000) (h0 : 0 < n) :
    Calls Tryz.prog 31 #[.slice a n c] w (OwnRet w (padB l)) := by
  have HX := Lib.hid h
  have hl := h.len
  have HLen := Lib.hid hl
  obtain ⟨m, hm⟩ : ∃ m, (n + 127) / 128 = m := ⟨_, rfl⟩
  have HM := Lib.hid hm
  have e1 : ((n : Int) + 128 - 1).tdiv 128 = (m : Int) := by rw [Int.tdiv_eq_ediv_of_nonneg (by omega)]; omega
  obtain ⟨k, hk⟩ : ∃ k, m * 128 = k := ⟨_, rfl⟩
  have e2 : (m : Int) * 128 = (k : Int) := by omega
  have hkb : k ≤ 1000000200 := by omega
  have HK : Hid (padB l = l ++ List.replicate (k - l.length) 0) := Lib.hid (by unfold padB; rw [hl, hm, hk])
  have HKn : Hid (n ≤ k ∧ 0 < n) := Lib.hid ⟨by omega, h0⟩
  have hmk : ∀ wx : World, (Instr.makeSlice 42 (.int .i64 (k : Int)) (.int .i64 (k : Int))).run Tryz.prog wx = .ok (.slice (some ⟨wx.heap.size, 0, none⟩) k k) (wx.alloc (.cells ((List.replicate k (0 : UInt8)).map bv).toArray 5)) := fun wx => run_make10 k (by omega) wx
  clear h hl hm hk h0
  go_enter Tryz.func31, Tryz.ntmps31
  go_upto_region 2 with fail
  go_upto_region 3 with fail
  generalize hw1 : World.alloc w _ = w1
  have HB : Hid (w1.heap[w.heap.size]? = some (.cells (List.replicate k (bv 0)).toArray 5)) := Lib.hid (by rw [← hw1, heap_alloc_new]; simp)
  have n1 : New w w1 := by rw [← hw1]; exact (Below.refl _ _).alloc (Nat.le_refl _) _
  have HN1 := Lib.hid n1
  obtain ⟨w2, hr, hrow, hon⟩ := run_copy_zero HB.out (HX.out.new n1) HLen.out HKn.out.1 HKn.out.2
  have HO := Lib.hid (own_of_full hrow (Nat.le_refl w.heap.size) (by rw [List.length_append, List.length_replicate, HLen.out]; have := HKn.out; omega))
  have HN2 : Hid (New w w2) := Lib.hid (Below.trans n1 (hon.below n1.size (fun j hj => by subst hj; exact Nat.le_refl _)))
  have HLn : Hid ((l ++ List.replicate (k - l.length) 0).length = k) := Lib.hid (by rw [List.length_append, List.length_replicate, HLen.out]; have := HKn.out; omega)
  rw [HLn.out] at HO
  clear hw1 n1 hrow hon hmk e1 e2 HB
  go_wp2
  go_ret
  rw [HK.out]
  refine ⟨_, rfl, ?_, HN2.out⟩
  rw [HLn.out]
  exact HO.out

end Go.Proofs.YtijkmpcgkhijgaaGreatDoor

namespace Go.Proofs.YtijkmpcgkhijgaaGreatDoor
set_option linter.unusedVariables false
set_option linter.unusedSimpArgs false
set_option maxRecDepth 100000
open Go.RowKit

theorem Rd.toV {w : World} {v : Value} {l : List UInt8} (h : Rd w v l) : RdV w v (l.map bv) := by
  obtain ⟨a, n, c, rfl, h1, h2, h3, h4, h5⟩ := h
  refine ⟨a, n, c, rfl, by rw [List.length_map]; exact h1, h2, h3, h4, fun ad had i u hu => ?_⟩
  rw [List.getElem?_map] at hu
  cases hb : l[i]? with
  | none => rw [hb] at hu; cases hu
  | some x => rw [hb] at hu; cases hu; exact h5 ad had i x hb

theorem bv_one (l : List UInt8) : ∀ u ∈ l.map bv, u.oneCell' = true := by
  intro u hu
  obtain ⟨x, -, rfl⟩ := List.mem_map.1 hu
  rfl

set_option maxHeartbeats 400000 in
/-- a copy, a row of its own -/
theorem cloneOwn (w : World) (x : Value) (l : List UInt8) (h : Rd w x l) (hn : l.length ≤ 140737488355328) : Calls Tryz.prog 38 #[x] w (OwnRet w l) := by
  obtain ⟨i0, hi0, hz0, hz1, hz2⟩ := info_parts infoByte
  have HV := Lib.hid h
  have h' := h
  obtain ⟨a, n, c, rfl, h1, h2, h3, h4, h5⟩ := h'
  cases a with
  | none =>
    obtain ⟨rfl, rfl⟩ := h4 rfl
    obtain rfl := List.eq_nil_of_length_eq_zero h1
    have he : ∀ wx : World, (binOp .eql 42 (.slice none 0 0) (.slice none 0 0)).run Tryz.prog wx = .ok (.bool true) wx := fun _ => rfl
    clear h5 h1 h4
    go_enter Tryz.func38, Tryz.ntmps38
    go_wp2
    go_ret
    exact OwnRet.none (Below.refl _ _)
  | some ad =>
    have N1 : New w (w.alloc (.cells #[] 5)) := (Below.refl _ _).alloc (Nat.le_refl _) _
    have he : ∀ wx : World, (binOp .eql 42 (.slice (some ad) n c) (.slice none 0 0)).run Tryz.prog wx = .ok (.bool false) wx := fun _ => rfl
    obtain ⟨v', w', hr, hown, ho, hb⟩ := run_append_any (P := Tryz.prog) (w.alloc (.cells #[] 5)) w.heap.size 42 42 5 i0 _ 1 Tryz.underlying42 hi0 hz0 hz1 hz2 rfl _ 0 [] (own_empty w _ _ (Nat.le_refl _)) _ (l.map bv) (HV.out.new N1).toV (bv_one l) (by rw [List.length_map]; omega) (by rw [List.length_map]; omega) N1.size
    rw [List.nil_append, List.length_map, Nat.zero_add] at hown
    obtain ⟨av, cv, rfl, -⟩ := ownSl_form hown
    have HR := Lib.hid hr
    have HO := Lib.hid hown
    have HN : Hid (New w w') := Lib.hid (Below.trans N1 (ho.below N1.size (fun k hk => by simp [blk] at hk; omega)))
    clear h h1 h2 h3 h4 h5 hn hr hown ho hb
    go_enter Tryz.func38, Tryz.ntmps38
    go_wp2_with (at_builtin; refine wpList_app1 rfl (.tmp 5) (.tmp 6) 42 rfl _ _ rfl rfl HR.out ?_)
    go_ret
    exact ⟨_, rfl, HO.out, HN.out⟩

section
variable {w w' wa : World} {F G : Nat → Prop} {p g frm N sz : Nat} {s s' : PLg} {vch vts vtl : Value} {ps : List (Value × List UInt8)}

theorem LObj.mono (h : LObj w F p g frm N sz s vch vts vtl ps) (hG : ∀ k, F k → G k) : LObj w G p g frm N sz s vch vts vtl ps := h.narrow (fun k _ hk => hG k hk)

theorem LObj.neT (h : LObj w F p g frm N sz s vch vts vtl ps) : blk vts ≠ some p ∧ blk vtl ≠ some p := ⟨own_neT15 h.oT h.at_ (by decide), own_neT15 h.oL h.at_ (by decide)⟩

theorem LObj.neTL (h : LObj w F p g frm N sz s vch vts vtl ps) : ∀ k, blk vts = some k → blk vtl ≠ some k := own_neO h.oT h.oL (by decide)

/-- a cell that is no slice -/
theorem LObj.upd (h : LObj w F p g frm N sz s vch vts vtl ps) (i : Nat) (u : Value) (hc : (s.cells g frm N sz vch vts vtl).set i u = s'.cells g frm N sz vch vts vtl) (e1 : s'.ch = s.ch) (e2 : s'.ts = s.ts) (e3 : s'.tl = s.tl) :
    LObj (w.setCell ⟨p, i, none⟩ u) F p g frm N sz s' vch vts vtl ps := by
  have ho := only_cell w p i u
  have h1 := h.at_.set i u
  rw [hc] at h1
  refine ⟨h1, ?_, by rw [e1]; exact h.chl, ownsRow_only h.oT ho (fun k hk e => h.neT.1 (by rw [hk, e])), by rw [e2]; exact h.pst, fun q hq => ?_, ?_, h.ro, h.fp, h.fch, h.fts, h.ftl, h.fps⟩
  · rw [e1]; exact h.rch.only ho (fun k hk _ => (h.ro k (.inl hk)).1)
  · exact (h.rps q hq).only ho (fun k hk hne => (h.ro k (.inr ⟨q, hq, hne, hk⟩)).1)
  · rw [e3]; exact ownsRow_only h.oL ho (fun k hk e => h.neT.2 (by rw [hk, e]))

/-- another tail: behind an append that leaves wa, or one in new memory -/
theorem LObj.setTail (h : LObj w F p g frm N sz s vch vts vtl ps) (ho : Only (fun k => blk vtl = some k) w wa) {vtl' : Value} {tl' : List UInt8} (hown : wa.ownsRow 0 5 1 vtl' tl'.length (tl'.map bv)) (hb : ∀ k, blk vtl' = some k → blk vtl = some k ∨ w.heap.size ≤ k) (hF : ∀ k, blk vtl' = some k → F k) :
    LObj (wa.setCell ⟨p, 10, none⟩ vtl') F p g frm N sz ⟨s.num, s.used, s.sealed, s.ch, s.ts, s.sure, tl', s.dead⟩ vch vts vtl' ps ∧ Only (fun k => k = p ∨ blk vtl = some k) w (wa.setCell ⟨p, 10, none⟩ vtl') := by
  have hpa : AtN wa p 73 (s.cells g frm N sz vch vts vtl) := h.at_.only ho (fun e => h.neT.2 e)
  have hc := only_cell wa p 10 vtl'
  have hlp : ∀ k, blk vtl' = some k → k ≠ p := fun k hk e => own_neT15 hown hpa (by decide) (by rw [hk, e])
  refine ⟨⟨hpa.set 10 vtl', ?_, h.chl, ?_, h.pst, fun q hq => ?_, ownsRow_only hown hc (fun k hk e => hlp k hk e), fun k hk => ?_, h.fp, h.fch, h.fts, hF, h.fps⟩, ?_⟩
  · exact (h.rch.only ho (fun k hk _ => (h.ro k (.inl hk)).2.2)).only hc (fun k hk _ => (h.ro k (.inl hk)).1)
  · exact ownsRow_only (ownsRow_only h.oT ho (fun k hk => h.neTL k hk)) hc (fun k hk e => h.neT.1 (by rw [hk, e]))
  · exact ((h.rps q hq).only ho (fun k hk hne => (h.ro k (.inr ⟨q, hq, hne, hk⟩)).2.2)).only hc (fun k hk hne => (h.ro k (.inr ⟨q, hq, hne, hk⟩)).1)
  · obtain ⟨r1, r2, r3⟩ := h.ro k hk
    refine ⟨r1, r2, fun e => ?_⟩
    rcases hb k e with e1 | e1
    · exact r3 e1
    · have : k < w.heap.size := by
        rcases hk with hk | ⟨q, hq, hne, hk⟩
        · exact h.rch.lt hk h.chne
        · exact (h.rps q hq).lt hk hne
      omega
  · exact (ho.mono (G := fun k => k = p ∨ blk vtl = some k) (fun _ _ h => .inr h)).trans hc (fun _ _ h => .inl h)

/-- another chain -/
theorem LObj.setCh (h : LObj w F p g frm N sz s vch vts vtl ps) {vch' : Value} {ch' : List UInt8} (hr : Rd w vch' ch') (hl : ch'.length = 32) (hb : ∀ k, blk vch' = some k → k ≠ p ∧ blk vts ≠ some k ∧ blk vtl ≠ some k) (hF : ∀ k, blk vch' = some k → F k) :
    LObj (w.setCell ⟨p, 7, none⟩ vch') F p g frm N sz ⟨s.num, s.used, s.sealed, ch', s.ts, s.sure, s.tl, s.dead⟩ vch' vts vtl ps := by
  have hc := only_cell w p 7 vch'
  refine ⟨h.at_.set 7 vch', hr.only hc (fun k hk _ => (hb k hk).1), hl, ownsRow_only h.oT hc (fun k hk e => h.neT.1 (by rw [hk, e])), h.pst, fun q hq => ?_, ownsRow_only h.oL hc (fun k hk e => h.neT.2 (by rw [hk, e])), fun k hk => ?_, h.fp, hF, h.fts, h.ftl, h.fps⟩
  · exact (h.rps q hq).only hc (fun k hk hne => (h.ro k (.inr ⟨q, hq, hne, hk⟩)).1)
  · rcases hk with hk | hk
    · exact hb k hk
    · exact h.ro k (.inr hk)

/-- more texts: behind an append that leaves wa -/
theorem LObj.setTs (h : LObj w F p g frm N sz s vch vts vtl ps) (ho : Only (fun k => blk vts = some k) w wa) {vts' : Value} {qs : List (Value × List UInt8)} (hown : wa.ownsRow 0 42 1 vts' (ps ++ qs).length ((ps ++ qs).map (·.1))) (hb : ∀ k, blk vts' = some k → blk vts = some k ∨ w.heap.size ≤ k) (hF : ∀ k, blk vts' = some k → F k)
    (hq : ∀ q ∈ qs, Rd w q.1 q.2) (hqb : ∀ q ∈ qs, q.2 ≠ [] → ∀ k, blk q.1 = some k → k ≠ p ∧ blk vts ≠ some k ∧ blk vtl ≠ some k ∧ F k) :
    LObj (wa.setCell ⟨p, 8, none⟩ vts') F p g frm N sz ⟨s.num, s.used, s.sealed, s.ch, s.ts ++ qs.map (·.2), s.sure, s.tl, s.dead⟩ vch vts' vtl (ps ++ qs) ∧ Only (fun k => k = p ∨ blk vts = some k) w (wa.setCell ⟨p, 8, none⟩ vts') := by
  have hpa : AtN wa p 73 (s.cells g frm N sz vch vts vtl) := h.at_.only ho (fun e => h.neT.1 e)
  have hc := only_cell wa p 8 vts'
  have hlp : ∀ k, blk vts' = some k → k ≠ p := fun k hk e => own_neT15 hown hpa (by decide) (by rw [hk, e])
  have ha : ∀ q ∈ ps ++ qs, Rd w q.1 q.2 ∧ (q.2 ≠ [] → ∀ k, blk q.1 = some k → k ≠ p ∧ blk vts ≠ some k ∧ blk vtl ≠ some k ∧ F k) := fun q hqq => by
    rcases List.mem_append.1 hqq with hqq | hqq
    · exact ⟨h.rps q hqq, fun hne k hk => ⟨(h.ro k (.inr ⟨q, hqq, hne, hk⟩)).1, (h.ro k (.inr ⟨q, hqq, hne, hk⟩)).2.1, (h.ro k (.inr ⟨q, hqq, hne, hk⟩)).2.2, h.fps q hqq hne k hk⟩⟩
    · exact ⟨hq q hqq, hqb q hqq⟩
  refine ⟨⟨hpa.set 8 vts', ?_, h.chl, ownsRow_only hown hc (fun k hk e => hlp k hk e), by rw [List.map_append, h.pst], fun q hqq => ?_, ?_, fun k hk => ?_, h.fp, h.fch, hF, h.ftl, fun q hqq hne k hk => ((ha q hqq).2 hne k hk).2.2.2⟩, ?_⟩
  · exact (h.rch.only ho (fun k hk _ => (h.ro k (.inl hk)).2.1)).only hc (fun k hk _ => (h.ro k (.inl hk)).1)
  · exact ((ha q hqq).1.only ho (fun k hk hne => ((ha q hqq).2 hne k hk).2.1)).only hc (fun k hk hne => ((ha q hqq).2 hne k hk).1)
  · exact ownsRow_only (ownsRow_only h.oL ho (fun k hk e => h.neTL k e hk)) hc (fun k hk e => h.neT.2 (by rw [hk, e]))
  · have hlt : k < w.heap.size ∧ k ≠ p ∧ blk vts ≠ some k ∧ blk vtl ≠ some k := by
      rcases hk with hk | ⟨q, hqq, hne, hk⟩
      · exact ⟨h.rch.lt hk h.chne, h.ro k (.inl hk)⟩
      · obtain ⟨a1, a2, a3, -⟩ := (ha q hqq).2 hne k hk
        exact ⟨(ha q hqq).1.lt hk hne, a1, a2, a3⟩
    refine ⟨hlt.2.1, fun e => ?_, hlt.2.2.2⟩
    rcases hb k e with e1 | e1
    · exact hlt.2.2.1 e1
    · have := hlt.1; omega
  · exact (ho.mono (G := fun k => k = p ∨ blk vts = some k) (fun _ _ h => .inr h)).trans hc (fun _ _ h => .inl h)
end

/-- what a call leaves of a log -/
def LogTo (w : World) (F : Nat → Prop) (p g frm N sz : Nat) (s : PLg) (w' : World) : Prop := LogM w' (fun k => F k ∨ w.heap.size ≤ k) p g frm N sz s ∧ Only F w w'

/-- the same, where only the tail has become another one -/
def PutTo (w : World) (F : Nat → Prop) (p g frm N sz : Nat) (s : PLg) (vch vts : Value) (ps : List (Value × List UInt8)) (w' : World) : Prop := (∃ vtl, LObj w' (fun k => F k ∨ w.heap.size ≤ k) p g frm N sz s vch vts vtl ps) ∧ Only F w w'

theorem PutTo.log {w w' : World} {F : Nat → Prop} {p g frm N sz : Nat} {s : PLg} {vch vts : Value} {ps : List (Value × List UInt8)} (h : PutTo w F p g frm N sz s vch vts ps w') : LogTo w F p g frm N sz s w' := by
  obtain ⟨⟨_, h1⟩, h2⟩ := h; exact ⟨⟨_, _, _, _, h1⟩, h2⟩

def PLg.put (s : PLg) (b : List UInt8) : PLg := ⟨s.num, s.used + b.length, s.sealed, s.ch, s.ts, s.sure, s.tl ++ b, s.dead⟩

set_option maxHeartbeats 1000000 in
theorem lgPut {w : World} {F : Nat → Prop} {p g frm N sz : Nat} {s : PLg} {vch vts vtl : Value} {ps : List (Value × List UInt8)} (h : LObj w F p g frm N sz s vch vts vtl ps) (x : Value) (b : List UInt8) (hx : Rd w x b) (hbl : s.tl.length + b.length ≤ 1000000000) (hu : s.used + b.length ≤ 1000000000) :
    Calls Tryz.prog 37 #[.pointer (some ⟨p, 0, none⟩), x] w fun e w' => e = .returned (.tuple #[]) ∧ PutTo w F p g frm N sz (s.put b) vch vts ps w' := by
  obtain ⟨i0, hi0, hz0, hz1, hz2⟩ := info_parts infoByte
  obtain ⟨num, u, sl, ch, ts, sure, tl, dead⟩ := s
  dsimp only at hbl hu
  obtain ⟨v', wa, hr, hown, ho, hb⟩ := run_append_any (P := Tryz.prog) w 0 42 42 5 i0 _ 1 Tryz.underlying42 hi0 hz0 hz1 hz2 rfl vtl tl.length (tl.map bv) h.oL x (b.map bv) hx.toV (bv_one b) (by rw [List.length_map]; omega) (by rw [List.length_map]; omega) (Nat.zero_le _)
  have hown' : wa.ownsRow 0 5 1 v' (tl ++ b).length ((tl ++ b).map bv) := by
    rw [List.length_map] at hown
    rw [List.length_append, List.map_append]; exact hown
  obtain ⟨hL, hO⟩ := (h.mono (G := fun k => F k ∨ w.heap.size ≤ k) (fun _ h => .inl h)).setTail ho hown' (fun k hk => by
    rcases hb with e | ⟨j, e, hj⟩
    · exact .inl (by rw [← e]; exact hk)
    · rw [e] at hk; cases hk; exact .inr hj) (fun k hk => by
    rcases hb with e | ⟨j, e, hj⟩
    · exact .inl (h.ftl k (by rw [← e]; exact hk))
    · rw [e] at hk; cases hk; exact .inr hj)
  obtain ⟨av, cv, hv, -⟩ := ownSl_form hown'
  subst hv
  obtain ⟨al, cl, rfl⟩ := h.vtl_form
  obtain ⟨n, hn⟩ : ∃ n, b.length = n := ⟨_, rfl⟩
  have hxf := hx
  obtain ⟨ax, n', cx, rfl, hxn, -⟩ := hxf
  obtain rfl : n' = n := by omega
  have HR := Lib.hid hr
  have c10 := h.at_.cell 10 rfl
  have hpa : AtN wa p 73 _ := h.at_.only ho (fun e => h.neT.2 e)
  have f10 := hpa.frozen 10
  have y10 := hpa.cell 10 rfl
  have HU := Lib.hid (hL.upd 5 (.int .i64 ((u + n' : Nat) : Int)) (s' := ⟨num, u + n', sl, ch, ts, sure, tl ++ b, dead⟩) rfl rfl rfl rfl)
  have HO : Hid (Only F w ((wa.setCell ⟨p, 10, none⟩ (.slice av (tl ++ b).length cv)).setCell ⟨p, 5, none⟩ (.int .i64 ((u + n' : Nat) : Int)))) := Lib.hid ((hO.trans (only_cell _ _ _ _) (fun _ _ h => .inl h)).mono (fun k _ hk => by
    rcases hk with e | e
    · rw [e]; exact h.fp
    · exact h.ftl k e))
  have hO5 := hL.at_.cell 5 rfl
  have f5 := hL.at_.frozen 5
  have hE : Hid (PLg.put ⟨num, u, sl, ch, ts, sure, tl, dead⟩ b = ⟨num, u + n', sl, ch, ts, sure, tl ++ b, dead⟩) := Lib.hid (by unfold PLg.put; dsimp only; rw [hn])
  rw [hE.out]
  have hw1 : (u : Int) + (n' : Int) = ((u + n' : Nat) : Int) := by omega
  obtain ⟨un, hun⟩ : ∃ un, u + n' = un := ⟨_, rfl⟩
  rw [hun] at hw1 HU HO
  rw [hun]
  obtain ⟨m, Hm⟩ : ∃ m, Hid ((tl ++ b).length = m) := ⟨_, Lib.hid rfl⟩
  rw [Hm.out] at HR HU HO hO5 f5
  have hub : un ≤ 1000000000 := by omega
  clear h hx hr hown ho hb hown' hL hO hi0 hz0 hz1 hz2 hpa hn hE hun hxn hbl hu
  go_enter Tryz.func37, Tryz.ntmps37
  go_wp2_with (at_builtin; refine wpList_app1 rfl _ _ 42 rfl _ _ rfl rfl HR.out ?_)
  go_end0
  exact ⟨rfl, ⟨_, HU.out⟩, HO.out⟩

def PLg.settle (s : PLg) (b : List UInt8) : PLg := ⟨s.num, s.used, s.sealed, s.ch, s.ts, s.ts.length, b.drop (b.length - s.used % 128), s.dead⟩

set_option maxHeartbeats 1000000 in
theorem lgSettle {w : World} {F : Nat → Prop} {p g frm N sz : Nat} {s : PLg} {vch vts vtl : Value} {ps : List (Value × List UInt8)} (h : LObj w F p g frm N sz s vch vts vtl ps) (a : Option Addr) (n c : Nat) (b : List UInt8) (hx : Rd w (.slice a n c) b) (hxp : ∀ k, blk (.slice a n c) = some k → k ≠ p) (hnb : n ≤ 1000000000) (hu : s.used ≤ 1000000000) (hr : s.used % 128 ≤ n) :
    Calls Tryz.prog 32 #[.pointer (some ⟨p, 0, none⟩), .slice a n c] w fun e w' => e = .returned (.tuple #[]) ∧ LogTo w F p g frm N sz (s.settle b) w' := by
  obtain ⟨num, u, sl, ch, ts, sure, tl, dead⟩ := s
  dsimp only at hu hr
  have hbl := hx.len
  have hle : n ≤ c := by obtain ⟨_, _, _, e, -, h2, -⟩ := hx; cases e; exact h2
  obtain ⟨at_, ct, rfl⟩ := h.vts_form
  have HL1 := Lib.hid (h.upd 9 (.int .i64 (ps.length : Int)) (s' := ⟨num, u, sl, ch, ts, ps.length, tl, dead⟩) rfl rfl rfl rfl)
  have HE : Hid (PLg.settle ⟨num, u, sl, ch, ts, sure, tl, dead⟩ b = ⟨num, u, sl, ch, ts, ps.length, b.drop (n - u % 128), dead⟩) := Lib.hid (by unfold PLg.settle; dsimp only; rw [h.len, hbl])
  rw [HE.out]
  have c8 := h.at_.cell 8 rfl
  have f9 := h.at_.frozen 9
  have c9 := h.at_.cell 9 rfl
  have HF : Hid (F p ∧ ∀ k, blk vtl = some k → F k) := Lib.hid ⟨h.fp, h.ftl⟩
  have HX1 : Hid (Rd (w.setCell ⟨p, 9, none⟩ (.int .i64 (ps.length : Int))) (.slice a n c) b) := Lib.hid (hx.only (only_cell _ _ _ _) (fun k hk _ => hxp k hk))
  have HO1 : Hid (Only (fun k => k = p) w (w.setCell ⟨p, 9, none⟩ (.int .i64 (ps.length : Int)))) := Lib.hid (only_cell _ _ _ _)
  obtain ⟨r, hrr⟩ : ∃ r, u % 128 = r := ⟨_, rfl⟩
  have e1 : (u : Int).tmod 128 = (r : Int) := by rw [Int.tmod_eq_emod_of_nonneg (by omega)]; omega
  have e1' : (u : Int) % 128 = (r : Int) := by omega
  obtain ⟨k, hk⟩ : ∃ k, n - r = k := ⟨_, rfl⟩
  have e2 : (n : Int) - (r : Int) = (k : Int) := by omega
  have hkn : k ≤ n := by omega
  rw [hrr, hk]
  obtain ⟨aT, hsl, HRT⟩ : ∃ aT, (∀ wx : World, (Instr.slice 42 (.slice a n c) (some (.int .i64 (k : Int))) none none).run Tryz.prog wx = .ok (.slice aT (n - k) (c - k)) wx) ∧ Hid (∀ wx, Rd wx (.slice a n c) b → Rd wx (.slice aT (n - k) (c - k)) (b.drop k)) := by
    refine ⟨_, fun wx => ?_, Lib.hid fun wx h => rd_tail h hkn⟩
    rw [run_slice_l wx 42 a n c Tryz.underlying42 .i64 _ (by omega) (by omega)]
    have hz : (sizeOf (Tryz.prog.elem 42)).run Tryz.prog wx = .ok 1 wx := by kernel_rfl
    rw [hz]
    simp only [Result.andThen_ok, sliced, Nat.mul_one, Int.toNat_natCast]
  have HBL : Hid (b.length ≤ 1000000000) := Lib.hid (by omega)
  clear h hx hxp hbl hle hr hrr hk HE
  go_enter Tryz.func32, Tryz.ntmps32
  go_upto_region 1 with fail
  generalize World.setCell w _ _ = w1 at *
  clear c8 f9 c9
  have c5 := HL1.out.at_.cell 5 rfl
  have HCl := Lib.hid (cloneOwn w1 _ _ (HRT.out _ HX1.out) (by rw [List.length_drop]; have := HBL.out; omega))
  go_wp2_with fail
  refine HCl.out.mono ?_
  rintro _ w2 ⟨v, rfl, hown, N2⟩
  have hlo := own_from hown
  have hsz := HO1.out.size
  obtain ⟨hL, hO⟩ := (HL1.out.mono (G := fun k => F k ∨ w.heap.size ≤ k) (fun _ h => .inl h)).setTail (New.only N2) (own_base hown (Nat.zero_le _)) (fun k hk => .inr (hlo k hk)) (fun k hk => .inr (Nat.le_trans hsz (hlo k hk)))
  obtain ⟨av, cv, hv, -⟩ := ownSl_form hown
  subst hv
  have HL2 := Lib.hid hL
  have HO2 : Hid (Only F w (w2.setCell ⟨p, 10, none⟩ (.slice av (b.drop k).length cv))) := Lib.hid ((HO1.out.mono (fun k _ hk => by rw [hk]; exact HF.out.1)).trans hO (fun k _ hk => by
    rcases hk with e | e
    · rw [e]; exact HF.out.1
    · exact HF.out.2 k e))
  have hp2 := (HL1.out.new N2).at_
  have y10 := hp2.cell 10 rfl
  have f10 := hp2.frozen 10
  obtain ⟨m, Hm⟩ : ∃ m, Hid ((b.drop k).length = m) := ⟨_, Lib.hid rfl⟩
  rw [Hm.out] at HL2 HO2
  rw [Hm.out]
  clear hL hO hown hlo hsz N2 hp2 c5 HCl
  go_wp2
  go_end0
  exact ⟨rfl, ⟨_, _, _, _, HL2.out⟩, HO2.out⟩

/-- the next segment is begun -/
def PLg.seal (s : PLg) (z : Nat) : PLg := if s.sealed = true then ⟨s.num, s.used, s.sealed, s.ch, s.ts, s.sure, [], s.dead⟩ else (s.put (sFoot s.ts.length s.ch)).put (List.replicate (z - (s.used + 48)) 0)
def PLg.next (s : PLg) : PLg := (⟨s.num + 1, 0, false, s.ch, s.ts, s.sure, s.tl, s.dead⟩ : PLg).put (sHead (s.num + 1).toNat s.ts.length s.ch)

def Lc478 (p : Nat) (a b c : Value) (w : World) : Prop := w.cell? ⟨p, 4, none⟩ = some a ∧ w.cell? ⟨p, 7, none⟩ = some b ∧ w.cell? ⟨p, 8, none⟩ = some c

theorem LogM.back {w w1 w2 : World} {F : Nat → Prop} {p g frm N sz : Nat} {s : PLg} (h : LogM w2 (fun k => (F k ∨ w.heap.size ≤ k) ∨ w1.heap.size ≤ k) p g frm N sz s) (hs : w.heap.size ≤ w1.heap.size) : LogM w2 (fun k => F k ∨ w.heap.size ≤ k) p g frm N sz s :=
  h.narrow (fun k _ hk => hk.elim id (fun h => .inr (Nat.le_trans hs h)))

theorem Only.back {F : Nat → Prop} {w w1 w2 : World} (h : Only F w w1) (h2 : Only (fun k => F k ∨ w.heap.size ≤ k) w1 w2) : Only F w w2 :=
  h.trans h2 (fun k hk h => h.elim id (fun h => by omega))

set_option maxHeartbeats 4000000 in
theorem lgBegin {w : World} {F : Nat → Prop} {p g frm N sz : Nat} {s : PLg} {vch vts vtl : Value} {ps : List (Value × List UInt8)} (h : LObj w F p g frm N sz s vch vts vtl ps) (hb : sz ≤ 1000) (hn : -1 ≤ s.num ∧ s.num ≤ 1000) (hu : s.sealed = false → s.used + 48 ≤ 128 * sz) (ht : s.tl.length ≤ 100000000) :
    Calls Tryz.prog 35 #[.pointer (some ⟨p, 0, none⟩)] w fun e w' => e = .returned (.tuple #[]) ∧ LogTo w F p g frm N sz (s.seal (128 * sz)).next w' := by
  obtain ⟨num, u, sl, ch, ts, sure, tl, dead⟩ := s
  dsimp only at hn hu ht
  have HFp := Lib.hid h.fp
  have c6 := h.at_.cell 6 rfl
  cases sl
  rotate_left
  · have HE : Hid (PLg.seal ⟨num, u, true, ch, ts, sure, tl, dead⟩ (128 * sz) = ⟨num, u, true, ch, ts, sure, [], dead⟩) := Lib.hid rfl
    rw [HE.out]
    obtain ⟨hL, hO⟩ := (h.mono (G := fun k => F k ∨ w.heap.size ≤ k) (fun _ h => .inl h)).setTail (wa := w) (tl' := []) (vtl' := .slice none 0 0) (Only.refl _ _) (World.ownsRow_nil _ _ _ _) (fun k hk => by simp [blk] at hk) (fun k hk => by simp [blk] at hk)
    have HL1 := Lib.hid hL
    have HO1 : Hid (Only F w (w.setCell ⟨p, 10, none⟩ (.slice none 0 0))) := Lib.hid (hO.mono (fun k _ hk => by
      rcases hk with e | e
      · rw [e]; exact h.fp
      · exact h.ftl k e))
    have y10 := h.at_.cell 10 rfl
    have f10 := h.at_.frozen 10
    obtain ⟨s1, hs1⟩ : ∃ s1 : PLg, (⟨num, u, true, ch, ts, sure, [], dead⟩ : PLg) = s1 := ⟨_, rfl⟩
    have HSM : Hid (s1.num = num ∧ s1.ch = ch ∧ s1.ts = ts ∧ s1.tl.length ≤ 900000000) := Lib.hid (by rw [← hs1]; exact ⟨rfl, rfl, rfl, by simp⟩)
    rw [hs1] at HL1
    rw [hs1]
    clear h hL hO HE hs1 hu ht
    go_enter Tryz.func35, Tryz.ntmps35
    go_upto_region 4 with fail
    generalize hw1 : World.setCell w ⟨p, 10, none⟩ _ = w1 at *
    clear y10 f10 c6 hw1
    obtain ⟨num1, u1, sl1, ch1, ts1, sure1, tl1, dead1⟩ := s1
    have hpl : num1 = num ∧ ch1 = ch ∧ ts1 = ts ∧ tl1.length ≤ 900000000 := HSM.out
    obtain ⟨rfl, rfl, rfl, htl⟩ := hpl
    have HU4 := HL1.out.upd 4 (.int .i64 (num1 + 1)) (s' := ⟨num1 + 1, u1, sl1, ch1, ts1, sure1, tl1, dead1⟩) rfl rfl rfl rfl
    have HU5 := HU4.upd 5 (.int .i64 ((0 : Nat) : Int)) (s' := ⟨num1 + 1, 0, sl1, ch1, ts1, sure1, tl1, dead1⟩) rfl rfl rfl rfl
    have HU6 := Lib.hid (HU5.upd 6 (.bool false) (s' := ⟨num1 + 1, 0, false, ch1, ts1, sure1, tl1, dead1⟩) rfl rfl rfl rfl)
    have HO6 : Hid (Only F w (((w1.setCell ⟨p, 4, none⟩ (.int .i64 (num1 + 1))).setCell ⟨p, 5, none⟩ (.int .i64 ((0 : Nat) : Int))).setCell ⟨p, 6, none⟩ (.bool false))) := Lib.hid (HO1.out.trans (((only_cell w1 p 4 _).trans (only_cell _ p 5 _) (fun _ _ h => h)).trans (only_cell _ p 6 _) (fun _ _ h => h)) (fun k _ hk => by rw [hk]; exact HFp.out))
    have y4 := HL1.out.at_.cell 4 rfl
    have f4 := HL1.out.at_.frozen 4
    have y5 := HU4.at_.cell 5 rfl
    have f5 := HU4.at_.frozen 5
    have y6 := HU5.at_.cell 6 rfl
    have f6 := HU5.at_.frozen 6
    rw [Int.natCast_zero] at HU6 HO6 HU5 y6 f6
    go_upto_region 5 with fail
    clear HU4 HU5 y4 f4 y5 f5 y6 f6
    generalize World.setCell _ _ _ = w2 at *
    have NW : New w2 w2.drew := (Below.refl _ _).drew
    have HLd := Lib.hid (HU6.out.drew)
    have HOd : Hid (Only F w w2.drew) := Lib.hid HO6.out.drew
    obtain ⟨at_, ct, rfl⟩ := HLd.out.vts_form
    obtain ⟨ac, cc, rfl⟩ := HLd.out.vch_form
    have HC : Hid (Lc478 p (.int .i64 (num1 + 1)) (.slice ac 32 cc) (.slice at_ ps.length ct) w2.drew) := Lib.hid ⟨HLd.out.at_.cell 4 rfl, HLd.out.at_.cell 7 rfl, HLd.out.at_.cell 8 rfl⟩
    have hfw := HLd.out.few
    have HHd := Lib.hid (segHead w2.drew (num1 + 1) (ps.length : Int) _ ch1 HLd.out.rch (by omega) (by omega) (by omega) (by omega))
    have HHE : Hid (sHeadOf (num1 + 1) (ps.length : Int) ch1 = sHead (num1 + 1).toNat ts1.length ch1) := Lib.hid (by unfold sHeadOf; rw [if_pos ⟨by omega, HLd.out.chl, by omega, by omega⟩, Int.toNat_natCast, HLd.out.len])
    rw [HHE.out] at HHd
    refine region_ord (Lc478 p (.int .i64 (num1 + 1)) (.slice ac 32 cc) (.slice at_ ps.length ct)) [(0, true), (1, true), (2, true), (3, true), (4, true), (5, true), (6, true), (7, true), (8, true), (9, true), (10, true), (11, true), (12, true), (13, true), (14, true), (15, true), (16, false), (17, false)] (by kernel_rfl) (by kernel_rfl) HC.out (fun _ => ?_)
    clear NW HU6 HO6
    generalize w2.drew = w3 at *
    unfold Lc478
    iterate 16 (apply ord_take; (simp only [List.getElem?_toArray, List.getElem?_cons_succ, List.getElem?_cons_zero]; rfl); rfl; (intro w hSw; (try dsimp only at hSw); go_simp; try with_reducible rfl); intro _; try simp only [Act.put, List.setIfInBounds_toArray, List.set_cons_zero, List.set_cons_succ])
    (apply ord_only; (simp only [List.getElem?_toArray, List.getElem?_cons_succ, List.getElem?_cons_zero]; rfl); rfl; intro K hK)
    go_simp
    refine HHd.out.mono ?_
    rintro _ w4 ⟨v, rfl, hown, N4⟩
    have HL4 := Lib.hid (HLd.out.new N4)
    have HO4 : Hid (Only F w w4) := Lib.hid (HOd.out.trans (New.only (F := F) N4) (fun _ _ h => h))
    have HC4 : Hid (Lc478 p (.int .i64 (num1 + 1)) (.slice ac 32 cc) (.slice at_ ps.length ct) w4) := Lib.hid ⟨HL4.out.at_.cell 4 rfl, HL4.out.at_.cell 7 rfl, HL4.out.at_.cell 8 rfl⟩
    have HPu := Lib.hid (lgPut HL4.out v _ (Rd.of_own hown) (by rw [sHead_length _ _ _ HL4.out.chl]; dsimp only; omega) (by rw [sHead_length _ _ _ HL4.out.chl]; dsimp only; omega))
    obtain ⟨av, nv, cv, rfl⟩ := own_slice hown
    clear hown N4 HLd HOd HC HHd
    refine hK.out _ _ (HC4.out) (fun _ => ?_)
    clear hK K
    try simp only [Act.put, List.setIfInBounds_toArray, List.set_cons_zero, List.set_cons_succ]
    (apply ord_only; (simp only [List.getElem?_toArray, List.getElem?_cons_succ, List.getElem?_cons_zero]; rfl); rfl; intro K hK)
    go_simp
    refine HPu.out.mono ?_
    rintro _ w5 ⟨rfl, ⟨vtl5, h5⟩, o5⟩
    have HL5 := Lib.hid h5
    have HO5 : Hid (Only F w w5) := Lib.hid (HO4.out.back o5)
    have HSZ : Hid (w.heap.size ≤ w4.heap.size) := Lib.hid HO4.out.size
    have HC5 : Hid (Lc478 p (.int .i64 (num1 + 1)) (.slice ac 32 cc) (.slice at_ ps.length ct) w5) := Lib.hid ⟨h5.at_.cell 4 rfl, h5.at_.cell 7 rfl, h5.at_.cell 8 rfl⟩
    clear h5 o5
    refine hK.out _ _ (HC5.out) (fun _ => ?_)
    clear hK K
    try simp only [Act.put, List.setIfInBounds_toArray, List.set_cons_zero, List.set_cons_succ]
    apply ord_done
    go_wp2
    go_end0
    exact ⟨rfl, LogM.back ⟨_, _, _, _, HL5.out⟩ HSZ.out, HO5.out⟩
  · have HFl : Hid ((sFoot ts.length ch).length = 48) := Lib.hid (sFoot_length _ _ h.chl)
    have HFt := Lib.hid (lgFoot h)
    have HL0 := Lib.hid h
    have huz : u + 48 ≤ 128 * sz := hu rfl
    obtain ⟨z, hz⟩ : ∃ z, 128 * sz = z := ⟨_, rfl⟩
    have HZ := Lib.hid hz
    rw [hz] at huz
    have hzb : z ≤ 128000 := by omega
    rw [hz]
    obtain ⟨m, hm⟩ : ∃ m, z - (u + 48) = m := ⟨_, rfl⟩
    obtain ⟨u48, hu48⟩ : ∃ m, u + 48 = m := ⟨_, rfl⟩
    have hbu : ((⟨num, u, false, ch, ts, sure, tl, dead⟩ : PLg).put (sFoot ts.length ch)) = ⟨num, u48, false, ch, ts, sure, tl ++ sFoot ts.length ch, dead⟩ := by unfold PLg.put; dsimp only; rw [HFl.out, hu48]
    have HE : Hid (PLg.seal ⟨num, u, false, ch, ts, sure, tl, dead⟩ z = ⟨num, u48 + m, false, ch, ts, sure, tl ++ sFoot ts.length ch ++ List.replicate m 0, dead⟩) := Lib.hid (by
      show PLg.put ((⟨num, u, false, ch, ts, sure, tl, dead⟩ : PLg).put (sFoot ts.length ch)) (List.replicate (z - (u + 48)) 0) = _
      rw [hbu, hm]; unfold PLg.put; dsimp only; rw [List.length_replicate])
    rw [HE.out]
    have HTL : Hid ((tl ++ sFoot ts.length ch ++ List.replicate m 0).length ≤ 900000000) := Lib.hid (by rw [List.length_append, List.length_append, List.length_replicate, HFl.out]; omega)
    have HBU := Lib.hid hbu
    have HUM : Hid (z - (u + 48) = m ∧ u + 48 = u48 ∧ u + 48 ≤ z) := Lib.hid ⟨hm, hu48, huz⟩
    obtain ⟨s1, hs1⟩ : ∃ s1 : PLg, (⟨num, u48 + m, false, ch, ts, sure, tl ++ sFoot ts.length ch ++ List.replicate m 0, dead⟩ : PLg) = s1 := ⟨_, rfl⟩
    have HSM : Hid (s1.num = num ∧ s1.ch = ch ∧ s1.ts = ts ∧ s1.tl.length ≤ 900000000) := Lib.hid (by rw [← hs1]; exact ⟨rfl, rfl, rfl, HTL.out⟩)
    have HS1 := Lib.hid hs1
    rw [hs1]
    clear h hz HE hu hbu hm hu48 huz hs1
    go_enter Tryz.func35, Tryz.ntmps35
    go_wp2_with fail
    refine HFt.out.mono ?_
    rintro _ wa ⟨v, rfl, hown, Na⟩
    have HPu := Lib.hid (lgPut (HL0.out.new Na) v _ (Rd.of_own hown) (by rw [HFl.out]; dsimp only; omega) (by rw [HFl.out]; dsimp only; have := HUM.out; omega))
    obtain ⟨av, nv, cv, rfl⟩ := own_slice hown
    have HNa := Lib.hid Na
    clear hown Na HFt HL0
    go_wp2_with fail
    refine HPu.out.mono ?_
    rintro _ wb ⟨rfl, ⟨vtlb, hb'⟩, ob⟩
    have HLb := Lib.hid (hb'.narrow (G := fun k => F k ∨ w.heap.size ≤ k) (fun k _ hk => hk.elim .inl (fun h => .inr (Nat.le_trans HNa.out.size h))))
    have HOb : Hid (Only F w wb) := Lib.hid ((New.only (F := F) HNa.out).trans ob (fun _ _ h => h))
    clear hb' ob HPu HNa
    rw [HBU.out] at HLb
    have HLd := Lib.hid HLb.out.drew
    have HOd : Hid (Only F w wb.drew) := Lib.hid HOb.out.drew
    have HC : Hid (Lc35 p (.int .i64 (sz : Int)) (.int .i64 (u48 : Int)) wb.drew) := Lib.hid ⟨HLd.out.at_.cell 3 rfl, HLd.out.at_.cell 5 rfl⟩
    have HOc := Lib.hid (lgOctets (w := wb.drew) HC.out.1 (by omega))
    rw [HZ.out] at HOc
    have hum := HUM.out
    have hw1 : IntKind.i64.wrap ((z : Int) - (u48 : Int)) = (m : Int) := by rw [IntWalk.i64_in _ (by omega)]; omega
    have hmb : m ≤ 128000 := by omega
    have hub : u48 + m ≤ 128000 := by omega
    have hmk : ∀ wx : World, (Instr.makeSlice 42 (.int .i64 (m : Int)) (.int .i64 (m : Int))).run Tryz.prog wx = .ok (.slice (some ⟨wx.heap.size, 0, none⟩) m m) (wx.alloc (.cells ((List.replicate m (0 : UInt8)).map bv).toArray 5)) := fun wx => run_make10 m (by omega) wx
    clear hum HLb HOb HBU HUM
    go_upto_region 3 with fail
    refine region_ordT (fun _ => True) (.take 0 (.take 1 (.take 2 (.take 3 (.take 5 (.take 6 (.take 7 (.take 8 (.two 4 9 (.only 9 (.take 10 (.only 11 (.only 12 .nil)))) (.only 4 (.take 10 (.only 11 (.only 12 .nil))))))))))))) (by kernel_rfl) (by kernel_rfl) trivial (fun _ => ?_)
    generalize wb.drew = wc at *
    iterate 8 (apply ordT_take; (simp only [List.getElem?_toArray, List.getElem?_cons_succ, List.getElem?_cons_zero]; rfl); rfl; (intro w hSw; (try dsimp only at hSw); go_simp; try with_reducible rfl); intro _; try simp only [Act.put, List.setIfInBounds_toArray, List.set_cons_zero, List.set_cons_succ])
    (apply ordT_two; (simp only [List.getElem?_toArray, List.getElem?_cons_succ, List.getElem?_cons_zero]; rfl); rfl; (simp only [List.getElem?_toArray, List.getElem?_cons_succ, List.getElem?_cons_zero]; rfl); rfl)
    · intro K hK
      go_simp
      refine HOc.out.mono ?_
      rintro _ wd ⟨rfl, rfl⟩
      refine hK.out _ _ (trivial) (fun _ => ?_)
      clear hK K
      try simp only [Act.put, List.setIfInBounds_toArray, List.set_cons_zero, List.set_cons_succ]
      (apply ordT_only; (simp only [List.getElem?_toArray, List.getElem?_cons_succ, List.getElem?_cons_zero]; rfl); rfl; intro K hK)
      have c5 := HLd.out.at_.cell 5 rfl
      go_simp
      clear c5
      refine hK.out _ _ (trivial) (fun _ => ?_)
      clear hK K
      try simp only [Act.put, List.setIfInBounds_toArray, List.set_cons_zero, List.set_cons_succ]
      (apply ordT_take; (simp only [List.getElem?_toArray, List.getElem?_cons_succ, List.getElem?_cons_zero]; rfl); rfl; (intro w hSw; (try dsimp only at hSw); go_simp; try with_reducible rfl); intro _; try simp only [Act.put, List.setIfInBounds_toArray, List.set_cons_zero, List.set_cons_succ])
      (apply ordT_only; (simp only [List.getElem?_toArray, List.getElem?_cons_succ, List.getElem?_cons_zero]; rfl); rfl; intro K hK)
      go_simp
      generalize hwd : World.alloc wc _ = wd
      have HB : Hid (wd.heap[wc.heap.size]? = some (.cells ((List.replicate m (0 : UInt8)).map bv).toArray 5)) := Lib.hid (by rw [← hwd, heap_alloc_new]; simp)
      have Nd : New wc wd := by rw [← hwd]; exact (Below.refl _ _).alloc (Nat.le_refl _) _
      have HLe := Lib.hid (HLd.out.new Nd)
      have HOe : Hid (Only F w wd) := Lib.hid (HOd.out.trans (New.only (F := F) Nd) (fun _ _ h => h))
      clear hwd Nd HLd HOd HC HOc
      obtain ⟨gz, hgz⟩ : ∃ x, wc.heap.size = x := ⟨_, rfl⟩
      rw [hgz] at HB
      rw [hgz]
      clear hgz
      have HPz := Lib.hid (lgPut HLe.out (.slice (some ⟨gz, 0, none⟩) m m) (List.replicate m 0) (by
        have := rd_row10 HB.out (by rw [List.length_replicate]; omega)
        rwa [List.length_replicate] at this) (by rw [List.length_replicate, List.length_append, HFl.out]; omega) (by rw [List.length_replicate]; dsimp only; omega))
      refine hK.out _ _ (trivial) (fun _ => ?_)
      clear hK K
      try simp only [Act.put, List.setIfInBounds_toArray, List.set_cons_zero, List.set_cons_succ]
      (apply ordT_only; (simp only [List.getElem?_toArray, List.getElem?_cons_succ, List.getElem?_cons_zero]; rfl); rfl; intro K hK)
      go_simp
      refine HPz.out.mono ?_
      rintro _ w1 ⟨rfl, ⟨vtl1, h1⟩, o1⟩
      have HSZ0 : Hid (w.heap.size ≤ wd.heap.size) := Lib.hid HOe.out.size
      have h1' := h1.narrow (G := fun k => F k ∨ w.heap.size ≤ k) (fun k _ hk => hk.elim id (fun h => .inr (Nat.le_trans HSZ0.out h)))
      have hs1 : ((⟨num, u48, false, ch, ts, sure, tl ++ sFoot ts.length ch, dead⟩ : PLg).put (List.replicate m 0)) = ⟨num, u48 + m, false, ch, ts, sure, tl ++ sFoot ts.length ch ++ List.replicate m 0, dead⟩ := by unfold PLg.put; dsimp only; rw [List.length_replicate]
      rw [hs1] at h1'
      have HL1 := Lib.hid h1'
      have HO1 : Hid (Only F w w1) := Lib.hid (HOe.out.back o1)
      refine hK.out _ _ (trivial) (fun _ => ?_)
      clear hK K
      try simp only [Act.put, List.setIfInBounds_toArray, List.set_cons_zero, List.set_cons_succ]
      apply ordT_done
      rw [HS1.out] at HL1
      clear h1 h1' hs1 o1 HPz HLe HOe HS1 HTL hmk hw1 c6 HFl HZ hzb
      go_upto_region 4 with fail
      obtain ⟨num1, u1, sl1, ch1, ts1, sure1, tl1, dead1⟩ := s1
      have hpl : num1 = num ∧ ch1 = ch ∧ ts1 = ts ∧ tl1.length ≤ 900000000 := HSM.out
      obtain ⟨rfl, rfl, rfl, htl⟩ := hpl
      have HU4 := HL1.out.upd 4 (.int .i64 (num1 + 1)) (s' := ⟨num1 + 1, u1, sl1, ch1, ts1, sure1, tl1, dead1⟩) rfl rfl rfl rfl
      have HU5 := HU4.upd 5 (.int .i64 ((0 : Nat) : Int)) (s' := ⟨num1 + 1, 0, sl1, ch1, ts1, sure1, tl1, dead1⟩) rfl rfl rfl rfl
      have HU6 := Lib.hid (HU5.upd 6 (.bool false) (s' := ⟨num1 + 1, 0, false, ch1, ts1, sure1, tl1, dead1⟩) rfl rfl rfl rfl)
      have HO6 : Hid (Only F w (((w1.setCell ⟨p, 4, none⟩ (.int .i64 (num1 + 1))).setCell ⟨p, 5, none⟩ (.int .i64 ((0 : Nat) : Int))).setCell ⟨p, 6, none⟩ (.bool false))) := Lib.hid (HO1.out.trans (((only_cell w1 p 4 _).trans (only_cell _ p 5 _) (fun _ _ h => h)).trans (only_cell _ p 6 _) (fun _ _ h => h)) (fun k _ hk => by rw [hk]; exact HFp.out))
      have y4 := HL1.out.at_.cell 4 rfl
      have f4 := HL1.out.at_.frozen 4
      have y5 := HU4.at_.cell 5 rfl
      have f5 := HU4.at_.frozen 5
      have y6 := HU5.at_.cell 6 rfl
      have f6 := HU5.at_.frozen 6
      rw [Int.natCast_zero] at HU6 HO6 HU5 y6 f6
      go_upto_region 5 with fail
      clear HU4 HU5 y4 f4 y5 f5 y6 f6
      generalize World.setCell _ _ _ = w2 at *
      have NW : New w2 w2.drew := (Below.refl _ _).drew
      have HLd := Lib.hid (HU6.out.drew)
      have HOd : Hid (Only F w w2.drew) := Lib.hid HO6.out.drew
      obtain ⟨at_, ct, rfl⟩ := HLd.out.vts_form
      obtain ⟨ac, cc, rfl⟩ := HLd.out.vch_form
      have HC : Hid (Lc478 p (.int .i64 (num1 + 1)) (.slice ac 32 cc) (.slice at_ ps.length ct) w2.drew) := Lib.hid ⟨HLd.out.at_.cell 4 rfl, HLd.out.at_.cell 7 rfl, HLd.out.at_.cell 8 rfl⟩
      have hfw := HLd.out.few
      have HHd := Lib.hid (segHead w2.drew (num1 + 1) (ps.length : Int) _ ch1 HLd.out.rch (by omega) (by omega) (by omega) (by omega))
      have HHE : Hid (sHeadOf (num1 + 1) (ps.length : Int) ch1 = sHead (num1 + 1).toNat ts1.length ch1) := Lib.hid (by unfold sHeadOf; rw [if_pos ⟨by omega, HLd.out.chl, by omega, by omega⟩, Int.toNat_natCast, HLd.out.len])
      rw [HHE.out] at HHd
      refine region_ord (Lc478 p (.int .i64 (num1 + 1)) (.slice ac 32 cc) (.slice at_ ps.length ct)) [(0, true), (1, true), (2, true), (3, true), (4, true), (5, true), (6, true), (7, true), (8, true), (9, true), (10, true), (11, true), (12, true), (13, true), (14, true), (15, true), (16, false), (17, false)] (by kernel_rfl) (by kernel_rfl) HC.out (fun _ => ?_)
      clear NW HU6 HO6
      generalize w2.drew = w3 at *
      unfold Lc478
      iterate 16 (apply ord_take; (simp only [List.getElem?_toArray, List.getElem?_cons_succ, List.getElem?_cons_zero]; rfl); rfl; (intro w hSw; (try dsimp only at hSw); go_simp; try with_reducible rfl); intro _; try simp only [Act.put, List.setIfInBounds_toArray, List.set_cons_zero, List.set_cons_succ])
      (apply ord_only; (simp only [List.getElem?_toArray, List.getElem?_cons_succ, List.getElem?_cons_zero]; rfl); rfl; intro K hK)
      go_simp
      refine HHd.out.mono ?_
      rintro _ w4 ⟨v, rfl, hown, N4⟩
      have HL4 := Lib.hid (HLd.out.new N4)
      have HO4 : Hid (Only F w w4) := Lib.hid (HOd.out.trans (New.only (F := F) N4) (fun _ _ h => h))
      have HC4 : Hid (Lc478 p (.int .i64 (num1 + 1)) (.slice ac 32 cc) (.slice at_ ps.length ct) w4) := Lib.hid ⟨HL4.out.at_.cell 4 rfl, HL4.out.at_.cell 7 rfl, HL4.out.at_.cell 8 rfl⟩
      have HPu := Lib.hid (lgPut HL4.out v _ (Rd.of_own hown) (by rw [sHead_length _ _ _ HL4.out.chl]; dsimp only; omega) (by rw [sHead_length _ _ _ HL4.out.chl]; dsimp only; omega))
      obtain ⟨av, nv, cv, rfl⟩ := own_slice hown
      clear hown N4 HLd HOd HC HHd
      refine hK.out _ _ (HC4.out) (fun _ => ?_)
      clear hK K
      try simp only [Act.put, List.setIfInBounds_toArray, List.set_cons_zero, List.set_cons_succ]
      (apply ord_only; (simp only [List.getElem?_toArray, List.getElem?_cons_succ, List.getElem?_cons_zero]; rfl); rfl; intro K hK)
      go_simp
      refine HPu.out.mono ?_
      rintro _ w5 ⟨rfl, ⟨vtl5, h5⟩, o5⟩
      have HL5 := Lib.hid h5
      have HO5 : Hid (Only F w w5) := Lib.hid (HO4.out.back o5)
      have HSZ : Hid (w.heap.size ≤ w4.heap.size) := Lib.hid HO4.out.size
      have HC5 : Hid (Lc478 p (.int .i64 (num1 + 1)) (.slice ac 32 cc) (.slice at_ ps.length ct) w5) := Lib.hid ⟨h5.at_.cell 4 rfl, h5.at_.cell 7 rfl, h5.at_.cell 8 rfl⟩
      clear h5 o5
      refine hK.out _ _ (HC5.out) (fun _ => ?_)
      clear hK K
      try simp only [Act.put, List.setIfInBounds_toArray, List.set_cons_zero, List.set_cons_succ]
      apply ord_done
      go_wp2
      go_end0
      exact ⟨rfl, LogM.back ⟨_, _, _, _, HL5.out⟩ HSZ.out, HO5.out⟩
    · intro K hK
      have c5 := HLd.out.at_.cell 5 rfl
      go_simp
      clear c5
      refine hK.out _ _ (trivial) (fun _ => ?_)
      clear hK K
      try simp only [Act.put, List.setIfInBounds_toArray, List.set_cons_zero, List.set_cons_succ]
      (apply ordT_only; (simp only [List.getElem?_toArray, List.getElem?_cons_succ, List.getElem?_cons_zero]; rfl); rfl; intro K hK)
      go_simp
      refine HOc.out.mono ?_
      rintro _ wd ⟨rfl, rfl⟩
      refine hK.out _ _ (trivial) (fun _ => ?_)
      clear hK K
      try simp only [Act.put, List.setIfInBounds_toArray, List.set_cons_zero, List.set_cons_succ]
      (apply ordT_take; (simp only [List.getElem?_toArray, List.getElem?_cons_succ, List.getElem?_cons_zero]; rfl); rfl; (intro w hSw; (try dsimp only at hSw); go_simp; try with_reducible rfl); intro _; try simp only [Act.put, List.setIfInBounds_toArray, List.set_cons_zero, List.set_cons_succ])
      (apply ordT_only; (simp only [List.getElem?_toArray, List.getElem?_cons_succ, List.getElem?_cons_zero]; rfl); rfl; intro K hK)
      go_simp
      generalize hwd : World.alloc wc _ = wd
      have HB : Hid (wd.heap[wc.heap.size]? = some (.cells ((List.replicate m (0 : UInt8)).map bv).toArray 5)) := Lib.hid (by rw [← hwd, heap_alloc_new]; simp)
      have Nd : New wc wd := by rw [← hwd]; exact (Below.refl _ _).alloc (Nat.le_refl _) _
      have HLe := Lib.hid (HLd.out.new Nd)
      have HOe : Hid (Only F w wd) := Lib.hid (HOd.out.trans (New.only (F := F) Nd) (fun _ _ h => h))
      clear hwd Nd HLd HOd HC HOc
      obtain ⟨gz, hgz⟩ : ∃ x, wc.heap.size = x := ⟨_, rfl⟩
      rw [hgz] at HB
      rw [hgz]
      clear hgz
      have HPz := Lib.hid (lgPut HLe.out (.slice (some ⟨gz, 0, none⟩) m m) (List.replicate m 0) (by
        have := rd_row10 HB.out (by rw [List.length_replicate]; omega)
        rwa [List.length_replicate] at this) (by rw [List.length_replicate, List.length_append, HFl.out]; omega) (by rw [List.length_replicate]; dsimp only; omega))
      refine hK.out _ _ (trivial) (fun _ => ?_)
      clear hK K
      try simp only [Act.put, List.setIfInBounds_toArray, List.set_cons_zero, List.set_cons_succ]
      (apply ordT_only; (simp only [List.getElem?_toArray, List.getElem?_cons_succ, List.getElem?_cons_zero]; rfl); rfl; intro K hK)
      go_simp
      refine HPz.out.mono ?_
      rintro _ w1 ⟨rfl, ⟨vtl1, h1⟩, o1⟩
      have HSZ0 : Hid (w.heap.size ≤ wd.heap.size) := Lib.hid HOe.out.size
      have h1' := h1.narrow (G := fun k => F k ∨ w.heap.size ≤ k) (fun k _ hk => hk.elim id (fun h => .inr (Nat.le_trans HSZ0.out h)))
      have hs1 : ((⟨num, u48, false, ch, ts, sure, tl ++ sFoot ts.length ch, dead⟩ : PLg).put (List.replicate m 0)) = ⟨num, u48 + m, false, ch, ts, sure, tl ++ sFoot ts.length ch ++ List.replicate m 0, dead⟩ := by unfold PLg.put; dsimp only; rw [List.length_replicate]
      rw [hs1] at h1'
      have HL1 := Lib.hid h1'
      have HO1 : Hid (Only F w w1) := Lib.hid (HOe.out.back o1)
      refine hK.out _ _ (trivial) (fun _ => ?_)
      clear hK K
      try simp only [Act.put, List.setIfInBounds_toArray, List.set_cons_zero, List.set_cons_succ]
      apply ordT_done
      rw [HS1.out] at HL1
      clear h1 h1' hs1 o1 HPz HLe HOe HS1 HTL hmk hw1 c6 HFl HZ hzb
      go_upto_region 4 with fail
      obtain ⟨num1, u1, sl1, ch1, ts1, sure1, tl1, dead1⟩ := s1
      have hpl : num1 = num ∧ ch1 = ch ∧ ts1 = ts ∧ tl1.length ≤ 900000000 := HSM.out
      obtain ⟨rfl, rfl, rfl, htl⟩ := hpl
      have HU4 := HL1.out.upd 4 (.int .i64 (num1 + 1)) (s' := ⟨num1 + 1, u1, sl1, ch1, ts1, sure1, tl1, dead1⟩) rfl rfl rfl rfl
      have HU5 := HU4.upd 5 (.int .i64 ((0 : Nat) : Int)) (s' := ⟨num1 + 1, 0, sl1, ch1, ts1, sure1, tl1, dead1⟩) rfl rfl rfl rfl
      have HU6 := Lib.hid (HU5.upd 6 (.bool false) (s' := ⟨num1 + 1, 0, false, ch1, ts1, sure1, tl1, dead1⟩) rfl rfl rfl rfl)
      have HO6 : Hid (Only F w (((w1.setCell ⟨p, 4, none⟩ (.int .i64 (num1 + 1))).setCell ⟨p, 5, none⟩ (.int .i64 ((0 : Nat) : Int))).setCell ⟨p, 6, none⟩ (.bool false))) := Lib.hid (HO1.out.trans (((only_cell w1 p 4 _).trans (only_cell _ p 5 _) (fun _ _ h => h)).trans (only_cell _ p 6 _) (fun _ _ h => h)) (fun k _ hk => by rw [hk]; exact HFp.out))
      have y4 := HL1.out.at_.cell 4 rfl
      have f4 := HL1.out.at_.frozen 4
      have y5 := HU4.at_.cell 5 rfl
      have f5 := HU4.at_.frozen 5
      have y6 := HU5.at_.cell 6 rfl
      have f6 := HU5.at_.frozen 6
      rw [Int.natCast_zero] at HU6 HO6 HU5 y6 f6
      go_upto_region 5 with fail
      clear HU4 HU5 y4 f4 y5 f5 y6 f6
      generalize World.setCell _ _ _ = w2 at *
      have NW : New w2 w2.drew := (Below.refl _ _).drew
      have HLd := Lib.hid (HU6.out.drew)
      have HOd : Hid (Only F w w2.drew) := Lib.hid HO6.out.drew
      obtain ⟨at_, ct, rfl⟩ := HLd.out.vts_form
      obtain ⟨ac, cc, rfl⟩ := HLd.out.vch_form
      have HC : Hid (Lc478 p (.int .i64 (num1 + 1)) (.slice ac 32 cc) (.slice at_ ps.length ct) w2.drew) := Lib.hid ⟨HLd.out.at_.cell 4 rfl, HLd.out.at_.cell 7 rfl, HLd.out.at_.cell 8 rfl⟩
      have hfw := HLd.out.few
      have HHd := Lib.hid (segHead w2.drew (num1 + 1) (ps.length : Int) _ ch1 HLd.out.rch (by omega) (by omega) (by omega) (by omega))
      have HHE : Hid (sHeadOf (num1 + 1) (ps.length : Int) ch1 = sHead (num1 + 1).toNat ts1.length ch1) := Lib.hid (by unfold sHeadOf; rw [if_pos ⟨by omega, HLd.out.chl, by omega, by omega⟩, Int.toNat_natCast, HLd.out.len])
      rw [HHE.out] at HHd
      refine region_ord (Lc478 p (.int .i64 (num1 + 1)) (.slice ac 32 cc) (.slice at_ ps.length ct)) [(0, true), (1, true), (2, true), (3, true), (4, true), (5, true), (6, true), (7, true), (8, true), (9, true), (10, true), (11, true), (12, true), (13, true), (14, true), (15, true), (16, false), (17, false)] (by kernel_rfl) (by kernel_rfl) HC.out (fun _ => ?_)
      clear NW HU6 HO6
      generalize w2.drew = w3 at *
      unfold Lc478
      iterate 16 (apply ord_take; (simp only [List.getElem?_toArray, List.getElem?_cons_succ, List.getElem?_cons_zero]; rfl); rfl; (intro w hSw; (try dsimp only at hSw); go_simp; try with_reducible rfl); intro _; try simp only [Act.put, List.setIfInBounds_toArray, List.set_cons_zero, List.set_cons_succ])
      (apply ord_only; (simp only [List.getElem?_toArray, List.getElem?_cons_succ, List.getElem?_cons_zero]; rfl); rfl; intro K hK)
      go_simp
      refine HHd.out.mono ?_
      rintro _ w4 ⟨v, rfl, hown, N4⟩
      have HL4 := Lib.hid (HLd.out.new N4)
      have HO4 : Hid (Only F w w4) := Lib.hid (HOd.out.trans (New.only (F := F) N4) (fun _ _ h => h))
      have HC4 : Hid (Lc478 p (.int .i64 (num1 + 1)) (.slice ac 32 cc) (.slice at_ ps.length ct) w4) := Lib.hid ⟨HL4.out.at_.cell 4 rfl, HL4.out.at_.cell 7 rfl, HL4.out.at_.cell 8 rfl⟩
      have HPu := Lib.hid (lgPut HL4.out v _ (Rd.of_own hown) (by rw [sHead_length _ _ _ HL4.out.chl]; dsimp only; omega) (by rw [sHead_length _ _ _ HL4.out.chl]; dsimp only; omega))
      obtain ⟨av, nv, cv, rfl⟩ := own_slice hown
      clear hown N4 HLd HOd HC HHd
      refine hK.out _ _ (HC4.out) (fun _ => ?_)
      clear hK K
      try simp only [Act.put, List.setIfInBounds_toArray, List.set_cons_zero, List.set_cons_succ]
      (apply ord_only; (simp only [List.getElem?_toArray, List.getElem?_cons_succ, List.getElem?_cons_zero]; rfl); rfl; intro K hK)
      go_simp
      refine HPu.out.mono ?_
      rintro _ w5 ⟨rfl, ⟨vtl5, h5⟩, o5⟩
      have HL5 := Lib.hid h5
      have HO5 : Hid (Only F w w5) := Lib.hid (HO4.out.back o5)
      have HSZ : Hid (w.heap.size ≤ w4.heap.size) := Lib.hid HO4.out.size
      have HC5 : Hid (Lc478 p (.int .i64 (num1 + 1)) (.slice ac 32 cc) (.slice at_ ps.length ct) w5) := Lib.hid ⟨h5.at_.cell 4 rfl, h5.at_.cell 7 rfl, h5.at_.cell 8 rfl⟩
      clear h5 o5
      refine hK.out _ _ (HC5.out) (fun _ => ?_)
      clear hK K
      try simp only [Act.put, List.setIfInBounds_toArray, List.set_cons_zero, List.set_cons_succ]
      apply ord_done
      go_wp2
      go_end0
      exact ⟨rfl, LogM.back ⟨_, _, _, _, HL5.out⟩ HSZ.out, HO5.out⟩

end Go.Proofs.YtijkmpcgkhijgaaGreatDoor

namespace Go.Proofs.YtijkmpcgkhijgaaGreatDoor
set_option linter.unusedVariables false
set_option linter.unusedSimpArgs false
set_option maxRecDepth 100000
open Go.RowKit

/-- what a write of some sectors and a flush leave, with q calls left -/
def flD (q : Int) (D : List UInt8) (P W : List Wr) : List UInt8 := if q = 0 then D else if nextQ q = 0 then D else layAll D (P ++ W)
def flL (q : Int) (L : List UInt8) (s : Nat) (b : List UInt8) : List UInt8 := if q = 0 then L else lay L s b
def flP (q : Int) (P W : List Wr) : List Wr := if q = 0 then P else if nextQ q = 0 then P ++ W else []
def flOk (q : Int) : Bool := decide (q ≠ 0 ∧ nextQ q ≠ 0)
def flX (q : Int) : Int := if flOk q = true then 0 else 22

def Lc01 (p : Nat) (a b : Value) (w : World) : Prop := w.cell? ⟨p, 0, none⟩ = some a ∧ w.cell? ⟨p, 1, none⟩ = some b

/-- behind two calls on a disk -/
theorem DvcTo.back {q : Int} {w w1 w2 : World} {n g : Nat} {G : Nat → Prop} {D L : List UInt8} {P : List Wr} (ho : Only G w w1) (h : DvcTo q w1 n g (fun k => G k ∨ w.heap.size ≤ k) D L P w2) : DvcTo q w n g G D L P w2 :=
  ⟨h.1.narrow (fun k _ hk => hk.elim id (fun h => .inr (Nat.le_trans ho.size h))), ho.trans h.2 (fun k hk h => h.elim id (fun h => by omega))⟩

set_option maxHeartbeats 2000000 in
theorem lgStore {q : Int} {w : World} {n g : Nat} {G : Nat → Prop} {D L : List UInt8} {P : List Wr} (hD : Dvc q w n g G D L P) (p frm : Nat) (h0 : w.cell? ⟨p, 0, none⟩ = some (.pointer (some ⟨g, 0, none⟩))) (h1 : w.cell? ⟨p, 1, none⟩ = some (.int .i64 (frm : Int))) (hp : ¬ G p)
    (at_ t m : Nat) (hat : at_ = 128 * t) (hs : frm + t + m ≤ n) (hm : 0 < m) (gb ob cb : Nat) (b : List UInt8) (hrb : Rd w (.slice (some ⟨gb, ob, none⟩) (128 * m) cb) b) (hgb : ¬ G gb) (hP : P.length + m ≤ 1000000) :
    Calls Tryz.prog 29 #[.pointer (some ⟨p, 0, none⟩), .int .i64 (at_ : Int), .slice (some ⟨gb, ob, none⟩) (128 * m) cb] w fun e w' => e = .returned (.int .i64 (flX q)) ∧ DvcTo (nextQ (nextQ q)) w n g G (flD q D P (chunks (frm + t) b m)) (flL q L (frm + t) b) (flP q P (chunks (frm + t) b m)) w' := by
  have hn : n ≤ 65536 := by obtain ⟨_, _, _, _, _, hd, -⟩ := hD; exact hd.few.2
  have N1 : New w w.drew := (Below.refl _ _).drew
  have HD := Lib.hid (hD.new N1)
  have HRb := Lib.hid (hrb.new N1)
  have HC : Hid (Lc01 p (.pointer (some ⟨g, 0, none⟩)) (.int .i64 (frm : Int)) w.drew) := Lib.hid ⟨h0, h1⟩
  have HN : Hid (¬ G p ∧ ¬ G gb ∧ P.length + m ≤ 1000000 ∧ 0 < m) := Lib.hid ⟨hp, hgb, hP, hm⟩
  have HO1 : Hid (Only G w w.drew) := Lib.hid (New.only N1)
  have e1 : (at_ : Int).tdiv 128 = (t : Int) := by rw [hat, Int.tdiv_eq_ediv_of_nonneg (by omega)]; omega
  obtain ⟨ft, hft⟩ : ∃ x, frm + t = x := ⟨_, rfl⟩
  have e2 : IntKind.i64.wrap ((frm : Int) + (t : Int)) = (ft : Int) := by rw [IntWalk.i64_in _ (by omega)]; omega
  have e2b : ft + m ≤ n := by omega
  have e3 : IntKind.i64.wrap (t : Int) = (t : Int) := IntWalk.i64_in _ (by omega)
  obtain ⟨k, hk⟩ : ∃ x, 128 * m = x := ⟨_, rfl⟩
  have hk0 : (0 : Int) < (k : Int) := by omega
  have HK := Lib.hid hk
  rw [hft]
  have HW : Hid (∀ wx, Dvc q wx n g G D L P → Rd wx (.slice (some ⟨gb, ob, none⟩) (128 * m) cb) b → Calls Tryz.prog 53 #[.pointer (some ⟨g, 0, none⟩), .int .i64 (ft : Int), .slice (some ⟨gb, ob, none⟩) k cb] wx fun e w' => e = .returned (.int .i64 (if q = 0 then 22 else 0)) ∧ DvcTo (nextQ q) wx n g G D (flL q L ft b) (if q = 0 then P else P ++ chunks ft b m) w') := Lib.hid (by
    intro wx hd hr
    rw [← hk]
    unfold flL
    by_cases hq : q = 0
    · subst hq
      rw [if_pos rfl, if_pos rfl, if_pos rfl]
      exact diskWriteOff hd ft m e2b _ _
    · rw [if_neg hq, if_neg hq, if_neg hq]
      exact diskWriteN hd hq ft m e2b hm gb ob cb b hr hgb hP)
  rw [hk]
  clear hD h0 h1 hp hat hs hm hrb hgb hP hft hk N1 e2b
  go_enter Tryz.func29, Tryz.ntmps29
  go_upto_region 2 with fail
  refine region_ord (Lc01 p (.pointer (some ⟨g, 0, none⟩)) (.int .i64 (frm : Int))) [(0, true), (1, true), (2, true), (3, true), (4, true), (5, true), (6, true), (7, true), (8, true), (9, true), (10, true), (11, true), (12, false), (13, true)] (by kernel_rfl) (by kernel_rfl) HC.out (fun _ => ?_)
  generalize w.drew = w1 at *
  unfold Lc01
  iterate 12 (apply ord_take; (simp only [List.getElem?_toArray, List.getElem?_cons_succ, List.getElem?_cons_zero]; rfl); rfl; (intro w hSw; (try dsimp only at hSw); go_simp; try with_reducible rfl); intro _; try simp only [Act.put, List.setIfInBounds_toArray, List.set_cons_zero, List.set_cons_succ])
  (apply ord_only; (simp only [List.getElem?_toArray, List.getElem?_cons_succ, List.getElem?_cons_zero]; rfl); rfl; intro K hK)
  go_simp
  refine (HW.out w1 HD.out HRb.out).mono ?_
  rintro _ w2 ⟨rfl, hd2⟩
  have HC2 : Hid (Lc01 p (.pointer (some ⟨g, 0, none⟩)) (.int .i64 (frm : Int)) w2) := Lib.hid ⟨(World.cell?_of_block (hd2.2.block _ (World.block_lt_of_cell? w1 _ HC.out.1) HN.out.1)).trans HC.out.1, (World.cell?_of_block (hd2.2.block _ (World.block_lt_of_cell? w1 _ HC.out.2) HN.out.1)).trans HC.out.2⟩
  have HO2 : Hid (Only G w w2) := Lib.hid (HO1.out.trans hd2.2 (fun _ _ h => h))
  have HD2 : Hid (Dvc (nextQ q) w2 n g (fun k => G k ∨ w.heap.size ≤ k) D (flL q L ft b) (if q = 0 then P else P ++ chunks ft b m)) := Lib.hid (hd2.1.narrow (fun k _ hk => hk.elim .inl (fun h => .inr (Nat.le_trans HO1.out.size h))))
  clear hd2 HW HD HRb HO1 HC
  refine hK.out _ _ (HC2.out) (fun _ => ?_)
  clear hK K
  try simp only [Act.put, List.setIfInBounds_toArray, List.set_cons_zero, List.set_cons_succ]
  by_cases hq : q = 0
  · subst hq
    rw [if_pos rfl] at HD2
    rw [if_pos rfl]
    have HE : Hid (flX 0 = 22 ∧ flD 0 D P (chunks ft b m) = D ∧ flP 0 P (chunks ft b m) = P ∧ nextQ (nextQ 0) = nextQ 0) := Lib.hid ⟨rfl, rfl, rfl, rfl⟩
    (apply ord_take; (simp only [List.getElem?_toArray, List.getElem?_cons_succ, List.getElem?_cons_zero]; rfl); rfl; (intro w hSw; (try dsimp only at hSw); go_simp; try with_reducible rfl); intro _; try simp only [Act.put, List.setIfInBounds_toArray, List.set_cons_zero, List.set_cons_succ])
    apply ord_done
    go_wp2
    go_ret
    rw [HE.out.1, HE.out.2.1, HE.out.2.2.1, HE.out.2.2.2]
    exact ⟨rfl, HD2.out.narrow (fun k _ hk => hk), HO2.out⟩
  rw [if_neg hq] at HD2
  rw [if_neg hq]
  by_cases hq1 : nextQ q = 0
  · have HE : Hid (flX q = 22 ∧ flD q D P (chunks ft b m) = D ∧ flP q P (chunks ft b m) = P ++ chunks ft b m) := Lib.hid (by
      refine ⟨?_, ?_, ?_⟩
      · unfold flX flOk; rw [if_neg (by simp [hq1])]
      · unfold flD; rw [if_neg hq, if_pos hq1]
      · unfold flP; rw [if_neg hq, if_pos hq1])
    rw [hq1] at HD2
    have HFl := Lib.hid (diskFlushOff HD2.out)
    (apply ord_take; (simp only [List.getElem?_toArray, List.getElem?_cons_succ, List.getElem?_cons_zero]; rfl); rfl; (intro w hSw; (try dsimp only at hSw); go_simp; try with_reducible rfl); intro _; try simp only [Act.put, List.setIfInBounds_toArray, List.set_cons_zero, List.set_cons_succ])
    apply ord_done
    have x0 := HC2.out.1
    go_wp2_with fail
    refine HFl.out.mono ?_
    rintro _ w3 ⟨rfl, hd3⟩
    have H3 := Lib.hid (DvcTo.back HO2.out hd3)
    clear hd3
    go_wp2
    go_ret
    rw [HE.out.1, HE.out.2.1, HE.out.2.2, hq1]
    exact ⟨rfl, H3.out⟩
  · have HE : Hid (flX q = 0 ∧ flD q D P (chunks ft b m) = layAll D (P ++ chunks ft b m) ∧ flP q P (chunks ft b m) = []) := Lib.hid (by
      refine ⟨?_, ?_, ?_⟩
      · unfold flX flOk; rw [if_pos (decide_eq_true ⟨hq, hq1⟩)]
      · unfold flD; rw [if_neg hq, if_neg hq1]
      · unfold flP; rw [if_neg hq, if_neg hq1])
    have HFl := Lib.hid (diskFlushN HD2.out hq1)
    (apply ord_take; (simp only [List.getElem?_toArray, List.getElem?_cons_succ, List.getElem?_cons_zero]; rfl); rfl; (intro w hSw; (try dsimp only at hSw); go_simp; try with_reducible rfl); intro _; try simp only [Act.put, List.setIfInBounds_toArray, List.set_cons_zero, List.set_cons_succ])
    apply ord_done
    have x0 := HC2.out.1
    go_wp2_with fail
    refine HFl.out.mono ?_
    rintro _ w3 ⟨rfl, hd3⟩
    have H3 := Lib.hid (DvcTo.back HO2.out hd3)
    clear hd3
    go_wp2
    go_ret
    rw [HE.out.1, HE.out.2.1, HE.out.2.2]
    exact ⟨rfl, H3.out⟩

theorem lgStore0 {q : Int} {w : World} {n g : Nat} {G : Nat → Prop} {D L : List UInt8} {P : List Wr} (hD : Dvc q w n g G D L P) (hq : q ≠ 0) (p : Nat) (h0 : w.cell? ⟨p, 0, none⟩ = some (.pointer (some ⟨g, 0, none⟩))) (at_ : Int) (a : Option Addr) (cb : Nat) :
    Calls Tryz.prog 29 #[.pointer (some ⟨p, 0, none⟩), .int .i64 at_, .slice a 0 cb] w fun e w' => e = .returned (.int .i64 0) ∧ DvcTo (nextQ q) w n g G (layAll D P) L [] w' := by
  have HFl := Lib.hid (diskFlushN hD hq)
  clear hD hq
  go_enter Tryz.func29, Tryz.ntmps29
  go_wp2_with fail
  refine HFl.out.mono ?_
  rintro _ w3 ⟨rfl, hd3⟩
  have H3 := Lib.hid hd3
  clear hd3
  go_wp2
  go_ret
  exact ⟨rfl, H3.out⟩

/-- a log and its disk, apart from each other, all their blocks in H -/
def LogD (q : Int) (w : World) (H : Nat → Prop) (p g frm N sz : Nat) (s : PLg) (n : Nat) (D L : List UInt8) (P : List Wr) : Prop :=
  ∃ F G, LogM w F p g frm N sz s ∧ Dvc q w n g G D L P ∧ (∀ k, F k → ¬ G k) ∧ (∀ k, F k → H k) ∧ (∀ k, G k → H k)

/-- what a call leaves of both -/
def LogDTo (q : Int) (w : World) (H : Nat → Prop) (p g frm N sz : Nat) (s : PLg) (n : Nat) (D L : List UInt8) (P : List Wr) (w' : World) : Prop := LogD q w' (fun k => H k ∨ w.heap.size ≤ k) p g frm N sz s n D L P ∧ Only H w w'

section
variable {q : Int} {w w1 w2 w' : World} {F G H : Nat → Prop} {p g frm N sz : Nat} {s s' : PLg} {n : Nat} {D L D' L' : List UInt8} {P P' : List Wr}

theorem LogD.onDisk {q' : Int} (h : LogM w F p g frm N sz s) (dis : ∀ k, F k → ¬ G k) (hF : ∀ k, F k → H k) (hG : ∀ k, G k → H k) (ht : DvcTo q' w n g G D' L' P' w') : LogDTo q' w H p g frm N sz s n D' L' P' w' :=
  ⟨⟨fun k => F k ∧ k < w.heap.size, fun k => G k ∨ w.heap.size ≤ k, (h.narrow (G := fun k => F k ∧ k < w.heap.size) (fun k hk hF => ⟨hF, hk⟩)).only ht.2 (fun k hk => dis k hk.1), ht.1, fun k hk hg => hg.elim (dis k hk.1) (fun h => by omega), fun k hk => .inl (hF k hk.1), fun k hk => hk.elim (fun h => .inl (hG k h)) .inr⟩, ht.2.mono (fun k _ hk => hG k hk)⟩

theorem LogD.onLog (hd : Dvc q w n g G D L P) (dis : ∀ k, F k → ¬ G k) (hF : ∀ k, F k → H k) (hG : ∀ k, G k → H k) (ht : LogTo w F p g frm N sz s' w') : LogDTo q w H p g frm N sz s' n D L P w' :=
  ⟨⟨fun k => F k ∨ w.heap.size ≤ k, fun k => G k ∧ k < w.heap.size, ht.1, (hd.narrow (G := fun k => G k ∧ k < w.heap.size) (fun k hk hF => ⟨hF, hk⟩)).only ht.2 (fun k hk hf => dis k hf hk.1), fun k hk hg => hk.elim (fun h => dis k h hg.1) (fun h => by omega), fun k hk => hk.elim (fun h => .inl (hF k h)) .inr, fun k hk => .inl (hG k hk.1)⟩, ht.2.mono (fun k _ hk => hF k hk)⟩

theorem LogD.mono {H' : Nat → Prop} (h : LogD q w H p g frm N sz s n D L P) (hH : ∀ k, H k → H' k) : LogD q w H' p g frm N sz s n D L P := by
  obtain ⟨F, G, h1, h2, h3, h4, h5⟩ := h
  exact ⟨F, G, h1, h2, h3, fun k hk => hH k (h4 k hk), fun k hk => hH k (h5 k hk)⟩

theorem LogD.narrow {H' : Nat → Prop} (h : LogD q w H p g frm N sz s n D L P) (hH : ∀ k, k < w.heap.size → H k → H' k) : LogD q w H' p g frm N sz s n D L P := by
  obtain ⟨F, G, h1, h2, h3, h4, h5⟩ := h
  exact ⟨fun k => F k ∧ k < w.heap.size, fun k => G k ∧ k < w.heap.size, h1.narrow (fun k hk hF => ⟨hF, hk⟩), h2.narrow (fun k hk hF => ⟨hF, hk⟩), fun k hk hg => h3 k hk.1 hg.1, fun k hk => hH k hk.2 (h4 k hk.1), fun k hk => hH k hk.2 (h5 k hk.1)⟩

theorem LogD.only {K : Nat → Prop} (h : LogD q w H p g frm N sz s n D L P) (ho : Only K w w') (hK : ∀ k, H k → ¬ K k) : LogD q w' H p g frm N sz s n D L P := by
  obtain ⟨F, G, h1, h2, h3, h4, h5⟩ := h
  exact ⟨F, G, h1.only ho (fun k hk => hK k (h4 k hk)), h2.only ho (fun k hk => hK k (h5 k hk)), h3, h4, h5⟩

theorem LogD.new (h : LogD q w H p g frm N sz s n D L P) (hn : New w w') : LogD q w' H p g frm N sz s n D L P := h.only (New.only (F := fun _ => False) hn) (fun _ _ f => f)

theorem LogDTo.then {q' : Int} (h : Only H w w1) (h2 : LogDTo q' w1 (fun k => H k ∨ w.heap.size ≤ k) p g frm N sz s' n D' L' P' w2) : LogDTo q' w H p g frm N sz s' n D' L' P' w2 :=
  ⟨h2.1.mono (fun k hk => hk.elim id (fun h' => .inr (Nat.le_trans h.size h'))), h.trans h2.2 (fun k hk h => h.elim id (fun h => by omega))⟩

theorem LogDTo.post (h : LogDTo q w H p g frm N sz s n D L P w1) (hn : New w1 w2) : LogDTo q w H p g frm N sz s n D L P w2 := ⟨h.1.new hn, h.2.trans (New.only (F := H) hn) (fun _ _ h => h)⟩
end

def Lc89 (p : Nat) (a b : Value) (w : World) : Prop := w.cell? ⟨p, 8, none⟩ = some a ∧ w.cell? ⟨p, 9, none⟩ = some b
def LcTl (p : Nat) (a : Value) (w : World) : Prop := w.cell? ⟨p, 10, none⟩ = some a

set_option maxHeartbeats 1000000 in
/-- Flush, nothing new -/
theorem lgFlush0 {w : World} {F : Nat → Prop} {p g frm N sz : Nat} {s : PLg} {vch vts vtl : Value} {ps : List (Value × List UInt8)} (h : LObj w F p g frm N sz s vch vts vtl ps) (hd : s.dead = false) (hsu : s.sure = s.ts.length) :
    Calls Tryz.prog 10 #[.pointer (some ⟨p, 0, none⟩)] w fun e w' => e = .returned .nilIface ∧ New w w' := by
  obtain ⟨num, u, sl, ch, ts, sure, tl, dead⟩ := s
  dsimp only at hd hsu
  subst hd
  rw [← h.len] at hsu
  subst hsu
  obtain ⟨at_, ct, rfl⟩ := h.vts_form
  have N1 : New w w.drew := (Below.refl _ _).drew
  have HC : Hid (Lc89 p (.slice at_ ps.length ct) (.int .i64 (ps.length : Int)) w.drew) := Lib.hid ⟨h.drew.at_.cell 8 rfl, h.drew.at_.cell 9 rfl⟩
  have c11 := h.at_.cell 11 rfl
  clear h
  go_enter Tryz.func10, Tryz.ntmps10
  go_upto_region 3 with fail
  refine region_ord (Lc89 p (.slice at_ ps.length ct) (.int .i64 (ps.length : Int))) [(0, true), (1, true), (2, true), (3, true), (4, true), (5, true), (6, true), (7, true), (8, true), (9, true)] (by kernel_rfl) (by kernel_rfl) HC.out (fun _ => ?_)
  generalize w.drew = w1 at *
  unfold Lc89
  iterate 10 (apply ord_take; (simp only [List.getElem?_toArray, List.getElem?_cons_succ, List.getElem?_cons_zero]; rfl); rfl; (intro w hSw; (try dsimp only at hSw); go_simp; try with_reducible rfl); intro _; try simp only [Act.put, List.setIfInBounds_toArray, List.set_cons_zero, List.set_cons_succ])
  apply ord_done
  go_wp2
  go_ret
  exact ⟨rfl, N1⟩

set_option maxHeartbeats 4000000 in
/-- Flush, something new, and power enough -/
theorem lgFlush1 {q : Int} {w : World} {F G H : Nat → Prop} {p g frm N sz : Nat} {s : PLg} {vch vts vtl : Value} {ps : List (Value × List UInt8)} {n : Nat} {D L : List UInt8} {P : List Wr} (h : LObj w F p g frm N sz s vch vts vtl ps) (hD : Dvc q w n g G D L P) (dis : ∀ k, F k → ¬ G k) (hF : ∀ k, F k → H k) (hG : ∀ k, G k → H k)
    (hd : s.dead = false) (hsu : s.sure ≠ s.ts.length) (hsz : sz ≤ 1000) (hn : -1 ≤ s.num ∧ s.num ≤ 1000) (m t : Nat) (hm : s.num * ((128 * sz : Nat) : Int) + (s.used : Int) = (m : Int)) (hmt : m = 128 * t + s.tl.length ∧ m ≤ 100000000) (hu1 : s.used ≤ 1000000) (hu2 : s.used % 128 ≤ s.tl.length) (ht0 : 0 < s.tl.length) (hfit : frm + t + (s.tl.length + 127) / 128 ≤ n) (hPl : P.length + (s.tl.length + 127) / 128 ≤ 1000000)
    (hq : flOk q = true) :
    Calls Tryz.prog 10 #[.pointer (some ⟨p, 0, none⟩)] w fun e w' => e = .returned .nilIface ∧ LogDTo (nextQ (nextQ q)) w H p g frm N sz (s.settle s.tl) n (flD q D P (chunks (frm + t) (padB s.tl) ((s.tl.length + 127) / 128))) (flL q L (frm + t) (padB s.tl)) (flP q P (chunks (frm + t) (padB s.tl) ((s.tl.length + 127) / 128))) w' := by
  have HX : Hid (flX q = 0) := Lib.hid (if_pos hq)
  clear hq
  obtain ⟨num, u, sl, ch, ts, sure, tl, dead⟩ := s
  dsimp only at hd hsu hm hmt hu1 hu2 ht0 hfit hPl hn
  subst hd
  rw [← h.len] at hsu
  obtain ⟨at_, ct, rfl⟩ := h.vts_form
  obtain ⟨al, cl, rfl⟩ := h.vtl_form
  have hsu' : ((sure : Int) == (ps.length : Int)) = false := beq_eq_false_iff_ne.2 (by omega)
  have hsu2 : ¬ (sure : Int) = (ps.length : Int) := by omega
  have N1 : New w w.drew := (Below.refl _ _).drew
  have N2 : New w w.drew.drew := N1.drew
  have HC : Hid (Lc89 p (.slice at_ ps.length ct) (.int .i64 (sure : Int)) w.drew) := Lib.hid ⟨h.drew.at_.cell 8 rfl, h.drew.at_.cell 9 rfl⟩
  have c11 := h.at_.cell 11 rfl
  have HL2 := Lib.hid (h.new N2)
  have HD2 := Lib.hid (hD.new N2)
  have HDI := Lib.hid (And.intro dis (And.intro hF hG))
  have HCT : Hid (LcTl p (.slice al tl.length cl) w.drew.drew) := Lib.hid (HL2.out.at_.cell 10 rfl)
  obtain ⟨b, hb⟩ : ∃ b, tl.length = b := ⟨_, rfl⟩
  obtain ⟨k, hk⟩ : ∃ k, (b + 127) / 128 = k := ⟨_, rfl⟩
  have e1 : IntKind.i64.wrap ((m : Int) - (b : Int)) = ((m - b : Nat) : Int) := by rw [IntWalk.i64_in _ (by omega)]; omega
  have HPl := Lib.hid (lgPlace HL2.out hsz hn m hm (by omega) (by dsimp only; omega))
  have HBk : Hid (tl.length = b ∧ (tl.length + 127) / 128 = k ∧ 0 < k ∧ (padB tl).length = 128 * k) := Lib.hid ⟨hb, by rw [hb]; exact hk, by omega, by rw [padB_length, hb, hk]⟩
  have HPar : Hid (m - b = 128 * t ∧ frm + t + k ≤ n ∧ P.length + k ≤ 1000000 ∧ u % 128 ≤ b ∧ b ≤ 1000000000 ∧ 0 < b ∧ u ≤ 1000000000) := Lib.hid ⟨by omega, by rw [hb, hk] at hfit; exact hfit, by rw [hb, hk] at hPl; exact hPl, by omega, by omega, by omega, by omega⟩
  rw [hb] at HCT
  clear h hD dis hF hG hsu hm hmt hu1 hu2 ht0 hfit hPl hb hk
  go_enter Tryz.func10, Tryz.ntmps10
  go_upto_region 3 with fail
  refine region_ord (Lc89 p (.slice at_ ps.length ct) (.int .i64 (sure : Int))) [(0, true), (1, true), (2, true), (3, true), (4, true), (5, true), (6, true), (7, true), (8, true), (9, true)] (by kernel_rfl) (by kernel_rfl) HC.out (fun _ => ?_)
  unfold Lc89
  iterate 10 (apply ord_take; (simp only [List.getElem?_toArray, List.getElem?_cons_succ, List.getElem?_cons_zero]; rfl); rfl; (intro w hSw; (try dsimp only at hSw); go_simp; try with_reducible rfl); intro _; try simp only [Act.put, List.setIfInBounds_toArray, List.set_cons_zero, List.set_cons_succ])
  apply ord_done
  clear HC c11 N1
  go_upto_region 5 with fail
  refine region_ord (LcTl p (.slice al b cl)) [(0, true), (1, true), (2, true), (3, true), (5, true), (6, true), (7, true), (8, true), (9, true), (11, true), (12, true), (13, true), (14, true), (4, false), (10, true), (15, false), (16, false), (17, true)] (by kernel_rfl) (by kernel_rfl) HCT.out (fun _ => ?_)
  generalize w.drew.drew = w1 at *
  unfold LcTl
  iterate 13 (apply ord_take; (simp only [List.getElem?_toArray, List.getElem?_cons_succ, List.getElem?_cons_zero]; rfl); rfl; (intro w hSw; (try dsimp only at hSw); go_simp; try with_reducible rfl); intro _; try simp only [Act.put, List.setIfInBounds_toArray, List.set_cons_zero, List.set_cons_succ])
  (apply ord_only; (simp only [List.getElem?_toArray, List.getElem?_cons_succ, List.getElem?_cons_zero]; rfl); rfl; intro K hK)
  go_simp
  refine HPl.out.mono ?_
  rintro _ w2 ⟨rfl, N3⟩
  have HL3 := Lib.hid (HL2.out.new N3)
  have HD3 := Lib.hid (HD2.out.new N3)
  have HN3 := Lib.hid (New.trans N2 N3)
  have HCT3 : Hid (LcTl p (.slice al b cl) w2) := Lib.hid (by have := HL3.out.at_.cell 10 rfl; rw [← HBk.out.1]; exact this)
  clear HL2 HD2 N2 N3 HPl HCT
  refine hK.out _ _ (HCT3.out) (fun _ => ?_)
  clear hK K
  try simp only [Act.put, List.setIfInBounds_toArray, List.set_cons_zero, List.set_cons_succ]
  (apply ord_take; (simp only [List.getElem?_toArray, List.getElem?_cons_succ, List.getElem?_cons_zero]; rfl); rfl; (intro w hSw; (try dsimp only at hSw); go_simp; try with_reducible rfl); intro _; try simp only [Act.put, List.setIfInBounds_toArray, List.set_cons_zero, List.set_cons_succ])
  have HPd := lgPadded w2 al b cl tl (by have := Rd.of_own HL3.out.oL; rw [HBk.out.1] at this; exact this) HPar.out.2.2.2.2.1 HPar.out.2.2.2.2.2.1
  (apply ord_only; (simp only [List.getElem?_toArray, List.getElem?_cons_succ, List.getElem?_cons_zero]; rfl); rfl; intro K hK)
  go_simp
  refine HPd.mono ?_
  rintro _ w3 ⟨v, rfl, hown, N4⟩
  obtain ⟨gb, cb, rfl, hrow, hc1, hc2, hge⟩ := row_of_own hown (fun e => by have h1 := HBk.out.2.2.2; have h2 := HBk.out.2.2.1; rw [e] at h1; simp at h1; omega)
  have hrd := hrow.rd hc1 hc2
  have hlt := hrow.lt
  have HL4 := Lib.hid (HL3.out.new N4)
  have HD4 : Hid (Dvc q w3 n g (fun j => G j ∧ j < w2.heap.size) D L P) := Lib.hid ((HD3.out.narrow (G := fun j => G j ∧ j < w2.heap.size) (fun j hj hg => ⟨hg, hj⟩)).new N4)
  have HN4 := Lib.hid (New.trans HN3.out N4)
  have HCT4 : Hid (LcTl p (.slice al b cl) w3) := Lib.hid (by have := HL4.out.at_.cell 10 rfl; rw [← HBk.out.1]; exact this)
  rw [HBk.out.2.2.2] at hrd
  rw [HBk.out.2.2.2]
  have HSt := Lib.hid (lgStore HD4.out p frm (HL4.out.at_.cell 0 rfl) (HL4.out.at_.cell 1 rfl) (fun hg => HDI.out.1 p HL4.out.fp hg.1) (m - b) t k HPar.out.1 HPar.out.2.1 HBk.out.2.2.1 gb 0 cb (padB tl) hrd (fun hg => by have := hg.2; omega) HPar.out.2.2.1)
  clear hown hrow hrd hc1 hc2 hge hlt N4 HD3 HL3 HN3 HPd HCT3
  refine hK.out _ _ (HCT4.out) (fun _ => ?_)
  clear hK K
  try simp only [Act.put, List.setIfInBounds_toArray, List.set_cons_zero, List.set_cons_succ]
  (apply ord_only; (simp only [List.getElem?_toArray, List.getElem?_cons_succ, List.getElem?_cons_zero]; rfl); rfl; intro K hK)
  go_simp
  refine HSt.out.mono ?_
  rintro _ w4 ⟨rfl, hd5⟩
  have hd5' : DvcTo (nextQ (nextQ q)) w3 n g (fun j => G j ∧ j < w2.heap.size) (flD q D P (chunks (frm + t) (padB tl) k)) (flL q L (frm + t) (padB tl)) (flP q P (chunks (frm + t) (padB tl) k)) w4 := hd5
  have HL5 := Lib.hid ((HL4.out.narrow (G := fun j => F j ∧ j < w3.heap.size) (fun j hj hf => ⟨hf, hj⟩)).only hd5.2 (fun j hj hg => HDI.out.1 j hj.1 hg.1))
  have HD5 : Hid (Dvc (nextQ (nextQ q)) w4 n g (fun j => (G j ∧ j < w2.heap.size) ∨ w3.heap.size ≤ j) (flD q D P (chunks (frm + t) (padB tl) k)) (flL q L (frm + t) (padB tl)) (flP q P (chunks (frm + t) (padB tl) k))) := Lib.hid hd5.1
  have HO5 : Hid (Only H w w4) := Lib.hid ((New.only (F := H) HN4.out).trans (hd5.2.mono (fun j _ hj => HDI.out.2.2 j hj.1)) (fun _ _ h => h))
  have HDS : Hid (∀ j, (F j ∧ j < w3.heap.size) → ¬ ((G j ∧ j < w2.heap.size) ∨ w3.heap.size ≤ j)) := Lib.hid (fun j hj hg => hg.elim (fun h => HDI.out.1 j hj.1 h.1) (fun h => by have := hj.2; omega))
  have HSZ : Hid (w.heap.size ≤ w3.heap.size) := Lib.hid HN4.out.size
  have HCT5 : Hid (LcTl p (.slice al b cl) w4) := Lib.hid (by have := HL5.out.at_.cell 10 rfl; rw [← HBk.out.1]; exact this)
  clear hd5 hd5' HSt HL4 HD4 HN4 HCT4
  refine hK.out _ _ (HCT5.out) (fun _ => ?_)
  clear hK K
  try simp only [Act.put, List.setIfInBounds_toArray, List.set_cons_zero, List.set_cons_succ]
  (apply ord_take; (simp only [List.getElem?_toArray, List.getElem?_cons_succ, List.getElem?_cons_zero]; rfl); rfl; (intro w hSw; (try dsimp only at hSw); go_simp; try with_reducible rfl); intro _; try simp only [Act.put, List.setIfInBounds_toArray, List.set_cons_zero, List.set_cons_succ])
  apply ord_done
  rw [HX.out]
  have c10 := HCT5.out
  unfold LcTl at c10
  have HSe := Lib.hid (lgSettle HL5.out al b cl tl (by have := Rd.of_own HL5.out.oL; rw [HBk.out.1] at this; exact this) (fun j hj e => HL5.out.neT.2 (by rw [← e, ← hj]; exact blk_slice _ _ _ _ _)) HPar.out.2.2.2.2.1 HPar.out.2.2.2.2.2.2 HPar.out.2.2.2.1)
  go_wp2_with fail
  refine HSe.out.mono ?_
  rintro _ w5 ⟨rfl, ht⟩
  have HT := Lib.hid ht
  clear ht
  go_wp2
  go_ret
  rw [HBk.out.2.1]
  refine ⟨rfl, LogDTo.then HO5.out (LogD.onLog HD5.out HDS.out (fun j hj => .inl (HDI.out.2.1 j hj.1)) (fun j hj => hj.elim (fun h => .inl (HDI.out.2.2 j h.1)) (fun h => .inr (Nat.le_trans HSZ.out h))) HT.out)⟩

set_option maxHeartbeats 4000000 in
/-- Flush, something new, and no power -/
theorem lgFlush2 {q : Int} {w : World} {F G H : Nat → Prop} {p g frm N sz : Nat} {s : PLg} {vch vts vtl : Value} {ps : List (Value × List UInt8)} {n : Nat} {D L : List UInt8} {P : List Wr} (h : LObj w F p g frm N sz s vch vts vtl ps) (hD : Dvc q w n g G D L P) (dis : ∀ k, F k → ¬ G k) (hF : ∀ k, F k → H k) (hG : ∀ k, G k → H k)
    (hd : s.dead = false) (hsu : s.sure ≠ s.ts.length) (hsz : sz ≤ 1000) (hn : -1 ≤ s.num ∧ s.num ≤ 1000) (m t : Nat) (hm : s.num * ((128 * sz : Nat) : Int) + (s.used : Int) = (m : Int)) (hmt : m = 128 * t + s.tl.length ∧ m ≤ 100000000) (hu1 : s.used ≤ 1000000) (hu2 : s.used % 128 ≤ s.tl.length) (ht0 : 0 < s.tl.length) (hfit : frm + t + (s.tl.length + 127) / 128 ≤ n) (hPl : P.length + (s.tl.length + 127) / 128 ≤ 1000000)
    (hq : flOk q = false) :
    Calls Tryz.prog 10 #[.pointer (some ⟨p, 0, none⟩)] w fun e w' => (∃ y, e = .returned (.iface 127 y)) ∧ LogDTo (nextQ (nextQ q)) w H p g frm N sz ⟨s.num, s.used, s.sealed, s.ch, s.ts, s.sure, s.tl, true⟩ n (flD q D P (chunks (frm + t) (padB s.tl) ((s.tl.length + 127) / 128))) (flL q L (frm + t) (padB s.tl)) (flP q P (chunks (frm + t) (padB s.tl) ((s.tl.length + 127) / 128))) w' := by
  have HX : Hid (flX q = 22) := Lib.hid (if_neg (by rw [hq]; decide))
  clear hq
  obtain ⟨num, u, sl, ch, ts, sure, tl, dead⟩ := s
  dsimp only at hd hsu hm hmt hu1 hu2 ht0 hfit hPl hn
  subst hd
  rw [← h.len] at hsu
  obtain ⟨at_, ct, rfl⟩ := h.vts_form
  obtain ⟨al, cl, rfl⟩ := h.vtl_form
  have hsu' : ((sure : Int) == (ps.length : Int)) = false := beq_eq_false_iff_ne.2 (by omega)
  have hsu2 : ¬ (sure : Int) = (ps.length : Int) := by omega
  have N1 : New w w.drew := (Below.refl _ _).drew
  have N2 : New w w.drew.drew := N1.drew
  have HC : Hid (Lc89 p (.slice at_ ps.length ct) (.int .i64 (sure : Int)) w.drew) := Lib.hid ⟨h.drew.at_.cell 8 rfl, h.drew.at_.cell 9 rfl⟩
  have c11 := h.at_.cell 11 rfl
  have HL2 := Lib.hid (h.new N2)
  have HD2 := Lib.hid (hD.new N2)
  have HDI := Lib.hid (And.intro dis (And.intro hF hG))
  have HCT : Hid (LcTl p (.slice al tl.length cl) w.drew.drew) := Lib.hid (HL2.out.at_.cell 10 rfl)
  obtain ⟨b, hb⟩ : ∃ b, tl.length = b := ⟨_, rfl⟩
  obtain ⟨k, hk⟩ : ∃ k, (b + 127) / 128 = k := ⟨_, rfl⟩
  have e1 : IntKind.i64.wrap ((m : Int) - (b : Int)) = ((m - b : Nat) : Int) := by rw [IntWalk.i64_in _ (by omega)]; omega
  have HPl := Lib.hid (lgPlace HL2.out hsz hn m hm (by omega) (by dsimp only; omega))
  have HBk : Hid (tl.length = b ∧ (tl.length + 127) / 128 = k ∧ 0 < k ∧ (padB tl).length = 128 * k) := Lib.hid ⟨hb, by rw [hb]; exact hk, by omega, by rw [padB_length, hb, hk]⟩
  have HPar : Hid (m - b = 128 * t ∧ frm + t + k ≤ n ∧ P.length + k ≤ 1000000 ∧ u % 128 ≤ b ∧ b ≤ 1000000000 ∧ 0 < b ∧ u ≤ 1000000000) := Lib.hid ⟨by omega, by rw [hb, hk] at hfit; exact hfit, by rw [hb, hk] at hPl; exact hPl, by omega, by omega, by omega, by omega⟩
  rw [hb] at HCT
  clear h hD dis hF hG hsu hm hmt hu1 hu2 ht0 hfit hPl hb hk
  go_enter Tryz.func10, Tryz.ntmps10
  go_upto_region 3 with fail
  refine region_ord (Lc89 p (.slice at_ ps.length ct) (.int .i64 (sure : Int))) [(0, true), (1, true), (2, true), (3, true), (4, true), (5, true), (6, true), (7, true), (8, true), (9, true)] (by kernel_rfl) (by kernel_rfl) HC.out (fun _ => ?_)
  unfold Lc89
  iterate 10 (apply ord_take; (simp only [List.getElem?_toArray, List.getElem?_cons_succ, List.getElem?_cons_zero]; rfl); rfl; (intro w hSw; (try dsimp only at hSw); go_simp; try with_reducible rfl); intro _; try simp only [Act.put, List.setIfInBounds_toArray, List.set_cons_zero, List.set_cons_succ])
  apply ord_done
  clear HC c11 N1
  go_upto_region 5 with fail
  refine region_ord (LcTl p (.slice al b cl)) [(0, true), (1, true), (2, true), (3, true), (5, true), (6, true), (7, true), (8, true), (9, true), (11, true), (12, true), (13, true), (14, true), (4, false), (10, true), (15, false), (16, false), (17, true)] (by kernel_rfl) (by kernel_rfl) HCT.out (fun _ => ?_)
  generalize w.drew.drew = w1 at *
  unfold LcTl
  iterate 13 (apply ord_take; (simp only [List.getElem?_toArray, List.getElem?_cons_succ, List.getElem?_cons_zero]; rfl); rfl; (intro w hSw; (try dsimp only at hSw); go_simp; try with_reducible rfl); intro _; try simp only [Act.put, List.setIfInBounds_toArray, List.set_cons_zero, List.set_cons_succ])
  (apply ord_only; (simp only [List.getElem?_toArray, List.getElem?_cons_succ, List.getElem?_cons_zero]; rfl); rfl; intro K hK)
  go_simp
  refine HPl.out.mono ?_
  rintro _ w2 ⟨rfl, N3⟩
  have HL3 := Lib.hid (HL2.out.new N3)
  have HD3 := Lib.hid (HD2.out.new N3)
  have HN3 := Lib.hid (New.trans N2 N3)
  have HCT3 : Hid (LcTl p (.slice al b cl) w2) := Lib.hid (by have := HL3.out.at_.cell 10 rfl; rw [← HBk.out.1]; exact this)
  clear HL2 HD2 N2 N3 HPl HCT
  refine hK.out _ _ (HCT3.out) (fun _ => ?_)
  clear hK K
  try simp only [Act.put, List.setIfInBounds_toArray, List.set_cons_zero, List.set_cons_succ]
  (apply ord_take; (simp only [List.getElem?_toArray, List.getElem?_cons_succ, List.getElem?_cons_zero]; rfl); rfl; (intro w hSw; (try dsimp only at hSw); go_simp; try with_reducible rfl); intro _; try simp only [Act.put, List.setIfInBounds_toArray, List.set_cons_zero, List.set_cons_succ])
  have HPd := lgPadded w2 al b cl tl (by have := Rd.of_own HL3.out.oL; rw [HBk.out.1] at this; exact this) HPar.out.2.2.2.2.1 HPar.out.2.2.2.2.2.1
  (apply ord_only; (simp only [List.getElem?_toArray, List.getElem?_cons_succ, List.getElem?_cons_zero]; rfl); rfl; intro K hK)
  go_simp
  refine HPd.mono ?_
  rintro _ w3 ⟨v, rfl, hown, N4⟩
  obtain ⟨gb, cb, rfl, hrow, hc1, hc2, hge⟩ := row_of_own hown (fun e => by have h1 := HBk.out.2.2.2; have h2 := HBk.out.2.2.1; rw [e] at h1; simp at h1; omega)
  have hrd := hrow.rd hc1 hc2
  have hlt := hrow.lt
  have HL4 := Lib.hid (HL3.out.new N4)
  have HD4 : Hid (Dvc q w3 n g (fun j => G j ∧ j < w2.heap.size) D L P) := Lib.hid ((HD3.out.narrow (G := fun j => G j ∧ j < w2.heap.size) (fun j hj hg => ⟨hg, hj⟩)).new N4)
  have HN4 := Lib.hid (New.trans HN3.out N4)
  have HCT4 : Hid (LcTl p (.slice al b cl) w3) := Lib.hid (by have := HL4.out.at_.cell 10 rfl; rw [← HBk.out.1]; exact this)
  rw [HBk.out.2.2.2] at hrd
  rw [HBk.out.2.2.2]
  have HSt := Lib.hid (lgStore HD4.out p frm (HL4.out.at_.cell 0 rfl) (HL4.out.at_.cell 1 rfl) (fun hg => HDI.out.1 p HL4.out.fp hg.1) (m - b) t k HPar.out.1 HPar.out.2.1 HBk.out.2.2.1 gb 0 cb (padB tl) hrd (fun hg => by have := hg.2; omega) HPar.out.2.2.1)
  clear hown hrow hrd hc1 hc2 hge hlt N4 HD3 HL3 HN3 HPd HCT3
  refine hK.out _ _ (HCT4.out) (fun _ => ?_)
  clear hK K
  try simp only [Act.put, List.setIfInBounds_toArray, List.set_cons_zero, List.set_cons_succ]
  (apply ord_only; (simp only [List.getElem?_toArray, List.getElem?_cons_succ, List.getElem?_cons_zero]; rfl); rfl; intro K hK)
  go_simp
  refine HSt.out.mono ?_
  rintro _ w4 ⟨rfl, hd5⟩
  have hd5' : DvcTo (nextQ (nextQ q)) w3 n g (fun j => G j ∧ j < w2.heap.size) (flD q D P (chunks (frm + t) (padB tl) k)) (flL q L (frm + t) (padB tl)) (flP q P (chunks (frm + t) (padB tl) k)) w4 := hd5
  have HL5 := Lib.hid ((HL4.out.narrow (G := fun j => F j ∧ j < w3.heap.size) (fun j hj hf => ⟨hf, hj⟩)).only hd5.2 (fun j hj hg => HDI.out.1 j hj.1 hg.1))
  have HD5 : Hid (Dvc (nextQ (nextQ q)) w4 n g (fun j => (G j ∧ j < w2.heap.size) ∨ w3.heap.size ≤ j) (flD q D P (chunks (frm + t) (padB tl) k)) (flL q L (frm + t) (padB tl)) (flP q P (chunks (frm + t) (padB tl) k))) := Lib.hid hd5.1
  have HO5 : Hid (Only H w w4) := Lib.hid ((New.only (F := H) HN4.out).trans (hd5.2.mono (fun j _ hj => HDI.out.2.2 j hj.1)) (fun _ _ h => h))
  have HDS : Hid (∀ j, (F j ∧ j < w3.heap.size) → ¬ ((G j ∧ j < w2.heap.size) ∨ w3.heap.size ≤ j)) := Lib.hid (fun j hj hg => hg.elim (fun h => HDI.out.1 j hj.1 h.1) (fun h => by have := hj.2; omega))
  have HSZ : Hid (w.heap.size ≤ w3.heap.size) := Lib.hid HN4.out.size
  have HCT5 : Hid (LcTl p (.slice al b cl) w4) := Lib.hid (by have := HL5.out.at_.cell 10 rfl; rw [← HBk.out.1]; exact this)
  clear hd5 hd5' HSt HL4 HD4 HN4 HCT4
  refine hK.out _ _ (HCT5.out) (fun _ => ?_)
  clear hK K
  try simp only [Act.put, List.setIfInBounds_toArray, List.set_cons_zero, List.set_cons_succ]
  (apply ord_take; (simp only [List.getElem?_toArray, List.getElem?_cons_succ, List.getElem?_cons_zero]; rfl); rfl; (intro w hSw; (try dsimp only at hSw); go_simp; try with_reducible rfl); intro _; try simp only [Act.put, List.setIfInBounds_toArray, List.set_cons_zero, List.set_cons_succ])
  apply ord_done
  rw [HX.out]
  have HL6 := Lib.hid (HL5.out.upd 11 (.bool true) (s' := ⟨num, u, sl, ch, ts, sure, tl, true⟩) rfl rfl rfl rfl)
  have HO6 : Hid (Only (fun j => F j ∧ j < w3.heap.size) w4 (w4.setCell ⟨p, 11, none⟩ (.bool true))) := Lib.hid ((only_cell _ _ _ _).mono (fun j _ hj => by rw [hj]; exact HL5.out.fp))
  have y11 := HL5.out.at_.cell 11 rfl
  have f11 := HL5.out.at_.frozen 11
  go_upto_region 8 with fail
  generalize World.setCell w4 _ _ = w5 at *
  clear y11 f11
  have HFa := Lib.hid (lgFailed HL6.out 22 (by decide))
  go_wp2_with fail
  refine HFa.out.mono ?_
  rintro _ w6 ⟨⟨y, rfl⟩, N6⟩
  have HN6 := Lib.hid N6
  clear N6
  go_wp2
  go_ret
  rw [HBk.out.2.1]
  refine ⟨⟨_, rfl⟩, LogDTo.post (LogDTo.then HO5.out (LogD.onLog HD5.out HDS.out (fun j hj => .inl (HDI.out.2.1 j hj.1)) (fun j hj => hj.elim (fun h => .inl (HDI.out.2.2 j h.1)) (fun h => .inr (Nat.le_trans HSZ.out h))) ⟨⟨_, _, _, _, HL6.out.mono (fun j hj => .inl hj)⟩, HO6.out⟩)) HN6.out⟩

end Go.Proofs.YtijkmpcgkhijgaaGreatDoor

namespace Go.Proofs.YtijkmpcgkhijgaaGreatDoor
set_option linter.unusedVariables false
set_option linter.unusedSimpArgs false
set_option maxRecDepth 100000
open Go.RowKit

/-- a text laid behind the others of the last segment -/
def PLg.add (s : PLg) (t : List UInt8) : PLg := ⟨s.num, s.used + (t.length + 40), s.sealed, sNext s.ch t, s.ts ++ [t], s.sure, s.tl ++ sFrame s.ch t, s.dead⟩
/-- a text appended -/
def PLg.app (s : PLg) (z : Nat) (t : List UInt8) : PLg := (if s.fits z (t.length : Int) = true then s else (s.seal z).next).add t

set_option maxHeartbeats 1000000 in
theorem lgAppendNo {w : World} {F : Nat → Prop} {p g frm N sz : Nat} {s : PLg} {vch vts vtl : Value} {ps : List (Value × List UInt8)} (h : LObj w F p g frm N sz s vch vts vtl ps) (hb : sz ≤ 1000) (hu : s.used ≤ 1000000) (hn : -1 ≤ s.num ∧ s.num ≤ 1000) (hN : N ≤ 1000) (a : Option Addr) (n c : Nat) (hr : s.refuse (128 * sz) N (n : Int) ≠ 0) :
    Calls Tryz.prog 12 #[.pointer (some ⟨p, 0, none⟩), .slice a n c] w fun e w' => (∃ y, e = .returned (.iface 127 y)) ∧ New w w' := by
  have HR := Lib.hid (lgRefusal h hb (by omega) hn hN (n : Int))
  obtain ⟨x, hx⟩ : ∃ x, s.refuse (128 * sz) N (n : Int) = x := ⟨_, rfl⟩
  rw [hx] at HR hr
  have HL := Lib.hid h
  have HX := Lib.hid hr
  have hx0 : (x == 0) = false := beq_eq_false_iff_ne.2 hr
  clear h hx hu hn hb hN
  go_enter Tryz.func12, Tryz.ntmps12
  go_wp2_with fail
  refine HR.out.mono ?_
  rintro _ w2 ⟨rfl, N2⟩
  have HFa := Lib.hid (lgFailed (HL.out.new N2) x HX.out)
  have HN2 := Lib.hid N2
  clear N2
  go_wp2_with fail
  refine HFa.out.mono ?_
  rintro _ w3 ⟨⟨y, rfl⟩, N3⟩
  go_wp2
  go_ret
  exact ⟨⟨_, rfl⟩, New.trans HN2.out N3⟩

theorem Rd.len' {w : World} {v : Value} {l : List UInt8} (h : Rd w v l) : ∃ a n c, v = .slice a n c ∧ l.length = n := by
  obtain ⟨a, n, c, e, h1, -⟩ := h; exact ⟨a, n, c, e, h1⟩

theorem refuse_zero {s : PLg} {z N : Nat} {n : Int} (h : s.refuse z N n = 0) : sFits (z : Int) 128 n = true ∧ (s.fits z n = true ∨ s.goes z N = true) := by
  unfold PLg.refuse at h
  split at h
  · cases h
  · split at h
    · cases h
    · rename_i h2
      split at h
      · cases h
      · rename_i h3
        refine ⟨by simpa using h2, ?_⟩
        cases h4 : s.fits z n
        · cases h5 : s.goes z N
          · exact absurd ⟨h4, h5⟩ h3
          · exact .inr rfl
        · exact .inl rfl

theorem seal_same (s : PLg) (z : Nat) : (s.seal z).num = s.num ∧ (s.seal z).ch = s.ch ∧ (s.seal z).ts = s.ts := by
  unfold PLg.seal; split
  · exact ⟨rfl, rfl, rfl⟩
  · exact ⟨rfl, rfl, rfl⟩

theorem next_bounds (s : PLg) (z : Nat) (hc : s.ch.length = 32) : (s.seal z).next.used = 128 ∧ (s.seal z).next.tl.length ≤ s.tl.length + 48 + z + 128 ∧ (s.seal z).next.ts = s.ts := by
  obtain ⟨h1, h2, h3⟩ := seal_same s z
  have hl : (s.seal z).tl.length ≤ s.tl.length + 48 + z := by
    unfold PLg.seal; split
    · simp
    · unfold PLg.put
      dsimp only
      rw [List.length_append, List.length_append, List.length_replicate, sFoot_length _ _ hc]
      omega
  unfold PLg.next PLg.put
  dsimp only
  rw [sHead_length _ _ _ (by rw [h2]; exact hc), List.length_append, sHead_length _ _ _ (by rw [h2]; exact hc)]
  exact ⟨by omega, by omega, h3⟩

set_option maxHeartbeats 1000000 in
theorem lgAppend {w : World} {F : Nat → Prop} {p g frm N sz : Nat} {s : PLg} {vch vts vtl : Value} {ps : List (Value × List UInt8)} (h : LObj w F p g frm N sz s vch vts vtl ps) (hb : sz ≤ 1000) (hu : s.used ≤ 1000000) (hn : -1 ≤ s.num ∧ s.num ≤ 999) (hN : N ≤ 1000) (htl : s.tl.length ≤ 10000000) (hts : s.ts.length ≤ 1000000)
    (hla : ∀ w', Only F w w' → Laid w') (x : Value) (t : List UInt8) (hx : Rd w x t) (hxb : ∀ k, blk x = some k → ¬ F k) (hr : s.refuse (128 * sz) N (t.length : Int) = 0) :
    Calls Tryz.prog 12 #[.pointer (some ⟨p, 0, none⟩), x] w fun e w' => e = .returned .nilIface ∧ LogTo w F p g frm N sz (s.app (128 * sz) t) w' := by
  have HRe := lgRefusal h hb (by omega) (by omega) hN (t.length : Int)
  rw [hr] at HRe
  replace HRe := Lib.hid HRe
  obtain ⟨r1, r2⟩ := refuse_zero hr
  have hxl := hx.len'
  obtain ⟨ax, n, cx, rfl, hxn⟩ := hxl
  have HFi := Lib.hid (fun wx (hw : New w wx) => lgFits (h.new hw) hb (by omega) (n : Int))
  have HX0 := Lib.hid hx
  have HXB := Lib.hid hxb
  have HLa := Lib.hid hla
  have HL := Lib.hid h
  have HT0 : Hid (1 ≤ t.length ∧ t.length ≤ 65535) := Lib.hid (by
    unfold sFits at r1
    have := of_decide_eq_true r1
    omega)
  have HB0 : Hid (s.used ≤ 1000000 ∧ s.tl.length ≤ 10000000 ∧ s.ts.length ≤ 1000000 ∧ sz ≤ 1000 ∧ (-1 ≤ s.num ∧ s.num ≤ 999)) := Lib.hid ⟨hu, htl, hts, hb, hn⟩
  obtain ⟨f, Hf⟩ : ∃ f, Hid (s.fits (128 * sz) (n : Int) = f) := ⟨_, Lib.hid rfl⟩
  have HG : Hid (f = false → s.sealed = false → s.used + 48 ≤ 128 * sz) := Lib.hid (fun e1 e2 => by
    rw [hxn, Hf.out, e1] at r2
    rcases r2 with r2 | r2
    · cases r2
    · unfold PLg.goes at r2
      rw [e2] at r2
      simp only [Bool.false_or, Bool.and_eq_true, decide_eq_true_eq] at r2
      omega)
  have HAp : Hid (s.app (128 * sz) t = (if f = true then s else (s.seal (128 * sz)).next).add t) := Lib.hid (by unfold PLg.app; rw [hxn, Hf.out])
  rw [Hf.out] at HFi
  rw [hxn] at HRe
  have HXN := Lib.hid hxn
  clear h hb hu hn hN htl hts hla hx hxb hr r1 r2 hxn
  go_enter Tryz.func12, Tryz.ntmps12
  go_wp2_with fail
  refine HRe.out.mono ?_
  rintro _ wp ⟨rfl, Np⟩
  go_wp2_with fail
  refine (HFi.out wp Np).mono ?_
  rintro _ wq ⟨rfl, Nq⟩
  have HNq := Lib.hid (New.trans Np Nq)
  clear Np Nq HRe HFi
  cases f
  rotate_left
  · obtain ⟨s1, hs1⟩ : ∃ s1, s = s1 := ⟨_, rfl⟩
    have HS1 : Hid (s.app (128 * sz) t = s1.add t) := Lib.hid (by rw [HAp.out, ← hs1]; rfl)
    have HBd : Hid (s1.used ≤ 900000000 ∧ s1.tl.length ≤ 900000000) := Lib.hid (by rw [← hs1]; have := HB0.out; omega)
    have HTn : Hid (s1.ts.length ≤ 1000000 ∧ (1 ≤ t.length ∧ t.length ≤ 65535)) := Lib.hid ⟨by rw [← hs1]; exact HB0.out.2.2.1, HT0.out⟩
    have hL1 := (HL.out.new HNq.out).mono (G := fun k => F k ∨ w.heap.size ≤ k) (fun _ h => .inl h)
    rw [hs1] at hL1
    have HL1 := Lib.hid hL1
    obtain ⟨w1, hw1⟩ : ∃ w1, wq = w1 := ⟨_, rfl⟩
    rw [hw1] at HL1 HNq
    rw [hw1]
    have HO1 : Hid (Only F w w1) := Lib.hid (New.only HNq.out)
    have HX1 := Lib.hid (HX0.out.new HNq.out)
    clear hL1 hw1 HNq HB0 HAp HG HL Hf hs1
    have HLn := Lib.hid (HL1.out.narrow (G := fun k => (F k ∨ w.heap.size ≤ k) ∧ k < w1.heap.size) (fun k hk hf => ⟨hf, hk⟩))
    obtain ⟨ac, cc, rfl⟩ := HL1.out.vch_form
    have c7 := HL1.out.at_.cell 7 rfl
    have HFr : Hid (Calls Tryz.prog 36 #[.slice ac 32 cc, .slice ax n cx] w1 (FrameTo w1 (sFrame s1.ch t) (sNext s1.ch t))) := Lib.hid (by
      have := segFrame w1 _ _ s1.ch t HL1.out.rch HX1.out (HLa.out w1 HO1.out)
      rwa [if_pos ⟨HTn.out.2, HL1.out.chl⟩, if_pos ⟨HTn.out.2, HL1.out.chl⟩] at this)
    go_wp2_with fail
    refine HFr.out.mono ?_
    rintro _ w2 ⟨v, a2, n2, c2, rfl, hown, hrc, hcb, -, N2⟩
    obtain ⟨av, nv, cv, rfl⟩ := own_slice hown
    have HL2 := Lib.hid (HLn.out.new N2)
    have HFl : Hid ((sFrame s1.ch t).length = t.length + 40) := Lib.hid (sFrame_length _ _)
    have HPu := Lib.hid (lgPut HL2.out _ _ (Rd.of_own hown) (by rw [HFl.out]; have := HBd.out; have := HTn.out; omega) (by rw [HFl.out]; have := HBd.out; have := HTn.out; omega))
    have HRc := Lib.hid hrc
    have HCb := Lib.hid hcb
    have HO2 : Hid (Only F w w2) := Lib.hid (HO1.out.trans (New.only (F := F) N2) (fun _ _ h => h))
    have HX2 := Lib.hid (HX1.out.new N2)
    have HS12 : Hid (w1.heap.size ≤ w2.heap.size ∧ w.heap.size ≤ w1.heap.size) := Lib.hid ⟨N2.size, HO1.out.size⟩
    clear hown hrc hcb N2 HFr c7 HLn HL1 HO1 HX1
    go_wp2_with fail
    refine HPu.out.mono ?_
    rintro _ w3 ⟨rfl, ⟨vtl3, h3⟩, o3⟩
    have HL3 := Lib.hid h3
    have HRc3 := Lib.hid (HRc.out.only o3 (fun k hk _ hf => by have := HCb.out k hk; have := hf.2; omega))
    have HX3 := Lib.hid (HX2.out.only o3 (fun k hk hne hf => by
      have h1 := HXB.out k hk
      have h2 := HX0.out.lt hk hne
      rcases hf.1 with h | h
      · exact h1 h
      · omega))
    have HO3 : Hid (Only F w w3) := Lib.hid (HO2.out.back (o3.mono (fun k _ hk => hk.1)))
    have HS23 : Hid (w2.heap.size ≤ w3.heap.size) := Lib.hid o3.size
    have HPB : Hid (∀ k, blk (.slice a2 n2 c2) = some k → w1.heap.size ≤ k ∧ k < w2.heap.size) := Lib.hid (fun k hk => ⟨HCb.out k hk, HRc.out.lt hk (by intro e; have := sNext_length s1.ch t; rw [e] at this; simp at this)⟩)
    clear h3 o3 HPu HL2 HRc HX2 HO2 HCb
    -- the footprint that leaves the chain's block out
    have HL3n := Lib.hid (HL3.out.narrow (G := fun k => ((F k ∨ w.heap.size ≤ k) ∧ k < w1.heap.size) ∨ w2.heap.size ≤ k) (fun k hk hf => hf))
    have NW : New w3 w3.drew := (Below.refl _ _).drew
    have HLd := Lib.hid HL3.out.drew
    have HXd := Lib.hid (HX3.out.new NW)
    have HRd := Lib.hid (HRc3.out.new NW)
    have HOd : Hid (Only F w w3.drew) := Lib.hid HO3.out.drew
    have HSd : Hid (w2.heap.size ≤ w3.drew.heap.size) := HS23
    clear NW HL3 HL3n HX3 HRc3 HO3 HS23
    obtain ⟨at_, ct, rfl⟩ := HLd.out.vts_form
    go_upto_region 8 with fail
    refine region_ordT (fun _ => True) (.take 0 (.take 1 (.take 2 (.take 3 (.take 5 (.two 4 6 (.only 6 (.only 7 (.only 8 (.take 9 (.take 10 (.only 11 .nil)))))) (.two 4 7 (.only 7 (.only 8 (.take 9 (.take 10 (.only 11 .nil))))) (.only 4 (.only 8 (.take 9 (.take 10 (.only 11 .nil))))))))))) ) (by kernel_rfl) (by kernel_rfl) trivial (fun _ => ?_)
    generalize w3.drew = wd at *
    have HCl := Lib.hid (cloneOwn wd _ _ HXd.out (by have := HTn.out.2; omega))
    iterate 5 (apply ordT_take; (simp only [List.getElem?_toArray, List.getElem?_cons_succ, List.getElem?_cons_zero]; rfl); rfl; (intro w hSw; (try dsimp only at hSw); go_simp; try with_reducible rfl); intro _; try simp only [Act.put, List.setIfInBounds_toArray, List.set_cons_zero, List.set_cons_succ])
    (apply ordT_two; (simp only [List.getElem?_toArray, List.getElem?_cons_succ, List.getElem?_cons_zero]; rfl); rfl; (simp only [List.getElem?_toArray, List.getElem?_cons_succ, List.getElem?_cons_zero]; rfl); rfl)
    · intro K hK
      have c8 := HLd.out.at_.cell 8 rfl
      go_simp
      clear c8
      refine hK.out _ _ (trivial) (fun _ => ?_)
      clear hK K
      try simp only [Act.put, List.setIfInBounds_toArray, List.set_cons_zero, List.set_cons_succ]
      (apply ordT_only; (simp only [List.getElem?_toArray, List.getElem?_cons_succ, List.getElem?_cons_zero]; rfl); rfl; intro K hK)
      go_simp
      refine HCl.out.mono ?_
      rintro _ we ⟨u0, rfl, hw0, Ne⟩
      obtain ⟨a0, n0, c0, rfl⟩ := own_slice hw0
      have HLe := Lib.hid (HLd.out.new Ne)
      obtain ⟨i0, hi0, hz0, hz1, hz2⟩ := info_parts infoSl
      have hpl : ps.length = s1.ts.length := HLe.out.len
      obtain ⟨vts', wa, happ, hown', hO', hb', hlt'⟩ := run_append_u (P := Tryz.prog) 0 we 52 52 42 i0 _ 24 Tryz.underlying52 hi0 hz0 hz1 hz2 rfl _ ps.length (ps.map (·.1)) HLe.out.oT (.slice a0 n0 c0) rfl (by have := HTn.out; omega) (by have := HTn.out; omega) (Nat.zero_le _)
      clear hpl
      obtain ⟨at', ct', rfl, -, -⟩ := ownSl_form hown'
      obtain ⟨n1, Hn1⟩ : ∃ n1, Hid (ps.length + 1 = n1) := ⟨_, Lib.hid rfl⟩
      rw [Hn1.out] at happ hb' hlt'
      have hown2 : wa.ownsRow 0 42 1 (.slice at' n1 ct') (ps ++ [((.slice a0 n0 c0 : Value), t)]).length ((ps ++ [((.slice a0 n0 c0 : Value), t)]).map (·.1)) := by
        rw [Hn1.out] at hown'
        rw [List.length_append, List.map_append, show ps.length + [((.slice a0 n0 c0 : Value), t)].length = n1 from Hn1.out]; exact hown'
      have hnew : ∀ k, blk (.slice at' n1 ct') = some k → blk (.slice at_ ps.length ct) = some k ∨ we.heap.size ≤ k := fun k hk => by
        rcases hb' with e | ⟨j, e, hj⟩
        · exact .inl (by rw [← e]; exact hk)
        · rw [e] at hk; cases hk; exact .inr hj
      have hwe : w2.heap.size ≤ we.heap.size := Nat.le_trans HSd.out Ne.size
      have hcl0 := own_from hw0
      obtain ⟨hT, hTO⟩ := HLe.out.setTs hO' (qs := [(.slice a0 n0 c0, t)]) hown2 hnew (fun k hk => (hnew k hk).elim (fun e => HLe.out.fts k e) (fun e => .inr (Nat.le_trans hwe e)))
        (fun q hq => by rw [List.mem_singleton.1 hq]; exact Rd.of_own hw0) (fun q hq _ k hk => by
          rw [List.mem_singleton.1 hq] at hk
          have h1 := hcl0 k hk
          refine ⟨fun e => ?_, fun e => ?_, fun e => ?_, .inr (Nat.le_trans HSd.out h1)⟩
          · have := HLd.out.at_.lt; omega
          · have := own_lt15 HLd.out.oT k e; omega
          · have := own_lt15 HLd.out.oL k e; omega)
      have hch := ((HRd.out.new Ne).only hO' (fun k hk _ e => by
        have h1 := HPB.out k hk
        rcases HLe.out.fts k e with h | h <;> omega)).only (only_cell wa p 8 (.slice at' n1 ct')) (fun k hk _ e => by
        have h1 := HPB.out k hk
        rw [e] at h1
        rcases HLe.out.fp with h | h <;> omega)
      have hC := (hT.mono (G := fun k => F k ∨ w.heap.size ≤ k) (fun k hk => hk.elim (fun h => h.1) (fun h => .inr (by have := HS12.out; omega)))).setCh hch (sNext_length _ _) (fun k hk => by
        have h1 := HPB.out k hk
        refine ⟨fun e => ?_, fun e => ?_, fun e => ?_⟩
        · rw [e] at h1; rcases hT.fp with h | h <;> omega
        · rcases hT.fts k e with h | h <;> omega
        · rcases hT.ftl k e with h | h <;> omega) (fun k hk => .inr (by have := HPB.out k hk; have := HS12.out; omega))
      have hE : PLg.add s1 t = ⟨s1.num, s1.used + (sFrame s1.ch t).length, s1.sealed, sNext s1.ch t, s1.ts ++ [t], s1.sure, s1.tl ++ sFrame s1.ch t, s1.dead⟩ := by unfold PLg.add; rw [sFrame_length]
      have HC : Hid (LObj ((wa.setCell ⟨p, 8, none⟩ (.slice at' n1 ct')).setCell ⟨p, 7, none⟩ (.slice a2 n2 c2)) (fun k => F k ∨ w.heap.size ≤ k) p g frm N sz (s1.add t) (.slice a2 n2 c2) (.slice at' n1 ct') vtl3 (ps ++ [(.slice a0 n0 c0, t)])) := Lib.hid (by rw [hE]; exact hC)
      have HAPP := Lib.hid happ
      have HAa := Lib.hid (HLe.out.at_.only hO' (fun e => HLe.out.neT.1 e))
      have HTa := Lib.hid hT.at_
      have HOz : Hid (Only F w ((wa.setCell ⟨p, 8, none⟩ (.slice at' n1 ct')).setCell ⟨p, 7, none⟩ (.slice a2 n2 c2))) := Lib.hid (by
        refine ((HOd.out.trans (New.only (F := F) Ne) (fun _ _ h => h)).trans hTO (fun k hk e => ?_)).trans (only_cell _ _ _ _) (fun k hk e => ?_)
        · have h2 := HS12.out
          rcases e with e | e
          · rw [e] at hk ⊢
            rcases HLe.out.fp with h | h
            · rcases h.1 with h | h
              · exact h
              · omega
            · omega
          · rcases HLe.out.fts k e with h | h
            · rcases h.1 with h | h
              · exact h
              · omega
            · omega
        · have h2 := HS12.out
          rw [e] at hk ⊢
          rcases HLe.out.fp with h | h
          · rcases h.1 with h | h
            · exact h
            · omega
          · omega)
      have HLf := Lib.hid (HLe.out.new ((Below.refl _ we).alloc (Nat.le_refl _) (.cells #[.slice a0 n0 c0] 42)))
      clear hw0 Ne hi0 hz0 hz1 hz2 happ hown' hown2 hnew hwe hcl0 hT hTO hch hC hE hO' hb' hlt' HRd HPB HOd HS12 HSd HCl
      refine hK.out _ _ (trivial) (fun _ => ?_)
      clear hK K
      try simp only [Act.put, List.setIfInBounds_toArray, List.set_cons_zero, List.set_cons_succ]
      (apply ordT_only; (simp only [List.getElem?_toArray, List.getElem?_cons_succ, List.getElem?_cons_zero]; rfl); rfl; intro K hK)
      go_simp
      refine hK.out _ _ (trivial) (fun _ => ?_)
      clear hK K
      try simp only [Act.put, List.setIfInBounds_toArray, List.set_cons_zero, List.set_cons_succ]
      (apply ordT_only; (simp only [List.getElem?_toArray, List.getElem?_cons_succ, List.getElem?_cons_zero]; rfl); rfl; intro K hK)
      refine oper_append _ _ 52 rfl _ _ rfl rfl HAPP.out ?_
      refine hK.out _ _ (trivial) (fun _ => ?_)
      clear hK K
      try simp only [Act.put, List.setIfInBounds_toArray, List.set_cons_zero, List.set_cons_succ]
      iterate 2 (apply ordT_take; (simp only [List.getElem?_toArray, List.getElem?_cons_succ, List.getElem?_cons_zero]; rfl); rfl; (intro w hSw; (try dsimp only at hSw); go_simp; try with_reducible rfl); intro _; try simp only [Act.put, List.setIfInBounds_toArray, List.set_cons_zero, List.set_cons_succ])
      (apply ordT_only; (simp only [List.getElem?_toArray, List.getElem?_cons_succ, List.getElem?_cons_zero]; rfl); rfl; intro K hK)
      have y8 := HAa.out.cell 8 rfl
      have f8 := HAa.out.frozen 8
      go_simp
      clear y8 f8
      refine hK.out _ _ (trivial) (fun _ => ?_)
      clear hK K
      try simp only [Act.put, List.setIfInBounds_toArray, List.set_cons_zero, List.set_cons_succ]
      apply ordT_done
      have y7 := HTa.out.cell 7 rfl
      have f7 := HTa.out.frozen 7
      clear HAPP HAa HLd HXd HLe HLf
      go_wp2
      go_ret
      rw [HS1.out]
      exact ⟨rfl, ⟨_, _, _, _, HC.out⟩, HOz.out⟩
    · intro K hK
      go_simp
      refine HCl.out.mono ?_
      rintro _ we ⟨u0, rfl, hw0, Ne⟩
      obtain ⟨a0, n0, c0, rfl⟩ := own_slice hw0
      have HLe := Lib.hid (HLd.out.new Ne)
      obtain ⟨i0, hi0, hz0, hz1, hz2⟩ := info_parts infoSl
      have hpl : ps.length = s1.ts.length := HLe.out.len
      obtain ⟨vts', wa, happ, hown', hO', hb', hlt'⟩ := run_append_u (P := Tryz.prog) 0 we 52 52 42 i0 _ 24 Tryz.underlying52 hi0 hz0 hz1 hz2 rfl _ ps.length (ps.map (·.1)) HLe.out.oT (.slice a0 n0 c0) rfl (by have := HTn.out; omega) (by have := HTn.out; omega) (Nat.zero_le _)
      clear hpl
      obtain ⟨at', ct', rfl, -, -⟩ := ownSl_form hown'
      obtain ⟨n1, Hn1⟩ : ∃ n1, Hid (ps.length + 1 = n1) := ⟨_, Lib.hid rfl⟩
      rw [Hn1.out] at happ hb' hlt'
      have hown2 : wa.ownsRow 0 42 1 (.slice at' n1 ct') (ps ++ [((.slice a0 n0 c0 : Value), t)]).length ((ps ++ [((.slice a0 n0 c0 : Value), t)]).map (·.1)) := by
        rw [Hn1.out] at hown'
        rw [List.length_append, List.map_append, show ps.length + [((.slice a0 n0 c0 : Value), t)].length = n1 from Hn1.out]; exact hown'
      have hnew : ∀ k, blk (.slice at' n1 ct') = some k → blk (.slice at_ ps.length ct) = some k ∨ we.heap.size ≤ k := fun k hk => by
        rcases hb' with e | ⟨j, e, hj⟩
        · exact .inl (by rw [← e]; exact hk)
        · rw [e] at hk; cases hk; exact .inr hj
      have hwe : w2.heap.size ≤ we.heap.size := Nat.le_trans HSd.out Ne.size
      have hcl0 := own_from hw0
      obtain ⟨hT, hTO⟩ := HLe.out.setTs hO' (qs := [(.slice a0 n0 c0, t)]) hown2 hnew (fun k hk => (hnew k hk).elim (fun e => HLe.out.fts k e) (fun e => .inr (Nat.le_trans hwe e)))
        (fun q hq => by rw [List.mem_singleton.1 hq]; exact Rd.of_own hw0) (fun q hq _ k hk => by
          rw [List.mem_singleton.1 hq] at hk
          have h1 := hcl0 k hk
          refine ⟨fun e => ?_, fun e => ?_, fun e => ?_, .inr (Nat.le_trans HSd.out h1)⟩
          · have := HLd.out.at_.lt; omega
          · have := own_lt15 HLd.out.oT k e; omega
          · have := own_lt15 HLd.out.oL k e; omega)
      have hch := ((HRd.out.new Ne).only hO' (fun k hk _ e => by
        have h1 := HPB.out k hk
        rcases HLe.out.fts k e with h | h <;> omega)).only (only_cell wa p 8 (.slice at' n1 ct')) (fun k hk _ e => by
        have h1 := HPB.out k hk
        rw [e] at h1
        rcases HLe.out.fp with h | h <;> omega)
      have hC := (hT.mono (G := fun k => F k ∨ w.heap.size ≤ k) (fun k hk => hk.elim (fun h => h.1) (fun h => .inr (by have := HS12.out; omega)))).setCh hch (sNext_length _ _) (fun k hk => by
        have h1 := HPB.out k hk
        refine ⟨fun e => ?_, fun e => ?_, fun e => ?_⟩
        · rw [e] at h1; rcases hT.fp with h | h <;> omega
        · rcases hT.fts k e with h | h <;> omega
        · rcases hT.ftl k e with h | h <;> omega) (fun k hk => .inr (by have := HPB.out k hk; have := HS12.out; omega))
      have hE : PLg.add s1 t = ⟨s1.num, s1.used + (sFrame s1.ch t).length, s1.sealed, sNext s1.ch t, s1.ts ++ [t], s1.sure, s1.tl ++ sFrame s1.ch t, s1.dead⟩ := by unfold PLg.add; rw [sFrame_length]
      have HC : Hid (LObj ((wa.setCell ⟨p, 8, none⟩ (.slice at' n1 ct')).setCell ⟨p, 7, none⟩ (.slice a2 n2 c2)) (fun k => F k ∨ w.heap.size ≤ k) p g frm N sz (s1.add t) (.slice a2 n2 c2) (.slice at' n1 ct') vtl3 (ps ++ [(.slice a0 n0 c0, t)])) := Lib.hid (by rw [hE]; exact hC)
      have HAPP := Lib.hid happ
      have HAa := Lib.hid (HLe.out.at_.only hO' (fun e => HLe.out.neT.1 e))
      have HTa := Lib.hid hT.at_
      have HOz : Hid (Only F w ((wa.setCell ⟨p, 8, none⟩ (.slice at' n1 ct')).setCell ⟨p, 7, none⟩ (.slice a2 n2 c2))) := Lib.hid (by
        refine ((HOd.out.trans (New.only (F := F) Ne) (fun _ _ h => h)).trans hTO (fun k hk e => ?_)).trans (only_cell _ _ _ _) (fun k hk e => ?_)
        · have h2 := HS12.out
          rcases e with e | e
          · rw [e] at hk ⊢
            rcases HLe.out.fp with h | h
            · rcases h.1 with h | h
              · exact h
              · omega
            · omega
          · rcases HLe.out.fts k e with h | h
            · rcases h.1 with h | h
              · exact h
              · omega
            · omega
        · have h2 := HS12.out
          rw [e] at hk ⊢
          rcases HLe.out.fp with h | h
          · rcases h.1 with h | h
            · exact h
            · omega
          · omega)
      have HLf := Lib.hid (HLe.out.new ((Below.refl _ we).alloc (Nat.le_refl _) (.cells #[.slice a0 n0 c0] 42)))
      clear hw0 Ne hi0 hz0 hz1 hz2 happ hown' hown2 hnew hwe hcl0 hT hTO hch hC hE hO' hb' hlt' HRd HPB HOd HS12 HSd HCl
      refine hK.out _ _ (trivial) (fun _ => ?_)
      clear hK K
      try simp only [Act.put, List.setIfInBounds_toArray, List.set_cons_zero, List.set_cons_succ]
      (apply ordT_two; (simp only [List.getElem?_toArray, List.getElem?_cons_succ, List.getElem?_cons_zero]; rfl); rfl; (simp only [List.getElem?_toArray, List.getElem?_cons_succ, List.getElem?_cons_zero]; rfl); rfl)
      · intro K hK
        have c8 := HLe.out.at_.cell 8 rfl
        go_simp
        clear c8
        refine hK.out _ _ (trivial) (fun _ => ?_)
        clear hK K
        try simp only [Act.put, List.setIfInBounds_toArray, List.set_cons_zero, List.set_cons_succ]
        (apply ordT_only; (simp only [List.getElem?_toArray, List.getElem?_cons_succ, List.getElem?_cons_zero]; rfl); rfl; intro K hK)
        go_simp
        refine hK.out _ _ (trivial) (fun _ => ?_)
        clear hK K
        try simp only [Act.put, List.setIfInBounds_toArray, List.set_cons_zero, List.set_cons_succ]
        (apply ordT_only; (simp only [List.getElem?_toArray, List.getElem?_cons_succ, List.getElem?_cons_zero]; rfl); rfl; intro K hK)
        refine oper_append _ _ 52 rfl _ _ rfl rfl HAPP.out ?_
        refine hK.out _ _ (trivial) (fun _ => ?_)
        clear hK K
        try simp only [Act.put, List.setIfInBounds_toArray, List.set_cons_zero, List.set_cons_succ]
        iterate 2 (apply ordT_take; (simp only [List.getElem?_toArray, List.getElem?_cons_succ, List.getElem?_cons_zero]; rfl); rfl; (intro w hSw; (try dsimp only at hSw); go_simp; try with_reducible rfl); intro _; try simp only [Act.put, List.setIfInBounds_toArray, List.set_cons_zero, List.set_cons_succ])
        (apply ordT_only; (simp only [List.getElem?_toArray, List.getElem?_cons_succ, List.getElem?_cons_zero]; rfl); rfl; intro K hK)
        have y8 := HAa.out.cell 8 rfl
        have f8 := HAa.out.frozen 8
        go_simp
        clear y8 f8
        refine hK.out _ _ (trivial) (fun _ => ?_)
        clear hK K
        try simp only [Act.put, List.setIfInBounds_toArray, List.set_cons_zero, List.set_cons_succ]
        apply ordT_done
        have y7 := HTa.out.cell 7 rfl
        have f7 := HTa.out.frozen 7
        clear HAPP HAa HLd HXd HLe HLf
        go_wp2
        go_ret
        rw [HS1.out]
        exact ⟨rfl, ⟨_, _, _, _, HC.out⟩, HOz.out⟩
      · intro K hK
        go_simp
        refine hK.out _ _ (trivial) (fun _ => ?_)
        clear hK K
        try simp only [Act.put, List.setIfInBounds_toArray, List.set_cons_zero, List.set_cons_succ]
        (apply ordT_only; (simp only [List.getElem?_toArray, List.getElem?_cons_succ, List.getElem?_cons_zero]; rfl); rfl; intro K hK)
        have c8 := HLf.out.at_.cell 8 rfl
        go_simp
        clear c8
        refine hK.out _ _ (trivial) (fun _ => ?_)
        clear hK K
        try simp only [Act.put, List.setIfInBounds_toArray, List.set_cons_zero, List.set_cons_succ]
        (apply ordT_only; (simp only [List.getElem?_toArray, List.getElem?_cons_succ, List.getElem?_cons_zero]; rfl); rfl; intro K hK)
        refine oper_append _ _ 52 rfl _ _ rfl rfl HAPP.out ?_
        refine hK.out _ _ (trivial) (fun _ => ?_)
        clear hK K
        try simp only [Act.put, List.setIfInBounds_toArray, List.set_cons_zero, List.set_cons_succ]
        iterate 2 (apply ordT_take; (simp only [List.getElem?_toArray, List.getElem?_cons_succ, List.getElem?_cons_zero]; rfl); rfl; (intro w hSw; (try dsimp only at hSw); go_simp; try with_reducible rfl); intro _; try simp only [Act.put, List.setIfInBounds_toArray, List.set_cons_zero, List.set_cons_succ])
        (apply ordT_only; (simp only [List.getElem?_toArray, List.getElem?_cons_succ, List.getElem?_cons_zero]; rfl); rfl; intro K hK)
        have y8 := HAa.out.cell 8 rfl
        have f8 := HAa.out.frozen 8
        go_simp
        clear y8 f8
        refine hK.out _ _ (trivial) (fun _ => ?_)
        clear hK K
        try simp only [Act.put, List.setIfInBounds_toArray, List.set_cons_zero, List.set_cons_succ]
        apply ordT_done
        have y7 := HTa.out.cell 7 rfl
        have f7 := HTa.out.frozen 7
        clear HAPP HAa HLd HXd HLe HLf
        go_wp2
        go_ret
        rw [HS1.out]
        exact ⟨rfl, ⟨_, _, _, _, HC.out⟩, HOz.out⟩
  · have HBe := lgBegin (HL.out.new HNq.out) HB0.out.2.2.2.1 (by have := HB0.out; omega) (HG.out rfl) (by have := HB0.out; omega)
    replace HBe := Lib.hid HBe
    have HC32 := Lib.hid HL.out.chl
    go_wp2_with fail
    refine HBe.out.mono ?_
    rintro _ w1 ⟨rfl, ⟨vch, vts, vtl, ps, hl1⟩, ho1⟩
    obtain ⟨s1, hs1⟩ : ∃ s1, (s.seal (128 * sz)).next = s1 := ⟨_, rfl⟩
    have HS1 : Hid (s.app (128 * sz) t = s1.add t) := Lib.hid (by rw [HAp.out, ← hs1]; rfl)
    have hnx := next_bounds s (128 * sz) HC32.out
    have HBd : Hid (s1.used ≤ 900000000 ∧ s1.tl.length ≤ 900000000) := Lib.hid (by rw [← hs1]; have := HB0.out; omega)
    have HTn : Hid (s1.ts.length ≤ 1000000 ∧ (1 ≤ t.length ∧ t.length ≤ 65535)) := Lib.hid ⟨by rw [← hs1, hnx.2.2]; exact HB0.out.2.2.1, HT0.out⟩
    have hL1 := hl1.narrow (G := fun k => F k ∨ w.heap.size ≤ k) (fun k _ hk => hk.elim .inl (fun h => .inr (Nat.le_trans HNq.out.size h)))
    rw [hs1] at hL1
    have HL1 := Lib.hid hL1
    have HO1 : Hid (Only F w w1) := Lib.hid ((New.only (F := F) HNq.out).trans ho1 (fun _ _ h => h))
    have HX1 := Lib.hid ((HX0.out.new HNq.out).only ho1 (fun k hk _ => HXB.out k hk))
    clear hL1 hl1 ho1 HNq HB0 HAp HG HL Hf hnx HC32 HBe hs1
    have HLn := Lib.hid (HL1.out.narrow (G := fun k => (F k ∨ w.heap.size ≤ k) ∧ k < w1.heap.size) (fun k hk hf => ⟨hf, hk⟩))
    obtain ⟨ac, cc, rfl⟩ := HL1.out.vch_form
    have c7 := HL1.out.at_.cell 7 rfl
    have HFr : Hid (Calls Tryz.prog 36 #[.slice ac 32 cc, .slice ax n cx] w1 (FrameTo w1 (sFrame s1.ch t) (sNext s1.ch t))) := Lib.hid (by
      have := segFrame w1 _ _ s1.ch t HL1.out.rch HX1.out (HLa.out w1 HO1.out)
      rwa [if_pos ⟨HTn.out.2, HL1.out.chl⟩, if_pos ⟨HTn.out.2, HL1.out.chl⟩] at this)
    go_wp2_with fail
    refine HFr.out.mono ?_
    rintro _ w2 ⟨v, a2, n2, c2, rfl, hown, hrc, hcb, -, N2⟩
    obtain ⟨av, nv, cv, rfl⟩ := own_slice hown
    have HL2 := Lib.hid (HLn.out.new N2)
    have HFl : Hid ((sFrame s1.ch t).length = t.length + 40) := Lib.hid (sFrame_length _ _)
    have HPu := Lib.hid (lgPut HL2.out _ _ (Rd.of_own hown) (by rw [HFl.out]; have := HBd.out; have := HTn.out; omega) (by rw [HFl.out]; have := HBd.out; have := HTn.out; omega))
    have HRc := Lib.hid hrc
    have HCb := Lib.hid hcb
    have HO2 : Hid (Only F w w2) := Lib.hid (HO1.out.trans (New.only (F := F) N2) (fun _ _ h => h))
    have HX2 := Lib.hid (HX1.out.new N2)
    have HS12 : Hid (w1.heap.size ≤ w2.heap.size ∧ w.heap.size ≤ w1.heap.size) := Lib.hid ⟨N2.size, HO1.out.size⟩
    clear hown hrc hcb N2 HFr c7 HLn HL1 HO1 HX1
    go_wp2_with fail
    refine HPu.out.mono ?_
    rintro _ w3 ⟨rfl, ⟨vtl3, h3⟩, o3⟩
    have HL3 := Lib.hid h3
    have HRc3 := Lib.hid (HRc.out.only o3 (fun k hk _ hf => by have := HCb.out k hk; have := hf.2; omega))
    have HX3 := Lib.hid (HX2.out.only o3 (fun k hk hne hf => by
      have h1 := HXB.out k hk
      have h2 := HX0.out.lt hk hne
      rcases hf.1 with h | h
      · exact h1 h
      · omega))
    have HO3 : Hid (Only F w w3) := Lib.hid (HO2.out.back (o3.mono (fun k _ hk => hk.1)))
    have HS23 : Hid (w2.heap.size ≤ w3.heap.size) := Lib.hid o3.size
    have HPB : Hid (∀ k, blk (.slice a2 n2 c2) = some k → w1.heap.size ≤ k ∧ k < w2.heap.size) := Lib.hid (fun k hk => ⟨HCb.out k hk, HRc.out.lt hk (by intro e; have := sNext_length s1.ch t; rw [e] at this; simp at this)⟩)
    clear h3 o3 HPu HL2 HRc HX2 HO2 HCb
    -- the footprint that leaves the chain's block out
    have HL3n := Lib.hid (HL3.out.narrow (G := fun k => ((F k ∨ w.heap.size ≤ k) ∧ k < w1.heap.size) ∨ w2.heap.size ≤ k) (fun k hk hf => hf))
    have NW : New w3 w3.drew := (Below.refl _ _).drew
    have HLd := Lib.hid HL3.out.drew
    have HXd := Lib.hid (HX3.out.new NW)
    have HRd := Lib.hid (HRc3.out.new NW)
    have HOd : Hid (Only F w w3.drew) := Lib.hid HO3.out.drew
    have HSd : Hid (w2.heap.size ≤ w3.drew.heap.size) := HS23
    clear NW HL3 HL3n HX3 HRc3 HO3 HS23
    obtain ⟨at_, ct, rfl⟩ := HLd.out.vts_form
    go_upto_region 8 with fail
    refine region_ordT (fun _ => True) (.take 0 (.take 1 (.take 2 (.take 3 (.take 5 (.two 4 6 (.only 6 (.only 7 (.only 8 (.take 9 (.take 10 (.only 11 .nil)))))) (.two 4 7 (.only 7 (.only 8 (.take 9 (.take 10 (.only 11 .nil))))) (.only 4 (.only 8 (.take 9 (.take 10 (.only 11 .nil))))))))))) ) (by kernel_rfl) (by kernel_rfl) trivial (fun _ => ?_)
    generalize w3.drew = wd at *
    have HCl := Lib.hid (cloneOwn wd _ _ HXd.out (by have := HTn.out.2; omega))
    iterate 5 (apply ordT_take; (simp only [List.getElem?_toArray, List.getElem?_cons_succ, List.getElem?_cons_zero]; rfl); rfl; (intro w hSw; (try dsimp only at hSw); go_simp; try with_reducible rfl); intro _; try simp only [Act.put, List.setIfInBounds_toArray, List.set_cons_zero, List.set_cons_succ])
    (apply ordT_two; (simp only [List.getElem?_toArray, List.getElem?_cons_succ, List.getElem?_cons_zero]; rfl); rfl; (simp only [List.getElem?_toArray, List.getElem?_cons_succ, List.getElem?_cons_zero]; rfl); rfl)
    · intro K hK
      have c8 := HLd.out.at_.cell 8 rfl
      go_simp
      clear c8
      refine hK.out _ _ (trivial) (fun _ => ?_)
      clear hK K
      try simp only [Act.put, List.setIfInBounds_toArray, List.set_cons_zero, List.set_cons_succ]
      (apply ordT_only; (simp only [List.getElem?_toArray, List.getElem?_cons_succ, List.getElem?_cons_zero]; rfl); rfl; intro K hK)
      go_simp
      refine HCl.out.mono ?_
      rintro _ we ⟨u0, rfl, hw0, Ne⟩
      obtain ⟨a0, n0, c0, rfl⟩ := own_slice hw0
      have HLe := Lib.hid (HLd.out.new Ne)
      obtain ⟨i0, hi0, hz0, hz1, hz2⟩ := info_parts infoSl
      have hpl : ps.length = s1.ts.length := HLe.out.len
      obtain ⟨vts', wa, happ, hown', hO', hb', hlt'⟩ := run_append_u (P := Tryz.prog) 0 we 52 52 42 i0 _ 24 Tryz.underlying52 hi0 hz0 hz1 hz2 rfl _ ps.length (ps.map (·.1)) HLe.out.oT (.slice a0 n0 c0) rfl (by have := HTn.out; omega) (by have := HTn.out; omega) (Nat.zero_le _)
      clear hpl
      obtain ⟨at', ct', rfl, -, -⟩ := ownSl_form hown'
      obtain ⟨n1, Hn1⟩ : ∃ n1, Hid (ps.length + 1 = n1) := ⟨_, Lib.hid rfl⟩
      rw [Hn1.out] at happ hb' hlt'
      have hown2 : wa.ownsRow 0 42 1 (.slice at' n1 ct') (ps ++ [((.slice a0 n0 c0 : Value), t)]).length ((ps ++ [((.slice a0 n0 c0 : Value), t)]).map (·.1)) := by
        rw [Hn1.out] at hown'
        rw [List.length_append, List.map_append, show ps.length + [((.slice a0 n0 c0 : Value), t)].length = n1 from Hn1.out]; exact hown'
      have hnew : ∀ k, blk (.slice at' n1 ct') = some k → blk (.slice at_ ps.length ct) = some k ∨ we.heap.size ≤ k := fun k hk => by
        rcases hb' with e | ⟨j, e, hj⟩
        · exact .inl (by rw [← e]; exact hk)
        · rw [e] at hk; cases hk; exact .inr hj
      have hwe : w2.heap.size ≤ we.heap.size := Nat.le_trans HSd.out Ne.size
      have hcl0 := own_from hw0
      obtain ⟨hT, hTO⟩ := HLe.out.setTs hO' (qs := [(.slice a0 n0 c0, t)]) hown2 hnew (fun k hk => (hnew k hk).elim (fun e => HLe.out.fts k e) (fun e => .inr (Nat.le_trans hwe e)))
        (fun q hq => by rw [List.mem_singleton.1 hq]; exact Rd.of_own hw0) (fun q hq _ k hk => by
          rw [List.mem_singleton.1 hq] at hk
          have h1 := hcl0 k hk
          refine ⟨fun e => ?_, fun e => ?_, fun e => ?_, .inr (Nat.le_trans HSd.out h1)⟩
          · have := HLd.out.at_.lt; omega
          · have := own_lt15 HLd.out.oT k e; omega
          · have := own_lt15 HLd.out.oL k e; omega)
      have hch := ((HRd.out.new Ne).only hO' (fun k hk _ e => by
        have h1 := HPB.out k hk
        rcases HLe.out.fts k e with h | h <;> omega)).only (only_cell wa p 8 (.slice at' n1 ct')) (fun k hk _ e => by
        have h1 := HPB.out k hk
        rw [e] at h1
        rcases HLe.out.fp with h | h <;> omega)
      have hC := (hT.mono (G := fun k => F k ∨ w.heap.size ≤ k) (fun k hk => hk.elim (fun h => h.1) (fun h => .inr (by have := HS12.out; omega)))).setCh hch (sNext_length _ _) (fun k hk => by
        have h1 := HPB.out k hk
        refine ⟨fun e => ?_, fun e => ?_, fun e => ?_⟩
        · rw [e] at h1; rcases hT.fp with h | h <;> omega
        · rcases hT.fts k e with h | h <;> omega
        · rcases hT.ftl k e with h | h <;> omega) (fun k hk => .inr (by have := HPB.out k hk; have := HS12.out; omega))
      have hE : PLg.add s1 t = ⟨s1.num, s1.used + (sFrame s1.ch t).length, s1.sealed, sNext s1.ch t, s1.ts ++ [t], s1.sure, s1.tl ++ sFrame s1.ch t, s1.dead⟩ := by unfold PLg.add; rw [sFrame_length]
      have HC : Hid (LObj ((wa.setCell ⟨p, 8, none⟩ (.slice at' n1 ct')).setCell ⟨p, 7, none⟩ (.slice a2 n2 c2)) (fun k => F k ∨ w.heap.size ≤ k) p g frm N sz (s1.add t) (.slice a2 n2 c2) (.slice at' n1 ct') vtl3 (ps ++ [(.slice a0 n0 c0, t)])) := Lib.hid (by rw [hE]; exact hC)
      have HAPP := Lib.hid happ
      have HAa := Lib.hid (HLe.out.at_.only hO' (fun e => HLe.out.neT.1 e))
      have HTa := Lib.hid hT.at_
      have HOz : Hid (Only F w ((wa.setCell ⟨p, 8, none⟩ (.slice at' n1 ct')).setCell ⟨p, 7, none⟩ (.slice a2 n2 c2))) := Lib.hid (by
        refine ((HOd.out.trans (New.only (F := F) Ne) (fun _ _ h => h)).trans hTO (fun k hk e => ?_)).trans (only_cell _ _ _ _) (fun k hk e => ?_)
        · have h2 := HS12.out
          rcases e with e | e
          · rw [e] at hk ⊢
            rcases HLe.out.fp with h | h
            · rcases h.1 with h | h
              · exact h
              · omega
            · omega
          · rcases HLe.out.fts k e with h | h
            · rcases h.1 with h | h
              · exact h
              · omega
            · omega
        · have h2 := HS12.out
          rw [e] at hk ⊢
          rcases HLe.out.fp with h | h
          · rcases h.1 with h | h
            · exact h
            · omega
          · omega)
      have HLf := Lib.hid (HLe.out.new ((Below.refl _ we).alloc (Nat.le_refl _) (.cells #[.slice a0 n0 c0] 42)))
      clear hw0 Ne hi0 hz0 hz1 hz2 happ hown' hown2 hnew hwe hcl0 hT hTO hch hC hE hO' hb' hlt' HRd HPB HOd HS12 HSd HCl
      refine hK.out _ _ (trivial) (fun _ => ?_)
      clear hK K
      try simp only [Act.put, List.setIfInBounds_toArray, List.set_cons_zero, List.set_cons_succ]
      (apply ordT_only; (simp only [List.getElem?_toArray, List.getElem?_cons_succ, List.getElem?_cons_zero]; rfl); rfl; intro K hK)
      go_simp
      refine hK.out _ _ (trivial) (fun _ => ?_)
      clear hK K
      try simp only [Act.put, List.setIfInBounds_toArray, List.set_cons_zero, List.set_cons_succ]
      (apply ordT_only; (simp only [List.getElem?_toArray, List.getElem?_cons_succ, List.getElem?_cons_zero]; rfl); rfl; intro K hK)
      refine oper_append _ _ 52 rfl _ _ rfl rfl HAPP.out ?_
      refine hK.out _ _ (trivial) (fun _ => ?_)
      clear hK K
      try simp only [Act.put, List.setIfInBounds_toArray, List.set_cons_zero, List.set_cons_succ]
      iterate 2 (apply ordT_take; (simp only [List.getElem?_toArray, List.getElem?_cons_succ, List.getElem?_cons_zero]; rfl); rfl; (intro w hSw; (try dsimp only at hSw); go_simp; try with_reducible rfl); intro _; try simp only [Act.put, List.setIfInBounds_toArray, List.set_cons_zero, List.set_cons_succ])
      (apply ordT_only; (simp only [List.getElem?_toArray, List.getElem?_cons_succ, List.getElem?_cons_zero]; rfl); rfl; intro K hK)
      have y8 := HAa.out.cell 8 rfl
      have f8 := HAa.out.frozen 8
      go_simp
      clear y8 f8
      refine hK.out _ _ (trivial) (fun _ => ?_)
      clear hK K
      try simp only [Act.put, List.setIfInBounds_toArray, List.set_cons_zero, List.set_cons_succ]
      apply ordT_done
      have y7 := HTa.out.cell 7 rfl
      have f7 := HTa.out.frozen 7
      clear HAPP HAa HLd HXd HLe HLf
      go_wp2
      go_ret
      rw [HS1.out]
      exact ⟨rfl, ⟨_, _, _, _, HC.out⟩, HOz.out⟩
    · intro K hK
      go_simp
      refine HCl.out.mono ?_
      rintro _ we ⟨u0, rfl, hw0, Ne⟩
      obtain ⟨a0, n0, c0, rfl⟩ := own_slice hw0
      have HLe := Lib.hid (HLd.out.new Ne)
      obtain ⟨i0, hi0, hz0, hz1, hz2⟩ := info_parts infoSl
      have hpl : ps.length = s1.ts.length := HLe.out.len
      obtain ⟨vts', wa, happ, hown', hO', hb', hlt'⟩ := run_append_u (P := Tryz.prog) 0 we 52 52 42 i0 _ 24 Tryz.underlying52 hi0 hz0 hz1 hz2 rfl _ ps.length (ps.map (·.1)) HLe.out.oT (.slice a0 n0 c0) rfl (by have := HTn.out; omega) (by have := HTn.out; omega) (Nat.zero_le _)
      clear hpl
      obtain ⟨at', ct', rfl, -, -⟩ := ownSl_form hown'
      obtain ⟨n1, Hn1⟩ : ∃ n1, Hid (ps.length + 1 = n1) := ⟨_, Lib.hid rfl⟩
      rw [Hn1.out] at happ hb' hlt'
      have hown2 : wa.ownsRow 0 42 1 (.slice at' n1 ct') (ps ++ [((.slice a0 n0 c0 : Value), t)]).length ((ps ++ [((.slice a0 n0 c0 : Value), t)]).map (·.1)) := by
        rw [Hn1.out] at hown'
        rw [List.length_append, List.map_append, show ps.length + [((.slice a0 n0 c0 : Value), t)].length = n1 from Hn1.out]; exact hown'
      have hnew : ∀ k, blk (.slice at' n1 ct') = some k → blk (.slice at_ ps.length ct) = some k ∨ we.heap.size ≤ k := fun k hk => by
        rcases hb' with e | ⟨j, e, hj⟩
        · exact .inl (by rw [← e]; exact hk)
        · rw [e] at hk; cases hk; exact .inr hj
      have hwe : w2.heap.size ≤ we.heap.size := Nat.le_trans HSd.out Ne.size
      have hcl0 := own_from hw0
      obtain ⟨hT, hTO⟩ := HLe.out.setTs hO' (qs := [(.slice a0 n0 c0, t)]) hown2 hnew (fun k hk => (hnew k hk).elim (fun e => HLe.out.fts k e) (fun e => .inr (Nat.le_trans hwe e)))
        (fun q hq => by rw [List.mem_singleton.1 hq]; exact Rd.of_own hw0) (fun q hq _ k hk => by
          rw [List.mem_singleton.1 hq] at hk
          have h1 := hcl0 k hk
          refine ⟨fun e => ?_, fun e => ?_, fun e => ?_, .inr (Nat.le_trans HSd.out h1)⟩
          · have := HLd.out.at_.lt; omega
          · have := own_lt15 HLd.out.oT k e; omega
          · have := own_lt15 HLd.out.oL k e; omega)
      have hch := ((HRd.out.new Ne).only hO' (fun k hk _ e => by
        have h1 := HPB.out k hk
        rcases HLe.out.fts k e with h | h <;> omega)).only (only_cell wa p 8 (.slice at' n1 ct')) (fun k hk _ e => by
        have h1 := HPB.out k hk
        rw [e] at h1
        rcases HLe.out.fp with h | h <;> omega)
      have hC := (hT.mono (G := fun k => F k ∨ w.heap.size ≤ k) (fun k hk => hk.elim (fun h => h.1) (fun h => .inr (by have := HS12.out; omega)))).setCh hch (sNext_length _ _) (fun k hk => by
        have h1 := HPB.out k hk
        refine ⟨fun e => ?_, fun e => ?_, fun e => ?_⟩
        · rw [e] at h1; rcases hT.fp with h | h <;> omega
        · rcases hT.fts k e with h | h <;> omega
        · rcases hT.ftl k e with h | h <;> omega) (fun k hk => .inr (by have := HPB.out k hk; have := HS12.out; omega))
      have hE : PLg.add s1 t = ⟨s1.num, s1.used + (sFrame s1.ch t).length, s1.sealed, sNext s1.ch t, s1.ts ++ [t], s1.sure, s1.tl ++ sFrame s1.ch t, s1.dead⟩ := by unfold PLg.add; rw [sFrame_length]
      have HC : Hid (LObj ((wa.setCell ⟨p, 8, none⟩ (.slice at' n1 ct')).setCell ⟨p, 7, none⟩ (.slice a2 n2 c2)) (fun k => F k ∨ w.heap.size ≤ k) p g frm N sz (s1.add t) (.slice a2 n2 c2) (.slice at' n1 ct') vtl3 (ps ++ [(.slice a0 n0 c0, t)])) := Lib.hid (by rw [hE]; exact hC)
      have HAPP := Lib.hid happ
      have HAa := Lib.hid (HLe.out.at_.only hO' (fun e => HLe.out.neT.1 e))
      have HTa := Lib.hid hT.at_
      have HOz : Hid (Only F w ((wa.setCell ⟨p, 8, none⟩ (.slice at' n1 ct')).setCell ⟨p, 7, none⟩ (.slice a2 n2 c2))) := Lib.hid (by
        refine ((HOd.out.trans (New.only (F := F) Ne) (fun _ _ h => h)).trans hTO (fun k hk e => ?_)).trans (only_cell _ _ _ _) (fun k hk e => ?_)
        · have h2 := HS12.out
          rcases e with e | e
          · rw [e] at hk ⊢
            rcases HLe.out.fp with h | h
            · rcases h.1 with h | h
              · exact h
              · omega
            · omega
          · rcases HLe.out.fts k e with h | h
            · rcases h.1 with h | h
              · exact h
              · omega
            · omega
        · have h2 := HS12.out
          rw [e] at hk ⊢
          rcases HLe.out.fp with h | h
          · rcases h.1 with h | h
            · exact h
            · omega
          · omega)
      have HLf := Lib.hid (HLe.out.new ((Below.refl _ we).alloc (Nat.le_refl _) (.cells #[.slice a0 n0 c0] 42)))
      clear hw0 Ne hi0 hz0 hz1 hz2 happ hown' hown2 hnew hwe hcl0 hT hTO hch hC hE hO' hb' hlt' HRd HPB HOd HS12 HSd HCl
      refine hK.out _ _ (trivial) (fun _ => ?_)
      clear hK K
      try simp only [Act.put, List.setIfInBounds_toArray, List.set_cons_zero, List.set_cons_succ]
      (apply ordT_two; (simp only [List.getElem?_toArray, List.getElem?_cons_succ, List.getElem?_cons_zero]; rfl); rfl; (simp only [List.getElem?_toArray, List.getElem?_cons_succ, List.getElem?_cons_zero]; rfl); rfl)
      · intro K hK
        have c8 := HLe.out.at_.cell 8 rfl
        go_simp
        clear c8
        refine hK.out _ _ (trivial) (fun _ => ?_)
        clear hK K
        try simp only [Act.put, List.setIfInBounds_toArray, List.set_cons_zero, List.set_cons_succ]
        (apply ordT_only; (simp only [List.getElem?_toArray, List.getElem?_cons_succ, List.getElem?_cons_zero]; rfl); rfl; intro K hK)
        go_simp
        refine hK.out _ _ (trivial) (fun _ => ?_)
        clear hK K
        try simp only [Act.put, List.setIfInBounds_toArray, List.set_cons_zero, List.set_cons_succ]
        (apply ordT_only; (simp only [List.getElem?_toArray, List.getElem?_cons_succ, List.getElem?_cons_zero]; rfl); rfl; intro K hK)
        refine oper_append _ _ 52 rfl _ _ rfl rfl HAPP.out ?_
        refine hK.out _ _ (trivial) (fun _ => ?_)
        clear hK K
        try simp only [Act.put, List.setIfInBounds_toArray, List.set_cons_zero, List.set_cons_succ]
        iterate 2 (apply ordT_take; (simp only [List.getElem?_toArray, List.getElem?_cons_succ, List.getElem?_cons_zero]; rfl); rfl; (intro w hSw; (try dsimp only at hSw); go_simp; try with_reducible rfl); intro _; try simp only [Act.put, List.setIfInBounds_toArray, List.set_cons_zero, List.set_cons_succ])
        (apply ordT_only; (simp only [List.getElem?_toArray, List.getElem?_cons_succ, List.getElem?_cons_zero]; rfl); rfl; intro K hK)
        have y8 := HAa.out.cell 8 rfl
        have f8 := HAa.out.frozen 8
        go_simp
        clear y8 f8
        refine hK.out _ _ (trivial) (fun _ => ?_)
        clear hK K
        try simp only [Act.put, List.setIfInBounds_toArray, List.set_cons_zero, List.set_cons_succ]
        apply ordT_done
        have y7 := HTa.out.cell 7 rfl
        have f7 := HTa.out.frozen 7
        clear HAPP HAa HLd HXd HLe HLf
        go_wp2
        go_ret
        rw [HS1.out]
        exact ⟨rfl, ⟨_, _, _, _, HC.out⟩, HOz.out⟩
      · intro K hK
        go_simp
        refine hK.out _ _ (trivial) (fun _ => ?_)
        clear hK K
        try simp only [Act.put, List.setIfInBounds_toArray, List.set_cons_zero, List.set_cons_succ]
        (apply ordT_only; (simp only [List.getElem?_toArray, List.getElem?_cons_succ, List.getElem?_cons_zero]; rfl); rfl; intro K hK)
        have c8 := HLf.out.at_.cell 8 rfl
        go_simp
        clear c8
        refine hK.out _ _ (trivial) (fun _ => ?_)
        clear hK K
        try simp only [Act.put, List.setIfInBounds_toArray, List.set_cons_zero, List.set_cons_succ]
        (apply ordT_only; (simp only [List.getElem?_toArray, List.getElem?_cons_succ, List.getElem?_cons_zero]; rfl); rfl; intro K hK)
        refine oper_append _ _ 52 rfl _ _ rfl rfl HAPP.out ?_
        refine hK.out _ _ (trivial) (fun _ => ?_)
        clear hK K
        try simp only [Act.put, List.setIfInBounds_toArray, List.set_cons_zero, List.set_cons_succ]
        iterate 2 (apply ordT_take; (simp only [List.getElem?_toArray, List.getElem?_cons_succ, List.getElem?_cons_zero]; rfl); rfl; (intro w hSw; (try dsimp only at hSw); go_simp; try with_reducible rfl); intro _; try simp only [Act.put, List.setIfInBounds_toArray, List.set_cons_zero, List.set_cons_succ])
        (apply ordT_only; (simp only [List.getElem?_toArray, List.getElem?_cons_succ, List.getElem?_cons_zero]; rfl); rfl; intro K hK)
        have y8 := HAa.out.cell 8 rfl
        have f8 := HAa.out.frozen 8
        go_simp
        clear y8 f8
        refine hK.out _ _ (trivial) (fun _ => ?_)
        clear hK K
        try simp only [Act.put, List.setIfInBounds_toArray, List.set_cons_zero, List.set_cons_succ]
        apply ordT_done
        have y7 := HTa.out.cell 7 rfl
        have f7 := HTa.out.frozen 7
        clear HAPP HAa HLd HXd HLe HLf
        go_wp2
        go_ret
        rw [HS1.out]
        exact ⟨rfl, ⟨_, _, _, _, HC.out⟩, HOz.out⟩

end Go.Proofs.YtijkmpcgkhijgaaGreatDoor
