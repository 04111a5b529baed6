/-
  node.Write and its helpers.
-/
import Derived.Test.YtliojldkdmaofaaDoorNodRight
import Derived.Test.YtliojldkdmaofaaDoorRefNode3
import Derived.Test.YtliojldkdmaofaaDoorPenA
namespace Go.Proofs.YtliojldkdmaofaaDoor
set_option linter.unusedVariables false
set_option linter.unusedSimpArgs false
set_option maxRecDepth 100000
open Go.RowKit

/-- what lies apart from a writer -/
def Off19 (p : Nat) (g : Option Nat) (v : Value) : Prop := blk v ≠ some p ∧ (blk v ≠ none → blk v ≠ g)
structure OffN19 (p : Nat) (g : Option Nat) (v : NodeV) (N : NodeL) : Prop where
  nm : N.name ≠ [] → Off19 p g v.nm
  pa : N.parent ≠ [] → Off19 p g v.pa
  un : N.unm ≠ [] → Off19 p g v.un

theorem PenIn.start {w : World} {p : Nat} {g : Option Nat} {s : Option (List UInt8)} (h : Pen w p g s) : PenIn w p g s w := ⟨Only.refl _ _, g, h, .inl rfl⟩

theorem PenIn.pre {w w1 w2 : World} {p : Nat} {g : Option Nat} {s : Option (List UInt8)} (hn : New w w1) (h : PenIn w1 p g s w2) : PenIn w p g s w2 := by
  obtain ⟨ho, g', hp, hg⟩ := h
  refine ⟨(New.only (F := fun k => k = p ∨ some k = g) hn).trans ho (fun _ _ e => e), g', hp, ?_⟩
  rcases hg with e | ⟨k, e, hk⟩
  · exact .inl e
  · exact .inr ⟨k, e, Nat.le_trans hn.size hk⟩

theorem PenIn.new {w wr w2 : World} {p : Nat} {g : Option Nat} {s : Option (List UInt8)} (h : PenIn w p g s wr) (hn : New wr w2) : PenIn w p g s w2 := by
  obtain ⟨ho, g', hp, hg⟩ := h
  exact ⟨ho.trans (New.only (F := fun _ => False) hn) (fun _ _ e => e.elim), g', hp.new hn, hg⟩

theorem PenIn.off {w wr : World} {p : Nat} {g g1 : Option Nat} {x : Value} {N : Prop} (hg : g1 = g ∨ ∃ k, g1 = some k ∧ w.heap.size ≤ k) (hd : N → Off19 p g x) (hl : N → ∀ k, blk x = some k → k < w.heap.size) : N → Off19 p g1 x := by
  intro hne
  refine ⟨(hd hne).1, fun hn e => ?_⟩
  rcases hg with r | ⟨k, r, hk⟩
  · exact (hd hne).2 hn (by rw [e, r])
  · have := hl hne k (by rw [e, r]); omega

theorem PenIn.rd {w wr : World} {p : Nat} {g : Option Nat} {s : Option (List UInt8)} {x : Value} {l : List UInt8} (h : PenIn w p g s wr) (hx : Rd w x l) (hd : l ≠ [] → Off19 p g x) : Rd wr x l :=
  hx.only h.1 (fun k hk hne e => by
    rcases e with e | e
    · exact (hd hne).1 (by rw [hk, e])
    · exact (hd hne).2 (by rw [hk]; simp) (by rw [hk, e]))

theorem PenIn.rdv {w wr : World} {p : Nat} {g : Option Nat} {s : Option (List UInt8)} {x : Value} {l : List Int} (h : PenIn w p g s wr) (hx : RdV w x (l.map (Value.int .i64))) (hd : l ≠ [] → Off19 p g x) : RdV wr x (l.map (Value.int .i64)) :=
  hx.only h.1 (fun k hk hne e => by
    have hne' : l ≠ [] := fun hl => hne (by rw [hl]; rfl)
    rcases e with e | e
    · exact (hd hne').1 (by rw [hk, e])
    · exact (hd hne').2 (by rw [hk]; simp) (by rw [hk, e]))

theorem PenIn.at5 {w wr : World} {p : Nat} {g : Option Nat} {s : Option (List UInt8)} {b : Nat} {t : TypeId} {x0 x1 x2 x3 x4 : Value} (h : PenIn w p g s wr) (k : At5 w b t x0 x1 x2 x3 x4) (hb : ¬ (b = p ∨ some b = g)) : At5 wr b t x0 x1 x2 x3 x4 := k.only h.1 hb

theorem PenIn.node {w wr : World} {p : Nat} {g : Option Nat} {s : Option (List UInt8)} {u : NodeV} {N : NodeL} (h : PenIn w p g s wr) (hu : NodeR w u N) (ho : OffN19 p g u N) :
    ∃ g1, Pen wr p g1 s ∧ NodeR wr u N ∧ OffN19 p g1 u N ∧ ∀ s2 w2, PenIn wr p g1 s2 w2 → PenIn w p g s2 w2 := by
  have h' := h
  obtain ⟨o, g1, hp, hg⟩ := h'
  have hun : N.unm ≠ [] → ∀ k, blk u.un = some k → k < w.heap.size := fun hne k hk => hu.un.lt hk (by simpa using hne)
  exact ⟨g1, hp, ⟨h.rd hu.nm ho.nm, h.rd hu.pa ho.pa, h.rdv hu.un ho.un, hu.key⟩,
    ⟨PenIn.off (wr := wr) hg ho.nm (fun hne k hk => hu.nm.lt hk hne), PenIn.off (wr := wr) hg ho.pa (fun hne k hk => hu.pa.lt hk hne), PenIn.off (wr := wr) hg ho.un hun⟩, fun s2 w2 k => PenIn.trans o hg k hp⟩

theorem inU8 {w wr : World} {p : Nat} {g : Option Nat} {s : Option (List UInt8)} (h : PenIn w p g s wr) (n : Int) (hn : -9223372036854775808 ≤ n) (hn' : n ≤ 9223372036854775807) (hb : Fit s 8) :
    Calls Tryd.prog 33 #[.pointer (some ⟨p, 0, none⟩), .int .i64 n] wr (PenTo w p g (wU 1 n s)) := by
  obtain ⟨o, g1, hp, hg⟩ := h
  exact (penU8 wr p g1 s n hp hn hn' hb).mono fun e w' k => ⟨k.1, PenIn.trans o hg k.2 hp⟩

theorem inU64 {w wr : World} {p : Nat} {g : Option Nat} {s : Option (List UInt8)} (h : PenIn w p g s wr) (n : Nat) (hn : n < 18446744073709551616) (hb : Fit s 8) :
    Calls Tryd.prog 41 #[.pointer (some ⟨p, 0, none⟩), .int .u64 (n : Int)] wr (PenTo w p g (s.map (· ++ be 8 n))) := by
  obtain ⟨o, g1, hp, hg⟩ := h
  exact (penU64 wr p g1 s n hp (by omega) (by omega) hb).mono fun e w' k => ⟨k.1, PenIn.trans o hg k.2 hp⟩

theorem inShort {w wr : World} {p : Nat} {g : Option Nat} {s : Option (List UInt8)} (h : PenIn w p g s wr) (x : Value) (l : List UInt8) (hx : Rd w x l) (hd : l ≠ [] → Off19 p g x) (hb : Fit s (l.length + 8)) :
    Calls Tryd.prog 36 #[.pointer (some ⟨p, 0, none⟩), x] wr (PenTo w p g (wText 1 l s)) := by
  have h' := h
  obtain ⟨o, g1, hp, hg⟩ := h'
  exact (penShort wr p g1 s x l hp (h.rd hx hd) (PenIn.off (wr := wr) hg hd (fun hne k hk => hx.lt hk hne)) hb).mono fun e w' k => ⟨k.1, PenIn.trans o hg k.2 hp⟩

theorem wU_ok19 {n : Int} {s : Option (List UInt8)} (h0 : 0 ≤ n) (h1 : n < 256) : wU 1 n s = s.map (· ++ be 1 n.toNat) := if_pos ⟨h0, by simpa using h1⟩
theorem wText_ok19 {l : List UInt8} {s : Option (List UInt8)} (h : l.length < 256) : wText 1 l s = s.map (· ++ (be 1 l.length ++ l)) := by
  unfold wText
  rw [wU_ok19 (by omega) (by omega), Option.map_map]
  congr 1
  funext x
  simp
theorem map_app19 {s : Option (List UInt8)} {a b : List UInt8} : (s.map (· ++ a)).map (· ++ b) = s.map (· ++ (a ++ b)) := by
  rw [Option.map_map]
  congr 1
  funext x
  simp
theorem fit_app19 {s : Option (List UInt8)} {a : List UInt8} {k j : Nat} (h : Fit s k) (hj : a.length + j ≤ k) : Fit (s.map (· ++ a)) j := by
  intro l hl
  cases s with
  | none => cases hl
  | some m => cases hl; have := h m rfl; rw [List.length_append]; omega
theorem Fit.le19 {s : Option (List UInt8)} {k j : Nat} (h : Fit s k) (hj : j ≤ k) : Fit s j := fun l hl => by have := h l hl; omega

theorem nodSpoil (w : World) (p : Nat) (g : Option Nat) (s : Option (List UInt8)) (h : Pen w p g s) (hb : Fit s 8) : Calls Tryd.prog 17 #[.pointer (some ⟨p, 0, none⟩)] w (PenTo w p g none) := by
  have HP := Lib.hid (penU8 w p g s (-1) h (by omega) (by omega) hb)
  rw [show wU 1 (-1) s = none from if_neg (by omega)] at HP
  clear h
  go_enter Tryd.func17, Tryd.ntmps17
  go_wp2_with fail
  refine HP.out.mono ?_
  rintro _ w1 ⟨rfl, P1⟩
  have H1 := Lib.hid P1
  clear P1
  go_wp2
  go_end0
  exact ⟨rfl, H1.out⟩

set_option maxHeartbeats 1000000 in
theorem nodWriteKey (w : World) (p : Nat) (g : Option Nat) (s : Option (List UInt8)) (h : Pen w p g s) (u : NodeV) (N : NodeL) (hu : NodeR w u N) (ho : OffN19 p g u N) (hb : Fit s (N.parent.length + 16)) :
    Calls Tryd.prog 24 #[.pointer (some ⟨p, 0, none⟩), u.val N] w (PenTo w p g (wText 1 N.parent (s.map (· ++ be 8 N.key)))) := by
  have HU := Lib.hid hu
  have HO := Lib.hid ho
  have HB := Lib.hid hb
  have HLT := Lib.hid h.lt
  have HP := Lib.hid h
  obtain ⟨a1, n1, c1, e1, -⟩ := hu.nm
  obtain ⟨a2, n2, c2, e2, -⟩ := hu.pa
  obtain ⟨a3, n3, c3, e3, -⟩ := hu.un
  have HK : Hid (N.key < 18446744073709551616) := Lib.hid hu.key
  clear hu ho hb h
  unfold NodeV.val
  obtain ⟨unm, upa, uun⟩ := u
  dsimp only at *
  subst e1 e2 e3
  obtain ⟨rk, rn, ry, rp, ru⟩ := N
  dsimp only at *
  go_enter Tryd.func24, Tryd.ntmps24
  go_upto_region 1 with fail
  generalize hw1 : World.alloc w _ = w1
  have N1 : New w w1 := by rw [← hw1]; exact (Below.refl _ _).alloc (Nat.le_refl _) _
  have HA : Hid (At5 w1 w.heap.size 26 (.int .i64 rk) (.slice a1 n1 c1) (.int .u64 (ry : Int)) (.slice a2 n2 c2) (.slice a3 n3 c3)) := Lib.hid (by rw [← hw1]; exact heap_alloc_new _ _)
  clear hw1
  have HN1 := Lib.hid N1
  have HNB : Hid (¬ (w.heap.size = p ∨ some w.heap.size = g)) := Lib.hid (by
    rintro (e | e)
    · have := HLT.out.1; omega
    · have := HLT.out.2 _ e.symm; omega)
  have HP1 := Lib.hid (PenIn.start (HP.out.new N1))
  clear N1
  generalize w.heap.size = b at *
  obtain ⟨x0, x1, x2, x3, x4⟩ := HA.out.cells
  go_wp2_with fail
  refine (inU64 HP1.out ry HK.out (HB.out.le19 (by omega))).mono ?_
  rintro _ w2 ⟨rfl, hp⟩
  have HP2 := Lib.hid hp
  have HA2 := Lib.hid (hp.at5 HA.out HNB.out)
  clear hp x0 x1 x2 x3 x4
  obtain ⟨x0, x1, x2, x3, x4⟩ := HA2.out.cells
  go_wp2_with fail
  refine (inShort HP2.out _ rp (HU.out.pa.new HN1.out) HO.out.pa (fit_app19 HB.out (by rw [be_length]; omega))).mono ?_
  rintro _ w3 ⟨rfl, hp⟩
  have HP3 := Lib.hid hp
  clear hp x0 x1 x2 x3 x4
  go_wp2
  go_end0
  exact ⟨rfl, PenIn.pre HN1.out HP3.out⟩

set_option maxHeartbeats 1000000 in
theorem nodWriteNumbers (w : World) (p : Nat) (g : Option Nat) (s : Option (List UInt8)) (h : Pen w p g s) (x : Value) (l : List Int) (hx : RdV w x (l.map (Value.int .i64))) (hd : l ≠ [] → Off19 p g x) (hin : ∀ x ∈ l, 0 ≤ x ∧ x ≤ 31) (hl : l.length ≤ 32) (hb : Fit s 60) :
    Calls Tryd.prog 37 #[.pointer (some ⟨p, 0, none⟩), x] w (PenTo w p g (s.map (· ++ (be 1 l.length ++ nUnm l)))) := by
  obtain ⟨ax, nx, cx, rfl, hnx, -⟩ := id hx
  rw [List.length_map] at hnx
  have HX := Lib.hid hx
  have HD := Lib.hid hd
  have HB := Lib.hid hb
  have HIN := Lib.hid hin
  have HL : Hid (l.length = nx) := Lib.hid hnx
  have hnb : nx ≤ 32 := by omega
  have HP := Lib.hid (inU8 (PenIn.start h) (nx : Int) (by omega) (by omega) (hb.le19 (by omega)))
  rw [wU_ok19 (by omega) (by omega), Int.toNat_natCast] at HP
  rw [hnx]
  clear hx hd hb hin hl hnx h
  go_enter Tryd.func37, Tryd.ntmps37
  go_wp2_with fail
  refine HP.out.mono ?_
  rintro _ w1 ⟨rfl, hp⟩
  have H1 := Lib.hid hp
  clear hp HP
  go_upto_region 2 with fail
  go_loopw [5, 12] (fun _ v wr => ∃ i : Nat, v = .int .i64 i ∧ i ≤ nx ∧ PenIn w p g (s.map (· ++ (be 1 nx ++ nUnm (l.take i)))) wr) (fun _ v _ => nx - (intOf v).toNat)
  case atStart => exact ⟨0, rfl, Nat.zero_le _, by show PenIn w p g (s.map (· ++ (be 1 nx ++ []))) w1; rw [List.append_nil]; exact H1.out⟩
  case round =>
    clear H1
    obtain ⟨i, rfl, hi, hr⟩ := hrel
    have HR := Lib.hid hr
    clear hr
    by_cases hlt : i < nx
    · have d : decide ((i : Int) < (nx : Int)) = true := by simpa using hlt
      have hli : (i : Int) < (nx : Int) := by omega
      obtain ⟨b1, o1, hb1, hc1⟩ := (HR.out.rdv HX.out HD.out).cell (by omega)
      subst hb1
      obtain ⟨v, hv⟩ : ∃ u, l[i]? = some u := ⟨_, List.getElem?_eq_getElem (by have := HL.out; omega)⟩
      have c1 := hc1 i (.int .i64 v) (by rw [List.getElem?_map, hv]; rfl)
      have hv2 := HIN.out v (List.mem_of_getElem? hv)
      have HV := Lib.hid hv2
      have HW := Lib.hid (inU8 HR.out v (by omega) (by omega) (fit_app19 HB.out (by rw [List.length_append, be_length, nUnm_length, List.length_take]; omega)))
      rw [wU_ok19 (by omega) (by omega), map_app19, List.append_assoc, ← nUnm_take hv] at HW
      clear hv hc1 hv2
      go_wp2_with fail
      refine HW.out.mono ?_
      rintro _ w2 ⟨rfl, hp⟩
      have H2 := Lib.hid hp
      clear hp c1
      go_wp2
      go_roundw
      case rel => exact ⟨i + 1, by go_num, by omega, H2.out⟩
      case measure => simp [intOf]; omega
    · obtain rfl : i = nx := by omega
      have H2 : Hid (PenIn w p g (s.map (· ++ (be 1 i ++ nUnm l))) wr) := Lib.hid (by have := HR.out; rwa [List.take_of_length_le (by have := HL.out; omega)] at this)
      clear hlt hi HR
      go_wp2
      go_end0
      exact ⟨rfl, H2.out⟩

end Go.Proofs.YtliojldkdmaofaaDoor
