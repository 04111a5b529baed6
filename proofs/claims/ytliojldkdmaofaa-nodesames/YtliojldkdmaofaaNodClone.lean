/-
  node.Clone: bytes.Clone, slices.Clone of ints.
-/
import Derived.Test.YtliojldkdmaofaaNodRight
import Derived.Test.YtliojldkdmaofaaAppAny
import Derived.Deep.Cut
namespace Go.Proofs.Ytliojldkdmaofaa
set_option linter.unusedVariables false
set_option linter.unusedSimpArgs false
set_option maxRecDepth 100000
open Go.RowKit

theorem infoByte19 : (Try.prog.info? 5).map (fun i => (i.zero, i.size, i.bytes)) = some (some (.int .u8 0), 1, 1) := by kernel_rfl
theorem infoIntC19 : (Try.prog.info? 3).map (fun i => (i.zero, i.size, i.bytes)) = some (some (.int .i64 0), 1, 8) := by kernel_rfl

theorem own_lower19 {w : World} {base base' : Nat} {e : TypeId} {size : Nat} {v : Value} {n : Nat} {xs : List Value} (h : w.ownsRow base e size v n xs) (hb : base' ≤ base) : w.ownsRow base' e size v n xs := by
  refine ⟨h.1, ?_⟩
  rcases h.2 with hn | ⟨g, cap, cur, e1, e2, rest⟩
  · exact .inl hn
  · exact .inr ⟨g, cap, cur, e1, Nat.le_trans hb e2, rest⟩

/-- what bytes.Clone returns: a row of one's own -/
def ByteClone19 (w : World) (l : List UInt8) (e : Ending) (w' : World) : Prop := ∃ a n c, e = .returned (.slice a n c) ∧ Rd w' (.slice a n c) l ∧ New w w' ∧ (l ≠ [] → w'.ownsRow w.heap.size 5 1 (.slice a n c) l.length (l.map bv))

set_option maxHeartbeats 400000 in
theorem byteClone19 (w : World) (x : Value) (l : List UInt8) (h : Rd w x l) (hn : l.length ≤ 140737488355328) : Calls Try.prog 36 #[x] w (ByteClone19 w l) := by
  obtain ⟨i0, hi0, hz0, hz1, hz2⟩ := info_parts infoByte19
  have HV := Lib.hid h
  have h' := h
  obtain ⟨a, n, c, rfl, h1, h2, h3, h4, h5⟩ := h'
  cases a with
  | none =>
    obtain ⟨rfl, rfl⟩ := h4 rfl
    obtain rfl := List.eq_nil_of_length_eq_zero h1
    have he : ∀ wx : World, (binOp .eql 22 (.slice none 0 0) (.slice none 0 0)).run Try.prog wx = .ok (.bool true) wx := fun _ => rfl
    clear h5 h1 h4
    go_enter Try.func36, Try.ntmps36
    go_wp2
    go_ret
    exact ⟨none, 0, 0, rfl, Rd.nil _, Below.refl _ _, fun h => absurd rfl h⟩
  | some ad =>
    have N1 : New w (w.alloc (.cells #[] 5)) := (Below.refl _ _).alloc (Nat.le_refl _) _
    have HX := Lib.hid (HV.out.new N1)
    have HN := Lib.hid hn
    have he : ∀ wx : World, (binOp .eql 22 (.slice (some ad) n c) (.slice none 0 0)).run Try.prog wx = .ok (.bool false) wx := fun _ => rfl
    clear h h1 h2 h3 h4 h5 hn
    go_enter Try.func36, Try.ntmps36
    go_wp2_with (at_builtin; (refine wpList_append_copy rfl (.tmp 5) (.tmp 6) 22 rfl 5 i0 _ Try.underlying22 hi0 hz0 hz1 hz2 rfl _ rfl _ l rfl HX.out HN.out ?_))
    intro v' w' h6 h7 h8
    obtain ⟨av, nv, cv, rfl⟩ : ∃ a n c, v' = .slice a n c := by obtain ⟨a, n, c, e, _⟩ := h6; exact ⟨a, n, c, e⟩
    have H6 := Lib.hid h6
    have H7 := Lib.hid h7
    have H8 := Lib.hid h8
    clear h6 h7 h8
    go_wp2
    go_ret
    exact ⟨av, nv, cv, rfl, H6.out, New.trans N1 H7.out, fun hne => own_lower19 (H8.out hne) (by omega)⟩

/-- what slices.Clone of ints returns -/
def IntClone19 (w : World) (l : List Int) (e : Ending) (w' : World) : Prop := ∃ a n c, e = .returned (.slice a n c) ∧ RdV w' (.slice a n c) (l.map (Value.int .i64)) ∧ New w w' ∧ ∀ k, blk (.slice a n c) = some k → w.heap.size ≤ k

set_option maxHeartbeats 400000 in
theorem intClone19 (w : World) (x : Value) (l : List Int) (h : RdV w x (l.map (Value.int .i64))) (hn : l.length ≤ 1099511627776) : Calls Try.prog 37 #[x] w (IntClone19 w l) := by
  obtain ⟨i0, hi0, hz0, hz1, hz2⟩ := info_parts infoIntC19
  have HV := Lib.hid h
  have h' := h
  obtain ⟨a, n, c, rfl, h1, h2, h3, h4, h5⟩ := h'
  rw [List.length_map] at h1
  cases a with
  | none =>
    obtain ⟨rfl, rfl⟩ := h4 rfl
    obtain rfl := List.eq_nil_of_length_eq_zero h1
    have he : ∀ wx : World, (binOp .eql 24 (.slice none 0 0) (.slice none 0 0)).run Try.prog wx = .ok (.bool true) wx := fun _ => rfl
    clear h5 h1 h4 h
    go_enter Try.func37, Try.ntmps37
    go_wp2
    go_ret
    exact ⟨none, 0, 0, rfl, RdV.nil _, Below.refl _ _, fun k hk => by simp [blk] at hk⟩
  | some ad =>
    have N1 : New w (w.alloc (.cells #[] 3)) := (Below.refl _ _).alloc (Nat.le_refl _) _
    have HX := Lib.hid (HV.out.new N1)
    have he : ∀ wx : World, (binOp .eql 24 (.slice (some ad) n c) (.slice none 0 0)).run Try.prog wx = .ok (.bool false) wx := fun _ => rfl
    obtain ⟨v', w', happ, hown, ho, hb⟩ := run_append_any (P := Try.prog) (w.alloc (.cells #[] 3)) w.heap.size 24 24 3 i0 _ 8 Try.underlying24 hi0 hz0 hz1 hz2 rfl (.slice (some ⟨w.heap.size, 0, none⟩) 0 0) 0 [] (own_empty w w.heap.size 3 (Nat.le_refl _)) (.slice (some ad) n c) (l.map (Value.int .i64)) HX.out (fun u hu => by obtain ⟨z, -, rfl⟩ := List.mem_map.1 hu; rfl) (by rw [List.length_map]; omega) (by rw [List.length_map]; omega) N1.size
    rw [Nat.zero_add, List.length_map, List.nil_append] at hown
    obtain ⟨av, cv, rfl, -, -⟩ := ownSl_form hown
    have HAPP := Lib.hid happ
    have HN2 : Hid (New w w') := Lib.hid (Below.trans N1 (ho.below N1.size (fun k hk => by simp [blk] at hk; omega)))
    have HR := Lib.hid (RdV.of_own hown)
    have HB := Lib.hid (own_from hown)
    clear h h1 h2 h3 h4 h5 hn happ hown ho hb hi0 hz0 hz1 hz2 HX N1 HV
    go_enter Try.func37, Try.ntmps37
    go_wp2_with (at_builtin; refine wpList_app1 rfl _ _ 24 rfl _ _ rfl rfl HAPP.out ?_)
    go_ret
    exact ⟨av, _, cv, rfl, HR.out, HN2.out, HB.out⟩

theorem own_keep19 {w w' : World} {base : Nat} {e : TypeId} {v : Value} {n : Nat} {xs : List Value} (h : w.ownsRow base e 1 v n xs) (hb : ∀ k, base ≤ k → k < w.heap.size → w'.heap[k]? = w.heap[k]?) : w'.ownsRow base e 1 v n xs := by
  refine ⟨h.1, ?_⟩
  rcases h.2 with h0 | ⟨g, cap, cur, rfl, hb1, e3, rest⟩
  · exact .inl h0
  · exact .inr ⟨g, cap, cur, rfl, hb1, (hb g hb1 (lt_of_block e3)).trans e3, rest⟩

/-- what Clone returns: its name is a row of its own, in a block of its own -/
def CloneTo19 (w : World) (N : NodeL) (e : Ending) (w' : World) : Prop := ∃ v : NodeV, e = .returned (v.val N) ∧ NodeN19 w w' v N ∧ (N.name ≠ [] → w'.ownsRow w.heap.size 5 1 v.nm N.name.length (N.name.map bv) ∧ ∀ k, blk v.nm = some k → (N.parent ≠ [] → blk v.pa ≠ some k) ∧ blk v.un ≠ some k) ∧ New w w'

set_option maxHeartbeats 2000000 in
theorem nodClone (w : World) (u : NodeV) (N : NodeL) (hu : NodeR w u N) (hb : N.name.length ≤ 140737488355328 ∧ N.parent.length ≤ 140737488355328 ∧ N.unm.length ≤ 1099511627776) :
    Calls Try.prog 19 #[u.val N] w (CloneTo19 w N) := by
  have HU := Lib.hid hu
  have HB := Lib.hid hb
  obtain ⟨a1, n1, c1, e1, -⟩ := hu.nm
  obtain ⟨a2, n2, c2, e2, -⟩ := hu.pa
  obtain ⟨a3, n3, c3, e3, -⟩ := hu.un
  clear hu hb
  unfold NodeV.val
  obtain ⟨unm, upa, uun⟩ := u
  dsimp only at e1 e2 e3
  subst e1 e2 e3
  obtain ⟨rk, rn, ry, rp, ru⟩ := N
  dsimp only
  go_enter Try.func19, Try.ntmps19
  go_upto_region 1 with fail
  try simp only [List.append_eq, List.cons_append, List.nil_append]
  generalize hwa : World.alloc w _ = wa
  have hza : wa.heap.size = w.heap.size + 1 := by rw [← hwa]; simp
  have Na : New w wa := by rw [← hwa]; exact (Below.refl _ _).alloc (Nat.le_refl _) _
  have Aa : At5 wa w.heap.size 26 (.int .i64 rk) (.slice a1 n1 c1) (.int .u64 (ry : Int)) (.slice a2 n2 c2) (.slice a3 n3 c3) := by rw [← hwa]; exact heap_alloc_new _ _
  clear hwa
  generalize hwb : World.alloc wa _ = wb
  have hzb : wb.heap.size = wa.heap.size + 1 := by rw [← hwb]; simp
  have Nb : New wa wb := by rw [← hwb]; exact (Below.refl _ _).alloc (Nat.le_refl _) _
  have HZ : Hid (At5 wb (w.heap.size + 1) 26 (.int .i64 0) (.slice none 0 0) (.int .u64 0) (.slice none 0 0) (.slice none 0 0)) := Lib.hid (by rw [← hza, ← hwb]; exact heap_alloc_new _ _)
  clear hwb
  have HA := Lib.hid (Aa.new Nb)
  have HN0 := Lib.hid (New.trans Na Nb)
  have HS : Hid (wb.heap.size = w.heap.size + 2) := Lib.hid (by omega)
  clear Aa Na Nb hza hzb
  obtain ⟨g, hg⟩ : ∃ g, w.heap.size = g := ⟨_, rfl⟩
  have HGW := Lib.hid hg
  rw [hg] at HA HZ HS
  rw [hg]
  clear hg
  obtain ⟨g0, hg0⟩ : ∃ k, g + 1 = k := ⟨_, rfl⟩
  have HG0 := Lib.hid hg0
  rw [hg0] at HZ
  rw [hg0]
  clear hg0
  obtain ⟨x0, x1, x2, x3, x4⟩ := HA.out.cells
  -- the name
  have HC := Lib.hid (byteClone19 wb _ rn (HU.out.nm.new HN0.out) HB.out.1)
  go_wp2_with fail
  refine HC.out.mono ?_
  rintro _ w1 ⟨b1, m1, f1, rfl, r1, N1, o1⟩
  have HN1 := Lib.hid N1
  have HR1 := Lib.hid r1
  have HO1 := Lib.hid o1
  have HA1 := Lib.hid (HA.out.new N1)
  clear HC x0 x1 x2 x3 x4 r1 o1 N1
  obtain ⟨x0, x1, x2, x3, x4⟩ := HA1.out.cells
  obtain ⟨y0, y1, y2, y3, y4⟩ := HA1.out.frozen
  go_upto_region 2 with fail
  have HA1' := Lib.hid (HA1.out.set1 (.slice b1 m1 f1))
  have HON1 := Lib.hid ((New.only (F := fun k => k = g) HN1.out).trans ((Only.refl (fun k => k = g) w1).setCell (p := ⟨g, 1, none⟩) (fun _ => rfl) (.slice b1 m1 f1)) (fun _ _ e => e))
  have HS1 : Hid (Only (fun k => k = g) w1 (w1.setCell ⟨g, 1, none⟩ (.slice b1 m1 f1))) := Lib.hid ((Only.refl (fun k => k = g) w1).setCell (p := ⟨g, 1, none⟩) (fun _ => rfl) _)
  generalize w1.setCell ⟨g, 1, none⟩ (.slice b1 m1 f1) = w1' at *
  clear x0 x1 x2 x3 x4 y0 y1 y2 y3 y4 HA1
  obtain ⟨x0, x1, x2, x3, x4⟩ := HA1'.out.cells
  -- the parent
  have HC := Lib.hid (byteClone19 w1' _ rp ((HU.out.pa.new HN0.out).only HON1.out (fun k hk hne e => by have := HU.out.pa.lt hk hne; have := HGW.out; omega)) HB.out.2.1)
  go_wp2_with fail
  refine HC.out.mono ?_
  rintro _ w2 ⟨b2, m2, f2, rfl, r2, N2, o2⟩
  have HN2 := Lib.hid N2
  have HR2 := Lib.hid r2
  have HO2 := Lib.hid o2
  have HA2 := Lib.hid (HA1'.out.new N2)
  clear HC x0 x1 x2 x3 x4 r2 o2 N2
  obtain ⟨x0, x1, x2, x3, x4⟩ := HA2.out.cells
  obtain ⟨y0, y1, y2, y3, y4⟩ := HA2.out.frozen
  go_upto_region 3 with fail
  have HA2' := Lib.hid (HA2.out.set3 (.slice b2 m2 f2))
  have HS2 : Hid (Only (fun k => k = g) w2 (w2.setCell ⟨g, 3, none⟩ (.slice b2 m2 f2))) := Lib.hid ((Only.refl (fun k => k = g) w2).setCell (p := ⟨g, 3, none⟩) (fun _ => rfl) _)
  have HON2 := Lib.hid ((HON1.out.trans (New.only (F := fun k => k = g) HN2.out) (fun _ _ e => e)).trans HS2.out (fun _ _ e => e))
  generalize w2.setCell ⟨g, 3, none⟩ (.slice b2 m2 f2) = w2' at *
  clear x0 x1 x2 x3 x4 y0 y1 y2 y3 y4 HA2
  obtain ⟨x0, x1, x2, x3, x4⟩ := HA2'.out.cells
  -- the numbers
  have HC := Lib.hid (intClone19 w2' _ ru ((HU.out.un.new HN0.out).only HON2.out (fun k hk hne e => by have := HU.out.un.lt hk hne; have := HGW.out; omega)) HB.out.2.2)
  go_wp2_with fail
  refine HC.out.mono ?_
  rintro _ w3 ⟨b3, m3, f3, rfl, r3, N3, o3⟩
  have HN3 := Lib.hid N3
  have HR3 := Lib.hid r3
  have HO3 := Lib.hid o3
  have HA3 := Lib.hid (HA2'.out.new N3)
  clear HC x0 x1 x2 x3 x4 r3 o3 N3
  obtain ⟨x0, x1, x2, x3, x4⟩ := HA3.out.cells
  obtain ⟨y0, y1, y2, y3, y4⟩ := HA3.out.frozen
  go_upto_region 4 with fail
  have HA3' := Lib.hid (HA3.out.set4 (.slice b3 m3 f3))
  have HS3 : Hid (Only (fun k => k = g) w3 (w3.setCell ⟨g, 4, none⟩ (.slice b3 m3 f3))) := Lib.hid ((Only.refl (fun k => k = g) w3).setCell (p := ⟨g, 4, none⟩) (fun _ => rfl) _)
  have HON3 := Lib.hid ((HON2.out.trans (New.only (F := fun k => k = g) HN3.out) (fun _ _ e => e)).trans HS3.out (fun _ _ e => e))
  generalize w3.setCell ⟨g, 4, none⟩ (.slice b3 m3 f3) = w3' at *
  clear x0 x1 x2 x3 x4 y0 y1 y2 y3 y4 HA3
  have HZ3 := Lib.hid (HZ.out.only HON3.out (fun e => by have := HG0.out; omega))
  obtain ⟨x0, x1, x2, x3, x4⟩ := HA3'.out.cells
  obtain ⟨z0, z1, z2, z3, z4⟩ := HZ3.out.cells
  obtain ⟨y0, y1, y2, y3, y4⟩ := HZ3.out.frozen
  -- what lies where, at the end
  have HLAST : Hid (∀ p0 p1 p2 p3 p4, NodeN19 w (put5 w3' g0 p0 p1 p2 p3 p4) ⟨.slice b1 m1 f1, .slice b2 m2 f2, .slice b3 m3 f3⟩ ⟨rk, rn, ry, rp, ru⟩ ∧ (rn ≠ [] → (put5 w3' g0 p0 p1 p2 p3 p4).ownsRow w.heap.size 5 1 (.slice b1 m1 f1) rn.length (rn.map bv) ∧ ∀ k, blk (.slice b1 m1 f1) = some k → (rp ≠ [] → blk (.slice b2 m2 f2) ≠ some k) ∧ blk (.slice b3 m3 f3) ≠ some k) ∧ New w (put5 w3' g0 p0 p1 p2 p3 p4)) := Lib.hid (fun p0 p1 p2 p3 p4 => by
    have hp := put5_only w3' g0 p0 p1 p2 p3 p4
    have s0 := HS.out
    have s1 := HON1.out.size
    have s2 := HN2.out.size
    have s3 := HS2.out.size
    have s4 := HN3.out.size
    have s5 := HS3.out.size
    have s6 := HN1.out.size
    have s7 := HS1.out.size
    have hg := HGW.out
    have hg0 := HG0.out
    have t1 : Only (fun k => k = g ∨ k = g0) w1 (put5 w3' g0 p0 p1 p2 p3 p4) := ((((HS1.out.mono (G := fun k => k = g ∨ k = g0) (fun _ _ e => .inl e)).trans (New.only (F := fun k => k = g ∨ k = g0) HN2.out) (fun _ _ e => e)).trans HS2.out (fun _ _ e => .inl e)).trans ((New.only (F := fun k => k = g ∨ k = g0) HN3.out).trans HS3.out (fun _ _ e => .inl e)) (fun _ _ e => e)).trans hp (fun _ _ e => .inr e)
    have t2 : Only (fun k => k = g ∨ k = g0) w2 (put5 w3' g0 p0 p1 p2 p3 p4) := ((HS2.out.mono (G := fun k => k = g ∨ k = g0) (fun _ _ e => .inl e)).trans ((New.only (F := fun k => k = g ∨ k = g0) HN3.out).trans HS3.out (fun _ _ e => .inl e)) (fun _ _ e => e)).trans hp (fun _ _ e => .inr e)
    have t3 : Only (fun k => k = g ∨ k = g0) w3 (put5 w3' g0 p0 p1 p2 p3 p4) := (HS3.out.mono (G := fun k => k = g ∨ k = g0) (fun _ _ e => .inl e)).trans hp (fun _ _ e => .inr e)
    refine ⟨⟨⟨HR1.out.only t1 (fun k hk hne e => by have := own_from (HO1.out hne) k hk; omega), HR2.out.only t2 (fun k hk hne e => by have := own_from (HO2.out hne) k hk; omega), HR3.out.only t3 (fun k hk hne e => by have := HO3.out k hk; omega), HU.out.key⟩, fun hne k hk => by have := own_from (HO1.out hne) k hk; omega, fun hne k hk => by have := own_from (HO2.out hne) k hk; omega, fun k hk => by have := HO3.out k hk; omega⟩, fun hne => ?_, ?_⟩
    · refine ⟨own_lower19 (own_keep19 (HO1.out hne) (fun k h1 h2 => t1.block k h2 (fun e => by omega))) (by omega), fun k hk => ⟨fun hne2 hk2 => ?_, fun hk2 => ?_⟩⟩
      · have u1 := HR1.out.lt hk hne
        have u2 := own_from (HO2.out hne2) k hk2
        omega
      · have u1 := HR1.out.lt hk hne
        have u2 := HO3.out k hk2
        omega
    · exact put5_new (Below.trans HN0.out (HON3.out.below (by omega) (fun k e => by omega))) (by omega) _ _ _ _ _)
  clear HON1 HON2 HON3 HN0 HN1 HN2 HN3 HS1 HS2 HS3 HR1 HR2 HR3 HO1 HO2 HO3 HU HB HA HA1' HA2' HZ HS HGW HG0
  go_wp2_with (first | refine wpList_load_row rfl 26 _ rfl g rfl _ _ _ _ HA3'.out Try.underlying26 rfl infoNode19 ?_ | fail)
  refine bodyPost_ret (results_cell1 rfl _ _ g0 _ _ _ _ rfl (HZ3.out.put _ _ _ _ _) Try.underlying26 rfl infoNode19) rfl ?_
  have hp := HLAST.out (.int .i64 rk) (.slice b1 m1 f1) (.int .u64 (ry : Int)) (.slice b2 m2 f2) (.slice b3 m3 f3)
  exact ⟨⟨.slice b1 m1 f1, .slice b2 m2 f2, .slice b3 m3 f3⟩, rfl, hp.1, hp.2.1, hp.2.2⟩

end Go.Proofs.Ytliojldkdmaofaa
