/-
  The law HpkeReads, walked.
-/
import Derived.Test.YtkpenodbjmhoeaaDoorLaw08
import Derived.Test.YtkpenodbjmhoeaaDoorRefHpkeW
import Derived.Test.YtkpenodbjmhoeaaDoorBase
namespace Go.Proofs.YtkpenodbjmhoeaaDoor
set_option linter.unusedVariables false
set_option linter.unusedSimpArgs false
open Go.RowKit

/-- what the great region reads -/
def Strs8 (g gx gy : Nat) (f fr : Int) (u x b : Value) (l t s : List UInt8) (w : World) : Prop :=
  (w.cell? ⟨g, 0, none⟩ = some (.int .u64 f) ∧ w.cell? ⟨g, 1, none⟩ = some u) ∧ (w.cell? ⟨gx, 0, none⟩ = some (.int .u64 fr) ∧ w.cell? ⟨gx, 1, none⟩ = some x) ∧ (w.cell? ⟨gy, 0, none⟩ = some (.int .u64 fr) ∧ w.cell? ⟨gy, 1, none⟩ = some (.string (bstr t))) ∧
  (convert 23 9 u).run Tryd.prog w = .ok (.string (bstr l)) w ∧ (convert 23 9 x).run Tryd.prog w = .ok (.string (bstr t)) w ∧ (convert 23 9 b).run Tryd.prog w = .ok (.string (bstr s)) w

structure Nine (w : World) (g gx gy p q : Nat) (d : Option Nat) (f fr : Int) (u x b : Value) (l t s r : List UInt8) (err : Int) : Prop where
  s_ : At2 w g 29 (.int .u64 f) u
  x_ : At2 w gx 29 (.int .u64 fr) x
  y_ : At2 w gy 34 (.int .u64 fr) (.string (bstr t))
  ru : Rd w u l
  rx : Rd w x t
  rb : Rd w b s
  eye : Eye w p d r err
  reye : REye w q r err

theorem Nine.new {w w' : World} {g gx gy p q : Nat} {d : Option Nat} {f fr : Int} {u x b : Value} {l t s r : List UInt8} {err : Int} (h : Nine w g gx gy p q d f fr u x b l t s r err) (hn : New w w') : Nine w' g gx gy p q d f fr u x b l t s r err :=
  ⟨h.s_.new hn, h.x_.new hn, h.y_.new hn, h.ru.new hn, h.rx.new hn, h.rb.new hn, h.eye.new hn, h.reye.new hn⟩

theorem Nine.strs {w : World} {g gx gy p q : Nat} {d : Option Nat} {f fr : Int} {u x b : Value} {l t s r : List UInt8} {err : Int} (h : Nine w g gx gy p q d f fr u x b l t s r err) : Strs8 g gx gy f fr u x b l t s w :=
  ⟨h.s_.cells, h.x_.cells, h.y_.cells, run_str (P := Tryd.prog) Tryd.underlying23 Tryd.underlying5 Tryd.underlying9 h.ru, run_str (P := Tryd.prog) Tryd.underlying23 Tryd.underlying5 Tryd.underlying9 h.rx, run_str (P := Tryd.prog) Tryd.underlying23 Tryd.underlying5 Tryd.underlying9 h.rb⟩



set_option maxRecDepth 100000 in
set_option maxHeartbeats 2000000 in
theorem readsWalk (w : World) (f : Nat) (hf : f < 18446744073709551616) (u : Value) (l : List UInt8) (hu : Rd w u l) (x : Value) (b : List UInt8) (hx : Rd w x b) (most : Int) (hL : Laid w) :
    Calls Tryd.prog 6 #[.agg #[.int .u64 (f : Int), u], x, .int .i64 most] w fun e w' => e = .returned (.bool true) ∧ New w w' := by
  have hu' := hu
  have hx' := hx
  obtain ⟨au, nu, cu, rfl, hau, -⟩ := hu'
  obtain ⟨ax, nx, cx, rfl, hax, -⟩ := hx'
  have HU := Lib.hid hu
  have HX := Lib.hid hx
  have HL := Lib.hid hL
  have HAU := Lib.hid hau
  have HAX := Lib.hid hax
  clear hu hx hL hau hax
  by_cases h4 : 400 < nu
  · have d4 : decide ((400 : Int) < (nu : Int)) = true := by simp; omega
    go_enter Tryd.func6, Tryd.ntmps6
    go_wp2_with fail
    generalize hw1 : World.alloc w _ = w1
    have HS1 : Hid (At2 w1 w.heap.size 29 (.int .u64 (f : Int)) (.slice au nu cu)) := Lib.hid (by rw [← hw1]; exact heap_alloc_new _ _)
    have N1 : New w w1 := by rw [← hw1]; exact (Below.refl _ _).alloc (Nat.le_refl _) _
    clear hw1
    obtain ⟨g, hg⟩ : ∃ g, w.heap.size = g := ⟨_, rfl⟩
    rw [hg] at HS1
    rw [hg]
    clear hg
    refine (awake08 w1 (HL.out.new N1)).mono ?_
    rintro e w2 ⟨rfl, N2⟩
    have NN2 := New.trans N1 N2
    have HS2 := Lib.hid (HS1.out.new N2)
    clear HS1 N2 N1
    obtain ⟨s0, s1⟩ := HS2.out.cells
    go_wp2_with fail
    refine (awake08 w2 (HL.out.new NN2)).mono ?_
    rintro e w5 ⟨rfl, N5⟩
    clear s0 s1
    go_wp2
    go_ret
    exact ⟨rfl, New.trans NN2 N5⟩
  have d4 : decide ((400 : Int) < (nu : Int)) = false := by simp; omega
  by_cases h5 : 500 < nx
  · have d5 : decide ((500 : Int) < (nx : Int)) = true := by simp; omega
    go_enter Tryd.func6, Tryd.ntmps6
    go_wp2_with fail
    generalize hw1 : World.alloc w _ = w1
    have HS1 : Hid (At2 w1 w.heap.size 29 (.int .u64 (f : Int)) (.slice au nu cu)) := Lib.hid (by rw [← hw1]; exact heap_alloc_new _ _)
    have N1 : New w w1 := by rw [← hw1]; exact (Below.refl _ _).alloc (Nat.le_refl _) _
    clear hw1
    obtain ⟨g, hg⟩ : ∃ g, w.heap.size = g := ⟨_, rfl⟩
    rw [hg] at HS1
    rw [hg]
    clear hg
    refine (awake08 w1 (HL.out.new N1)).mono ?_
    rintro e w2 ⟨rfl, N2⟩
    have NN2 := New.trans N1 N2
    have HS2 := Lib.hid (HS1.out.new N2)
    clear HS1 N2 N1
    obtain ⟨s0, s1⟩ := HS2.out.cells
    go_wp2_with fail
    refine (awake08 w2 (HL.out.new NN2)).mono ?_
    rintro e w5 ⟨rfl, N5⟩
    clear s0 s1
    go_wp2
    go_ret
    exact ⟨rfl, New.trans NN2 N5⟩
  have d5 : decide ((500 : Int) < (nx : Int)) = false := by simp; omega
  have LU : Hid (l.length ≤ 400) := by show _ ≤ _; rw [HAU.out]; omega
  have LX : Hid (b.length ≤ 500) := by show _ ≤ _; rw [HAX.out]; omega
  clear h4 h5 HAU HAX
  go_enter Tryd.func6, Tryd.ntmps6
  go_wp2_with fail
  generalize hw1 : World.alloc w _ = w1
  have HS1 : Hid (At2 w1 w.heap.size 29 (.int .u64 (f : Int)) (.slice au nu cu)) := Lib.hid (by rw [← hw1]; exact heap_alloc_new _ _)
  have N1 : New w w1 := by rw [← hw1]; exact (Below.refl _ _).alloc (Nat.le_refl _) _
  clear hw1
  obtain ⟨g, hg⟩ : ∃ g, w.heap.size = g := ⟨_, rfl⟩
  rw [hg] at HS1
  rw [hg]
  clear hg
  refine (awake08 w1 (HL.out.new N1)).mono ?_
  rintro e w2 ⟨rfl, N2⟩
  have NN2 := New.trans N1 N2
  have HS2 := Lib.hid (HS1.out.new N2)
  clear HS1 N2 N1
  obtain ⟨s0, s1⟩ := HS2.out.cells
  go_wp2_with fail
  clear s0 s1
  refine (penNew w2).mono ?_
  rintro e w3 ⟨rfl, P3, N3, -⟩
  have HP3 := Lib.hid P3
  have NN3 := New.trans NN2 N3
  have HS3 := Lib.hid (HS2.out.new N3)
  have U3 := Lib.hid (HU.out.new NN3)
  have HUL : Hid (∀ k, blk (.slice au nu cu) = some k → l ≠ [] → k < w2.heap.size) := Lib.hid (fun k hk hne => (HU.out.new NN2).lt hk hne)
  have HGL : Hid (g < w2.heap.size) := Lib.hid (lt_of_block HS2.out)
  clear P3 HS2
  obtain ⟨s0, s1⟩ := HS3.out.cells
  go_wp2_with fail
  clear s0 s1
  refine (hpkeWrite w3 w2.heap.size none (some []) HP3.out f hf _ l U3.out (fun hne => ⟨fun e => by have := HUL.out _ e hne; omega, fun h => h⟩) (by intro l' h; cases h; have := LU.out; simp; omega)).mono ?_
  rintro e w4 ⟨rfl, P4⟩
  have HWT : wText 2 l (Option.map (fun x => x ++ be 8 f) (some [])) = some (hwOf f l) := wText_in 2 l (be 8 f) (by have := LU.out; simp; omega)
  rw [HWT] at P4
  have HS4 := Lib.hid (HS3.out.only P4.1 (by rintro (e | e); have := HGL.out; omega; cases e))
  have HP4 := Lib.hid (Pend.step N3 (Nat.le_refl _) (by intro k h; cases h) P4)
  clear HWT P4 HS3 HP3 U3 HUL HGL NN3 N3
  go_wp2_with fail
  refine (pendBytes HP4.out (by intro l' h; cases h; rw [hwOf_length]; have := LU.out; omega)).mono ?_
  rintro e w5 ⟨⟨a5, n5, c5, rfl, F5⟩, P5⟩
  have HB5 : Hid (Rd w5 (.slice a5 n5 c5) (hwOf f l)) := F5.1
  have NN5 : New w w5 := New.trans NN2 P5.1
  have HS5 := Lib.hid (HS4.out.new F5.2.1)
  clear F5 P5 HP4 HS4 NN2
  go_wp2_with fail
  refine (eyeOpen w5 _ b (HX.out.new NN5) (by have := LX.out; omega)).mono ?_
  rintro e w6 ⟨p6, d6, rfl, hp6, E6, hd6, N6⟩
  have HE6 := Lib.hid E6
  have HD6 := Lib.hid hd6
  clear E6 hd6
  have k0 := run_str (P := Tryd.prog) Tryd.underlying23 Tryd.underlying5 Tryd.underlying9 (HX.out.new (New.trans NN5 N6))
  go_upto_region 8 with fail
  clear k0
  generalize hw7 : World.alloc w6 _ = w7
  have HR7 : Hid (REye w7 w6.heap.size b 0) := Lib.hid (by rw [← hw7]; exact heap_alloc_new _ _)
  have N7 : New w6 w7 := by rw [← hw7]; exact (Below.refl _ _).alloc (Nat.le_refl _) _
  have hz7 : w6.heap.size < w7.heap.size := by rw [← hw7]; simp
  clear hw7
  have NV7 := New.trans N6 N7
  have HE7 := Lib.hid (HE6.out.new N7)
  have hpq : ¬ p6 = w6.heap.size := by obtain ⟨v, hv, -⟩ := HE6.out; have := lt_of_block hv; omega
  have HDQ : Hid (∀ k, d6 = some k → ¬ k = w6.heap.size) := Lib.hid fun k hk => by have := (HD6.out k hk).2; omega
  have HDL : Hid (∀ k, d6 = some k → k < w7.heap.size) := Lib.hid (fun k hk => by have := (HD6.out k hk).2; omega)
  have hqw : w5.heap.size ≤ w6.heap.size := N6.size
  clear N6 N7 HE6 HD6
  obtain ⟨q, hq⟩ : ∃ q, w6.heap.size = q := ⟨_, rfl⟩
  rw [hq] at HR7 hz7 hpq HDQ hqw
  rw [hq]
  clear hq
  go_wp2_with fail
  refine (hpkeRead w7 p6 d6 b 0 most HE7.out HDL.out (by have := LX.out; omega)).mono ?_
  rintro e w8 ⟨a8, n8, c8, rfl, r8, E8, hn8⟩
  have HE8 := Lib.hid E8.1
  have NV8 : New w5 w8 := New.eye NV7 E8 hp6
  have HR8 := Lib.hid (HR7.out.only E8.2 (fun e => hpq e.symm))
  have R8 := Lib.hid r8
  have HN8 : Hid (∀ k, blk (.slice a8 n8 c8) = some k → hrText most b 0 ≠ [] → ¬ k = q) := Lib.hid fun k hk hne e => by have := hn8 k hk hne; omega
  clear NV7 HE7 HR7 r8 E8 hn8 hz7 HDL
  go_wp2_with fail
  refine (refRead8 w8 q b 0 most HR8.out (by have := LX.out; omega)).mono ?_
  rintro e w9 ⟨rfl, E9⟩
  have HR9 := Lib.hid E9.1
  have HE9 := Lib.hid (HE8.out.only E9.2 hpq HDQ.out)
  have NV9 : New w5 w9 := New.reye NV8 E9 hqw
  have R9 := Lib.hid (R8.out.only E9.2 HN8.out)
  have HTL : Hid ((hrT most b 0).2.1.length ≤ 140737488355328) := Lib.hid (Nat.le_trans (eText_rest _ _ _ _) (Nat.le_trans (eTake_rest _ _ _) (by have := LX.out; omega)))
  clear NV8 HE8 HR8 E9 R8 HN8 HDQ hpq hqw hp6
  generalize hrFrom most b 0 = FR at *
  generalize hrText most b 0 = TX at *
  generalize hrT most b 0 = t3 at *
  go_upto_region 9 with fail
  generalize hw10 : World.alloc w9 _ = w10
  have HX10 : Hid (At2 w10 w9.heap.size 29 (.int .u64 (FR : Int)) (.slice a8 n8 c8)) := Lib.hid (by rw [← hw10]; exact heap_alloc_new _ _)
  have N10 : New w9 w10 := by rw [← hw10]; exact (Below.refl _ _).alloc (Nat.le_refl _) _
  have hz10 : w10.heap.size = w9.heap.size + 1 := by rw [← hw10]; simp
  clear hw10
  rw [← hz10]
  clear hz10
  generalize hw11 : World.alloc w10 _ = w11
  have HY11 : Hid (At2 w11 w10.heap.size 34 (.int .u64 (FR : Int)) (.string (bstr TX))) := Lib.hid (by rw [← hw11]; exact heap_alloc_new _ _)
  have N11 : New w10 w11 := by rw [← hw11]; exact (Below.refl _ _).alloc (Nat.le_refl _) _
  clear hw11
  have NV11 := New.trans NV9 (New.trans N10 N11)
  have H11 : Hid (Nine w11 g w9.heap.size w10.heap.size p6 q d6 (f : Int) (FR : Int) (.slice au nu cu) (.slice a8 n8 c8) (.slice a5 n5 c5) l TX (hwOf f l) t3.2.1 t3.2.2) := Lib.hid ⟨HS5.out.new NV11, HX10.out.new N11, HY11.out, HU.out.new (New.trans NN5 NV11), R9.out.new (New.trans N10 N11), HB5.out.new NV11, HE9.out.new (New.trans N10 N11), HR9.out.new (New.trans N10 N11)⟩
  clear HX10 HY11 N10 N11 NV9 R9 HE9 HR9
  generalize w9.heap.size = gx at *
  generalize w10.heap.size = gy at *
  have H12 := Lib.hid (H11.out.new (Below.refl _ _).drew)
  have NV12 : New w5 w11.drew := NV11.drew
  have HW := Lib.hid fun wx => refWrite8 wx f l hf (by have := LU.out; omega)
  have HBK := Lib.hid (fun h => hr_back f l 400 hf h (by have := LU.out; omega) (by have := LU.out; omega))
  have HWL := Lib.hid (hwOf_length f l)
  generalize hwOf f l = W at *
  have kb : ((bstr W).toList != (bstr W).toList) = false := by simp
  have kt : ((bstr TX).toList != (bstr TX).toList) = false := by simp
  refine region_ord (Strs8 g gx gy (f : Int) (FR : Int) (.slice au nu cu) (.slice a8 n8 c8) (.slice a5 n5 c5) l TX W) [(0, true), (1, true), (2, true), (3, true), (4, true), (5, true), (6, true), (7, true), (8, true), (9, true), (10, true), (11, false), (12, true), (13, true), (14, true), (15, true), (16, true), (17, true), (18, true), (19, true), (20, true), (21, true), (22, true), (23, true), (24, true), (25, true), (26, true), (27, true), (28, true), (29, true), (30, true), (32, true), (31, false), (33, false), (34, true), (35, true)] (by kernel_rfl) (by kernel_rfl) H12.out.strs (fun _ => ?_)
  generalize w11.drew = w12 at *
  clear H11 NV11
  unfold Strs8
  iterate 11 (apply ord_take; (simp only [List.getElem?_toArray, List.getElem?_cons_succ, List.getElem?_cons_zero]; rfl); rfl; (intro w hSw; (try dsimp only at hSw); go_simp; try with_reducible rfl); intro _; try simp only [Act.put, List.setIfInBounds_toArray, List.set_cons_zero, List.set_cons_succ])
  (apply ord_only; (simp only [List.getElem?_toArray, List.getElem?_cons_succ, List.getElem?_cons_zero]; rfl); rfl; intro K hK)
  go_simp
  refine (HW.out w12).mono ?_
  rintro e w13 ⟨rfl, N13⟩
  have H13 := Lib.hid (H12.out.new N13)
  have NV13 := New.trans NV12 N13
  clear H12 N13 NV12 HW
  refine hK.out _ _ (H13.out.strs) (fun _ => ?_)
  clear hK K
  try simp only [Act.put, List.setIfInBounds_toArray, List.set_cons_zero, List.set_cons_succ]
  iterate 20 (apply ord_take; (simp only [List.getElem?_toArray, List.getElem?_cons_succ, List.getElem?_cons_zero]; rfl); rfl; (intro w hSw; (try dsimp only at hSw); go_simp; try with_reducible rfl); intro _; try simp only [Act.put, List.setIfInBounds_toArray, List.set_cons_zero, List.set_cons_succ])
  (apply ord_only; (simp only [List.getElem?_toArray, List.getElem?_cons_succ, List.getElem?_cons_zero]; rfl); rfl; intro K hK)
  go_simp
  refine (eyeEnd w13 p6 d6 _ _ H13.out.eye).mono ?_
  rintro e w14 ⟨rfl, rfl⟩
  refine hK.out _ _ (H13.out.strs) (fun _ => ?_)
  clear hK K
  try simp only [Act.put, List.setIfInBounds_toArray, List.set_cons_zero, List.set_cons_succ]
  (apply ord_only; (simp only [List.getElem?_toArray, List.getElem?_cons_succ, List.getElem?_cons_zero]; rfl); rfl; intro K hK)
  go_simp
  refine (reyeEnd w13 q _ _ H13.out.reye HTL.out).mono ?_
  rintro e w14 ⟨rfl, rfl⟩
  refine hK.out _ _ (H13.out.strs) (fun _ => ?_)
  clear hK K
  try simp only [Act.put, List.setIfInBounds_toArray, List.set_cons_zero, List.set_cons_succ]
  have ke : (eEnd t3.2.1 t3.2.2 != eEnd t3.2.1 t3.2.2) = false := by simp
  iterate 2 (apply ord_take; (simp only [List.getElem?_toArray, List.getElem?_cons_succ, List.getElem?_cons_zero]; rfl); rfl; (intro w hSw; (try dsimp only at hSw); go_simp; try with_reducible rfl); intro _; try simp only [Act.put, List.setIfInBounds_toArray, List.set_cons_zero, List.set_cons_succ])
  apply ord_done
  clear ke kb kt
  go_wp2_with fail
  refine (eyeOpen w13 _ W H13.out.rb (by rw [HWL.out]; have := LU.out; omega)).mono ?_
  rintro e w14 ⟨p14, d14, rfl, hp14, E14, hd14, N14⟩
  have HE14 := Lib.hid E14
  have HD14 := Lib.hid (fun k hk => (hd14 k hk).2)
  have NV14 := New.trans NV13 N14
  have hp14' : w5.heap.size ≤ p14 := Nat.le_trans NV13.size hp14
  clear E14 hd14 hp14 N14 H13 HTL NV13
  go_wp2_with fail
  refine (hpkeRead w14 p14 d14 W 0 400 HE14.out HD14.out (by rw [HWL.out]; have := LU.out; omega)).mono ?_
  rintro e w15 ⟨a15, n15, c15, rfl, r15, E15, -⟩
  have NV15 : New w5 w15 := New.eye NV14 E15 hp14'
  have R15 := Lib.hid r15
  clear r15 E15 HE14 HD14 NV14 hp14'
  go_upto_region 12 with fail
  generalize hw16 : World.alloc w15 _ = w16
  have HZ16 : Hid (At2 w16 w15.heap.size 29 (.int .u64 (hrFrom 400 W 0 : Int)) (.slice a15 n15 c15)) := Lib.hid (by rw [← hw16]; exact heap_alloc_new _ _)
  have N16 : New w15 w16 := by rw [← hw16]; exact (Below.refl _ _).alloc (Nat.le_refl _) _
  clear hw16
  have NV16 := New.trans NV15 N16
  have NN16 := New.trans NN5 NV16
  have HS16 := Lib.hid (HS5.out.new NV16)
  have R16 := R15.out.new N16
  clear N16 NV15 R15 HS5 HB5
  generalize w15.heap.size = gz at *
  have HRT := Lib.hid (fun wx => refRight7 wx f hf)
  obtain ⟨s0, s1⟩ := HS16.out.cells
  by_cases hr : rightP f = true
  · obtain ⟨e1, e2⟩ := HBK.out hr
    rw [e1] at HZ16
    rw [e2] at R16
    rw [hr] at HRT
    clear e1 e2 hr HBK HWL
    obtain ⟨z0, z1⟩ := HZ16.out.cells
    have k0 := run_str (P := Tryd.prog) Tryd.underlying23 Tryd.underlying5 Tryd.underlying9 R16
    have k1 := run_str (P := Tryd.prog) Tryd.underlying23 Tryd.underlying5 Tryd.underlying9 (HU.out.new NN16)
    have kl : ((bstr l).toList == (bstr l).toList) = true := by simp
    have kf : ((f : Int) == (f : Int)) = true := by simp
    clear R16
    go_wp2_with fail
    refine (HRT.out w16).mono ?_
    rintro e w17 ⟨rfl, rfl⟩
    go_wp2
    go_ret
    exact ⟨rfl, NN16⟩
  · have hr' : rightP f = false := by simpa using hr
    rw [hr'] at HRT
    clear hr hr' HBK HWL
    go_wp2_with fail
    refine (HRT.out w16).mono ?_
    rintro e w17 ⟨rfl, rfl⟩
    clear s0 s1
    go_wp2
    go_ret
    exact ⟨rfl, NN16⟩

end Go.Proofs.YtkpenodbjmhoeaaDoor
