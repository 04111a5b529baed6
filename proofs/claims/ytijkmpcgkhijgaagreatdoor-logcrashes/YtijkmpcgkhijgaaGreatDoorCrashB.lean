/-
  LogCrashes: what its walk has behind the crash.
-/
import Derived.Test.YtijkmpcgkhijgaaGreatDoorCrashA
import Derived.Test.YtijkmpcgkhijgaaGreatDoorBase
namespace Go.Proofs.YtijkmpcgkhijgaaGreatDoor
set_option linter.unusedVariables false
set_option linter.unusedSimpArgs false
set_option maxRecDepth 100000
open Go.RowKit

set_option maxHeartbeats 1000000 in
/-- the reference's Texts, in memory of its own -/
theorem refTextsOwn (w : World) (x : Value) (ps : List (Value × List UInt8)) (h : RdL w x ps) (hl : ps.length ≤ 1099511627776) :
    Calls Tryz.prog 18 #[x] w fun e w' => New w w' ∧ ∃ a c, e = .returned (.slice a (ps.map (·.2)).length c) ∧ w'.ownsRow w.heap.size 9 1 (.slice a (ps.map (·.2)).length c) (ps.map (·.2)).length ((ps.map (·.2)).map strV) := by
  obtain ⟨i0, hi0, hz0, hz1, hz2⟩ := info_parts infoStr
  have H := Lib.hid h
  obtain ⟨ax, nx, cx, rfl, hn, hle, hm, -⟩ := id h.1
  rw [List.length_map] at hn
  subst hn
  clear h
  go_enter Tryz.func18, Tryz.ntmps18
  go_wp2
  go_loopw [3, 4] (fun v i wr => ∃ k : Nat, k ≤ ps.length ∧ i = .int .i64 k ∧ New w wr ∧ wr.ownsRow w.heap.size 9 1 v k ((ps.take k).map (fun p => strV p.2))) (fun _ i _ => ps.length - (intOf i).toNat)
  case atStart => exact ⟨0, Nat.zero_le _, rfl, Below.refl _ _, World.ownsRow_nil _ _ _ _⟩
  case round =>
    obtain ⟨k, hk, rfl, hnew, hown⟩ := hrel
    obtain ⟨av, cv, rfl, hcv, -⟩ := ownSl_form hown
    have HN := Lib.hid hnew
    by_cases hlt : k < ps.length
    · have hli : (k : Int) < (ps.length : Int) := by omega
      obtain ⟨b, off, rfl, hcell⟩ := (H.out.1.new hnew).cell (by omega)
      have hc1 := hcell k (ps[k]).1 (by rw [List.getElem?_map, List.getElem?_eq_getElem hlt]; rfl)
      have hrd := (H.out.2 ps[k] (List.getElem_mem hlt)).new hnew
      have hst := run_str (P := Tryz.prog) Tryz.underlying42 Tryz.underlying5 Tryz.underlying9 hrd
      obtain ⟨v', wa, happ, hown', hO', -, -⟩ := run_append_u (P := Tryz.prog) w.heap.size wr 28 28 9 i0 _ 16 Tryz.underlying28 hi0 hz0 hz1 hz2 rfl _ k _ hown (.string (bstr (ps[k]).2)) rfl (by omega) (by omega) hnew.size
      have HAPP := Lib.hid happ
      have HOWN : Hid (wa.ownsRow w.heap.size 9 1 v' (k + 1) ((ps.take (k + 1)).map (fun p => strV p.2))) := by
        refine Lib.hid ?_
        rw [List.take_succ_eq_append_getElem hlt, List.map_append]
        exact hown'
      have HN2 : Hid (New w wa) := Lib.hid (Below.trans hnew (hO'.below hnew.size (fun j hj => own_from hown j hj)))
      generalize (ps[k]).1 = u at *
      generalize bstr (ps[k]).2 = S at *
      clear happ hown' hO' hown hcell hrd hnew hi0 hz0 hz1 hz2
      go_wp2_with (at_builtin; refine wpList_app1 rfl _ _ 28 rfl _ _ rfl rfl HAPP.out ?_)
      go_roundw
      case rel => exact ⟨k + 1, by omega, by go_num, HN2.out, HOWN.out⟩
      case measure => simp [intOf]; omega
    · obtain rfl : k = ps.length := by omega
      have HR : Hid (wr.ownsRow w.heap.size 9 1 (.slice av ps.length cv) ps.length ((ps.map (·.2)).map strV)) := by
        refine Lib.hid ?_
        have := hown
        rw [List.take_length] at this
        rw [List.map_map]
        exact this
      clear hown hnew hlt
      go_wp2
      go_ret
      refine ⟨HN.out, av, cv, ?_, ?_⟩
      · rw [List.length_map]; rfl
      · rw [List.length_map]; exact HR.out

/-- what the region tells is few and short; a second time the same -/
theorem crFacts {C C' : List UInt8} (hC : C.length = 128 * (1 + 3 * 4)) (hs : secs C' 1 (3 * 4) = zeroB (secs C 1 (3 * 4)) (128 * 4 * (lgTold (secs C 1 (3 * 4)) (128 * 4) 3 0 lgStart).last + (lgTold (secs C 1 (3 * 4)) (128 * 4) 3 0 lgStart).used)) {sure : Nat} (hsu : sure ≤ (lgTold (secs C 1 (3 * 4)) (128 * 4) 3 0 lgStart).ts.length) :
    ∃ tt tc, (ldS (secs C 1 (3 * 4)) (128 * 4) 3).ts = tt ∧ (ldS (secs C 1 (3 * 4)) (128 * 4) 3).ch = tc ∧ (ldS (secs C' 1 (3 * 4)) (128 * 4) 3).ts = tt ∧ (ldS (secs C' 1 (3 * 4)) (128 * 4) 3).ch = tc ∧ (roT (secL C 13) 1 3 4).ts = tt ∧ okTexts tt ∧ tt.length ≤ 1000 ∧ sure ≤ tt.length := by
  have hl : (secs C 1 (3 * 4)).length = 128 * 4 * 3 := by rw [secs_length (by omega)]
  have h1 := ldS_told (secs C 1 (3 * 4)) (128 * 4) 3
  have h2 := ldS_told (secs C' 1 (3 * 4)) (128 * 4) 3
  rw [hs, told_zeroed hl, ← hs] at h2
  have h3 : roT (secL C 13) 1 3 4 = lgTold (secs C 1 (3 * 4)) (128 * 4) 3 0 lgStart := by
    unfold roT roB
    rw [see_secs C 13 1 (3 * 4) (by omega)]
  have h4 := (lgTold_fits hl 3 0 lgStart (by omega) (by simp [lgStart]) (.inr ⟨rfl, rfl⟩) (by simp [lgStart])).2.2
  have h5 := told_texts (B := secs C 1 (3 * 4)) (z := 128 * 4) 3 0 lgStart (by simp [lgStart]) (fun t ht => by simp [lgStart] at ht)
  exact ⟨_, _, h1.1, h1.2, h2.1, h2.2, by rw [h3], h5, by omega, hsu⟩

/-- behind the second Open: only new memory from here on -/
structure CrEnd (W : World) (v : Value) (laid : List (List UInt8)) (X : Nat → Prop) (g ge b0 : Nat) (vS : Value) (S : List (List UInt8)) (p2 p3 N sz : Nat) (s2 s3 : PLg) (got : Value) (gl : List (List UInt8)) (wr : World) : Prop where
  new : New W wr
  own : wr.ownsRow W.heap.size 9 1 v laid.length (laid.map strV)
  obj : CrObj wr X g ge b0 vS S p2 N sz s2 got gl
  two : ∃ F, LogM wr F p3 g 1 N sz s3

section
variable {W wr wr' : World} {n sz N r g p ge b0 p2 p3 : Nat} {v vS got : Value} {laid gl S : List (List UInt8)} {X : Nat → Prop} {C : List UInt8} {s2 s3 : PLg}

theorem CrEnd.more (h : CrEnd W v laid X g ge b0 vS S p2 p3 N sz s2 s3 got gl wr) (hn : New wr wr') : CrEnd W v laid X g ge b0 vS S p2 p3 N sz s2 s3 got gl wr' := by
  obtain ⟨F, h1⟩ := h.two
  exact ⟨New.trans h.new hn, own_more h.own hn, h.obj.new hn, ⟨F, h1.new hn⟩⟩

/-- Open behind the crash, the reference's disk made between -/
theorem crOpen1 {w3 w4 : World} (h : CrMid W (1 + N * sz) r g v laid X C w3) (hn : New w3 w4) (hr : RDk (-1) w4 w3.heap.size ge vS (.slice none 0 0) (.slice none 0 0) S [] []) (hL : Laid W) (hb : 2 ≤ sz ∧ sz ≤ 10) (hN : 1 ≤ N ∧ N ≤ 10) :
    Calls Tryz.prog 17 #[.pointer (some ⟨g, 0, none⟩), .int .i64 1, .int .i64 (N : Int), .int .i64 (sz : Int)] w4 fun e w' => ∃ p2 X' C', e = .returned (.tuple #[.pointer (some ⟨p2, 0, none⟩), .nilIface]) ∧ CrMid W (1 + N * sz) r g v laid X' C' w' ∧ CrObj w' X' g ge w3.heap.size vS S p2 N sz (ldS (secs C 1 (N * sz)) (128 * sz) N) (.slice none 0 0) [] ∧ blk v ≠ some ge ∧
      secs C' 1 (N * sz) = zeroB (secs C 1 (N * sz)) (128 * sz * (lgTold (secs C 1 (N * sz)) (128 * sz) N 0 lgStart).last + (lgTold (secs C 1 (N * sz)) (128 * sz) N 0 lgStart).used) := by
  refine (cmOpen (h.avoid hn) hL hb hN (Nat.le_refl _)).mono ?_
  rintro e w' ⟨p2, F2, C', he, hl, hm, ho, hs⟩
  have hge : ge < w4.heap.size := hr.at_.lt
  have hx : ∀ k, blk vS = some k → w3.heap.size ≤ k ∧ k < w4.heap.size := fun k hk => ⟨own_from hr.oS k hk, own_lt15 hr.oS k hk⟩
  refine ⟨p2, _, C', he, hm, ⟨hr.apart ho (fun hh => hh.2.2.2 (.inr ⟨hr.ge, hge⟩)) (fun k hk hh => hh.2.2.2 (.inr (hx k hk))), ⟨.inl (.inr ⟨hr.ge, hge⟩), fun k hk => .inl (.inr (hx k hk))⟩, ⟨F2, hl, fun k hk => .inr hk⟩, RdV.nil _, fun hne => absurd rfl hne⟩, fun e => ?_, hs⟩
  have := own_lt15 h.own _ e
  have := hr.ge
  omega

/-- the strings that the reference's Texts made -/
theorem crGot {w5 w6 w7 : World} {got' : Value} {gl' : List (List UInt8)} (h : CrMid W n r g v laid X C w5) (ho : CrObj w5 X g ge b0 vS S p2 N sz s2 got gl) (hn : New w5 w6) (hn2 : New w6 w7) (hw : w7.ownsRow w6.heap.size 9 1 got' gl'.length (gl'.map strV)) :
    ∃ X', CrMid W n r g v laid X' C w7 ∧ CrObj w7 X' g ge b0 vS S p2 N sz s2 got' gl' ∧ blk got' ≠ some ge := by
  have hn3 := New.trans hn hn2
  have h1 := (ho.new hn3).mono (Y := fun k => X k ∨ (w5.heap.size ≤ k ∧ k < w7.heap.size)) (fun k hk => .inl hk)
  have hsz := hn.size
  refine ⟨_, h.avoid hn3, ⟨h1.rdk, h1.xk, h1.log, RdV.of_own hw, fun _ k hk => .inr ⟨?_, own_lt15 hw k hk⟩⟩, fun e => ?_⟩
  · have := own_from hw k hk; omega
  · have := own_from hw _ e
    have : ge < w5.heap.size := ho.rdk.at_.lt
    omega

/-- a crash more -/
theorem crCrash (h : CrMid W n r g v laid X C wr) (ho : CrObj wr X g ge b0 vS S p2 N sz s2 got gl) :
    Calls Tryz.prog 14 #[.pointer (some ⟨g, 0, none⟩), .slice none 0 0] wr fun e w' => (∃ x, e = .returned (.int .i64 x)) ∧ CrMid W n r g v laid X C w' ∧ CrObj w' X g ge b0 vS S p2 N sz s2 got gl := by
  refine (cmCrash h).mono ?_
  rintro e w' ⟨he, h1, h2⟩
  exact ⟨he, h1, ho.only h2 (fun k hk hh => hh.2.2.2 hk)⟩

/-- Open once more -/
theorem crOpen2 (h : CrMid W (1 + N * sz) r g v laid X C wr) (ho : CrObj wr X g ge b0 vS S p2 N sz s2 got gl) (hL : Laid W) (hb : 2 ≤ sz ∧ sz ≤ 10) (hN : 1 ≤ N ∧ N ≤ 10) :
    Calls Tryz.prog 17 #[.pointer (some ⟨g, 0, none⟩), .int .i64 1, .int .i64 (N : Int), .int .i64 (sz : Int)] wr fun e w' => ∃ p3, e = .returned (.tuple #[.pointer (some ⟨p3, 0, none⟩), .nilIface]) ∧ CrEnd W v laid X g ge b0 vS S p2 p3 N sz s2 (ldS (secs C 1 (N * sz)) (128 * sz) N) got gl w' := by
  refine (cmOpen h hL hb hN (Nat.le_refl _)).mono ?_
  rintro e w' ⟨p3, F3, C', he, hl, hm, hu, -⟩
  exact ⟨p3, he, hm.new, hm.own, ho.only hu (fun k hk hh => hh.2.2.2 hk), ⟨F3, hl⟩⟩

/-- the reference's Open -/
theorem crRef (h : CrEnd W v laid X g ge b0 vS S p2 p3 N sz s2 s3 got gl wr) (hv : blk v ≠ some ge) (hgt : blk got ≠ some ge) (hS : S.length = 13) (hb0 : W.heap.size ≤ b0) :
    Calls Tryz.prog 22 #[.pointer (some ⟨ge, 0, none⟩), .int .i64 1, .int .i64 3, .int .i64 4] wr fun e w' => ∃ gm mT, e = .returned (.tuple #[.pointer (some ⟨gm, 0, none⟩), .int .i64 0]) ∧ w'.cell? ⟨gm, 8, none⟩ = some mT ∧ RdV w' mT ((roT S 1 3 4).ts.map strV) ∧ RdV w' v (laid.map strV) ∧ RdV w' got (gl.map strV) ∧ New W w' := by
  have h0 := refOpen15 h.obj.rdk (by have := h.obj.rdk.ge; have := h.obj.rdk.at_.lt; omega) 1 3 4 (by decide) (by decide) (by rw [hS]; decide) (by decide) (by decide) (by omega)
  refine h0.mono ?_
  rintro e w' ⟨gm, vT, B', he, hr, ho⟩
  have hge := h.obj.rdk.ge
  refine ⟨gm, vT, he, hr.at_.cell 8 rfl, RdV.of_own hr.oT, (RdV.of_own h.own).only ho (fun k hk _ e => hv (by rw [hk, e])), h.obj.rdg.only ho (fun k hk _ e => hgt (by rw [hk, e])), Below.trans h.new (ho.below h.new.size (fun k hk => by omega))⟩

theorem crFinOf {A E1 E2 : Prop} (h : (A ∧ ∃ s B Bd, LwSt W sz N r g p (-1) s B Bd v laid X wr) ∨ (E1 ∧ E2 ∧ ∃ sure, CrFin W sz N r g p sure v laid X wr)) : ∃ sure, CrFin W sz N r g p sure v laid X wr := by
  rcases h with ⟨-, s, B, Bd, h⟩ | ⟨-, -, h⟩
  · exact ⟨_, h.fin⟩
  · exact h

theorem crStOf {A E1 E2 : Prop} (h : (A ∧ ∃ s B Bd, LwSt W sz N r g p (-1) s B Bd v laid X wr) ∨ (E1 ∧ E2 ∧ ∃ sure, CrFin W sz N r g p sure v laid X wr)) (hn : ¬ E1) : ∃ s B Bd, LwSt W sz N r g p (-1) s B Bd v laid X wr := by
  rcases h with ⟨-, h⟩ | ⟨e, -⟩
  · exact h
  · exact absurd e hn
end

end Go.Proofs.YtijkmpcgkhijgaaGreatDoor
