/-
  The reference's Texts and Same of layer 1: lists of texts.
-/
import Derived.Test.YtnekcdpfphgpbaaProg
import Derived.Test.YtnekcdpfphgpbaaBase
namespace Go.Proofs.Ytnekcdpfphgpbaa
set_option linter.unusedVariables false
set_option linter.unusedSimpArgs false
open Go.RowKit

abbrev strV (l : List UInt8) : Value := .string (bstr l)

theorem infoStr : (Try.prog.info? 9).map (fun i => (i.zero, i.size, i.bytes)) = some (some (.string ByteArray.empty), 1, 16) := by kernel_rfl

def TextsTo (w : World) (ls : List (List UInt8)) (e : Ending) (w' : World) : Prop := New w w' ∧ ∃ a c, e = .returned (.slice a ls.length c) ∧ RdV w' (.slice a ls.length c) (ls.map strV)

set_option maxRecDepth 100000 in
set_option maxHeartbeats 1000000 in
theorem refTexts (w : World) (x : Value) (ps : List (Value × List UInt8)) (h : RdL w x ps) (hl : ps.length ≤ 1099511627776) :
    Calls Try.prog 18 #[x] w (TextsTo w (ps.map (·.2))) := by
  obtain ⟨i0, hi0, hz0, hz1, hz2⟩ := info_parts infoStr
  have H := Lib.hid h
  obtain ⟨ax, nx, cx, rfl, hn, hle, hm, -⟩ := id h.1
  rw [List.length_map] at hn
  subst hn
  clear h
  go_enter Try.func18, Try.ntmps18
  go_wp2
  go_loopw [3, 4] (fun v i wr => ∃ k : Nat, k ≤ ps.length ∧ i = .int .i64 k ∧ New w wr ∧ wr.ownsRow w.heap.size 9 1 v k ((ps.take k).map (fun p => strV p.2))) (fun _ i _ => ps.length - (intOf i).toNat)
  case atStart => exact ⟨0, Nat.zero_le _, rfl, Below.refl _ _, World.ownsRow_nil _ _ _ _⟩
  case round =>
    obtain ⟨k, hk, rfl, hnew, hown⟩ := hrel
    obtain ⟨av, cv, rfl, hcv, -⟩ := ownSl_form hown
    have HN := Lib.hid hnew
    by_cases hlt : k < ps.length
    · have hli : (k : Int) < (ps.length : Int) := by omega
      obtain ⟨b, off, rfl, hcell⟩ := (H.out.1.new hnew).cell (by omega)
      have hc1 := hcell k (ps[k]).1 (by rw [List.getElem?_map, List.getElem?_eq_getElem hlt]; rfl)
      have hrd := (H.out.2 ps[k] (List.getElem_mem hlt)).new hnew
      have hst := run_str (P := Try.prog) Try.underlying37 Try.underlying5 Try.underlying9 hrd
      obtain ⟨v', wa, happ, hown', hO', -, -⟩ := run_append_u (P := Try.prog) w.heap.size wr 51 51 9 i0 _ 16 Try.underlying51 hi0 hz0 hz1 hz2 rfl _ k _ hown (.string (bstr (ps[k]).2)) rfl (by omega) (by omega) hnew.size
      have HAPP := Lib.hid happ
      have HOWN : Hid (wa.ownsRow w.heap.size 9 1 v' (k + 1) ((ps.take (k + 1)).map (fun p => strV p.2))) := by
        refine Lib.hid ?_
        rw [List.take_succ_eq_append_getElem hlt, List.map_append]
        exact hown'
      have HN2 : Hid (New w wa) := Lib.hid (Below.trans hnew (hO'.below hnew.size (fun j hj => own_from hown j hj)))
      generalize (ps[k]).1 = u at *
      generalize bstr (ps[k]).2 = S at *
      clear happ hown' hO' hown hcell hrd hnew hi0 hz0 hz1 hz2
      go_wp2_with (at_builtin; refine wpList_app1 rfl _ _ 51 rfl _ _ rfl rfl HAPP.out ?_)
      go_roundw
      case rel => exact ⟨k + 1, by omega, by go_num, HN2.out, HOWN.out⟩
      case measure => simp [intOf]; omega
    · obtain rfl : k = ps.length := by omega
      have HR : Hid (RdV wr (.slice av ps.length cv) ((ps.map (·.2)).map strV)) := by
        refine Lib.hid ?_
        have := RdV.of_own hown
        rw [List.take_length] at this
        rw [List.map_map]
        exact this
      clear hown hnew hlt
      go_wp2
      go_ret
      refine ⟨HN.out, av, cv, ?_, ?_⟩
      · rw [List.length_map]; rfl
      · rw [List.length_map]; exact HR.out

def TwoStr (b1 o1 b2 o2 k : Nat) (S : ByteArray) (w : World) : Prop := w.cell? ⟨b1, o1 + k, none⟩ = some (.string S) ∧ w.cell? ⟨b2, o2 + k, none⟩ = some (.string S)


end Go.Proofs.Ytnekcdpfphgpbaa
