/-
  node: readKey, readNumbers; what is kept while a node is read.
-/
import Derived.Test.YtliojldkdmaofaaRefNode5
import Derived.Test.YtliojldkdmaofaaNodFns
import Derived.Test.YtliojldkdmaofaaEyeA
namespace Go.Proofs.Ytliojldkdmaofaa
set_option linter.unusedVariables false
set_option linter.unusedSimpArgs false
set_option maxRecDepth 100000
open Go.RowKit

theorem Eye.only19 {F : Nat → Prop} {w w' : World} {p : Nat} {d : Option Nat} {r : List UInt8} {err : Int} (h : Eye w p d r err) (ho : Only F w w') (hp : ¬ F p) (hd : r ≠ [] → ∀ k, d = some k → ¬ F k) : Eye w' p d r err := by
  obtain ⟨v, h1, h2, h3⟩ := h
  exact ⟨v, (ho.block _ (lt_of_block h1) hp).trans h1, h2.only ho (fun k hk hne => hd hne k (by rw [← h3 hne]; exact hk)), h3⟩

/-- what is read lies in the reader's block -/
theorem Eye.data19 {w : World} {p : Nat} {d : Option Nat} {r : List UInt8} {err : Int} (h : Eye w p d r err) : p < w.heap.size ∧ (r ≠ [] → ∀ k, d = some k → k < w.heap.size) := by
  obtain ⟨v, h1, h2, h3⟩ := h
  exact ⟨lt_of_block h1, fun hne k hk => h2.lt (by rw [h3 hne, hk]) hne⟩

theorem eyeU8s {w : World} {q : Nat} {d : Option Nat} {s : RS} (h : Eye w q d s.1 s.2) {n : Nat} {s' : RS} (hk : rNum 1 s = (n, s')) :
    Calls Try.prog 46 #[.pointer (some ⟨q, 0, none⟩)] w fun e w' => e = .returned (.int .i64 (n : Int)) ∧ EyeTo w q d s'.1 s'.2 w' := by
  have e1 : eNum 1 s.1 s.2 = n := congrArg Prod.fst hk
  have e2 : (eTake (1 : Nat) s.1 s.2).2 = s' := congrArg Prod.snd hk
  refine (eyeU8 w q d s.1 s.2 h).mono ?_
  rintro e w' ⟨rfl, E⟩
  rw [e2] at E
  exact ⟨by rw [e1], E⟩

theorem eyeU64s {w : World} {q : Nat} {d : Option Nat} {s : RS} (h : Eye w q d s.1 s.2) {n : Nat} {s' : RS} (hk : rNum 8 s = (n, s')) :
    Calls Try.prog 56 #[.pointer (some ⟨q, 0, none⟩)] w fun e w' => e = .returned (.int .u64 (n : Int)) ∧ EyeTo w q d s'.1 s'.2 w' := by
  have e1 : eNum 8 s.1 s.2 = n := congrArg Prod.fst hk
  have e2 : (eTake (8 : Nat) s.1 s.2).2 = s' := congrArg Prod.snd hk
  refine (eyeU64 w q d s.1 s.2 h).mono ?_
  rintro e w' ⟨rfl, E⟩
  rw [e2] at E
  exact ⟨by rw [e1], E⟩

theorem eyeShorts {w : World} {q : Nat} {d : Option Nat} {s : RS} (h : Eye w q d s.1 s.2) (hl : s.1.length ≤ 140737488355328) (most : Int) {l : List UInt8} {s' : RS} (hk : rText most s = (l, s')) :
    Calls Try.prog 47 #[.pointer (some ⟨q, 0, none⟩), .int .i64 most] w fun e w' => ∃ a n c, e = .returned (.slice a n c) ∧ Rd w' (.slice a n c) l ∧ (l ≠ [] → ∀ k, blk (.slice a n c) = some k → w.heap.size ≤ k) ∧ EyeTo w q d s'.1 s'.2 w' := by
  have e1 : (eText 1 most s.1 s.2).1 = l := congrArg Prod.fst hk
  have e2 : (eText 1 most s.1 s.2).2 = s' := congrArg Prod.snd hk
  refine (eyeShort w q d s.1 s.2 most h hl).mono ?_
  rintro e w' ⟨a, n, c, rfl, R, O, E⟩
  rw [e1] at R O
  rw [e2] at E
  exact ⟨a, n, c, rfl, R, fun hne => own_from (O hne), E⟩

/-- what readKey returns -/
def KeyTo19 (w : World) (q : Nat) (d : Option Nat) (ky : Nat) (pa : List UInt8) (s' : RS) (e : Ending) (w' : World) : Prop :=
  ∃ a n c, e = .returned (.tuple #[.int .u64 (ky : Int), .slice a n c]) ∧ Rd w' (.slice a n c) pa ∧ (pa ≠ [] → ∀ k, blk (.slice a n c) = some k → w.heap.size ≤ k) ∧ EyeTo w q d s'.1 s'.2 w'

theorem nodReadKey {w : World} {q : Nat} {d : Option Nat} {s : RS} (h : Eye w q d s.1 s.2) (hl : s.1.length ≤ 140737488355328) {ky : Nat} {pa : List UInt8} {s3 s4 : RS} (h3 : rNum 8 s = (ky, s3)) (h4 : rText 32 s3 = (pa, s4)) :
    Calls Try.prog 48 #[.pointer (some ⟨q, 0, none⟩)] w (KeyTo19 w q d ky pa s4) := by
  have HC := Lib.hid (eyeU64s h h3)
  have H4 := Lib.hid h4
  have HL3 : Hid (s3.1.length ≤ 140737488355328) := Lib.hid (by have := rNum_len 8 s; rw [h3] at this; dsimp only at this; omega)
  clear h h3 h4 hl
  go_enter Try.func48, Try.ntmps48
  go_wp2_with fail
  refine HC.out.mono ?_
  rintro _ w1 ⟨rfl, E⟩
  have HE := Lib.hid E
  have HS := Lib.hid (eyeShorts E.1 HL3.out 32 H4.out)
  clear E HC
  go_wp2_with fail
  refine HS.out.mono ?_
  rintro _ w2 ⟨a, n, c, rfl, R, O, E⟩
  have HR := Lib.hid R
  have HO : Hid (pa ≠ [] → ∀ k, blk (.slice a n c) = some k → w.heap.size ≤ k) := Lib.hid (fun hne k hk => Nat.le_trans HE.out.2.size (O hne k hk))
  have HE2 := Lib.hid (HE.out.trans E)
  clear R O E HS
  go_wp2
  go_ret2
  exact ⟨a, n, c, rfl, HR.out, HO.out, HE2.out⟩

/-- what readNumbers returns -/
def NumsTo19 (w : World) (q : Nat) (d : Option Nat) (l : List Int) (s' : RS) (e : Ending) (w' : World) : Prop :=
  ∃ a n c, e = .returned (.slice a n c) ∧ RdV w' (.slice a n c) (l.map (Value.int .i64)) ∧ (∀ k, blk (.slice a n c) = some k → w.heap.size ≤ k) ∧ EyeTo w q d s'.1 s'.2 w'

structure NumsIn19 (w : World) (q : Nat) (d : Option Nat) (v : Value) (l : List Int) (s' : RS) (wr : World) : Prop where
  own : wr.ownsRow w.heap.size 3 1 v l.length (l.map (Value.int .i64))
  eye : EyeTo w q d s'.1 s'.2 wr

theorem NumsIn19.size {w wr : World} {q : Nat} {d : Option Nat} {v : Value} {l : List Int} {s' : RS} (h : NumsIn19 w q d v l s' wr) : w.heap.size ≤ wr.heap.size := h.eye.2.size

/-- the reader reads on -/
theorem NumsIn19.step {w wr w2 : World} {q : Nat} {d : Option Nat} {v : Value} {l : List Int} {s1 s2 : RS} (h : NumsIn19 w q d v l s1 wr) (E : EyeTo wr q d s2.1 s2.2 w2) (hq : q < w.heap.size) : NumsIn19 w q d v l s2 w2 :=
  ⟨⟨h.own.1, by
    rcases h.own.2 with h0 | ⟨g, cap, cur, rfl, hb1, e3, rest⟩
    · exact .inl h0
    · exact .inr ⟨g, cap, cur, rfl, hb1, (E.2.block g (lt_of_block e3) (fun e => by omega)).trans e3, rest⟩⟩, h.eye.trans E⟩

/-- one number more -/
theorem NumsIn19.push {w wr w2 : World} {q : Nat} {d : Option Nat} {v v' : Value} {l : List Int} {s1 : RS} {x : Int} (h : NumsIn19 w q d v l s1 wr) (hq : q < w.heap.size) (hd : s1.1 ≠ [] → ∀ k, d = some k → k < w.heap.size)
    (hown : w2.ownsRow w.heap.size 3 1 v' (l.length + 1) (l.map (Value.int .i64) ++ [.int .i64 x])) (ho : Only (fun k => blk v = some k) wr w2) : NumsIn19 w q d v' (l ++ [x]) s1 w2 := by
  have hb := own_from h.own
  refine ⟨by rw [List.length_append, List.map_append]; exact hown, h.eye.1.only19 ho (fun e => by have := hb _ e; omega) (fun hne k hk e => by have := hb _ e; have := hd hne k hk; omega), h.eye.2.trans ho (fun i hi e => ?_)⟩
  have := hb _ e
  omega

set_option maxHeartbeats 1000000 in
theorem nodReadNumbers {w : World} {q : Nat} {d : Option Nat} {s : RS} (h : Eye w q d s.1 s.2) {n : Nat} {s5 : RS} (h5 : rNum 1 s = (n, s5)) :
    Calls Try.prog 49 #[.pointer (some ⟨q, 0, none⟩)] w (NumsTo19 w q d (rUnm n s5).1 (rUnm n s5).2) := by
  have hn : n < 256 := by have := rNum_lt1 s; rw [h5] at this; exact this
  have HDT := Lib.hid h.data19
  have HLE : Hid (s5.1.length ≤ s.1.length) := Lib.hid (by have := rNum_len 1 s; rw [h5] at this; exact this)
  have HC := Lib.hid (eyeU8s h h5)
  clear h h5
  go_enter Try.func49, Try.ntmps49
  go_wp2_with fail
  refine HC.out.mono ?_
  rintro _ w1 ⟨rfl, E⟩
  have HE := Lib.hid E
  clear E HC
  go_upto_region 3 with fail
  go_loopw [3, 6] (fun x v wr => ∃ i : Nat, v = .int .i64 i ∧ i ≤ n ∧ NumsIn19 w q d x (rUnm i s5).1 (rUnm i s5).2 wr) (fun _ v _ => n - (intOf v).toNat)
  case atStart => exact ⟨0, rfl, Nat.zero_le _, World.ownsRow_nil _ _ _ _, HE.out⟩
  case round =>
    clear HE
    obtain ⟨i, rfl, hi, hin⟩ := hrel
    have HI := Lib.hid hin
    clear hin
    by_cases hlt : i < n
    · have d1 : decide ((i : Int) < (n : Int)) = true := by simpa using hlt
      obtain ⟨x, s6, hx⟩ : ∃ a b, rNum 1 (rUnm i s5).2 = (a, b) := ⟨_, _, rfl⟩
      have hxl : x < 256 := by have := rNum_lt1 (rUnm i s5).2; rw [hx] at this; exact this
      have HU : Hid (rUnm (i + 1) s5 = ((rUnm i s5).1 ++ [(x : Int)], s6)) := Lib.hid (by simp only [rUnm, hx])
      have HUL : Hid ((rUnm i s5).1.length = i) := Lib.hid (rUnm_len i s5).2
      have HS6 : Hid (s6.1 ≠ [] → s.1 ≠ []) := Lib.hid (fun hne he => hne (List.length_eq_zero_iff.1 (by
        have h1 := rNum_len 1 (rUnm i s5).2
        rw [hx] at h1
        have h2 := (rUnm_len i s5).1
        have h3 := HLE.out
        rw [he] at h3
        simp only [List.length_nil] at h3
        dsimp only at h1
        omega)))
      have HX := Lib.hid (eyeU8s HI.out.eye.1 hx)
      clear hx
      generalize (rUnm i s5).1 = ul at *
      generalize (rUnm i s5).2 = us at *
      obtain ⟨a3, c3, rfl, -, -⟩ := ownSl_form HI.out.own
      go_wp2_with fail
      refine HX.out.mono ?_
      rintro _ w2 ⟨rfl, E⟩
      have HI2 := Lib.hid (HI.out.step E HDT.out.1)
      clear E HX
      obtain ⟨i0, hi0, hz0, hz1, hz2⟩ := info_parts infoInt19
      obtain ⟨v', wz, happ, hown', hO', hb', hlt'⟩ := run_append_u (P := Try.prog) w.heap.size w2 24 24 3 i0 _ 8 Try.underlying24 hi0 hz0 hz1 hz2 rfl _ ul.length (ul.map (Value.int .i64)) HI2.out.own (.int .i64 (x : Int)) rfl (by have := HUL.out; omega) (by have := HUL.out; omega) HI2.out.size
      have HAPP := Lib.hid happ
      have HP := Lib.hid (HI2.out.push (x := (x : Int)) HDT.out.1 (fun hne => HDT.out.2 (HS6.out hne)) hown' hO')
      clear happ hown' hO' hb' hlt' hi0 hz0 hz1 hz2
      go_wp2_with (at_builtin; refine wpList_app1 rfl _ _ 24 rfl _ _ rfl rfl HAPP.out ?_)
      go_roundw
      case rel => exact ⟨i + 1, by go_num, by omega, by rw [HU.out]; exact HP.out⟩
      case measure => simp [intOf]; omega
    · obtain rfl : i = n := by omega
      obtain ⟨a3, c3, rfl, -, -⟩ := ownSl_form HI.out.own
      clear hlt hi
      go_wp2
      go_ret
      exact ⟨a3, _, c3, rfl, RdV.of_own HI.out.own, own_from HI.out.own, HI.out.eye⟩

end Go.Proofs.Ytliojldkdmaofaa
