/-
  crc.With, crc.Take; Sum as a caller writes it.
-/
import Derived.Test.YtimilldkmdmaiaaCrcSum
import Derived.Test.YtimilldkmdmaiaaPenA
import Derived.Test.YtimilldkmdmaiaaEyeA
namespace Go.Proofs.Ytimilldkmdmaiaa
set_option linter.unusedVariables false
set_option linter.unusedSimpArgs false
open Go.RowKit

/-- an own row stays where its block is left alone -/
theorem ownsRow_only {F : Nat → Prop} {w w' : World} {base : Nat} {e : TypeId} {size : Nat} {v : Value} {n : Nat} {xs : List Value} (h : w.ownsRow base e size v n xs) (ho : Only F w w') (hF : ∀ k, blk v = some k → ¬ F k) : w'.ownsRow base e size v n xs := by
  refine ⟨h.1, ?_⟩
  rcases h.2 with h0 | ⟨g, cap, cur, e1, hb1, e3, rest⟩
  · exact .inl h0
  · subst e1
    exact .inr ⟨g, cap, cur, rfl, hb1, (ho.block g (lt_of_block e3) (hF g rfl)).trans e3, rest⟩

/-- one slice of bytes in a new block -/
theorem rdl_one (w : World) (v : Value) (l : List UInt8) (e : TypeId) (h : Rd w v l) : RdL (w.alloc (.cells #[v] e)) (.slice (some ⟨w.heap.size, 0, none⟩) 1 1) [(v, l)] :=
  ⟨RdV.made w [v] e (0, 0) (by simp), fun p hp => by rw [List.mem_singleton.1 hp]; exact h.new ((Below.refl _ _).alloc (Nat.le_refl _) _)⟩

/-- three of them -/
theorem rdl_three (w : World) (u v x : Value) (k l m : List UInt8) (e : TypeId) (hu : Rd w u k) (hv : Rd w v l) (hx : Rd w x m) : RdL (w.alloc (.cells #[u, v, x] e)) (.slice (some ⟨w.heap.size, 0, none⟩) 3 3) [(u, k), (v, l), (x, m)] :=
  ⟨RdV.made w [u, v, x] e (0, 0) (by simp), fun p hp => by
    have hn := (Below.refl w.heap.size w).alloc (Nat.le_refl _) (.cells #[u, v, x] e)
    rcases List.mem_cons.1 hp with rfl | hp
    · exact hu.new hn
    · rcases List.mem_cons.1 hp with rfl | hp
      · exact hv.new hn
      · rw [List.mem_singleton.1 hp]; exact hx.new hn⟩

/-- crc.Sum(v) as a caller writes it -/
theorem crcSum1 (w : World) (b : Nat) (v : Value) (l : List UInt8) (hb : b = w.heap.size) (h : Rd w v l) :
    Calls Try.prog 8 #[.slice (some ⟨b, 0, none⟩) 1 1] (w.alloc (.cells #[v] 22)) fun e w' => e = .returned (wv (crc l)) ∧ w' = w.alloc (.cells #[v] 22) := by
  subst hb
  refine (crcSum _ _ _ (rdl_one w v l 22 h)).mono ?_
  rintro e w' ⟨rfl, rfl⟩
  refine ⟨?_, rfl⟩
  simp only [allOf, List.flatMap_cons, List.flatMap_nil, List.append_nil]

def WithTo (w : World) (l : List UInt8) (e : Ending) (w' : World) : Prop := ∃ a n c, e = .returned (.slice a n c) ∧ Rd w' (.slice a n c) (crcWith l) ∧ New w w' ∧ w'.ownsRow w.heap.size 5 1 (.slice a n c) (crcWith l).length ((crcWith l).map bv)

set_option maxRecDepth 100000 in
set_option maxHeartbeats 1000000 in
theorem crcWith_calls (w : World) (x : Value) (l : List UInt8) (hx : Rd w x l) (hb : l.length ≤ 140737488355000) :
    Calls Try.prog 12 #[x] w (WithTo w l) := by
  have hx' := hx
  obtain ⟨ax, nx, cx, rfl, -⟩ := hx'
  have HX := Lib.hid hx
  clear hx
  have HW : Hid (wU 4 ((crc l).toNat : Int) (some l) = some (crcWith l)) := by show _ = _; rw [wU_in 4 _ _ (crc_lt l)]; rfl
  have hc := crc_lt l
  have HLen := Lib.hid (crcWith_length l)
  go_enter Try.func12, Try.ntmps12
  go_wp2_with fail
  refine (penNew w).mono ?_
  rintro e w1 ⟨rfl, hp1, N1, -⟩
  have P1 := Lib.hid (Pend.start hp1 N1)
  clear hp1
  go_wp2_with fail
  refine (pendRaw P1.out _ l (HX.out.new N1) (fun m h => by cases h; simp; omega)).mono ?_
  rintro e w2 ⟨rfl, p2⟩
  have P2 : Hid (Pend w w.heap.size (some l) w2) := p2
  have N2 := p2.1
  clear p2 P1
  go_wp2_with fail
  refine (crcSum1 w2 _ _ l rfl (HX.out.new N2)).mono ?_
  rintro e w3 ⟨rfl, rfl⟩
  have P3 := Lib.hid (P2.out.later ((Below.refl _ _).alloc (Nat.le_refl _) (.cells #[.slice ax nx cx] 22)))
  generalize World.alloc w2 _ = w3 at P3 ⊢
  have HP := Lib.hid (pendU32 P3.out ((crc l).toNat : Int) (by omega) (by omega) (fun m h => by cases h; omega))
  rw [HW.out] at HP
  go_wp2_with fail
  refine HP.out.mono ?_
  rintro e w4 ⟨rfl, p4⟩
  have P4 := Lib.hid p4
  clear p4 P3 HP
  go_wp2_with fail
  refine (pendBytes P4.out (fun m h => by cases h; rw [HLen.out]; omega)).mono ?_
  rintro e w5 ⟨⟨a5, n5, c5, rfl, r5, N5, o5⟩, p5⟩
  have N5w := p5.1
  have O5 : Hid (w5.ownsRow w.heap.size 5 1 (.slice a5 n5 c5) (crcWith l).length ((crcWith l).map bv)) := own_base (o5 (fun e => by
    have h2 := HLen.out
    have e' : crcWith l = [] := e
    rw [e'] at h2
    simp at h2)) P4.out.1.size
  have R5 := Lib.hid r5
  clear p5 r5 o5
  simp only [Option.getD_some, Option.isSome_some] at R5 ⊢
  go_wp2
  go_ret
  exact ⟨a5, n5, c5, rfl, R5.out, N5w, O5.out⟩

def CTakeTo (w : World) (l : List UInt8) (e : Ending) (w' : World) : Prop := ∃ a n c, e = .returned (.tuple #[.slice a n c, .bool (crcOk l)]) ∧ Rd w' (.slice a n c) (crcText l) ∧ New w w' ∧ (crcText l ≠ [] → w'.ownsRow w.heap.size 5 1 (.slice a n c) (crcText l).length ((crcText l).map bv))

theorem crcTake_no {w w' : World} {l : List UInt8} (h : crcOk l = false) (hn : New w w') : CTakeTo w l (.returned (.tuple #[.slice none 0 0, .bool false])) w' := by
  have e : crcText l = [] := by unfold crcText; rw [h]; rfl
  refine ⟨none, 0, 0, by rw [h], by rw [e]; exact Rd.nil _, hn, fun h => absurd e h⟩

set_option maxRecDepth 100000 in
set_option maxHeartbeats 1000000 in
theorem crcTake (w : World) (x : Value) (l : List UInt8) (hx : Rd w x l) (hb : l.length ≤ 140737488355328) :
    Calls Try.prog 10 #[x] w (CTakeTo w l) := by
  have hx' := hx
  obtain ⟨ax, nx, cx, rfl, hlx, -⟩ := hx'
  by_cases h4 : l.length < 4
  · have HN := Lib.hid (crcTake_no (w := w) (w' := w) (l := l) (by unfold crcOk; exact decide_eq_false (fun h => by omega)) (Below.refl _ _))
    have hn4 : (nx : Int) < 4 := by omega
    clear hlx hx hb h4
    go_enter Try.func10, Try.ntmps10
    go_wp2
    go_ret2
    exact HN.out
  · obtain ⟨m, hm⟩ : ∃ m, nx = m + 4 := ⟨nx - 4, by omega⟩
    subst hm
    have hlm : l.length = m + 4 := hlx
    have HT : Hid (eTake (m : Nat) l 0 = (l.take m, l.drop m, 0)) := eTake_ok m l (by omega)
    have HU : Hid (eNum 4 (l.drop m) 0 = val (l.drop m)) := by
      show _ = _; unfold eNum; rw [eTake_ok 4 _ (by rw [List.length_drop]; omega), List.take_of_length_le (by rw [List.length_drop]; omega)]
    have hvl := eNum_lt 4 (l.drop m) 0
    rw [HU.out] at hvl
    have hOk : crcOk l = decide (val (l.drop m) = (crc (l.take m)).toNat) := by
      unfold crcOk
      rw [hlm, Nat.add_sub_cancel, decide_eq_decide]
      exact ⟨fun h => h.2, fun h => ⟨by omega, h⟩⟩
    have HTx : Hid (crcOk l = true → crcText l = l.take m) := fun h => by unfold crcText; rw [if_pos h, hlm, Nat.add_sub_cancel]
    have HX := Lib.hid hx
    clear hx hlx h4
    have HE := Lib.hid (eyeOpen w _ l HX.out hb)
    have HRaw := Lib.hid (fun (w1 : World) (p : Nat) (d : Option Nat) (h : Eye w1 p d l 0) => eyeRaw w1 p d l 0 (m : Nat) h hb)
    rw [HT.out] at HRaw
    have hcl := crc_lt (l.take m)
    have hm0 : (m : Int) ≤ 140737488355328 := by omega
    clear hlm hb
    go_enter Try.func10, Try.ntmps10
    go_wp2_with fail
    refine HE.out.mono ?_
    rintro e w1 ⟨p, d, rfl, hpn, hE1, hd, N1⟩
    have E1 := Lib.hid hE1
    clear hE1 HE
    go_wp2_with fail
    refine (HRaw.out w1 p d E1.out).mono ?_
    rintro e w2 ⟨a2, n2, c2, rfl, r2, o2, e2⟩
    have hplt : p < w1.heap.size := by obtain ⟨v, hv, -⟩ := E1.out; exact lt_of_block hv
    have hnb : ∀ k, blk (.slice a2 n2 c2) = some k → l.take m ≠ [] → ¬ k = p := fun k hk hne e => by
      have h1 := (o2 hne).lt k (by rw [← blk_own]; exact hk)
      omega
    have R2 := Lib.hid r2
    have E2 := Lib.hid e2
    have N2 := N1.eye e2 hpn
    have O2 := Lib.hid o2
    clear r2 e2 o2
    go_wp2_with fail
    refine (eyeU32 w2 p d (l.drop m) 0 E2.out.1).mono ?_
    rintro e w3 ⟨rfl, e3⟩
    have N3 := N2.eye e3 hpn
    have R3 := Lib.hid (R2.out.only e3.2 hnb)
    have O3 : Hid (l.take m ≠ [] → w3.ownsRow w.heap.size 5 1 (.slice a2 n2 c2) (l.take m).length ((l.take m).map bv)) := fun hne =>
      own_base (ownsRow_only (O2.out hne) e3.2 (fun k hk => hnb k hk hne)) N1.size
    clear e3
    rw [HU.out]
    have HS := Lib.hid (crcSum1 w3 _ (.slice a2 n2 c2) (l.take m) rfl R3.out)
    have NA : New w3 (w3.alloc (.cells #[.slice a2 n2 c2] 22)) := (Below.refl _ _).alloc (Nat.le_refl _) _
    by_cases hq : val (l.drop m) = (crc (l.take m)).toNat
    · rw [decide_eq_true hq] at hOk
      have HTx' := Lib.hid (HTx.out hOk)
      have HO := Lib.hid hOk
      clear hOk HTx
      rw [hq] at hvl ⊢
      go_wp2_with fail
      refine HS.out.mono ?_
      rintro e w4 ⟨rfl, rfl⟩
      go_wp2
      go_ret2
      refine ⟨a2, n2, c2, by rw [HO.out]; rfl, ?_, N3.trans NA, ?_⟩
      · rw [HTx'.out]; exact R3.out.new NA
      · rw [HTx'.out]
        intro hne
        exact ownsRow_only (O3.out hne) NA.only (fun _ _ h => h)
    · rw [decide_eq_false hq] at hOk
      have HN := Lib.hid (crcTake_no hOk (N3.trans NA))
      clear hOk HTx
      have hqi : ¬ ((val (l.drop m) : Nat) : Int) = ((crc (l.take m)).toNat : Int) := by omega
      go_wp2_with fail
      refine HS.out.mono ?_
      rintro e w4 ⟨rfl, rfl⟩
      go_wp2
      go_ret2
      exact HN.out

end Go.Proofs.Ytimilldkmdmaiaa
