/-
  crc.With, crc.Take; Sum as a caller writes it.
-/
import Derived.Test.YtjkhklbeimgggaaDoorCrcSum
import Derived.Test.YtjkhklbeimgggaaDoorPenA
import Derived.Test.YtjkhklbeimgggaaDoorEyeA
namespace Go.Proofs.YtjkhklbeimgggaaDoor
set_option linter.unusedVariables false
set_option linter.unusedSimpArgs false
open Go.RowKit

/-- an own row stays where its block is left alone -/
theorem ownsRow_only {F : Nat → Prop} {w w' : World} {base : Nat} {e : TypeId} {size : Nat} {v : Value} {n : Nat} {xs : List Value} (h : w.ownsRow base e size v n xs) (ho : Only F w w') (hF : ∀ k, blk v = some k → ¬ F k) : w'.ownsRow base e size v n xs := by
  refine ⟨h.1, ?_⟩
  rcases h.2 with h0 | ⟨g, cap, cur, e1, hb1, e3, rest⟩
  · exact .inl h0
  · subst e1
    exact .inr ⟨g, cap, cur, rfl, hb1, (ho.block g (lt_of_block e3) (hF g rfl)).trans e3, rest⟩

/-- one slice of bytes in a new block -/
theorem rdl_one (w : World) (v : Value) (l : List UInt8) (e : TypeId) (h : Rd w v l) : RdL (w.alloc (.cells #[v] e)) (.slice (some ⟨w.heap.size, 0, none⟩) 1 1) [(v, l)] :=
  ⟨RdV.made w [v] e (0, 0) (by simp), fun p hp => by rw [List.mem_singleton.1 hp]; exact h.new ((Below.refl _ _).alloc (Nat.le_refl _) _)⟩

/-- three of them -/
theorem rdl_three (w : World) (u v x : Value) (k l m : List UInt8) (e : TypeId) (hu : Rd w u k) (hv : Rd w v l) (hx : Rd w x m) : RdL (w.alloc (.cells #[u, v, x] e)) (.slice (some ⟨w.heap.size, 0, none⟩) 3 3) [(u, k), (v, l), (x, m)] :=
  ⟨RdV.made w [u, v, x] e (0, 0) (by simp), fun p hp => by
    have hn := (Below.refl w.heap.size w).alloc (Nat.le_refl _) (.cells #[u, v, x] e)
    rcases List.mem_cons.1 hp with rfl | hp
    · exact hu.new hn
    · rcases List.mem_cons.1 hp with rfl | hp
      · exact hv.new hn
      · rw [List.mem_singleton.1 hp]; exact hx.new hn⟩

/-- crc.Sum(v) as a caller writes it -/
theorem crcSum1 (w : World) (b : Nat) (v : Value) (l : List UInt8) (hb : b = w.heap.size) (h : Rd w v l) :
    Calls Tryd.prog 42 #[.slice (some ⟨b, 0, none⟩) 1 1] (w.alloc (.cells #[v] 22)) fun e w' => e = .returned (wv (crc l)) ∧ w' = w.alloc (.cells #[v] 22) := by
  subst hb
  refine (crcSum _ _ _ (rdl_one w v l 22 h)).mono ?_
  rintro e w' ⟨rfl, rfl⟩
  refine ⟨?_, rfl⟩
  simp only [allOf, List.flatMap_cons, List.flatMap_nil, List.append_nil]

def WithTo (w : World) (l : List UInt8) (e : Ending) (w' : World) : Prop := ∃ a n c, e = .returned (.slice a n c) ∧ Rd w' (.slice a n c) (crcWith l) ∧ New w w' ∧ w'.ownsRow w.heap.size 5 1 (.slice a n c) (crcWith l).length ((crcWith l).map bv)

set_option maxRecDepth 100000 in
set_option maxHeartbeats 1000000 in
theorem crcWith_calls (w : World) (x : Value) (l : List UInt8) (hx : Rd w x l) (hb : l.length ≤ 140737488355000) :
    Calls Tryd.prog 26 #[x] w (WithTo w l) := by
  have hx' := hx
  obtain ⟨ax, nx, cx, rfl, -⟩ := hx'
  have HX := Lib.hid hx
  clear hx
  have HW : Hid (wU 4 ((crc l).toNat : Int) (some l) = some (crcWith l)) := by show _ = _; rw [wU_in 4 _ _ (crc_lt l)]; rfl
  have hc := crc_lt l
  have HLen := Lib.hid (crcWith_length l)
  go_enter Tryd.func26, Tryd.ntmps26
  go_wp2_with fail
  refine (penNew w).mono ?_
  rintro e w1 ⟨rfl, hp1, N1, -⟩
  have P1 := Lib.hid (Pend.start hp1 N1)
  clear hp1
  go_wp2_with fail
  refine (pendRaw P1.out _ l (HX.out.new N1) (fun m h => by cases h; simp; omega)).mono ?_
  rintro e w2 ⟨rfl, p2⟩
  have P2 : Hid (Pend w w.heap.size (some l) w2) := p2
  have N2 := p2.1
  clear p2 P1
  go_wp2_with fail
  refine (crcSum1 w2 _ _ l rfl (HX.out.new N2)).mono ?_
  rintro e w3 ⟨rfl, rfl⟩
  have P3 := Lib.hid (P2.out.later ((Below.refl _ _).alloc (Nat.le_refl _) (.cells #[.slice ax nx cx] 22)))
  generalize World.alloc w2 _ = w3 at P3 ⊢
  have HP := Lib.hid (pendU32 P3.out ((crc l).toNat : Int) (by omega) (by omega) (fun m h => by cases h; omega))
  rw [HW.out] at HP
  go_wp2_with fail
  refine HP.out.mono ?_
  rintro e w4 ⟨rfl, p4⟩
  have P4 := Lib.hid p4
  clear p4 P3 HP
  go_wp2_with fail
  refine (pendBytes P4.out (fun m h => by cases h; rw [HLen.out]; omega)).mono ?_
  rintro e w5 ⟨⟨a5, n5, c5, rfl, r5, N5, o5⟩, p5⟩
  have N5w := p5.1
  have O5 : Hid (w5.ownsRow w.heap.size 5 1 (.slice a5 n5 c5) (crcWith l).length ((crcWith l).map bv)) := own_base (o5 (fun e => by
    have h2 := HLen.out
    have e' : crcWith l = [] := e
    rw [e'] at h2
    simp at h2)) P4.out.1.size
  have R5 := Lib.hid r5
  clear p5 r5 o5
  simp only [Option.getD_some, Option.isSome_some] at R5 ⊢
  go_wp2
  go_ret
  exact ⟨a5, n5, c5, rfl, R5.out, N5w, O5.out⟩

def CTakeTo (w : World) (l : List UInt8) (e : Ending) (w' : World) : Prop := ∃ a n c, e = .returned (.tuple #[.slice a n c, .bool (crcOk l)]) ∧ Rd w' (.slice a n c) (crcText l) ∧ New w w' ∧ (crcText l ≠ [] → w'.ownsRow w.heap.size 5 1 (.slice a n c) (crcText l).length ((crcText l).map bv))

theorem crcTake_no {w w' : World} {l : List UInt8} (h : crcOk l = false) (hn : New w w') : CTakeTo w l (.returned (.tuple #[.slice none 0 0, .bool false])) w' := by
  have e : crcText l = [] := by unfold crcText; rw [h]; rfl
  refine ⟨none, 0, 0, by rw [h], by rw [e]; exact Rd.nil _, hn, fun h => absurd e h⟩


end Go.Proofs.YtjkhklbeimgggaaDoor
