/-
  The statements of layer 3: their own helper.
-/
import Derived.Test.YtoooemlcackepaaDoorRefMac
import Derived.Test.YtoooemlcackepaaDoorSum1
import Derived.Lib.SlBytesConst
namespace Go.Proofs.YtoooemlcackepaaDoor
set_option linter.unusedVariables false
set_option linter.unusedSimpArgs false
open Go.RowKit

/-- mac.Tag(key, v) as a caller writes it -/
theorem tag1 (w : World) (b : Nat) (kv v : Value) (k l : List UInt8) (hb : b = w.heap.size) (hk : Rd w kv k) (hkl : k.length ≤ 1099511627776) (h : Rd w v l) (hl : l.length ≤ 1099511627776) (hL : Laid w) :
    Calls Tryd.prog 7 #[kv, .slice (some ⟨b, 0, none⟩) 1 1] (w.alloc (.cells #[v] 22)) fun e w' => ∃ a n c, e = .returned (.slice a n c) ∧ Rd w' (.slice a n c) (hmac k l) ∧ n = 32 ∧ New w w' := by
  subst hb
  have hn := (Below.refl w.heap.size w).alloc (Nat.le_refl _) (.cells #[v] 22)
  have hs := macTag _ kv k _ _ (hk.new hn) hkl (RdL.made1 w v l 22 h) (by simp [allOf]; omega) (by simp) (hL.new hn)
  refine hs.mono ?_
  rintro e w' ⟨v', rfl, hown, hn'⟩
  have hr := Rd.of_own hown
  simp only [allOf, List.flatMap_cons, List.flatMap_nil, List.append_nil] at hr
  have hr' := hr
  obtain ⟨a, n, c, rfl, h1, _⟩ := hr'
  exact ⟨a, n, c, rfl, hr, by rw [← h1, hmac_length], New.trans hn hn'⟩

/-- mac.Tag(key, u, v) as a caller writes it -/
theorem tag2 (w : World) (b : Nat) (kv u v : Value) (k p q : List UInt8) (hb : b = w.heap.size) (hk : Rd w kv k) (hkl : k.length ≤ 1099511627776) (hu : Rd w u p) (hv : Rd w v q) (hl : p.length + q.length ≤ 1099511627776) (hL : Laid w) :
    Calls Tryd.prog 7 #[kv, .slice (some ⟨b, 0, none⟩) 2 2] (w.alloc (.cells #[u, v] 22)) fun e w' => ∃ a n c, e = .returned (.slice a n c) ∧ Rd w' (.slice a n c) (hmac k (p ++ q)) ∧ n = 32 ∧ New w w' := by
  subst hb
  have hn := (Below.refl w.heap.size w).alloc (Nat.le_refl _) (.cells #[u, v] 22)
  have hs := macTag _ kv k _ _ (hk.new hn) hkl (RdL.made2 w u v p q 22 hu hv) (by simp [allOf]; omega) (by simp) (hL.new hn)
  refine hs.mono ?_
  rintro e w' ⟨v', rfl, hown, hn'⟩
  have hr := Rd.of_own hown
  simp only [allOf, List.flatMap_cons, List.flatMap_nil, List.append_nil] at hr
  have hr' := hr
  obtain ⟨a, n, c, rfl, h1, _⟩ := hr'
  exact ⟨a, n, c, rfl, hr, by rw [← h1, hmac_length], New.trans hn hn'⟩

def jefe : List UInt8 := [74, 101, 102, 101]
def what : List UInt8 := [119, 104, 97, 116, 32, 100, 111, 32, 121, 97, 32, 119, 97, 110, 116, 32, 102, 111, 114, 32, 110, 111, 116, 104, 105, 110, 103, 63]

theorem hex_jefe : hexOf (hmac jefe what) = [53, 98, 100, 99, 99, 49, 52, 54, 98, 102, 54, 48, 55, 53, 52, 101, 54, 97, 48, 52, 50, 52, 50, 54, 48, 56, 57, 53, 55, 53, 99, 55, 53, 97, 48, 48, 51, 102, 48, 56, 57, 100, 50, 55, 51, 57, 56, 51, 57, 100, 101, 99, 53, 56, 98, 57, 54, 52, 101, 99, 51, 56, 52, 51] := by
  unfold jefe what
  rw [hmac_jefe]; decide

set_option maxRecDepth 100000 in
set_option maxHeartbeats 400000 in
theorem awake03 (w : World) (hL : Laid w) : Calls Tryd.prog 6 #[] w fun e w' => e = .returned (.bool true) ∧ New w w' := by
  have kc := fun (w : World) (C : Array Value) (n c : Nat) => Lib.run_convert_bytes_const (P := Tryd.prog) w 22 5 C n c Tryd.underlying22 Tryd.underlying5
  have kc2 : ∀ (w : World) (o : Obj) (C : Array Value) (n c : Nat), (convert 22 22 (.slice (some ⟨w.heap.size + 1, 0, none⟩) n c)).run Tryd.prog ((w.alloc o).alloc (.cells C 5)) = .ok (.slice (some ⟨w.heap.size + 1, 0, none⟩) n c) ((w.alloc o).alloc (.cells C 5 (C.size, C.size + 1))) := fun w o C n c => by
    have h := kc (w.alloc o) C n c
    rwa [show (w.alloc o).heap.size = w.heap.size + 1 by simp] at h
  have HL := Lib.hid hL
  clear hL
  have hr1 := Rd.made w jefe 5 (4, 5) (by decide)
  have hn1 := (Below.refl w.heap.size w).alloc (Nat.le_refl _) (.cells (jefe.map bv).toArray 5 (4, 5))
  have hr2 := Rd.made (w.alloc (.cells (jefe.map bv).toArray 5 (4, 5))) what 5 (28, 29) (by decide)
  have hn2 := (Below.refl (w.alloc (.cells (jefe.map bv).toArray 5 (4, 5))).heap.size (w.alloc (.cells (jefe.map bv).toArray 5 (4, 5)))).alloc (Nat.le_refl _) (.cells (what.map bv).toArray 5 (28, 29))
  have hn := New.trans hn1 hn2
  have ht := tag1 _ (w.heap.size + 1 + 1) _ _ jefe what (by simp) (hr1.new hn2) (by decide) hr2 (by decide) (HL.out.new hn)
  rw [show (w.alloc (.cells (jefe.map bv).toArray 5 (4, 5))).heap.size = w.heap.size + 1 by simp] at ht
  have HT := Lib.hid ht
  have HN := Lib.hid hn
  clear ht hn hn2 hr2 hn1 hr1 HL
  go_enter Tryd.func6, Tryd.ntmps6
  go_wp2_with fail
  refine HT.out.mono ?_
  rintro e w1 ⟨a, n, c, rfl, hr, rfl, hn1⟩
  have ks := run_str (P := Tryd.prog) Tryd.underlying22 Tryd.underlying5 Tryd.underlying9 hr
  have HX := Lib.hid hex_jefe
  have hxl := hmac_length jefe what
  have HN1 := Lib.hid (New.trans HN.out hn1)
  clear hr HT HN hn1 kc kc2
  generalize hmac jefe what = L at *
  go_wp2_with fail
  refine (refHex w1 L (by omega)).mono ?_
  rintro e w2 ⟨rfl, hn2⟩
  have kb : ((bstr (hexOf L)).toList == [53, 98, 100, 99, 99, 49, 52, 54, 98, 102, 54, 48, 55, 53, 52, 101, 54, 97, 48, 52, 50, 52, 50, 54, 48, 56, 57, 53, 55, 53, 99, 55, 53, 97, 48, 48, 51, 102, 48, 56, 57, 100, 50, 55, 51, 57, 56, 51, 57, 100, 101, 99, 53, 56, 98, 57, 54, 52, 101, 99, 51, 56, 52, 51]) = true := by rw [bstr_list, HX.out]; decide
  clear hxl ks
  go_wp2
  go_ret
  exact ⟨rfl, New.trans HN1.out hn2⟩

end Go.Proofs.YtoooemlcackepaaDoor
