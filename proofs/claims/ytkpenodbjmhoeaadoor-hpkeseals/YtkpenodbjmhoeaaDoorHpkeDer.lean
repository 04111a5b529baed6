/-
  hpke.derived.
-/
import Derived.Test.YtkpenodbjmhoeaaDoorHpkeSpec
import Derived.Test.YtkpenodbjmhoeaaDoorSealA
namespace Go.Proofs.YtkpenodbjmhoeaaDoor
set_option linter.unusedVariables false
set_option linter.unusedSimpArgs false
open Go.RowKit

/-- the key and the nonce of a text -/
def DerTo (w : World) (key nonce : List UInt8) (e : Ending) (w' : World) : Prop :=
  ∃ a c b d, e = .returned (.tuple #[.slice a 48 c, .slice b 16 d, .bool true]) ∧ Rd w' (.slice a 48 c) key ∧ Rd w' (.slice b 16 d) nonce ∧ New w w'

set_option maxRecDepth 100000 in
set_option maxHeartbeats 1000000 in
theorem hpkeDerived (w : World) (x y : Value) (sh info : List UInt8) (f t : Nat) (hf : f < 18446744073709551616) (ht : t < 18446744073709551616) (hx : Rd w x sh) (hsl : sh.length ≤ 1000) (hy : Rd w y info) (hil : info.length ≤ 65535) (hL : Laid w) :
    Calls Tryd.prog 28 #[x, .int .u64 (f : Int), .int .u64 (t : Int), y] w (DerTo w (hKey sh f t info) (hNon sh f t info)) := by
  have HX := Lib.hid hx
  have HY := Lib.hid hy
  have HL := Lib.hid hL
  obtain ⟨ax, nx, cx, rfl, -⟩ := hx
  obtain ⟨ay, ny, cy, rfl, -⟩ := hy
  clear hL
  have HK : Hid (hKey sh f t info = labelled (hSec sh f t) keyLab info 48) := Lib.hid rfl
  have HN : Hid (hNon sh f t info = labelled (hSec sh f t) nonceLab info 16) := Lib.hid rfl
  have HE : Hid (hSec sh f t = hmac [] ((sh ++ be 8 f) ++ be 8 t)) := Lib.hid rfl
  have HES := Lib.hid (hSec_length sh f t)
  have HFK : Hid (labFits keyLab info 48) := Lib.hid ⟨by decide, hil, by decide, by decide⟩
  have HFN : Hid (labFits nonceLab info 16) := Lib.hid ⟨by decide, hil, by decide, by decide⟩
  have HIL := Lib.hid hil
  have HSL := Lib.hid hsl
  generalize hKey sh f t info = KEY at *
  generalize hNon sh f t info = NON at *
  generalize hSec sh f t = SEC at *
  clear hil hsl
  go_enter Tryd.func28, Tryd.ntmps28
  go_wp2_with fail
  refine (penNew w).mono ?_
  rintro e w1 ⟨rfl, P1, N1, _⟩
  have HP := Lib.hid (Pend.start P1 N1)
  clear P1 N1
  go_wp2_with fail
  refine (pendRaw HP.out _ sh (HX.out.new HP.out.1) (by intro l h; cases h; have := HSL.out; simp; omega)).mono ?_
  rintro e w2 ⟨rfl, P2⟩
  have HP2 : Hid (Pend w w.heap.size (some sh) w2) := P2
  clear P2 HP
  go_wp2_with fail
  refine (pendU64 HP2.out (f : Int) (by omega) (by omega) (by intro l h; cases h; have := HSL.out; omega)).mono ?_
  rintro e w3 ⟨rfl, P3⟩
  have HP3 : Hid (Pend w w.heap.size (some (sh ++ be 8 f)) w3) := P3
  have HLA : Hid ((sh ++ be 8 f).length ≤ 2000) := by show _ ≤ _; rw [List.length_append, be_length]; have := HSL.out; omega
  clear P3 HP2
  go_wp2_with fail
  refine (pendU64 HP3.out (t : Int) (by omega) (by omega) (by intro l h; cases h; have := HLA.out; omega)).mono ?_
  rintro e w4 ⟨rfl, P4⟩
  have HP4 : Hid (Pend w w.heap.size (some ((sh ++ be 8 f) ++ be 8 t)) w4) := P4
  have HLB : Hid (((sh ++ be 8 f) ++ be 8 t).length ≤ 3000) := by show _ ≤ _; rw [List.length_append, be_length]; have := HLA.out; omega
  clear P4 HP3 HLA
  generalize (sh ++ be 8 f) ++ be 8 t = ALL at *
  go_wp2_with fail
  refine (pendBytes HP4.out (by intro l h; cases h; have := HLB.out; omega)).mono ?_
  rintro e w5 ⟨⟨a5, n5, c5, rfl, F5⟩, P5⟩
  have HR5 : Hid (Rd w5 (.slice a5 n5 c5) ALL) := F5.1
  have N5 : New w w5 := P5.1
  clear F5 P5 HP4
  go_wp2_with fail
  refine (kdfExtract w5 (.slice none 0 0) _ [] ALL (Rd.nil _) (by simp) HR5.out (by have := HLB.out; omega) (HL.out.new N5)).mono ?_
  rintro e w6 ⟨a6, n6, c6, rfl, r6, -, N6⟩
  rw [← HE.out] at r6
  have HR6 := Lib.hid r6
  have N6w := New.trans N5 N6
  clear r6 HR5 N5 N6 HLB HE
  have K1 : Hid (∀ wx, Rd wx (.slice a6 n6 c6) SEC → Rd wx (.slice ay ny cy) info → Laid wx → Calls Tryd.prog 50 #[.slice a6 n6 c6, .string (ByteArray.mk #[107, 101, 121]), .slice ay ny cy, .int .i64 48] wx (LabTo wx SEC keyLab info 48)) :=
    Lib.hid (fun wx h1 h2 h3 => kdfLabel wx _ _ SEC keyLab info 48 (by omega) (by omega) h1 (by rw [HES.out]; decide) (by decide) h2 (by have := HIL.out; omega) h3)
  have K2 : Hid (∀ wx, Rd wx (.slice a6 n6 c6) SEC → Rd wx (.slice ay ny cy) info → Laid wx → Calls Tryd.prog 50 #[.slice a6 n6 c6, .string (ByteArray.mk #[110, 111, 110, 99, 101]), .slice ay ny cy, .int .i64 16] wx (LabTo wx SEC nonceLab info 16)) :=
    Lib.hid (fun wx h1 h2 h3 => kdfLabel wx _ _ SEC nonceLab info 16 (by omega) (by omega) h1 (by rw [HES.out]; decide) (by decide) h2 (by have := HIL.out; omega) h3)
  go_wp2_with fail
  refine (K1.out w6 HR6.out (HY.out.new N6w) (HL.out.new N6w)).mono ?_
  rintro e w7 ⟨N7, h | ⟨_, a7, c7, rfl, r7⟩⟩
  · exact absurd HFK.out h.1
  have HR7 : Hid (Rd w7 (.slice a7 48 c7) KEY) := by show Rd _ _ _; rw [HK.out]; exact r7
  have N7w := New.trans N6w N7
  have HR6' := Lib.hid (HR6.out.new N7)
  clear r7 HR6 K1 HK N6w N7
  rw [show (48 : Int).toNat = 48 from rfl]
  go_wp2_with fail
  refine (K2.out w7 HR6'.out (HY.out.new N7w) (HL.out.new N7w)).mono ?_
  rintro e w8 ⟨N8, h | ⟨_, a8, c8, rfl, r8⟩⟩
  · exact absurd HFN.out h.1
  have HR8 : Hid (Rd w8 (.slice a8 16 c8) NON) := by show Rd _ _ _; rw [HN.out]; exact r8
  have N8w := New.trans N7w N8
  have HR7' := Lib.hid (HR7.out.new N8)
  clear r8 HR6' HR7 K2 HN N7w N8
  rw [show (16 : Int).toNat = 16 from rfl]
  go_wp2
  go_ret3
  exact ⟨a7, c7, a8, c8, rfl, HR7'.out, HR8.out, N8w⟩

end Go.Proofs.YtkpenodbjmhoeaaDoor
