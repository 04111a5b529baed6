/-
  The reference's Head, Frame, Foot of layer 13; its Zero; Texts, Same of lists of texts.
-/
import Derived.Test.YtjkhklbeimgggaaDoorSegSpec
import Derived.Test.YtjkhklbeimgggaaDoorRefCrc
import Derived.Test.YtjkhklbeimgggaaDoorChain
import Derived.Test.YtjkhklbeimgggaaDoorAppOne
namespace Go.Proofs.YtjkhklbeimgggaaDoor
set_option linter.unusedVariables false
set_option linter.unusedSimpArgs false
open Go.RowKit

theorem be_ffff : be 4 4294967295 = [255, 255, 255, 255] := by decide

set_option maxRecDepth 100000 in
set_option maxHeartbeats 1000000 in
theorem refFoot13 (w : World) (count : Int) (c : Nat) (ch : List UInt8) (hw : IntKind.u64.wrap count = (c : Int)) (hc : c < 18446744073709551616) (hl : ch.length ≤ 1000) :
    Calls Tryd.prog 12 #[.int .i64 count, .string (bstr ch)] w fun e w' => e = .returned (.string (bstr (sFoot c ch))) ∧ New w w' := by
  have H1 := Lib.hid (refNumber w 4294967295 4 (by omega) (by omega))
  rw [be_ffff] at H1
  have H2 := Lib.hid (fun wx => refNumber wx c 8 hc (by omega))
  have HW := Lib.hid (fun wx => refWith11 wx ([255, 255, 255, 255] ++ be 8 c ++ ch) (by simp [be_length]; omega))
  have z1 : (bstr [255, 255, 255, 255]).size = 4 := bstr_size _
  have z2 : (bstr (be 8 c)).size = 8 := by rw [bstr_size, be_length]
  have j1 : bstr [255, 255, 255, 255] ++ bstr (be 8 c) = bstr ([255, 255, 255, 255] ++ be 8 c) := bstr_append _ _
  have z3 : (bstr ([255, 255, 255, 255] ++ be 8 c)).size = 12 := by rw [bstr_size]; simp [be_length]
  have z4 : (bstr ch).size = ch.length := bstr_size _
  have j2 : bstr ([255, 255, 255, 255] ++ be 8 c) ++ bstr ch = bstr ([255, 255, 255, 255] ++ be 8 c ++ ch) := bstr_append _ _
  have HF : Hid (crcWith ([255, 255, 255, 255] ++ be 8 c ++ ch) = sFoot c ch) := Lib.hid rfl
  rw [HF.out] at HW
  generalize ([255, 255, 255, 255] ++ be 8 c ++ ch) = L2 at *
  generalize ([255, 255, 255, 255] ++ be 8 c) = L1 at *
  generalize be 8 c = L0 at *
  generalize [255, 255, 255, 255] = LF at *
  go_enter Tryd.func12, Tryd.ntmps12
  go_wp2_with fail
  refine H1.out.mono ?_
  rintro e w1 ⟨rfl, n1⟩
  go_wp2_with fail
  refine (H2.out w1).mono ?_
  rintro e w2 ⟨rfl, n2⟩
  go_wp2_with fail
  refine (HW.out w2).mono ?_
  rintro e w3 ⟨rfl, n3⟩
  go_wp2
  go_ret
  exact ⟨rfl, New.trans n1 (New.trans n2 n3)⟩

set_option maxRecDepth 100000 in
set_option maxHeartbeats 1000000 in
theorem refFrame13 (w : World) (ch t : List UInt8) (ht : t.length ≤ 70000) (hl : ch.length ≤ 1000) :
    Calls Tryd.prog 11 #[.string (bstr ch), .string (bstr t)] w fun e w' => e = .returned (.tuple #[.string (bstr (sFrame ch t)), .string (bstr (sNext ch t))]) ∧ New w w' := by
  have HC := Lib.hid (refChain12 w ch t (by omega))
  have HN : Hid (sha256 (ch ++ t) = sNext ch t) := Lib.hid rfl
  rw [HN.out] at HC
  have H1 := Lib.hid (fun wx => refNumber wx t.length 4 (by omega) (by omega))
  have HW := Lib.hid (fun wx => refWith11 wx (be 4 t.length ++ t ++ sNext ch t) (by simp [be_length, sNext_length]; omega))
  have z1 : (bstr (be 4 t.length)).size = 4 := by rw [bstr_size, be_length]
  have z2 : (bstr t).size = t.length := bstr_size _
  have hw : IntKind.u64.wrap (t.length : Int) = (t.length : Int) := IntWalk.u64_in _ (by omega)
  have j1 : bstr (be 4 t.length) ++ bstr t = bstr (be 4 t.length ++ t) := bstr_append _ _
  have z3 : (bstr (be 4 t.length ++ t)).size = 4 + t.length := by rw [bstr_size]; simp [be_length]
  have z4 : (bstr (sNext ch t)).size = 32 := by rw [bstr_size, sNext_length]
  have j2 : bstr (be 4 t.length ++ t) ++ bstr (sNext ch t) = bstr (be 4 t.length ++ t ++ sNext ch t) := bstr_append _ _
  have HF : Hid (crcWith (be 4 t.length ++ t ++ sNext ch t) = sFrame ch t) := Lib.hid rfl
  rw [HF.out] at HW
  generalize (be 4 t.length ++ t ++ sNext ch t) = L2 at *
  generalize (be 4 t.length ++ t) = L1 at *
  generalize be 4 t.length = L0 at *
  generalize sNext ch t = LN at *
  generalize sFrame ch t = LFr at *
  go_enter Tryd.func11, Tryd.ntmps11
  go_wp2_with fail
  refine HC.out.mono ?_
  rintro e w1 ⟨rfl, n1⟩
  go_wp2_with fail
  refine (H1.out w1).mono ?_
  rintro e w2 ⟨rfl, n2⟩
  go_wp2_with fail
  refine (HW.out w2).mono ?_
  rintro e w3 ⟨rfl, n3⟩
  go_wp2
  go_ret2
  exact ⟨rfl, New.trans n1 (New.trans n2 n3)⟩

/-- make([]byte, n), as a string -/
theorem zeroStr (n : Nat) (hn : n ≤ 1000) (wx : World) : (convert 22 9 (.slice (some ⟨wx.heap.size, 0, none⟩) n n)).run Tryd.prog (wx.alloc (.cells (List.replicate n (bv 0)).toArray 5)) = .ok (.string (bstr (List.replicate n 0))) (wx.alloc (.cells (List.replicate n (bv 0)).toArray 5)) := by
  have h := rd_of_row (w := wx.alloc (.cells (List.replicate n (bv 0)).toArray 5)) (g := wx.heap.size) (l := List.replicate n 0) (t := 5) (fr := (0, 0)) (by rw [List.map_replicate]; exact heap_alloc_new _ _) (by simp; omega)
  rw [List.length_replicate] at h
  exact run_str (P := Tryd.prog) Tryd.underlying22 Tryd.underlying5 Tryd.underlying9 h

set_option maxRecDepth 100000 in
set_option maxHeartbeats 1000000 in
theorem refHead13 (w : World) (n c : Nat) (ch : List UInt8) (hn : n < 4294967296) (hc : c < 9223372036854775808) (hl : ch.length = 32) :
    Calls Tryd.prog 13 #[.int .i64 n, .int .i64 c, .string (bstr ch)] w fun e w' => e = .returned (.string (bstr (sHead n c ch))) ∧ New w w' := by
  have H1 := Lib.hid (refNumber w n 4 (by omega) (by omega))
  have H2 := Lib.hid (fun wx => refNumber wx c 8 (by omega) (by omega))
  have HW := Lib.hid (fun wx => refWith11 wx (sHeadRaw n c ch) (by rw [sHeadRaw_length]; omega))
  have hw1 : IntKind.u64.wrap (n : Int) = (n : Int) := IntWalk.u64_in _ (by omega)
  have hw2 : IntKind.u64.wrap (c : Int) = (c : Int) := IntWalk.u64_in _ (by omega)
  have z0 : ({ data := #[101, 110, 103, 114] } : ByteArray).size = 4 := rfl
  have z1 : (bstr (be 4 n)).size = 4 := by rw [bstr_size, be_length]
  have j1 : ({ data := #[101, 110, 103, 114] } : ByteArray) ++ bstr (be 4 n) = bstr ([101, 110, 103, 114] ++ be 4 n) := bstr_append [101, 110, 103, 114] _
  have z2 : (bstr ([101, 110, 103, 114] ++ be 4 n)).size = 8 := by rw [bstr_size]; simp [be_length]
  have z3 : (bstr ch).size = 32 := by rw [bstr_size, hl]
  have j2 : bstr ([101, 110, 103, 114] ++ be 4 n) ++ bstr ch = bstr ([101, 110, 103, 114] ++ be 4 n ++ ch) := bstr_append _ _
  have z4 : (bstr ([101, 110, 103, 114] ++ be 4 n ++ ch)).size = 40 := by rw [bstr_size]; simp [be_length, hl]
  have z5 : (bstr (be 8 c)).size = 8 := by rw [bstr_size, be_length]
  have j3 : bstr ([101, 110, 103, 114] ++ be 4 n ++ ch) ++ bstr (be 8 c) = bstr (sHeadRaw n c ch) := bstr_append _ _
  have z6 : (bstr (crcWith (sHeadRaw n c ch))).size = 52 := by rw [bstr_size, crcWith_length, sHeadRaw_length, hl]
  have j4 : bstr (crcWith (sHeadRaw n c ch)) ++ bstr (List.replicate 76 0) = bstr (sHead n c ch) := by
    rw [bstr_append]; unfold sHead; rw [crcWith_length, sHeadRaw_length, hl]
  have z7 : (bstr (List.replicate 76 0)).size = 76 := by rw [bstr_size]; simp
  have hmk : ∀ wx : World, (Instr.makeSlice 22 (.int .i64 76) (.int .i64 76)).run Tryd.prog wx = .ok (.slice (some ⟨wx.heap.size, 0, none⟩) 76 76) (wx.alloc (.cells (List.replicate 76 (bv 0)).toArray 5)) := fun wx => run_make_bytes 76 76 (by omega) (by omega) (by omega) wx
  have hst := zeroStr 76 (by omega)
  generalize sHead n c ch = L5 at *
  generalize crcWith (sHeadRaw n c ch) = L4 at *
  generalize sHeadRaw n c ch = L3 at *
  generalize be 8 c = M1 at *
  generalize ([101, 110, 103, 114] ++ be 4 n ++ ch) = L2 at *
  generalize ([101, 110, 103, 114] ++ be 4 n) = L1 at *
  generalize be 4 n = L0 at *
  generalize bstr (List.replicate 76 0) = BZ at *
  generalize hR : (List.replicate 76 (bv 0)).toArray = RZ at *
  clear hR
  go_enter Tryd.func13, Tryd.ntmps13
  go_wp2_with fail
  refine H1.out.mono ?_
  rintro e w1 ⟨rfl, n1⟩
  go_wp2_with fail
  refine (H2.out w1).mono ?_
  rintro e w2 ⟨rfl, n2⟩
  go_wp2_with fail
  refine (HW.out w2).mono ?_
  rintro e w3 ⟨rfl, n3⟩
  go_wp2
  go_ret
  exact ⟨rfl, New.trans n1 (New.trans n2 (New.trans n3 ((Below.refl _ _).alloc (Nat.le_refl _) _)))⟩

theorem refZero12 (w : World) : Calls Tryd.prog 19 #[] w fun e w' => e = .returned (.string (bstr (List.replicate 32 0))) ∧ New w w' := by
  have hmk : ∀ wx : World, (Instr.makeSlice 22 (.int .i64 32) (.int .i64 32)).run Tryd.prog wx = .ok (.slice (some ⟨wx.heap.size, 0, none⟩) 32 32) (wx.alloc (.cells (List.replicate 32 (bv 0)).toArray 5)) := fun wx => run_make_bytes 32 32 (by omega) (by omega) (by omega) wx
  have hst := zeroStr 32 (by omega)
  generalize bstr (List.replicate 32 0) = BZ at *
  generalize hR : (List.replicate 32 (bv 0)).toArray = RZ at *
  clear hR
  go_enter Tryd.func19, Tryd.ntmps19
  go_wp2
  go_ret
  exact ⟨rfl, (Below.refl _ _).alloc (Nat.le_refl _) _⟩

end Go.Proofs.YtjkhklbeimgggaaDoor
