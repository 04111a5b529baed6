/-
  keys: encoding.
-/
import Derived.Test.YtnekcdpfphgpbaaKeyFns
import Derived.Test.YtnekcdpfphgpbaaPenA
import Derived.Test.YtnekcdpfphgpbaaCrcA
import Derived.Test.YtnekcdpfphgpbaaDskA
import Derived.Test.YtnekcdpfphgpbaaSlZero
import Derived.Lib.SlBytesConst
namespace Go.Proofs.Ytnekcdpfphgpbaa
set_option linter.unusedVariables false
set_option linter.unusedSimpArgs false
set_option maxRecDepth 100000
open Go.RowKit

theorem arr32 : Try.prog.underlying 69 = some (.array (Try.prog.arrayLen 69) (Try.prog.elem 69)) := by kernel_rfl
theorem arr32_len : Try.prog.arrayLen 69 = 32 := by kernel_rfl
theorem arr32_size (w : World) : (sizeOf (Try.prog.elem 69)).run Try.prog w = .ok 1 w := by kernel_rfl
theorem info32 : (Try.prog.info? 69).map (·.size) = some 32 := by kernel_rfl

theorem arr32_all (wx : World) (p o : Nat) : (Instr.sliceAt 69 (.pointer (some ⟨p, o, none⟩)) none none none).run Try.prog wx = .ok (.slice (some ⟨p, o, none⟩) 32 32) wx := by
  rw [run_sliceAt_array_all wx _ _ arr32, arr32_size, arr32_len]
  rfl

/-- a slot's key, in place -/
theorem slotKeyRd {w : World} {g o : Nat} {s : KSlot} (h : w.rangeAt g o (sCells s)) (hs : s.ok) : Rd w (.slice (some ⟨g, o + 2, none⟩) 32 32) (sK s) := by
  refine ⟨_, _, _, rfl, sK_length hs, Nat.le_refl _, by decide, (fun h => by cases h), fun ad had i u hu => ?_⟩
  cases had
  rw [Addr.add_mid, Nat.add_assoc]
  refine h (2 + i) _ ?_
  unfold sCells
  rw [show 2 + i = i + 1 + 1 by omega, List.getElem?_cons_succ, List.getElem?_cons_succ, List.getElem?_map, hu]
  rfl

theorem AtN.range {w : World} {g : Nat} {t : TypeId} {cs : List Value} (h : AtN w g t cs) : w.rangeAt g 0 cs := fun j v hv => by rw [Nat.zero_add]; exact h.cell j hv

/-- the encoding, in a new row -/
def EncTo (w : World) (b : Nat) (k : List UInt8) (e : Ending) (w' : World) : Prop := ∃ g, e = .returned (.slice (some ⟨g, 0, none⟩) 128 128) ∧ w.heap.size ≤ g ∧ w'.heap[g]? = some (.cells ((keyEnc b k).map bv).toArray 5) ∧ New w w'

set_option maxHeartbeats 1000000 in
theorem keyEncoding (w : World) (b : Nat) (k : List UInt8) (hb : b ≤ 1099511627776) (hk : k.length = 32) : Calls Try.prog 30 #[.agg (sCells (some (b, k))).toArray] w (EncTo w b k) := by
  have kc := fun (w : World) (C : Array Value) (n c : Nat) => Lib.run_convert_bytes_const (P := Try.prog) w 37 5 C n c Try.underlying37 Try.underlying5
  have hok : KSlot.ok (some (b, k)) := fun p hp => by cases hp; exact ⟨hb, hk⟩
  obtain ⟨C, HC⟩ : ∃ C, Hid ((sCells (some (b, k))).toArray = C) := ⟨_, Lib.hid rfl⟩
  rw [HC.out]
  have HK := Lib.hid hk
  have hwb : IntKind.u64.wrap (b : Int) = b := IntWalk.u64_in _ (by omega)
  have HOK := Lib.hid hok
  clear hok hk
  go_enter Try.func30, Try.ntmps30
  go_upto_region 1 with fail
  generalize hw0 : World.alloc w _ = w0
  have HA : Hid (AtN w0 w.heap.size 71 (sCells (some (b, k)))) := Lib.hid (by rw [← hw0, ← HC.out]; exact heap_alloc_new _ _)
  have N0 : Hid (New w w0) := Lib.hid (by rw [← hw0]; exact (Below.refl _ _).alloc (Nat.le_refl _) _)
  clear hw0 HC
  obtain ⟨gs, hgs⟩ : ∃ gs, w.heap.size = gs := ⟨_, rfl⟩
  rw [hgs] at HA
  rw [hgs]
  clear hgs
  go_wp2_with fail
  refine (penNew w0).mono ?_
  rintro e w1 ⟨rfl, hp1, N1, -⟩
  have P1 := Lib.hid (Pend.start hp1 N1)
  clear hp1 N1
  have P2 := Lib.hid (P1.out.later ((Below.refl _ _).alloc (Nat.le_refl _) (.cells (([101, 110, 103, 107] : List UInt8).map bv).toArray 5 (4, 5))))
  have R2 := Rd.made w1 [101, 110, 103, 107] 5 (4, 5) (by decide)
  have HR := Lib.hid (pendRaw P2.out _ _ R2 (fun m h => by cases h; decide))
  clear R2
  go_wp2_with fail
  refine HR.out.mono ?_
  rintro e w3 ⟨rfl, p3⟩
  have P3 := Lib.hid p3
  clear p3 P2 HR P1
  simp only [Option.map_some, List.nil_append] at P3
  have x1 := (HA.out.new P3.out.1).cell 1 (v := .int .i64 (b : Int)) rfl
  have HU := Lib.hid (pendU64 P3.out (b : Int) (by omega) (by omega) (fun m h => by cases h; decide))
  go_wp2_with fail
  refine HU.out.mono ?_
  rintro e w4 ⟨rfl, p4⟩
  have P4 := Lib.hid p4
  clear p4 P3 HU x1
  simp only [Option.map_some, Int.toNat_natCast] at P4
  have hb8 := be_length 8 b
  have RK : Rd w4 (.slice (some ⟨gs, 2, none⟩) 32 32) k := by
    have := slotKeyRd (HA.out.new P4.out.1).range HOK.out
    rwa [Nat.zero_add] at this
  have HR := Lib.hid (pendRaw P4.out _ _ RK (fun m h => by cases h; simp [hb8, HK.out]))
  have ha := fun wx => arr32_all wx gs 2
  clear RK
  go_wp2_with fail
  refine HR.out.mono ?_
  rintro e w5 ⟨rfl, p5⟩
  have P5 := Lib.hid p5
  clear p5 P4 HR ha
  simp only [Option.map_some] at P5
  have HB := Lib.hid (pendBytes P5.out (fun m h => by cases h; simp [hb8, HK.out]))
  rw [show [101, 110, 103, 107] ++ be 8 b ++ k = keyRaw b k from rfl] at HB
  have HL : Hid ((keyRaw b k).length = 44) := Lib.hid (keyRaw_length HK.out)
  clear hwb hb8
  go_wp2_with fail
  refine HB.out.mono ?_
  rintro e w9 ⟨⟨a, nb, cb, rfl, r7, N7, -⟩, p7⟩
  have R7 := Lib.hid r7
  have N7 := Lib.hid (New.trans N0.out p7.1)
  clear r7 p7 HB P5 N0 HA
  simp only [Option.isSome_some, Option.getD_some] at R7 ⊢
  have hmk : ∀ wx : World, (Instr.makeSlice 37 (.int .i64 128) (.int .i64 128)).run Try.prog wx = .ok (.slice (some ⟨wx.heap.size, 0, none⟩) 128 128) (wx.alloc (.cells (List.replicate 128 (bv 0)).toArray 5)) := fun wx => by
    have := run_make10 128 (by omega) wx
    rwa [List.map_replicate] at this
  go_upto_region 7 with fail
  clear hmk
  generalize hw8 : World.alloc w9 _ = w10
  have N8 : New w9 w10 := by rw [← hw8]; exact (Below.refl _ _).alloc (Nat.le_refl _) _
  have G8 : Hid (w10.heap[w9.heap.size]? = some (.cells (List.replicate 128 (bv 0)).toArray 5)) := Lib.hid (by rw [← hw8]; exact heap_alloc_new _ _)
  have hs8 : w10.heap.size = w9.heap.size + 1 := by rw [← hw8]; simp
  clear hw8
  have HCW := Lib.hid (crcWith_calls w10 _ _ (R7.out.new N8) (by rw [HL.out]; decide))
  obtain ⟨gb, hgb⟩ : ∃ gb, w9.heap.size = gb := ⟨_, rfl⟩
  have HSZ : Hid (w.heap.size ≤ gb ∧ w10.heap.size = gb + 1) := Lib.hid ⟨by have := N7.out.size; omega, by omega⟩
  rw [hgb] at G8
  have N8w := Lib.hid (New.trans N7.out N8)
  clear hs8 N8
  rw [hgb]
  clear hgb R7 N7
  go_wp2_with fail
  refine HCW.out.mono ?_
  rintro e w11 ⟨a9, n9, c9, rfl, r9, N9, -⟩
  have hlen : (crcWith (keyRaw b k)).length = 48 := by rw [crcWith_length, HL.out]
  have hn9 : n9 = 48 := by rw [← r9.len, hlen]
  subst hn9
  have G9 : w11.heap[gb]? = some (.cells (List.replicate 128 (bv 0)).toArray 5) := (N9.block gb (by have := HSZ.out; omega)).trans G8.out
  obtain ⟨w12, hcp, G10, O10⟩ := run_copy_zero G9 r9 hlen (by omega) (by omega)
  have HG : Hid (w12.heap[gb]? = some (.cells ((keyEnc b k).map bv).toArray 5)) := Lib.hid (by rw [hlen] at G10; exact G10)
  have N10 : Hid (New w w12) := Lib.hid (Below.trans (New.trans N8w.out N9) (O10.below (by have := HSZ.out; have := N9.size; have := N8w.out.size; omega) (fun k hk => by subst hk; exact HSZ.out.1)))
  clear G10 O10 G9 r9 N9 hlen G8 HCW N8w
  go_wp2
  go_ret
  exact ⟨gb, rfl, HSZ.out.1, HG.out, N10.out⟩

end Go.Proofs.Ytnekcdpfphgpbaa
