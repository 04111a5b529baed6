/-
  The reference's functions of layer 3: with, Tag.
-/
import Derived.Test.YtgfljldegodpgaaDoorRefShaZ
import Derived.Test.YtgfljldegodpgaaDoorMacA
import Derived.Test.YtgfljldegodpgaaDoorRefSum
namespace Go.Proofs.YtgfljldegodpgaaDoor
set_option linter.unusedVariables false
set_option linter.unusedSimpArgs false
open Go.RowKit

structure WithIn (w : World) (l : List UInt8) (v : Value) (wr : World) : Prop where
  own : wr.ownsRow w.heap.size 5 1 v l.length (l.map bv)
  new : New w wr

theorem WithIn.next {w : World} {l : List UInt8} {v : Value} {wr : World} {o : Obj} (h : WithIn w l v wr) {q : List UInt8} {v' : Value} {w' : World} (hown : w'.ownsRow w.heap.size 5 1 v' (l.length + q.length) (l.map bv ++ q.map bv)) (hg : (wr.alloc o).grownBy w' v.ownBlock) : WithIn w (l ++ q) v' w' :=
  ⟨by rw [List.length_append, List.map_append]; exact hown, Below.grown (h.new.alloc h.new.size o) hg (by have := h.new.size; simp; omega) (fun j hj => own_from h.own j (by rw [blk_own]; exact hj))⟩

theorem maskB_take (x : UInt8) (l : List UInt8) (j : Nat) (h : j < l.length) : maskB x (l.take (j + 1)) = maskB x (l.take j) ++ [bxor (l.getD j 0) x] := by
  unfold maskB
  rw [List.take_add_one, List.getElem?_eq_getElem h, List.getD_eq_getElem?_getD, List.getElem?_eq_getElem h, List.map_append]
  rfl

theorem pad64_get_lt (k : List UInt8) (j : Nat) (h : j < k.length) : (pad64 k).getD j 0 = k.getD j 0 := by
  unfold pad64
  rw [List.getD_eq_getElem?_getD, List.getElem?_append_left h, List.getD_eq_getElem?_getD]

theorem pad64_get_ge (k : List UInt8) (j : Nat) (h : k.length ≤ j) : (pad64 k).getD j 0 = 0 := by
  unfold pad64
  rw [List.getD_eq_getElem?_getD, List.getElem?_append_right h, List.getElem?_replicate]
  split <;> rfl

attribute [local go_sem] u8_bxor

set_option maxRecDepth 100000 in
set_option maxHeartbeats 400000 in
theorem refWith (w : World) (k : List UInt8) (hk : k.length ≤ 64) (x : UInt8) : Calls Tryd.prog 71 #[.string (bstr k), bv x] w fun e w' => e = .returned (.string (bstr (maskB x (pad64 k)))) ∧ New w w' := by
  have hbz : (bstr k).size = k.length := bstr_size k
  have HP := Lib.hid (pad64_length k hk)
  obtain ⟨i0, hi0, hz0, hz1, hz2⟩ := info_parts infoByte
  go_enter Tryd.func71, Tryd.ntmps71
  go_wp2
  go_loopw [5, 6] (fun v i wr => ∃ j : Nat, j ≤ 64 ∧ i = .int .i64 j ∧ WithIn w (maskB x ((pad64 k).take j)) v wr) (fun _ i _ => 64 - (intOf i).toNat)
  case atStart => exact ⟨0, by omega, rfl, World.ownsRow_nil _ _ _ _, Below.refl _ _⟩
  case round =>
    obtain ⟨j, hj, rfl, hin⟩ := hrel
    by_cases hlt : j < 64
    · have HT := Lib.hid (maskB_take x (pad64 k) j (by rw [HP.out]; exact hlt))
      have hlen : (maskB x ((pad64 k).take j)).length = j := by rw [maskB_length, List.length_take, HP.out]; omega
      have h64 : (j : Int) < 64 := by omega
      have hsz := hin.new.size
      obtain ⟨L, HL⟩ : ∃ L, Hid (maskB x ((pad64 k).take j) = L) := ⟨_, Lib.hid rfl⟩
      rw [HL.out] at HT hin hlen
      have HI := Lib.hid hin
      have hlb : L.length ≤ 64 := by omega
      clear hin hlen
      by_cases hlk : j < k.length
      · have HG := Lib.hid (pad64_get_lt k j hlk)
        have hix := fun wx => run_index_str wx k j (k.getD j 0) (by rw [List.getD_eq_getElem?_getD, List.getElem?_eq_getElem hlk]; rfl)
        have hd : (j : Int) < ((bstr k).size : Int) := by rw [hbz]; omega
        generalize k.getD j 0 = c at *
        rw [HG.out] at HT
        go_wp2_with (at_builtin; refine wpList_append_bytes rfl _ _ 22 rfl w.heap.size 5 i0 _ Tryd.underlying22 hi0 hz0 hz1 hz2 rfl _ _ _ rfl (HI.out.own.alloc _) _ [bxor c x] rfl (rd_one _ rfl) ?_ ?_ ?_)
        · simp; omega
        · simp; omega
        · intro v' w' hown' hgrow hat
          have HO := Lib.hid (HI.out.next (q := [bxor c x]) hown' hgrow)
          clear hown' hat hgrow
          go_wp2
          go_roundw
          case rel => exact ⟨j + 1, by omega, by go_num, by rw [HT.out]; exact HO.out⟩
          case measure => simp [intOf]; omega
      · have HG := Lib.hid (pad64_get_ge k j (by omega))
        have hd : ¬ (j : Int) < ((bstr k).size : Int) := by rw [hbz]; omega
        rw [HG.out] at HT
        go_wp2_with (at_builtin; refine wpList_append_bytes rfl _ _ 22 rfl w.heap.size 5 i0 _ Tryd.underlying22 hi0 hz0 hz1 hz2 rfl _ _ _ rfl (HI.out.own.alloc _) _ [bxor 0 x] rfl (rd_one _ (u8_bxor 0 x)) ?_ ?_ ?_)
        · first | omega | (simp; omega)
        · first | omega | (simp; omega)
        · intro v' w' hown' hgrow hat
          have HO := Lib.hid (HI.out.next (q := [bxor 0 x]) hown' hgrow)
          clear hown' hat hgrow
          go_wp2
          go_roundw
          case rel => exact ⟨j + 1, by omega, by go_num, by rw [HT.out]; exact HO.out⟩
          case measure => simp [intOf]; omega
    · obtain rfl : j = 64 := by omega
      have e : (pad64 k).take 64 = pad64 k := List.take_of_length_le (by rw [HP.out]; exact Nat.le_refl _)
      rw [e] at hin
      have hr := Rd.of_own hin.own
      have ks := run_str (P := Tryd.prog) Tryd.underlying22 Tryd.underlying5 Tryd.underlying9 hr
      have HN := Lib.hid hin.new
      have hr' := hr
      obtain ⟨av, nv, cv, rfl, _⟩ := hr'
      clear hr hin e
      rw [show ((64 : Nat) : Int) = 64 from rfl]
      go_wp2
      go_ret
      exact ⟨rfl, HN.out⟩

set_option maxRecDepth 100000 in
set_option maxHeartbeats 400000 in
theorem refTag (w : World) (k s : List UInt8) (hk : k.length ≤ 1099511627776) (hs : s.length ≤ 1000000000) : Calls Tryd.prog 54 #[.string (bstr k), .string (bstr s)] w fun e w' => e = .returned (.string (bstr (hmac k s))) ∧ New w w' := by
  have hbz : (bstr k).size = k.length := bstr_size k
  by_cases h64 : 64 < k.length
  · have hd : (64 : Int) < ((bstr k).size : Int) := by rw [hbz]; omega
    have HK : Hid (keyOf k = sha256 k) := by show _ = _; unfold keyOf; rw [if_pos h64]
    go_enter Tryd.func54, Tryd.ntmps54
    go_wp2_with fail
    refine (refSum w k hk).mono ?_
    rintro e w1 ⟨rfl, N1⟩
    clear hbz hd
    go_wp2_with fail
    have HM : Hid (hmac k s = sha256 (maskB 92 (pad64 (sha256 k)) ++ sha256 (maskB 54 (pad64 (sha256 k)) ++ s))) := by show _ = _; unfold hmac; rw [HK.out]
    have hp := pad64_length (sha256 k) (by rw [sha256_length]; omega)
    have l1 : (maskB 92 (pad64 (sha256 k))).length = 64 := by rw [maskB_length, hp]
    have l2 : (maskB 54 (pad64 (sha256 k))).length = 64 := by rw [maskB_length, hp]
    generalize hA : maskB 92 (pad64 (sha256 k)) = A at *
    generalize hB : maskB 54 (pad64 (sha256 k)) = B at *
    refine (refWith _ (sha256 k) (by rw [sha256_length]; omega) 92).mono ?_
    rintro e w2 ⟨rfl, N2⟩
    rw [hA]
    go_wp2_with fail
    refine (refWith _ (sha256 k) (by rw [sha256_length]; omega) 54).mono ?_
    rintro e w3 ⟨rfl, N3⟩
    rw [hB]
    have s1 : (bstr B).size ≤ 64 := by rw [bstr_size, l2]; exact Nat.le_refl _
    have s2 : (bstr s).size ≤ 1000000000 := by rw [bstr_size]; exact hs
    have j1 := bstr_join B s
    go_wp2_with fail
    refine (refSum w3 (B ++ s) (by rw [List.length_append, l2]; omega)).mono ?_
    rintro e w4 ⟨rfl, N4⟩
    have s3 : (bstr A).size ≤ 64 := by rw [bstr_size, l1]; exact Nat.le_refl _
    have s4 : (bstr (sha256 (B ++ s))).size ≤ 32 := by rw [bstr_size, sha256_length]; exact Nat.le_refl _
    have j2 := bstr_join A (sha256 (B ++ s))
    go_wp2_with fail
    refine (refSum w4 (A ++ sha256 (B ++ s)) (by rw [List.length_append, l1, sha256_length]; omega)).mono ?_
    rintro e w5 ⟨rfl, N5⟩
    go_wp2
    go_ret
    exact ⟨by rw [HM.out]; rfl, New.trans N1 (New.trans N2 (New.trans N3 (New.trans N4 N5)))⟩
  · have hd : ¬ (64 : Int) < ((bstr k).size : Int) := by rw [hbz]; omega
    have HK : Hid (keyOf k = k) := by show _ = _; unfold keyOf; rw [if_neg h64]
    have h64' : k.length ≤ 64 := by omega
    go_enter Tryd.func54, Tryd.ntmps54
    go_wp2_with fail
    clear hbz hd
    have HM : Hid (hmac k s = sha256 (maskB 92 (pad64 k) ++ sha256 (maskB 54 (pad64 k) ++ s))) := by show _ = _; unfold hmac; rw [HK.out]
    have hp := pad64_length k (by exact h64')
    have l1 : (maskB 92 (pad64 k)).length = 64 := by rw [maskB_length, hp]
    have l2 : (maskB 54 (pad64 k)).length = 64 := by rw [maskB_length, hp]
    generalize hA : maskB 92 (pad64 k) = A at *
    generalize hB : maskB 54 (pad64 k) = B at *
    refine (refWith _ k (by exact h64') 92).mono ?_
    rintro e w2 ⟨rfl, N2⟩
    rw [hA]
    go_wp2_with fail
    refine (refWith _ k (by exact h64') 54).mono ?_
    rintro e w3 ⟨rfl, N3⟩
    rw [hB]
    have s1 : (bstr B).size ≤ 64 := by rw [bstr_size, l2]; exact Nat.le_refl _
    have s2 : (bstr s).size ≤ 1000000000 := by rw [bstr_size]; exact hs
    have j1 := bstr_join B s
    go_wp2_with fail
    refine (refSum w3 (B ++ s) (by rw [List.length_append, l2]; omega)).mono ?_
    rintro e w4 ⟨rfl, N4⟩
    have s3 : (bstr A).size ≤ 64 := by rw [bstr_size, l1]; exact Nat.le_refl _
    have s4 : (bstr (sha256 (B ++ s))).size ≤ 32 := by rw [bstr_size, sha256_length]; exact Nat.le_refl _
    have j2 := bstr_join A (sha256 (B ++ s))
    go_wp2_with fail
    refine (refSum w4 (A ++ sha256 (B ++ s)) (by rw [List.length_append, l1, sha256_length]; omega)).mono ?_
    rintro e w5 ⟨rfl, N5⟩
    go_wp2
    go_ret
    exact ⟨by rw [HM.out]; rfl, New.trans N2 (New.trans N3 (New.trans N4 N5))⟩

end Go.Proofs.YtgfljldegodpgaaDoor
