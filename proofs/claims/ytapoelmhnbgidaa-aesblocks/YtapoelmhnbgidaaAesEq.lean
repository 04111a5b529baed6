/-
  The reference's round keys and blocks are the program's.
-/
import Derived.Test.YtapoelmhnbgidaaRefBlk5
import Derived.Test.YtapoelmhnbgidaaAesInj
namespace Go.Proofs.Ytapoelmhnbgidaa
set_option linter.unusedVariables false
set_option linter.unusedSimpArgs false

theorem getD_app (F L : List UInt8) (n m : Nat) (h : n = F.length + m) : (F ++ L).getD n 0 = L.getD m 0 := by
  subst h
  rw [List.getD_eq_getElem?_getD, List.getElem?_append_right (by omega), Nat.add_sub_cancel_left, ← List.getD_eq_getElem?_getD]

theorem getD_left (F L : List UInt8) (n : Nat) (h : n < F.length) : (F ++ L).getD n 0 = F.getD n 0 := by
  rw [List.getD_eq_getElem?_getD, List.getElem?_append_left h, ← List.getD_eq_getElem?_getD]

theorem tOf_shift (F L : List UInt8) (r i : Nat) (hF : F.length = 16 * r) (p : UInt8) : tOf (F ++ L) (4 * r + i) p = tOf L i p := by
  unfold tOf
  rw [show (4 * r + i) % 4 = i % 4 by omega, getD_app F L (4 * (4 * r + i) + 12) (4 * i + 12) (by omega), getD_app F L (4 * (4 * r + i) + 13) (4 * i + 13) (by omega), getD_app F L (4 * (4 * r + i) + 14) (4 * i + 14) (by omega), getD_app F L (4 * (4 * r + i) + 15) (4 * i + 15) (by omega)]

theorem wordTo_shift (F L t : List UInt8) (r i : Nat) (hF : F.length = 16 * r) (k : Nat) : wordTo (F ++ L) t (4 * r + i) k = wordTo L t i k := by
  induction k with
  | zero => rfl
  | succ k ih => unfold wordTo; rw [ih, getD_app F L (4 * (4 * r + i) + k) (4 * i + k) (by omega)]

theorem wTo_shift (key F L : List UInt8) (r i : Nat) (hF : F.length = 16 * r) (h : wTo key (4 * r + i) = F ++ L) :
    wTo key (4 * r + i + 1) = F ++ (L ++ wordTo L (tOf L i (dbls 1 ((4 * r + i + 3) / 4))) i 4) := by
  rw [wTo, h, tOf_shift F L r i hF, wordTo_shift F L _ r i hF, List.append_assoc]

theorem list16 (l : List UInt8) (h : l.length = 16) : ∃ a0 a1 a2 a3 a4 a5 a6 a7 a8 a9 a10 a11 a12 a13 a14 a15, l = [a0, a1, a2, a3, a4, a5, a6, a7, a8, a9, a10, a11, a12, a13, a14, a15] := by
  match l, h with
  | [a0, a1, a2, a3, a4, a5, a6, a7, a8, a9, a10, a11, a12, a13, a14, a15], _ => exact ⟨_, _, _, _, _, _, _, _, _, _, _, _, _, _, _, _, rfl⟩

theorem word0 (a0 a1 a2 a3 a4 a5 a6 a7 a8 a9 a10 a11 a12 a13 a14 a15 P : UInt8) : wordTo [a0, a1, a2, a3, a4, a5, a6, a7, a8, a9, a10, a11, a12, a13, a14, a15] (tOf [a0, a1, a2, a3, a4, a5, a6, a7, a8, a9, a10, a11, a12, a13, a14, a15] 0 P) 0 4 = [bxor a0 (bxor (gbox a13) P), bxor a1 (gbox a14), bxor a2 (gbox a15), bxor a3 (gbox a12)] := by kernel_rfl

theorem word1 (a0 a1 a2 a3 a4 a5 a6 a7 a8 a9 a10 a11 a12 a13 a14 a15 b0 b1 b2 b3 P : UInt8) : wordTo [a0, a1, a2, a3, a4, a5, a6, a7, a8, a9, a10, a11, a12, a13, a14, a15, b0, b1, b2, b3] (tOf [a0, a1, a2, a3, a4, a5, a6, a7, a8, a9, a10, a11, a12, a13, a14, a15, b0, b1, b2, b3] 1 P) 1 4 = [bxor a4 b0, bxor a5 b1, bxor a6 b2, bxor a7 b3] := by kernel_rfl

theorem word2 (a0 a1 a2 a3 a4 a5 a6 a7 a8 a9 a10 a11 a12 a13 a14 a15 b0 b1 b2 b3 b4 b5 b6 b7 P : UInt8) : wordTo [a0, a1, a2, a3, a4, a5, a6, a7, a8, a9, a10, a11, a12, a13, a14, a15, b0, b1, b2, b3, b4, b5, b6, b7] (tOf [a0, a1, a2, a3, a4, a5, a6, a7, a8, a9, a10, a11, a12, a13, a14, a15, b0, b1, b2, b3, b4, b5, b6, b7] 2 P) 2 4 = [bxor a8 b4, bxor a9 b5, bxor a10 b6, bxor a11 b7] := by kernel_rfl

theorem word3 (a0 a1 a2 a3 a4 a5 a6 a7 a8 a9 a10 a11 a12 a13 a14 a15 b0 b1 b2 b3 b4 b5 b6 b7 b8 b9 b10 b11 P : UInt8) : wordTo [a0, a1, a2, a3, a4, a5, a6, a7, a8, a9, a10, a11, a12, a13, a14, a15, b0, b1, b2, b3, b4, b5, b6, b7, b8, b9, b10, b11] (tOf [a0, a1, a2, a3, a4, a5, a6, a7, a8, a9, a10, a11, a12, a13, a14, a15, b0, b1, b2, b3, b4, b5, b6, b7, b8, b9, b10, b11] 3 P) 3 4 = [bxor a12 b8, bxor a13 b9, bxor a14 b10, bxor a15 b11] := by kernel_rfl

theorem nextK_at (a0 a1 a2 a3 a4 a5 a6 a7 a8 a9 a10 a11 a12 a13 a14 a15 P : UInt8) : nextK [a0, a1, a2, a3, a4, a5, a6, a7, a8, a9, a10, a11, a12, a13, a14, a15] P = (fun n0 n1 n2 n3 => (fun n4 n5 n6 n7 => (fun n8 n9 n10 n11 => [n0, n1, n2, n3, n4, n5, n6, n7, n8, n9, n10, n11, bxor a12 n8, bxor a13 n9, bxor a14 n10, bxor a15 n11]) (bxor a8 n4) (bxor a9 n5) (bxor a10 n6) (bxor a11 n7)) (bxor a4 n0) (bxor a5 n1) (bxor a6 n2) (bxor a7 n3)) (bxor (bxor a0 P) (gbox a13)) (bxor a1 (gbox a14)) (bxor a2 (gbox a15)) (bxor a3 (gbox a12)) := by kernel_rfl

theorem words4 (K : List UInt8) (h : K.length = 16) (P P1 P2 P3 : UInt8) (L1 L2 L3 : List UInt8) (h1 : L1 = K ++ wordTo K (tOf K 0 P) 0 4) (h2 : L2 = L1 ++ wordTo L1 (tOf L1 1 P1) 1 4) (h3 : L3 = L2 ++ wordTo L2 (tOf L2 2 P2) 2 4) :
    L3 ++ wordTo L3 (tOf L3 3 P3) 3 4 = K ++ nextK K P := by
  obtain ⟨a0, a1, a2, a3, a4, a5, a6, a7, a8, a9, a10, a11, a12, a13, a14, a15, rfl⟩ := list16 K h
  have e : bxor a0 (bxor (gbox a13) P) = bxor (bxor a0 P) (gbox a13) := by
    rw [bxor_assoc, bxor_comm P]
  rw [word0, e] at h1
  rw [nextK_at]
  simp only
  generalize bxor (bxor a0 P) (gbox a13) = n0 at *
  generalize bxor a1 (gbox a14) = n1 at *
  generalize bxor a2 (gbox a15) = n2 at *
  generalize bxor a3 (gbox a12) = n3 at *
  simp only [List.cons_append, List.nil_append] at h1
  subst h1
  rw [word1] at h2
  generalize bxor a4 n0 = n4 at *
  generalize bxor a5 n1 = n5 at *
  generalize bxor a6 n2 = n6 at *
  generalize bxor a7 n3 = n7 at *
  simp only [List.cons_append, List.nil_append] at h2
  subst h2
  rw [word2] at h3
  generalize bxor a8 n4 = n8 at *
  generalize bxor a9 n5 = n9 at *
  generalize bxor a10 n6 = n10 at *
  generalize bxor a11 n7 = n11 at *
  simp only [List.cons_append, List.nil_append] at h3
  subst h3
  rw [word3]
  rfl

theorem wTo_next (key F : List UInt8) (r : Nat) (hk : key.length = 16) (hF : F.length = 16 * r) (h : wTo key (4 * r) = F ++ rk key r) : wTo key (4 * (r + 1)) = F ++ (rk key r ++ rk key (r + 1)) := by
  have h1 := wTo_shift key F _ r 0 hF h
  have h2 := wTo_shift key F _ r 1 hF h1
  have h3 := wTo_shift key F _ r 2 hF h2
  have h4 := wTo_shift key F _ r 3 hF h3
  rw [show 4 * (r + 1) = 4 * r + 3 + 1 by omega, h4]
  have hw := words4 (rk key r) (by rw [rk_length, hk]) (dbls 1 ((4 * r + 0 + 3) / 4)) (dbls 1 ((4 * r + 1 + 3) / 4)) (dbls 1 ((4 * r + 2 + 3) / 4)) (dbls 1 ((4 * r + 3 + 3) / 4)) _ _ _ rfl rfl rfl
  rw [hw, show (4 * r + 0 + 3) / 4 = r by omega]
  rfl

theorem wTo_flat (key : List UInt8) (hk : key.length = 16) (r : Nat) : ∃ F, wTo key (4 * r) = F ++ rk key r ∧ F.length = 16 * r ∧ ∀ s, s < r → ∀ n, n < 16 → F.getD (16 * s + n) 0 = (rk key s).getD n 0 := by
  induction r with
  | zero => exact ⟨[], rfl, rfl, fun s hs => by omega⟩
  | succ r ih =>
    obtain ⟨F, h1, h2, h3⟩ := ih
    refine ⟨F ++ rk key r, by rw [wTo_next key F r hk h2 h1, List.append_assoc], by rw [List.length_append, h2, rk_length, hk]; omega, fun s hs n hn => ?_⟩
    by_cases e : s = r
    · subst e
      exact getD_app F _ _ n (by omega)
    · rw [getD_left F _ _ (by omega)]
      exact h3 s (by omega) n hn

theorem wTo_get (key : List UInt8) (hk : key.length = 16) (s n : Nat) (hs : s ≤ 10) (hn : n < 16) : (wTo key 40).getD (16 * s + n) 0 = (rk key s).getD n 0 := by
  obtain ⟨F, h1, h2, h3⟩ := wTo_flat key hk 10
  rw [show 4 * 10 = 40 from rfl] at h1
  rw [h1]
  by_cases e : s = 10
  · subst e
    exact getD_app F _ _ n (by omega)
  · rw [getD_left F _ _ (by omega)]
    exact h3 s (by omega) n hn

theorem sOf_eq (B : List UInt8) (hB : B.length = 16) : sOf B = rotB (repB B) := by
  refine ext16 _ _ (sOf_length B) (rotB_length _) fun i hi => ?_
  unfold sOf rotB
  rw [fillTo_lt _ zero16 _ _ hi hi, fillTo_lt _ zeros16 _ _ hi hi]
  unfold repB
  rw [fillTo_lt _ _ _ _ (Nat.mod_lt _ (by decide)) (by rw [hB]; exact Nat.mod_lt _ (by decide))]
  unfold sAt
  rw [show 4 * ((i / 4 + i % 4) % 4) + i % 4 = (i + 4 * (i % 4)) % 16 by omega]

theorem mixAt_at (S : List UInt8) (c row : Nat) (hr : row < 4) : mixAt S (4 * c + row) = mix4 (S.getD (4 * c + row) 0) (S.getD (4 * c + (row + 1) % 4) 0) (S.getD (4 * c + (row + 2) % 4) 0) (S.getD (4 * c + (row + 3) % 4) 0) := by
  unfold mixAt
  rw [show (4 * c + row) % 4 = row by omega, show 4 * c + row - row = 4 * c by omega]

theorem xTo_mix (S : List UInt8) (c row : Nat) (hr : row < 4) : xTo S c row 4 = mixAt S (4 * c + row) := by
  rw [mixAt_at S c row hr]
  have h4 : row = 0 ∨ row = 1 ∨ row = 2 ∨ row = 3 := by omega
  rcases h4 with rfl | rfl | rfl | rfl
  · show bxor (bxor (bxor (bxor 0 (gmul (S.getD (4 * c + 0) 0) 2)) (gmul (S.getD (4 * c + 1) 0) 3)) (gmul (S.getD (4 * c + 2) 0) 1)) (gmul (S.getD (4 * c + 3) 0) 1) = mix4 (S.getD (4 * c + 0) 0) (S.getD (4 * c + 1) 0) (S.getD (4 * c + 2) 0) (S.getD (4 * c + 3) 0)
    rw [gmul_1, gmul_1, gmul_2, gmul_3, bxor_0']
    unfold mix4
    simp only [bxor_assoc, bxor_comm, bxor_left_comm]
  · show bxor (bxor (bxor (bxor 0 (gmul (S.getD (4 * c + 0) 0) 1)) (gmul (S.getD (4 * c + 1) 0) 2)) (gmul (S.getD (4 * c + 2) 0) 3)) (gmul (S.getD (4 * c + 3) 0) 1) = mix4 (S.getD (4 * c + 1) 0) (S.getD (4 * c + 2) 0) (S.getD (4 * c + 3) 0) (S.getD (4 * c + 0) 0)
    rw [gmul_1, gmul_1, gmul_2, gmul_3, bxor_0']
    unfold mix4
    simp only [bxor_assoc, bxor_comm, bxor_left_comm]
  · show bxor (bxor (bxor (bxor 0 (gmul (S.getD (4 * c + 0) 0) 1)) (gmul (S.getD (4 * c + 1) 0) 1)) (gmul (S.getD (4 * c + 2) 0) 2)) (gmul (S.getD (4 * c + 3) 0) 3) = mix4 (S.getD (4 * c + 2) 0) (S.getD (4 * c + 3) 0) (S.getD (4 * c + 0) 0) (S.getD (4 * c + 1) 0)
    rw [gmul_1, gmul_1, gmul_2, gmul_3, bxor_0']
    unfold mix4
    simp only [bxor_assoc, bxor_comm, bxor_left_comm]
  · show bxor (bxor (bxor (bxor 0 (gmul (S.getD (4 * c + 0) 0) 3)) (gmul (S.getD (4 * c + 1) 0) 1)) (gmul (S.getD (4 * c + 2) 0) 1)) (gmul (S.getD (4 * c + 3) 0) 2) = mix4 (S.getD (4 * c + 3) 0) (S.getD (4 * c + 0) 0) (S.getD (4 * c + 1) 0) (S.getD (4 * c + 2) 0)
    rw [gmul_1, gmul_1, gmul_2, gmul_3, bxor_0']
    unfold mix4
    simp only [bxor_assoc, bxor_comm, bxor_left_comm]

theorem refEnc_eq (key b : List UInt8) (hk : key.length = 16) (hb : b.length = 16) (r : Nat) (hr : r ≤ 10) : refEnc (wTo key 40) b r = enc key b r := by
  induction r with
  | zero =>
    refine ext16 _ _ (refEnc_length _ _ _) (enc_length key b hb 0) fun i hi => ?_
    unfold refEnc enc addB
    rw [fillTo_lt _ zero16 _ _ hi hi, fillTo_lt _ b _ _ hi (by omega)]
    have h := wTo_get key hk 0 i (by omega) hi
    rw [Nat.mul_zero, Nat.zero_add] at h
    rw [h]
    rfl
  | succ r ih =>
    have ih := ih (by omega)
    have hl := enc_length key b hb r
    refine ext16 _ _ (refEnc_length _ _ _) (enc_length key b hb (r + 1)) fun i hi => ?_
    unfold refEnc enc
    rw [ih, sOf_eq _ hl]
    generalize enc key b r = B at *
    generalize hS : rotB (repB B) = S
    have hSl : S.length = 16 := by rw [← hS]; exact rotB_length _
    unfold addB
    rw [fillTo_lt _ _ _ _ hi (by omega), fillTo_lt _ _ _ _ hi (by split; rw [mixB_length]; exact hi; omega)]
    unfold bAt
    rw [wTo_get key hk (r + 1) i (by omega) hi]
    congr 1
    by_cases h9 : r < 9
    · rw [if_pos h9, if_pos (by omega), xTo_mix S _ _ (Nat.mod_lt _ (by decide)), show 4 * (i / 4) + i % 4 = i by omega]
      unfold mixB
      rw [fillTo_lt _ zeros16 _ _ hi hi]
    · rw [if_neg h9, if_neg (by omega)]

end Go.Proofs.Ytapoelmhnbgidaa
