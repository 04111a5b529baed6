/-
  Records: which are right, their encoding, what is read of bytes; what is written is read back, and what is read is what would be written.
-/
import Derived.Test.YtjekbolfaakmbaaDoorEyeA
namespace Go.Proofs.YtjekbolfaakmbaaDoor
set_option linter.unusedVariables false
set_option linter.unusedSimpArgs false
open Go.RowKit

/-- a record's fields -/
structure RecL where
  kind : Int
  group : List UInt8
  epoch : Int
  time : Int
  bucket : Int
  body : List UInt8
  tree : List UInt8
  script : List UInt8
  wrapped : List UInt8

def RecL.zero : RecL := ⟨0, [], 0, 0, 0, [], [], [], []⟩

def inside (n lo hi : Int) : Bool := decide (lo ≤ n) && decide (n ≤ hi)

theorem inside_iff (n lo hi : Int) : inside n lo hi = true ↔ lo ≤ n ∧ n ≤ hi := by simp [inside]

def rHash (k : Int) : Int := if k = 3 then 0 else 32
def rWrap (k : Int) : Int := if k = 3 then 0 else 48

/-- is it right? by its numbers and its texts' lengths -/
def rOk (k : Int) (ng : Nat) (e t b : Int) (ny nt ns nw : Nat) : Bool :=
  inside k 1 3 && (inside ng 1 16 && (inside e 0 1048576 && (inside t 0 1099511627776 && (inside b 0 1099511627776 && (decide ((ny : Int) ≤ 60000) && (((nt : Int) == rHash k) && (((ns : Int) == rHash k) && ((nw : Int) == rWrap k))))))))

theorem rOk_iff (k : Int) (ng : Nat) (e t b : Int) (ny nt ns nw : Nat) : rOk k ng e t b ny nt ns nw = true ↔
    (1 ≤ k ∧ k ≤ 3) ∧ (1 ≤ (ng : Int) ∧ (ng : Int) ≤ 16) ∧ (0 ≤ e ∧ e ≤ 1048576) ∧ (0 ≤ t ∧ t ≤ 1099511627776) ∧ (0 ≤ b ∧ b ≤ 1099511627776) ∧ (ny : Int) ≤ 60000 ∧ (nt : Int) = rHash k ∧ (ns : Int) = rHash k ∧ (nw : Int) = rWrap k := by
  unfold rOk
  simp only [Bool.and_eq_true, inside_iff, decide_eq_true_eq, beq_iff_eq]

theorem rHash_le (k : Int) : 0 ≤ rHash k ∧ rHash k ≤ 32 ∧ 0 ≤ rWrap k ∧ rWrap k ≤ 48 := by
  by_cases h : k = 3 <;> simp [rHash, rWrap, h]

def RecL.ok (r : RecL) : Bool := rOk r.kind r.group.length r.epoch r.time r.bucket r.body.length r.tree.length r.script.length r.wrapped.length

/-- its encoding -/
def RecL.enc (r : RecL) : List UInt8 :=
  be 1 r.kind.toNat ++ (be 1 r.group.length ++ (r.group ++ (be 8 r.epoch.toNat ++ (be 8 r.time.toNat ++ (be 8 r.bucket.toNat ++ (be 2 r.body.length ++ (r.body ++ (be 1 r.tree.length ++ (r.tree ++ (be 1 r.script.length ++ (r.script ++ (be 1 r.wrapped.length ++ r.wrapped))))))))))))

theorem RecL.enc_length (r : RecL) : r.enc.length = 31 + r.group.length + r.body.length + r.tree.length + r.script.length + r.wrapped.length := by
  simp only [RecL.enc, List.length_append, be_length]; omega

/-! what is read: the states of the reader behind each field -/
def rs1 (l : List UInt8) : List UInt8 × Int := (eTake (1 : Nat) l 0).2
def rs2 (l : List UInt8) : List UInt8 × Int := (eText 1 16 (rs1 l).1 (rs1 l).2).2
def rs3 (l : List UInt8) : List UInt8 × Int := (eTake (8 : Nat) (rs2 l).1 (rs2 l).2).2
def rs4 (l : List UInt8) : List UInt8 × Int := (eTake (8 : Nat) (rs3 l).1 (rs3 l).2).2
def rs5 (l : List UInt8) : List UInt8 × Int := (eTake (8 : Nat) (rs4 l).1 (rs4 l).2).2
def rs6 (l : List UInt8) : List UInt8 × Int := (eText 2 60000 (rs5 l).1 (rs5 l).2).2
def rs7 (l : List UInt8) : List UInt8 × Int := (eText 1 32 (rs6 l).1 (rs6 l).2).2
def rs8 (l : List UInt8) : List UInt8 × Int := (eText 1 32 (rs7 l).1 (rs7 l).2).2
def rs9 (l : List UInt8) : List UInt8 × Int := (eText 1 48 (rs8 l).1 (rs8 l).2).2

theorem rs1_eq (l : List UInt8) : rs1 l = (eTake (1 : Nat) l 0).2 := by rw [rs1]
theorem rs2_eq (l : List UInt8) : rs2 l = (eText 1 16 (rs1 l).1 (rs1 l).2).2 := by rw [rs2]
theorem rs3_eq (l : List UInt8) : rs3 l = (eTake (8 : Nat) (rs2 l).1 (rs2 l).2).2 := by rw [rs3]
theorem rs4_eq (l : List UInt8) : rs4 l = (eTake (8 : Nat) (rs3 l).1 (rs3 l).2).2 := by rw [rs4]
theorem rs5_eq (l : List UInt8) : rs5 l = (eTake (8 : Nat) (rs4 l).1 (rs4 l).2).2 := by rw [rs5]
theorem rs6_eq (l : List UInt8) : rs6 l = (eText 2 60000 (rs5 l).1 (rs5 l).2).2 := by rw [rs6]
theorem rs7_eq (l : List UInt8) : rs7 l = (eText 1 32 (rs6 l).1 (rs6 l).2).2 := by rw [rs7]
theorem rs8_eq (l : List UInt8) : rs8 l = (eText 1 32 (rs7 l).1 (rs7 l).2).2 := by rw [rs8]
theorem rs9_eq (l : List UInt8) : rs9 l = (eText 1 48 (rs8 l).1 (rs8 l).2).2 := by rw [rs9]
theorem rs1_len (l : List UInt8) : (rs1 l).1.length ≤ l.length := by rw [rs1_eq]; exact eTake_rest _ _ _
theorem rs2_len (l : List UInt8) : (rs2 l).1.length ≤ l.length := by rw [rs2_eq]; exact Nat.le_trans (eText_rest _ _ _ _) (rs1_len l)
theorem rs3_len (l : List UInt8) : (rs3 l).1.length ≤ l.length := by rw [rs3_eq]; exact Nat.le_trans (eTake_rest _ _ _) (rs2_len l)
theorem rs4_len (l : List UInt8) : (rs4 l).1.length ≤ l.length := by rw [rs4_eq]; exact Nat.le_trans (eTake_rest _ _ _) (rs3_len l)
theorem rs5_len (l : List UInt8) : (rs5 l).1.length ≤ l.length := by rw [rs5_eq]; exact Nat.le_trans (eTake_rest _ _ _) (rs4_len l)
theorem rs6_len (l : List UInt8) : (rs6 l).1.length ≤ l.length := by rw [rs6_eq]; exact Nat.le_trans (eText_rest _ _ _ _) (rs5_len l)
theorem rs7_len (l : List UInt8) : (rs7 l).1.length ≤ l.length := by rw [rs7_eq]; exact Nat.le_trans (eText_rest _ _ _ _) (rs6_len l)
theorem rs8_len (l : List UInt8) : (rs8 l).1.length ≤ l.length := by rw [rs8_eq]; exact Nat.le_trans (eText_rest _ _ _ _) (rs7_len l)
theorem rs9_len (l : List UInt8) : (rs9 l).1.length ≤ l.length := by rw [rs9_eq]; exact Nat.le_trans (eText_rest _ _ _ _) (rs8_len l)

def rK (l : List UInt8) : Nat := eNum 1 l 0
def rG (l : List UInt8) : List UInt8 := (eText 1 16 (rs1 l).1 (rs1 l).2).1
def rE (l : List UInt8) : Nat := eNum 8 (rs2 l).1 (rs2 l).2
def rT (l : List UInt8) : Nat := eNum 8 (rs3 l).1 (rs3 l).2
def rB (l : List UInt8) : Nat := eNum 8 (rs4 l).1 (rs4 l).2
def rY (l : List UInt8) : List UInt8 := (eText 2 60000 (rs5 l).1 (rs5 l).2).1
def rTr (l : List UInt8) : List UInt8 := (eText 1 32 (rs6 l).1 (rs6 l).2).1
def rSc (l : List UInt8) : List UInt8 := (eText 1 32 (rs7 l).1 (rs7 l).2).1
def rWr (l : List UInt8) : List UInt8 := (eText 1 48 (rs8 l).1 (rs8 l).2).1

theorem rG_eq (l : List UInt8) : rG l = (eText 1 16 (rs1 l).1 (rs1 l).2).1 := by rw [rG]
theorem rY_eq (l : List UInt8) : rY l = (eText 2 60000 (rs5 l).1 (rs5 l).2).1 := by rw [rY]
theorem rTr_eq (l : List UInt8) : rTr l = (eText 1 32 (rs6 l).1 (rs6 l).2).1 := by rw [rTr]
theorem rSc_eq (l : List UInt8) : rSc l = (eText 1 32 (rs7 l).1 (rs7 l).2).1 := by rw [rSc]
theorem rWr_eq (l : List UInt8) : rWr l = (eText 1 48 (rs8 l).1 (rs8 l).2).1 := by rw [rWr]
theorem rK_eq (l : List UInt8) : rK l = eNum 1 l 0 := by rw [rK]
theorem rE_eq (l : List UInt8) : rE l = eNum 8 (rs2 l).1 (rs2 l).2 := by rw [rE]
theorem rT_eq (l : List UInt8) : rT l = eNum 8 (rs3 l).1 (rs3 l).2 := by rw [rT]
theorem rB_eq (l : List UInt8) : rB l = eNum 8 (rs4 l).1 (rs4 l).2 := by rw [rB]

/-- the fields as read -/
def rRaw (l : List UInt8) : RecL := ⟨(rK l : Int), rG l, wrap64 (rE l : Int), wrap64 (rT l : Int), wrap64 (rB l : Int), rY l, rTr l, rSc l, rWr l⟩
def rErr (l : List UInt8) : Int := eEnd (rs9 l).1 (rs9 l).2

def rOut (l : List UInt8) : RecL := if rErr l = 0 then (if (rRaw l).ok = true then rRaw l else RecL.zero) else RecL.zero
def rOutErr (l : List UInt8) : Int := if rErr l = 0 then (if (rRaw l).ok = true then 0 else 12) else rErr l

theorem wrap64_i64 (n : Int) : wrap64 n = IntKind.i64.wrap n := (Go.IntWalk.i64_left n).symm

theorem wrap_small (n : Nat) (h : n < 9223372036854775808) : wrap64 (n : Int) = n := by
  rw [wrap64_i64, IntKind.wrap_i64]; omega

theorem wrap_toNat (n : Nat) (h : n < 18446744073709551616) (h0 : 0 ≤ wrap64 (n : Int)) : (wrap64 (n : Int)).toNat = n := by
  rw [wrap64_i64, IntKind.wrap_i64] at h0 ⊢; omega

/-- what was written is read -/
theorem rec_back (r : RecL) (h : r.ok = true) : rOut r.enc = r ∧ rOutErr r.enc = 0 := by
  obtain ⟨k, g, e, t, b, y, tr, sc, wr⟩ := r
  have ho := h
  simp only [RecL.ok] at h
  rw [rOk_iff] at h
  obtain ⟨hk, hg, he, ht, hb, hy, htr, hsc, hwr⟩ := h
  have hh := rHash_le k
  obtain ⟨k, rfl⟩ := Int.eq_ofNat_of_zero_le (show 0 ≤ k by omega)
  obtain ⟨e, rfl⟩ := Int.eq_ofNat_of_zero_le he.1
  obtain ⟨t, rfl⟩ := Int.eq_ofNat_of_zero_le ht.1
  obtain ⟨b, rfl⟩ := Int.eq_ofNat_of_zero_le hb.1
  have q9 : be 1 wr.length ++ wr = be 1 wr.length ++ (wr ++ []) := by simp
  obtain ⟨l, hl⟩ : ∃ l, l = RecL.enc ⟨k, g, e, t, b, y, tr, sc, wr⟩ := ⟨_, rfl⟩
  have hl' := hl
  simp only [RecL.enc, Int.toNat_natCast] at hl'
  rw [q9] at hl'
  have a1 := eNum_ok 1 k (be 1 g.length ++ (g ++ (be 8 e ++ (be 8 t ++ (be 8 b ++ (be 2 y.length ++ (y ++ (be 1 tr.length ++ (tr ++ (be 1 sc.length ++ (sc ++ (be 1 wr.length ++ (wr ++ []))))))))))))) (by omega)
  rw [← hl'] at a1
  have s1 := (rs1_eq l).trans (congrArg Prod.snd a1.2)
  dsimp only at s1
  have a2 := eText_ok 1 16 g (be 8 e ++ (be 8 t ++ (be 8 b ++ (be 2 y.length ++ (y ++ (be 1 tr.length ++ (tr ++ (be 1 sc.length ++ (sc ++ (be 1 wr.length ++ (wr ++ []))))))))))) (by omega) (by omega)
  have g2 := rG_eq l
  rw [s1] at g2
  dsimp only at g2
  rw [a2] at g2
  have s2 := rs2_eq l
  rw [s1] at s2
  dsimp only at s2
  rw [a2] at s2
  dsimp only at s2
  have a3 := eNum_ok 8 e (be 8 t ++ (be 8 b ++ (be 2 y.length ++ (y ++ (be 1 tr.length ++ (tr ++ (be 1 sc.length ++ (sc ++ (be 1 wr.length ++ (wr ++ [])))))))))) (by omega)
  have g3 := rE_eq l
  rw [s2] at g3
  dsimp only at g3
  rw [a3.1] at g3
  have s3 := rs3_eq l
  rw [s2] at s3
  dsimp only at s3
  rw [a3.2] at s3
  dsimp only at s3
  have a4 := eNum_ok 8 t (be 8 b ++ (be 2 y.length ++ (y ++ (be 1 tr.length ++ (tr ++ (be 1 sc.length ++ (sc ++ (be 1 wr.length ++ (wr ++ []))))))))) (by omega)
  have g4 := rT_eq l
  rw [s3] at g4
  dsimp only at g4
  rw [a4.1] at g4
  have s4 := rs4_eq l
  rw [s3] at s4
  dsimp only at s4
  rw [a4.2] at s4
  dsimp only at s4
  have a5 := eNum_ok 8 b (be 2 y.length ++ (y ++ (be 1 tr.length ++ (tr ++ (be 1 sc.length ++ (sc ++ (be 1 wr.length ++ (wr ++ [])))))))) (by omega)
  have g5 := rB_eq l
  rw [s4] at g5
  dsimp only at g5
  rw [a5.1] at g5
  have s5 := rs5_eq l
  rw [s4] at s5
  dsimp only at s5
  rw [a5.2] at s5
  dsimp only at s5
  have a6 := eText_ok 2 60000 y (be 1 tr.length ++ (tr ++ (be 1 sc.length ++ (sc ++ (be 1 wr.length ++ (wr ++ [])))))) (by omega) hy
  have g6 := rY_eq l
  rw [s5] at g6
  dsimp only at g6
  rw [a6] at g6
  have s6 := rs6_eq l
  rw [s5] at s6
  dsimp only at s6
  rw [a6] at s6
  dsimp only at s6
  have a7 := eText_ok 1 32 tr (be 1 sc.length ++ (sc ++ (be 1 wr.length ++ (wr ++ [])))) (by omega) (by omega)
  have g7 := rTr_eq l
  rw [s6] at g7
  dsimp only at g7
  rw [a7] at g7
  have s7 := rs7_eq l
  rw [s6] at s7
  dsimp only at s7
  rw [a7] at s7
  dsimp only at s7
  have a8 := eText_ok 1 32 sc (be 1 wr.length ++ (wr ++ [])) (by omega) (by omega)
  have g8 := rSc_eq l
  rw [s7] at g8
  dsimp only at g8
  rw [a8] at g8
  have s8 := rs8_eq l
  rw [s7] at s8
  dsimp only at s8
  rw [a8] at s8
  dsimp only at s8
  have a9 := eText_ok 1 48 wr [] (by omega) (by omega)
  have g9 := rWr_eq l
  rw [s8] at g9
  dsimp only at g9
  rw [a9] at g9
  have s9 := rs9_eq l
  rw [s8] at s9
  dsimp only at s9
  rw [a9] at s9
  dsimp only at s9
  have hE : rErr l = 0 := by unfold rErr; rw [s9]; rfl
  have hR : rRaw l = ⟨k, g, e, t, b, y, tr, sc, wr⟩ := by
    unfold rRaw
    rw [g2, g3, g4, g5, g6, g7, g8, g9, wrap_small e (by omega), wrap_small t (by omega), wrap_small b (by omega), show rK l = k from a1.1]
  rw [← hl]
  unfold rOut rOutErr
  rw [if_pos hE, if_pos hE, hR, if_pos ho, if_pos ho]
  exact ⟨rfl, rfl⟩

theorem eTake_zero (size : Nat) (r : List UInt8) (err : Int) (h : (eTake size r err).2.2 = 0) : err = 0 ∧ r = be size (eNum size r err) ++ (eTake size r err).2.1 := by
  by_cases h0 : err = 0
  · subst h0
    by_cases hl : size ≤ r.length
    · refine ⟨rfl, ?_⟩
      unfold eNum
      rw [eTake_ok _ _ hl]
      have := be_val (r.take size)
      rw [List.length_take, Nat.min_eq_left hl] at this
      simp only
      rw [this, List.take_append_drop]
    · rw [eTake_short _ _ (by omega)] at h
      cases h
  · rw [eTake_err _ _ _ h0] at h
    exact absurd h h0

theorem eTake_cut (k : Nat) (r : List UInt8) (err : Int) (h : (eTake k r err).2.2 = 0) : err = 0 ∧ r = (eTake k r err).1 ++ (eTake k r err).2.1 ∧ (eTake k r err).1.length = k := by
  by_cases h0 : err = 0
  · subst h0
    by_cases hl : k ≤ r.length
    · rw [eTake_ok _ _ hl]
      exact ⟨rfl, (List.take_append_drop _ _).symm, by rw [List.length_take]; omega⟩
    · rw [eTake_short _ _ (by omega)] at h
      cases h
  · rw [eTake_err _ _ _ h0] at h
    exact absurd h h0

theorem eText_zero (size : Nat) (most : Int) (r : List UInt8) (err : Int) (h : (eText size most r err).2.2 = 0) :
    err = 0 ∧ r = be size (eText size most r err).1.length ++ ((eText size most r err).1 ++ (eText size most r err).2.1) := by
  by_cases h0 : err = 0
  · subst h0
    refine ⟨rfl, ?_⟩
    by_cases hl : size ≤ r.length
    · by_cases hm : most < (val (r.take size) : Int)
      · revert h
        simp only [eText, eTake_ok _ _ hl]
        rw [if_pos hm, show eFail 0 11 = 11 from rfl, eTake_err _ _ _ (by decide)]
        simp
      · by_cases hk : val (r.take size) ≤ r.length - size
        · have e : eText size most r 0 = ((r.drop size).take (val (r.take size)), r.drop (size + val (r.take size)), 0) := by
            simp only [eText, eTake_ok _ _ hl]
            rw [if_neg hm, eTake_ok _ _ (by rw [List.length_drop]; omega)]
            simp [List.drop_drop]
          rw [e]
          simp only
          have h1 : ((r.drop size).take (val (r.take size))).length = val (r.take size) := by rw [List.length_take, List.length_drop]; omega
          rw [h1, ← List.drop_drop, List.take_append_drop]
          have := be_val (r.take size)
          rw [List.length_take, Nat.min_eq_left hl] at this
          rw [this, List.take_append_drop]
        · revert h
          simp only [eText, eTake_ok _ _ hl]
          rw [if_neg hm, eTake_short _ _ (by rw [List.length_drop]; omega)]
          simp
    · revert h
      simp only [eText, eTake_short _ _ (show r.length < size by omega)]
      have hf : eFail 10 11 = 10 := rfl
      simp only [hf, ite_self]
      rw [eTake_err _ _ _ (by decide)]
      simp
  · rw [eText_err _ _ _ _ h0] at h
    exact absurd h h0

/-- what is read without an error is what would be written -/
theorem rec_canon (l : List UInt8) (h : rOutErr l = 0) : (rOut l).ok = true ∧ (rOut l).enc = l := by
  have hE : rErr l = 0 := by
    apply Decidable.byContradiction
    intro hE
    unfold rOutErr at h
    rw [if_neg hE] at h
    exact hE h
  have hO : (rRaw l).ok = true := by
    unfold rOutErr at h
    rw [if_pos hE] at h
    by_cases ho : (rRaw l).ok = true
    · exact ho
    · rw [if_neg ho] at h; cases h
  have hR : rOut l = rRaw l := by unfold rOut; rw [if_pos hE, if_pos hO]
  rw [hR]
  refine ⟨hO, ?_⟩
  have h9 : (rs9 l).2 = 0 ∧ (rs9 l).1 = [] := by
    unfold rErr eEnd at hE
    split at hE
    · cases hE
    · rename_i hn
      refine ⟨hE, Decidable.byContradiction fun hne => hn ⟨hE, hne⟩⟩
  have t9 := eText_zero 1 48 (rs8 l).1 (rs8 l).2 (by rw [← rs9_eq]; exact h9.1)
  have t8 := eText_zero 1 32 (rs7 l).1 (rs7 l).2 (by rw [← rs8_eq]; exact t9.1)
  have t7 := eText_zero 1 32 (rs6 l).1 (rs6 l).2 (by rw [← rs7_eq]; exact t8.1)
  have t6 := eText_zero 2 60000 (rs5 l).1 (rs5 l).2 (by rw [← rs6_eq]; exact t7.1)
  have t5 := eTake_zero 8 (rs4 l).1 (rs4 l).2 (by rw [← rs5_eq]; exact t6.1)
  have t4 := eTake_zero 8 (rs3 l).1 (rs3 l).2 (by rw [← rs4_eq]; exact t5.1)
  have t3 := eTake_zero 8 (rs2 l).1 (rs2 l).2 (by rw [← rs3_eq]; exact t4.1)
  have t2 := eText_zero 1 16 (rs1 l).1 (rs1 l).2 (by rw [← rs2_eq]; exact t3.1)
  have t1 := eTake_zero 1 l 0 (by rw [← rs1_eq]; exact t2.1)
  have ho := hO
  simp only [RecL.ok] at ho
  rw [rOk_iff] at ho
  obtain ⟨hk, hg, he, ht, hb, -⟩ := ho
  have n3 : (rRaw l).epoch.toNat = rE l := wrap_toNat _ (eNum_lt 8 _ _) he.1
  have n4 : (rRaw l).time.toNat = rT l := wrap_toNat _ (eNum_lt 8 _ _) ht.1
  have n5 : (rRaw l).bucket.toNat = rB l := wrap_toNat _ (eNum_lt 8 _ _) hb.1
  have n1 : (rRaw l).kind.toNat = rK l := Int.toNat_natCast _
  unfold RecL.enc
  rw [n1, n3, n4, n5]
  have u9 : (rs8 l).1 = be 1 (rWr l).length ++ rWr l := by
    have := t9.2
    rw [← rs9_eq, ← rWr_eq, h9.2, List.append_nil] at this
    exact this
  have u8 : (rs7 l).1 = be 1 (rSc l).length ++ (rSc l ++ (be 1 (rWr l).length ++ rWr l)) := by rw [← u9]; have := t8.2; rw [← rs8_eq, ← rSc_eq] at this; exact this
  have u7 : (rs6 l).1 = be 1 (rTr l).length ++ (rTr l ++ (be 1 (rSc l).length ++ (rSc l ++ (be 1 (rWr l).length ++ rWr l)))) := by rw [← u8]; have := t7.2; rw [← rs7_eq, ← rTr_eq] at this; exact this
  have u6 : (rs5 l).1 = be 2 (rY l).length ++ (rY l ++ (be 1 (rTr l).length ++ (rTr l ++ (be 1 (rSc l).length ++ (rSc l ++ (be 1 (rWr l).length ++ rWr l)))))) := by rw [← u7]; have := t6.2; rw [← rs6_eq, ← rY_eq] at this; exact this
  have u5 : (rs4 l).1 = be 8 (rB l) ++ (be 2 (rY l).length ++ (rY l ++ (be 1 (rTr l).length ++ (rTr l ++ (be 1 (rSc l).length ++ (rSc l ++ (be 1 (rWr l).length ++ rWr l))))))) := by rw [← u6]; have := t5.2; rw [← rs5_eq, ← rB_eq] at this; exact this
  have u4 : (rs3 l).1 = be 8 (rT l) ++ (be 8 (rB l) ++ (be 2 (rY l).length ++ (rY l ++ (be 1 (rTr l).length ++ (rTr l ++ (be 1 (rSc l).length ++ (rSc l ++ (be 1 (rWr l).length ++ rWr l)))))))) := by rw [← u5]; have := t4.2; rw [← rs4_eq, ← rT_eq] at this; exact this
  have u3 : (rs2 l).1 = be 8 (rE l) ++ (be 8 (rT l) ++ (be 8 (rB l) ++ (be 2 (rY l).length ++ (rY l ++ (be 1 (rTr l).length ++ (rTr l ++ (be 1 (rSc l).length ++ (rSc l ++ (be 1 (rWr l).length ++ rWr l))))))))) := by rw [← u4]; have := t3.2; rw [← rs3_eq, ← rE_eq] at this; exact this
  have u2 : (rs1 l).1 = be 1 (rG l).length ++ (rG l ++ (be 8 (rE l) ++ (be 8 (rT l) ++ (be 8 (rB l) ++ (be 2 (rY l).length ++ (rY l ++ (be 1 (rTr l).length ++ (rTr l ++ (be 1 (rSc l).length ++ (rSc l ++ (be 1 (rWr l).length ++ rWr l))))))))))) := by rw [← u3]; have := t2.2; rw [← rs2_eq, ← rG_eq] at this; exact this
  have u1 : l = be 1 (rK l) ++ (be 1 (rG l).length ++ (rG l ++ (be 8 (rE l) ++ (be 8 (rT l) ++ (be 8 (rB l) ++ (be 2 (rY l).length ++ (rY l ++ (be 1 (rTr l).length ++ (rTr l ++ (be 1 (rSc l).length ++ (rSc l ++ (be 1 (rWr l).length ++ rWr l)))))))))))) := by rw [← u2]; have := t1.2; rw [← rs1_eq, ← rK_eq] at this; exact this
  unfold rRaw
  dsimp only
  exact u1.symm

end Go.Proofs.YtjekbolfaakmbaaDoor
