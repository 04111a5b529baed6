/-
  The reader of package wire: numbers and texts.
-/
import Derived.Test.YtfnnicdlncgfkaaEye
namespace Go.Proofs.Ytfnnicdlncgfkaa
set_option linter.unusedVariables false
set_option linter.unusedSimpArgs false
open Go.RowKit

/-- the number of these bytes, the most significant first -/
def val (l : List UInt8) : Nat := l.foldl (fun n b => n * 256 + b.toNat) 0

theorem val_snoc (l : List UInt8) (b : UInt8) : val (l ++ [b]) = val l * 256 + b.toNat := by simp [val, List.foldl_append]

theorem val_lt (l : List UInt8) : val l < 256 ^ l.length := by
  suffices h : ∀ (l : List UInt8) (a m : Nat), a < 256 ^ m → l.foldl (fun n b => n * 256 + b.toNat) a < 256 ^ (m + l.length) by simpa [val] using h l 0 0 (by decide)
  intro l
  induction l with
  | nil => intro a m h; simpa using h
  | cons b r ih =>
    intro a m h
    simp only [List.foldl_cons, List.length_cons]
    have hb : b.toNat < 256 := b.toNat_lt
    have := ih (a * 256 + b.toNat) (m + 1) (by rw [Nat.pow_succ]; omega)
    rw [show m + (r.length + 1) = m + 1 + r.length by omega]
    exact this

theorem val_lt8 (l : List UInt8) (k : Nat) (hk : l.length ≤ k) (hk8 : k ≤ 7) : val l < 72057594037927936 := by
  have h := val_lt l
  have : 256 ^ l.length ≤ 256 ^ 7 := Nat.pow_le_pow_right (by decide) (by omega)
  omega

theorem or_byte (v : Nat) (b : UInt8) (hv : v < 72057594037927936) : bits .or .u64 ((v : Int) * 256) (IntKind.u64.wrap (b.toNat : Int)) = ((v * 256 + b.toNat : Nat) : Int) := by
  have hb : b.toNat < 256 := b.toNat_lt
  have e1 : IntKind.u64.wrap (b.toNat : Int) = (b.toNat : Int) := by rw [IntKind.wrap_u64]; omega
  have e2 : ((v : Int) * 256) = ((v * 256 : Nat) : Int) := by omega
  rw [e1, e2, bits_or_u64_nat _ _ (by omega) (by omega)]
  congr 1
  rw [Nat.mul_comm]
  exact (Nat.two_pow_add_eq_or_of_lt (i := 8) (by simpa using hb) v).symm

theorem eTake_len (n : Int) (r : List UInt8) (err : Int) (k : Nat) (h : n ≤ k) : (eTake n r err).1.length ≤ k := by
  unfold eTake
  split
  · simp
  · split
    · simp
    · split
      · simp
      · simp; omega

set_option maxHeartbeats 400000 in
theorem eyeNumber (w : World) (p : Nat) (d : Option Nat) (r : List UInt8) (err : Int) (size : Nat) (h : Eye w p d r err) (hs : size ≤ 8) :
    Calls Try.prog 42 #[.pointer (some ⟨p, 0, none⟩), .int .i64 size] w fun e w' => e = .returned (.int .u64 (val (eTake size r err).1)) ∧ EyeTo w p d (eTake size r err).2.1 (eTake size r err).2.2 w' := by
  have hl := eTake_len size r err size (Int.le_refl _)
  generalize ht : eTake size r err = t at hl ⊢
  have HT := Lib.hid ht
  clear ht
  go_enter Try.func42, Try.ntmps42
  go_wp2_with fail
  refine (eyeTake w p d r err size h).mono ?_
  rw [HT.out]
  obtain ⟨t1, r1, err1⟩ := t
  rintro e w1 ⟨a, n, c, rfl, hr, hd, he⟩
  obtain rfl := hr.len
  have HE := Lib.hid he
  have HR := Lib.hid hr
  clear he hd hr
  simp only at hl HR HE ⊢
  go_wp2
  go_loop [5, 12, 7] (fun v i _ => ∃ k : Nat, k ≤ t1.length ∧ i = .int .i64 k ∧ v = .int .u64 (val (t1.take k))) (fun _ i _ => t1.length - (intOf i).toNat)
  case atStart => exact ⟨0, Nat.zero_le _, rfl, rfl⟩
  case round =>
    obtain ⟨k, hk, rfl, rfl⟩ := hrel
    by_cases hlt : k < t1.length
    · have hcell : ∃ ad, a = some ad ∧ w1.cell? (ad.add k) = some (bv t1[k]) := by
        obtain ⟨a', n', c', e, h1, h2, h3, h4, h5⟩ := HR.out
        cases e
        cases a with
        | none => have := (h4 rfl).1; omega
        | some ad => exact ⟨ad, rfl, h5 ad rfl k _ (List.getElem?_eq_getElem hlt)⟩
      obtain ⟨ad, rfl, hc⟩ := hcell
      have hv := val_lt8 (t1.take k) 7 (by rw [List.length_take]; omega) (by omega)
      go_wp2
      go_round
      case rel =>
        refine ⟨k + 1, by omega, by go_num, ?_⟩
        rw [or_byte _ _ hv, List.take_succ_eq_append_getElem hlt, val_snoc]
      case measure => simp [intOf]; omega
    · obtain rfl : k = t1.length := by omega
      rw [List.take_length]
      go_wp2
      go_ret
      exact ⟨rfl, HE.out⟩

theorem val_lt64 (l : List UInt8) (k : Nat) (hk : l.length ≤ k) : val l < 256 ^ k :=
  Nat.lt_of_lt_of_le (val_lt l) (Nat.pow_le_pow_right (by decide) hk)

/-- what is read as a number -/
def eNum (size : Nat) (r : List UInt8) (err : Int) : Nat := val (eTake size r err).1

theorem eNum_lt (size : Nat) (r : List UInt8) (err : Int) : eNum size r err < 256 ^ size :=
  val_lt64 _ _ (eTake_len size r err size (Int.le_refl _))

def NumTo (w : World) (p : Nat) (d : Option Nat) (size : Nat) (r : List UInt8) (err : Int) (k : IntKind) (e : Ending) (w' : World) : Prop :=
  e = .returned (.int k (eNum size r err)) ∧ EyeTo w p d (eTake size r err).2.1 (eTake size r err).2.2 w'

theorem eyeNumber' (w : World) (p : Nat) (d : Option Nat) (r : List UInt8) (err : Int) (size : Nat) (h : Eye w p d r err) (hs : size ≤ 8) :
    Calls Try.prog 42 #[.pointer (some ⟨p, 0, none⟩), .int .i64 size] w (NumTo w p d size r err .u64) := eyeNumber w p d r err size h hs

set_option maxHeartbeats 400000 in
theorem eyeU8 (w : World) (p : Nat) (d : Option Nat) (r : List UInt8) (err : Int) (h : Eye w p d r err) :
    Calls Try.prog 24 #[.pointer (some ⟨p, 0, none⟩)] w (NumTo w p d 1 r err .i64) := by
  have hlt : eNum 1 r err < 256 := eNum_lt 1 r err
  go_enter Try.func24, Try.ntmps24
  go_wp2_with fail
  refine (eyeNumber' w p d r err 1 h (by omega)).mono ?_
  rintro e w1 ⟨rfl, he⟩
  go_wp2
  go_ret
  exact ⟨rfl, he⟩

set_option maxHeartbeats 400000 in
theorem eyeU16 (w : World) (p : Nat) (d : Option Nat) (r : List UInt8) (err : Int) (h : Eye w p d r err) :
    Calls Try.prog 25 #[.pointer (some ⟨p, 0, none⟩)] w (NumTo w p d 2 r err .i64) := by
  have hlt : eNum 2 r err < 65536 := eNum_lt 2 r err
  go_enter Try.func25, Try.ntmps25
  go_wp2_with fail
  refine (eyeNumber' w p d r err 2 h (by omega)).mono ?_
  rintro e w1 ⟨rfl, he⟩
  go_wp2
  go_ret
  exact ⟨rfl, he⟩

set_option maxHeartbeats 400000 in
theorem eyeU32 (w : World) (p : Nat) (d : Option Nat) (r : List UInt8) (err : Int) (h : Eye w p d r err) :
    Calls Try.prog 26 #[.pointer (some ⟨p, 0, none⟩)] w (NumTo w p d 4 r err .i64) := by
  have hlt : eNum 4 r err < 4294967296 := eNum_lt 4 r err
  go_enter Try.func26, Try.ntmps26
  go_wp2_with fail
  refine (eyeNumber' w p d r err 4 h (by omega)).mono ?_
  rintro e w1 ⟨rfl, he⟩
  go_wp2
  go_ret
  exact ⟨rfl, he⟩

set_option maxHeartbeats 400000 in
theorem eyeU64 (w : World) (p : Nat) (d : Option Nat) (r : List UInt8) (err : Int) (h : Eye w p d r err) :
    Calls Try.prog 27 #[.pointer (some ⟨p, 0, none⟩)] w (NumTo w p d 8 r err .u64) := by
  go_enter Try.func27, Try.ntmps27
  go_wp2_with fail
  refine (eyeNumber' w p d r err 8 h (by omega)).mono ?_
  rintro e w1 ⟨rfl, he⟩
  go_wp2
  go_ret
  exact ⟨rfl, he⟩

/-- what a read of bytes leaves: a copy in new memory -/
def RawTo (w : World) (p : Nat) (d : Option Nat) (t r : List UInt8) (err : Int) (e : Ending) (w' : World) : Prop :=
  ∃ a n c, e = .returned (.slice a n c) ∧ Rd w' (.slice a n c) t ∧ (t ≠ [] → w'.ownsRow w.heap.size 5 1 (.slice a n c) t.length (t.map bv)) ∧ EyeTo w p d r err w'

theorem own_base {w : World} {base base' : Nat} {e : TypeId} {size : Nat} {v : Value} {n : Nat} {xs : List Value} (h : w.ownsRow base e size v n xs) (hb : base' ≤ base) : w.ownsRow base' e size v n xs := by
  refine ⟨h.1, ?_⟩
  rcases h.2 with hn | ⟨g, cap, cur, e1, e2, rest⟩
  · exact .inl hn
  · exact .inr ⟨g, cap, cur, e1, Nat.le_trans hb e2, rest⟩

theorem eTake_len_r (n : Int) (r : List UInt8) (err : Int) : (eTake n r err).1.length ≤ r.length := by
  unfold eTake
  split
  · simp
  · split
    · simp
    · split
      · simp
      · simp; omega

theorem EyeTo.new {w w1 w2 : World} {p : Nat} {d : Option Nat} {r : List UInt8} {err : Int} (h : EyeTo w p d r err w1) (hn : New w1 w2) : EyeTo w p d r err w2 :=
  ⟨h.1.new hn, h.2.trans (New.only (F := fun _ => False) hn) (fun _ _ h => h.elim)⟩

theorem New.eye {w w1 w2 : World} {p : Nat} {d : Option Nat} {r : List UInt8} {err : Int} (h : New w w1) (k : EyeTo w1 p d r err w2) (hp : w.heap.size ≤ p) : New w w2 :=
  Below.trans h (k.2.below h.size (fun j hj => by subst hj; exact hp))

set_option maxHeartbeats 400000 in
theorem eyeRaw (w : World) (p : Nat) (d : Option Nat) (r : List UInt8) (err n : Int) (h : Eye w p d r err) (hb : r.length ≤ 140737488355328) :
    Calls Try.prog 28 #[.pointer (some ⟨p, 0, none⟩), .int .i64 n] w (RawTo w p d (eTake n r err).1 (eTake n r err).2.1 (eTake n r err).2.2) := by
  have hl := eTake_len_r n r err
  have HT := Lib.hid (eyeTake w p d r err n h)
  generalize eTake n r err = t at hl HT ⊢
  go_enter Try.func28, Try.ntmps28
  go_wp2_with fail
  refine HT.out.mono ?_
  rintro e w1 ⟨a, m, c, rfl, hr, hd, he⟩
  have HR := Lib.hid hr
  have HE := Lib.hid he
  clear hr hd he
  go_wp2_with fail
  refine (fresh_any w1 _ t.1 HR.out (by omega)).mono ?_
  rintro e w2 ⟨a2, m2, c2, rfl, hr2, hn2, ho2⟩
  have HR2 := Lib.hid hr2
  have HO2 := Lib.hid ho2
  clear hr2 ho2
  go_wp2
  go_ret
  exact ⟨a2, m2, c2, rfl, HR2.out, fun hne => own_base (HO2.out hne) HE.out.2.size, HE.out.new hn2⟩

/-- a text behind its length: what is read, what is left, the error -/
def eText (size : Nat) (most : Int) (r : List UInt8) (err : Int) : List UInt8 × List UInt8 × Int :=
  let t := eTake size r err
  let e2 := if most < (val t.1 : Int) then eFail t.2.2 11 else t.2.2
  let u := eTake (val t.1) t.2.1 e2
  if u.2.2 = 0 then u else ([], r, u.2.2)

theorem eTake_bad (n : Int) (r : List UInt8) (err : Int) (h : (eTake n r err).2.2 ≠ 0) : (eTake n r err).1 = [] ∧ (eTake n r err).2.1 = r := by
  revert h
  unfold eTake
  split
  · simp
  · split
    · simp
    · split
      · simp
      · simp

/-- giving the length back -/
theorem eyeBack {w w3 : World} {p : Nat} {d : Option Nat} {r r3 : List UInt8} {err3 : Int} {v : Value} (hr : Rd w v r) (hd : r ≠ [] → blk v = d) (hne : r ≠ [] → blk v ≠ some p) (h : EyeTo w p d r3 err3 w3) : EyeTo w p d r err3 (w3.setCell ⟨p, 0, none⟩ v) := by
  refine h.trans (eyeSetRest h.1 ?_ hd)
  exact hr.of_block fun k hk hn => h.2.block k (hr.lt hk hn) (fun e => hne hn (by rw [hk, e]))

set_option maxHeartbeats 1000000 in
theorem eyeText (w : World) (p : Nat) (d : Option Nat) (r : List UInt8) (err most : Int) (size : Nat) (h : Eye w p d r err) (hs : size ≤ 7) (hb : r.length ≤ 140737488355328) :
    Calls Try.prog 44 #[.pointer (some ⟨p, 0, none⟩), .int .i64 size, .int .i64 most] w (RawTo w p d (eText size most r err).1 (eText size most r err).2.1 (eText size most r err).2.2) := by
  obtain ⟨a, m, c, hc0, hc1, hfz, _, _, HP, HR, HD, HN, hmc, hc⟩ := h.cells
  have HB := Lib.hid (fun hn => eye_ne HP.out HR.out hn)
  have hlt : eNum size r err < 72057594037927936 := Nat.lt_of_lt_of_le (eNum_lt size r err) (by
    have : 256 ^ size ≤ 256 ^ 7 := Nat.pow_le_pow_right (by decide) hs
    omega)
  have hl1 : (eTake size r err).2.1.length ≤ r.length := by
    unfold eTake
    split
    · simp
    · split
      · simp
      · split
        · simp
        · simp
  have HF : Hid (∀ e2, e2 = (if most < (eNum size r err : Int) then eFail (eTake size r err).2.2 11 else (eTake size r err).2.2) → eText size most r err = if (eTake (eNum size r err) (eTake size r err).2.1 e2).2.2 = 0 then eTake (eNum size r err) (eTake size r err).2.1 e2 else ([], r, (eTake (eNum size r err) (eTake size r err).2.1 e2).2.2)) := by
    rintro _ rfl
    rfl
  have HNum := Lib.hid (eyeNumber' w p d r err size h (by omega))
  unfold NumTo at HNum
  generalize eNum size r err = N at hlt HF HNum
  generalize eTake size r err = t at hl1 HF HNum
  clear hmc hc HN
  go_enter Try.func44, Try.ntmps44
  go_wp2_with fail
  refine HNum.out.mono ?_
  rintro e w1 ⟨rfl, he1⟩
  have HE1 := Lib.hid he1
  clear he1 hc0 hc1
  by_cases hm : most < (N : Int)
  · have HF := Lib.hid (HF.out _ (by rw [if_pos hm]))
    go_wp2_with fail
    refine (eyeFail w1 p d _ _ 11 HE1.out.1).mono ?_
    rintro e w2 ⟨rfl, he2⟩
    have HE2 := Lib.hid (HE1.out.trans he2)
    clear he2
    generalize eFail t.2.2 11 = e2 at HF HE2
    go_wp2_with fail
    refine (eyeRaw w2 p d _ e2 N HE2.out.1 (by omega)).mono ?_
    have hbad := eTake_bad N t.2.1 e2
    generalize eTake N t.2.1 e2 = u at HF hbad ⊢
    rintro e w3 ⟨a3, m3, c3, rfl, hr3, ho3, he3⟩
    have HE3 := Lib.hid (HE2.out.trans he3)
    have HR3 := Lib.hid hr3
    have HO3 := Lib.hid (fun hne => own_base (ho3 hne) HE2.out.2.size)
    clear hr3 ho3 he3
    obtain ⟨a4, m4, c4, hc40, hc41, hfz4, _⟩ := HE3.out.1.cells
    by_cases hu : u.2.2 = 0
    · have hz : (u.2.2 != 0) = false := by simpa using hu
      have HU := Lib.hid hu
      clear hu hbad
      go_wp2
      go_ret
      have hf := HF.out
      rw [if_pos HU.out] at hf
      rw [hf]
      exact ⟨a3, m3, c3, rfl, HR3.out, HO3.out, HE3.out⟩
    · have hz : (u.2.2 != 0) = true := by simpa using hu
      have HU := Lib.hid hu
      have HBAD := Lib.hid (hbad hu)
      clear hu hbad
      go_wp2
      go_ret
      have hf := HF.out
      rw [if_neg HU.out] at hf
      rw [hf]
      have hr3 := HR3.out
      rw [HBAD.out.1] at hr3
      exact ⟨a3, m3, c3, rfl, hr3.of_block (fun k hk hn => absurd rfl hn), fun hn => absurd rfl hn, eyeBack HR.out HD.out HB.out HE3.out⟩
  · have HF := Lib.hid (HF.out _ (by rw [if_neg hm]))
    obtain ⟨w2, hw2⟩ : ∃ w2, w2 = w1 := ⟨_, rfl⟩
    subst hw2
    have HE2 := HE1
    generalize t.2.2 = e2 at HF HE2
    go_wp2_with fail
    refine (eyeRaw w2 p d _ e2 N HE2.out.1 (by omega)).mono ?_
    have hbad := eTake_bad N t.2.1 e2
    generalize eTake N t.2.1 e2 = u at HF hbad ⊢
    rintro e w3 ⟨a3, m3, c3, rfl, hr3, ho3, he3⟩
    have HE3 := Lib.hid (HE2.out.trans he3)
    have HR3 := Lib.hid hr3
    have HO3 := Lib.hid (fun hne => own_base (ho3 hne) HE2.out.2.size)
    clear hr3 ho3 he3
    obtain ⟨a4, m4, c4, hc40, hc41, hfz4, _⟩ := HE3.out.1.cells
    by_cases hu : u.2.2 = 0
    · have hz : (u.2.2 != 0) = false := by simpa using hu
      have HU := Lib.hid hu
      clear hu hbad
      go_wp2
      go_ret
      have hf := HF.out
      rw [if_pos HU.out] at hf
      rw [hf]
      exact ⟨a3, m3, c3, rfl, HR3.out, HO3.out, HE3.out⟩
    · have hz : (u.2.2 != 0) = true := by simpa using hu
      have HU := Lib.hid hu
      have HBAD := Lib.hid (hbad hu)
      clear hu hbad
      go_wp2
      go_ret
      have hf := HF.out
      rw [if_neg HU.out] at hf
      rw [hf]
      have hr3 := HR3.out
      rw [HBAD.out.1] at hr3
      exact ⟨a3, m3, c3, rfl, hr3.of_block (fun k hk hn => absurd rfl hn), fun hn => absurd rfl hn, eyeBack HR.out HD.out HB.out HE3.out⟩

set_option maxHeartbeats 400000 in
theorem eyeShort (w : World) (p : Nat) (d : Option Nat) (r : List UInt8) (err most : Int) (h : Eye w p d r err) (hb : r.length ≤ 140737488355328) :
    Calls Try.prog 29 #[.pointer (some ⟨p, 0, none⟩), .int .i64 most] w (RawTo w p d (eText 1 most r err).1 (eText 1 most r err).2.1 (eText 1 most r err).2.2) := by
  have HT := Lib.hid (eyeText w p d r err most 1 h (by omega) hb)
  generalize eText 1 most r err = t at HT ⊢
  go_enter Try.func29, Try.ntmps29
  go_wp2_with fail
  refine HT.out.mono ?_
  rintro e w1 ⟨a, m, c, rfl, hr⟩
  have HR := Lib.hid hr
  clear hr
  go_wp2
  go_ret
  exact ⟨a, m, c, rfl, HR.out⟩

set_option maxHeartbeats 400000 in
theorem eyeLong (w : World) (p : Nat) (d : Option Nat) (r : List UInt8) (err most : Int) (h : Eye w p d r err) (hb : r.length ≤ 140737488355328) :
    Calls Try.prog 30 #[.pointer (some ⟨p, 0, none⟩), .int .i64 most] w (RawTo w p d (eText 2 most r err).1 (eText 2 most r err).2.1 (eText 2 most r err).2.2) := by
  have HT := Lib.hid (eyeText w p d r err most 2 h (by omega) hb)
  generalize eText 2 most r err = t at HT ⊢
  go_enter Try.func30, Try.ntmps30
  go_wp2_with fail
  refine HT.out.mono ?_
  rintro e w1 ⟨a, m, c, rfl, hr⟩
  have HR := Lib.hid hr
  clear hr
  go_wp2
  go_ret
  exact ⟨a, m, c, rfl, HR.out⟩

end Go.Proofs.Ytfnnicdlncgfkaa
